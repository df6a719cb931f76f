/- The reference's 'Write'. -/
import Derived.Test.YtdmdgnghaceibaaGreatPart06
import Derived.Test.YtdmdgnghaceibaaGreatPart07
import Derived.Laws.Strings2
import Derived.Laws.Strings3
import Derived.Test.YtdmdgnghaceibaaGreatPart03
import Derived.Lib.Strings
import Derived.Lib.BufferWrite
import Derived.Laws.MakeOwn
import Derived.Lib.AppendZerosOnto
namespace Go.Proofs.YtdmdgnghaceibaaGreat
open M Go.ChangeShapes Go.WideShapes Go.ChangeAt Go.RowKit
set_option linter.unusedVariables false

/-- One cell of one node is stored. -/
theorem RefHas.setNode {w : World} {F : Nat → Prop} {r g cap i k : Nat} {st : St} {lv fv v : Value} {x x' : Nd} (h : RefHas w F r st (.slice (some ⟨g, 0, none⟩) st.nodes.length cap) lv fv) (hx : st.nodes[i]? = some x) (hk : k < 6) (hc : (nodeCells x).set k v = nodeCells x') :
    RefHas (w.setCell ⟨g, i * 6 + k, none⟩ v) F r (M.setNode st i x') (.slice (some ⟨g, 0, none⟩) st.nodes.length cap) lv fv := by
  have hz : (st.nodes.map nodeCells)[i]? = some (nodeCells x) := by rw [List.getElem?_map, hx]; rfl
  rcases h.nodes.opened with ⟨hv, _⟩ | ⟨g', cap', hv, _, _, _, ⟨cur, hb⟩, _⟩
  · simp at hv
  simp at hv
  obtain ⟨rfl, _⟩ := hv
  have hkp : KeepT (fun e => e ≠ 184) F w (w.setCell ⟨g, i * 6 + k, none⟩ v) := (KeepT.refl _ _ _).setCell (a := ⟨g, i * 6 + k, none⟩) hb (by simp) _
  refine ⟨(hkp r _ _ h.own h.blk (by decide)).trans h.blk, h.own, ?_, h.laid.keepT hkp (by decide) (by decide), h.fids.keepT hkp (by decide) (by decide) (by decide)⟩
  have := h.nodes.set (k := k) hz hk v
  rw [hc] at this
  have e : (st.nodes.map nodeCells).set i (nodeCells x') = (M.setNode st i x').nodes.map nodeCells := by simp [M.setNode, List.map_set]
  rw [e] at this
  exact this

def Ends5 (w : World) (F : Nat → Prop) (r : Nat) (p : St × Int × Int) (e : Ending) (w' : World) : Prop := e = .returned (.tuple #[.int .i64 p.2.1, .int .i64 p.2.2]) ∧ RefIs w' (ext F w w') r p.1 ∧ Ext F w w'

theorem Ends5.same {w w1 w' : World} {F : Nat → Prop} {r : Nat} {st' : St} {c d : Int} {p : St × Int × Int} {e : Ending} (hp : p = (st', c, d)) (he : e = .returned (.tuple #[.int .i64 c, .int .i64 d])) (h1 : RefIs w1 F r st') (hx : Ext F w w1) (hb : Below w1.heap.size w1 w') : Ends5 w F r p e w' := by
  subst hp
  exact ⟨he, (h1.below hb).mono (fun k hk => .inl hk), hx.trans' (Ext.below hb)⟩

/-- A node's version and bytes are stored. -/
theorem write_close {w : World} {F : Nat → Prop} {r g cap i : Nat} {st : St} {lv fv : Value} {x : Nd} (h : RefHas w F r st (.slice (some ⟨g, 0, none⟩) st.nodes.length cap) lv fv) (hx : st.nodes[i]? = some x) (v : Int) (d : ByteArray) :
    RefIs ((w.setCell ⟨g, i * 6 + 4, none⟩ (.int .i64 v)).setCell ⟨g, i * 6 + 3, none⟩ (.string d)) F r (M.setNode st i { x with version := v, data := d }) := by
  have h1 := h.setNode (k := 4) (v := .int .i64 v) (x' := { x with version := v }) hx (by omega) rfl
  have hx1 : (M.setNode st i { x with version := v }).nodes[i]? = some { x with version := v } := by
    simp only [M.setNode]
    exact List.getElem?_set_self (M.lt_of_getElem? hx)
  have hl : (M.setNode st i { x with version := v }).nodes.length = st.nodes.length := by simp [M.setNode]
  have h2 := RefHas.setNode (st := M.setNode st i { x with version := v }) (k := 3) (v := .string d) (x' := { x with version := v, data := d }) (by rw [hl]; exact h1) hx1 (by omega) rfl
  have e : M.setNode (M.setNode st i { x with version := v }) i { x with version := v, data := d } = M.setNode st i { x with version := v, data := d } := by simp [M.setNode, List.set_set]
  rw [e] at h2
  exact ⟨_, _, _, h2⟩

def strSize : Value → Nat
  | .string s => s.size
  | _ => 0

set_option maxRecDepth 20000 in
set_option maxHeartbeats 2000000 in
theorem write_any {w : World} {F : Nat → Prop} {r : Nat} {st : St} (n a : Int) (t : ByteArray) (h : RefIs w F r st) (ok : StOk st) (hdat : ∀ x ∈ st.nodes, x.data.size ≤ 300) (ht : t.size ≤ 140737488355328) :
    Calls Tryz.prog 114 #[.pointer (some ⟨r, 0, none⟩), .int .i64 n, .int .i64 a, .string t] w fun e w' => Ends5 w F r (mWrite st n a t) e w' := by
  have hoi : ∀ i, find st n = some i → i < (tick st).fids.length := fun i hi => by
    obtain ⟨f, hfi, _⟩ := find_some hi
    exact M.lt_of_getElem? hfi
  have hdef : mWrite st n a t = if mFile st (find st n) = 0 then
    (if a < 0 then (tick st, 0, (1 : Int)) else if 300 < a ∨ 300 < a + t.size then (tick st, 0, 12) else match find st n with
      | none => (tick st, 0, 2)
      | some i => match st.fids[i]? with
        | none => (tick st, 0, 2)
        | some f => match st.nodes[nodeOf f]? with
          | none => (tick st, 0, 2)
          | some x => (M.setNode (tick st) (nodeOf f) (wroteNd x a.toNat t), (t.size : Int), 0))
  else (tick st, 0, mFile st (find st n)) := rfl
  have HD := hide hdef
  clear hdef
  go_enter Tryz.func114, Tryz.ntmps114
  go_wp2_with fail
  refine (call_any n h).mono ?_
  rintro e w1 ⟨rfl, h1, hx1, hsz1⟩
  have H1 := hide h1
  have Hx := hide hx1
  have Hfile := hide (file_any (st := tick st) (find st n) hoi h1 ⟨ok.pos, ok.way, ok.laid, ok.few⟩)
  rw [show mFile (tick st) (find st n) = mFile st (find st n) from rfl] at Hfile
  have Hoi := hide hoi
  clear h hx1 hsz1 h1 hoi
  generalize hfo : find st n = fo at *
  have Hfo := hide hfo
  clear hfo
  go_wp2_with fail
  refine Hfile.out.mono ?_
  rintro e w2 ⟨rfl, hb2⟩
  have HB2 := hide hb2
  clear hb2 Hfile
  by_cases hm : mFile st fo = 0
  · rw [if_pos hm] at HD
    have Hm := hide hm
    rw [hm]
    clear hm
    by_cases ha : a < 0
    · rw [if_pos ha] at HD
      go_wp2
      go_ret2
      exact Ends5.same HD.out rfl H1.out Hx.out HB2.out
    · rw [if_neg ha] at HD
      obtain ⟨an, rfl⟩ := Int.eq_ofNat_of_zero_le (show 0 ≤ a by omega)
      by_cases hbig : 300 < (an : Int) ∨ 300 < (an : Int) + t.size
      · rw [if_pos hbig] at HD
        by_cases hb1 : 300 < (an : Int)
        · clear hbig
          go_wp2
          go_ret2
          exact Ends5.same HD.out rfl H1.out Hx.out HB2.out
        · have hb2 : 300 < (an : Int) + (t.size : Int) := by omega
          clear hbig
          go_wp2
          go_ret2
          exact Ends5.same HD.out rfl H1.out Hx.out HB2.out
      · rw [if_neg hbig] at HD
        have b1 : ¬ 300 < (an : Int) := by omega
        have b2 : ¬ 300 < (an : Int) + (t.size : Int) := by omega
        have b3 : decide (300 < (an : Int)) = false := by simpa using b1
        clear hbig
        cases hfo2 : fo with
        | none => have := Hm.out; rw [hfo2] at this; simp [mFile] at this
        | some i =>
          rw [hfo2] at HD Hm Hoi
          obtain ⟨f, hfi⟩ := getElem?_of_lt (show i < st.fids.length from Hoi.out i rfl)
          obtain ⟨s, hs, hsn, _, hno⟩ := ok.last (List.mem_of_getElem? hfi)
          obtain ⟨x, hx⟩ := getElem?_of_lt hsn
          have hxs := hdat x (List.mem_of_getElem? hx)
          have HD2 := hide (show mWrite st n (an : Int) t = (M.setNode (tick st) s.n (wroteNd x an t), (t.size : Int), 0) by rw [HD.out]; simp [hfi, hno, hx])
          have Hnode := hide (node_any (st := tick st) i f s hfi hs hsn (H1.out.below HB2.out))
          obtain ⟨nv, lv, fv, hR⟩ := H1.out.below HB2.out
          obtain ⟨g, cap, rfl, _, hFg, _, hcell, hfz⟩ := hR.nodesAt ok.pos
          have hc0 : w2.cell? ⟨r, 0, none⟩ = some (.slice (some ⟨g, 0, none⟩) st.nodes.length cap) := hR.c0
          obtain ⟨_, _, _, x3, x4, _⟩ := hcell s.n x hx
          have f3 := hfz (s.n * 6 + 3)
          have f4 := hfz (s.n * 6 + 4)
          have HR := hide hR
          have HX := hide hx
          have HFg := hide hFg
          clear hR hcell HD hfo2 hx hfi hs Hoi hfz hFg
          simp only [idxV]
          go_wp2_with fail
          refine Hnode.out.mono ?_
          rintro e w3 ⟨g', cap', hcc, rfl, hb3⟩
          have hgg : g' = g := by rw [hc0] at hcc; simp at hcc; exact hcc.1.symm
          subst hgg
          have y3 : w3.cell? ⟨g', s.n * 6 + 3, none⟩ = some (.string x.data) := (hb3.cell (World.block_lt_of_cell? w2 _ x3)).trans x3
          have y4 : w3.cell? ⟨g', s.n * 6 + 4, none⟩ = some (.int .i64 x.version) := (hb3.cell (World.block_lt_of_cell? w2 _ x4)).trans x4
          have e3 : w3.frozen? ⟨g', s.n * 6 + 3, none⟩ = false := (hb3.frozen (World.block_lt_of_cell? w2 ⟨g', s.n * 6 + 3, none⟩ x3)).trans f3
          have e4 : w3.frozen? ⟨g', s.n * 6 + 4, none⟩ = false := (hb3.frozen (World.block_lt_of_cell? w2 ⟨g', s.n * 6 + 4, none⟩ x4)).trans f4
          have HR3 : Hid (RefHas w3 F r (tick st) (.slice (some ⟨g', 0, none⟩) (tick st).nodes.length cap) lv fv) := hide (by
            have hk : KeepT (fun _ => True) F w2 w3 := KeepT.below hb3
            have hR := HR.out
            exact ⟨(hk r _ _ hR.own hR.blk trivial).trans hR.blk, hR.own, hR.nodes.keepT hk trivial, hR.laid.keepT hk trivial trivial, hR.fids.keepT hk trivial trivial trivial⟩)
          have HX3 : Hid (Ext F w w3) := hide (Hx.out.trans' ((Ext.below HB2.out).trans' (Ext.below hb3)))
          clear hb3 hcc x3 x4 hc0 f3 f4
          by_cases hz : t.size = 0
          · have hz' : ((t.size : Int) == 0) = true := by simp [hz]
            have Hz := hide hz
            clear hz
            go_wp2
            go_ret2
            have hw : wroteNd x an t = { x with version := wrap64 (x.version + 1) } := by unfold wroteNd; rw [if_pos Hz.out]
            refine ⟨by rw [HD2.out]; simp [Hz.out], ?_, HX3.out.setCell (.inl HFg.out) _⟩
            rw [HD2.out, hw]
            exact ⟨_, _, _, (HR3.out.setNode (k := 4) (v := .int .i64 (wrap64 (x.version + 1))) HX.out (by omega) rfl)⟩ |> fun h => RefIs.mono h (fun k hk => .inl hk)
          · have hz' : ((t.size : Int) == 0) = false := by rw [beq_eq_false_iff_ne]; omega
            have Hz := hide hz
            clear hz
            go_wp2
            go_loop [13] (fun v => ∃ (k : Nat) (D : ByteArray), v = .string D ∧ D = x.data ++ zeros k ∧ k ≤ an - x.data.size) (fun v => an - strSize v)
            case atStart => exact ⟨0, x.data, rfl, (zeros_none _).symm, by omega⟩
            case round =>
              obtain ⟨k, D, rfl, hD, hk⟩ := hrel
              have hDs : D.size = x.data.size + k := by rw [hD, ByteArray.size_append, size_zeros]
              by_cases hlt : D.size < an
              · have hlt' : (D.size : Int) < (an : Int) := by omega
                have HD3 := hide hD
                have HDs := hide hDs
                clear hD hDs
                go_wp2
                go_round
                case rel => exact ⟨k + 1, _, rfl, by rw [HD3.out, zeros_more], by have := HDs.out; omega⟩
                case measure =>
                  show an - (D ++ ⟨#[0]⟩ : ByteArray).size < an - D.size
                  rw [ByteArray.size_append]
                  have h1 : (⟨#[0]⟩ : ByteArray).size = 1 := rfl
                  omega
              · have hlt' : ¬ (D.size : Int) < (an : Int) := by omega
                have HP := hide (show D = padded x.data an by rw [hD]; unfold padded; congr 2; omega)
                have hle : an ≤ D.size := by omega
                have hD3 : D.size ≤ 600 := by omega
                clear hD hDs
                by_cases hr : an + t.size < D.size
                · have hr' : (an : Int) + (t.size : Int) < (D.size : Int) := by omega
                  go_wp2
                  go_ret2
                  have hw : wroteNd x an t = { x with version := wrap64 (x.version + 1), data := D.extract 0 an ++ t ++ D.extract (an + t.size) D.size } := by
                    unfold wroteNd over
                    rw [if_neg Hz.out, ← HP.out, if_pos hr]
                  refine ⟨by rw [HD2.out]; rfl, ?_, (HX3.out.setCell (.inl HFg.out) _).setCell (.inl HFg.out) _⟩
                  rw [HD2.out, hw]
                  exact (write_close HR3.out HX.out _ _).mono (fun k hk => .inl hk)
                · have hr' : ¬ (an : Int) + (t.size : Int) < (D.size : Int) := by omega
                  go_wp2
                  go_ret2
                  have hw : wroteNd x an t = { x with version := wrap64 (x.version + 1), data := D.extract 0 an ++ t ++ ⟨#[]⟩ } := by
                    unfold wroteNd over
                    rw [if_neg Hz.out, ← HP.out, if_neg hr]
                  refine ⟨by rw [HD2.out]; rfl, ?_, (HX3.out.setCell (.inl HFg.out) _).setCell (.inl HFg.out) _⟩
                  rw [HD2.out, hw]
                  exact (write_close HR3.out HX.out _ _).mono (fun k hk => .inl hk)
  · rw [if_neg hm] at HD
    have hne : (mFile st fo != 0) = true := by simpa using hm
    clear hm
    generalize mFile st fo = al at *
    go_wp2
    go_ret2
    exact Ends5.same HD.out rfl H1.out Hx.out HB2.out
end Go.Proofs.YtdmdgnghaceibaaGreat
/- The document's own answer, more: Remove; what of a tree is always so. -/
namespace Go.Proofs.YtdmdgnghaceibaaGreat.M

def goneNd (x : Nd) : Nd := { x with gone := true }

def rowHas (row : List Member) (d : Nat) : Bool := row.any fun m => m.d == d
/-- Is a directory laid onto some directory? -/
def carried (st : St) (d : Nat) : Bool := st.laid.any fun l => rowHas l.row d
def isEntry (d : Nat) (x : Nd) : Bool := x.inn == (d : Int) && !x.gone
def hasEntry (st : St) (d : Nat) : Bool := st.nodes.any (isEntry d)
def mBusy (st : St) (d : Nat) : Bool := hasEntry st d || st.laid.any fun l => l.onto == d || rowHas l.row d

def mRemove (st : St) (n : Int) : St × Int :=
  match find st n with
  | none => (tick st, 2)
  | some i => match st.fids[i]? with
    | none => (tick st, 2)
    | some f => match st.nodes[nodeOf f]? with
      | none => (tick st, 2)
      | some x => if x.gone then (mDrop (tick st) i, 4) else if nodeOf f = 0 then (mDrop (tick st) i, 9) else if x.dir && mBusy st (nodeOf f) then (mDrop (tick st) i, 10) else (setNode (mDrop (tick st) i) (nodeOf f) (goneNd x), 0)

/-- What of a tree is always so. -/
structure Treed (st : St) : Prop where
  root : ∃ x, st.nodes[0]? = some x ∧ x.dir = true ∧ x.gone = false ∧ x.inn = -1
  inn : ∀ (i : Nat) x, st.nodes[i]? = some x → 0 < i → ∃ p : Nat, x.inn = (p : Int) ∧ p < i ∧ isDir st p = true ∧ (x.gone = false → isGone st p = false)
  uniq : UniqL st.nodes
  laid : ∀ l ∈ st.laid, l.onto < st.nodes.length ∧ isGone st l.onto = false ∧ isDir st l.onto = true ∧ l.row ≠ []
  one : st.laid.Pairwise (fun a b => a.onto ≠ b.onto)

/-- A directory that lies in another one, however deep, or is it. -/
inductive Under (st : St) : Nat → Nat → Prop
  | here (i : Nat) : Under st i i
  | down {i j c : Nat} {x : Nd} (hx : st.nodes[c]? = some x) (hi : x.inn = (i : Int)) (hg : x.gone = false) (hd : x.dir = true) (h : Under st c j) : Under st i j

theorem Under.snoc {st : St} {i j c : Nat} {x : Nd} (h : Under st i j) (hx : st.nodes[c]? = some x) (hi : x.inn = (j : Int)) (hg : x.gone = false) (hd : x.dir = true) : Under st i c := by
  induction h with
  | here i => exact .down hx hi hg hd (.here c)
  | down hy hj hgy hdy _ ih => exact .down hy hj hgy hdy (ih hi)

theorem Treed.under {st : St} (T : Treed st) : ∀ (k i : Nat) x, i ≤ k → st.nodes[i]? = some x → x.dir = true → x.gone = false → Under st 0 i
  | 0, i, x, hk, _, _, _ => by
    obtain rfl : i = 0 := by omega
    exact .here 0
  | k + 1, i, x, hk, hx, hd, hg => by
    rcases Nat.eq_zero_or_pos i with rfl | h0
    · exact .here 0
    · obtain ⟨p, hp, hpi, hpd, hpg⟩ := T.inn i x hx h0
      obtain ⟨y, hy⟩ := getElem?_of_lt (show p < st.nodes.length by have := lt_of_getElem? hx; omega)
      have hyd : y.dir = true := by simpa [isDir, hy] using hpd
      have hyg : y.gone = false := by have := hpg hg; simpa [isGone, hy] using this
      exact (Treed.under T k p y (by omega) hy hyd hyg).snoc hx hp hg hd

theorem find_one {laid : List Laid} (h : laid.Pairwise (fun a b => a.onto ≠ b.onto)) {l : Laid} (hl : l ∈ laid) : laid.find? (fun z => z.onto == l.onto) = some l := by
  induction laid with
  | nil => simp at hl
  | cons a r ih =>
    obtain ⟨h1, h2⟩ := List.pairwise_cons.1 h
    rcases List.mem_cons.1 hl with rfl | hl
    · simp [List.find?]
    · have hne : (a.onto == l.onto) = false := by simpa using h1 l hl
      simp only [List.find?, hne]
      exact ih h2 hl

/-- A directory is carried where something of the tree carries it. -/
theorem Treed.carries {st : St} (T : Treed st) (d : Nat) : carried st d = true ↔ ∃ j l, Under st 0 j ∧ st.laid.find? (fun z => z.onto == j) = some l ∧ rowHas l.row d = true := by
  unfold carried
  rw [List.any_eq_true]
  constructor
  · rintro ⟨l, hl, hr⟩
    obtain ⟨h1, h2, h3, _⟩ := T.laid l hl
    obtain ⟨x, hx⟩ := getElem?_of_lt h1
    exact ⟨l.onto, l, T.under _ _ x (Nat.le_refl _) hx (by simpa [isDir, hx] using h3) (by simpa [isGone, hx] using h2), find_one T.one hl, hr⟩
  · rintro ⟨j, l, _, hf, hr⟩
    exact ⟨l, List.mem_of_find?_eq_some hf, hr⟩

theorem busy_split (st : St) (d : Nat) : mBusy st d = (hasEntry st d || ((st.laid.find? (fun l => l.onto == d)).isSome || carried st d)) := by
  unfold mBusy carried
  congr 1
  generalize st.laid = l
  rw [Bool.eq_iff_iff]
  simp only [List.any_eq_true, Bool.or_eq_true, List.find?_isSome]
  constructor
  · rintro ⟨x, hx, h | h⟩
    · exact .inl ⟨x, hx, h⟩
    · exact .inr ⟨x, hx, h⟩
  · rintro (⟨x, hx, h⟩ | ⟨x, hx, h⟩)
    · exact ⟨x, hx, .inl h⟩
    · exact ⟨x, hx, .inr h⟩

theorem hasEntry_iff {st : St} {d : Nat} : hasEntry st d = true ↔ ∃ s, (lies st d s).isSome = true := by
  unfold hasEntry
  rw [List.any_eq_true]
  constructor
  · rintro ⟨x, hx, h⟩
    unfold isEntry at h
    simp only [Bool.and_eq_true, beq_iff_eq, Bool.not_eq_true'] at h
    refine ⟨x.name, ?_⟩
    rw [← mem_names]
    exact ((fold_names d st.nodes [] List.Pairwise.nil).2 x.name).2 (.inr ⟨x, hx, h.1, h.2, rfl⟩)
  · rintro ⟨s, hs⟩
    rw [← mem_names] at hs
    rcases ((fold_names d st.nodes [] List.Pairwise.nil).2 s).1 hs with h | ⟨x, hx, h1, h2, _⟩
    · simp at h
    · exact ⟨x, hx, by simp [isEntry, h1, h2]⟩
theorem names_ne_nil {st : St} {d : Nat} : hasEntry st d = true ↔ 0 < (namesOf st d).length := by
  rw [hasEntry_iff]
  constructor
  · rintro ⟨s, hs⟩
    rw [← mem_names] at hs
    exact List.length_pos_of_mem hs
  · intro h
    obtain ⟨s, hs⟩ := List.exists_mem_of_length_pos h
    exact ⟨s, mem_names.1 hs⟩
end Go.Proofs.YtdmdgnghaceibaaGreat.M
/- The reference's busy, Remove. -/
namespace Go.Proofs.YtdmdgnghaceibaaGreat.P
open M Go.ChangeShapes Go.WideShapes Go.ChangeAt Go.RowKit
set_option linter.unusedVariables false

theorem any_upto {α : Type} (p : α → Bool) (l : List α) (k : Nat) (x : α) (hx : l[k]? = some x) (h : (l.take k).any p = false) : (l.take (k + 1)).any p = p x := by
  have hlt := M.lt_of_getElem? hx
  have e : l[k] = x := by rw [List.getElem?_eq_getElem hlt] at hx; exact Option.some.inj hx
  rw [List.take_succ_eq_append_getElem hlt, e, List.any_append, h]
  simp
theorem any_at {α : Type} (p : α → Bool) (l : List α) (k : Nat) (x : α) (hx : l[k]? = some x) (h : p x = true) : l.any p = true := by
  rw [List.any_eq_true]
  exact ⟨x, List.mem_of_getElem? hx, h⟩

/-- How what is bound lies there. -/
theorem laids_at {w : World} {F : Nat → Prop} {v : Value} {laid : List Laid} (h : LaidsIs w F v laid) (i : Nat) (l : Laid) (hl : laid[i]? = some l) :
    ∃ (g cap : Nat) (rao : Option Addr) (rc : Nat), v = .slice (some ⟨g, 0, none⟩) laid.length cap ∧ laid.length ≤ maxLen ∧ w.cell? ⟨g, i * 2, none⟩ = some (.int .i64 l.onto) ∧ w.cell? ⟨g, i * 2 + 1, none⟩ = some (.slice rao l.row.length rc) ∧ l.row.length ≤ maxLen ∧
      ∀ k m, l.row[k]? = some m → ∃ rg, rao = some ⟨rg, 0, none⟩ ∧ w.cell? ⟨rg, k * 2, none⟩ = some (.int .i64 m.d) := by
  obtain ⟨vs, hE, hO⟩ := h
  have hlen : (List.zipWith laidCells vs laid).length = laid.length := by rw [List.length_zipWith, hE.1, Nat.min_self]
  obtain ⟨u, hu⟩ := M.getElem?_of_lt (show i < vs.length by rw [hE.1]; exact M.lt_of_getElem? hl)
  have hr := hE.2 i u l hu hl
  have hz : (List.zipWith laidCells vs laid)[i]? = some (laidCells u l) := by rw [List.getElem?_zipWith, hu, hl]
  rcases hO.opened with ⟨_, hn⟩ | ⟨g, cap, rfl, hcap, hmax, _, _, hc, _⟩
  · rw [hn] at hz
    simp at hz
  · rw [hlen] at hcap ⊢
    obtain ⟨rao, rc, rfl⟩ := hr.form
    have hrl : l.row.length ≤ maxLen := by
      rcases hr.opened with ⟨_, hn⟩ | ⟨rg, rcap, _, hrcap, hrmax, _⟩
      · have : l.row = [] := List.map_eq_nil_iff.1 hn
        rw [this]
        simp
      · rw [List.length_map] at hrcap
        omega
    refine ⟨g, cap, rao, rc, rfl, by omega, ?_, ?_, hrl, fun k m hm => ?_⟩
    · exact hc i _ 0 _ hz rfl
    · have := hc i _ 1 _ hz rfl
      rw [List.length_map] at this
      exact this
    · rcases hr.opened with ⟨_, hn⟩ | ⟨rg, rcap, e, _, _, _, _, hrc, _⟩
      · rw [List.map_eq_nil_iff.1 hn] at hm
        simp at hm
      · simp only [Value.slice.injEq] at e
        refine ⟨rg, e.1, ?_⟩
        exact hrc k (memberCells m) 0 _ (by rw [List.getElem?_map, hm]; rfl) rfl

set_option maxRecDepth 20000 in
set_option maxHeartbeats 2000000 in
theorem busy_any {w : World} {F : Nat → Prop} {r : Nat} {st : St} (d : Nat) (h : RefIs w F r st) (h0 : 0 < st.nodes.length) (hl : st.nodes.length ≤ 1700000000000) (hu : UniqL st.nodes) (hnl : (namesOf st d).length ≤ 100) :
    Calls Tryz.prog 145 #[.pointer (some ⟨r, 0, none⟩), .int .i64 d] w fun e w' => e = .returned (.bool (mBusy st d)) ∧ Below w.heap.size w w' := by
  have HN := hide (refNames_any d h0 hl hu h)
  have HR := hide h
  have He := hide (names_ne_nil (st := st) (d := d))
  go_enter Tryz.func145, Tryz.ntmps145
  go_wp2_with fail
  refine HN.out.mono ?_
  rintro e w1 ⟨v1, rfl, hT1⟩
  obtain ⟨ao, c, rfl⟩ := hT1.form
  have HB1 := hide hT1.below
  clear hT1
  by_cases hpos : 0 < (namesOf st d).length
  · have hp : (0 : Int) < ((namesOf st d).length : Int) := by omega
    have HB := hide (show mBusy st d = true by unfold mBusy; rw [He.out.2 hpos]; rfl)
    clear hpos h
    go_wp2
    go_ret
    exact ⟨by rw [HB.out]; rfl, HB1.out⟩
  · have hp : ¬ (0 : Int) < ((namesOf st d).length : Int) := by omega
    have HE := hide (show mBusy st d = st.laid.any (fun l => l.onto == d || rowHas l.row d) by
      unfold mBusy
      cases hh : hasEntry st d with
      | false => rfl
      | true => exact absurd (He.out.1 hh) hpos)
    obtain ⟨nv, lv, fv, hR⟩ := h
    have c1 : w1.cell? ⟨r, 1, none⟩ = some lv := (HB1.out.cell (World.block_lt_of_cell? w _ hR.c1)).trans hR.c1
    have hlaid := hR.laid.keepT (T := fun _ => True) (KeepT.below HB1.out) trivial trivial
    obtain ⟨lao, lc, rfl⟩ : ∃ lao lc, lv = .slice lao st.laid.length lc := by
      obtain ⟨vs, hE, hO⟩ := hR.laid
      obtain ⟨a, b, e⟩ := hO.form
      exact ⟨a, b, by rw [e, List.length_zipWith, hE.1, Nat.min_self]⟩
    have hll : st.laid.length ≤ maxLen := by
      cases hq : st.laid with
      | nil => simp
      | cons a t =>
        obtain ⟨_, _, _, _, _, hm, _⟩ := laids_at hlaid 0 a (by rw [hq]; rfl)
        rw [← hq]
        exact hm
    unfold maxLen at hll
    have HL := hide hlaid
    clear hpos hR hlaid HN
    go_wp2
    go_loop [5] (fun i => ∃ k : Nat, k ≤ st.laid.length ∧ i = .int .i64 k ∧ (st.laid.take k).any (fun l => l.onto == d || rowHas l.row d) = false) (fun i => st.laid.length - (intOf i).toNat)
    case atStart => exact ⟨0, Nat.zero_le _, rfl, by simp⟩
    case round =>
      obtain ⟨k, hk, rfl, hany⟩ := hrel
      have Hany := hide hany
      clear hany
      by_cases hlt : k < st.laid.length
      · obtain ⟨l, hl2⟩ := M.getElem?_of_lt hlt
        obtain ⟨g, cap, rao, rc, ev, _, k0, k1, hrl, hrow⟩ := laids_at HL.out k l hl2
        simp only [Value.slice.injEq, true_and] at ev
        obtain ⟨rfl, rfl⟩ := ev
        have Hl := hide hl2
        have Hrow := hide hrow
        have i0 : (0 : Int) ≤ (k : Int) := by omega
        have i1 : (k : Int) < (st.laid.length : Int) := by omega
        unfold maxLen at hrl
        clear hl2 hrow
        by_cases ho : l.onto = d
        · have hq : ((l.onto : Int) == (d : Int)) = true := by simp [ho]
          have HB := hide (show mBusy st d = true by rw [HE.out]; exact any_at _ _ k l Hl.out (by simp [ho]))
          clear ho
          go_wp2
          go_ret
          exact ⟨by rw [HB.out]; rfl, HB1.out⟩
        · have hq : ((l.onto : Int) == (d : Int)) = false := by simp; omega
          have Ho := hide ho
          clear ho
          go_wp2
          go_loop [6] (fun i => ∃ j : Nat, j ≤ l.row.length ∧ i = .int .i64 j ∧ (l.row.take j).any (fun m => m.d == d) = false) (fun i => l.row.length - (intOf i).toNat)
          case atStart => exact ⟨0, Nat.zero_le _, rfl, by simp⟩
          case round =>
            obtain ⟨j, hj, rfl, hanyj⟩ := hrel
            have Hanyj := hide hanyj
            clear hanyj
            by_cases hjlt : j < l.row.length
            · obtain ⟨m, hm⟩ := M.getElem?_of_lt hjlt
              obtain ⟨rg, rfl, cm⟩ := Hrow.out j m hm
              have Hm := hide hm
              have j0 : (0 : Int) ≤ (j : Int) := by omega
              have j1 : (j : Int) < (l.row.length : Int) := by omega
              clear hm
              by_cases hmd : m.d = d
              · have hq2 : ((m.d : Int) == (d : Int)) = true := by simp [hmd]
                have HB := hide (show mBusy st d = true by
                  rw [HE.out]
                  exact any_at _ _ k l Hl.out (by rw [show rowHas l.row d = true from any_at _ _ j m Hm.out (by simp [hmd])]; simp))
                clear hmd
                go_wp2
                go_ret
                exact ⟨by rw [HB.out]; rfl, HB1.out⟩
              · have hq2 : ((m.d : Int) == (d : Int)) = false := by simp; omega
                have Hmd := hide hmd
                clear hmd
                go_wp2
                go_round
                case rel => exact ⟨j + 1, by omega, by go_num, by rw [any_upto _ _ j m Hm.out Hanyj.out]; simpa using Hmd.out⟩
                case measure => simp [intOf]; omega
            · have Hno := hide (show rowHas l.row d = false by
                have e := Hanyj.out
                rw [List.take_of_length_le (by omega)] at e
                exact e)
              have HN := hide (show (st.laid.take (k + 1)).any (fun l => l.onto == d || rowHas l.row d) = false by rw [any_upto _ _ k l Hl.out Hany.out, Hno.out]; simpa using Ho.out)
              go_wp2
              go_round
              case rel => exact ⟨k + 1, by omega, by go_num, by have := HN.out; simpa using this⟩
              case measure => simp [intOf]; omega
      · have HB := hide (show mBusy st d = false by
          rw [HE.out]
          have e := Hany.out
          rw [List.take_of_length_le (by omega)] at e
          exact e)
        go_wp2
        go_ret
        exact ⟨by rw [HB.out]; rfl, HB1.out⟩
end Go.Proofs.YtdmdgnghaceibaaGreat.P
/- The program's place.file, opened, openedFile. -/
namespace Go.Proofs.YtdmdgnghaceibaaGreat.P
open M Go.ChangeShapes Go.WideShapes Go.ChangeAt Go.RowKit
set_option linter.unusedVariables false

def fileE (st : St) (i : Nat) : Int := if isGone st i then 4 else if isDir st i then 5 else 0
def fileV (st : St) (L : Lay) (i : Nat) : Value := if fileE st i = 0 then .pointer (some ⟨L.nb i, 0, none⟩) else .pointer none

set_option maxRecDepth 20000 in
set_option maxHeartbeats 1000000 in
theorem file_any {w : World} {F : Nat → Prop} {t : Nat} {st : St} {L : Lay} {bv : Nat → Value} (p i : Nat) (h : TreeIs w F t st L bv) (hi : i < st.nodes.length) (c0 : w.cell? ⟨p, 0, none⟩ = some (nodeV L i)) :
    Calls Tryz.prog 92 #[.pointer (some ⟨p, 0, none⟩)] w fun e w' => e = .returned (.tuple #[fileV st L i, .int .i64 (fileE st i)]) ∧ w' = w := by
  have hnot : ∀ (x : Bool) (w : World), (Op.unary .not (.bool x)).run Tryz.prog w = .ok (.bool (!x)) w := fun _ _ => rfl
  have hg := h.gone hi
  have hd := h.isDir hi
  have m1 := m_isGoneD
  have m2 := m_isGoneF
  have a1 := asFile
  have a2 := notFile
  clear h
  cases hgv : isGone st i with
  | true =>
    have H := hide (show fileE st i = 4 by simp [fileE, hgv])
    rw [hgv] at hg
    rcases nodeV_cases L i with e | e
    all_goals
      rw [e] at c0
      clear hd hgv e
      go_enter Tryz.func92, Tryz.ntmps92
      go_wp2_with (go_at_call 94; refine (isGone_any _ _ _ hg).mono ?_; rintro e w' ⟨rfl, hw⟩; obtain rfl := hw.symm)
      go_ret2
      exact ⟨by rw [fileV, H.out]; rfl, rfl⟩
  | false =>
    rw [hgv] at hg
    cases hdv : isDir st i with
    | true =>
      have H := hide (show fileE st i = 5 by simp [fileE, hgv, hdv])
      have e : nodeV L i = .iface 87 (.pointer (some ⟨L.nb i, 0, none⟩)) := by rw [nodeV, hd, hdv]; rfl
      rw [e] at c0
      clear hd hgv hdv e
      go_enter Tryz.func92, Tryz.ntmps92
      go_wp2_with (go_at_call 94; refine (isGone_any _ _ _ hg).mono ?_; rintro e w' ⟨rfl, hw⟩; obtain rfl := hw.symm)
      go_ret2
      exact ⟨by rw [fileV, H.out]; rfl, rfl⟩
    | false =>
      have H := hide (show fileE st i = 0 by simp [fileE, hgv, hdv])
      have e : nodeV L i = .iface 122 (.pointer (some ⟨L.nb i, 0, none⟩)) := by rw [nodeV, hd, hdv]; rfl
      rw [e] at c0
      clear hd hgv hdv e
      go_enter Tryz.func92, Tryz.ntmps92
      go_wp2_with (go_at_call 94; refine (isGone_any _ _ _ hg).mono ?_; rintro e w' ⟨rfl, hw⟩; obtain rfl := hw.symm)
      go_ret2
      exact ⟨by rw [fileV, H.out]; rfl, rfl⟩

set_option maxRecDepth 20000 in
theorem opened_none {w : World} {s : Nat} {n : Int} (hno : (fidOk n = false) ∨ ∃ k : Nat, n = k ∧ k < 51 ∧ w.cell? ⟨s, 7 + k * 2, none⟩ = some (.pointer none) ∧ w.cell? ⟨s, 7 + k * 2 + 1, none⟩ = some (.bool false)) :
    Calls Tryz.prog 53 #[.pointer (some ⟨s, 0, none⟩), .int .i64 n] w fun e w' => e = .returned (.tuple #[.pointer none, .int .i64 2]) ∧ w' = w := by
  go_enter Tryz.func53, Tryz.ntmps53
  go_wp2_with (go_at_call 45; refine (standing_no hno).mono ?_; rintro e w' ⟨rfl, hw⟩; obtain rfl := hw.symm)
  go_ret2
  exact ⟨rfl, rfl⟩

set_option maxRecDepth 20000 in
theorem opened_shut {w : World} {s k p : Nat} (hk : k < 51) (c7 : w.cell? ⟨s, 7 + k * 2, none⟩ = some (.pointer (some ⟨p, 0, none⟩))) (c8 : w.cell? ⟨s, 7 + k * 2 + 1, none⟩ = some (.bool false)) :
    Calls Tryz.prog 53 #[.pointer (some ⟨s, 0, none⟩), .int .i64 k] w fun e w' => e = .returned (.tuple #[.pointer none, .int .i64 3]) ∧ w' = w := by
  have hnot : ∀ (x : Bool) (w : World), (Op.unary .not (.bool x)).run Tryz.prog w = .ok (.bool (!x)) w := fun _ _ => rfl
  go_enter Tryz.func53, Tryz.ntmps53
  go_wp2_with (go_at_call 45; refine (standing_some s k p hk _ c7).mono ?_; rintro e w' ⟨rfl, hw⟩; obtain rfl := hw.symm)
  go_ret2
  exact ⟨rfl, rfl⟩

set_option maxRecDepth 20000 in
theorem opened_open {w : World} {s k p : Nat} (hk : k < 51) (c7 : w.cell? ⟨s, 7 + k * 2, none⟩ = some (.pointer (some ⟨p, 0, none⟩))) (c8 : w.cell? ⟨s, 7 + k * 2 + 1, none⟩ = some (.bool true)) :
    Calls Tryz.prog 53 #[.pointer (some ⟨s, 0, none⟩), .int .i64 k] w fun e w' => e = .returned (.tuple #[.pointer (some ⟨p, 0, none⟩), .int .i64 0]) ∧ w' = w := by
  have hnot : ∀ (x : Bool) (w : World), (Op.unary .not (.bool x)).run Tryz.prog w = .ok (.bool (!x)) w := fun _ _ => rfl
  go_enter Tryz.func53, Tryz.ntmps53
  go_wp2_with (go_at_call 45; refine (standing_some s k p hk _ c7).mono ?_; rintro e w' ⟨rfl, hw⟩; obtain rfl := hw.symm)
  go_ret2
  exact ⟨rfl, rfl⟩

/-- Which file an open fid stands at. -/
def openFileV (st : St) (L : Lay) (n : Int) : Value :=
  match find st n with
  | none => .pointer none
  | some i => match st.fids[i]? with
    | none => .pointer none
    | some f => if mFile st (some i) = 0 then .pointer (some ⟨L.nb (nodeOf f), 0, none⟩) else .pointer none

set_option maxRecDepth 20000 in
set_option maxHeartbeats 1000000 in
theorem openedFile_any {w : World} {F : Nat → Prop} {s t : Nat} {st : St} {lk : Int} {L : Lay} {bv : Nat → Value} (n : Int) (hS : SrvHas w F s st lk t L bv) (ok : POk st) :
    Calls Tryz.prog 50 #[.pointer (some ⟨s, 0, none⟩), .int .i64 n] w fun e w' => e = .returned (.tuple #[openFileV st L n, .int .i64 (mFile st (find st n))]) ∧ w' = w := by
  rcases fid_cases hS ok.fids n with ⟨hf, hno⟩ | ⟨k, i, f, p, rfl, hk, hf, hi, hn, ha, c7, c8, hp⟩
  · have H1 := hide (show openFileV st L n = .pointer none by unfold openFileV; rw [hf])
    have H2 := hide (show mFile st (find st n) = 2 by rw [hf]; rfl)
    clear hf
    go_enter Tryz.func50, Tryz.ntmps50
    go_wp2_with (go_at_call 53; refine (opened_none hno).mono ?_; rintro e w' ⟨rfl, hw⟩; obtain rfl := hw.symm)
    go_ret2
    exact ⟨by rw [H1.out, H2.out]; rfl, rfl⟩
  · obtain ⟨sp, hsp, d0, _, _⟩ := place_last hp
    have hno : nodeOf f = sp.n := by simp [nodeOf, hsp]
    have hin := ((ok.way f (List.mem_of_getElem? hi)).2 sp (List.mem_of_getLast? hsp)).1
    have e2 : mFile st (find st k) = if f.op then fileE st sp.n else 3 := by
      rw [hf]
      unfold mFile fileE
      simp only
      rw [hi]
      simp only
      rw [hno]
    have e1 : openFileV st L k = if f.op then fileV st L sp.n else .pointer none := by
      rw [hf] at e2
      unfold openFileV fileV
      rw [hf]
      simp only
      rw [hi]
      simp only
      rw [e2, hno]
      cases f.op <;> simp
    have HT := hide hS.tree
    clear hf hi hn ha hp hS
    cases hop : f.op with
    | false =>
      rw [hop] at c8 e1 e2
      have H1 := hide e1
      have H2 := hide e2
      clear e1 e2
      go_enter Tryz.func50, Tryz.ntmps50
      go_wp2_with (go_at_call 53; refine (opened_shut hk c7 c8).mono ?_; rintro e w' ⟨rfl, hw⟩; obtain rfl := hw.symm)
      go_ret2
      exact ⟨by rw [H1.out, H2.out]; rfl, rfl⟩
    | true =>
      rw [hop] at c8 e1 e2
      have H1 := hide e1
      have H2 := hide e2
      clear e1 e2
      go_enter Tryz.func50, Tryz.ntmps50
      go_wp2_with (first | (go_at_call 53; refine (opened_open hk c7 c8).mono ?_; rintro e w' ⟨rfl, hw⟩; obtain rfl := hw.symm) | (go_at_call 92; refine (file_any p sp.n HT.out hin d0).mono ?_; rintro e w' ⟨rfl, hw⟩; obtain rfl := hw.symm))
      go_ret2
      exact ⟨by rw [H1.out, H2.out]; rfl, rfl⟩
end Go.Proofs.YtdmdgnghaceibaaGreat.P
/- The program's file.read. -/
namespace Go.Proofs.YtdmdgnghaceibaaGreat.P
open M Go.ChangeShapes Go.WideShapes Go.ChangeAt Go.RowKit
set_option linter.unusedVariables false

theorem infoByte : (Tryz.prog.info? 5).map (fun i => (i.zero, i.size, i.bytes)) = some (some (.int .u8 0), 1, 1) := by kernel_rfl

/-- 'make([]byte, m)'. -/
theorem make_bytes (m : Nat) (hm : m ≤ 1000000) : ∃ M : Array Value, M.size = m ∧ ∀ W : World, (Instr.makeSlice 31 (.int .i64 (m : Int)) (.int .i64 (m : Int))).run Tryz.prog W = .ok (.slice (some ⟨W.heap.size, 0, none⟩) m m) (W.alloc (.cells M 5)) := by
  obtain ⟨i0, hi, hz0, hz1, hz2⟩ := info_parts infoByte
  refine ⟨madeCells (Value.int .u8 0).cells (((m : Nat) : Int).toNat * i0.size), by rw [size_madeCells, hz1]; simp, fun W => ?_⟩
  have h := run_make (P := Tryz.prog) W 31 5 i0 (.int .u8 0) Tryz.underlying31 hi hz0 .i64 .i64 (m : Int) (m : Int) (by omega) (by omega) (by rw [hz2]; omega) (by omega)
  simpa using h

theorem sizeByte : (Tryz.prog.info? 5).map (·.size) = some 1 := by
  obtain ⟨i0, hi, _, hz1, _⟩ := info_parts infoByte
  rw [hi]
  simp [hz1]

set_option maxRecDepth 20000 in
set_option maxHeartbeats 1000000 in
/-- There are bytes from there on; m of them are asked and are there. -/
theorem read_mid {w : World} {b g len cap : Nat} (a n m : Nat) (cs : List Value) (hlt : a < len) (hlen : len ≤ cap) (hcap : cap ≤ 9223372036854775807) (hlm : len ≤ 1000000) (hm : (m = n ∧ n ≤ len - a) ∨ (m = len - a ∧ len - a < n)) (b3 : w.cell? ⟨b, 3, none⟩ = some (.slice (some ⟨g, 0, none⟩) len cap))
    (hcs : cs.length = m) (hcell : ∀ j v, cs[j]? = some v → w.cell? ⟨g, a + j, none⟩ = some v) (hone : ∀ v ∈ cs, v.oneCell' = true) :
    Calls Tryz.prog 51 #[.pointer (some ⟨b, 0, none⟩), .int .i64 a, .int .i64 n] w fun e w' => e = .returned (.slice (some ⟨w.heap.size, 0, none⟩) m m) ∧ w'.heap[w.heap.size]? = some (.cells cs.toArray 5 (0, 0)) ∧ w'.heap.size = w.heap.size + 1 ∧ Below w.heap.size w w' := by
  have hml : m ≤ len - a := by omega
  obtain ⟨M, hMs, hmk⟩ := make_bytes m (by omega)
  have hg : g < w.heap.size ∨ m = 0 := by
    cases hc : cs with
    | nil => right; rw [← hcs, hc]; rfl
    | cons v l => left; exact World.block_lt_of_cell? w _ (hcell 0 v (by rw [hc]; rfl))
  have hcp := run_copy_row (P := Tryz.prog) (w.alloc (.cells M 5)).drew 31 31 3 5 w.heap.size 0 m m ⟨g, a, none⟩ (len - a) (cap - a) M 5 cs Tryz.underlying31 sizeByte (heap_alloc_new w _) (by rw [hcs]; show m = min (len - a) m; omega)
    (fun j v hj => by rw [Addr.add_lit]; exact up (hcell j v hj) _) (by omega) hone
  have hY : (M.toList.take 0 ++ cs ++ M.toList.drop (0 + cs.length)).toArray = cs.toArray := by
    rw [List.take_zero, List.nil_append, Nat.zero_add, List.drop_of_length_le (by rw [Array.length_toList]; omega), List.append_nil]
  rw [hY, hcs] at hcp
  have e1 : ¬ len < a := by omega
  have e2 : ¬ cap = a := by omega
  have Hcs := hide hcs
  have HM := hide hMs
  clear hcell hone hY hMs hcs
  rcases hm with ⟨rfl, hn⟩ | ⟨rfl, hn⟩
  · have e3 : ¬ len - a < m := by omega
    have z1 : min (a : Int) (len : Int) = (a : Int) := by omega
    have z2 : min (m : Int) ((len - a : Nat) : Int) = (m : Int) := by omega
    go_enter Tryz.func51, Tryz.ntmps51
    go_wp2
    go_region
    go_wp2
    go_ret
    have hgY : ((w.alloc (.cells M 5)).drew.setRow w.heap.size cs.toArray).heap[w.heap.size]? = some (.cells cs.toArray 5 (0, 0)) := setRow_heap _ _ M _ 5 (0, 0) (heap_alloc_new w _)
    have hb1 : Below w.heap.size w (w.alloc (.cells M 5)).drew := ((Below.refl _ w).alloc (Nat.le_refl _) _).drew
    have hb2 : Below w.heap.size (w.alloc (.cells M 5)).drew ((w.alloc (.cells M 5)).drew.setRow w.heap.size cs.toArray) := ⟨rfl, rfl, rfl, by simp, fun k hk => setRow_other _ _ _ _ (by omega)⟩
    exact ⟨rfl, hgY, by simp, hb1.trans hb2⟩
  · have e3 : len - a < n := by omega
    have z1 : min (a : Int) (len : Int) = (a : Int) := by omega
    have z2 : min (n : Int) ((len - a : Nat) : Int) = ((len - a : Nat) : Int) := by omega
    go_enter Tryz.func51, Tryz.ntmps51
    go_wp2
    go_region
    go_wp2
    go_ret
    have hgY : ((w.alloc (.cells M 5)).drew.setRow w.heap.size cs.toArray).heap[w.heap.size]? = some (.cells cs.toArray 5 (0, 0)) := setRow_heap _ _ M _ 5 (0, 0) (heap_alloc_new w _)
    have hb1 : Below w.heap.size w (w.alloc (.cells M 5)).drew := ((Below.refl _ w).alloc (Nat.le_refl _) _).drew
    have hb2 : Below w.heap.size (w.alloc (.cells M 5)).drew ((w.alloc (.cells M 5)).drew.setRow w.heap.size cs.toArray) := ⟨rfl, rfl, rfl, by simp, fun k hk => setRow_other _ _ _ _ (by omega)⟩
    exact ⟨rfl, hgY, by simp, hb1.trans hb2⟩

theorem made_none {M : Array Value} (h : M.size = 0) : M = #[] := Array.eq_empty_of_size_eq_zero h

set_option maxRecDepth 20000 in
set_option maxHeartbeats 1000000 in
/-- There are no bytes from there on. -/
theorem read_end {w : World} {b g len cap : Nat} (a n : Nat) (hle : len ≤ a) (hlen : len ≤ cap) (hcap : cap ≤ 9223372036854775807) (b3 : w.cell? ⟨b, 3, none⟩ = some (.slice (some ⟨g, 0, none⟩) len cap)) :
    Calls Tryz.prog 51 #[.pointer (some ⟨b, 0, none⟩), .int .i64 a, .int .i64 n] w fun e w' => e = .returned (.slice (some ⟨w.heap.size, 0, none⟩) 0 0) ∧ w'.heap[w.heap.size]? = some (.cells #[] 5 (0, 0)) ∧ w'.heap.size = w.heap.size + 1 ∧ Below w.heap.size w w' := by
  obtain ⟨M, hMs, hmk⟩ := make_bytes 0 (by omega)
  obtain rfl := made_none hMs
  have hcp := fun (x : Option Addr) (sc : Nat) => run_copy_none (P := Tryz.prog) (w.alloc (.cells #[] 5)).drew 31 31 3 5 (some ⟨w.heap.size, 0, none⟩) x 0 0 0 sc Tryz.underlying31 sizeByte rfl
  have hmk0 : ∀ W : World, (Instr.makeSlice 31 (.int .i64 0) (.int .i64 0)).run Tryz.prog W = .ok (.slice (some ⟨W.heap.size, 0, none⟩) 0 0) (W.alloc (.cells #[] 5)) := hmk
  clear hMs hmk
  have z1 : min (a : Int) (len : Int) = (len : Int) := by omega
  have z2 : min (n : Int) 0 = 0 := by omega
  by_cases hlt : len < a
  · skip
    by_cases hn : 0 < n
    · skip
      by_cases hc : cap = len
      · subst hc
        go_enter Tryz.func51, Tryz.ntmps51
        go_wp2
        go_region
        go_wp2
        go_ret
        exact ⟨rfl, heap_alloc_new w _, by simp, ((Below.refl _ w).alloc (Nat.le_refl _) _).drew⟩
      · skip
        go_enter Tryz.func51, Tryz.ntmps51
        go_wp2
        go_region
        go_wp2
        go_ret
        exact ⟨rfl, heap_alloc_new w _, by simp, ((Below.refl _ w).alloc (Nat.le_refl _) _).drew⟩
    · obtain rfl : n = 0 := by omega
      by_cases hc : cap = len
      · subst hc
        go_enter Tryz.func51, Tryz.ntmps51
        go_wp2
        go_region
        go_wp2
        go_ret
        exact ⟨rfl, heap_alloc_new w _, by simp, ((Below.refl _ w).alloc (Nat.le_refl _) _).drew⟩
      · skip
        go_enter Tryz.func51, Tryz.ntmps51
        go_wp2
        go_region
        go_wp2
        go_ret
        exact ⟨rfl, heap_alloc_new w _, by simp, ((Below.refl _ w).alloc (Nat.le_refl _) _).drew⟩
  · obtain rfl : len = a := by omega
    by_cases hn : 0 < n
    · skip
      by_cases hc : cap = len
      · subst hc
        go_enter Tryz.func51, Tryz.ntmps51
        go_wp2
        go_region
        go_wp2
        go_ret
        exact ⟨rfl, heap_alloc_new w _, by simp, ((Below.refl _ w).alloc (Nat.le_refl _) _).drew⟩
      · skip
        go_enter Tryz.func51, Tryz.ntmps51
        go_wp2
        go_region
        go_wp2
        go_ret
        exact ⟨rfl, heap_alloc_new w _, by simp, ((Below.refl _ w).alloc (Nat.le_refl _) _).drew⟩
    · obtain rfl : n = 0 := by omega
      by_cases hc : cap = len
      · subst hc
        go_enter Tryz.func51, Tryz.ntmps51
        go_wp2
        go_region
        go_wp2
        go_ret
        exact ⟨rfl, heap_alloc_new w _, by simp, ((Below.refl _ w).alloc (Nat.le_refl _) _).drew⟩
      · skip
        go_enter Tryz.func51, Tryz.ntmps51
        go_wp2
        go_region
        go_wp2
        go_ret
        exact ⟨rfl, heap_alloc_new w _, by simp, ((Below.refl _ w).alloc (Nat.le_refl _) _).drew⟩

set_option maxRecDepth 20000 in
set_option maxHeartbeats 1000000 in
theorem read_nil {w : World} {b : Nat} (a n : Nat) (b3 : w.cell? ⟨b, 3, none⟩ = some (.slice none 0 0)) :
    Calls Tryz.prog 51 #[.pointer (some ⟨b, 0, none⟩), .int .i64 a, .int .i64 n] w fun e w' => e = .returned (.slice (some ⟨w.heap.size, 0, none⟩) 0 0) ∧ w'.heap[w.heap.size]? = some (.cells #[] 5 (0, 0)) ∧ w'.heap.size = w.heap.size + 1 ∧ Below w.heap.size w w' := by
  obtain ⟨M, hMs, hmk⟩ := make_bytes 0 (by omega)
  obtain rfl := made_none hMs
  have hcp := fun (x : Option Addr) (sc : Nat) => run_copy_none (P := Tryz.prog) (w.alloc (.cells #[] 5)).drew 31 31 3 5 (some ⟨w.heap.size, 0, none⟩) x 0 0 0 sc Tryz.underlying31 sizeByte rfl
  have hmk0 : ∀ W : World, (Instr.makeSlice 31 (.int .i64 0) (.int .i64 0)).run Tryz.prog W = .ok (.slice (some ⟨W.heap.size, 0, none⟩) 0 0) (W.alloc (.cells #[] 5)) := hmk
  clear hMs hmk
  have z1 : min (a : Int) 0 = 0 := by omega
  have z2 : min (n : Int) 0 = 0 := by omega
  by_cases ha : 0 < a
  · by_cases hn : 0 < n
    · skip
      go_enter Tryz.func51, Tryz.ntmps51
      go_wp2
      go_region
      go_wp2
      go_ret
      exact ⟨rfl, heap_alloc_new w _, by simp, ((Below.refl _ w).alloc (Nat.le_refl _) _).drew⟩
    · obtain rfl : n = 0 := by omega
      go_enter Tryz.func51, Tryz.ntmps51
      go_wp2
      go_region
      go_wp2
      go_ret
      exact ⟨rfl, heap_alloc_new w _, by simp, ((Below.refl _ w).alloc (Nat.le_refl _) _).drew⟩
  · obtain rfl : a = 0 := by omega
    by_cases hn : 0 < n
    · skip
      go_enter Tryz.func51, Tryz.ntmps51
      go_wp2
      go_region
      go_wp2
      go_ret
      exact ⟨rfl, heap_alloc_new w _, by simp, ((Below.refl _ w).alloc (Nat.le_refl _) _).drew⟩
    · obtain rfl : n = 0 := by omega
      go_enter Tryz.func51, Tryz.ntmps51
      go_wp2
      go_region
      go_wp2
      go_ret
      exact ⟨rfl, heap_alloc_new w _, by simp, ((Below.refl _ w).alloc (Nat.le_refl _) _).drew⟩
end Go.Proofs.YtdmdgnghaceibaaGreat.P
/- The program's Read. -/
namespace Go.Proofs.YtdmdgnghaceibaaGreat.P
open M Go.ChangeShapes Go.WideShapes Go.ChangeAt Go.RowKit
set_option linter.unusedVariables false

/-- A slice that reads as bytes. -/
def BytesAt (w : World) (v : Value) (t : ByteArray) : Prop := Own w (fun _ => True) 5 1 v (byteCells t)

/-- How Read ends: what comes out lies in a block of its own. -/
def PEnds4 (w : World) (F : Nat → Prop) (s : Nat) (p : St × ByteArray × Int) (e : Ending) (w' : World) : Prop :=
  ∃ (v : Value) (F' : Nat → Prop), e = .returned (.tuple #[v, .int .i64 p.2.2]) ∧ BytesAt w' v p.2.1 ∧ (∀ k, v.ownBlock = some k → w.heap.size ≤ k ∧ k < w'.heap.size ∧ ¬ F' k) ∧ SrvIs w' F' s p.1 ∧ (∀ k, F' k → ext F w w' k) ∧ Ext F w w'

theorem bytes_none (w : World) : BytesAt w (.slice none 0 0) ⟨#[]⟩ := Own.nil _ _ _ _

theorem PEnds4.err {w w1 : World} {F : Nat → Prop} {s : Nat} {p : St × ByteArray × Int} {c : Int} {st' : St} (hp : p = (st', ⟨#[]⟩, c)) (h : Held w1 (ext F w w1) s st') (hx : Ext F w w1) : PEnds4 w F s p (.returned (.tuple #[.slice none 0 0, .int .i64 c])) (left w1 s) := by
  subst hp
  obtain ⟨h1, h2⟩ := left_close (w1 := w) h hx
  exact ⟨_, _, rfl, bytes_none _, fun k hk => by simp [Value.ownBlock] at hk, h1, fun k hk => hk, h2⟩

/-- The bytes of a file from a place on, so many of them. -/
theorem text_cells (d : ByteArray) (a m : Nat) (hm : a + m ≤ d.size) : byteCells (d.extract a (a + m)) = ((d.data.toList.drop a).take m).map (fun c => [.int .u8 c.toNat]) := by
  unfold byteCells
  congr 1
  rw [ByteArray.data_extract, Array.toList_extract]
  simp [List.extract_eq_take_drop]

theorem out_bytes {w' : World} {b : Nat} {cs : List Value} {t : ByteArray} (hb : w'.heap[b]? = some (.cells cs.toArray 5 (0, 0))) (hcs : cs = (byteCells t).flatten) (hl : cs.length ≤ maxLen) : BytesAt w' (.slice (some ⟨b, 0, none⟩) (byteCells t).length (byteCells t).length) t := by
  have h1 : ∀ r ∈ byteCells t, r.length = 1 := fun r hr => by
    unfold byteCells at hr
    obtain ⟨c, _, rfl⟩ := List.mem_map.1 hr
    rfl
  have hlen : (byteCells t).flatten.length = (byteCells t).length := by rw [flat_length 1 _ h1]; omega
  refine ⟨⟨by rw [hlen]; omega, .inr ⟨b, (byteCells t).length, cs.toArray, rfl, Nat.zero_le _, hb, Nat.le_refl _, by rw [← hlen, ← hcs]; exact hl, ?_, ?_⟩⟩, h1, fun k _ => trivial⟩
  · rw [List.size_toArray, hcs, hlen]; omega
  · rw [hcs, List.take_of_length_le (by simp only; omega)]

/-- What 'read' lays: the bytes that are asked. -/
theorem read_any {w : World} {F : Nat → Prop} {L : Lay} {bvv : Value} {i : Nat} {x : Nd} (FI : FileIs w F L bvv i x) (a n : Nat) (hsz : x.data.size ≤ 1000000) :
    Calls Tryz.prog 51 #[.pointer (some ⟨L.nb i, 0, none⟩), .int .i64 a, .int .i64 n] w fun e w' => ∃ m, e = .returned (.slice (some ⟨w.heap.size, 0, none⟩) m m) ∧ BytesAt w' (.slice (some ⟨w.heap.size, 0, none⟩) m m) (textAt x.data a n) ∧ w'.heap.size = w.heap.size + 1 ∧ Below w.heap.size w w' := by
  have hbl : (byteCells x.data).length = x.data.size := by unfold byteCells; rw [List.length_map, Array.length_toList]; rfl
  have empty : ∀ w' : World, w'.heap[w.heap.size]? = some (.cells #[] 5 (0, 0)) → BytesAt w' (.slice (some ⟨w.heap.size, 0, none⟩) 0 0) ⟨#[]⟩ := fun w' hb => out_bytes (cs := []) (t := ⟨#[]⟩) hb rfl (by simp [maxLen])
  rcases FI.data.opened with ⟨hv, hrows⟩ | ⟨g, cap, hv, hlc, hmax, hF, hb, hcell, hfz⟩
  · have hd0 : x.data.size = 0 := by rw [← hbl, hrows]; rfl
    have b3 := FI.c3
    rw [hv] at b3
    refine (read_nil a n b3).mono ?_
    rintro e w' ⟨rfl, hb', hz, hB⟩
    refine ⟨0, rfl, ?_, hz, hB⟩
    unfold textAt
    rw [if_neg (by omega)]
    exact empty w' hb'
  · rw [hbl] at hv hlc
    have hc9 : cap ≤ 9223372036854775807 := by unfold maxLen at hmax; omega
    have b3 := FI.c3
    rw [hv] at b3
    by_cases hlt : a < x.data.size
    · obtain ⟨m, hm, hmm⟩ : ∃ m, ((m = n ∧ n ≤ x.data.size - a) ∨ (m = x.data.size - a ∧ x.data.size - a < n)) ∧ min (a + n) x.data.size = a + m := by
        by_cases h : n ≤ x.data.size - a
        · exact ⟨n, .inl ⟨rfl, h⟩, by omega⟩
        · exact ⟨x.data.size - a, .inr ⟨rfl, by omega⟩, by omega⟩
      have hms : a + m ≤ x.data.size := by omega
      have htext : textAt x.data a n = x.data.extract a (a + m) := by
        unfold textAt
        rw [if_pos hlt, hmm]
      have hcells := text_cells x.data a m hms
      obtain ⟨cs, hcs⟩ : ∃ cs, cs = ((x.data.data.toList.drop a).take m).map (fun c => Value.int .u8 (c.toNat : Int)) := ⟨_, rfl⟩
      have hflat : (byteCells (x.data.extract a (a + m))).flatten = cs := by
        rw [hcells, hcs]
        generalize (x.data.data.toList.drop a).take m = l
        induction l with
        | nil => rfl
        | cons c l ih => simp only [List.map_cons, List.flatten_cons, ih]; rfl
      have hdl : x.data.data.toList.length = x.data.size := by rw [Array.length_toList]; rfl
      have hlen : cs.length = m := by rw [hcs, List.length_map, List.length_take, List.length_drop, hdl]; omega
      refine (read_mid a n m cs hlt hlc hc9 hsz hm b3 hlen (fun j v hj => ?_) (fun v hv => ?_)).mono ?_
      · have hj' : j < m := by have := M.lt_of_getElem? hj; omega
        rw [hcs, List.getElem?_map, List.getElem?_take, if_pos hj', List.getElem?_drop] at hj
        cases hq : x.data.data.toList[a + j]? with
        | none => rw [hq] at hj; simp at hj
        | some c =>
          rw [hq] at hj
          simp at hj
          subst hj
          have := hcell (a + j) [.int .u8 c.toNat] 0 _ (by unfold byteCells; rw [List.getElem?_map, hq]; rfl) rfl
          simpa using this
      · rw [hcs] at hv
        obtain ⟨c, _, rfl⟩ := List.mem_map.1 hv
        rfl
      · rintro e w' ⟨rfl, hb', hz, hB⟩
        have hbm : (byteCells (x.data.extract a (a + m))).length = m := by rw [hcells, List.length_map, List.length_take, List.length_drop, hdl]; omega
        have ho := out_bytes (t := x.data.extract a (a + m)) hb' hflat.symm (by unfold maxLen; omega)
        rw [hbm] at ho
        exact ⟨m, rfl, by rw [htext]; exact ho, hz, hB⟩
    · refine (read_end a n (by omega) hlc hc9 b3).mono ?_
      rintro e w' ⟨rfl, hb', hz, hB⟩
      refine ⟨0, rfl, ?_, hz, hB⟩
      unfold textAt
      rw [if_neg hlt]
      exact empty w' hb'

theorem mRead_bad {st : St} {n a c : Int} (h : mFile st (find st n) ≠ 0) : mRead st n a c = (tick st, ⟨#[]⟩, mFile st (find st n)) := by unfold mRead; rw [if_neg h]
theorem mRead_arg {st : St} {n a c : Int} (h : mFile st (find st n) = 0) (hac : a < 0 ∨ c < 0) : mRead st n a c = (tick st, ⟨#[]⟩, 1) := by unfold mRead; rw [if_pos h, if_pos hac]
theorem mFile_zero {st : St} {n : Int} (h : mFile st (find st n) = 0) : ∃ i f, find st n = some i ∧ st.fids[i]? = some f ∧ f.op = true ∧ isGone st (nodeOf f) = false ∧ isDir st (nodeOf f) = false := by
  cases hf : find st n with
  | none => rw [hf] at h; simp [mFile] at h
  | some i =>
    obtain ⟨f, hi, _, _⟩ := fidAt_find hf
    rw [hf] at h
    unfold mFile at h
    simp only [hi] at h
    cases ho : f.op with
    | false => simp [ho] at h
    | true =>
      cases hg : isGone st (nodeOf f) with
      | true => simp [ho, hg] at h
      | false =>
        cases hd : isDir st (nodeOf f) with
        | true => simp [ho, hg, hd] at h
        | false => exact ⟨i, f, rfl, hi, ho, hg, hd⟩

set_option maxRecDepth 20000 in
set_option maxHeartbeats 1000000 in
theorem sread_any {w : World} {F : Nat → Prop} {s : Nat} {st : St} (n a c : Int) (h : SrvIs w F s st) (ok : POk st) (hF : ∀ k, F k → k < w.heap.size) (hsz : ∀ x ∈ st.nodes, x.data.size ≤ 1000000) :
    Calls Tryz.prog 17 #[.pointer (some ⟨s, 0, none⟩), .int .i64 n, .int .i64 a, .int .i64 c] w fun e w' => PEnds4 w F s (mRead st n a c) e w' := by
  go_enter_defers Tryz.func17, Tryz.ntmps17
  go_wp2_with fail
  refine (enter_any h).mono ?_
  rintro e w1 ⟨rfl, hH, hx⟩
  clear h
  obtain ⟨t, L, bv, hS⟩ := hH
  have hx := hide hx
  have HO := hide (openedFile_any n hS ok.tick)
  have em : mFile (tick st) (find (tick st) n) = mFile st (find st n) := rfl
  rw [em] at HO
  by_cases he : mFile st (find st n) = 0
  · obtain ⟨i, f, hf, hi, hop, hg, hd⟩ := mFile_zero he
    have hm := List.mem_of_getElem? hi
    have hne := (ok.way f hm).1
    have hsp : f.way.getLast? = some (f.way.getLast hne) := List.getLast?_eq_some_getLast hne
    generalize f.way.getLast hne = sp at hsp
    have hno : nodeOf f = sp.n := by simp [nodeOf, hsp]
    have hin := ((ok.way f hm).2 sp (List.mem_of_getLast? hsp)).1
    obtain ⟨x, hxn⟩ := getElem?_of_lt hin
    have hxd : x.dir = false := by rw [hno] at hd; simpa [isDir, hxn] using hd
    have ev : openFileV (tick st) L n = .pointer (some ⟨L.nb sp.n, 0, none⟩) := by
      unfold openFileV
      rw [show find (tick st) n = some i from hf]
      simp only
      rw [show (tick st).fids[i]? = some f from hi]
      simp only
      rw [if_pos (by rw [hf] at he; exact he), hno]
    rw [he, ev] at HO
    by_cases hac : a < 0 ∨ c < 0
    · have H := hide (mRead_arg he hac)
      have hS := hide hS
      clear he hf hi hm hne hsp hxn ev em
      by_cases ha : a < 0
      · go_wp2_with (go_at_call 50; refine HO.out.mono ?_; rintro e w' ⟨rfl, hw⟩; obtain rfl := hw.symm)
        have hD : Held w1 (ext F w w1) s (tick st) := ⟨t, L, bv, hS.out⟩
        refine leaves_cons (f := 43) (args := #[.pointer (some ⟨s, 0, none⟩)]) (by simp) (by simp [go_sem]) ?_
        refine (leave_deferred .returning hD).mono ?_
        rintro e u' w'' ⟨rfl, rfl, rfl⟩
        refine ⟨_, results_tmp2 rfl _ _ _, ?_⟩
        exact PEnds4.err H.out hD hx.out
      · have hc : c < 0 := by omega
        go_wp2_with (go_at_call 50; refine HO.out.mono ?_; rintro e w' ⟨rfl, hw⟩; obtain rfl := hw.symm)
        have hD : Held w1 (ext F w w1) s (tick st) := ⟨t, L, bv, hS.out⟩
        refine leaves_cons (f := 43) (args := #[.pointer (some ⟨s, 0, none⟩)]) (by simp) (by simp [go_sem]) ?_
        refine (leave_deferred .returning hD).mono ?_
        rintro e u' w'' ⟨rfl, rfl, rfl⟩
        refine ⟨_, results_tmp2 rfl _ _ _, ?_⟩
        exact PEnds4.err H.out hD hx.out
    · have ha0 : 0 ≤ a := by omega
      have hc0 : 0 ≤ c := by omega
      obtain ⟨a', rfl⟩ := Int.eq_ofNat_of_zero_le ha0
      obtain ⟨c', rfl⟩ := Int.eq_ofNat_of_zero_le hc0
      have H := hide (show mRead st n (a' : Int) (c' : Int) = (tick st, textAt x.data a' c', 0) by
        unfold mRead
        rw [if_pos he, if_neg hac, hf]
        simp only
        rw [hi]
        simp only
        rw [show dataOf st f = x.data by simp [dataOf, hno, hxn], Int.toNat_natCast, Int.toNat_natCast])
      have HR := hide (read_any (hS.tree.file sp.n x hxn hxd) a' c' (hsz x (List.mem_of_getElem? hxn)))
      have hS := hide hS
      have na : ¬ (a' : Int) < 0 := by omega
      have ncc : ¬ (c' : Int) < 0 := by omega
      clear he hf hi hm hne hsp hxn ev em hac
      go_wp2_with (first | (go_at_call 50; refine HO.out.mono ?_; rintro e w' ⟨rfl, hw⟩; obtain rfl := hw.symm) | (go_at_call 51; refine HR.out.mono ?_; rintro e w2 ⟨m, rfl, ho, hz, hb⟩; have HOut := hide ho; have HZ := hide hz; have HB := hide hb; clear ho hz hb))
      have hS2 := hS.out.below HB.out
      have hx2 : Ext F w w2 := hx.out.trans' (Ext.below HB.out)
      have hD : Held w2 (ext F w w1) s (tick st) := ⟨t, L, bv, hS2⟩
      refine leaves_cons (f := 43) (args := #[.pointer (some ⟨s, 0, none⟩)]) (by simp) (by simp [go_sem]) ?_
      refine (leave_deferred .returning hD).mono ?_
      rintro e u' w'' ⟨rfl, rfl, rfl⟩
      refine ⟨_, results_tmp2 rfl _ _ _, ?_⟩
      unfold PEnds4
      rw [H.out]
      have hs1 : s < w1.heap.size := hS.out.blk.lt
      have hlz : (left w2 s).heap.size = w2.heap.size := by simp [left]
      refine ⟨_, ext F w w1, rfl, ?_, fun k hk => ?_, hD.left, fun k hk => ext_mono (by rw [hlz, HZ.out]; omega) k hk, ?_⟩
      · refine Own.keptBlock HOut.out (fun k hk => ?_)
        simp [Value.ownBlock] at hk
        exact Below.heap_setCell w2 ⟨s, 3, none⟩ _ k (by show k ≠ s; omega)
      · simp [Value.ownBlock] at hk
        subst hk
        have := hx.out.size
        refine ⟨this, by rw [hlz, HZ.out]; omega, fun hk => ?_⟩
        rcases hk with hk | hk
        · have := hF _ hk
          omega
        · omega
      · exact hx2.setCell (a := ⟨s, 3, none⟩) (by rcases hS.out.blk.own with h | h; exact .inl h; exact .inr h.1) _
  · have H := hide (mRead_bad (a := a) (c := c) he)
    have q1 : (mFile st (find st n) != 0) = true := by simpa using he
    have q2 : (mFile st (find st n) == 0) = false := by simpa using he
    have hS := hide hS
    clear he em
    go_wp2_with (go_at_call 50; refine HO.out.mono ?_; rintro e w' ⟨rfl, hw⟩; obtain rfl := hw.symm)
    have hD : Held w1 (ext F w w1) s (tick st) := ⟨t, L, bv, hS.out⟩
    refine leaves_cons (f := 43) (args := #[.pointer (some ⟨s, 0, none⟩)]) (by simp) (by simp [go_sem]) ?_
    refine (leave_deferred .returning hD).mono ?_
    rintro e u' w'' ⟨rfl, rfl, rfl⟩
    refine ⟨_, results_tmp2 rfl _ _ _, ?_⟩
    exact PEnds4.err H.out hD hx.out
end Go.Proofs.YtdmdgnghaceibaaGreat.P
/- The program's file.reach. -/
namespace Go.Proofs.YtdmdgnghaceibaaGreat.P
open M Go.ChangeShapes Go.WideShapes Go.ChangeAt Go.RowKit
set_option linter.unusedVariables false

theorem zero_cells (k : Nat) : Builtin.zeroCells (Value.int .u8 0).cells k = (List.replicate k (Value.int .u8 0)).toArray := by
  unfold Builtin.zeroCells
  apply Array.ext
  · simp [Value.cells]
  · intro i h1 h2
    have : i % 1 = 0 := Nat.mod_one i
    simp [Value.cells, this]

def zeroRows (k : Nat) : List (List Value) := List.replicate k [.int .u8 0]
theorem zeroRows_flat (k : Nat) : (zeroRows k).flatten = List.replicate k (.int .u8 0) := by
  unfold zeroRows
  induction k with
  | zero => rfl
  | succ k ih => rw [List.replicate_succ, List.flatten_cons, ih, List.replicate_succ]; rfl
theorem bytes_padded (d : ByteArray) (a : Nat) : byteCells (padded d a) = byteCells d ++ zeroRows (a - d.size) := by
  unfold byteCells padded zeros zeroRows
  rw [ByteArray.data_append, Array.toList_append, List.map_append]
  simp
theorem len_bytes (d : ByteArray) : (byteCells d).length = d.size := by unfold byteCells; rw [List.length_map, Array.length_toList]; rfl

/-- An append of zeros. -/
theorem zeros_append {w : World} {F : Nat → Prop} {v : Value} {rows : List (List Value)} (ty : TypeId) (hown : Own w F 5 1 v rows) (k : Nat) (hk : 0 < k) (hle : rows.length + k ≤ 1000000) :
    ∃ ao c w', (Builtin.append_ #[31, 3] ty #[v, .int .i64 (k : Int)]).run Tryz.prog w = .ok (.slice ao (rows.length + k) c) w' ∧ Own w' (ext F w w') 5 1 (.slice ao (rows.length + k) c) (rows ++ zeroRows k) ∧ w.grownBy w' v.ownBlock ∧
      (∀ b, (Value.slice ao (rows.length + k) c).ownBlock = some b → v.ownBlock = some b ∨ w.heap.size ≤ b) := by
  obtain ⟨i0, hi, hz0, hz1, hz2⟩ := info_parts infoByte
  have hint : Tryz.prog.underlying 3 = some (.int .i64) := by kernel_rfl
  have hrows : ∀ r ∈ rows ++ zeroRows k, r.length = 1 := fun r hr => by
    rcases List.mem_append.1 hr with hr | hr
    · exact hown.2.1 r hr
    · rw [(List.mem_replicate.1 hr).2]; rfl
  have hfl : (rows ++ zeroRows k).flatten = rows.flatten ++ List.replicate k (.int .u8 0) := by rw [List.flatten_append, zeroRows_flat]
  have hlr : rows.flatten.length = rows.length := by rw [flat_length 1 _ hown.2.1]; omega
  have hlen : (rows ++ zeroRows k).length = rows.length + k := by simp [zeroRows]
  have grown : ∀ (old : Nat), old < rows.length + k → ∀ (row : Option Nat),
      Own (w.drew.alloc (.cells (rows.flatten.toArray ++ Builtin.zeroCells (Value.int .u8 0).cells k ++ Builtin.zeroCells (Value.int .u8 0).cells (grownCap w (rows.length + k) old 5 - (rows.length + k))) 5))
        (ext F w (w.drew.alloc (.cells (rows.flatten.toArray ++ Builtin.zeroCells (Value.int .u8 0).cells k ++ Builtin.zeroCells (Value.int .u8 0).cells (grownCap w (rows.length + k) old 5 - (rows.length + k))) 5))) 5 1
        (.slice (some ⟨w.heap.size, 0, none⟩) (rows.length + k) (grownCap w (rows.length + k) old 5)) (rows ++ zeroRows k) ∧
      w.grownBy (w.drew.alloc (.cells (rows.flatten.toArray ++ Builtin.zeroCells (Value.int .u8 0).cells k ++ Builtin.zeroCells (Value.int .u8 0).cells (grownCap w (rows.length + k) old 5 - (rows.length + k))) 5)) row := by
    intro old ho row
    have hge := grownCap_ge w (rows.length + k) old 5
    have hcm : grownCap w (rows.length + k) old 5 ≤ maxLen := grownCap_le_maxLen w (rows.length + k) old _ (by unfold maxLen; omega)
    refine ⟨⟨⟨?_, .inr ⟨w.heap.size, grownCap w (rows.length + k) old 5, _, ?_, Nat.zero_le _, heap_alloc_new w.drew _, ?_, hcm, ?_, ?_⟩⟩, hrows, fun b hb => ?_⟩, ⟨rfl, rfl, rfl, by simp, fun b hb _ => Below.heap_alloc w.drew _ b hb⟩⟩
    · rw [flat_length 1 _ hrows]
    · rw [hlen]
    · rw [hlen]; exact hge
    · simp only [zero_cells, Array.size_append, List.size_toArray, List.length_replicate, hlr]
      omega
    · simp only [zero_cells, Array.toList_append]
      rw [hlen, hfl, Nat.mul_one]
      rw [show rows.length + k = (rows.flatten ++ List.replicate k (Value.int .u8 0)).length by rw [List.length_append, hlr, List.length_replicate]]
      exact List.take_left
    · simp [Value.ownBlock] at hb
      subst hb
      exact .inr ⟨Nat.le_refl _, by simp⟩
  rcases hown.1.2 with ⟨rfl, h0⟩ | ⟨g, cap, cur, rfl, hbg, hg, hnc, hcm, hcs, htake⟩
  · have hr0 : rows = [] := List.length_eq_zero_iff.1 h0
    subst hr0
    have hr := Lib.run_append_nil_zeros (P := Tryz.prog) w 31 3 ty 5 i0 (.int .u8 0) .i64 .i64 Tryz.underlying31 hint hi hz0 k hk (by rw [hz1]; omega) (by simp at hle; omega) (by rw [hz2]; simp at hle; omega)
    have hgr := grown 0 (by simp; omega) (Value.ownBlock (.slice none 0 0))
    simp only [List.length_nil, Nat.zero_add, List.nil_append, List.flatten_nil, Array.empty_append] at hgr ⊢
    exact ⟨_, _, _, hr, hgr.1, hgr.2, fun b hb => by simp [Value.ownBlock] at hb; exact .inr (by omega)⟩
  · by_cases hroom : rows.length + k ≤ cap
    · have hst := run_storeCells_at Tryz.prog g (rows.length) 5 (List.replicate k (.int .u8 0)) 0 cur w hg (by simp; omega) (fun u hu => by rw [(List.mem_replicate.1 hu).2]; rfl)
      simp only [Nat.add_zero, List.length_replicate] at hst
      have hw : IntKind.i64.wrap (k : Int) = k := by rw [IntKind.wrap_i64]; omega
      have hneg : ¬ ((k : Int) < 0) := by omega
      have h48i : ¬ (281474976710656 < (k : Int)) := by omega
      have hk0 : k ≠ 0 := by omega
      refine ⟨some ⟨g, 0, none⟩, cap, w.setRow g (cur.toList.take rows.length ++ List.replicate k (Value.int .u8 0) ++ cur.toList.drop (rows.length + k)).toArray, ?_, ⟨⟨?_, .inr ⟨g, cap, _, ?_, hbg, setRow_heap w g cur _ 5 _ hg, ?_, hcm, ?_, ?_⟩⟩, hrows, fun b hb => ?_⟩, ⟨rfl, rfl, rfl, by simp, fun b _ hb => setRow_other w g b _ (fun e => hb (by simp [Value.ownBlock, e]))⟩, fun b hb => .inl hb⟩
      · simp [Builtin.append_, run_underlying Tryz.underlying31, run_underlying hint, sizeOf, typeInfo, zeroValue, hi, hz0, hz1, hz2, asInt, asIntOf, hw, hneg, h48i, hk0, hroom, zero_cells, Addr.add_lit, hst]
      · rw [flat_length 1 _ hrows]
      · rw [hlen]
      · rw [hlen]; exact hroom
      · simp only [List.size_toArray, List.length_append, List.length_take, List.length_drop, List.length_replicate, Array.length_toList]
        omega
      · rw [hlen, hfl, Nat.mul_one]
        have ht : cur.toList.take rows.length = rows.flatten := by rw [Nat.mul_one] at htake; exact htake
        rw [ht, show rows.length + k = (rows.flatten ++ List.replicate k (Value.int .u8 0)).length by rw [List.length_append, hlr, List.length_replicate]]
        exact List.take_left
      · exact .inl (hown.2.2 b hb)
    · have hold := run_firstCells_some (P := Tryz.prog) w.drew i0.size rows.length ⟨g, 0, none⟩ rows.length cap rows.flatten (by rw [hz1, hlr]; omega) (fun j u hu => hown.1.cells (g := g) rfl j u hu)
      have hr := Lib.run_append_grow_zeros (P := Tryz.prog) w 31 3 ty 5 i0 (.int .u8 0) .i64 .i64 Tryz.underlying31 hint hi hz0 (some ⟨g, 0, none⟩) rows.length cap rows.flatten hold k hk (by rw [hz1]; omega) (by omega) (by omega) (by rw [hz2]; omega) (growslice_fits (by omega) (by rw [hz2]; omega))
      have hgr := grown cap (by omega) (Value.ownBlock (.slice (some ⟨g, 0, none⟩) rows.length cap))
      exact ⟨_, _, _, hr, hgr.1, hgr.2, fun b hb => by simp [Value.ownBlock] at hb; exact .inr (by omega)⟩
end Go.Proofs.YtdmdgnghaceibaaGreat.P
/- The program's file.reach, called. -/
namespace Go.Proofs.YtdmdgnghaceibaaGreat.P
open M Go.ChangeShapes Go.WideShapes Go.ChangeAt Go.RowKit
set_option linter.unusedVariables false

/-- What a write of a file changes: its block, its bytes' block, new blocks. -/
structure Wrote (nb : Nat) (v v' : Value) (w w' : World) : Prop where
  os : w'.os = w.os
  tape : w'.tape = w.tape
  output : w'.output = w.output
  size : w.heap.size ≤ w'.heap.size
  block : ∀ k, k < w.heap.size → k ≠ nb → v.ownBlock ≠ some k → w'.heap[k]? = w.heap[k]?
  own : ∀ k, v'.ownBlock = some k → v.ownBlock = some k ∨ w.heap.size ≤ k

theorem Wrote.refl (nb : Nat) (v : Value) (w : World) : Wrote nb v v w w := ⟨rfl, rfl, rfl, Nat.le_refl _, fun _ _ _ _ => rfl, fun _ h => .inl h⟩
theorem Wrote.trans {nb : Nat} {v1 v2 v3 : Value} {w1 w2 w3 : World} (h : Wrote nb v1 v2 w1 w2) (k : Wrote nb v2 v3 w2 w3) : Wrote nb v1 v3 w1 w3 :=
  ⟨k.os.trans h.os, k.tape.trans h.tape, k.output.trans h.output, Nat.le_trans h.size k.size,
   fun b hb hn hv => (k.block b (Nat.lt_of_lt_of_le hb h.size) hn (fun e => by rcases h.own b e with q | q; exact hv q; omega)).trans (h.block b hb hn hv),
   fun b hb => by
    rcases k.own b hb with q | q
    · exact h.own b q
    · exact .inr (Nat.le_trans h.size q)⟩

set_option maxRecDepth 20000 in
set_option maxHeartbeats 1000000 in
theorem reach_any {w : World} {F : Nat → Prop} {L : Lay} {v : Value} {i : Nat} {x : Nd} (FI : FileIs w F L v i x) (n : Nat) (hn : n ≤ 1000000) (hsz : x.data.size ≤ 1000000) :
    Calls Tryz.prog 93 #[.pointer (some ⟨L.nb i, 0, none⟩), .int .i64 n] w fun e w' => e = .returned (.tuple #[]) ∧ ∃ v', FileIs w' (ext F w w') L v' i { x with data := padded x.data n } ∧ Wrote (L.nb i) v v' w w' := by
  obtain ⟨ao, c, rfl⟩ := FI.data.form
  have hl := len_bytes x.data
  have b3 := FI.c3
  rw [hl] at b3
  by_cases hm : x.data.size < n
  · obtain ⟨k, hnk⟩ : ∃ k, n = x.data.size + k := ⟨n - x.data.size, by omega⟩
    have hk : 0 < k := by omega
    obtain ⟨ao', c', w1, hr, ho, hg, hb⟩ := zeros_append 31 FI.data k hk (by rw [hl]; omega)
    rw [hl] at hr ho hb
    have ek : (n : Int) - (x.data.size : Int) = (k : Int) := by omega
    have hne : (Value.slice ao (byteCells x.data).length c).ownBlock ≠ some (L.nb i) := fun e => FI.data.ne (k := L.nb i) FI.blk.ty (by decide) e.symm
    have hblk := hg.block (L.nb i) FI.blk.lt (fun e => hne e.symm)
    have q3 : w1.cell? ⟨L.nb i, 3, none⟩ = some (.slice ao x.data.size c) := (World.cell?_of_block hblk).trans b3
    have f3 : w1.frozen? ⟨L.nb i, 3, none⟩ = false := by
      obtain ⟨⟨cur, hc⟩, _⟩ := FI.blk
      simp [World.frozen?, hblk, hc]
    have HF := hide FI
    have HO := hide ho
    have HG := hide hg
    have HB := hide hb
    have HK := hide hblk
    have HN := hide hnk
    clear FI hnk ho hg hb hblk hl hne
    go_enter Tryz.func93, Tryz.ntmps93
    go_wp2_with (at_builtin; refine Lib.wpList_append_run _ rfl _ _ _ _ rfl _ _ rfl (by first | rfl | (simp only [ek]; rfl) | (trace_state; fail)) _ _ hr ?_)
    go_end0
    refine ⟨rfl, .slice ao' (x.data.size + k) c', ?_⟩
    obtain rfl := HN.out
    have FI := HF.out
    have hG := HG.out
    have hz : (w1.setCell ⟨L.nb i, 3, none⟩ (.slice ao' (x.data.size + k) c')).heap.size = w1.heap.size := by simp
    have hbv : ∀ b, (Value.slice ao' (x.data.size + k) c').ownBlock = some b → b ≠ L.nb i := fun b hb e => by
      subst e
      rcases HB.out _ hb with q | q
      · exact FI.data.ne (k := L.nb i) FI.blk.ty (by decide) (by rw [len_bytes]; exact q.symm)
      · have := FI.blk.lt
        omega
    have hx : ext F w w1 = ext F w (w1.setCell ⟨L.nb i, 3, none⟩ (.slice ao' (x.data.size + k) c')) := by unfold ext; rw [hz]
    have ty1 : Ty w1 (L.nb i) 162 := by
      obtain ⟨cur, hc⟩ := FI.blk.ty
      exact ⟨cur, HK.out.trans hc⟩
    have old : ∀ j, j ≠ 3 → (w1.setCell ⟨L.nb i, 3, none⟩ (.slice ao' (x.data.size + k) c')).cell? ⟨L.nb i, j, none⟩ = w.cell? ⟨L.nb i, j, none⟩ := fun j hj => (cell_other _ _ _ _ _ (fun e => hj e.symm)).trans (World.cell?_of_block HK.out)
    refine ⟨⟨⟨ty1.setCell _ _, .inl FI.blk.own⟩, (old 0 (by decide)).trans FI.c0, (old 1 (by decide)).trans FI.c1, (old 2 (by decide)).trans FI.c2, cell_same _ _ _ _ _ q3, (old 4 (by decide)).trans FI.c4, ?_⟩, ?_⟩
    · rw [show byteCells (padded x.data (x.data.size + k)) = byteCells x.data ++ zeroRows k by rw [bytes_padded]; congr 2; omega, ← hx]
      exact HO.out.keptBlock (fun b hb => Below.heap_setCell _ _ _ b (hbv b hb))
    · refine ⟨hG.os, hG.tape, hG.output, by rw [hz]; exact hG.size, fun b hb hn hv => (Below.heap_setCell _ _ _ b hn).trans (hG.block b hb (fun e => hv e.symm)), fun b hb => ?_⟩
      rw [len_bytes]
      exact HB.out b hb
  · have HF := hide FI
    have en : ¬ 0 < (n : Int) - (x.data.size : Int) := by omega
    have hm := hide hm
    clear FI hl
    go_enter Tryz.func93, Tryz.ntmps93
    go_wp2
    go_end0
    refine ⟨rfl, _, ?_, Wrote.refl _ _ _⟩
    have e0 : padded x.data n = x.data := by
      unfold padded
      rw [show n - x.data.size = 0 by have := hm.out; omega, zeros_none]
    rw [e0]
    exact HF.out.mono (fun k hk => .inl hk)
end Go.Proofs.YtdmdgnghaceibaaGreat.P
/- The program's file.write. -/
namespace Go.Proofs.YtdmdgnghaceibaaGreat.P
open M Go.ChangeShapes Go.WideShapes Go.ChangeAt Go.RowKit
set_option linter.unusedVariables false

theorem flat_take1 : ∀ (rows : List (List Value)) (a : Nat), (∀ r ∈ rows, r.length = 1) → (rows.take a).flatten = rows.flatten.take a
  | [], a, _ => by simp
  | r :: rs, 0, _ => by simp
  | r :: rs, a + 1, h => by
    have hr := h r (by simp)
    rw [List.take_succ_cons, List.flatten_cons, List.flatten_cons, flat_take1 rs a (fun x hx => h x (by simp [hx])), List.take_append, hr, List.take_of_length_le (show r.length ≤ a + 1 by omega), show a + 1 - 1 = a by omega]
theorem flat_drop1 : ∀ (rows : List (List Value)) (a : Nat), (∀ r ∈ rows, r.length = 1) → (rows.drop a).flatten = rows.flatten.drop a
  | [], a, _ => by simp
  | r :: rs, 0, _ => by simp
  | r :: rs, a + 1, h => by
    have hr := h r (by simp)
    rw [List.drop_succ_cons, List.flatten_cons, flat_drop1 rs a (fun x hx => h x (by simp [hx])), List.drop_append, hr, List.drop_of_length_le (show r.length ≤ a + 1 by omega), show a + 1 - 1 = a by omega, List.nil_append]

/-- Some of a slice's elements, written over. -/
theorem own_splice {w : World} {F : Nat → Prop} {e : TypeId} {g n cap : Nat} {rows : List (List Value)} (h : Own w F e 1 (.slice (some ⟨g, 0, none⟩) n cap) rows) (a : Nat) (news : List (List Value)) (hn1 : ∀ r ∈ news, r.length = 1) (hle : a + news.length ≤ rows.length) :
    ∃ cur, w.heap[g]? = some (.cells cur e (0, 0)) ∧ a + news.flatten.length ≤ cur.size ∧
      Own (w.setRow g (cur.toList.take a ++ news.flatten ++ cur.toList.drop (a + news.flatten.length)).toArray) F e 1 (.slice (some ⟨g, 0, none⟩) n cap) (rows.take a ++ news ++ rows.drop (a + news.length)) := by
  obtain ⟨⟨hlen, ho⟩, hl, hF⟩ := h
  rcases ho with ⟨e1, _⟩ | ⟨g', cap', cur, e1, h0, hb, hcap, hmax, hsz, htake⟩
  · cases e1
  · cases e1
    have hnf : news.flatten.length = news.length := by rw [flat_length 1 _ hn1]; omega
    have hrf : rows.flatten.length = rows.length := by rw [hlen]; omega
    have hcl : cur.toList.length = cap := by rw [Array.length_toList]; omega
    obtain ⟨rest, hrest⟩ : ∃ rest, cur.toList = rows.flatten ++ rest := ⟨cur.toList.drop (rows.length * 1), by rw [← htake]; exact (List.take_append_drop _ _).symm⟩
    have hrows : ∀ r ∈ rows.take a ++ news ++ rows.drop (a + news.length), r.length = 1 := fun r hr => by
      rcases List.mem_append.1 hr with hr | hr
      · rcases List.mem_append.1 hr with hr | hr
        · exact hl r (List.mem_of_mem_take hr)
        · exact hn1 r hr
      · exact hl r (List.mem_of_mem_drop hr)
    have hll : (rows.take a ++ news ++ rows.drop (a + news.length)).length = rows.length := by
      simp only [List.length_append, List.length_take, List.length_drop]
      omega
    refine ⟨cur, hb, by rw [hnf]; omega, ⟨?_, .inr ⟨g, cap, _, by rw [hll], h0, setRow_heap w g cur _ e _ hb, by rw [hll]; exact hcap, hmax, ?_, ?_⟩⟩, hrows, hF⟩
    · rw [flat_length 1 _ hrows]
    · simp only [List.size_toArray, List.length_append, List.length_take, List.length_drop, hcl, hnf]
      omega
    · rw [hll, Nat.mul_one]
      simp only [List.flatten_append, flat_take1 rows a hl, flat_drop1 rows _ hl]
      have ta : (rows.flatten ++ rest).take a = rows.flatten.take a := List.take_append_of_le_length (by omega)
      have td : (rows.flatten ++ rest).drop (a + news.length) = rows.flatten.drop (a + news.length) ++ rest := List.drop_append_of_le_length (by omega)
      rw [hnf, hrest, ta, td]
      have : rows.length = (rows.flatten.take a ++ news.flatten ++ rows.flatten.drop (a + news.length)).length := by
        simp only [List.length_append, List.length_take, List.length_drop, hnf, hrf]
        omega
      rw [← List.append_assoc]
      rw [List.take_append_of_le_length (by omega), List.take_of_length_le (by omega)]

theorem over_cells (d : ByteArray) (a : Nat) (t : ByteArray) : byteCells (over d a t) = (byteCells (padded d (a + t.size))).take a ++ byteCells t ++ (byteCells (padded d (a + t.size))).drop (a + t.size) := by
  have hd : d.data.toList.length = d.size := by rw [Array.length_toList]; rfl
  have e1 : ((padded d a).extract 0 a).data.toList = (padded d (a + t.size)).data.toList.take a := by
    rw [ByteArray.data_extract, Array.toList_extract]
    simp only [List.extract_eq_take_drop, List.drop_zero, Nat.sub_zero]
    unfold padded zeros
    simp only [ByteArray.data_append, Array.toList_append, Array.toList_replicate, List.take_append, List.take_replicate, hd]
    congr 2
    omega
  have e2 : (if a + t.size < (padded d a).size then (padded d a).extract (a + t.size) (padded d a).size else ⟨#[]⟩).data.toList = (padded d (a + t.size)).data.toList.drop (a + t.size) := by
    have hr : (padded d (a + t.size)).data.toList.drop (a + t.size) = d.data.toList.drop (a + t.size) := by
      unfold padded zeros
      simp only [ByteArray.data_append, Array.toList_append, Array.toList_replicate, List.drop_append, List.drop_replicate, hd]
      rw [Nat.sub_self, List.replicate_zero, List.append_nil]
    rw [hr]
    rw [size_padded]
    split
    · rw [ByteArray.data_extract, Array.toList_extract]
      simp only [List.extract_eq_take_drop]
      unfold padded zeros
      simp only [ByteArray.data_append, Array.toList_append, Array.toList_replicate, List.drop_append, List.drop_replicate, hd]
      rw [show a - d.size - (a + t.size - d.size) = 0 by omega, List.replicate_zero, List.append_nil]
      exact List.take_of_length_le (by rw [List.length_drop, hd]; omega)
    · rw [List.drop_of_length_le (by rw [hd]; omega)]
  unfold over
  unfold byteCells
  rw [ByteArray.data_append, ByteArray.data_append, Array.toList_append, Array.toList_append, e1, e2]
  simp [List.map_append, List.map_take, List.map_drop]

theorem bytes_one (t : ByteArray) : ∀ r ∈ byteCells t, r.length = 1 := fun r hr => by
  unfold byteCells at hr
  obtain ⟨c, _, rfl⟩ := List.mem_map.1 hr
  rfl

/-- How a file's write ends. -/
def FWrote (w : World) (F : Nat → Prop) (L : Lay) (v : Value) (i : Nat) (x : Nd) (a : Nat) (t : ByteArray) (e : Ending) (w' : World) : Prop :=
  if 300 < a ∨ 300 < a + t.size then e = .returned (.int .i64 12) ∧ w' = w
  else e = .returned (.int .i64 0) ∧ ∃ v', FileIs w' (ext F w w') L v' i (wroteNd x a t) ∧ Wrote (L.nb i) v v' w w'

theorem file_version {w : World} {F : Nat → Prop} {L : Lay} {v : Value} {i : Nat} {x : Nd} (FI : FileIs w F L v i x) (n : Int) : FileIs (w.setCell ⟨L.nb i, 4, none⟩ (.int .i64 n)) F L v i { x with version := n } ∧ Wrote (L.nb i) v v w (w.setCell ⟨L.nb i, 4, none⟩ (.int .i64 n)) := by
  have old : ∀ j, j ≠ 4 → (w.setCell ⟨L.nb i, 4, none⟩ (.int .i64 n)).cell? ⟨L.nb i, j, none⟩ = w.cell? ⟨L.nb i, j, none⟩ := fun j hj => cell_other _ _ _ _ _ (fun e => hj e.symm)
  refine ⟨⟨FI.blk.setCell _ _, (old 0 (by decide)).trans FI.c0, (old 1 (by decide)).trans FI.c1, (old 2 (by decide)).trans FI.c2, (old 3 (by decide)).trans FI.c3, cell_same _ _ _ _ _ FI.c4, ?_⟩, rfl, rfl, rfl, by simp, fun k _ hn _ => Below.heap_setCell _ _ _ k hn, fun k hk => .inl hk⟩
  exact FI.data.keptBlock (fun b hb => Below.heap_setCell _ _ _ b (fun e => FI.data.ne (k := L.nb i) FI.blk.ty (by decide) (by rw [hb, e])))

set_option maxRecDepth 20000 in
set_option maxHeartbeats 1000000 in
theorem fwrite_any {w : World} {F : Nat → Prop} {L : Lay} {v : Value} {i : Nat} {x : Nd} (FI : FileIs w F L v i x) (a : Nat) (ha : a ≤ 9223372036854775807) (dv : Value) (t : ByteArray) (hsrc : SrcIs w 1 dv (byteCells t)) (hap : ∀ ad n c, dv = .slice (some ad) n c → 0 < n → ¬ F ad.block) (ht : t.size ≤ 140737488355328) (hsz : x.data.size ≤ 1000000) :
    Calls Tryz.prog 52 #[.pointer (some ⟨L.nb i, 0, none⟩), .int .i64 a, dv] w fun e w' => FWrote w F L v i x a t e w' := by
  obtain ⟨h1, h2, h3⟩ := hsrc
  rw [len_bytes] at h3
  obtain ⟨ad, c, rfl⟩ : ∃ ad c, dv = .slice ad t.size c := by
    rcases h3 with ⟨rfl, h⟩ | ⟨ad, c, rfl, _⟩
    · exact ⟨none, 0, by rw [← len_bytes, h]; rfl⟩
    · exact ⟨some ad, c, rfl⟩
  by_cases hbig : 300 < a ∨ 300 < a + t.size
  · have H := hide hbig
    have e1 : (300 : Int) - (t.size : Int) < (a : Int) := by omega
    clear hbig FI h1 h2 h3 hap
    go_enter Tryz.func52, Tryz.ntmps52
    go_wp2
    go_ret
    unfold FWrote
    rw [if_pos H.out]
    exact ⟨rfl, rfl⟩
  · have H := hide hbig
    have e1 : ¬ (300 : Int) - (t.size : Int) < (a : Int) := by omega
    by_cases ht0 : t.size = 0
    · have c4 := FI.c4
      have f4 := FI.blk.fz 4
      have HF := hide FI
      have HT := hide ht0
      rw [ht0] at e1 ⊢
      clear hbig FI h1 h2 h3 hap
      go_enter Tryz.func52, Tryz.ntmps52
      go_wp2
      go_ret
      unfold FWrote
      rw [if_neg H.out]
      obtain ⟨q1, q2⟩ := file_version HF.out (wrap64 (x.version + 1))
      refine ⟨rfl, v, ?_, q2⟩
      unfold wroteNd
      rw [if_pos HT.out]
      exact q1.mono (fun k hk => .inl hk)
    · obtain ⟨ad, rfl, hcells⟩ : ∃ ad', ad = some ad' ∧ ∀ j u, (byteCells t).flatten[j]? = some u → w.cell? (ad'.add j) = some u := by
        rcases h3 with ⟨e, h⟩ | ⟨ad', c', e, hc⟩
        · exact absurd (by rw [← len_bytes, h]; rfl) ht0
        · cases e
          exact ⟨ad', rfl, hc⟩
      have hnF := hap ad t.size c rfl (by omega)
      have hfl : (byteCells t).flatten.length = t.size := by rw [flat_length 1 _ h1, len_bytes]; omega
      have hadlt : ad.block < w.heap.size := by
        cases hc : (byteCells t).flatten with
        | nil => rw [hc] at hfl; exact absurd hfl.symm ht0
        | cons u l =>
          have h0 := hcells 0 u (by rw [hc]; rfl)
          have h0' := World.block_lt_of_cell? w _ h0
          simpa [Addr.add] using h0'
      have hone : ∀ u ∈ (byteCells t).flatten, u.oneCell' = true := fun u hu => by
        obtain ⟨r, hr, hur⟩ := List.mem_flatten.1 hu
        exact h2 r hr u hur
      have HR := hide (reach_any FI (a + t.size) (by omega) hsz)
      rw [Int.natCast_add] at HR
      have HF := hide FI
      have HT := hide ht0
      have e2 : 0 < t.size := by omega
      have e5 : (a : Int) + (t.size : Int) ≤ 300 := by omega
      have Hh := hide (And.intro h1 (And.intro hcells (And.intro hnF (And.intro hfl (And.intro hadlt hone)))))
      clear hbig FI h1 h2 h3 hap hcells hnF hfl hadlt hone ht0
      go_enter Tryz.func52, Tryz.ntmps52
      go_wp2_with fail
      refine HR.out.mono ?_
      rintro e w1 ⟨rfl, v1, hFI1, hW⟩
      obtain ⟨h1, hcells, hnF, hfl, hadlt, hone⟩ := Hh.out
      have hps : (padded x.data (a + t.size)).size = max x.data.size (a + t.size) := size_padded _ _
      obtain ⟨len1, hlen1⟩ : ∃ len1, len1 = max x.data.size (a + t.size) := ⟨_, rfl⟩
      have hle1 : a + t.size ≤ len1 := by omega
      have hmx : len1 ≤ 1000000 := by have := H.out; omega
      have hbl : (byteCells (padded x.data (a + t.size))).length = len1 := by rw [len_bytes, hps, hlen1]
      rcases hFI1.data.opened with ⟨_, hnil⟩ | ⟨g, cap1, hv1, hlc, hmaxl, _⟩
      · exfalso
        have h0 : (byteCells (padded x.data (a + t.size))).length = 0 := by show (byteCells ({ x with data := padded x.data (a + t.size) } : Nd).data).length = 0; rw [hnil]; rfl
        omega
      · have hv1' : v1 = .slice (some ⟨g, 0, none⟩) len1 cap1 := hv1.trans (by rw [← hbl])
        clear hv1
        have hlc' : len1 ≤ cap1 := by rw [← hbl]; exact hlc
        clear hlc
        subst hv1'
        have hcapm : cap1 ≤ 9223372036854775807 := by unfold maxLen at hmaxl; omega
        have hdat : Own w1 (ext F w w1) 5 1 (.slice (some ⟨g, 0, none⟩) len1 cap1) (byteCells (padded x.data (a + t.size))) := hFI1.data
        obtain ⟨cur, hcur, hfit, hown⟩ := own_splice hdat a (byteCells t) h1 (by rw [len_bytes, hbl]; omega)
        have hgne : g ≠ L.nb i := fun e => hFI1.data.ne (k := L.nb i) hFI1.blk.ty (by decide) (by rw [← e]; rfl)
        have hadn : w1.heap[ad.block]? = w.heap[ad.block]? := hW.block _ hadlt (fun e => hnF (e ▸ HF.out.blk.own)) (fun e => hnF (HF.out.data.2.2 _ e))
        have hcells1 : ∀ j u, (byteCells t).flatten[j]? = some u → w1.cell? (ad.add j) = some u := fun j u hj => by
          rw [← hcells j u hj]
          have hb : (ad.add j).block = ad.block := by unfold Addr.add; split <;> rfl
          exact World.cell?_of_block (a := ad.add j) (by rw [hb]; exact hadn)
        have hcp := run_copy_row (P := Tryz.prog) w1 31 31 3 5 g a (len1 - a) (cap1 - a) ad t.size c cur 5 (byteCells t).flatten Tryz.underlying31 sizeByte hcur (by rw [hfl]; show t.size = min t.size (len1 - a); omega) hcells1 hfit hone
        rw [hfl] at hcp hown
        rw [len_bytes] at hown
        obtain ⟨Y, hY⟩ : ∃ Y, Y = (cur.toList.take a ++ (byteCells t).flatten ++ cur.toList.drop (a + t.size)).toArray := ⟨_, rfl⟩
        rw [← hY] at hcp hown
        have q3 := hFI1.c3
        have hblk : (w1.setRow g Y).heap[L.nb i]? = w1.heap[L.nb i]? := setRow_other _ _ _ _ (fun e => hgne e.symm)
        have q4 : (w1.setRow g Y).cell? ⟨L.nb i, 4, none⟩ = some (.int .i64 x.version) := (World.cell?_of_block hblk).trans hFI1.c4
        have f4 : (w1.setRow g Y).frozen? ⟨L.nb i, 4, none⟩ = false := by
          obtain ⟨⟨cu, hc⟩, _⟩ := hFI1.blk
          simp [World.frozen?, hblk, hc]
        have e7 : ¬ len1 < a := by omega
        have e8 : ¬ cap1 = a := by omega
        have Ho := hide hown
        have HB := hide hblk
        have HW := hide hW
        have HF1 := hide hFI1
        have Hl := hide (And.intro hle1 (And.intro hps hlen1))
        clear h1 hcells hnF hfl hadlt hone hps hlen1 hbl hdat hcur hfit hown hgne hadn hcells1 hY hblk hFI1 hW hle1 hmaxl
        go_wp2
        go_ret
        unfold FWrote
        rw [if_neg H.out]
        have F1 := HF1.out
        have c2 : ∀ j, (w1.setRow g Y).cell? ⟨L.nb i, j, none⟩ = w1.cell? ⟨L.nb i, j, none⟩ := fun j => World.cell?_of_block HB.out
        have F2 : FileIs (w1.setRow g Y) (ext F w w1) L (.slice (some ⟨g, 0, none⟩) len1 cap1) i { x with data := over x.data a t } :=
          ⟨⟨by obtain ⟨cu, hc⟩ := F1.blk.ty; exact ⟨cu, HB.out.trans hc⟩, F1.blk.own⟩, (c2 0).trans F1.c0, (c2 1).trans F1.c1, (c2 2).trans F1.c2, (c2 3).trans F1.c3, (c2 4).trans F1.c4, by rw [over_cells]; exact Ho.out⟩
        have W2 : Wrote (L.nb i) (.slice (some ⟨g, 0, none⟩) len1 cap1) (.slice (some ⟨g, 0, none⟩) len1 cap1) w1 (w1.setRow g Y) :=
          ⟨rfl, rfl, rfl, by simp, fun k _ _ hk => setRow_other _ _ _ _ (fun e => hk (by rw [e]; rfl)), fun k hk => .inl hk⟩
        obtain ⟨q1, q2⟩ := file_version F2 (wrap64 (x.version + 1))
        refine ⟨rfl, _, ?_, (HW.out.trans W2).trans q2⟩
        unfold wroteNd
        rw [if_neg HT.out]
        exact q1.mono (ext_mono (by simp))
end Go.Proofs.YtdmdgnghaceibaaGreat.P
