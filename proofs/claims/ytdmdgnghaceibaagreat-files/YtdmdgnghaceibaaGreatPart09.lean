/- The program's List. -/
import Derived.Test.YtdmdgnghaceibaaGreatPart08
import Derived.Test.YtdmdgnghaceibaaGreatPart04
import Derived.Test.YtdmdgnghaceibaaGreatPart05
import Derived.Test.YtdmdgnghaceibaaGreatPart06
import Derived.Test.YtdmdgnghaceibaaGreatPart07
import Derived.Test.YtdmdgnghaceibaaGreatPart02
import Derived.Laws.IdiomStrings
import Derived.Laws.BytesArg
import Derived.Test.YtdmdgnghaceibaaGreatPart01
import Derived.Deep.DeepCutAuto
import Derived.Deep.Cut
import Derived.Deep.RegionHeld3
namespace Go.Proofs.YtdmdgnghaceibaaGreat.P
open M Go.ChangeShapes Go.WideShapes Go.ChangeAt Go.RowKit
set_option linter.unusedVariables false

def TextsAt (w : World) (v : Value) (l : List ByteArray) : Prop := Own w (fun _ => True) 9 1 v (strRows l)

/-- How List ends: what comes out lies in a block of its own. -/
def PEnds6 (w : World) (F : Nat → Prop) (s : Nat) (p : St × List ByteArray × Int) (e : Ending) (w' : World) : Prop :=
  ∃ (v : Value) (F' : Nat → Prop), e = .returned (.tuple #[v, .int .i64 p.2.2]) ∧ TextsAt w' v p.2.1 ∧ (∀ k, v.ownBlock = some k → w.heap.size ≤ k ∧ k < w'.heap.size ∧ ¬ F' k) ∧ SrvIs w' F' s p.1 ∧ (∀ k, F' k → ext F w w' k) ∧ Ext F w w'

theorem PEnds6.err {w w1 : World} {F : Nat → Prop} {s : Nat} {p : St × List ByteArray × Int} {c : Int} {st' : St} (hp : p = (st', [], c)) (h : Held w1 (ext F w w1) s st') (hx : Ext F w w1) : PEnds6 w F s p (.returned (.tuple #[.slice none 0 0, .int .i64 c])) (left w1 s) := by
  subst hp
  obtain ⟨h1, h2⟩ := left_close (w1 := w) h hx
  exact ⟨_, _, rfl, Own.nil _ _ _ _, fun k hk => by simp [Value.ownBlock] at hk, h1, fun k hk => hk, h2⟩

theorem seenIn_same (st : St) (name : ByteArray) : ∀ row : List Member, seenIn (tick st) name row = seenIn st name row
  | [] => rfl
  | m :: r => by
    unfold seenIn
    rw [seenIn_same st name r]
    rfl
theorem listUpto_same (st : St) (row : List Member) : ∀ k, listUpto (tick st) row k = listUpto st row k
  | 0 => rfl
  | k + 1 => by
    unfold listUpto
    rw [listUpto_same st row k]
    simp only [seenIn_same]
    rfl

theorem mDirE_at {st : St} {n : Int} {i : Nat} {f : Fid} {sp : Spot} (hf : find st n = some i) (hi : st.fids[i]? = some f) (hsp : f.way.getLast? = some sp) (hin : sp.n < st.nodes.length) : mDirE st (find st n) = if f.op then notDirE st sp.n else 3 := by
  rw [hf]
  unfold mDirE notDirE
  simp only
  rw [hi]
  simp only
  rw [show nodeOf f = sp.n by simp [nodeOf, hsp]]

set_option maxRecDepth 20000 in
set_option maxHeartbeats 1000000 in
theorem slist_any {w : World} {F : Nat → Prop} {s : Nat} {st : St} (n : Int) (h : SrvIs w F s st) (ok : POk st) (hF : ∀ k, F k → k < w.heap.size) (hnodes : st.nodes.length ≤ 1700000000000) (hsmall : ∀ row k, row.length ≤ 6 → k ≤ row.length → (listUpto st row k).length ≤ 1000000) :
    Calls Tryz.prog 19 #[.pointer (some ⟨s, 0, none⟩), .int .i64 n] w fun e w' => PEnds6 w F s (mList st n) e w' := by
  go_enter_defers Tryz.func19, Tryz.ntmps19
  go_wp2_with fail
  refine (enter_any h).mono ?_
  rintro e w1 ⟨rfl, hH, hx⟩
  clear h
  obtain ⟨t, L, bv, hS⟩ := hH
  have hx := hide hx
  rcases fid_cases hS ok.tick.fids n with ⟨hf, hno⟩ | ⟨k, i, f, p, rfl, hk, hf, hi, hn, ha, c7, c8, hp⟩
  · have H := hide (show mList st n = (tick st, [], 2) by
      have e : mDirE st (find st n) = 2 := by rw [show find st n = none from hf]; rfl
      unfold mList
      rw [if_neg (by rw [e]; decide), e])
    have hS := hide hS
    clear hf
    go_wp2_with (go_at_call 53; refine (opened_none hno).mono ?_; rintro e w' ⟨rfl, hw⟩; obtain rfl := hw.symm)
    have hD : Held w1 (ext F w w1) s (tick st) := ⟨t, L, bv, hS.out⟩
    refine leaves_cons (f := 43) (args := #[.pointer (some ⟨s, 0, none⟩)]) (by simp) (by simp [go_sem]) ?_
    refine (leave_deferred .returning hD).mono ?_
    rintro e u' w'' ⟨rfl, rfl, rfl⟩
    refine ⟨_, results_tmp2 rfl _ _ _, ?_⟩
    exact PEnds6.err H.out hD hx.out
  · obtain ⟨sp, hsp, d0, ⟨vr, d1, hvr⟩, hplt⟩ := place_last hp
    have hm : f ∈ st.fids := List.mem_of_getElem? hi
    obtain ⟨hin, hdirs, hlen6⟩ := (ok.way f hm).2 sp (List.mem_of_getLast? hsp)
    have e2 := mDirE_at (st := st) hf hi hsp hin
    cases hop : f.op with
    | false =>
      rw [hop] at c8 e2
      have H := hide (show mList st k = (tick st, [], 3) by
        unfold mList
        rw [if_neg (by rw [e2]; simp), e2]
        rfl)
      have hS := hide hS
      clear hf hi hn ha hp e2
      go_wp2_with (go_at_call 53; refine (opened_shut hk c7 c8).mono ?_; rintro e w' ⟨rfl, hw⟩; obtain rfl := hw.symm)
      have hD : Held w1 (ext F w w1) s (tick st) := ⟨t, L, bv, hS.out⟩
      refine leaves_cons (f := 43) (args := #[.pointer (some ⟨s, 0, none⟩)]) (by simp) (by simp [go_sem]) ?_
      refine (leave_deferred .returning hD).mono ?_
      rintro e u' w'' ⟨rfl, rfl, rfl⟩
      refine ⟨_, results_tmp2 rfl _ _ _, ?_⟩
      exact PEnds6.err H.out hD hx.out
    | true =>
      rw [hop] at c8 e2
      have HC := hide (checkDirectory_any p sp.n hS.tree (show sp.n < (tick st).nodes.length from hin) d0)
      have en : notDirE (tick st) sp.n = notDirE st sp.n := rfl
      rw [en] at HC
      by_cases he : notDirE st sp.n = 0
      · have H := hide (show mList st k = (tick st, listUpto st sp.row sp.row.length, 0) by
          have er : fidRow f = sp.row := by simp [fidRow, hsp]
          unfold mList
          rw [if_pos (by rw [e2]; exact he), show find st k = some i from hf]
          simp only
          rw [show st.fids[i]? = some f from hi]
          simp only
          rw [er])
        have HLi := hide (list_any (st := tick st) sp.row vr hS.tree hvr hdirs hlen6 ok.names hnodes (fun q hq => by rw [listUpto_same]; exact hsmall sp.row q hlen6 hq))
        rw [listUpto_same] at HLi
        rw [he] at HC
        have hS := hide hS
        clear hf hi hn ha hp e2 he en
        go_wp2_with (first | (go_at_call 53; refine (opened_open hk c7 c8).mono ?_; rintro e w' ⟨rfl, hw⟩; obtain rfl := hw.symm) | (go_at_call 54; refine HC.out.mono ?_; rintro e w' ⟨rfl, hw⟩; obtain rfl := hw.symm) | (go_at_call 55; refine HLi.out.mono ?_; rintro e w2 ⟨out, rfl, ht⟩; have HTo := hide ht; clear ht))
        have hB := HTo.out.below
        have hS2 := hS.out.below hB
        have hx2 : Ext F w w2 := hx.out.trans' (Ext.below hB)
        have hD : Held w2 (ext F w w1) s (tick st) := ⟨t, L, bv, hS2⟩
        refine leaves_cons (f := 43) (args := #[.pointer (some ⟨s, 0, none⟩)]) (by simp) (by simp [go_sem]) ?_
        refine (leave_deferred .returning hD).mono ?_
        rintro e u' w'' ⟨rfl, rfl, rfl⟩
        refine ⟨_, results_tmp2 rfl _ _ _, ?_⟩
        unfold PEnds6
        rw [H.out]
        have hs1 : s < w1.heap.size := hS.out.blk.lt
        have hlz : (left w2 s).heap.size = w2.heap.size := by simp [left]
        have hz1 := hx.out.size
        have hz2 := hB.size
        refine ⟨_, ext F w w1, rfl, ?_, fun q hq => ?_, hD.left, fun q hq => ext_mono (by rw [hlz]; exact hz2) q hq, ?_⟩
        · refine (Own.keptBlock HTo.out.own (fun q hq => ?_)).mono (fun _ _ => trivial)
          have := (HTo.out.own.2.2 q hq).1
          exact Below.heap_setCell w2 ⟨s, 3, none⟩ _ q (by show q ≠ s; omega)
        · have h9 := HTo.out.own.2.2 q hq
          have h7 := h9.1
          have h6 := h9.2
          refine ⟨by omega, by rw [hlz]; exact h6, fun hq => ?_⟩
          rcases hq with hq | hq
          · have := hF _ hq
            omega
          · omega
        · exact hx2.setCell (a := ⟨s, 3, none⟩) (by rcases hS.out.blk.own with h | h; exact .inl h; exact .inr h.1) _
      · have H := hide (show mList st k = (tick st, [], notDirE st sp.n) by
          unfold mList
          rw [if_neg (by rw [e2]; exact he), e2]
          rfl)
        have q1 : (notDirE st sp.n != 0) = true := by simpa using he
        have q2 : (notDirE st sp.n == 0) = false := by simpa using he
        have hS := hide hS
        clear hf hi hn ha hp e2 he en
        go_wp2_with (first | (go_at_call 53; refine (opened_open hk c7 c8).mono ?_; rintro e w' ⟨rfl, hw⟩; obtain rfl := hw.symm) | (go_at_call 54; refine HC.out.mono ?_; rintro e w' ⟨rfl, hw⟩; obtain rfl := hw.symm))
        have hD : Held w1 (ext F w w1) s (tick st) := ⟨t, L, bv, hS.out⟩
        refine leaves_cons (f := 43) (args := #[.pointer (some ⟨s, 0, none⟩)]) (by simp) (by simp [go_sem]) ?_
        refine (leave_deferred .returning hD).mono ?_
        rintro e u' w'' ⟨rfl, rfl, rfl⟩
        refine ⟨_, results_tmp2 rfl _ _ _, ?_⟩
        exact PEnds6.err H.out hD hx.out
end Go.Proofs.YtdmdgnghaceibaaGreat.P
/- Small laws that the program's calls have in common. -/
namespace Go.Proofs.YtdmdgnghaceibaaGreat.P
open M Go.ChangeShapes Go.WideShapes Go.ChangeAt Go.RowKit
set_option linter.unusedVariables false

theorem _root_.Go.Proofs.YtdmdgnghaceibaaGreat.Ext.weak {w w2 : World} {X F : Nat → Prop} (hx : Ext F w w2) (hF : ∀ k, F k → X k) : Ext X w w2 :=
  ⟨hx.os, hx.tape, hx.output, hx.size, fun k hk h => hx.block k hk (fun q => h (hF k q))⟩
theorem _root_.Go.Proofs.YtdmdgnghaceibaaGreat.Ext.toBelow {w w2 : World} {B : Nat} (hx : Ext (fun k => B ≤ k) w w2) (hB : B ≤ w.heap.size) : Below B w w2 :=
  ⟨hx.os, hx.tape, hx.output, hx.size, fun k hk => hx.block k (by omega) (by omega)⟩
/-- A block that a half does not own is as it was. -/
theorem ext_cell {F : Nat → Prop} {w w2 : World} (hx : Ext F w w2) {k j : Nat} {v : Value} (hF : ¬ F k) (h : w.cell? ⟨k, j, none⟩ = some v) : w2.cell? ⟨k, j, none⟩ = some v :=
  (World.cell?_of_block (hx.block k (World.block_lt_of_cell? w _ h) hF)).trans h

theorem mStat_tick (st : St) (n : Int) : (mStat st n).1 = tick st := by
  unfold mStat
  split
  · rfl
  · split
    · rfl
    · split
      · rfl
      · split
        · rfl
        · split
          · rfl
          · split <;> rfl

theorem mRead_tick (st : St) (n a c : Int) : (mRead st n a c).1 = tick st := by
  unfold mRead
  split
  · split
    · rfl
    · split
      · rfl
      · split <;> rfl
  · rfl

/-- 'string(l)' of bytes. -/
theorem bytes_string {w : World} {ao : Option Addr} {n c : Nat} {t : ByteArray} (h : BytesAt w (.slice ao n c) t) : (convert 31 9 (.slice ao n c)).run Tryz.prog w = .ok (.string t) w := by
  rcases h.opened with ⟨hv, hrows⟩ | ⟨g, cap, hv, _, _, _, _, hcell, _⟩
  · simp at hv
    obtain ⟨rfl, rfl, rfl⟩ := hv
    have e : t = ByteArray.empty := by
      have h0 : t.data.toList = [] := by
        unfold byteCells at hrows
        exact List.map_eq_nil_iff.1 hrows
      apply ByteArray.ext
      exact Array.toList_inj.1 h0
    rw [run_convert_bytes_nil w 31 5 Tryz.underlying31 Tryz.underlying5 0 0 9 Tryz.underlying9, e]
  · simp at hv
    obtain ⟨rfl, rfl, rfl⟩ := hv
    have hl : (byteCells t).length = t.data.toList.length := by simp [byteCells]
    have hb := run_convert_bytes_back (P := Tryz.prog) w 31 9 5 ⟨g, 0, none⟩ c t.data.toList Tryz.underlying31 Tryz.underlying5 Tryz.underlying9 (fun j hj => by
      have := hcell j [.int .u8 (t.data.toList[j]).toNat] 0 (.int .u8 (t.data.toList[j]).toNat) (by unfold byteCells; rw [List.getElem?_map, List.getElem?_eq_getElem hj]; rfl) rfl
      rw [Addr.add_lit]
      simpa using this)
    rw [hl, hb]

theorem BytesAt.drew {w : World} {v : Value} {t : ByteArray} (h : BytesAt w v t) : BytesAt w.drew v t := Own.keptBlock h (fun k _ => rfl)
theorem BytesAt.form {w : World} {v : Value} {t : ByteArray} (h : BytesAt w v t) : ∃ ao n c, v = .slice ao n c := by
  obtain ⟨ao, c, h⟩ := Own.form h
  exact ⟨ao, _, c, h⟩

theorem SrcIs.below {w w2 : World} {size : Nat} {v : Value} {news : List (List Value)} (h : SrcIs w size v news) (hb : Below w.heap.size w w2) : SrcIs w2 size v news := by
  obtain ⟨h1, h2, h3⟩ := h
  refine ⟨h1, h2, ?_⟩
  rcases h3 with h3 | ⟨ad, c, rfl, hc⟩
  · exact .inl h3
  · exact .inr ⟨ad, c, rfl, fun j u hj => (hb.cell (World.block_lt_of_cell? w _ (hc j u hj))).trans (hc j u hj)⟩

theorem mList_tick (st : St) (n : Int) : (mList st n).1 = tick st := by
  unfold mList
  split
  · split
    · rfl
    · split <;> rfl
  · rfl

theorem mList_few {st : St} (ok : POk st) (n : Int) : (mList st n).2.1.length ≤ 100 := by
  unfold mList
  split
  · split
    · simp
    · split
      · simp
      · rename_i i _ f _
        exact listUpto_few ok (fidRow f) _ (Nat.le_refl _)
  · simp

theorem mList_names {st : St} (ok : POk st) (n : Int) : ∀ s ∈ (mList st n).2.1, s.size ≤ 12 := by
  intro s hs
  unfold mList at hs
  split at hs
  · split at hs
    · simp at hs
    · split at hs
      · simp at hs
      · rename_i i _ f _
        have h := (mem_listUpto st (fidRow f) s _ (Nat.le_refl _)).1 hs
        have := seenIn_live h
        unfold liveNames at this
        obtain ⟨x, hx, rfl⟩ := List.mem_map.1 this
        exact ok.names x ((List.mem_filter.1 hx).1)
  · simp at hs

theorem TextsAt.drew {w : World} {v : Value} {t : List ByteArray} (h : TextsAt w v t) : TextsAt w.drew v t := Own.keptBlock h (fun k _ => rfl)
theorem TextsAt.form {w : World} {v : Value} {t : List ByteArray} (h : TextsAt w v t) : ∃ ao c, v = .slice ao t.length c := by
  obtain ⟨ao, c, h⟩ := Own.form h
  refine ⟨ao, c, ?_⟩
  rw [h]
  simp [strRows]

/-- '[]byte(s)' of a text. -/
theorem bytes_laid (w : World) (s : ByteArray) : ∃ c o, (convert 9 31 (.string s)).run Tryz.prog w = .ok (.slice (some ⟨w.heap.size, 0, none⟩) s.size c) (w.drew.alloc o) ∧ SrcIs (w.drew.alloc o) 1 (.slice (some ⟨w.heap.size, 0, none⟩) s.size c) (byteCells s) := by
  refine ⟨_, _, run_bytes_of_string w 9 31 5 s Tryz.underlying9 Tryz.underlying31 Tryz.underlying5, bytes_one s, ?_, .inr ⟨_, _, by rw [len_bytes], fun j u hj => ?_⟩⟩
  · intro r hr u hu
    unfold byteCells at hr
    obtain ⟨c, _, rfl⟩ := List.mem_map.1 hr
    simp at hu
    subst hu
    rfl
  · rw [Addr.add_lit]
    have hz : w.drew.heap.size = w.heap.size := rfl
    have hb := heap_alloc_new w.drew (.cells (bytesRow s (grownCap w s.size 0 5)) 5 ((bytesRow s (grownCap w s.size 0 5)).size, (bytesRow s (grownCap w s.size 0 5)).size + 1))
    rw [hz] at hb
    have hfl : (byteCells s).flatten = s.data.toList.map (fun b => Value.int .u8 b.toNat) := by
      unfold byteCells
      generalize s.data.toList = l
      induction l with
      | nil => rfl
      | cons c l ih => simp only [List.map_cons, List.flatten_cons, ih]; rfl
    rw [hfl] at hj
    have hjl : j < s.size := by have := M.lt_of_getElem? hj; simpa using this
    simp only [World.cell?, hb]
    have hbr : (bytesRow s (grownCap w s.size 0 5))[j]? = some u := by
      unfold bytesRow
      rw [Array.getElem?_append_left (by simpa using hjl)]
      rw [← Array.getElem?_toList, Array.toList_map]
      exact hj
    rw [Nat.zero_add]
    simp [hbr]

def nilPtr : Option Value → Bool
  | some (.pointer none) => true
  | _ => false
def noBool : Option Value → Bool
  | some (.bool false) => true
  | _ => false
theorem nilPtr_eq {o : Option Value} (h : nilPtr o = true) : o = some (.pointer none) := by
  unfold nilPtr at h
  split at h
  · rfl
  · cases h
theorem noBool_eq {o : Option Value} (h : noBool o = true) : o = some (.bool false) := by
  unfold noBool at h
  split at h
  · rfl
  · cases h

theorem zeroStands (n : Nat) (hn : n < 51) : Tryz.zeroCells110[7 + n * 2]? = some (.pointer none) ∧ Tryz.zeroCells110[7 + n * 2 + 1]? = some (.bool false) := by
  have h : (List.range 51).all (fun n => nilPtr (Tryz.zeroCells110[7 + n * 2]?) && noBool (Tryz.zeroCells110[7 + n * 2 + 1]?)) = true := by kernel_rfl
  rw [List.all_eq_true] at h
  have := h n (List.mem_range.2 hn)
  simp only [Bool.and_eq_true] at this
  exact ⟨nilPtr_eq this.1, noBool_eq this.2⟩

theorem fresh_zero {w : World} {F : Nat → Prop} {s : Nat} (hb : w.heap[s]? = some (.cells Tryz.zeroCells110 110 (0, 0))) (hF : F s) : Fresh w F s := by
  have c : ∀ j, w.cell? ⟨s, j, none⟩ = Tryz.zeroCells110[j]? := fun j => by simp [World.cell?, hb]
  refine ⟨⟨⟨_, hb⟩, hF⟩, ?_, ?_, ?_, ?_, ?_, fun n hn => ?_⟩
  · rw [c]; kernel_rfl
  · rw [c]; kernel_rfl
  · rw [c]; kernel_rfl
  · rw [c]; kernel_rfl
  · rw [c]; kernel_rfl
  · rw [c, c]; exact zeroStands n hn

theorem St0_ok : POk St0 := by
  refine ⟨⟨by simp [St0], by simp [St0]⟩, ⟨root, rfl, rfl⟩, by simp [St0], by simp [St0], ?_, ?_, ?_⟩
  · intro x hx
    simp [St0] at hx
    subst hx
    decide
  · intro x hx
    simp [St0] at hx
    subst hx
    simp [root, St0]
  · simp [liveNodes, St0, root]
theorem St0_plain : Plain St0 := by
  refine ⟨rfl, fun i x hx => ?_, by simp [St0]⟩
  have := M.lt_of_getElem? hx
  simp [St0] at this
  subst this
  simp [St0] at hx
  subst hx
  simp [root]

theorem St0_treed : Treed St0 := by
  refine ⟨⟨root, rfl, rfl, rfl, rfl⟩, fun i x hx hi => ?_, fun i j x y hx hy _ _ _ _ => ?_, by simp [St0], by simp [St0]⟩
  · have := M.lt_of_getElem? hx
    simp [St0] at this
    omega
  · have h1 := M.lt_of_getElem? hx
    have h2 := M.lt_of_getElem? hy
    simp [St0] at h1 h2
    omega
theorem St0_small : Small St0 := by
  intro x hx
  simp [St0] at hx
  subst hx
  decide

end Go.Proofs.YtdmdgnghaceibaaGreat.P
/- The reference's 'file', 'has', 'live', 'within'. -/
namespace Go.Proofs.YtdmdgnghaceibaaGreat
open M Go.ChangeShapes Go.WideShapes Go.ChangeAt Go.RowKit
set_option linter.unusedVariables false

set_option maxRecDepth 20000 in
set_option maxHeartbeats 1000000 in
/-- 'file': is an open fid at a file? -/
theorem file_any {w : World} {F : Nat → Prop} {r : Nat} {st : St} (o : Option Nat) (hoi : ∀ i, o = some i → i < st.fids.length) (h : RefIs w F r st) (ok : StOk st) :
    Calls Tryz.prog 150 #[.pointer (some ⟨r, 0, none⟩), .int .i64 (idxV o)] w fun e w' => e = .returned (.int .i64 (mFile st o)) ∧ Below w.heap.size w w' := by
  cases o with
  | none =>
    simp only [idxV]
    go_enter Tryz.func150, Tryz.ntmps150
    go_wp2
    go_ret
    exact ⟨rfl, Below.refl _ _⟩
  | some i =>
    simp only [idxV]
    have hi := hoi i rfl
    obtain ⟨f, hfi⟩ := getElem?_of_lt hi
    obtain ⟨s, hs, hsn, _, hno⟩ := ok.last (List.mem_of_getElem? hfi)
    obtain ⟨x, hx⟩ := getElem?_of_lt hsn
    have hg : isGone st (nodeOf f) = x.gone := by simp [isGone, hno, hx]
    have hd : isDir st (nodeOf f) = x.dir := by simp [isDir, hno, hx]
    have H := hide (show mFile st (some i) = if f.op then (if x.gone then 4 else if x.dir then 5 else 0) else 3 by simp [mFile, hfi, hg, hd])
    have i0 : (0 : Int) ≤ (i : Int) := by omega
    have i1 : (i : Int) < (st.fids.length : Int) := by omega
    have HRI := hide h
    obtain ⟨nv, lv, fv, hR⟩ := h
    obtain ⟨g, cap, rfl, hmax, hF, hb, hcell, hfz⟩ := hR.nodesAt ok.pos
    obtain ⟨fg, fcap, wv, rfl, hfm, hFg, _, _, _, _, co, cfz⟩ := hR.fids.at i f hfi
    have c2 := hR.c2
    have hgone := (hcell s.n x hx).2.2.2.2.2
    have hdir := (hcell s.n x hx).2.1
    have hc0 := hR.c0
    have Hnode := hide (node_any i f s hfi hs hsn HRI.out)
    unfold maxLen at hmax hfm
    clear hR hcell hfz cfz hb hF hx hfi hs hg hFg hd
    cases ho : f.op with
    | false =>
      rw [ho] at co H
      go_enter Tryz.func150, Tryz.ntmps150
      go_wp2
      go_ret
      exact ⟨by rw [H.out]; rfl, Below.refl _ _⟩
    | true =>
      rw [ho] at co H
      clear ho
      go_enter Tryz.func150, Tryz.ntmps150
      go_wp2_with fail
      refine Hnode.out.mono ?_
      rintro e w2 ⟨g', cap', hcc, rfl, hb2⟩
      have hgg : g' = g := by rw [hc0] at hcc; simp at hcc; exact hcc.1.symm
      subst hgg
      have Hb2 := hide hb2
      have q5 : w2.cell? ⟨g', s.n * 6 + 5, none⟩ = some (.bool x.gone) := (hb2.cell (World.block_lt_of_cell? w _ hgone)).trans hgone
      have q1 : w2.cell? ⟨g', s.n * 6 + 1, none⟩ = some (.bool x.dir) := (hb2.cell (World.block_lt_of_cell? w _ hdir)).trans hdir
      clear hb2 hcc hc0
      cases hxg : x.gone with
      | true =>
        rw [hxg] at q5 H
        go_wp2
        go_ret
        exact ⟨by rw [H.out]; rfl, Hb2.out⟩
      | false =>
        rw [hxg] at q5 H
        cases hxd : x.dir with
        | true =>
          rw [hxd] at q1 H
          go_wp2
          go_ret
          exact ⟨by rw [H.out]; rfl, Hb2.out⟩
        | false =>
          rw [hxd] at q1 H
          go_wp2
          go_ret
          exact ⟨by rw [H.out]; rfl, Hb2.out⟩

set_option maxHeartbeats 1000000 in
/-- 'live': how many of a row are not gone. -/
theorem live_core {w : World} {F : Nat → Prop} {r : Nat} {st : St} (row : List Member) (rb rc : Nat) (h : RefIs w F r st) (h0 : 0 < st.nodes.length) (hl : row.length ≤ maxLen)
    (hrow : ∀ i m, row[i]? = some m → w.cell? ⟨rb, i * 2, none⟩ = some (.int .i64 m.d) ∧ m.d < st.nodes.length) :
    Calls Tryz.prog 153 #[.pointer (some ⟨r, 0, none⟩), .slice (some ⟨rb, 0, none⟩) row.length rc] w fun e w' => e = .returned (.int .i64 (liveRow st row)) ∧ Below w.heap.size w w' := by
  obtain ⟨nv, lv, fv, h⟩ := h
  obtain ⟨g, cap, rfl, hmax, hF, hb, hcell, hfz⟩ := h.nodesAt h0
  have hc0 := h.c0
  unfold maxLen at hl hmax
  clear h hb hfz hF
  go_enter Tryz.func153, Tryz.ntmps153
  go_wp2
  go_loopw [5, 6] (fun c i wr => ∃ k : Nat, k ≤ row.length ∧ i = .int .i64 k ∧ c = .int .i64 (liveRow st (row.take k)) ∧ Below w.heap.size w wr) (fun _ i _ => row.length - (intOf i).toNat)
  case atStart => exact ⟨0, Nat.zero_le _, rfl, rfl, Below.refl _ _⟩
  case round =>
    obtain ⟨k, hk, rfl, rfl, hbl⟩ := hrel
    have HB := hide hbl
    have hle := liveRow_le st row k
    by_cases hlt : k < row.length
    · obtain ⟨m, hm⟩ := getElem?_of_lt hlt
      obtain ⟨cm, hd⟩ := hrow k m hm
      obtain ⟨x, hx⟩ := getElem?_of_lt hd
      have c5 := (hcell m.d x hx).2.2.2.2.2
      have cm' : wr.cell? ⟨rb, k * 2, none⟩ = some (.int .i64 m.d) := (hbl.cell (World.block_lt_of_cell? w _ cm)).trans cm
      have c5' : wr.cell? ⟨g, m.d * 6 + 5, none⟩ = some (.bool x.gone) := (hbl.cell (World.block_lt_of_cell? w _ c5)).trans c5
      have c0' : wr.cell? ⟨r, 0, none⟩ = some (.slice (some ⟨g, 0, none⟩) st.nodes.length cap) := (hbl.cell (World.block_lt_of_cell? w _ hc0)).trans hc0
      have Hsd := hide (liveRow_snoc st row k m hm)
      have hgx : isGone st m.d = x.gone := by simp [isGone, hx]
      rw [hgx] at Hsd
      have b1 : (m.d : Int) < (st.nodes.length : Int) := by omega
      have b2 : (k : Int) < (row.length : Int) := by omega
      have b3 : (0 : Int) ≤ (m.d : Int) := by omega
      have b4 : (0 : Int) ≤ (k : Int) := by omega
      clear hx hm hcell hrow cm c5 hc0 hbl hgx
      generalize liveRow st (row.take k) = q at *
      cases hxg : x.gone with
      | true =>
        rw [hxg] at c5' Hsd
        go_wp2
        go_quiet (fail)
        go_wp2
        go_roundw
        case rel => exact ⟨k + 1, by omega, by go_num, by rw [Hsd.out]; rfl, below_drewN HB.out _⟩
        case measure => simp [intOf]; omega
      | false =>
        rw [hxg] at c5' Hsd
        go_wp2
        go_quiet (fail)
        go_wp2
        go_roundw
        case rel => exact ⟨k + 1, by omega, by go_num, by rw [Hsd.out]; go_num, below_drewN HB.out _⟩
        case measure => simp [intOf]; omega
    · have e : row.take k = row := List.take_of_length_le (by omega)
      rw [e] at hle
      rw [e]
      go_wp2
      go_ret
      exact ⟨rfl, HB.out⟩

theorem live_nil {w : World} {r : Nat} :
    Calls Tryz.prog 153 #[.pointer (some ⟨r, 0, none⟩), .slice none 0 0] w fun e w' => e = .returned (.int .i64 0) ∧ w' = w := by
  go_enter Tryz.func153, Tryz.ntmps153
  go_wp2
  go_loop [5, 6] (fun c i => i = .int .i64 0 ∧ c = .int .i64 0) (fun _ _ => 0)
  case atStart => exact ⟨rfl, rfl⟩
  case round =>
    obtain ⟨rfl, rfl⟩ := hrel
    go_wp2
    go_ret
    exact ⟨rfl, rfl⟩

theorem live_any {w : World} {F : Nat → Prop} {r : Nat} {st : St} (row : List Member) (v : Value) (h : RefIs w F r st) (h0 : 0 < st.nodes.length) (hv : RowIs w F v row) (hok : RowOk st row) :
    Calls Tryz.prog 153 #[.pointer (some ⟨r, 0, none⟩), v] w fun e w' => e = .returned (.int .i64 (liveRow st row)) ∧ Below w.heap.size w w' := by
  rcases hv.opened with ⟨rfl, hn⟩ | ⟨g, cap, rfl, hcap, hmax, hF, hb, hcell, hfz⟩
  · have h0 : row = [] := List.map_eq_nil_iff.1 hn
    subst h0
    refine live_nil.mono ?_
    rintro e w' ⟨rfl, rfl⟩
    exact ⟨rfl, Below.refl _ _⟩
  · rw [List.length_map] at hcap ⊢
    refine live_core row g cap h h0 (by omega) (fun i m hm => ⟨?_, hok m (List.mem_of_getElem? hm)⟩)
    have hz : (row.map memberCells)[i]? = some (memberCells m) := by rw [List.getElem?_map, hm]; rfl
    exact hcell _ _ 0 _ hz rfl
end Go.Proofs.YtdmdgnghaceibaaGreat
/- The reference's 'Create': what is laid. -/
namespace Go.Proofs.YtdmdgnghaceibaaGreat
open M Go.ChangeShapes Go.WideShapes Go.ChangeAt Go.RowKit
set_option linter.unusedVariables false

theorem infoNode : (Tryz.prog.info? 184).map (fun i => (i.zero, i.size, i.bytes)) = some (some (.agg #[.string ⟨#[]⟩, .bool false, .int .i64 0, .string ⟨#[]⟩, .int .i64 0, .bool false]), 6, 64) := by kernel_rfl

theorem node_one (nodes : List Nd) : ∀ r ∈ nodes.map nodeCells, ∀ u ∈ r, u.oneCell' = true := by
  intro r hr u hu
  obtain ⟨x, _, rfl⟩ := List.mem_map.1 hr
  simp only [nodeCells, List.mem_cons, List.not_mem_nil, or_false] at hu
  rcases hu with rfl | rfl | rfl | rfl | rfl | rfl <;> rfl

/-- The list of nodes is another one. -/
theorem RefIs.setNodes {w : World} {F : Nat → Prop} {r : Nat} {nv nv' lv fv : Value} {c : Int} {nodes : List Nd} {laid : List Laid} {fids : List Fid} (blk : w.heap[r]? = some (.cells #[nv, lv, fv, .int .i64 c] 81 (0, 0))) (own : F r)
    (hn : Own w F 184 6 nv' (nodes.map nodeCells)) (hl : LaidsIs w F lv laid) (hf : FidsIs w F fv fids) : RefIs (w.setCell ⟨r, 0, none⟩ nv') F r ⟨nodes, laid, fids, c⟩ := by
  have hk : KeepT (fun e => e ≠ 81) F w (w.setCell ⟨r, 0, none⟩ nv') := (KeepT.refl _ _ _).setCell (a := ⟨r, 0, none⟩) blk (by simp) _
  refine ⟨nv', lv, fv, ?_, own, hn.keepT hk (by decide), hl.keepT hk (by decide) (by decide), hf.keepT hk (by decide) (by decide) (by decide)⟩
  rw [heap_setCell_same w r 0 _ _ _ blk]
  rfl

theorem node_close {wq w3 : World} {F : Nat → Prop} {r : Nat} {st : St} (x : Nd) {nv lv fv v3 : Value} (hR : RefHas wq F r st nv lv fv)
    (ho3 : Own w3 (ext F (wq.alloc (.cells (nodeCells x).toArray 184)) w3) 184 6 v3 (st.nodes.map nodeCells ++ [nodeCells x]))
    (hg3 : (wq.alloc (.cells (nodeCells x).toArray 184)).grownBy w3 nv.ownBlock) :
    (w3.heap[r]? = some (.cells #[nv, lv, fv, .int .i64 st.calls] 81 (0, 0))) ∧ RefIs (w3.setCell ⟨r, 0, none⟩ v3) (ext F wq (w3.setCell ⟨r, 0, none⟩ v3)) r (withNode st x) ∧ Ext F wq (w3.setCell ⟨r, 0, none⟩ v3) := by
  generalize hW : wq.alloc (.cells (nodeCells x).toArray 184) = W at *
  have z2 : W.heap.size = wq.heap.size + 1 := by rw [← hW]; simp
  have z3 := hg3.size
  have kW : ∀ (T : TypeId → Prop) (G : Nat → Prop), KeepT T G wq W := fun T G => by rw [← hW]; exact (KeepT.refl _ _ _).alloc _
  have hOW : Own W F 184 6 nv (st.nodes.map nodeCells) := hR.nodes.keepT (kW (fun _ => True) _) trivial
  have k13 : KeepT (fun e => e ≠ 184) F wq w3 := (kW _ _).trans (grown_keepT hOW hg3 _ (by simp))
  have m3 : ∀ k, F k → ext F wq w3 k := fun k h => .inl h
  have hsz : (w3.setCell ⟨r, 0, none⟩ v3).heap.size = w3.heap.size := by simp
  have hblk : w3.heap[r]? = some (.cells #[nv, lv, fv, .int .i64 st.calls] 81 (0, 0)) := (k13 r _ _ hR.own hR.blk (by decide)).trans hR.blk
  refine ⟨hblk, ?_, ?_⟩
  · refine RefIs.mono (F := ext F wq w3) ?_ (ext_mono (by rw [hsz]; exact Nat.le_refl _))
    refine RefIs.setNodes (nv := nv) hblk (.inl hR.own) ?_ ((hR.laid.keepT k13 (by decide) (by decide)).mono m3) ((hR.fids.keepT k13 (by decide) (by decide) (by decide)).mono m3)
    rw [List.map_append]
    refine Own.mono ho3 (fun k hk => ?_)
    rcases hk with hk | hk
    · exact .inl hk
    · exact .inr ⟨by omega, hk.2⟩
  · refine Ext.setCell ?_ (.inl hR.own) _
    have e1 : Ext F wq W := by rw [← hW]; exact (Ext.refl _ _).alloc _
    exact e1.trans' (grown_ext hOW hg3)

theorem zip_setWay {vs : List Value} {fids : List Fid} {i : Nat} {v wv : Value} {f : Fid} (way : List Spot) (hv : vs[i]? = some v) (hf : fids[i]? = some f) : (List.zipWith fidCells vs fids).set i ((fidCells v f).set 1 wv) = List.zipWith fidCells (vs.set i wv) (fids.set i { f with way := way }) := by
  apply List.ext_getElem?
  intro j
  rw [List.getElem?_set]
  by_cases hj : i = j
  · subst hj
    have h1 := M.lt_of_getElem? hv
    have h2 := M.lt_of_getElem? hf
    rw [if_pos rfl, if_pos (by rw [List.length_zipWith]; omega), List.getElem?_zipWith, List.getElem?_set_self h1, List.getElem?_set_self h2]
    rfl
  · rw [if_neg hj, List.getElem?_zipWith, List.getElem?_zipWith, List.getElem?_set_ne hj, List.getElem?_set_ne hj]

/-- The i-th fid's way is another one. -/
theorem RefIs.setWay {w : World} {F : Nat → Prop} {r g cap i : Nat} {st : St} {nv lv wv : Value} {f : Fid} {way : List Spot} (h : RefHas w F r st nv lv (.slice (some ⟨g, 0, none⟩) st.fids.length cap)) (hf : st.fids[i]? = some f) (hw : WayIs w F wv way) : RefIs (w.setCell ⟨g, i * 3 + 1, none⟩ wv) F r (setWay st i f way) := by
  obtain ⟨vs, hE, hO⟩ := h.fids
  obtain ⟨v, hv, _, hz⟩ := idx_row (c := fidCells) hE hf
  rcases hO.opened with ⟨hx, _⟩ | ⟨g', cap', hx, _, _, _, ⟨cur, hb⟩, _⟩
  · simp at hx
  simp at hx
  obtain ⟨rfl, _, _⟩ := hx
  have hk : KeepT (fun e => e ≠ 216) F w (w.setCell ⟨g, i * 3 + 1, none⟩ wv) := (KeepT.refl _ _ _).setCell (a := ⟨g, i * 3 + 1, none⟩) hb (by simp) _
  refine ⟨nv, lv, _, (hk r _ _ h.own h.blk (by decide)).trans h.blk, h.own, h.nodes.keepT hk (by decide), h.laid.keepT hk (by decide) (by decide), vs.set i wv, ?_, ?_⟩
  · have hE' := hE.imp (fun v f h => h.keepT hk (by decide) (by decide))
    refine ⟨by simp [M.setWay, hE.1], fun j v' f' hv' hf' => ?_⟩
    simp only [M.setWay] at hf'
    rw [List.getElem?_set] at hf' hv'
    by_cases hj : i = j
    · subst hj
      rw [if_pos rfl, if_pos (M.lt_of_getElem? hf)] at hf'
      rw [if_pos rfl, if_pos (M.lt_of_getElem? hv)] at hv'
      cases hf'
      cases hv'
      exact hw.keepT hk (by decide) (by decide)
    · rw [if_neg hj] at hf' hv'
      exact hE'.2 j v' f' hv' hf'
  · have := hO.set (k := 1) hz (by omega) wv
    rw [zip_setWay way hv hf] at this
    exact this

theorem src_node (w : World) (x : Nd) : SrcIs (w.alloc (.cells (nodeCells x).toArray 184)) 6 (.slice (some ⟨w.heap.size, 0, none⟩) 1 1) [nodeCells x] := by
  have := SrcIs.ofBlock (size := 6) (c := 1) (heap_alloc_new w (.cells (nodeCells x).toArray 184)) rfl (by
    intro u hu
    simp only [nodeCells, List.mem_cons, List.not_mem_nil, or_false] at hu
    rcases hu with rfl | rfl | rfl | rfl | rfl | rfl <;> rfl)
  simpa using this
end Go.Proofs.YtdmdgnghaceibaaGreat
/- The reference's 'Create'. -/
namespace Go.Proofs.YtdmdgnghaceibaaGreat
open M Go.ChangeShapes Go.WideShapes Go.ChangeAt Go.RowKit
set_option linter.unusedVariables false

theorem Ends.same {w w1 w' : World} {F : Nat → Prop} {r : Nat} {st' : St} {c : Int} {p : St × Int} {e : Ending} (hp : p = (st', c)) (he : e = .returned (.int .i64 c)) (h1 : RefIs w1 F r st') (hx : Ext F w w1) (hb : Below w1.heap.size w1 w') : Ends w F r p e w' := by
  subst hp
  exact ⟨he, (h1.below hb).mono (fun k hk => .inl hk), hx.trans' (Ext.below hb)⟩

theorem RefHas.kept {w w' : World} {F F' : Nat → Prop} {r : Nat} {st : St} {nv lv fv : Value} (h : RefHas w F r st nv lv fv) (hk : KeepT (fun _ => True) F w w') (hF : ∀ k, F k → F' k) : RefHas w' F' r st nv lv fv :=
  ⟨(hk r _ _ h.own h.blk trivial).trans h.blk, hF r h.own, (h.nodes.keepT hk trivial).mono hF, (h.laid.keepT hk trivial trivial).mono hF, (h.fids.keepT hk trivial trivial trivial).mono hF⟩

/-- The way of a fid is one spot longer. -/
theorem way_close {w1 wc w9 : World} {F F1 : Nat → Prop} {r i g cap : Nat} {st1 : St} {nv lv v9 : Value} {f : Fid} {way : List Spot} (hF1 : F1 = ext F w1 wc) (hXc : Ext F w1 wc) (hR : RefHas wc F1 r st1 nv lv (.slice (some ⟨g, 0, none⟩) st1.fids.length cap)) (hg : F1 g) (hf : st1.fids[i]? = some f)
    (hb : Below wc.heap.size wc w9) (hw : WayNew wc w9 F1 v9 way) :
    RefIs (w9.setCell ⟨g, i * 3 + 1, none⟩ v9) (ext F w1 (w9.setCell ⟨g, i * 3 + 1, none⟩ v9)) r (setWay st1 i f way) ∧ Ext F w1 (w9.setCell ⟨g, i * 3 + 1, none⟩ v9) := by
  subst hF1
  have h9 := hR.kept (F' := ext (ext F w1 wc) wc w9) (KeepT.below hb) (fun k hk => .inl hk)
  have hx : Ext (ext F w1 wc) wc (w9.setCell ⟨g, i * 3 + 1, none⟩ v9) := (Ext.below hb).setCell (.inl hg) _
  refine ⟨(RefIs.setWay h9 hf hw.isWay).mono (fun k hk => ?_), hXc.trans hx⟩
  exact ext_trans hXc.size (by have := hb.size; simpa using this) k (by rcases hk with hk | hk; exact .inl hk; exact .inr ⟨hk.1, by simpa using hk.2⟩)

theorem wrap_small (n : Nat) (h : n ≤ 1700000000000) : IntKind.i64.wrap (n : Int) = (n : Int) := by
  rw [IntKind.wrap_i64]
  omega

set_option maxRecDepth 20000 in
set_option maxHeartbeats 4000000 in
theorem create_any {w : World} {F : Nat → Prop} {r : Nat} {st : St} (n : Int) (name : ByteArray) (dir : Bool) (h : RefIs w F r st) (ok : StOk st) (hname : name.size ≤ maxLen) (hnod : st.nodes.length ≤ 1700000000000) (hlong : ∀ f ∈ st.fids, f.way.length ≤ 1700000000000) :
    Calls Tryz.prog 108 #[.pointer (some ⟨r, 0, none⟩), .int .i64 n, .string name, .bool dir] w fun e w' => Ends w F r (mCreate st n name dir) e w' := by
  cases hf : find st n with
  | none =>
    have H := hide (show mCreate st n name dir = (tick st, 2) by simp [mCreate, hf])
    go_enter Tryz.func108, Tryz.ntmps108
    go_wp2_with fail
    refine (call_any n h).mono ?_
    rintro e w1 ⟨rfl, h1, hx, hsz⟩
    have H1 := hide h1
    have Hx := hide hx
    rw [hf]
    clear hf h h1 hx hsz
    simp only [idxV]
    go_wp2
    go_ret
    exact Ends.same H.out rfl H1.out Hx.out (Below.refl _ _)
  | some i =>
    obtain ⟨f, hfi, _⟩ := find_some hf
    have hi := M.lt_of_getElem? hfi
    have hmem := List.mem_of_getElem? hfi
    obtain ⟨s, hs, hsn, hrok, hno⟩ := ok.last hmem
    obtain ⟨x, hx⟩ := getElem?_of_lt hsn
    have HD := hide (show mCreate st n name dir = if f.op then (tick st, (3 : Int)) else if x.gone then (tick st, 4) else if x.dir then
          (if isName name then (match seenIn st name s.row with
            | some _ => (tick st, 8)
            | none => match makerOf st s.row with
              | none => (tick st, 9)
              | some m => if 100 ≤ liveNodes st.nodes then (tick st, 11) else (mCreateAt (tick st) i f (newNd name dir m.d), 0))
          else (tick st, 6))
        else (tick st, 5) by simp only [mCreate, hf, hfi, hs, isGone, isDir, hx] <;> rfl)
    have i0 : (0 : Int) ≤ (i : Int) := by omega
    have i1 : (i : Int) < (st.fids.length : Int) := by omega
    go_enter Tryz.func108, Tryz.ntmps108
    go_wp2_with fail
    refine (call_any n h).mono ?_
    rintro e w1 ⟨rfl, h1, hx1, hsz⟩
    have H1 := hide h1
    have Hx := hide hx1
    have Hsz := hide hsz
    rw [hf]
    clear hf h hx1 hsz
    simp only [idxV]
    obtain ⟨nv, lv, fv, hR⟩ := h1
    obtain ⟨g, cap, rfl, hmax, hF, hb, hcell, hfz⟩ := hR.nodesAt ok.pos
    obtain ⟨fg, fcap, wv, rfl, hfm, hFg, _, hway, _, cw, co, cfz⟩ := FidsIs.at (fids := st.fids) hR.fids i f hfi
    obtain ⟨gw, wcap, rao, rc, rfl, hwpos, hwmax, hrow, s0, s1⟩ := hway.last s hs
    have hmax' : st.nodes.length ≤ maxLen := hmax
    have c2 := hR.c2
    have hc0 : w1.cell? ⟨r, 0, none⟩ = some (.slice (some ⟨g, 0, none⟩) st.nodes.length cap) := hR.c0
    have hgone := (hcell s.n x hx).2.2.2.2.2
    have hdir := (hcell s.n x hx).2.1
    have HR := hide hR
    have HC := hide hcell
    have Hfi := hide hfi
    have Hrow := hide hrow
    have Hway := hide hway
    have Hnode := hide (node_any (st := tick st) i f s hfi hs hsn H1.out)
    have Hname := hide (fun W => isName_any name W hname)
    have Hspot := hide (fun (W : World) (a1 : W.cell? ⟨fg, i * 3 + 1, none⟩ = some (.slice (some ⟨gw, 0, none⟩) f.way.length wcap)) (a2 : W.cell? ⟨gw, (f.way.length - 1) * 2, none⟩ = some (.int .i64 s.n)) (a3 : W.cell? ⟨gw, (f.way.length - 1) * 2 + 1, none⟩ = some (.slice rao s.row.length rc)) => spot_core fg (i * 3) gw f.way.length wcap s.n rao s.row.length rc W hwpos hwmax a1 a2 a3)
    have Hrok := hide hrok
    unfold maxLen at hmax hfm
    clear hR hcell hfz cfz hb hF hx hfi hs hFg hway hrow hmax'
    cases ho : f.op with
    | true =>
      rw [ho] at co HD
      go_wp2
      go_ret
      exact Ends.same HD.out rfl H1.out Hx.out (Below.refl _ _)
    | false =>
      rw [ho] at co HD
      clear ho
      go_wp2_with fail
      refine Hnode.out.mono ?_
      rintro e w2 ⟨g', cap', hcc, rfl, hb2⟩
      have hgg : g' = g := by rw [hc0] at hcc; simp at hcc; exact hcc.1.symm
      subst hgg
      have HB2 := hide hb2
      have q5 : w2.cell? ⟨g', s.n * 6 + 5, none⟩ = some (.bool x.gone) := (hb2.cell (World.block_lt_of_cell? w1 _ hgone)).trans hgone
      have q1 : w2.cell? ⟨g', s.n * 6 + 1, none⟩ = some (.bool x.dir) := (hb2.cell (World.block_lt_of_cell? w1 _ hdir)).trans hdir
      have q2 : w2.cell? ⟨r, 2, none⟩ = some (.slice (some ⟨fg, 0, none⟩) st.fids.length fcap) := (hb2.cell (World.block_lt_of_cell? w1 _ c2)).trans c2
      have qw : w2.cell? ⟨fg, i * 3 + 1, none⟩ = some (.slice (some ⟨gw, 0, none⟩) f.way.length wcap) := (hb2.cell (World.block_lt_of_cell? w1 _ cw)).trans cw
      have t0 : w2.cell? ⟨gw, (f.way.length - 1) * 2, none⟩ = some (.int .i64 s.n) := (hb2.cell (World.block_lt_of_cell? w1 _ s0)).trans s0
      have t1 : w2.cell? ⟨gw, (f.way.length - 1) * 2 + 1, none⟩ = some (.slice rao s.row.length rc) := (hb2.cell (World.block_lt_of_cell? w1 _ s1)).trans s1
      clear hb2 hcc
      cases hxg : x.gone with
      | true =>
        rw [hxg] at q5 HD
        go_wp2
        go_ret
        exact Ends.same HD.out rfl H1.out Hx.out HB2.out
      | false =>
        rw [hxg] at q5 HD
        cases hxd : x.dir with
        | false =>
          rw [hxd] at q1 HD
          go_wp2
          go_ret
          exact Ends.same HD.out rfl H1.out Hx.out HB2.out
        | true =>
          rw [hxd] at q1 HD
          go_wp2_with fail
          refine (Hname.out _).mono ?_
          rintro e w' ⟨rfl, hw⟩
          obtain rfl := hw.symm
          clear hw
          generalize isName name = bn at HD
          cases bn with
          | false =>
            go_wp2
            go_ret
            exact Ends.same HD.out rfl H1.out Hx.out HB2.out
          | true =>
            have hfd : ∀ (W : World), (Instr.field 212 (.agg #[.int .i64 s.n, .slice rao s.row.length rc]) 1).run Tryz.prog W = .ok (.slice rao s.row.length rc) W := fun _ => by kernel_rfl
            go_wp2_with fail
            refine (Hspot.out _ qw t0 t1).mono ?_
            rintro e w3 ⟨rfl, hb3⟩
            have HB3 : Hid (Below w1.heap.size w1 w3) := hide (HB2.out.trans (hb3.mono HB2.out.size))
            clear hb3
            go_wp2_with fail
            have Hseen := hide (seen_any (F := F) (st := tick st) s.row name (.slice rao s.row.length rc) (H1.out.below HB3.out) ok.pos (Hrow.out.keepT (KeepT.below (T := fun _ => True) HB3.out) trivial) Hrok.out)
            rw [tick_seen] at Hseen
            refine Hseen.out.mono ?_
            rintro e w4 ⟨rfl, hb4⟩
            have HB4 : Hid (Below w1.heap.size w1 w4) := hide (HB3.out.trans (hb4.mono HB3.out.size))
            clear hb4 Hseen
            cases hse : seenIn st name s.row with
            | some c =>
              rw [hse] at HD
              simp only [idxV]
              have c0' : (0 : Int) ≤ (c : Int) := by omega
              clear hse
              go_wp2
              go_ret
              exact Ends.same HD.out rfl H1.out Hx.out HB4.out
            | none =>
              rw [hse] at HD
              simp only [idxV]
              clear hse
              go_wp2
              go_loopw [13] (fun v wr => ∃ k : Nat, k ≤ s.row.length ∧ v = .int .i64 k ∧ makerOf st s.row = makerOf st (s.row.drop k) ∧ Below w1.heap.size w1 wr) (fun v _ => s.row.length - (intOf v).toNat)
              case atStart => exact ⟨0, Nat.zero_le _, rfl, rfl, HB4.out⟩
              case round =>
                obtain ⟨k, hk, rfl, hmk, hB⟩ := hrel
                have HB := hide hB
                have Hmk := hide hmk
                clear hmk HB2 HB3 HB4 q5 q1 q2 qw t0 t1
                by_cases hlt : k < s.row.length
                · obtain ⟨m, hm⟩ := getElem?_of_lt hlt
                  have hmd := Hrok.out m (List.mem_of_getElem? hm)
                  obtain ⟨y, hy⟩ := getElem?_of_lt hmd
                  have hz : (s.row.map memberCells)[k]? = some (memberCells m) := by rw [List.getElem?_map, hm]; rfl
                  rcases Hrow.out.opened with ⟨_, hnil⟩ | ⟨rb, rcap, hv, hrl, hrm, _, _, hrc, _⟩
                  · rw [hnil] at hz; simp at hz
                  simp only [Value.slice.injEq] at hv
                  obtain ⟨rfl, hln, rfl⟩ := hv
                  clear hln
                  have m0 := hrc _ _ 0 _ hz rfl
                  have m1 := hrc _ _ 1 _ hz rfl
                  simp only [Nat.add_zero] at m0
                  have y5 := (HC.out m.d y hy).2.2.2.2.2
                  have e0 : wr.cell? ⟨rb, k * 2, none⟩ = some (.int .i64 m.d) := (hB.cell (World.block_lt_of_cell? w1 _ m0)).trans m0
                  have e1 : wr.cell? ⟨rb, k * 2 + 1, none⟩ = some (.bool m.leave) := (hB.cell (World.block_lt_of_cell? w1 _ m1)).trans m1
                  have e5 : wr.cell? ⟨g', m.d * 6 + 5, none⟩ = some (.bool y.gone) := (hB.cell (World.block_lt_of_cell? w1 _ y5)).trans y5
                  have r0 : wr.cell? ⟨r, 0, none⟩ = some (.slice (some ⟨g', 0, none⟩) st.nodes.length cap) := (hB.cell (World.block_lt_of_cell? w1 _ hc0)).trans hc0
                  have Hmd := hide (makerOf_drop st s.row k m hm)
                  have hgy : isGone st m.d = y.gone := by simp [isGone, hy]
                  rw [hgy] at Hmd
                  have Hml := hide (show s.row.length ≤ maxLen by rw [List.length_map] at hrl; omega)
                  have hrm' := Hml.out
                  unfold maxLen at hrm'
                  have b1 : (m.d : Int) < (st.nodes.length : Int) := by omega
                  have b2 : (k : Int) < (s.row.length : Int) := by omega
                  have b3 : (0 : Int) ≤ (m.d : Int) := by omega
                  have b4 : (0 : Int) ≤ (k : Int) := by omega
                  clear hm hy hz hrc m0 m1 y5 hgy hB hrl hrm
                  cases hyg : y.gone with
                  | true =>
                    rw [hyg] at e5 Hmd
                    go_wp2
                    go_quiet (fail)
                    go_wp2
                    go_roundw
                    case rel => exact ⟨k + 1, by omega, by go_num, by rw [Hmk.out, Hmd.out]; rfl, below_drewN HB.out _⟩
                    case measure => simp [intOf]; omega
                  | false =>
                    rw [hyg] at e5 Hmd
                    cases hml : m.leave with
                    | false =>
                      rw [hml] at e1 Hmd
                      go_wp2
                      go_quiet (fail)
                      go_wp2
                      go_roundw
                      case rel => exact ⟨k + 1, by omega, by go_num, by rw [Hmk.out, Hmd.out]; rfl, below_drewN HB.out _⟩
                      case measure => simp [intOf]; omega
                    | true =>
                      rw [hml] at e1 Hmd
                      have Hfound := hide (show makerOf st s.row = some m by rw [Hmk.out, Hmd.out]; rfl)
                      rw [Hfound.out] at HD
                      go_wp2
                      go_quiet (fail)
                      go_wp2_with fail
                      refine (count_any (F := F) (st := tick st) ok.pos (H1.out.below (below_drewN HB.out _))).mono ?_
                      rintro e w' ⟨rfl, hw⟩
                      obtain rfl := hw.symm
                      clear hw
                      by_cases hcnt : 100 ≤ liveNodes st.nodes
                      · rw [if_pos hcnt] at HD
                        have hcnt' : (100 : Int) ≤ (liveCount (tick st).nodes : Int) := by have : liveCount (tick st).nodes = liveNodes st.nodes := rfl; omega
                        go_wp2
                        go_ret
                        exact Ends.same HD.out rfl H1.out Hx.out (below_drewN HB.out _)
                      · rw [if_neg hcnt] at HD
                        have hcnt' : ¬ (100 : Int) ≤ (liveCount (tick st).nodes : Int) := by have : liveCount (tick st).nodes = liveNodes st.nodes := rfl; omega
                        go_upto_region 23 with (fail)
                        have HRq : Hid (∀ q, RefHas (wr.drewN q) F r (tick st) (.slice (some ⟨g', 0, none⟩) st.nodes.length cap) lv (.slice (some ⟨fg, 0, none⟩) st.fids.length fcap)) := hide (fun q => by
                          have hk : KeepT (fun _ => True) F w1 (wr.drewN q) := KeepT.below (below_drewN HB.out q)
                          have hR := HR.out
                          exact ⟨(hk r _ _ hR.own hR.blk trivial).trans hR.blk, hR.own, hR.nodes.keepT hk trivial, hR.laid.keepT hk trivial trivial, hR.fids.keepT hk trivial trivial trivial⟩)
                        have u0 := fun (q : Nat) (o : Obj) => up (w := wr.drewN q) e0 o
                        have ur0 := fun (q : Nat) (o : Obj) => up (w := wr.drewN q) r0 o
                        go_cut [] (fun wc => RefIs wc (ext F w1 wc) r (withNode (tick st) (newNd name dir m.d)) ∧ Ext F w1 wc)
                        case first =>
                          go_region_law (refine step_append_Own _ rfl (.tmp 90) (.tmp 99) 77 rfl F 184 (.agg #[.string ⟨#[]⟩, .bool false, .int .i64 0, .string ⟨#[]⟩, .int .i64 0, .bool false]) 6 64 Tryz.underlying77 infoNode rfl ?_ (.slice (some ⟨g', 0, none⟩) st.nodes.length cap) ((tick st).nodes.map nodeCells) rfl ?_ (.slice (some ⟨wr.heap.size, 0, none⟩) 1 1) [nodeCells (newNd name dir m.d)] rfl ?_ (st.nodes.length + 1) ?_ ?_ ?_ ?_; decide; exact ((HRq.out _).nodes.keepT (T := fun _ => True) ((KeepT.refl _ _ _).alloc _) trivial); exact src_node (wr.drewN _) _; (rw [List.length_map]; rfl); (unfold maxLen; omega); omega; intro ao5 c5 w5 ho5 hg5 hb5; have Hcl := hide (node_close (newNd name dir m.d) (HRq.out _) ho5 hg5); have q9 : w5.cell? ⟨r, 0, none⟩ = some (.slice (some ⟨g', 0, none⟩) st.nodes.length cap) := (by simp [World.cell?, Hcl.out.1]); have f9 : w5.frozen? ⟨r, 0, none⟩ = false := (by simp [World.frozen?, Hcl.out.1]); clear ho5 hg5 hb5)
                          all_goals go_wp2
                          all_goals go_meet
                          all_goals exact ⟨Hcl.out.2.1.mono (ext_le HB.out.size (Nat.le_refl _)), (Ext.below (below_drewN HB.out _)).trans' Hcl.out.2.2⟩
                        case rest =>
                          obtain ⟨hRc, hXc⟩ := hcut
                          have HRc := hide hRc
                          have HXc := hide hXc
                          obtain ⟨st1, hst1⟩ : ∃ q, q = withNode (tick st) (newNd name dir m.d) := ⟨_, rfl⟩
                          obtain ⟨F1, hF1⟩ : ∃ G, G = ext F w1 wc := ⟨_, rfl⟩
                          rw [← hst1, ← hF1] at HRc
                          have hlen1 : st1.nodes.length = st.nodes.length + 1 := by rw [hst1]; simp [withNode, tick]
                          have hfid1 : st1.fids = st.fids := by rw [hst1]; rfl
                          obtain ⟨nc, lc, fc, hRh⟩ := HRc.out
                          obtain ⟨gc, ncap, rfl, _, _, _, _, _⟩ := hRh.nodesAt (by omega)
                          obtain ⟨fgc, fcc, wvc, rfl, hfmc, hFgc, _, hwayc, _, cwc, coc, cfzc⟩ := hRh.fids.at i f (by rw [hfid1]; exact Hfi.out)
                          obtain ⟨wsc, hEc, hOc⟩ := hwayc
                          obtain ⟨waoc, wcc, rfl⟩ := hOc.form
                          rw [zip_len hEc] at hOc cwc
                          rw [hfid1] at hRh hfmc
                          rw [hlen1] at hRh
                          have d0 := hRh.c0
                          have d2 := hRh.c2
                          have HRh := hide hRh
                          have HEc := hide hEc
                          have HOc := hide hOc
                          have hwl := hlong f hmem
                          have fw1 := cfzc (i * 3 + 1)
                          have fw2 := cfzc (i * 3 + 2)
                          have HFgc := hide hFgc
                          have Hst1 := hide hst1
                          have HF1 := hide hF1
                          have Hlen1 := hide hlen1
                          have Hfid1 := hide hfid1
                          unfold maxLen at hfmc
                          clear hRc hXc hst1 hF1 hlen1 hfid1 hRh hEc hOc hFgc cfzc u0 ur0 e0 e1 e5 r0 HRq
                          go_upto_region 26 with (at_builtin; refine wpList_append_Own _ rfl (.tmp 103) (.tmp 111) 214 rfl (fun _ => False) 212 (.agg #[.int .i64 0, .slice none 0 0]) 2 32 Tryz.underlying214 infoSpot rfl ?_ (.slice none 0 0) [] rfl (Own.nil _ _ _ _) (.slice waoc f.way.length wcc) (List.zipWith spotCells wsc f.way) rfl ?_ f.way.length ?_ ?_ ?_ ?_; decide; exact (SrcIs.ofOwn HOc.out (spot_one wsc f.way (row_forms HEc.out))); (rw [zip_len HEc.out]; simp); (unfold maxLen; omega); omega; intro ao7 k7 w7 ho7 hg7 hb7; have Ho7 := hide ho7; have Hb7 : Hid (Below wc.heap.size wc w7) := hide ⟨hg7.os, hg7.tape, hg7.output, hg7.size, fun k hk => hg7.block k hk (by simp [Value.ownBlock])⟩; clear ho7 hg7 hb7)
                          have p0 : w7.cell? ⟨r, 0, none⟩ = some (.slice (some ⟨gc, 0, none⟩) (st.nodes.length + 1) ncap) := (Hb7.out.cell (World.block_lt_of_cell? wc _ d0)).trans d0
                          have p2 : w7.cell? ⟨r, 2, none⟩ = some (.slice (some ⟨fgc, 0, none⟩) st.fids.length fcc) := (Hb7.out.cell (World.block_lt_of_cell? wc _ d2)).trans d2
                          have HE7 : Hid (Each (fun v s => RowIs w7 (ext F1 wc w7) v s.row) wsc f.way) := hide (HEc.out.imp (fun v s h => (h.keepT (KeepT.below (T := fun _ => True) Hb7.out) trivial).mono (fun k hk => .inl hk)))
                          have hwr : IntKind.i64.wrap (st.nodes.length : Int) = (st.nodes.length : Int) := wrap_small _ hnod
                          go_cut [] (fun wd => RefIs wd (ext F w1 wd) r (setWay st1 i f (f.way ++ [come st1 st.nodes.length])) ∧ Ext F w1 wd)
                          case first =>
                            go_region_law (first
                              | (refine step_append_Own _ rfl (.tmp 118) (.tmp 127) 214 rfl (ext (fun _ => False) wc (w8.alloc (.cells #[.int .i64 st.nodes.length, .slice ao8 (come st1 st.nodes.length).row.length cc8] 212))) 212 (.agg #[.int .i64 0, .slice none 0 0]) 2 32 Tryz.underlying214 infoSpot rfl ?_ (.slice ao7 f.way.length k7) (List.zipWith spotCells wsc f.way) rfl ?_ (.slice (some ⟨w8.heap.size, 0, none⟩) 1 1) [[.int .i64 st.nodes.length, .slice ao8 (come st1 st.nodes.length).row.length cc8]] rfl one_spot (f.way.length + 1) ?_ ?_ ?_ ?_; decide; exact (Own.keepT (T := fun _ => True) (F := ext (fun _ => False) wc w7) Ho7.out ((KeepT.below Hb8.out).alloc _) trivial).mono (ext_mono (by have := Hb8.out.size; simp; omega)); (rw [zip_len HEc.out]; rfl); (unfold maxLen; omega); omega; intro ao9 k9 w9 ho9 hg9 hb9; have Hfin := hide (way_append (come st1 st.nodes.length) Hb7.out.size HE7.out Ho7.out Hb8.out (Hrow8.out.mono (ext_le Hb7.out.size (Nat.le_refl _))) ho9 hg9); have Hb9 : Hid (Below wc.heap.size wc w9) := hide (Hb7.out.trans Hfin.out.2); have p29 : w9.cell? ⟨r, 2, none⟩ = some (.slice (some ⟨fgc, 0, none⟩) st.fids.length fcc) := (Hb9.out.cell (World.block_lt_of_cell? wc _ d2)).trans d2; have pw9 : w9.cell? ⟨fgc, i * 3 + 1, none⟩ = some (.slice waoc f.way.length wcc) := (Hb9.out.cell (World.block_lt_of_cell? wc _ cwc)).trans cwc; have pf9 : w9.frozen? ⟨fgc, i * 3 + 1, none⟩ = false := (Hb9.out.frozen (World.block_lt_of_cell? wc ⟨fgc, i * 3 + 1, none⟩ cwc)).trans fw1; clear ho9 hg9 hb9)
                              | (go_simp; go_at_call 138; refine (come_any (F := F1) (st := st1) st.nodes.length ?_ ?_).mono ?_; (rw [Hlen1.out]; omega); exact (HRc.out.below Hb7.out).drew; rintro e w8 ⟨ao8, cc8, rfl, hrow8, hb8⟩; have Hb8 : Hid (Below w7.heap.size w7 w8) := hide (((Below.refl _ w7).drew).trans hb8); have Hrow8 := hide hrow8; have p2' : w8.cell? ⟨r, 2, none⟩ = some (.slice (some ⟨fgc, 0, none⟩) st.fids.length fcc) := (Hb8.out.cell (World.block_lt_of_cell? w7 _ p2)).trans p2; have u2' := up p2'; clear hb8 hrow8))
                            all_goals go_wp2
                            all_goals go_meet
                            all_goals exact way_close HF1.out HXc.out (by rw [Hfid1.out]; exact HRh.out) HFgc.out (by rw [Hfid1.out]; exact Hfi.out) Hb9.out Hfin.out.1
                          case rest =>
                            obtain ⟨hRd, hXd⟩ := hcut
                            have HRd := hide hRd
                            have HXd := hide hXd
                            have hfi2 : (setWay st1 i f (f.way ++ [come st1 st.nodes.length])).fids[i]? = some { f with way := f.way ++ [come st1 st.nodes.length] } := by
                              simp only [setWay, Hfid1.out]
                              rw [List.getElem?_set_self hi]
                            obtain ⟨nd, ld, fd, hRdh⟩ := hRd
                            obtain ⟨fgd, fcd, wvd, rfl, hfmd, hFgd, _, _, _, _, cod, cfzd⟩ := hRdh.fids.at i _ hfi2
                            have hlen2 : (setWay st1 i f (f.way ++ [come st1 st.nodes.length])).fids.length = st.fids.length := by simp [setWay, Hfid1.out]
                            have x2 := hRdh.c2
                            rw [hlen2] at x2 hfmd
                            have HRdh := hide hRdh
                            have Hfi2 := hide hfi2
                            have HFgd := hide hFgd
                            have fz2 := cfzd (i * 3 + 2)
                            unfold maxLen at hfmd
                            clear hRdh hXd hfi2 hlen2 cfzd hFgd p0 p2
                            go_wp2
                            go_ret
                            have hop := RefIs.opened HRdh.out Hfi2.out
                            have hM : mCreate st n name dir = (mCreateAt (tick st) i f (newNd name dir m.d), 0) := HD.out
                            refine ⟨by rw [hM]; rfl, ?_, ?_⟩
                            · rw [hM]
                              have hE : mCreateAt (tick st) i f (newNd name dir m.d) = setOpen (setWay st1 i f (f.way ++ [come st1 st.nodes.length])) i { f with way := f.way ++ [come st1 st.nodes.length] } := by rw [Hst1.out]; rfl
                              rw [hE]
                              exact hop.mono (ext_le (by rw [Hsz.out]; exact Nat.le_refl _) (by simp))
                            · exact Hx.out.trans' (HXd.out.trans ((Ext.refl _ _).setCell (.inl HFgd.out) _))
                · have Hnone := hide (show makerOf st s.row = none by rw [Hmk.out, List.drop_eq_nil_of_le (by omega)]; rfl)
                  rw [Hnone.out] at HD
                  go_wp2
                  go_ret
                  exact Ends.same HD.out rfl H1.out Hx.out HB.out
end Go.Proofs.YtdmdgnghaceibaaGreat
/- A Server of the program beside the document's. -/
namespace Go.Proofs.YtdmdgnghaceibaaGreat.P
open M Go.ChangeShapes Go.WideShapes Go.ChangeAt Go.RowKit
set_option linter.unusedVariables false

/-- The two halves; X: the blocks that they may write, all new ones among them. -/
structure TwoIs (w : World) (X : Nat → Prop) (b s r : Nat) (F G : Nat → Prop) (st st' : St) : Prop where
  ty : Ty w b 76
  c0 : w.cell? ⟨b, 0, none⟩ = some (.pointer (some ⟨s, 0, none⟩))
  c1 : w.cell? ⟨b, 1, none⟩ = some (.pointer (some ⟨r, 0, none⟩))
  srv : SrvIs w F s st
  ref : RefIs w G r st'
  apart : ∀ k, F k → ¬ G k
  bF : ¬ F b
  bG : ¬ G b
  lo : ∀ k, F k ∨ G k → X k ∧ k < w.heap.size
  up : ∀ k, w.heap.size ≤ k → X k

def BothIs (w : World) (X : Nat → Prop) (b : Nat) (st : St) : Prop := ∃ s r F G, TwoIs w X b s r F G st st

section
variable {w w2 : World} {b s r : Nat} {X F G : Nat → Prop} {st st' st2 : St}

theorem TwoIs.below (h : TwoIs w X b s r F G st st') (hb : Below w.heap.size w w2) : TwoIs w2 X b s r F G st st' := by
  have hlt := h.ty.lt
  exact ⟨h.ty.below hb hlt, (hb.cell (p := ⟨b, 0, none⟩) hlt).trans h.c0, (hb.cell (p := ⟨b, 1, none⟩) hlt).trans h.c1, h.srv.kept (KeepX.below hb), h.ref.below hb, h.apart, h.bF, h.bG, fun k hk => ⟨(h.lo k hk).1, by have := (h.lo k hk).2; have := hb.size; omega⟩, fun k hk => h.up k (by have := hb.size; omega)⟩

theorem ty_of_block {w w2 : World} {b : Nat} {e : TypeId} (h : Ty w b e) (hb : w2.heap[b]? = w.heap[b]?) : Ty w2 b e := by
  obtain ⟨cur, h⟩ := h
  exact ⟨cur, hb.trans h⟩

/-- The program's half has gone on. -/
theorem TwoIs.srvStep (h : TwoIs w X b s r F G st st') (hs : SrvIs w2 (ext F w w2) s st2) (hx : Ext F w w2) : TwoIs w2 X b s r (ext F w w2) G st2 st' := by
  have hlt := h.ty.lt
  have hb := hx.block b hlt h.bF
  refine ⟨ty_of_block h.ty hb, (World.cell?_of_block hb).trans h.c0, (World.cell?_of_block hb).trans h.c1, hs, ?_, fun k hk hG => ?_, fun hk => ?_, h.bG, fun k hk => ?_, fun k hk => h.up k (by have := hx.size; omega)⟩
  · exact h.ref.kept (Ext.keepT hx (fun k hG hF => h.apart k hF hG))
  · rcases hk with hk | hk
    · exact h.apart k hk hG
    · have := (h.lo k (.inr hG)).2; omega
  · rcases hk with hk | hk
    · exact h.bF hk
    · omega
  · have hz := hx.size
    rcases hk with (hk | hk) | hk
    · have := h.lo k (.inl hk); exact ⟨this.1, by omega⟩
    · exact ⟨h.up k hk.1, hk.2⟩
    · have := h.lo k (.inr hk); exact ⟨this.1, by omega⟩

theorem TwoIs.srvStep' {F' : Nat → Prop} (h : TwoIs w X b s r F G st st') (hs : SrvIs w2 F' s st2) (hF : ∀ k, F' k → ext F w w2 k) (hx : Ext F w w2) : TwoIs w2 X b s r F' G st2 st' := by
  have h' := h.srvStep (st2 := st2) (hs.mono hF) hx
  exact ⟨h'.ty, h'.c0, h'.c1, hs, h'.ref, fun k hk => h'.apart k (hF k hk), fun hk => h'.bF (hF b hk), h'.bG, fun k hk => h'.lo k (by rcases hk with hk | hk; exact .inl (hF k hk); exact .inr hk), h'.up⟩

/-- The document's half has gone on. -/
theorem TwoIs.refStep (h : TwoIs w X b s r F G st st') (hs : RefIs w2 (ext G w w2) r st2) (hx : Ext G w w2) : TwoIs w2 X b s r F (ext G w w2) st st2 := by
  have hlt := h.ty.lt
  have hb := hx.block b hlt h.bG
  refine ⟨ty_of_block h.ty hb, (World.cell?_of_block hb).trans h.c0, (World.cell?_of_block hb).trans h.c1, h.srv.kept (KeepX.ofExt hx (fun k hF hG => h.apart k hF hG)), hs, fun k hF hk => ?_, h.bF, fun hk => ?_, fun k hk => ?_, fun k hk => h.up k (by have := hx.size; omega)⟩
  · rcases hk with hk | hk
    · exact h.apart k hF hk
    · have := (h.lo k (.inl hF)).2; omega
  · rcases hk with hk | hk
    · exact h.bG hk
    · omega
  · have hz := hx.size
    rcases hk with hk | (hk | hk)
    · have := h.lo k (.inl hk); exact ⟨this.1, by omega⟩
    · have := h.lo k (.inr hk); exact ⟨this.1, by omega⟩
    · exact ⟨h.up k hk.1, hk.2⟩

theorem TwoIs.refStep' {G' : Nat → Prop} (h : TwoIs w X b s r F G st st') (hs : RefIs w2 G' r st2) (hG : ∀ k, G' k → ext G w w2 k) (hx : Ext G w w2) : TwoIs w2 X b s r F G' st st2 := by
  have h' := h.refStep (st2 := st2) (hs.mono hG) hx
  exact ⟨h'.ty, h'.c0, h'.c1, h'.srv, hs, fun k hF hk => h'.apart k hF (hG k hk), h'.bF, fun hk => h'.bG (hG b hk), fun k hk => h'.lo k (by rcases hk with hk | hk; exact .inl hk; exact .inr (hG k hk)), h'.up⟩

theorem TwoIs.less {Y : Nat → Prop} (h : TwoIs w X b s r F G st st') (hF : ∀ k, F k ∨ G k → Y k) (hY : ∀ k, w.heap.size ≤ k → Y k) : TwoIs w Y b s r F G st st' :=
  ⟨h.ty, h.c0, h.c1, h.srv, h.ref, h.apart, h.bF, h.bG, fun k hk => ⟨hF k hk, (h.lo k hk).2⟩, hY⟩

theorem TwoIs.r3 (h : TwoIs w X b s r F G st st') : w.cell? ⟨r, 3, none⟩ = some (.int .i64 st'.calls) := by
  obtain ⟨nv, lv, fv, hR⟩ := h.ref
  exact hR.c3
end

theorem POk.stOk {st : St} (ok : POk st) : StOk st :=
  ⟨ok.pos, fun f hf => ⟨(ok.way f hf).1, fun s hs => ⟨((ok.way f hf).2 s hs).1, fun m hm => (((ok.way f hf).2 s hs).2.1 m hm).1⟩⟩, fun l hl m hm => ((ok.laid l hl).1 m hm).1, FidsOk.few ok.fids⟩

theorem num_any (n : Int) (w : World) : Calls Tryz.prog 27 #[.int .i64 n] w fun e w' => e = .returned (.int .i64 n) ∧ w' = w := by
  go_enter Tryz.func27, Tryz.ntmps27
  go_wp2
  go_ret
  exact ⟨rfl, rfl⟩

/-- A step, as a value. -/
def opV (kind k fid a b : Int) (text : ByteArray) (yes : Bool) (nv : Value) : Value := .agg #[.int .i64 kind, .int .i64 k, .int .i64 fid, .int .i64 a, .int .i64 b, .string text, .bool yes, nv]

end Go.Proofs.YtdmdgnghaceibaaGreat.P
/- Both halves: Attach, Clunk, Open. -/
namespace Go.Proofs.YtdmdgnghaceibaaGreat.P
open M Go.ChangeShapes Go.WideShapes Go.ChangeAt Go.RowKit
set_option linter.unusedVariables false

/-! ### The calls -/

set_option maxRecDepth 20000 in
set_option maxHeartbeats 1000000 in
theorem turned_attach {w : World} {X : Nat → Prop} {b : Nat} {st : St} (k fid a bb : Int) (text : ByteArray) (yes : Bool) (ao : Option Addr) (nl nc : Nat) (h : BothIs w X b st) (ok : POk st) :
    Calls Tryz.prog 65 #[.pointer (some ⟨b, 0, none⟩), .agg #[.int .i64 1, .int .i64 k, .int .i64 fid, .int .i64 a, .int .i64 bb, .string text, .bool yes, .slice ao nl nc]] w fun e w' => e = .returned (.bool true) ∧ BothIs w' X b (mAttach st fid).1 ∧ Ext X w w' := by
  obtain ⟨s, r, F, G, h⟩ := h
  have c0 := h.c0
  have c1 := h.c1
  have H := hide h
  have Hok := hide ok
  have HBox := hide (show ¬ F w.heap.size from fun hk => by have := (h.lo _ (.inl hk)).2; omega)
  have HbF := hide h.bF
  clear h ok
  have u0 := fun o => up c0 o
  have u1 := fun o => up c1 o
  go_enter Tryz.func65, Tryz.ntmps65
  go_wp2
  go_cut [5] (fun s5 wc => s5 = .int .i64 (mAttach st fid).2 ∧ Ext X w wc ∧ (∃ F', TwoIs wc X b s r F' G (mAttach st fid).1 st) ∧ wc.cell? ⟨w.heap.size, 2, none⟩ = some (.int .i64 fid))
  case first =>
    go_region_with (go_at_call 13; refine (attach_any (F := F) (st := st) fid ?_ Hok.out).mono ?_; exact (H.out.below (((Below.refl _ w).alloc (Nat.le_refl _) _).drew)).srv; rintro e w2 ⟨rfl, hs2, hx2⟩; have HS2 := hide hs2; have HX := hide hx2; have q2 : w2.cell? ⟨w.heap.size, 2, none⟩ = some (.int .i64 fid) := ext_cell HX.out HBox.out (by simp); clear hs2 hx2)
    all_goals go_wp2
    all_goals go_meet
    all_goals
      have hT2 := (H.out.below (((Below.refl _ w).alloc (Nat.le_refl _) (.cells #[.int .i64 1, .int .i64 k, .int .i64 fid, .int .i64 a, .int .i64 bb, .string text, .bool yes, .slice ao nl nc] 57)).drew)).srvStep HS2.out HX.out
      have e1 : Ext X w ((w.alloc (.cells #[.int .i64 1, .int .i64 k, .int .i64 fid, .int .i64 a, .int .i64 bb, .string text, .bool yes, .slice ao nl nc] 57)).drew) := Ext.below (((Below.refl _ w).alloc (Nat.le_refl _) _).drew)
      have e2 := HX.out.weak (fun k hk => (H.out.lo k (.inl hk)).1)
      exact ⟨rfl, e1.trans' e2, ⟨_, hT2⟩, q2⟩
  case rest =>
    obtain ⟨rfl, hbc, ⟨F', hT⟩, q2⟩ := hcut
    have v1 := hT.c1
    have HT := hide hT
    have HBc := hide hbc
    clear hT hbc
    go_wp2
    go_region_with (go_at_call 105; refine (Go.Proofs.YtdmdgnghaceibaaGreat.attach_any (F := G) (st := st) fid ?_ Hok.out.pos (by have := Hok.out.stOk.few; omega)).mono ?_; exact HT.out.ref.drew; rintro e w3 ⟨rfl, hr3, hx3⟩; have HR3 := hide hr3; have HX3 := hide hx3; clear hr3 hx3)
    all_goals
      have hT3 := (HT.out.below ((Below.refl _ wc).drew)).refStep HR3.out HX3.out
      have e3 := HX3.out.weak (fun k hk => (HT.out.lo k (.inr hk)).1)
      have HT2 := hide hT3
      have HBd := hide (HBc.out.trans' (((Ext.refl X wc).drew).trans' e3))
      clear hT3 e3
      go_wp2_with (go_at_call 27; refine (num_any _ _).mono ?_; rintro e w' ⟨rfl, hw⟩; obtain rfl := hw.symm)
      go_ret
      exact ⟨by simp, ⟨s, r, _, _, HT2.out⟩, HBd.out⟩

set_option maxRecDepth 20000 in
set_option maxHeartbeats 1000000 in
theorem turned_clunk {w : World} {X : Nat → Prop} {b : Nat} {st : St} (k fid a bb : Int) (text : ByteArray) (yes : Bool) (ao : Option Addr) (nl nc : Nat) (h : BothIs w X b st) (ok : POk st) :
    Calls Tryz.prog 65 #[.pointer (some ⟨b, 0, none⟩), .agg #[.int .i64 2, .int .i64 k, .int .i64 fid, .int .i64 a, .int .i64 bb, .string text, .bool yes, .slice ao nl nc]] w fun e w' => e = .returned (.bool true) ∧ BothIs w' X b (mClunk st fid).1 ∧ Ext X w w' := by
  obtain ⟨s, r, F, G, h⟩ := h
  have c0 := h.c0
  have c1 := h.c1
  have H := hide h
  have Hok := hide ok
  have HBox := hide (show ¬ F w.heap.size from fun hk => by have := (h.lo _ (.inl hk)).2; omega)
  have HbF := hide h.bF
  clear h ok
  have u0 := fun o => up c0 o
  have u1 := fun o => up c1 o
  go_enter Tryz.func65, Tryz.ntmps65
  go_wp2
  go_cut [5] (fun s5 wc => s5 = .int .i64 (mClunk st fid).2 ∧ Ext X w wc ∧ (∃ F', TwoIs wc X b s r F' G (mClunk st fid).1 st) ∧ wc.cell? ⟨w.heap.size, 2, none⟩ = some (.int .i64 fid))
  case first =>
    go_region_with (go_at_call 22; refine (clunk_any (F := F) (st := st) fid ?_ Hok.out).mono ?_; exact (H.out.below (((Below.refl _ w).alloc (Nat.le_refl _) _).drew)).srv; rintro e w2 ⟨rfl, hs2, hx2⟩; have HS2 := hide hs2; have HX := hide hx2; have q2 : w2.cell? ⟨w.heap.size, 2, none⟩ = some (.int .i64 fid) := ext_cell HX.out HBox.out (by simp); clear hs2 hx2)
    all_goals go_wp2
    all_goals go_meet
    all_goals
      have hT2 := (H.out.below (((Below.refl _ w).alloc (Nat.le_refl _) (.cells #[.int .i64 2, .int .i64 k, .int .i64 fid, .int .i64 a, .int .i64 bb, .string text, .bool yes, .slice ao nl nc] 57)).drew)).srvStep HS2.out HX.out
      have e1 : Ext X w ((w.alloc (.cells #[.int .i64 2, .int .i64 k, .int .i64 fid, .int .i64 a, .int .i64 bb, .string text, .bool yes, .slice ao nl nc] 57)).drew) := Ext.below (((Below.refl _ w).alloc (Nat.le_refl _) _).drew)
      have e2 := HX.out.weak (fun k hk => (H.out.lo k (.inl hk)).1)
      exact ⟨rfl, e1.trans' e2, ⟨_, hT2⟩, q2⟩
  case rest =>
    obtain ⟨rfl, hbc, ⟨F', hT⟩, q2⟩ := hcut
    have v1 := hT.c1
    have HT := hide hT
    have HBc := hide hbc
    clear hT hbc
    go_wp2
    go_region_with (go_at_call 106; refine (Go.Proofs.YtdmdgnghaceibaaGreat.clunk_any (F := G) (st := st) fid ?_ (by have := Hok.out.stOk.few; omega)).mono ?_; exact HT.out.ref.drew; rintro e w3 ⟨rfl, hr3, hx3⟩; have HR3 := hide hr3; have HX3 := hide hx3; clear hr3 hx3)
    all_goals
      have hT3 := (HT.out.below ((Below.refl _ wc).drew)).refStep HR3.out HX3.out
      have e3 := HX3.out.weak (fun k hk => (HT.out.lo k (.inr hk)).1)
      have HT2 := hide hT3
      have HBd := hide (HBc.out.trans' (((Ext.refl X wc).drew).trans' e3))
      clear hT3 e3
      go_wp2_with (go_at_call 27; refine (num_any _ _).mono ?_; rintro e w' ⟨rfl, hw⟩; obtain rfl := hw.symm)
      go_ret
      exact ⟨by simp, ⟨s, r, _, _, HT2.out⟩, HBd.out⟩

set_option maxRecDepth 20000 in
set_option maxHeartbeats 1000000 in
theorem turned_open {w : World} {X : Nat → Prop} {b : Nat} {st : St} (k fid a bb : Int) (text : ByteArray) (yes : Bool) (ao : Option Addr) (nl nc : Nat) (h : BothIs w X b st) (ok : POk st) :
    Calls Tryz.prog 65 #[.pointer (some ⟨b, 0, none⟩), .agg #[.int .i64 4, .int .i64 k, .int .i64 fid, .int .i64 a, .int .i64 bb, .string text, .bool yes, .slice ao nl nc]] w fun e w' => e = .returned (.bool true) ∧ BothIs w' X b (mOpen st fid).1 ∧ Ext X w w' := by
  obtain ⟨s, r, F, G, h⟩ := h
  have c0 := h.c0
  have c1 := h.c1
  have H := hide h
  have Hok := hide ok
  have HBox := hide (show ¬ F w.heap.size from fun hk => by have := (h.lo _ (.inl hk)).2; omega)
  have HbF := hide h.bF
  clear h ok
  have u0 := fun o => up c0 o
  have u1 := fun o => up c1 o
  go_enter Tryz.func65, Tryz.ntmps65
  go_wp2
  go_cut [5] (fun s5 wc => s5 = .int .i64 (mOpen st fid).2 ∧ Ext X w wc ∧ (∃ F', TwoIs wc X b s r F' G (mOpen st fid).1 st) ∧ wc.cell? ⟨w.heap.size, 2, none⟩ = some (.int .i64 fid))
  case first =>
    go_region_with (go_at_call 15; refine (open_any (F := F) (st := st) fid ?_ Hok.out).mono ?_; exact (H.out.below (((Below.refl _ w).alloc (Nat.le_refl _) _).drew)).srv; rintro e w2 ⟨rfl, hs2, hx2⟩; have HS2 := hide hs2; have HX := hide hx2; have q2 : w2.cell? ⟨w.heap.size, 2, none⟩ = some (.int .i64 fid) := ext_cell HX.out HBox.out (by simp); clear hs2 hx2)
    all_goals go_wp2
    all_goals go_meet
    all_goals
      have hT2 := (H.out.below (((Below.refl _ w).alloc (Nat.le_refl _) (.cells #[.int .i64 4, .int .i64 k, .int .i64 fid, .int .i64 a, .int .i64 bb, .string text, .bool yes, .slice ao nl nc] 57)).drew)).srvStep HS2.out HX.out
      have e1 : Ext X w ((w.alloc (.cells #[.int .i64 4, .int .i64 k, .int .i64 fid, .int .i64 a, .int .i64 bb, .string text, .bool yes, .slice ao nl nc] 57)).drew) := Ext.below (((Below.refl _ w).alloc (Nat.le_refl _) _).drew)
      have e2 := HX.out.weak (fun k hk => (H.out.lo k (.inl hk)).1)
      exact ⟨rfl, e1.trans' e2, ⟨_, hT2⟩, q2⟩
  case rest =>
    obtain ⟨rfl, hbc, ⟨F', hT⟩, q2⟩ := hcut
    have v1 := hT.c1
    have HT := hide hT
    have HBc := hide hbc
    clear hT hbc
    go_wp2
    go_region_with (go_at_call 107; refine (Go.Proofs.YtdmdgnghaceibaaGreat.open_any (F := G) (st := st) fid ?_ Hok.out.stOk).mono ?_; exact HT.out.ref.drew; rintro e w3 ⟨rfl, hr3, hx3⟩; have HR3 := hide hr3; have HX3 := hide hx3; clear hr3 hx3)
    all_goals
      have hT3 := (HT.out.below ((Below.refl _ wc).drew)).refStep HR3.out HX3.out
      have e3 := HX3.out.weak (fun k hk => (HT.out.lo k (.inr hk)).1)
      have HT2 := hide hT3
      have HBd := hide (HBc.out.trans' (((Ext.refl X wc).drew).trans' e3))
      clear hT3 e3
      go_wp2_with (go_at_call 27; refine (num_any _ _).mono ?_; rintro e w' ⟨rfl, hw⟩; obtain rfl := hw.symm)
      go_ret
      exact ⟨by simp, ⟨s, r, _, _, HT2.out⟩, HBd.out⟩

end Go.Proofs.YtdmdgnghaceibaaGreat.P
/- Both halves: Create. -/
namespace Go.Proofs.YtdmdgnghaceibaaGreat.P
open M Go.ChangeShapes Go.WideShapes Go.ChangeAt Go.RowKit
set_option linter.unusedVariables false

set_option maxRecDepth 20000 in
set_option maxHeartbeats 4000000 in
theorem turned_create {w : World} {X : Nat → Prop} {b : Nat} {st : St} (k fid a bb : Int) (text : ByteArray) (yes : Bool) (ao : Option Addr) (nl nc : Nat) (h : BothIs w X b st) (ok : POk st) (htext : text.size ≤ maxLen) (hnod : st.nodes.length ≤ 1700000000000) (hlong : ∀ f ∈ st.fids, f.way.length ≤ 1700000000000) :
    Calls Tryz.prog 65 #[.pointer (some ⟨b, 0, none⟩), .agg #[.int .i64 5, .int .i64 k, .int .i64 fid, .int .i64 a, .int .i64 bb, .string text, .bool yes, .slice ao nl nc]] w fun e w' => e = .returned (.bool true) ∧ BothIs w' X b (mCreate st fid text yes).1 ∧ Ext X w w' := by
  obtain ⟨s, r, F, G, h⟩ := h
  have c0 := h.c0
  have c1 := h.c1
  have H := hide h
  have Hok := hide ok
  have HbG := hide h.bG
  have HBoxG := hide (show ¬ G w.heap.size from fun hk => by have := (h.lo _ (.inr hk)).2; omega)
  have HBox := hide (show ¬ F w.heap.size from fun hk => by have := (h.lo _ (.inl hk)).2; omega)
  have HbF := hide h.bF
  clear h ok
  have u0 := fun o => up c0 o
  have u1 := fun o => up c1 o
  go_enter Tryz.func65, Tryz.ntmps65
  go_wp2
  go_cut [5] (fun s5 wc => s5 = .int .i64 (mCreate st fid text yes).2 ∧ Ext X w wc ∧ (∃ F', TwoIs wc X b s r F' G (mCreate st fid text yes).1 st) ∧ wc.cell? ⟨w.heap.size, 2, none⟩ = some (.int .i64 fid) ∧ wc.cell? ⟨w.heap.size, 5, none⟩ = some (.string text) ∧ wc.cell? ⟨w.heap.size, 6, none⟩ = some (.bool yes))
  case first =>
    go_region_held3 (fun ww => ww.cell? ⟨b, 0, none⟩ = some (.pointer (some ⟨s, 0, none⟩)) ∧ ww.cell? ⟨w.heap.size, 2, none⟩ = some (.int .i64 fid) ∧ ww.cell? ⟨w.heap.size, 5, none⟩ = some (.string text) ∧ ww.cell? ⟨w.heap.size, 6, none⟩ = some (.bool yes)) (go_keep) (first | (go_at_call 16; refine (create_any (F := F) (st := st) fid text yes ?_ Hok.out htext (by unfold maxLen; omega)).mono ?_; exact (H.out.below (((Below.refl _ w).alloc (Nat.le_refl _) _).drew)).srv; rintro e w2 ⟨rfl, hs2, hx2⟩; have HS2 := hide hs2; have HX := hide hx2; have q0 : w2.cell? ⟨b, 0, none⟩ = some (.pointer (some ⟨s, 0, none⟩)) := ext_cell HX.out HbF.out (u0 _); have q2 : w2.cell? ⟨w.heap.size, 2, none⟩ = some (.int .i64 fid) := ext_cell HX.out HBox.out (by simp); have q5 : w2.cell? ⟨w.heap.size, 5, none⟩ = some (.string text) := ext_cell HX.out HBox.out (by simp); have q6 : w2.cell? ⟨w.heap.size, 6, none⟩ = some (.bool yes) := ext_cell HX.out HBox.out (by simp); clear hs2 hx2))
    all_goals go_wp2
    all_goals go_meet
    all_goals
      have hT2 := (H.out.below (((Below.refl _ w).alloc (Nat.le_refl _) (.cells #[.int .i64 5, .int .i64 k, .int .i64 fid, .int .i64 a, .int .i64 bb, .string text, .bool yes, .slice ao nl nc] 57)).drew)).srvStep HS2.out HX.out
      have e1 : Ext X w ((w.alloc (.cells #[.int .i64 5, .int .i64 k, .int .i64 fid, .int .i64 a, .int .i64 bb, .string text, .bool yes, .slice ao nl nc] 57)).drew) := Ext.below (((Below.refl _ w).alloc (Nat.le_refl _) _).drew)
      have e2 := HX.out.weak (fun k hk => (H.out.lo k (.inl hk)).1)
      exact ⟨rfl, e1.trans' e2, ⟨_, hT2⟩, q2, q5, q6⟩
  case rest =>
    obtain ⟨rfl, hbc, ⟨F', hT⟩, q2, q5, q6⟩ := hcut
    have v1 := hT.c1
    have HT := hide hT
    have HBc := hide hbc
    clear hT hbc
    go_wp2
    go_region_held3 (fun ww => ww.cell? ⟨b, 1, none⟩ = some (.pointer (some ⟨r, 0, none⟩)) ∧ ww.cell? ⟨w.heap.size, 2, none⟩ = some (.int .i64 fid) ∧ ww.cell? ⟨w.heap.size, 5, none⟩ = some (.string text) ∧ ww.cell? ⟨w.heap.size, 6, none⟩ = some (.bool yes)) (go_keep) (first | (go_at_call 108; refine (Go.Proofs.YtdmdgnghaceibaaGreat.create_any (F := G) (st := st) fid text yes ?_ Hok.out.stOk htext hnod hlong).mono ?_; exact HT.out.ref.drew; rintro e w3 ⟨rfl, hr3, hx3⟩; have HR3 := hide hr3; have HX3 := hide hx3; have p1 : w3.cell? ⟨b, 1, none⟩ = some (.pointer (some ⟨r, 0, none⟩)) := ext_cell hx3 HbG.out v1; have p2 : w3.cell? ⟨w.heap.size, 2, none⟩ = some (.int .i64 fid) := ext_cell hx3 HBoxG.out q2; have p5 : w3.cell? ⟨w.heap.size, 5, none⟩ = some (.string text) := ext_cell hx3 HBoxG.out q5; have p6 : w3.cell? ⟨w.heap.size, 6, none⟩ = some (.bool yes) := ext_cell hx3 HBoxG.out q6; clear hr3 hx3))
    all_goals
      have hT3 := (HT.out.below ((Below.refl _ wc).drew)).refStep HR3.out HX3.out
      have e3 := HX3.out.weak (fun k hk => (HT.out.lo k (.inr hk)).1)
      have HT2 := hide hT3
      have HBd := hide (HBc.out.trans' (((Ext.refl X wc).drew).trans' e3))
      clear hT3 e3
      go_wp2_with (go_at_call 27; refine (num_any _ _).mono ?_; rintro e w' ⟨rfl, hw⟩; obtain rfl := hw.symm)
      go_ret
      exact ⟨by simp, ⟨s, r, _, _, HT2.out⟩, HBd.out⟩

end Go.Proofs.YtdmdgnghaceibaaGreat.P
/- Both halves: Walk. -/
namespace Go.Proofs.YtdmdgnghaceibaaGreat.P
open M Go.ChangeShapes Go.WideShapes Go.ChangeAt Go.RowKit
set_option linter.unusedVariables false

/-! ### Walk -/
set_option maxRecDepth 20000 in
set_option maxHeartbeats 8000000 in
theorem walked_any {w : World} {X : Nat → Prop} {b : Nat} {st : St} (k fid a bb : Int) (text : ByteArray) (yes : Bool) (names : List ByteArray) (ao : Option Addr) (nc : Nat) (h : BothIs w X b st) (ok : POk st) (hn : NamesAt w ao names) (hnB : ∀ a, ao = some a → names ≠ [] → ¬ X a.block) (hlong : ∀ f ∈ st.fids, f.way.length ≤ 1700000000000) :
    Calls Tryz.prog 66 #[.pointer (some ⟨b, 0, none⟩), .agg #[.int .i64 3, .int .i64 k, .int .i64 fid, .int .i64 a, .int .i64 bb, .string text, .bool yes, .slice ao names.length nc], .slice ao names.length nc] w fun e w' => e = .returned (.bool true) ∧ BothIs w' X b (mWalk st fid bb names).1 ∧ Ext X w w' := by
  obtain ⟨s, r, F, G, h⟩ := h
  have c0 := h.c0
  have c1 := h.c1
  have H := hide h
  have Hok := hide ok
  have Hn := hide hn
  have HbG := hide h.bG
  have HBoxG := hide (show ¬ G w.heap.size from fun hk => by have := (h.lo _ (.inr hk)).2; omega)
  have HBox := hide (show ¬ F w.heap.size from fun hk => by have := (h.lo _ (.inl hk)).2; omega)
  have HbF := hide h.bF
  have Hlong := hide hlong
  clear h ok hn hlong
  have u0 := fun o => up c0 o
  have u1 := fun o => up c1 o
  obtain ⟨W0, hW0⟩ : ∃ W0, W0 = (w.alloc (.cells #[.int .i64 3, .int .i64 k, .int .i64 fid, .int .i64 a, .int .i64 bb, .string text, .bool yes, .slice ao names.length nc] 57)) := ⟨_, rfl⟩
  have HW0 := hide hW0
  have HB0 := hide (show Below w.heap.size w W0 by rw [hW0]; exact (Below.refl _ w).alloc (Nat.le_refl _) _)
  have HN0 := hide (Hn.out.ext (Ext.below (F := X) HB0.out) hnB)
  go_enter Tryz.func66, Tryz.ntmps66
  go_wp2
  rw [← HW0.out]
  have v0 : W0.cell? ⟨b, 0, none⟩ = some (.pointer (some ⟨s, 0, none⟩)) := by rw [hW0]; exact u0 _
  have v1 : W0.cell? ⟨b, 1, none⟩ = some (.pointer (some ⟨r, 0, none⟩)) := by rw [hW0]; exact u1 _
  have x2 : W0.cell? ⟨w.heap.size, 2, none⟩ = some (.int .i64 fid) := by rw [hW0]; simp
  have x4 : W0.cell? ⟨w.heap.size, 4, none⟩ = some (.int .i64 bb) := by rw [hW0]; simp
  have x7 : W0.cell? ⟨w.heap.size, 7, none⟩ = some (.slice ao names.length nc) := by rw [hW0]; simp
  clear hW0
  go_cut [7, 8] (fun s7 s8 wc => s7 = .int .i64 (mWalk st fid bb names).2.1 ∧ s8 = .int .i64 (mWalk st fid bb names).2.2 ∧ Ext X w wc ∧ (∃ F', TwoIs wc X b s r F' G (mWalk st fid bb names).1 st) ∧ wc.cell? ⟨w.heap.size, 2, none⟩ = some (.int .i64 fid) ∧ wc.cell? ⟨w.heap.size, 4, none⟩ = some (.int .i64 bb) ∧ wc.cell? ⟨w.heap.size, 7, none⟩ = some (.slice ao names.length nc))
  case first =>
    go_region_held3 (fun ww => ww.cell? ⟨b, 0, none⟩ = some (.pointer (some ⟨s, 0, none⟩)) ∧ ww.cell? ⟨w.heap.size, 2, none⟩ = some (.int .i64 fid) ∧ ww.cell? ⟨w.heap.size, 4, none⟩ = some (.int .i64 bb) ∧ ww.cell? ⟨w.heap.size, 7, none⟩ = some (.slice ao names.length nc)) (go_keep) (first | (go_at_call 14; refine (walk_any (F := F) (st := st) fid bb names ao nc ?_ Hok.out ?_ ?_).mono ?_; exact (H.out.below HB0.out.drew).srv; exact HN0.out; exact (fun a ha hne hF => hnB a ha hne (H.out.lo _ (.inl hF)).1); rintro e w2 ⟨rfl, hs2, hx2⟩; have HS2 := hide hs2; have HX := hide hx2; have q0 : w2.cell? ⟨b, 0, none⟩ = some (.pointer (some ⟨s, 0, none⟩)) := ext_cell HX.out HbF.out v0; have q2 : w2.cell? ⟨w.heap.size, 2, none⟩ = some (.int .i64 fid) := ext_cell HX.out HBox.out x2; have q4 : w2.cell? ⟨w.heap.size, 4, none⟩ = some (.int .i64 bb) := ext_cell HX.out HBox.out x4; have q7 : w2.cell? ⟨w.heap.size, 7, none⟩ = some (.slice ao names.length nc) := ext_cell HX.out HBox.out x7; clear hs2 hx2))
    all_goals go_wp2
    all_goals go_meet
    all_goals
      have hT2 := (H.out.below HB0.out.drew).srvStep HS2.out HX.out
      have e1 : Ext X w W0.drew := Ext.below HB0.out.drew
      have e2 := HX.out.weak (fun k hk => (H.out.lo k (.inl hk)).1)
      exact ⟨rfl, rfl, e1.trans' e2, ⟨_, hT2⟩, q2, q4, q7⟩
  case rest =>
    obtain ⟨rfl, rfl, hbc, ⟨F', hT⟩, q2, q4, q7⟩ := hcut
    have v1 := hT.c1
    have HT := hide hT
    have HBc := hide hbc
    have HN2 := hide (Hn.out.ext hbc hnB)
    clear hT hbc
    go_wp2
    go_cut [9, 10] (fun s9 s10 wd => s9 = .int .i64 (mWalk st fid bb names).2.1 ∧ s10 = .int .i64 (mWalk st fid bb names).2.2 ∧ Ext X w wd ∧ ∃ F' G', TwoIs wd X b s r F' G' (mWalk st fid bb names).1 (mWalk st fid bb names).1)
    case first =>
      go_region_held3 (fun ww => ww.cell? ⟨b, 1, none⟩ = some (.pointer (some ⟨r, 0, none⟩)) ∧ ww.cell? ⟨w.heap.size, 2, none⟩ = some (.int .i64 fid) ∧ ww.cell? ⟨w.heap.size, 4, none⟩ = some (.int .i64 bb) ∧ ww.cell? ⟨w.heap.size, 7, none⟩ = some (.slice ao names.length nc)) (go_keep) (first | (go_at_call 112; refine (Go.Proofs.YtdmdgnghaceibaaGreat.walk_any (F := G) (st := st) fid bb names ao nc ?_ Hok.out.stOk ?_ ?_ Hlong.out).mono ?_; exact HT.out.ref.drew; exact HN2.out; exact (fun a ha hne hG => hnB a ha hne (H.out.lo _ (.inr hG)).1); rintro e w3 ⟨rfl, hr3, hx3⟩; have HR3 := hide hr3; have HX3 := hide hx3; have p1 : w3.cell? ⟨b, 1, none⟩ = some (.pointer (some ⟨r, 0, none⟩)) := ext_cell hx3 HbG.out v1; have p2 : w3.cell? ⟨w.heap.size, 2, none⟩ = some (.int .i64 fid) := ext_cell hx3 HBoxG.out q2; have p4 : w3.cell? ⟨w.heap.size, 4, none⟩ = some (.int .i64 bb) := ext_cell hx3 HBoxG.out q4; have p7 : w3.cell? ⟨w.heap.size, 7, none⟩ = some (.slice ao names.length nc) := ext_cell hx3 HBoxG.out q7; clear hr3 hx3))
      all_goals go_wp2
      all_goals go_meet
      all_goals
        have hT3 := (HT.out.below ((Below.refl _ wc).drew)).refStep HR3.out HX3.out
        have e3 := HX3.out.weak (fun k hk => (HT.out.lo k (.inr hk)).1)
        exact ⟨rfl, rfl, HBc.out.trans' (((Ext.refl X wc).drew).trans' e3), _, _, hT3⟩
    case rest =>
      obtain ⟨rfl, rfl, hbd, F2, G2, hT⟩ := hcut
      have HT2 := hide hT
      have HBd := hide hbd
      clear hT hbd
      go_wp2_with (go_at_call 27; refine (num_any _ _).mono ?_; rintro e w' ⟨rfl, hw⟩; obtain rfl := hw.symm)
      go_ret
      exact ⟨by simp, ⟨s, r, F2, G2, HT2.out⟩, HBd.out⟩
end Go.Proofs.YtdmdgnghaceibaaGreat.P
/- The reference's New. -/
namespace Go.Proofs.YtdmdgnghaceibaaGreat
open M Go.ChangeShapes Go.WideShapes Go.ChangeAt Go.RowKit
set_option linter.unusedVariables false

set_option maxRecDepth 20000 in
theorem new_any (w : World) : Calls Tryz.prog 64 #[] w fun e w' => e = .returned (.pointer (some ⟨w.heap.size + 1, 0, none⟩)) ∧
    w' = (w.alloc (.cells #[.string ⟨#[47]⟩, .bool true, .int .i64 (-1), .string ⟨#[]⟩, .int .i64 0, .bool false] 184)).alloc (.cells #[.slice (some ⟨w.heap.size, 0, none⟩) 1 1, .slice none 0 0, .slice none 0 0, .int .i64 0] 81) := by
  go_enter Tryz.func64, Tryz.ntmps64
  go_wp2
  go_ret
  exact ⟨rfl, rfl⟩

theorem new_is (w : World) : RefIs ((w.alloc (.cells #[.string ⟨#[47]⟩, .bool true, .int .i64 (-1), .string ⟨#[]⟩, .int .i64 0, .bool false] 184)).alloc (.cells #[.slice (some ⟨w.heap.size, 0, none⟩) 1 1, .slice none 0 0, .slice none 0 0, .int .i64 0] 81))
    (fun k => k = w.heap.size ∨ k = w.heap.size + 1) (w.heap.size + 1) St0 := by
  have h0 := Own.lit w #[.string ⟨#[47]⟩, .bool true, .int .i64 (-1), .string ⟨#[]⟩, .int .i64 0, .bool false] 184 6 rfl
  have h1 := heap_alloc_new (w.alloc (.cells #[.string ⟨#[47]⟩, .bool true, .int .i64 (-1), .string ⟨#[]⟩, .int .i64 0, .bool false] 184)) (.cells #[.slice (some ⟨w.heap.size, 0, none⟩) 1 1, .slice none 0 0, .slice none 0 0, .int .i64 0] 81)
  rw [show (w.alloc (.cells #[.string ⟨#[47]⟩, .bool true, .int .i64 (-1), .string ⟨#[]⟩, .int .i64 0, .bool false] 184)).heap.size = w.heap.size + 1 by simp] at h1
  refine ⟨_, _, _, h1, .inr rfl, ?_, ⟨[], ⟨rfl, fun i v x hv => by simp at hv⟩, Own.nil _ _ _ _⟩, ⟨[], ⟨rfl, fun i v x hv => by simp at hv⟩, Own.nil _ _ _ _⟩⟩
  exact (h0.keepT (T := fun _ => True) ((KeepT.refl _ _ _).alloc _) trivial).mono (fun k hk => .inl hk)
end Go.Proofs.YtdmdgnghaceibaaGreat
/- 'begun': a zero Server beside the document's. -/
namespace Go.Proofs.YtdmdgnghaceibaaGreat.P
open M Go.ChangeShapes Go.WideShapes Go.ChangeAt Go.RowKit
set_option linter.unusedVariables false

set_option maxRecDepth 20000 in
theorem begun_any (w : World) {X : Nat → Prop} (hX : ∀ k, w.heap.size ≤ k → X k) : Calls Tryz.prog 28 #[] w fun e w' => e = .returned (.pointer (some ⟨w.heap.size + 1 + 1 + 1, 0, none⟩)) ∧ BothIs w' X (w.heap.size + 1 + 1 + 1) St0 ∧ Below w.heap.size w w' := by
  go_enter Tryz.func28, Tryz.ntmps28
  go_wp2_with (go_at_call 64; refine (Go.Proofs.YtdmdgnghaceibaaGreat.new_any _).mono ?_; rintro e w' ⟨rfl, rfl⟩)
  go_ret
  obtain ⟨w1, hw1⟩ : ∃ w1, w1 = w.alloc (.cells Tryz.zeroCells110 110) := ⟨_, rfl⟩
  have hz1 : w1.heap.size = w.heap.size + 1 := by rw [hw1]; simp
  have hb1 : w1.heap[w.heap.size]? = some (.cells Tryz.zeroCells110 110 (0, 0)) := by rw [hw1]; exact heap_alloc_new w _
  have hn := Go.Proofs.YtdmdgnghaceibaaGreat.new_is w1
  rw [hz1] at hn
  rw [← hw1]
  obtain ⟨w2, hw2⟩ : ∃ w2, w2 = (w1.alloc (.cells #[.string ⟨#[47]⟩, .bool true, .int .i64 (-1), .string ⟨#[]⟩, .int .i64 0, .bool false] 184)).alloc (.cells #[.slice (some ⟨w.heap.size + 1, 0, none⟩) 1 1, .slice none 0 0, .slice none 0 0, .int .i64 0] 81) := ⟨_, rfl⟩
  rw [← hw2] at hn ⊢
  have hz2 : w2.heap.size = w.heap.size + 1 + 1 + 1 := by rw [hw2]; simp [hz1]
  have hB2 : Below w1.heap.size w1 w2 := by rw [hw2]; exact ((Below.refl _ w1).alloc (Nat.le_refl _) _).alloc (by simp) _
  obtain ⟨w3, hw3⟩ : ∃ w3, w3 = w2.alloc (.cells #[.pointer (some ⟨w.heap.size, 0, none⟩), .pointer (some ⟨w.heap.size + 1 + 1, 0, none⟩)] 76) := ⟨_, rfl⟩
  rw [← hw3]
  have hblk : w3.heap[w.heap.size + 1 + 1 + 1]? = some (.cells #[.pointer (some ⟨w.heap.size, 0, none⟩), .pointer (some ⟨w.heap.size + 1 + 1, 0, none⟩)] 76 (0, 0)) := by
    have := heap_alloc_new w2 (.cells #[.pointer (some ⟨w.heap.size, 0, none⟩), .pointer (some ⟨w.heap.size + 1 + 1, 0, none⟩)] 76)
    rw [hz2] at this
    rw [hw3]
    exact this
  have hB3 : Below w2.heap.size w2 w3 := by rw [hw3]; exact (Below.refl _ w2).alloc (Nat.le_refl _) _
  have hz3 : w3.heap.size = w.heap.size + 1 + 1 + 1 + 1 := by rw [hw3]; simp [hz2]
  refine ⟨rfl, ⟨w.heap.size, w.heap.size + 1 + 1, fun k => k = w.heap.size, _, ⟨_, hblk⟩, by simp [World.cell?, hblk], by simp [World.cell?, hblk], .inl ⟨fresh_zero ?_ rfl, rfl⟩, hn.below hB3, ?_, ?_, ?_, ?_, fun k hk => hX k (by omega)⟩, ?_⟩
  · exact (hB3.block _ (by omega)).trans ((hB2.block _ (by omega)).trans hb1)
  · intro k hk hG
    omega
  · omega
  · omega
  · intro k hk
    have hk' : w.heap.size ≤ k ∧ k < w3.heap.size := by omega
    exact ⟨hX k hk'.1, hk'.2⟩
  · have e1 : Below w.heap.size w w1 := by rw [hw1]; exact (Below.refl _ w).alloc (Nat.le_refl _) _
    exact (e1.trans (hB2.mono (by omega))).trans (hB3.mono (by omega))
end Go.Proofs.YtdmdgnghaceibaaGreat.P
