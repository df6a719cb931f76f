/- The program's List. -/
import Derived.Test.YtdmdgnghaceibaaGreatPart08
import Derived.Test.YtdmdgnghaceibaaGreatPart04
import Derived.Test.YtdmdgnghaceibaaGreatPart05
import Derived.Test.YtdmdgnghaceibaaGreatPart06
import Derived.Test.YtdmdgnghaceibaaGreatPart07
import Derived.Test.YtdmdgnghaceibaaGreatPart02
import Derived.Laws.IdiomStrings
import Derived.Laws.BytesArg
import Derived.Lib.SlBytesConst
namespace Go.Proofs.YtdmdgnghaceibaaGreat.P
open M Go.ChangeShapes Go.WideShapes Go.ChangeAt Go.RowKit
set_option linter.unusedVariables false

def TextsAt (w : World) (v : Value) (l : List ByteArray) : Prop := Own w (fun _ => True) 9 1 v (strRows l)

/-- How List ends: what comes out lies in a block of its own. -/
def PEnds6 (w : World) (F : Nat → Prop) (s : Nat) (p : St × List ByteArray × Int) (e : Ending) (w' : World) : Prop :=
  ∃ (v : Value) (F' : Nat → Prop), e = .returned (.tuple #[v, .int .i64 p.2.2]) ∧ TextsAt w' v p.2.1 ∧ (∀ k, v.ownBlock = some k → w.heap.size ≤ k ∧ k < w'.heap.size ∧ ¬ F' k) ∧ SrvIs w' F' s p.1 ∧ (∀ k, F' k → ext F w w' k) ∧ Ext F w w'

theorem PEnds6.err {w w1 : World} {F : Nat → Prop} {s : Nat} {p : St × List ByteArray × Int} {c : Int} {st' : St} (hp : p = (st', [], c)) (h : Held w1 (ext F w w1) s st') (hx : Ext F w w1) : PEnds6 w F s p (.returned (.tuple #[.slice none 0 0, .int .i64 c])) (left w1 s) := by
  subst hp
  obtain ⟨h1, h2⟩ := left_close (w1 := w) h hx
  exact ⟨_, _, rfl, Own.nil _ _ _ _, fun k hk => by simp [Value.ownBlock] at hk, h1, fun k hk => hk, h2⟩

theorem seenIn_same (st : St) (name : ByteArray) : ∀ row : List Member, seenIn (tick st) name row = seenIn st name row
  | [] => rfl
  | m :: r => by
    unfold seenIn
    rw [seenIn_same st name r]
    rfl
theorem listUpto_same (st : St) (row : List Member) : ∀ k, listUpto (tick st) row k = listUpto st row k
  | 0 => rfl
  | k + 1 => by
    unfold listUpto
    rw [listUpto_same st row k]
    simp only [seenIn_same]
    rfl

theorem mDirE_at {st : St} {n : Int} {i : Nat} {f : Fid} {sp : Spot} (hf : find st n = some i) (hi : st.fids[i]? = some f) (hsp : f.way.getLast? = some sp) (hin : sp.n < st.nodes.length) : mDirE st (find st n) = if f.op then notDirE st sp.n else 3 := by
  rw [hf]
  unfold mDirE notDirE
  simp only
  rw [hi]
  simp only
  rw [show nodeOf f = sp.n by simp [nodeOf, hsp]]

set_option maxRecDepth 20000 in
set_option maxHeartbeats 1000000 in
theorem slist_any {w : World} {F : Nat → Prop} {s : Nat} {st : St} (n : Int) (h : SrvIs w F s st) (ok : POk st) (hF : ∀ k, F k → k < w.heap.size) (hnodes : st.nodes.length ≤ 1700000000000) (hsmall : ∀ row k, row.length ≤ 6 → k ≤ row.length → (listUpto st row k).length ≤ 1000000) :
    Calls Tryz.prog 19 #[.pointer (some ⟨s, 0, none⟩), .int .i64 n] w fun e w' => PEnds6 w F s (mList st n) e w' := by
  go_enter_defers Tryz.func19, Tryz.ntmps19
  go_wp2_with fail
  refine (enter_any h).mono ?_
  rintro e w1 ⟨rfl, hH, hx⟩
  clear h
  obtain ⟨t, L, bv, hS⟩ := hH
  have hx := hide hx
  rcases fid_cases hS ok.tick.fids n with ⟨hf, hno⟩ | ⟨k, i, f, p, rfl, hk, hf, hi, hn, ha, c7, c8, hp⟩
  · have H := hide (show mList st n = (tick st, [], 2) by
      have e : mDirE st (find st n) = 2 := by rw [show find st n = none from hf]; rfl
      unfold mList
      rw [if_neg (by rw [e]; decide), e])
    have hS := hide hS
    clear hf
    go_wp2_with (go_at_call 53; refine (opened_none hno).mono ?_; rintro e w' ⟨rfl, hw⟩; obtain rfl := hw.symm)
    have hD : Held w1 (ext F w w1) s (tick st) := ⟨t, L, bv, hS.out⟩
    refine leaves_cons (f := 43) (args := #[.pointer (some ⟨s, 0, none⟩)]) (by simp) (by simp [go_sem]) ?_
    refine (leave_deferred .returning hD).mono ?_
    rintro e u' w'' ⟨rfl, rfl, rfl⟩
    refine ⟨_, results_tmp2 rfl _ _ _, ?_⟩
    exact PEnds6.err H.out hD hx.out
  · obtain ⟨sp, hsp, d0, ⟨vr, d1, hvr⟩, hplt⟩ := place_last hp
    have hm : f ∈ st.fids := List.mem_of_getElem? hi
    obtain ⟨hin, hdirs, hlen6⟩ := (ok.way f hm).2 sp (List.mem_of_getLast? hsp)
    have e2 := mDirE_at (st := st) hf hi hsp hin
    cases hop : f.op with
    | false =>
      rw [hop] at c8 e2
      have H := hide (show mList st k = (tick st, [], 3) by
        unfold mList
        rw [if_neg (by rw [e2]; simp), e2]
        rfl)
      have hS := hide hS
      clear hf hi hn ha hp e2
      go_wp2_with (go_at_call 53; refine (opened_shut hk c7 c8).mono ?_; rintro e w' ⟨rfl, hw⟩; obtain rfl := hw.symm)
      have hD : Held w1 (ext F w w1) s (tick st) := ⟨t, L, bv, hS.out⟩
      refine leaves_cons (f := 43) (args := #[.pointer (some ⟨s, 0, none⟩)]) (by simp) (by simp [go_sem]) ?_
      refine (leave_deferred .returning hD).mono ?_
      rintro e u' w'' ⟨rfl, rfl, rfl⟩
      refine ⟨_, results_tmp2 rfl _ _ _, ?_⟩
      exact PEnds6.err H.out hD hx.out
    | true =>
      rw [hop] at c8 e2
      have HC := hide (checkDirectory_any p sp.n hS.tree (show sp.n < (tick st).nodes.length from hin) d0)
      have en : notDirE (tick st) sp.n = notDirE st sp.n := rfl
      rw [en] at HC
      by_cases he : notDirE st sp.n = 0
      · have H := hide (show mList st k = (tick st, listUpto st sp.row sp.row.length, 0) by
          have er : fidRow f = sp.row := by simp [fidRow, hsp]
          unfold mList
          rw [if_pos (by rw [e2]; exact he), show find st k = some i from hf]
          simp only
          rw [show st.fids[i]? = some f from hi]
          simp only
          rw [er])
        have HLi := hide (list_any (st := tick st) sp.row vr hS.tree hvr hdirs hlen6 ok.names hnodes (fun q hq => by rw [listUpto_same]; exact hsmall sp.row q hlen6 hq))
        rw [listUpto_same] at HLi
        rw [he] at HC
        have hS := hide hS
        clear hf hi hn ha hp e2 he en
        go_wp2_with (first | (go_at_call 53; refine (opened_open hk c7 c8).mono ?_; rintro e w' ⟨rfl, hw⟩; obtain rfl := hw.symm) | (go_at_call 54; refine HC.out.mono ?_; rintro e w' ⟨rfl, hw⟩; obtain rfl := hw.symm) | (go_at_call 55; refine HLi.out.mono ?_; rintro e w2 ⟨out, rfl, ht⟩; have HTo := hide ht; clear ht))
        have hB := HTo.out.below
        have hS2 := hS.out.below hB
        have hx2 : Ext F w w2 := hx.out.trans' (Ext.below hB)
        have hD : Held w2 (ext F w w1) s (tick st) := ⟨t, L, bv, hS2⟩
        refine leaves_cons (f := 43) (args := #[.pointer (some ⟨s, 0, none⟩)]) (by simp) (by simp [go_sem]) ?_
        refine (leave_deferred .returning hD).mono ?_
        rintro e u' w'' ⟨rfl, rfl, rfl⟩
        refine ⟨_, results_tmp2 rfl _ _ _, ?_⟩
        unfold PEnds6
        rw [H.out]
        have hs1 : s < w1.heap.size := hS.out.blk.lt
        have hlz : (left w2 s).heap.size = w2.heap.size := by simp [left]
        have hz1 := hx.out.size
        have hz2 := hB.size
        refine ⟨_, ext F w w1, rfl, ?_, fun q hq => ?_, hD.left, fun q hq => ext_mono (by rw [hlz]; exact hz2) q hq, ?_⟩
        · refine (Own.keptBlock HTo.out.own (fun q hq => ?_)).mono (fun _ _ => trivial)
          have := (HTo.out.own.2.2 q hq).1
          exact Below.heap_setCell w2 ⟨s, 3, none⟩ _ q (by show q ≠ s; omega)
        · have h9 := HTo.out.own.2.2 q hq
          have h7 := h9.1
          have h6 := h9.2
          refine ⟨by omega, by rw [hlz]; exact h6, fun hq => ?_⟩
          rcases hq with hq | hq
          · have := hF _ hq
            omega
          · omega
        · exact hx2.setCell (a := ⟨s, 3, none⟩) (by rcases hS.out.blk.own with h | h; exact .inl h; exact .inr h.1) _
      · have H := hide (show mList st k = (tick st, [], notDirE st sp.n) by
          unfold mList
          rw [if_neg (by rw [e2]; exact he), e2]
          rfl)
        have q1 : (notDirE st sp.n != 0) = true := by simpa using he
        have q2 : (notDirE st sp.n == 0) = false := by simpa using he
        have hS := hide hS
        clear hf hi hn ha hp e2 he en
        go_wp2_with (first | (go_at_call 53; refine (opened_open hk c7 c8).mono ?_; rintro e w' ⟨rfl, hw⟩; obtain rfl := hw.symm) | (go_at_call 54; refine HC.out.mono ?_; rintro e w' ⟨rfl, hw⟩; obtain rfl := hw.symm))
        have hD : Held w1 (ext F w w1) s (tick st) := ⟨t, L, bv, hS.out⟩
        refine leaves_cons (f := 43) (args := #[.pointer (some ⟨s, 0, none⟩)]) (by simp) (by simp [go_sem]) ?_
        refine (leave_deferred .returning hD).mono ?_
        rintro e u' w'' ⟨rfl, rfl, rfl⟩
        refine ⟨_, results_tmp2 rfl _ _ _, ?_⟩
        exact PEnds6.err H.out hD hx.out
end Go.Proofs.YtdmdgnghaceibaaGreat.P
/- Small laws that the program's calls have in common. -/
namespace Go.Proofs.YtdmdgnghaceibaaGreat.P
open M Go.ChangeShapes Go.WideShapes Go.ChangeAt Go.RowKit
set_option linter.unusedVariables false

theorem _root_.Go.Proofs.YtdmdgnghaceibaaGreat.Ext.weak {w w2 : World} {X F : Nat → Prop} (hx : Ext F w w2) (hF : ∀ k, F k → X k) : Ext X w w2 :=
  ⟨hx.os, hx.tape, hx.output, hx.size, fun k hk h => hx.block k hk (fun q => h (hF k q))⟩
theorem _root_.Go.Proofs.YtdmdgnghaceibaaGreat.Ext.toBelow {w w2 : World} {B : Nat} (hx : Ext (fun k => B ≤ k) w w2) (hB : B ≤ w.heap.size) : Below B w w2 :=
  ⟨hx.os, hx.tape, hx.output, hx.size, fun k hk => hx.block k (by omega) (by omega)⟩
/-- A block that a half does not own is as it was. -/
theorem ext_cell {F : Nat → Prop} {w w2 : World} (hx : Ext F w w2) {k j : Nat} {v : Value} (hF : ¬ F k) (h : w.cell? ⟨k, j, none⟩ = some v) : w2.cell? ⟨k, j, none⟩ = some v :=
  (World.cell?_of_block (hx.block k (World.block_lt_of_cell? w _ h) hF)).trans h

theorem mStat_tick (st : St) (n : Int) : (mStat st n).1 = tick st := by
  unfold mStat
  split
  · rfl
  · split
    · rfl
    · split
      · rfl
      · split
        · rfl
        · split
          · rfl
          · split <;> rfl

theorem mRead_tick (st : St) (n a c : Int) : (mRead st n a c).1 = tick st := by
  unfold mRead
  split
  · split
    · rfl
    · split
      · rfl
      · split <;> rfl
  · rfl

/-- 'string(l)' of bytes. -/
theorem bytes_string {w : World} {ao : Option Addr} {n c : Nat} {t : ByteArray} (h : BytesAt w (.slice ao n c) t) : (convert 31 9 (.slice ao n c)).run Tryz.prog w = .ok (.string t) w := by
  rcases h.opened with ⟨hv, hrows⟩ | ⟨g, cap, hv, _, _, _, _, hcell, _⟩
  · simp at hv
    obtain ⟨rfl, rfl, rfl⟩ := hv
    have e : t = ByteArray.empty := by
      have h0 : t.data.toList = [] := by
        unfold byteCells at hrows
        exact List.map_eq_nil_iff.1 hrows
      apply ByteArray.ext
      exact Array.toList_inj.1 h0
    rw [run_convert_bytes_nil w 31 5 Tryz.underlying31 Tryz.underlying5 0 0 9 Tryz.underlying9, e]
  · simp at hv
    obtain ⟨rfl, rfl, rfl⟩ := hv
    have hl : (byteCells t).length = t.data.toList.length := by simp [byteCells]
    have hb := run_convert_bytes_back (P := Tryz.prog) w 31 9 5 ⟨g, 0, none⟩ c t.data.toList Tryz.underlying31 Tryz.underlying5 Tryz.underlying9 (fun j hj => by
      have := hcell j [.int .u8 (t.data.toList[j]).toNat] 0 (.int .u8 (t.data.toList[j]).toNat) (by unfold byteCells; rw [List.getElem?_map, List.getElem?_eq_getElem hj]; rfl) rfl
      rw [Addr.add_lit]
      simpa using this)
    rw [hl, hb]

theorem BytesAt.drew {w : World} {v : Value} {t : ByteArray} (h : BytesAt w v t) : BytesAt w.drew v t := Own.keptBlock h (fun k _ => rfl)
theorem BytesAt.form {w : World} {v : Value} {t : ByteArray} (h : BytesAt w v t) : ∃ ao n c, v = .slice ao n c := by
  obtain ⟨ao, c, h⟩ := Own.form h
  exact ⟨ao, _, c, h⟩

theorem SrcIs.below {w w2 : World} {size : Nat} {v : Value} {news : List (List Value)} (h : SrcIs w size v news) (hb : Below w.heap.size w w2) : SrcIs w2 size v news := by
  obtain ⟨h1, h2, h3⟩ := h
  refine ⟨h1, h2, ?_⟩
  rcases h3 with h3 | ⟨ad, c, rfl, hc⟩
  · exact .inl h3
  · exact .inr ⟨ad, c, rfl, fun j u hj => (hb.cell (World.block_lt_of_cell? w _ (hc j u hj))).trans (hc j u hj)⟩

theorem mList_tick (st : St) (n : Int) : (mList st n).1 = tick st := by
  unfold mList
  split
  · split
    · rfl
    · split <;> rfl
  · rfl

theorem mList_few {st : St} (ok : POk st) (n : Int) : (mList st n).2.1.length ≤ 100 := by
  unfold mList
  split
  · split
    · simp
    · split
      · simp
      · rename_i i _ f _
        exact listUpto_few ok (fidRow f) _ (Nat.le_refl _)
  · simp

theorem mList_names {st : St} (ok : POk st) (n : Int) : ∀ s ∈ (mList st n).2.1, s.size ≤ 12 := by
  intro s hs
  unfold mList at hs
  split at hs
  · split at hs
    · simp at hs
    · split at hs
      · simp at hs
      · rename_i i _ f _
        have h := (mem_listUpto st (fidRow f) s _ (Nat.le_refl _)).1 hs
        have := seenIn_live h
        unfold liveNames at this
        obtain ⟨x, hx, rfl⟩ := List.mem_map.1 this
        exact ok.names x ((List.mem_filter.1 hx).1)
  · simp at hs

theorem TextsAt.drew {w : World} {v : Value} {t : List ByteArray} (h : TextsAt w v t) : TextsAt w.drew v t := Own.keptBlock h (fun k _ => rfl)
theorem TextsAt.form {w : World} {v : Value} {t : List ByteArray} (h : TextsAt w v t) : ∃ ao c, v = .slice ao t.length c := by
  obtain ⟨ao, c, h⟩ := Own.form h
  refine ⟨ao, c, ?_⟩
  rw [h]
  simp [strRows]

/-- '[]byte(s)' of a text. -/
theorem bytes_laid (w : World) (s : ByteArray) : ∃ c o, (convert 9 31 (.string s)).run Tryz.prog w = .ok (.slice (some ⟨w.heap.size, 0, none⟩) s.size c) (w.drew.alloc o) ∧ SrcIs (w.drew.alloc o) 1 (.slice (some ⟨w.heap.size, 0, none⟩) s.size c) (byteCells s) := by
  refine ⟨_, _, run_bytes_of_string w 9 31 5 s Tryz.underlying9 Tryz.underlying31 Tryz.underlying5, bytes_one s, ?_, .inr ⟨_, _, by rw [len_bytes], fun j u hj => ?_⟩⟩
  · intro r hr u hu
    unfold byteCells at hr
    obtain ⟨c, _, rfl⟩ := List.mem_map.1 hr
    simp at hu
    subst hu
    rfl
  · rw [Addr.add_lit]
    have hz : w.drew.heap.size = w.heap.size := rfl
    have hb := heap_alloc_new w.drew (.cells (bytesRow s (grownCap w s.size 0 5)) 5 ((bytesRow s (grownCap w s.size 0 5)).size, (bytesRow s (grownCap w s.size 0 5)).size + 1))
    rw [hz] at hb
    have hfl : (byteCells s).flatten = s.data.toList.map (fun b => Value.int .u8 b.toNat) := by
      unfold byteCells
      generalize s.data.toList = l
      induction l with
      | nil => rfl
      | cons c l ih => simp only [List.map_cons, List.flatten_cons, ih]; rfl
    rw [hfl] at hj
    have hjl : j < s.size := by have := M.lt_of_getElem? hj; simpa using this
    simp only [World.cell?, hb]
    have hbr : (bytesRow s (grownCap w s.size 0 5))[j]? = some u := by
      unfold bytesRow
      rw [Array.getElem?_append_left (by simpa using hjl)]
      rw [← Array.getElem?_toList, Array.toList_map]
      exact hj
    rw [Nat.zero_add]
    simp [hbr]

def nilPtr : Option Value → Bool
  | some (.pointer none) => true
  | _ => false
def noBool : Option Value → Bool
  | some (.bool false) => true
  | _ => false
theorem nilPtr_eq {o : Option Value} (h : nilPtr o = true) : o = some (.pointer none) := by
  unfold nilPtr at h
  split at h
  · rfl
  · cases h
theorem noBool_eq {o : Option Value} (h : noBool o = true) : o = some (.bool false) := by
  unfold noBool at h
  split at h
  · rfl
  · cases h

theorem zeroStands (n : Nat) (hn : n < 51) : Tryz.zeroCells110[7 + n * 2]? = some (.pointer none) ∧ Tryz.zeroCells110[7 + n * 2 + 1]? = some (.bool false) := by
  have h : (List.range 51).all (fun n => nilPtr (Tryz.zeroCells110[7 + n * 2]?) && noBool (Tryz.zeroCells110[7 + n * 2 + 1]?)) = true := by kernel_rfl
  rw [List.all_eq_true] at h
  have := h n (List.mem_range.2 hn)
  simp only [Bool.and_eq_true] at this
  exact ⟨nilPtr_eq this.1, noBool_eq this.2⟩

theorem fresh_zero {w : World} {F : Nat → Prop} {s : Nat} (hb : w.heap[s]? = some (.cells Tryz.zeroCells110 110 (0, 0))) (hF : F s) : Fresh w F s := by
  have c : ∀ j, w.cell? ⟨s, j, none⟩ = Tryz.zeroCells110[j]? := fun j => by simp [World.cell?, hb]
  refine ⟨⟨⟨_, hb⟩, hF⟩, ?_, ?_, ?_, ?_, ?_, fun n hn => ?_⟩
  · rw [c]; kernel_rfl
  · rw [c]; kernel_rfl
  · rw [c]; kernel_rfl
  · rw [c]; kernel_rfl
  · rw [c]; kernel_rfl
  · rw [c, c]; exact zeroStands n hn

theorem St0_ok : POk St0 := by
  refine ⟨⟨by simp [St0], by simp [St0]⟩, ⟨root, rfl, rfl⟩, by simp [St0], by simp [St0], ?_, ?_, ?_⟩
  · intro x hx
    simp [St0] at hx
    subst hx
    decide
  · intro x hx
    simp [St0] at hx
    subst hx
    simp [root, St0]
  · simp [liveNodes, St0, root]
theorem St0_plain : Plain St0 := by
  refine ⟨rfl, fun i x hx => ?_, by simp [St0]⟩
  have := M.lt_of_getElem? hx
  simp [St0] at this
  subst this
  simp [St0] at hx
  subst hx
  simp [root]

theorem St0_treed : Treed St0 := by
  refine ⟨⟨root, rfl, rfl, rfl, rfl⟩, fun i x hx hi => ?_, fun i j x y hx hy _ _ _ _ => ?_, by simp [St0], by simp [St0]⟩
  · have := M.lt_of_getElem? hx
    simp [St0] at this
    omega
  · have h1 := M.lt_of_getElem? hx
    have h2 := M.lt_of_getElem? hy
    simp [St0] at h1 h2
    omega
theorem St0_small : Small St0 := by
  intro x hx
  simp [St0] at hx
  subst hx
  decide

end Go.Proofs.YtdmdgnghaceibaaGreat.P
/- The program's Server by itself: its calls, as the laws without the document's answer use them. -/
namespace Go.Proofs.YtdmdgnghaceibaaGreat.P
open M Go.ChangeShapes Go.WideShapes Go.ChangeAt Go.RowKit
set_option linter.unusedVariables false

/-- A Server whose blocks are of X, to which all new ones belong. -/
def KSrv (w : World) (X : Nat → Prop) (s : Nat) (st : St) : Prop := ∃ F : Nat → Prop, SrvIs w F s st ∧ (∀ k, F k → X k ∧ k < w.heap.size) ∧ (∀ k, w.heap.size ≤ k → X k)

/-- What of the model's state is always so. -/
structure KOk (st : St) : Prop where
  ok : POk st
  tree : Treed st
  small : Small st
  len : st.nodes.length ≤ 100000

section
variable {w w2 : World} {X Y : Nat → Prop} {s : Nat} {st st2 : St}

theorem KSrv.below (h : KSrv w X s st) (hb : Below w.heap.size w w2) : KSrv w2 X s st := by
  obtain ⟨F, h, lo, hi⟩ := h
  have hz := hb.size
  exact ⟨F, h.kept (KeepX.below hb), fun k hk => ⟨(lo k hk).1, by have := (lo k hk).2; omega⟩, fun k hk => hi k (by omega)⟩
theorem KSrv.more (h : KSrv w X s st) (hX : ∀ k, X k → Y k) : KSrv w Y s st := by
  obtain ⟨F, h, lo, hi⟩ := h
  exact ⟨F, h, fun k hk => ⟨hX k (lo k hk).1, (lo k hk).2⟩, fun k hk => hX k (hi k hk)⟩
/-- New blocks are not the Server's. -/
theorem KSrv.apart (h : KSrv w X s st) (hb : Below w.heap.size w w2) (p : Nat → Prop) (hp : ∀ k, p k → w.heap.size ≤ k ∧ k < w2.heap.size) : KSrv w2 (fun k => X k ∧ ¬ p k) s st := by
  obtain ⟨F, h, lo, hi⟩ := h
  have hz := hb.size
  exact ⟨F, h.kept (KeepX.below hb), fun k hk => ⟨⟨(lo k hk).1, fun q => by have := (hp k q).1; have := (lo k hk).2; omega⟩, by have := (lo k hk).2; omega⟩, fun k hk => ⟨hi k (by omega), fun q => by have := (hp k q).2; omega⟩⟩
theorem KSrv.step {F F' : Nat → Prop} (hs : SrvIs w2 F' s st2) (hF : ∀ k, F' k → ext F w w2 k) (hx : Ext F w w2) (lo : ∀ k, F k → X k ∧ k < w.heap.size) (hi : ∀ k, w.heap.size ≤ k → X k) : KSrv w2 X s st2 ∧ Ext X w w2 := by
  have hz := hx.size
  refine ⟨⟨F', hs, fun k hk => ?_, fun k hk => hi k (by omega)⟩, hx.weak (fun k hk => (lo k hk).1)⟩
  rcases hF k hk with q | q
  · exact ⟨(lo k q).1, by have := (lo k q).2; omega⟩
  · exact ⟨hi k q.1, q.2⟩

theorem k_attach (n : Int) (h : KSrv w X s st) (ok : POk st) :
    Calls Tryz.prog 13 #[.pointer (some ⟨s, 0, none⟩), .int .i64 n] w fun e w' => e = .returned (.int .i64 (mAttach st n).2) ∧ KSrv w' X s (mAttach st n).1 ∧ Ext X w w' := by
  obtain ⟨F, h, lo, hi⟩ := h
  refine (attach_any n h ok).mono ?_
  rintro e w' ⟨rfl, hs, hx⟩
  exact ⟨rfl, KSrv.step hs (fun k hk => hk) hx lo hi⟩
theorem k_clunk (n : Int) (h : KSrv w X s st) (ok : POk st) :
    Calls Tryz.prog 22 #[.pointer (some ⟨s, 0, none⟩), .int .i64 n] w fun e w' => e = .returned (.int .i64 (mClunk st n).2) ∧ KSrv w' X s (mClunk st n).1 ∧ Ext X w w' := by
  obtain ⟨F, h, lo, hi⟩ := h
  refine (clunk_any n h ok).mono ?_
  rintro e w' ⟨rfl, hs, hx⟩
  exact ⟨rfl, KSrv.step hs (fun k hk => hk) hx lo hi⟩
theorem k_open (n : Int) (h : KSrv w X s st) (ok : POk st) :
    Calls Tryz.prog 15 #[.pointer (some ⟨s, 0, none⟩), .int .i64 n] w fun e w' => e = .returned (.int .i64 (mOpen st n).2) ∧ KSrv w' X s (mOpen st n).1 ∧ Ext X w w' := by
  obtain ⟨F, h, lo, hi⟩ := h
  refine (open_any n h ok).mono ?_
  rintro e w' ⟨rfl, hs, hx⟩
  exact ⟨rfl, KSrv.step hs (fun k hk => hk) hx lo hi⟩
theorem k_create (n : Int) (name : ByteArray) (dir : Bool) (h : KSrv w X s st) (ok : KOk st) (hname : name.size ≤ maxLen) :
    Calls Tryz.prog 16 #[.pointer (some ⟨s, 0, none⟩), .int .i64 n, .string name, .bool dir] w fun e w' => e = .returned (.int .i64 (mCreate st n name dir).2) ∧ KSrv w' X s (mCreate st n name dir).1 ∧ Ext X w w' := by
  obtain ⟨F, h, lo, hi⟩ := h
  refine (create_any n name dir h ok.ok hname (by have := ok.len; unfold maxLen; omega)).mono ?_
  rintro e w' ⟨rfl, hs, hx⟩
  exact ⟨rfl, KSrv.step hs (fun k hk => hk) hx lo hi⟩
theorem k_walk (n t : Int) (names : List ByteArray) (ao : Option Addr) (nc : Nat) (h : KSrv w X s st) (ok : POk st) (hnm : NamesAt w ao names) (hnX : ∀ a, ao = some a → names ≠ [] → ¬ X a.block) :
    Calls Tryz.prog 14 #[.pointer (some ⟨s, 0, none⟩), .int .i64 n, .int .i64 t, .slice ao names.length nc] w fun e w' => e = .returned (.tuple #[.int .i64 (mWalk st n t names).2.1, .int .i64 (mWalk st n t names).2.2]) ∧ KSrv w' X s (mWalk st n t names).1 ∧ Ext X w w' := by
  obtain ⟨F, h, lo, hi⟩ := h
  refine (walk_any n t names ao nc h ok hnm (fun a ha hne hF => hnX a ha hne (lo _ hF).1)).mono ?_
  rintro e w' ⟨rfl, hs, hx⟩
  exact ⟨rfl, KSrv.step hs (fun k hk => hk) hx lo hi⟩
theorem k_stat (n : Int) (h : KSrv w X s st) (ok : KOk st) :
    Calls Tryz.prog 20 #[.pointer (some ⟨s, 0, none⟩), .int .i64 n] w fun e w' => e = .returned (.tuple #[pStatV (mStat st n).2.1, .int .i64 (mStat st n).2.2]) ∧ KSrv w' X s (mStat st n).1 ∧ Ext X w w' := by
  obtain ⟨F, h, lo, hi⟩ := h
  refine (stat_any n h ok.ok (fun k hk => (lo k hk).2) (fun x hx => Nat.le_trans (ok.small x hx) (by decide))).mono ?_
  rintro e w' ⟨rfl, hs, hx⟩
  exact ⟨rfl, KSrv.step hs (fun k hk => hk) hx lo hi⟩
theorem k_remove (n : Int) (h : KSrv w X s st) (ok : KOk st) :
    Calls Tryz.prog 21 #[.pointer (some ⟨s, 0, none⟩), .int .i64 n] w fun e w' => e = .returned (.int .i64 (mRemove st n).2) ∧ KSrv w' X s (mRemove st n).1 ∧ Ext X w w' := by
  obtain ⟨F, h, lo, hi⟩ := h
  refine (sremove_any n h ok.ok ok.tree).mono ?_
  rintro e w' ⟨rfl, hs, hx⟩
  exact ⟨rfl, KSrv.step hs (fun k hk => hk) hx lo hi⟩
theorem k_write (n a : Int) (ha : a ≤ 9223372036854775807) (ad : Option Addr) (cd : Nat) (t : ByteArray) (h : KSrv w X s st) (ok : KOk st) (hsrc : SrcIs w 1 (.slice ad t.size cd) (byteCells t)) (hap : ∀ q, ad = some q → 0 < t.size → ¬ X q.block) (ht : t.size ≤ 140737488355328) :
    Calls Tryz.prog 18 #[.pointer (some ⟨s, 0, none⟩), .int .i64 n, .int .i64 a, .slice ad t.size cd] w fun e w' => e = .returned (.tuple #[.int .i64 (mWrite st n a t).2.1, .int .i64 (mWrite st n a t).2.2]) ∧ KSrv w' X s (mWrite st n a t).1 ∧ Ext X w w' := by
  obtain ⟨F, h, lo, hi⟩ := h
  refine (swrite_any n a ha _ t h ok.ok hsrc (fun ad' n c e hn hF => ?_) ht (fun x hx => Nat.le_trans (ok.small x hx) (by decide))).mono ?_
  · simp only [Value.slice.injEq] at e
    obtain ⟨e1, rfl, _⟩ := e
    exact hap ad' e1 hn (lo _ hF).1
  · rintro e w' ⟨rfl, hs, hx⟩
    exact ⟨rfl, KSrv.step hs (fun k hk => hk) hx lo hi⟩

/-- What Read hands out: its own block is not the Server's. -/
def KRead (w : World) (X : Nat → Prop) (s : Nat) (p : St × ByteArray × Int) (e : Ending) (w' : World) : Prop :=
  ∃ ao n c, e = .returned (.tuple #[.slice ao n c, .int .i64 p.2.2]) ∧ BytesAt w' (.slice ao n c) p.2.1 ∧ (∀ k, (Value.slice ao n c).ownBlock = some k → w.heap.size ≤ k ∧ k < w'.heap.size) ∧ KSrv w' (fun k => X k ∧ (Value.slice ao n c).ownBlock ≠ some k) s p.1 ∧ Ext X w w'
def KList (w : World) (X : Nat → Prop) (s : Nat) (p : St × List ByteArray × Int) (e : Ending) (w' : World) : Prop :=
  ∃ ao c, e = .returned (.tuple #[.slice ao p.2.1.length c, .int .i64 p.2.2]) ∧ TextsAt w' (.slice ao p.2.1.length c) p.2.1 ∧ (∀ k, (Value.slice ao p.2.1.length c).ownBlock = some k → w.heap.size ≤ k ∧ k < w'.heap.size) ∧ KSrv w' (fun k => X k ∧ (Value.slice ao p.2.1.length c).ownBlock ≠ some k) s p.1 ∧ Ext X w w'

theorem k_read (n a c : Int) (h : KSrv w X s st) (ok : KOk st) :
    Calls Tryz.prog 17 #[.pointer (some ⟨s, 0, none⟩), .int .i64 n, .int .i64 a, .int .i64 c] w fun e w' => KRead w X s (mRead st n a c) e w' := by
  obtain ⟨F, h, lo, hi⟩ := h
  refine (sread_any n a c h ok.ok (fun k hk => (lo k hk).2) (fun x hx => Nat.le_trans (ok.small x hx) (by decide))).mono ?_
  rintro e w' ⟨v, F', rfl, hv, hk, hs, hF, hx⟩
  obtain ⟨ao, n, c, rfl⟩ := hv.form
  obtain ⟨h1, h2⟩ := KSrv.step hs hF hx lo hi
  obtain ⟨_, _, _, hi2⟩ := h1
  have hz := hx.size
  refine ⟨ao, n, c, rfl, hv, fun k q => ⟨(hk k q).1, (hk k q).2.1⟩, ⟨F', hs, fun k q => ⟨⟨?_, fun e => (hk k e).2.2 q⟩, ?_⟩, fun k q => ⟨hi k (by omega), fun e => by have := (hk k e).2.1; omega⟩⟩, h2⟩
  · rcases hF k q with q | q
    · exact (lo k q).1
    · exact hi k q.1
  · rcases hF k q with q | q
    · have := (lo k q).2; omega
    · exact q.2
theorem k_list (n : Int) (h : KSrv w X s st) (ok : KOk st) :
    Calls Tryz.prog 19 #[.pointer (some ⟨s, 0, none⟩), .int .i64 n] w fun e w' => KList w X s (mList st n) e w' := by
  obtain ⟨F, h, lo, hi⟩ := h
  refine (slist_any n h ok.ok (fun k hk => (lo k hk).2) (by have := ok.len; omega) (fun row k _ hk => Nat.le_trans (listUpto_few ok.ok row k hk) (by decide))).mono ?_
  rintro e w' ⟨v, F', rfl, hv, hk, hs, hF, hx⟩
  obtain ⟨ao, c, rfl⟩ := hv.form
  obtain ⟨h1, h2⟩ := KSrv.step hs hF hx lo hi
  have hz := hx.size
  refine ⟨ao, c, rfl, hv, fun k q => ⟨(hk k q).1, (hk k q).2.1⟩, ⟨F', hs, fun k q => ⟨⟨?_, fun e => (hk k e).2.2 q⟩, ?_⟩, fun k q => ⟨hi k (by omega), fun e => by have := (hk k e).2.1; omega⟩⟩, h2⟩
  · rcases hF k q with q | q
    · exact (lo k q).1
    · exact hi k q.1
  · rcases hF k q with q | q
    · have := (lo k q).2; omega
    · exact q.2
theorem k_calls (h : KSrv w X s st) :
    Calls Tryz.prog 26 #[.pointer (some ⟨s, 0, none⟩)] w fun e w' => e = .returned (.int .i64 st.calls) ∧ w' = w := by
  obtain ⟨F, h, lo, hi⟩ := h
  exact calls_any h
end

/-! ### The invariant is kept -/
theorem KOk.same {st st' : St} (h : KOk st) (hok : POk st') (hn : st'.nodes = st.nodes) (hl : st'.laid = st.laid) : KOk st' := ⟨hok, h.tree.same hn hl, h.small.same hn, by rw [hn]; exact h.len⟩
theorem KOk.attach {st : St} (h : KOk st) (n : Int) : KOk (mAttach st n).1 := h.same (mAttach_ok h.ok _) (mAttach_len _ _) (mAttach_laid _ _)
theorem KOk.clunk {st : St} (h : KOk st) (n : Int) : KOk (mClunk st n).1 := h.same (mClunk_ok h.ok _) (mClunk_len _ _) (mClunk_laid _ _)
theorem KOk.open {st : St} (h : KOk st) (n : Int) : KOk (mOpen st n).1 := h.same (mOpen_ok h.ok _) (mOpen_len _ _) (mOpen_laid _ _)
theorem KOk.walk {st : St} (h : KOk st) (n t : Int) (names : List ByteArray) : KOk (mWalk st n t names).1 := h.same (mWalk_ok h.ok _ _ _) (mWalk_len _ _ _ _) (mWalk_laid _ _ _ _)
theorem KOk.tick {st : St} (h : KOk st) : KOk (tick st) := h.same h.ok.tick rfl rfl
theorem KOk.create {st : St} (h : KOk st) (n : Int) (name : ByteArray) (dir : Bool) (hl : st.nodes.length < 100000) : KOk (mCreate st n name dir).1 :=
  ⟨mCreate_keeps h.ok _ _ _, mCreate_treed h.ok h.tree _ _ _, mCreate_small h.ok h.small _ _ _, by have := mCreate_len h.ok n name dir; omega⟩
theorem KOk.write {st : St} (h : KOk st) (n a : Int) (t : ByteArray) : KOk (mWrite st n a t).1 :=
  ⟨mWrite_ok h.ok _ _ _, mWrite_treed h.tree _ _ _, mWrite_small h.small _ _ _, by rw [mWrite_len]; exact h.len⟩
theorem KOk.remove {st : St} (h : KOk st) (n : Int) : KOk (mRemove st n).1 :=
  ⟨mRemove_ok h.ok _, mRemove_treed h.tree _, mRemove_small h.small _, by rw [mRemove_len]; exact h.len⟩
end Go.Proofs.YtdmdgnghaceibaaGreat.P
/- The model, as the laws without the document's answer go about it: one fid walks out from the root and is given up again. (No program.) -/
namespace Go.Proofs.YtdmdgnghaceibaaGreat.P
open M
set_option linter.unusedVariables false

def W0 : List Spot := [⟨0, [⟨0, true⟩]⟩]
def f0 : Fid := ⟨0, W0, false⟩

/-- Fid 0 stands at the root, fid 1 nowhere. -/
structure Zero (st : St) : Prop where
  fid : ∃ rest, st.fids = f0 :: rest
  one : find st 1 = none

def withFid (st : St) (f : Fid) : St := { st with fids := st.fids ++ [f] }
/-- The same but for the count. -/
def counted (st : St) (c : Int) : St := { st with calls := c }
/-- A node more. -/
def made (st : St) (x : Nd) (c : Int) : St := { st with nodes := st.nodes ++ [x], calls := c }

section
variable {st : St}
theorem Zero.find (z : Zero st) : M.find st 0 = some 0 := by
  obtain ⟨rest, h⟩ := z.fid
  unfold M.find
  rw [h]
  rfl
theorem Zero.get (z : Zero st) : st.fids[0]? = some f0 := by
  obtain ⟨rest, h⟩ := z.fid
  rw [h]
  rfl
theorem Zero.same {st' : St} (z : Zero st) (h : st'.fids = st.fids) : Zero st' := ⟨by rw [h]; exact z.fid, by unfold M.find; rw [h]; exact z.one⟩

theorem find_with {f : Fid} (h : M.find st f.n = none) : M.find (withFid st f) f.n = some st.fids.length := by
  unfold M.find withFid at *
  simp only
  rw [List.findIdx?_append, h]
  simp [List.findIdx?_cons]
theorem find_other {f : Fid} {n : Int} (h : f.n ≠ n) : M.find (withFid st f) n = M.find st n := by
  unfold M.find withFid
  simp only
  rw [List.findIdx?_append]
  have : (f.n == n) = false := by simpa using h
  simp [List.findIdx?_cons, this]
theorem get_with (f : Fid) : (withFid st f).fids[st.fids.length]? = some f := by simp [withFid]
theorem drop_with (f : Fid) : mDrop (withFid st f) st.fids.length = st := by
  unfold mDrop withFid
  simp
theorem set_with (f g : Fid) : (withFid st f).fids.set st.fids.length g = st.fids ++ [g] := by
  unfold withFid
  simp only
  rw [List.set_append_right _ _ (Nat.le_refl _)]
  simp

/-! ### The calls -/
theorem mWalk_new {n t : Int} {i : Nat} {f : Fid} {names : List ByteArray} (hf : M.find st n = some i) (hi : st.fids[i]? = some f) (hn : f.n = n) (ho : f.op = false) (ht : fidOk t = true) (hne : t ≠ n) (hno : M.find st t = none) (hlen : names.length ≤ 16) (hok : names.any nameBad = false) :
    mWalk st n t names = if (wayGo st names f.way).2.1 = 0 then (withFid (tick st) ⟨t, (wayGo st names f.way).2.2, false⟩, (names.length : Int), 0) else (tick st, ((wayGo st names f.way).1 : Int), (wayGo st names f.way).2.1) := by
  have ha : mAllowed (tick st) f t names = 0 := by
    unfold mAllowed
    rw [if_neg (by simp [ho]), if_pos ht, if_neg (fun q => by have := q.2; rw [show M.find (tick st) t = M.find st t from rfl, hno] at this; simp at this), if_neg (by omega), if_neg (by simp [hok])]
  unfold mWalk
  rw [hf]
  simp only
  rw [hi]
  simp only
  rw [if_pos ha]
  unfold mWalkTo
  rw [if_neg hne]
  rfl

theorem mClunk_with {f : Fid} (h : M.find st f.n = none) : mClunk (withFid st f) f.n = (tick st, 0) := by
  unfold mClunk
  rw [find_with h]
  simp only
  rw [show tick (withFid st f) = withFid (tick st) f from rfl, show st.fids.length = (tick st).fids.length from rfl, drop_with]

theorem mOpen_with {n : Int} {way : List Spot} {sp : Spot} (h : M.find st n = none) (hsp : way.getLast? = some sp) (hg : isGone st sp.n = false) : mOpen (withFid st ⟨n, way, false⟩) n = (withFid (tick st) ⟨n, way, true⟩, 0) := by
  unfold mOpen
  rw [show M.find (withFid st ⟨n, way, false⟩) n = some st.fids.length from find_with (f := ⟨n, way, false⟩) h]
  simp only
  rw [get_with]
  simp only
  rw [if_neg (by simp), show nodeOf ⟨n, way, false⟩ = sp.n by simp [nodeOf, hsp], show isGone (withFid st ⟨n, way, false⟩) sp.n = isGone st sp.n from rfl, hg]
  simp only [Bool.false_eq_true, if_false]
  unfold setOpen
  rw [show (tick (withFid st ⟨n, way, false⟩)).fids = (withFid st ⟨n, way, false⟩).fids from rfl, set_with]
  rfl

theorem mCreate_with {n : Int} {way : List Spot} {sp : Spot} {name : ByteArray} {dir : Bool} {m : Member} (h : M.find st n = none) (hsp : way.getLast? = some sp) (hg : isGone st sp.n = false) (hd : isDir st sp.n = true) (hn : isName name = true) (hs : seenIn st name sp.row = none) (hm : makerOf st sp.row = some m) (hl : liveNodes st.nodes < 100) :
    ∃ x, mCreate (withFid st ⟨n, way, false⟩) n name dir = (withFid { tick st with nodes := st.nodes ++ [newNd name dir m.d] } ⟨n, way ++ [x], true⟩, 0) ∧ x.n = st.nodes.length := by
  unfold mCreate
  rw [show M.find (withFid st ⟨n, way, false⟩) n = some st.fids.length from find_with (f := ⟨n, way, false⟩) h]
  simp only
  rw [get_with]
  simp only
  rw [if_neg (by simp), hsp]
  simp only
  have e1 : isGone (withFid st ⟨n, way, false⟩) sp.n = false := hg
  have e2 : isDir (withFid st ⟨n, way, false⟩) sp.n = true := hd
  have e3 : ∀ row, seenIn (withFid st ⟨n, way, false⟩) name row = seenIn st name row := fun row => by
    induction row with
    | nil => rfl
    | cons a r ih => unfold seenIn; rw [ih]; rfl
  have e4 : ∀ row, makerOf (withFid st ⟨n, way, false⟩) row = makerOf st row := fun row => by
    induction row with
    | nil => rfl
    | cons a r ih => unfold makerOf; rw [ih]; rfl
  rw [e1, e2, hn, e3, hs, e4, hm]
  simp only [Bool.false_eq_true, if_false, if_true]
  rw [if_neg (by show ¬ 100 ≤ liveNodes st.nodes; omega)]
  refine ⟨come (withNode (tick (withFid st ⟨n, way, false⟩)) (newNd name dir m.d)) st.nodes.length, ?_, rfl⟩
  unfold mCreateAt setOpen setWay withNode
  simp only [Prod.mk.injEq, and_true]
  have hz : (tick (withFid st ⟨n, way, false⟩)).fids = (withFid st ⟨n, way, false⟩).fids := rfl
  rw [hz, set_with, List.set_append_right _ _ (Nat.le_refl _)]
  simp [withFid, tick]

theorem mFile_with {n : Int} {way : List Spot} {c : Nat} {x : Nd} (h : M.find st n = none) (hc : nodeOf ⟨n, way, true⟩ = c) (hx : st.nodes[c]? = some x) (hg : x.gone = false) (hd : x.dir = false) : mFile (withFid st ⟨n, way, true⟩) (M.find (withFid st ⟨n, way, true⟩) n) = 0 := by
  rw [show M.find (withFid st ⟨n, way, true⟩) n = some st.fids.length from find_with (f := ⟨n, way, true⟩) h]
  unfold mFile
  simp only
  rw [get_with]
  simp only
  rw [if_pos trivial, hc, show isGone (withFid st ⟨n, way, true⟩) c = false by simp only [isGone, withFid, hx]; exact hg, show isDir (withFid st ⟨n, way, true⟩) c = false by simp only [isDir, withFid, hx]; exact hd]
  simp

theorem mWrite_with {n a : Int} {t : ByteArray} {way : List Spot} {c : Nat} {x : Nd} (h : M.find st n = none) (hc : nodeOf ⟨n, way, true⟩ = c) (hx : st.nodes[c]? = some x) (hg : x.gone = false) (hd : x.dir = false) (ha : 0 ≤ a) (hb : a + t.size ≤ 300) :
    mWrite (withFid st ⟨n, way, true⟩) n a t = (withFid (setNode (tick st) c (wroteNd x a.toNat t)) ⟨n, way, true⟩, (t.size : Int), 0) := by
  unfold mWrite
  rw [if_pos (mFile_with h hc hx hg hd), if_neg (by omega), if_neg (by omega)]
  rw [show M.find (withFid st ⟨n, way, true⟩) n = some st.fids.length from find_with (f := ⟨n, way, true⟩) h]
  simp only
  rw [get_with]
  simp only
  rw [hc, show (withFid st ⟨n, way, true⟩).nodes[c]? = some x from hx]
  rfl

theorem mRead_with {n a q : Int} {way : List Spot} {c : Nat} {x : Nd} (h : M.find st n = none) (hc : nodeOf ⟨n, way, true⟩ = c) (hx : st.nodes[c]? = some x) (hg : x.gone = false) (hd : x.dir = false) (ha : 0 ≤ a) (hq : 0 ≤ q) :
    mRead (withFid st ⟨n, way, true⟩) n a q = (withFid (tick st) ⟨n, way, true⟩, textAt x.data a.toNat q.toNat, 0) := by
  unfold mRead
  rw [if_pos (mFile_with h hc hx hg hd), if_neg (by omega)]
  rw [show M.find (withFid st ⟨n, way, true⟩) n = some st.fids.length from find_with (f := ⟨n, way, true⟩) h]
  simp only
  rw [get_with]
  simp only
  rw [show dataOf (withFid st ⟨n, way, true⟩) ⟨n, way, true⟩ = x.data by unfold dataOf; rw [hc, show (withFid st ⟨n, way, true⟩).nodes[c]? = some x from hx]]
  rfl

theorem listUpto_fids {st' : St} (hn : st'.nodes = st.nodes) (hl : st'.laid = st.laid) (row : List Member) : ∀ k, listUpto st' row k = listUpto st row k := by
  obtain ⟨n', l', f', c'⟩ := st'
  obtain ⟨n, l, f, c⟩ := st
  simp only at hn hl
  subst hn hl
  have e3 : ∀ s row, seenIn ⟨n', l', f', c'⟩ s row = seenIn ⟨n', l', f, c⟩ s row := fun s row => by
    induction row with
    | nil => rfl
    | cons a r ih => unfold seenIn; rw [ih]; rfl
  intro k
  induction k with
  | zero => rfl
  | succ k ih =>
    unfold listUpto
    rw [ih]
    simp only [e3]
    rfl

theorem mList_with {n : Int} {way : List Spot} {sp : Spot} (h : M.find st n = none) (hsp : way.getLast? = some sp) (hg : isGone st sp.n = false) (hd : isDir st sp.n = true) :
    mList (withFid st ⟨n, way, true⟩) n = (withFid (tick st) ⟨n, way, true⟩, listUpto st sp.row sp.row.length, 0) := by
  have hf := find_with (f := ⟨n, way, true⟩) h
  have hno : nodeOf ⟨n, way, true⟩ = sp.n := by simp [nodeOf, hsp]
  have he : mDirE (withFid st ⟨n, way, true⟩) (M.find (withFid st ⟨n, way, true⟩) n) = 0 := by
    rw [show M.find (withFid st ⟨n, way, true⟩) n = some st.fids.length from hf]
    unfold mDirE
    simp only
    rw [get_with]
    simp only
    rw [if_pos trivial, hno, show isGone (withFid st ⟨n, way, true⟩) sp.n = false from hg, show isDir (withFid st ⟨n, way, true⟩) sp.n = true from hd]
    simp
  unfold mList
  rw [if_pos he, show M.find (withFid st ⟨n, way, true⟩) n = some st.fids.length from hf]
  simp only
  rw [get_with]
  simp only
  rw [show fidRow ⟨n, way, true⟩ = sp.row by simp [fidRow, hsp]]
  rw [listUpto_fids (st := st) (st' := withFid st ⟨n, way, true⟩) rfl rfl]
  rfl

/-! ### Ways -/
theorem nameBad_no {s : ByteArray} (h : isName s = true) : nameBad s = false := by simp [nameBad, h]
theorem not_dot {s : ByteArray} (h : isName s = true) : s.toList ≠ [46] ∧ s.toList ≠ [46, 46] := by
  have hb : ¬ badText s = true := fun hb => by simp [isName, hb] at h
  simp only [badText, decide_eq_true_eq, not_or] at hb
  exact ⟨hb.2.1, hb.2.2.1⟩

theorem wayStep_in {way : List Spot} {sp : Spot} {s : ByteArray} {c : Nat} (hn : isName s = true) (hsp : way.getLast? = some sp) (hg : isGone st sp.n = false) (hd : isDir st sp.n = true) (hs : seenIn st s sp.row = some c) : wayStep st way s = (0, way ++ [come st c]) := by
  obtain ⟨h1, h2⟩ := not_dot hn
  unfold wayStep
  rw [if_neg h1, if_neg h2, hsp]
  simp only
  rw [hg, hd, hs]
  simp
theorem wayStep_none {way : List Spot} {sp : Spot} {s : ByteArray} (hn : isName s = true) (hsp : way.getLast? = some sp) (hg : isGone st sp.n = false) (hd : isDir st sp.n = true) (hs : seenIn st s sp.row = none) : wayStep st way s = (7, way) := by
  obtain ⟨h1, h2⟩ := not_dot hn
  unfold wayStep
  rw [if_neg h1, if_neg h2, hsp]
  simp only
  rw [hg, hd, hs]
  simp
theorem wayStep_back {way : List Spot} {a : Spot} (hw : 1 ≤ way.length) : wayStep st (way ++ [a]) ⟨#[46, 46]⟩ = (0, way) := by
  unfold wayStep
  rw [if_neg (by simp [ByteArray.toList_eq]), if_pos (by simp [ByteArray.toList_eq]), if_pos (by simp; omega)]
  simp

theorem root_live (T : Treed st) : isGone st 0 = false ∧ isDir st 0 = true := by
  obtain ⟨x, hx, hd, hg, _⟩ := T.root
  exact ⟨by simp only [isGone, hx]; exact hg, by simp only [isDir, hx]; exact hd⟩
theorem seen_one (d : Nat) (s : ByteArray) (hg : isGone st d = false) : seenIn st s [⟨d, true⟩] = lies st d s := by
  unfold seenIn
  rw [hg]
  simp only [Bool.false_eq_true, if_false]
  cases lies st d s <;> rfl
theorem maker_one (d : Nat) (hg : isGone st d = false) : makerOf st [⟨d, true⟩] = some ⟨d, true⟩ := by
  unfold makerOf
  rw [hg]
  rfl
theorem W0_last : W0.getLast? = some ⟨0, [⟨0, true⟩]⟩ := rfl

theorem go1 {s : ByteArray} {way way' : List Spot} (h : wayStep st way s = (0, way')) : wayGo st [s] way = (1, 0, way') := by
  unfold wayGo
  rw [h]
  rfl
theorem go1_no {s : ByteArray} {way : List Spot} {e : Int} (h : wayStep st way s = (e, way)) (he : e ≠ 0) : wayGo st [s] way = (0, e, way) := by
  unfold wayGo
  rw [h]
  simp only [if_neg he]
theorem go2 {s t : ByteArray} {way w1 w2 : List Spot} (h : wayStep st way s = (0, w1)) (h2 : wayStep st w1 t = (0, w2)) : wayGo st [s, t] way = (2, 0, w2) := by
  have := go1 h2
  unfold wayGo
  rw [h]
  simp only [if_true]
  rw [this]
theorem go2_no {s t : ByteArray} {way w1 : List Spot} {e : Int} (h : wayStep st way s = (0, w1)) (h2 : wayStep st w1 t = (e, w1)) (he : e ≠ 0) : wayGo st [s, t] way = (1, e, w1) := by
  have := go1_no h2 he
  unfold wayGo
  rw [h]
  simp only [if_true]
  rw [this]

/-- The bytes of a file, whole. -/
theorem textAt_all {d : ByteArray} (h : d.size ≤ 300) : textAt d 0 300 = d := by
  unfold textAt
  by_cases h0 : 0 < d.size
  · rw [if_pos h0, show min (0 + 300) d.size = d.size by omega, ByteArray.extract_zero_size]
  · rw [if_neg h0]
    apply ByteArray.ext
    have : d.data.size = 0 := by have : d.size = d.data.size := rfl; omega
    exact (Array.eq_empty_of_size_eq_zero this).symm
theorem over_new (t : ByteArray) : over ⟨#[]⟩ 0 t = t := by
  have h0 : (padded ⟨#[]⟩ 0).size = 0 := by rw [size_padded]; rfl
  unfold over
  rw [if_neg (by omega)]
  apply ByteArray.ext
  simp [padded, zeros, ByteArray.data_append]
end
end Go.Proofs.YtdmdgnghaceibaaGreat.P
/- 'dir', 'file', 'told', 'listed' of the laws without the document's answer. -/
namespace Go.Proofs.YtdmdgnghaceibaaGreat.P
open M Go.ChangeShapes Go.WideShapes Go.ChangeAt Go.RowKit
set_option linter.unusedVariables false

theorem KOk.counted {st : St} (h : KOk st) (c : Int) : KOk (counted st c) := h.same ⟨⟨h.ok.fids.once, h.ok.fids.small⟩, h.ok.root, h.ok.way, h.ok.laid, h.ok.names, h.ok.inn, h.ok.live⟩ rfl rfl

/-- How 'dir' and 'file' end. -/
def MadeEnds (w : World) (X : Nat → Prop) (s : Nat) (st : St) (x : Nd) (e : Ending) (w' : World) : Prop := e = .returned (.bool true) ∧ ∃ c, KSrv w' X s (made st x c) ∧ KOk (made st x c) ∧ Ext X w w'

theorem no_names (w : World) : NamesAt w none [] := ⟨by simp [maxLen], fun i s hs => by simp at hs⟩

/-- Walk by names that were typed there. -/
theorem k_walk_lit {w : World} {X : Nat → Prop} {s : Nat} {st : St} (n t : Int) (names : List ByteArray) (c : Nat) (h : KSrv w X s st) (ok : POk st) (hl : names.length ≤ maxLen) (hs : ∀ x ∈ names, x.size ≤ maxLen) :
    Calls Tryz.prog 14 #[.pointer (some ⟨s, 0, none⟩), .int .i64 n, .int .i64 t, .slice (some ⟨w.heap.size, 0, none⟩) names.length c] (w.alloc (.cells (names.map Value.string).toArray 9)) fun e w' => e = .returned (.tuple #[.int .i64 (mWalk st n t names).2.1, .int .i64 (mWalk st n t names).2.2]) ∧ KSrv w' X s (mWalk st n t names).1 ∧ Ext X w w' := by
  have hb : Below w.heap.size w (w.alloc (.cells (names.map Value.string).toArray 9)) := (Below.refl _ w).alloc (Nat.le_refl _) _
  have h1 := h.apart hb (fun k => k = w.heap.size) (fun k hk => by subst hk; simp)
  refine (k_walk n t names (some ⟨w.heap.size, 0, none⟩) c h1 ok ⟨hl, fun i x hx => ⟨hs x (List.mem_of_getElem? hx), w.heap.size, 0, rfl, ?_⟩⟩ (fun a ha _ q => by cases ha; exact q.2 rfl)).mono ?_
  · have := heap_alloc_new w (.cells (names.map Value.string).toArray 9)
    simp only [World.cell?, this]
    simp [hx]
  · rintro e w' ⟨rfl, h2, hx2⟩
    exact ⟨rfl, h2.more (fun k hk => hk.1), (Ext.below hb).trans' (hx2.weak (fun k hk => hk.1))⟩
theorem k_walk1 {w : World} {X : Nat → Prop} {s : Nat} {st : St} (n t : Int) (a : ByteArray) (c : Nat) (h : KSrv w X s st) (ok : POk st) (ha : a.size ≤ maxLen) :
    Calls Tryz.prog 14 #[.pointer (some ⟨s, 0, none⟩), .int .i64 n, .int .i64 t, .slice (some ⟨w.heap.size, 0, none⟩) 1 c] (w.alloc (.cells #[.string a] 9)) fun e w' => e = .returned (.tuple #[.int .i64 (mWalk st n t [a]).2.1, .int .i64 (mWalk st n t [a]).2.2]) ∧ KSrv w' X s (mWalk st n t [a]).1 ∧ Ext X w w' :=
  k_walk_lit n t [a] c h ok (by simp [maxLen]) (by simpa using ha)
theorem k_walk2 {w : World} {X : Nat → Prop} {s : Nat} {st : St} (n t : Int) (a b : ByteArray) (c : Nat) (h : KSrv w X s st) (ok : POk st) (ha : a.size ≤ maxLen) (hb : b.size ≤ maxLen) :
    Calls Tryz.prog 14 #[.pointer (some ⟨s, 0, none⟩), .int .i64 n, .int .i64 t, .slice (some ⟨w.heap.size, 0, none⟩) 2 c] (w.alloc (.cells #[.string a, .string b] 9)) fun e w' => e = .returned (.tuple #[.int .i64 (mWalk st n t [a, b]).2.1, .int .i64 (mWalk st n t [a, b]).2.2]) ∧ KSrv w' X s (mWalk st n t [a, b]).1 ∧ Ext X w w' :=
  k_walk_lit n t [a, b] c h ok (by simp [maxLen]) (by simpa using ⟨ha, hb⟩)

/-- Write of a text that was turned into bytes there. -/
theorem k_write_text {w : World} {X : Nat → Prop} {s : Nat} {st : St} (n a : Int) (ha : a ≤ 9223372036854775807) (t : ByteArray) (c : Nat) (o : Obj) (h : KSrv w X s st) (ok : KOk st) (hsrc : SrcIs (w.drew.alloc o) 1 (.slice (some ⟨w.heap.size, 0, none⟩) t.size c) (byteCells t)) (ht : t.size ≤ 140737488355328) :
    Calls Tryz.prog 18 #[.pointer (some ⟨s, 0, none⟩), .int .i64 n, .int .i64 a, .slice (some ⟨w.heap.size, 0, none⟩) t.size c] (w.alloc o).drew fun e w' => e = .returned (.tuple #[.int .i64 (mWrite st n a t).2.1, .int .i64 (mWrite st n a t).2.2]) ∧ KSrv w' X s (mWrite st n a t).1 ∧ Ext X w w' := by
  have hb : Below w.heap.size w (w.alloc o).drew := ((Below.refl _ w).alloc (Nat.le_refl _) _).drew
  have h1 := h.apart hb (fun k => k = w.heap.size) (fun k hk => by subst hk; simp)
  refine (k_write n a ha (some ⟨w.heap.size, 0, none⟩) c t h1 ok hsrc (fun q hq _ e => by cases hq; exact e.2 rfl) ht).mono ?_
  rintro e w' ⟨rfl, h2, hx2⟩
  exact ⟨rfl, h2.more (fun k hk => hk.1), (Ext.below hb).trans' (hx2.weak (fun k hk => hk.1))⟩

set_option maxRecDepth 20000 in
set_option maxHeartbeats 1000000 in
theorem kdir_any {w : World} {X : Nat → Prop} {s : Nat} {st : St} (name : ByteArray) (h : KSrv w X s st) (k : KOk st) (z : Zero st) (hn : isName name = true) (hl : lies st 0 name = none) (hlive : liveNodes st.nodes < 100) (hlen : st.nodes.length < 100000) :
    Calls Tryz.prog 35 #[.pointer (some ⟨s, 0, none⟩), .string name] w fun e w' => MadeEnds w X s st (newNd name true 0) e w' := by
  obtain ⟨hrg, hrd⟩ := root_live k.tree
  have e1 : mWalk st 0 1 [] = (withFid (tick st) ⟨1, W0, false⟩, 0, 0) := by
    rw [mWalk_new z.find z.get rfl rfl (by decide) (by decide) z.one (by simp) (by simp)]
    rfl
  have z1 : M.find (tick st) 1 = none := z.one
  have k1 := k.walk 0 1 []
  rw [e1] at k1
  obtain ⟨sp, e2, hspn⟩ := mCreate_with (st := tick st) (n := 1) (way := W0) (name := name) (dir := true) (m := ⟨0, true⟩) z1 W0_last hrg hrd hn ((seen_one (st := tick st) 0 name hrg).trans hl) (maker_one 0 hrg) hlive
  have k2 := k1.create 1 name true hlen
  rw [e2] at k2
  have e3 := mClunk_with (st := { tick (tick st) with nodes := (tick st).nodes ++ [newNd name true 0] }) (f := ⟨1, W0 ++ [sp], true⟩) z1
  have k3 := k2.clunk 1
  rw [show mClunk _ 1 = _ from e3] at k3
  have HW := hide (k_walk 0 1 [] none 0 h k.ok (no_names w) (fun a ha => by cases ha))
  rw [e1] at HW
  have hsz : name.size ≤ maxLen := by have := isName_size hn; unfold maxLen; omega
  have HCr := hide (fun (w1 : World) (h1 : KSrv w1 X s (withFid (tick st) ⟨1, W0, false⟩)) => k_create 1 name true h1 k1 hsz)
  rw [e2] at HCr
  have HCl := hide (fun (w1 : World) (h1 : KSrv w1 X s (withFid { tick (tick st) with nodes := (tick st).nodes ++ [newNd name true 0] } ⟨1, W0 ++ [sp], true⟩)) => k_clunk 1 h1 k2.ok)
  rw [show mClunk _ 1 = _ from e3] at HCl
  have K3 := hide k3
  clear h k z e1 e2 e3 k1 k2 k3 z1 hl hspn
  go_enter Tryz.func35, Tryz.ntmps35
  go_wp2_with (first | (go_at_call 14; refine HW.out.mono ?_; rintro e w1 ⟨rfl, h1, hx1⟩; have H1 := hide h1; have HX1 := hide hx1; clear h1 hx1) | (go_at_call 16; refine (HCr.out _ H1.out).mono ?_; rintro e w2 ⟨rfl, h2, hx2⟩; have H2 := hide h2; have HX2 := hide (HX1.out.trans' hx2); clear h2 hx2) | (go_at_call 22; refine (HCl.out _ H2.out).mono ?_; rintro e w3 ⟨rfl, h3, hx3⟩; have H3 := hide h3; have HX3 := hide (HX2.out.trans' hx3); clear h3 hx3))
  go_ret
  exact ⟨rfl, _, H3.out, K3.out, HX3.out⟩

/-- Bytes that were typed there. -/
theorem src_lit (w : World) (t : ByteArray) (C : Array Value) (fr : Nat × Nat) (c : Nat) (hC : C.toList = (byteCells t).flatten) : SrcIs (w.alloc (.cells C 5 fr)) 1 (.slice (some ⟨w.heap.size, 0, none⟩) t.size c) (byteCells t) := by
  refine ⟨bytes_one t, fun r hr u hu => ?_, .inr ⟨_, _, by rw [len_bytes], fun j u hj => ?_⟩⟩
  · unfold byteCells at hr
    obtain ⟨b, _, rfl⟩ := List.mem_map.1 hr
    simp at hu
    subst hu
    rfl
  · rw [Addr.add_lit, Nat.zero_add]
    have hb := heap_alloc_new w (.cells C 5 fr)
    simp only [World.cell?, hb]
    rw [← hC, Array.getElem?_toList] at hj
    simp [hj]
theorem k_write_lit {w : World} {X : Nat → Prop} {s : Nat} {st : St} (n a : Int) (ha : a ≤ 9223372036854775807) (t : ByteArray) (C : Array Value) (fr : Nat × Nat) (c : Nat) (hC : C.toList = (byteCells t).flatten) (h : KSrv w X s st) (ok : KOk st) (ht : t.size ≤ 140737488355328) :
    Calls Tryz.prog 18 #[.pointer (some ⟨s, 0, none⟩), .int .i64 n, .int .i64 a, .slice (some ⟨w.heap.size, 0, none⟩) t.size c] (w.alloc (.cells C 5 fr)) fun e w' => e = .returned (.tuple #[.int .i64 (mWrite st n a t).2.1, .int .i64 (mWrite st n a t).2.2]) ∧ KSrv w' X s (mWrite st n a t).1 ∧ Ext X w w' := by
  have hb : Below w.heap.size w (w.alloc (.cells C 5 fr)) := (Below.refl _ w).alloc (Nat.le_refl _) _
  have h1 := h.apart hb (fun k => k = w.heap.size) (fun k hk => by subst hk; simp)
  refine (k_write n a ha (some ⟨w.heap.size, 0, none⟩) c t h1 ok (src_lit w t C fr c hC) (fun q hq _ e => by cases hq; exact e.2 rfl) ht).mono ?_
  rintro e w' ⟨rfl, h2, hx2⟩
  exact ⟨rfl, h2.more (fun k hk => hk.1), (Ext.below hb).trans' (hx2.weak (fun k hk => hk.1))⟩
theorem conv_const (w : World) (C : Array Value) (n c : Nat) : (convert 31 31 (.slice (some ⟨w.heap.size, 0, none⟩) n c)).run Tryz.prog (w.alloc (.cells C 5)) = .ok (.slice (some ⟨w.heap.size, 0, none⟩) n c) (w.alloc (.cells C 5 (C.size, C.size + 1))) :=
  Lib.run_convert_bytes_const (P := Tryz.prog) w 31 5 C n c Tryz.underlying31 Tryz.underlying5

/-- A directory of the root, onto which nothing is bound. -/
structure DirAt (st : St) (name : ByteArray) (d : Nat) : Prop where
  nm : isName name = true
  lies : M.lies st 0 name = some d
  dir : isDir st d = true
  row : rowOf st d = [⟨d, true⟩]

theorem DirAt.live {st : St} {name : ByteArray} {d : Nat} (h : DirAt st name d) : isGone st d = false := by
  obtain ⟨x, hx, _, hg, _⟩ := lies_at h.lies
  simp only [isGone, hx]
  exact hg
theorem DirAt.come {st : St} {name : ByteArray} {d : Nat} (h : DirAt st name d) : come st d = ⟨d, [⟨d, true⟩]⟩ := by
  unfold M.come
  rw [h.dir, h.row]
  rfl
theorem DirAt.step {st : St} {name : ByteArray} {d : Nat} (h : DirAt st name d) (T : Treed st) : wayStep st W0 name = (0, W0 ++ [⟨d, [⟨d, true⟩]⟩]) := by
  obtain ⟨hrg, hrd⟩ := root_live T
  have := wayStep_in (st := st) (way := W0) (sp := ⟨0, [⟨0, true⟩]⟩) (c := d) h.nm W0_last hrg hrd ((seen_one 0 name hrg).trans h.lies)
  rw [this, h.come]
theorem wrap_one : wrap64 (0 + 1) = 1 := by kernel_rfl
theorem last_snoc (way : List Spot) (a : Spot) : (way ++ [a]).getLast? = some a := by simp
theorem nodeOf_snoc (n : Int) (way : List Spot) (a : Spot) (b : Bool) : nodeOf ⟨n, way ++ [a], b⟩ = a.n := by simp [nodeOf]

set_option maxRecDepth 20000 in
set_option maxHeartbeats 1000000 in
theorem kfile_any {w : World} {X : Nat → Prop} {s : Nat} {st : St} (inn name data : ByteArray) (d : Nat) (h : KSrv w X s st) (k : KOk st) (z : Zero st) (hd : DirAt st inn d) (hn : isName name = true) (hl : lies st d name = none) (hlive : liveNodes st.nodes < 100) (hlen : st.nodes.length < 100000) (hdata : data.size ≤ 300) :
    Calls Tryz.prog 36 #[.pointer (some ⟨s, 0, none⟩), .string inn, .string name, .string data] w fun e w' => MadeEnds w X s st ⟨name, false, (d : Int), data, 1, false⟩ e w' := by
  have hdl := hd.live
  have e1 : mWalk st 0 1 [inn] = (withFid (tick st) ⟨1, W0 ++ [⟨d, [⟨d, true⟩]⟩], false⟩, 1, 0) := by
    rw [mWalk_new z.find z.get rfl rfl (by decide) (by decide) z.one (by simp) (by simp [nameBad_no hd.nm])]
    rw [show f0.way = W0 from rfl, go1 (hd.step k.tree)]
    rfl
  have z1 : M.find (tick st) 1 = none := z.one
  have k1 := k.walk 0 1 [inn]
  rw [e1] at k1
  obtain ⟨sp, e2, hspn⟩ := mCreate_with (st := tick st) (n := 1) (way := W0 ++ [⟨d, [⟨d, true⟩]⟩]) (sp := ⟨d, [⟨d, true⟩]⟩) (name := name) (dir := false) (m := ⟨d, true⟩) z1 (last_snoc _ _) hdl hd.dir hn ((seen_one (st := tick st) d name hdl).trans hl) (maker_one d hdl) hlive
  have k2 := k1.create 1 name false hlen
  rw [e2] at k2
  have hx : ({ tick (tick st) with nodes := (tick st).nodes ++ [newNd name false d] } : St).nodes[st.nodes.length]? = some (newNd name false d) := by
    show (st.nodes ++ [newNd name false d])[st.nodes.length]? = _
    simp
  have e3 := mWrite_with (st := { tick (tick st) with nodes := (tick st).nodes ++ [newNd name false d] }) (n := 1) (a := 0) (t := data) (way := W0 ++ [⟨d, [⟨d, true⟩]⟩] ++ [sp]) (c := st.nodes.length) (x := newNd name false d) z1 (by rw [nodeOf_snoc, hspn]; rfl) hx rfl rfl (by omega) (by omega)
  have hwr : wroteNd (newNd name false d) (0 : Int).toNat data = ⟨name, false, (d : Int), data, 1, false⟩ := by
    unfold wroteNd newNd
    by_cases h0 : data.size = 0
    · rw [if_pos h0]
      have : data = ⟨#[]⟩ := by
        apply ByteArray.ext
        exact Array.eq_empty_of_size_eq_zero h0
      rw [this]
      simp only [wrap_one]
    · rw [if_neg h0]
      simp only [Int.toNat_zero, over_new, wrap_one]
  have hset : (setNode (tick { tick (tick st) with nodes := (tick st).nodes ++ [newNd name false d] }) st.nodes.length ⟨name, false, (d : Int), data, 1, false⟩) = { tick (tick (tick st)) with nodes := st.nodes ++ [⟨name, false, (d : Int), data, 1, false⟩] } := by
    unfold setNode tick
    simp
  rw [hwr, hset] at e3
  have k3 := k2.write 1 0 data
  rw [e3] at k3
  have e4 := mClunk_with (st := { tick (tick (tick st)) with nodes := st.nodes ++ [⟨name, false, (d : Int), data, 1, false⟩] }) (f := ⟨1, W0 ++ [⟨d, [⟨d, true⟩]⟩] ++ [sp], true⟩) z1
  have k4 := k3.clunk 1
  rw [show mClunk _ 1 = _ from e4] at k4
  have hin : inn.size ≤ maxLen := by have := isName_size hd.nm; unfold maxLen; omega
  have hsz : name.size ≤ maxLen := by have := isName_size hn; unfold maxLen; omega
  have HW := hide (k_walk1 0 1 inn 1 h k.ok hin)
  rw [e1] at HW
  have HCr := hide (fun (w1 : World) (h1 : KSrv w1 X s (withFid (tick st) ⟨1, W0 ++ [⟨d, [⟨d, true⟩]⟩], false⟩)) => k_create 1 name false h1 k1 hsz)
  rw [e2] at HCr
  have HWr := hide (fun (w1 : World) (c : Nat) (o : Obj) (h1 : KSrv w1 X s (withFid { tick (tick st) with nodes := (tick st).nodes ++ [newNd name false d] } ⟨1, W0 ++ [⟨d, [⟨d, true⟩]⟩] ++ [sp], true⟩)) hsrc => k_write_text 1 0 (by omega) data c o h1 k2 hsrc (by omega))
  rw [e3] at HWr
  have HCl := hide (fun (w1 : World) (h1 : KSrv w1 X s (withFid { tick (tick (tick st)) with nodes := st.nodes ++ [⟨name, false, (d : Int), data, 1, false⟩] } ⟨1, W0 ++ [⟨d, [⟨d, true⟩]⟩] ++ [sp], true⟩)) => k_clunk 1 h1 k3.ok)
  rw [show mClunk _ 1 = _ from e4] at HCl
  have K4 := hide k4
  clear h k z hd e1 e2 e3 e4 k1 k2 k3 k4 z1 hl hspn hx hwr hset hdl hn
  go_enter Tryz.func36, Tryz.ntmps36
  go_wp2_with fail
  refine HW.out.mono ?_
  rintro e w1 ⟨rfl, h1, hx1⟩
  have H1 := hide h1
  have HX1 := hide hx1
  clear h1 hx1
  go_wp2_with fail
  refine (HCr.out _ H1.out).mono ?_
  rintro e w2 ⟨rfl, h2, hx2⟩
  have H2 := hide h2
  have HX2 := hide (HX1.out.trans' hx2)
  clear h2 hx2
  obtain ⟨c, o, hrun, hsrc⟩ := bytes_laid w2 data
  have HWr2 := hide (HWr.out w2 c o H2.out hsrc)
  clear hsrc
  go_wp2_with fail
  refine HWr2.out.mono ?_
  rintro e w3 ⟨rfl, h3, hx3⟩
  have H3 := hide h3
  have HX3 := hide (HX2.out.trans' hx3)
  clear h3 hx3 hrun
  go_wp2_with fail
  refine (HCl.out _ H3.out).mono ?_
  rintro e w4 ⟨rfl, h4, hx4⟩
  have H4 := hide h4
  have HX4 := hide (HX3.out.trans' hx4)
  have qs : ((data.size : Int) == (data.size : Int)) = true := by simp
  clear h4 hx4
  go_wp2
  go_ret
  exact ⟨by simp, _, H4.out, K4.out, HX4.out⟩

/-- How 'told' ends: the Server is as it was, but for the count. -/
def ToldEnds (w : World) (X : Nat → Prop) (s : Nat) (st : St) (t : ByteArray) (e : Ending) (w' : World) : Prop := e = .returned (.string t) ∧ ∃ c, KSrv w' X s (counted st c) ∧ Ext X w w'

set_option maxRecDepth 20000 in
set_option maxHeartbeats 1000000 in
/-- 'told', where the names lead to a file. -/
theorem ktold_any {w : World} {X : Nat → Prop} {s : Nat} {st : St} (names : List ByteArray) (ao : Option Addr) (nc : Nat) (way : List Spot) (sp : Spot) (x : Nd) (h : KSrv w X s st) (k : KOk st) (z : Zero st) (hnm : NamesAt w ao names) (hnX : ∀ a, ao = some a → names ≠ [] → ¬ X a.block) (hlen : names.length ≤ 16) (hbad : names.any nameBad = false)
    (hgo : wayGo st names W0 = (names.length, 0, way)) (hsp : way.getLast? = some sp) (hx : st.nodes[sp.n]? = some x) (hg : x.gone = false) (hd : x.dir = false) :
    Calls Tryz.prog 38 #[.pointer (some ⟨s, 0, none⟩), .slice ao names.length nc] w fun e w' => ToldEnds w X s st x.data e w' := by
  have hxs : x.data.size ≤ 300 := k.small x (List.mem_of_getElem? hx)
  have e1 : mWalk st 0 1 names = (withFid (tick st) ⟨1, way, false⟩, (names.length : Int), 0) := by
    rw [mWalk_new z.find z.get rfl rfl (by decide) (by decide) z.one hlen hbad, show f0.way = W0 from rfl, hgo]
    rfl
  have z1 : M.find (tick st) 1 = none := z.one
  have k1 := k.walk 0 1 names
  rw [e1] at k1
  have e2 := mOpen_with (st := tick st) (n := 1) z1 hsp (show isGone (tick st) sp.n = false by show isGone st sp.n = false; simp only [isGone, hx]; exact hg)
  have k2 := k1.open 1
  rw [e2] at k2
  have e3 := mRead_with (st := tick (tick st)) (n := 1) (a := 0) (q := 300) (way := way) (c := sp.n) (x := x) z1 (by simp [nodeOf, hsp]) hx hg hd (by omega) (by omega)
  rw [show (0 : Int).toNat = 0 from rfl, show (300 : Int).toNat = 300 from rfl, textAt_all hxs] at e3
  have k3 : KOk (mRead (withFid (tick (tick st)) ⟨1, way, true⟩) 1 0 300).1 := by rw [mRead_tick]; exact k2.tick
  rw [e3] at k3
  have e4 := mClunk_with (st := tick (tick (tick st))) (f := ⟨1, way, true⟩) z1
  have HW := hide (k_walk 0 1 names ao nc h k.ok hnm hnX)
  rw [e1] at HW
  have HO := hide (fun (w1 : World) (h1 : KSrv w1 X s (withFid (tick st) ⟨1, way, false⟩)) => k_open 1 h1 k1.ok)
  rw [e2] at HO
  have HR := hide (fun (w1 : World) (h1 : KSrv w1 X s (withFid (tick (tick st)) ⟨1, way, true⟩)) => k_read 1 0 300 h1 k2)
  rw [e3] at HR
  have HCl := hide (fun (w1 : World) (Y : Nat → Prop) (h1 : KSrv w1 Y s (withFid (tick (tick (tick st))) ⟨1, way, true⟩)) => k_clunk 1 h1 k3.ok)
  rw [show mClunk _ 1 = _ from e4] at HCl
  clear h k z hnm hnX hbad hgo hsp hx hg hd e1 e2 e3 e4 k1 k2 k3 z1 hxs
  go_enter Tryz.func38, Tryz.ntmps38
  go_wp2_with fail
  refine HW.out.mono ?_
  rintro e w1 ⟨rfl, h1, hx1⟩
  have H1 := hide h1
  have HX1 := hide hx1
  clear h1 hx1
  go_wp2_with fail
  refine (HO.out _ H1.out).mono ?_
  rintro e w2 ⟨rfl, h2, hx2⟩
  have H2 := hide h2
  have HX2 := hide (HX1.out.trans' hx2)
  clear h2 hx2
  go_wp2_with fail
  refine (HR.out _ H2.out).mono ?_
  rintro e w3 ⟨vo, vn, vc, rfl, hv3, hk3, h3, hx3⟩
  have H3 := hide h3
  have HX3 := hide (HX2.out.trans' hx3)
  have HV3 := hide hv3
  have HK3 := hide hk3
  clear h3 hx3 hv3 hk3
  go_wp2_with fail
  refine (HCl.out _ _ H3.out).mono ?_
  rintro e w4 ⟨rfl, h4, hx4⟩
  have H4 := hide (h4.more (Y := X) (fun k hk => hk.1))
  have HX4 := hide (HX3.out.trans' (hx4.weak (X := X) (fun k hk => hk.1)))
  have hcv := bytes_string (w := w4) (Own.keptBlock HV3.out (fun k hk => hx4.block k (HK3.out k hk).2 (fun q => q.2 hk)))
  clear h4 hx4
  go_wp2
  go_ret
  exact ⟨rfl, _, H4.out, HX4.out⟩

set_option maxRecDepth 20000 in
set_option maxHeartbeats 1000000 in
/-- 'told', where the names lead nowhere. -/
theorem ktold_none {w : World} {X : Nat → Prop} {s : Nat} {st : St} (names : List ByteArray) (ao : Option Addr) (nc : Nat) (q : Nat) (er : Int) (way : List Spot) (h : KSrv w X s st) (k : KOk st) (z : Zero st) (hnm : NamesAt w ao names) (hnX : ∀ a, ao = some a → names ≠ [] → ¬ X a.block) (hlen : names.length ≤ 16) (hbad : names.any nameBad = false)
    (hgo : wayGo st names W0 = (q, er, way)) (her : er ≠ 0) :
    Calls Tryz.prog 38 #[.pointer (some ⟨s, 0, none⟩), .slice ao names.length nc] w fun e w' => ToldEnds w X s st ⟨#[63]⟩ e w' := by
  have e1 : mWalk st 0 1 names = (tick st, (q : Int), er) := by
    rw [mWalk_new z.find z.get rfl rfl (by decide) (by decide) z.one hlen hbad, show f0.way = W0 from rfl, hgo, if_neg her]
  have HW := hide (k_walk 0 1 names ao nc h k.ok hnm hnX)
  rw [e1] at HW
  have q1 : (er != 0) = true := by simpa using her
  have q2 : (er == 0) = false := by simpa using her
  clear h k z hnm hnX hbad hgo her e1
  go_enter Tryz.func38, Tryz.ntmps38
  go_wp2_with fail
  refine HW.out.mono ?_
  rintro e w1 ⟨rfl, h1, hx1⟩
  have H1 := hide h1
  have HX1 := hide hx1
  clear h1 hx1
  go_wp2
  go_ret
  exact ⟨rfl, _, H1.out, HX1.out⟩

/-- How 'listed' ends. -/
def ListedEnds (w : World) (X : Nat → Prop) (s : Nat) (st : St) (l : List ByteArray) (e : Ending) (w' : World) : Prop :=
  ∃ ao c, e = .returned (.tuple #[.slice ao l.length c, .bool true]) ∧ TextsAt w' (.slice ao l.length c) l ∧ (∀ k, (Value.slice ao l.length c).ownBlock = some k → w.heap.size ≤ k ∧ k < w'.heap.size) ∧ (∃ c', KSrv w' (fun k => X k ∧ (Value.slice ao l.length c).ownBlock ≠ some k) s (counted st c')) ∧ Ext X w w'

set_option maxRecDepth 20000 in
set_option maxHeartbeats 1000000 in
/-- 'listed': a directory of the root. -/
theorem klisted_any {w : World} {X : Nat → Prop} {s : Nat} {st : St} (name : ByteArray) (sp : Spot) (h : KSrv w X s st) (k : KOk st) (z : Zero st) (hn : isName name = true) (hst : wayStep st W0 name = (0, W0 ++ [sp])) (hg : isGone st sp.n = false) (hd : isDir st sp.n = true) :
    Calls Tryz.prog 37 #[.pointer (some ⟨s, 0, none⟩), .string name] w fun e w' => ListedEnds w X s st (listUpto st sp.row sp.row.length) e w' := by
  have e1 : mWalk st 0 1 [name] = (withFid (tick st) ⟨1, W0 ++ [sp], false⟩, 1, 0) := by
    rw [mWalk_new z.find z.get rfl rfl (by decide) (by decide) z.one (by simp) (by simp [nameBad_no hn]), show f0.way = W0 from rfl, go1 hst]
    rfl
  have z1 : M.find (tick st) 1 = none := z.one
  have k1 := k.walk 0 1 [name]
  rw [e1] at k1
  have e2 := mOpen_with (st := tick st) (n := 1) (way := W0 ++ [sp]) z1 (last_snoc _ _) hg
  have k2 := k1.open 1
  rw [e2] at k2
  have e3 := mList_with (st := tick (tick st)) (n := 1) (way := W0 ++ [sp]) z1 (last_snoc _ _) hg hd
  rw [listUpto_fids (st := st) (st' := tick (tick st)) rfl rfl] at e3
  have k3 : KOk (mList (withFid (tick (tick st)) ⟨1, W0 ++ [sp], true⟩) 1).1 := by rw [mList_tick]; exact k2.tick
  rw [e3] at k3
  have e4 := mClunk_with (st := tick (tick (tick st))) (f := ⟨1, W0 ++ [sp], true⟩) z1
  have hin : name.size ≤ maxLen := by have := isName_size hn; unfold maxLen; omega
  have HW := hide (k_walk1 0 1 name 1 h k.ok hin)
  rw [e1] at HW
  have HO := hide (fun (w1 : World) (h1 : KSrv w1 X s (withFid (tick st) ⟨1, W0 ++ [sp], false⟩)) => k_open 1 h1 k1.ok)
  rw [e2] at HO
  have HR := hide (fun (w1 : World) (h1 : KSrv w1 X s (withFid (tick (tick st)) ⟨1, W0 ++ [sp], true⟩)) => k_list 1 h1 k2)
  rw [e3] at HR
  have HCl := hide (fun (w1 : World) (Y : Nat → Prop) (h1 : KSrv w1 Y s (withFid (tick (tick (tick st))) ⟨1, W0 ++ [sp], true⟩)) => k_clunk 1 h1 k3.ok)
  rw [show mClunk _ 1 = _ from e4] at HCl
  generalize listUpto st sp.row sp.row.length = l at HR ⊢
  clear h k z hn hst hg hd e1 e2 e3 e4 k1 k2 k3 z1
  go_enter Tryz.func37, Tryz.ntmps37
  go_wp2_with fail
  refine HW.out.mono ?_
  rintro e w1 ⟨rfl, h1, hx1⟩
  have H1 := hide h1
  have HX1 := hide hx1
  clear h1 hx1
  go_wp2_with fail
  refine (HO.out _ H1.out).mono ?_
  rintro e w2 ⟨rfl, h2, hx2⟩
  have H2 := hide h2
  have HX2 := hide (HX1.out.trans' hx2)
  clear h2 hx2
  go_wp2_with fail
  refine (HR.out _ H2.out).mono ?_
  rintro e w3 ⟨vo, vc, rfl, hv3, hk3, h3, hx3⟩
  have H3 := hide h3
  have HX3 := hide (HX2.out.trans' hx3)
  have HV3 := hide hv3
  have HK3 := hide hk3
  clear h3 hx3 hv3 hk3
  go_wp2_with fail
  refine (HCl.out _ _ H3.out).mono ?_
  rintro e w4 ⟨rfl, h4, hx4⟩
  have H4 := hide h4
  have HX4 := hide (HX3.out.trans' (hx4.weak (X := X) (fun k hk => hk.1)))
  have HV4 := hide (Own.keptBlock HV3.out (fun k hk => hx4.block k (HK3.out k hk).2 (fun q => q.2 hk)))
  have HZ4 := hide hx4.size
  clear h4 hx4
  go_wp2
  go_ret2
  exact ⟨vo, vc, by simp, HV4.out, fun k hk => ⟨by have := (HK3.out k hk).1; have := HX2.out.size; omega, Nat.lt_of_lt_of_le (HK3.out k hk).2 HZ4.out⟩, ⟨_, H4.out⟩, HX4.out⟩
end Go.Proofs.YtdmdgnghaceibaaGreat.P
/- 'opened' of the laws without the document's answer. -/
namespace Go.Proofs.YtdmdgnghaceibaaGreat.P
open M Go.ChangeShapes Go.WideShapes Go.ChangeAt Go.RowKit
set_option linter.unusedVariables false

def firstName : ByteArray := ⟨#[102, 105, 114, 115, 116]⟩
def hiText : ByteArray := ⟨#[104, 105]⟩
def firstNd : Nd := ⟨firstName, false, 0, ⟨#[0, 0, 104, 105]⟩, 1, true⟩
/-- The Server that 'opened' hands back. -/
def StK : St := ⟨[root, firstNd], [], [f0], 6⟩

theorem mRemove_with {st : St} {n : Int} {way : List Spot} {op : Bool} {c : Nat} {x : Nd} (h : M.find st n = none) (hc : nodeOf ⟨n, way, op⟩ = c) (hx : st.nodes[c]? = some x) (hg : x.gone = false) (hd : x.dir = false) (h0 : c ≠ 0) :
    mRemove (withFid st ⟨n, way, op⟩) n = (setNode (tick st) c (goneNd x), 0) := by
  have hf := find_with (f := ⟨n, way, op⟩) h
  rw [mRemove_eq (st := withFid st ⟨n, way, op⟩) (n := n) (x := x) hf (get_with _) (by rw [hc]; exact hx)]
  have hE : removeE (withFid st ⟨n, way, op⟩) (nodeOf ⟨n, way, op⟩) x = 0 := by
    unfold removeE
    rw [hg, hc, hd]
    simp [h0]
  rw [hE, if_pos rfl, hc, show tick (withFid st ⟨n, way, op⟩) = withFid (tick st) ⟨n, way, op⟩ from rfl, show st.fids.length = (tick st).fids.length from rfl, drop_with]

theorem isName_first : isName firstName = true := by decide +kernel

def stA (c : Int) : St := ⟨[root], [], [f0], c⟩
def stB (c : Int) (x : Nd) : St := ⟨[root, x], [], [f0], c⟩

theorem o1 : mAttach St0 0 = (stA 1, 0) := by kernel_rfl
theorem oz (c : Int) : Zero (stA c) := ⟨⟨[], rfl⟩, rfl⟩
theorem ozB (c : Int) (x : Nd) : Zero (stB c x) := ⟨⟨[], rfl⟩, rfl⟩
theorem otick (st : St) (c d : Int) (h : wrap64 (c + 1) = d) : tick (counted st c) = counted st d := by
  unfold tick counted
  simp only [h]
theorem oA (c d : Int) (h : wrap64 (c + 1) = d) : tick (stA c) = stA d := otick (stA 0) c d h
theorem oB (c d : Int) (x : Nd) (h : wrap64 (c + 1) = d) : tick (stB c x) = stB d x := otick (stB 0 x) c d h
theorem oAlive (c : Int) : isGone (stA c) 0 = false ∧ isDir (stA c) 0 = true := ⟨rfl, rfl⟩

theorem o2 : mWalk (stA 1) 0 1 [] = (withFid (stA 2) ⟨1, W0, false⟩, 0, 0) := by
  have z := oz 1
  rw [mWalk_new z.find z.get rfl rfl (by decide) (by decide) z.one (by simp) (by simp), oA 1 2 (by kernel_rfl)]
  rfl
theorem o3 : ∃ sp, mCreate (withFid (stA 2) ⟨1, W0, false⟩) 1 firstName false = (withFid (stB 3 (newNd firstName false 0)) ⟨1, W0 ++ [sp], true⟩, 0) ∧ sp.n = 1 := by
  obtain ⟨sp, h, hn⟩ := mCreate_with (st := stA 2) (n := 1) (way := W0) (sp := ⟨0, [⟨0, true⟩]⟩) (name := firstName) (dir := false) (m := ⟨0, true⟩) (oz 2).one W0_last rfl rfl isName_first (by decide +kernel) rfl (by decide)
  refine ⟨sp, ?_, hn⟩
  rw [h, oA 2 3 (by kernel_rfl)]
  rfl
theorem o4 (sp : Spot) (hn : sp.n = 1) : mWrite (withFid (stB 3 (newNd firstName false 0)) ⟨1, W0 ++ [sp], true⟩) 1 2 hiText = (withFid (stB 4 { firstNd with gone := false }) ⟨1, W0 ++ [sp], true⟩, 2, 0) := by
  rw [mWrite_with (st := stB 3 (newNd firstName false 0)) (c := 1) (x := newNd firstName false 0) (ozB 3 _).one (by rw [nodeOf_snoc, hn]) rfl rfl rfl (by decide) (by decide), oB 3 4 _ (by kernel_rfl)]
  kernel_rfl
theorem o5 (sp : Spot) (hn : sp.n = 1) : mRead (withFid (stB 4 { firstNd with gone := false }) ⟨1, W0 ++ [sp], true⟩) 1 0 9 = (withFid (stB 5 { firstNd with gone := false }) ⟨1, W0 ++ [sp], true⟩, ⟨#[0, 0, 104, 105]⟩, 0) := by
  rw [mRead_with (st := stB 4 { firstNd with gone := false }) (c := 1) (x := { firstNd with gone := false }) (ozB 4 _).one (by rw [nodeOf_snoc, hn]) rfl rfl rfl (by decide) (by decide), oB 4 5 _ (by kernel_rfl)]
  kernel_rfl
theorem o6 (sp : Spot) (hn : sp.n = 1) : mRemove (withFid (stB 5 { firstNd with gone := false }) ⟨1, W0 ++ [sp], true⟩) 1 = (StK, 0) := by
  rw [mRemove_with (st := stB 5 { firstNd with gone := false }) (c := 1) (x := { firstNd with gone := false }) (ozB 5 _).one (by rw [nodeOf_snoc, hn]) rfl rfl rfl (by decide), oB 5 6 _ (by kernel_rfl)]
  rfl

theorem St0_kok : KOk St0 := ⟨St0_ok, St0_treed, St0_small, by decide⟩

theorem ksrv_fresh {w : World} {X : Nat → Prop} (hX : ∀ k, w.heap.size ≤ k → X k) : KSrv (w.alloc (.cells Tryz.zeroCells110 110)) X w.heap.size St0 :=
  ⟨fun k => k = w.heap.size, .inl ⟨fresh_zero (heap_alloc_new w _) rfl, rfl⟩, fun k hk => by subst hk; exact ⟨hX _ (Nat.le_refl _), by simp⟩, fun k hk => hX k (by simp at hk; omega)⟩

/-- How 'opened' ends. -/
def OpenedEnds (w : World) (X : Nat → Prop) (e : Ending) (w' : World) : Prop := e = .returned (.pointer (some ⟨w.heap.size, 0, none⟩)) ∧ KSrv w' X w.heap.size StK ∧ KOk StK ∧ Ext X w w'

set_option maxRecDepth 20000 in
set_option maxHeartbeats 1000000 in
theorem opened_any {w : World} {X : Nat → Prop} (hX : ∀ k, w.heap.size ≤ k → X k) : Calls Tryz.prog 32 #[] w fun e w' => OpenedEnds w X e w' := by
  obtain ⟨sp, e3, hn⟩ := o3
  have k0 := St0_kok
  have k1 := k0.attach 0
  rw [o1] at k1
  have k2 := k1.walk 0 1 []
  rw [o2] at k2
  have k3 := k2.create 1 firstName false (by decide)
  rw [e3] at k3
  have k4 := k3.write 1 2 hiText
  rw [o4 sp hn] at k4
  have k5 : KOk (mRead (withFid (stB 4 { firstNd with gone := false }) ⟨1, W0 ++ [sp], true⟩) 1 0 9).1 := by rw [mRead_tick]; exact k4.tick
  rw [o5 sp hn] at k5
  have k6 := k5.remove 1
  rw [o6 sp hn] at k6
  have H0 := hide (ksrv_fresh (w := w) hX)
  have HA := hide (fun (w1 : World) (h1 : KSrv w1 X w.heap.size St0) => k_attach 0 h1 k0.ok)
  rw [o1] at HA
  have HW := hide (fun (w1 : World) (h1 : KSrv w1 X w.heap.size (stA 1)) => k_walk 0 1 [] none 0 h1 k1.ok (no_names w1) (fun a ha => by cases ha))
  rw [o2] at HW
  have HCr := hide (fun (w1 : World) (h1 : KSrv w1 X w.heap.size (withFid (stA 2) ⟨1, W0, false⟩)) => k_create 1 firstName false h1 k2 (by decide))
  rw [e3] at HCr
  have HWr := hide (fun (w1 : World) (h1 : KSrv w1 X w.heap.size (withFid (stB 3 (newNd firstName false 0)) ⟨1, W0 ++ [sp], true⟩)) => k_write_lit 1 2 (by omega) hiText #[.int .u8 104, .int .u8 105] (2, 3) 2 rfl h1 k3 (by decide))
  rw [o4 sp hn] at HWr
  have HR := hide (fun (w1 : World) (h1 : KSrv w1 X w.heap.size (withFid (stB 4 { firstNd with gone := false }) ⟨1, W0 ++ [sp], true⟩)) => k_read 1 0 9 h1 k4)
  rw [o5 sp hn] at HR
  have HRm := hide (fun (w1 : World) (Y : Nat → Prop) (h1 : KSrv w1 Y w.heap.size (withFid (stB 5 { firstNd with gone := false }) ⟨1, W0 ++ [sp], true⟩)) => k_remove 1 h1 k5)
  rw [o6 sp hn] at HRm
  have K6 := hide k6
  have HXX := hide hX
  clear k0 k1 k2 k3 k4 k5 k6 e3 hn hX
  go_enter Tryz.func32, Tryz.ntmps32
  go_wp2_with fail
  refine (HA.out _ H0.out).mono ?_
  rintro e w1 ⟨rfl, h1, hx1⟩
  have H1 := hide h1
  have HX1 := hide ((Ext.below (F := X) ((Below.refl _ w).alloc (Nat.le_refl _) _)).trans' hx1)
  clear h1 hx1
  go_wp2_with fail
  refine (HW.out _ H1.out).mono ?_
  rintro e w2 ⟨rfl, h2, hx2⟩
  have H2 := hide h2
  have HX2 := hide (HX1.out.trans' hx2)
  clear h2 hx2
  go_wp2_with fail
  refine (HCr.out _ H2.out).mono ?_
  rintro e w3 ⟨rfl, h3, hx3⟩
  have H3 := hide h3
  have HX3 := hide (HX2.out.trans' hx3)
  clear h3 hx3
  have hrun := conv_const w3 #[.int .u8 104, .int .u8 105] 2 2
  have HWr2 := hide (HWr.out w3 H3.out)
  rw [show hiText.size = 2 from rfl] at HWr2
  go_wp2_with fail
  refine HWr2.out.mono ?_
  rintro e w4 ⟨rfl, h4, hx4⟩
  have H4 := hide h4
  have HX4 := hide (HX3.out.trans' hx4)
  clear h4 hx4 hrun
  go_wp2_with fail
  refine (HR.out _ H4.out).mono ?_
  rintro e w5 ⟨vo, vn, vc, rfl, hv5, hk5, h5, hx5⟩
  have H5 := hide h5
  have HX5 := hide (HX4.out.trans' hx5)
  have HV5 := hide hv5
  have HK5 := hide hk5
  clear h5 hx5 hv5 hk5
  go_wp2_with fail
  refine (HRm.out _ _ H5.out).mono ?_
  rintro e w6 ⟨rfl, h6, hx6⟩
  have H6 := hide (h6.more (Y := X) (fun k hk => hk.1))
  have HX6 := hide (HX5.out.trans' (hx6.weak (X := X) (fun k hk => hk.1)))
  have hcv := bytes_string (w := w6) (Own.keptBlock HV5.out (fun k hk => hx6.block k (HK5.out k hk).2 (fun q => q.2 hk)))
  clear h6 hx6
  go_wp2_with (go_at_call 26; refine (k_calls H6.out).mono ?_; rintro e w' ⟨rfl, hw⟩; obtain rfl := hw.symm)
  go_ret
  exact ⟨rfl, H6.out, K6.out, HX6.out⟩
end Go.Proofs.YtdmdgnghaceibaaGreat.P
/- 'pick', 'letter'; the states through which 'Gone' goes. -/
namespace Go.Proofs.YtdmdgnghaceibaaGreat.P
open M Go.ChangeShapes Go.WideShapes Go.ChangeAt Go.RowKit
set_option linter.unusedVariables false

/-- Which of n things a raw number speaks of. -/
def mPick (c : Int) (n : Nat) : Nat := (if c < 0 then -(c + 1) else c).toNat % n
theorem mPick_lt (c : Int) {n : Nat} (h : 0 < n) : mPick c n < n := Nat.mod_lt _ h
def letterB (k : Nat) : ByteArray := ⟨#[UInt8.ofNat (97 + k)]⟩

set_option maxRecDepth 20000 in
theorem kpick_any (c : Int) (n : Nat) (w : World) (hc : -9223372036854775808 ≤ c ∧ c ≤ 9223372036854775807) (hn : 0 < n ∧ n ≤ 1000) :
    Calls Tryz.prog 33 #[.int .i64 c, .int .i64 n] w fun e w' => e = .returned (.int .i64 (mPick c n : Nat)) ∧ w' = w := by
  obtain ⟨hc1, hc2⟩ := hc
  obtain ⟨hn1, hn2⟩ := hn
  by_cases h : c < 0
  · obtain ⟨q, hq⟩ := Int.eq_ofNat_of_zero_le (show 0 ≤ -(c + 1) by omega)
    have HE := hide (show mPick c n = q % n by unfold mPick; rw [if_pos h, hq]; rfl)
    obtain rfl : c = -(q : Int) - 1 := by omega
    have e1 : -((-(q : Int) - 1) + 1) = (q : Int) := by omega
    have e2 : wrap64 (-(q : Int) - 1 + 1) = -(q : Int) := by unfold wrap64; omega
    have e3 : wrap64 (-(-(q : Int))) = (q : Int) := by unfold wrap64; omega
    have hz : ((n : Int) == 0) = false := by simp; omega
    clear hq
    go_enter Tryz.func33, Tryz.ntmps33
    go_wp2
    go_ret
    exact ⟨by rw [HE.out, Int.natCast_emod]; rfl, rfl⟩
  · obtain ⟨q, rfl⟩ := Int.eq_ofNat_of_zero_le (show 0 ≤ c by omega)
    have HE := hide (show mPick (q : Int) n = q % n by unfold mPick; rw [if_neg h]; rfl)
    have hz : ((n : Int) == 0) = false := by simp; omega
    go_enter Tryz.func33, Tryz.ntmps33
    go_wp2
    go_ret
    exact ⟨by rw [HE.out, Int.natCast_emod]; rfl, rfl⟩

set_option maxRecDepth 20000 in
theorem kletter_any (c : Int) (w : World) (hc : -9223372036854775808 ≤ c ∧ c ≤ 9223372036854775807) :
    Calls Tryz.prog 34 #[.int .i64 c] w fun e w' => e = .returned (.string (letterB (mPick c 8))) ∧ Below w.heap.size w w' := by
  have HP := hide (kpick_any c 8 w hc (by omega))
  have hlt := mPick_lt c (n := 8) (by omega)
  obtain ⟨k, hk⟩ : ∃ k, mPick c 8 = k := ⟨_, rfl⟩
  rw [hk] at HP hlt ⊢
  clear hk hc
  have hb : (UInt8.ofNat (97 + k)).toNat = 97 + k := by simp; omega
  have hcv : (convert 31 9 (.slice (some ⟨w.heap.size, 0, none⟩) 1 1)).run Tryz.prog (w.alloc (.cells #[.int .u8 (97 + (k : Int))] 5)) = .ok (.string (letterB k)) (w.alloc (.cells #[.int .u8 (97 + (k : Int))] 5)) := by
    refine run_convert_bytes_back (P := Tryz.prog) _ 31 9 5 ⟨w.heap.size, 0, none⟩ 1 [UInt8.ofNat (97 + k)] Tryz.underlying31 Tryz.underlying5 Tryz.underlying9 (fun j hj => ?_)
    have hj0 : j = 0 := by simp at hj; omega
    subst hj0
    have := heap_alloc_new w (.cells #[.int .u8 (97 + (k : Int))] 5)
    rw [Addr.add_lit]
    simp only [World.cell?, this, List.getElem_cons_zero, hb]
    simp
  have HB := hide (show Below w.heap.size w (w.alloc (.cells #[.int .u8 (97 + (k : Int))] 5)) from (Below.refl _ w).alloc (Nat.le_refl _) _)
  clear hb
  go_enter Tryz.func34, Tryz.ntmps34
  go_wp2_with (go_at_call 33; refine HP.out.mono ?_; rintro e w' ⟨rfl, hw⟩; obtain rfl := hw.symm)
  go_ret
  exact ⟨rfl, HB.out⟩

theorem isName_letter {k : Nat} (h : k < 8) : isName (letterB k) = true := by
  have : ∀ k : Fin 8, isName (letterB k.val) = true := by decide +kernel
  exact this ⟨k, h⟩

/-! ### States with nothing bound -/
def Gs (nodes : List Nd) (fids : List Fid) (c : Int) : St := ⟨nodes, [], fids, c⟩
def dName : ByteArray := ⟨#[100]⟩
def newText : ByteArray := ⟨#[110, 101, 119]⟩
def dNd : Nd := newNd dName true 0
def gFile (L data : ByteArray) (g : Bool) : Nd := ⟨L, false, 2, data, 1, g⟩
def wd : List Spot := W0 ++ [⟨2, [⟨2, true⟩]⟩]
def w3 : List Spot := wd ++ [⟨3, []⟩]
theorem isName_d : isName dName = true := by decide +kernel

section
variable {L data : ByteArray} {g : Bool} {rest : List Nd} {fids : List Fid} {c : Int}

theorem gs_tick (nodes : List Nd) : tick (Gs nodes fids c) = Gs nodes fids (wrap64 (c + 1)) := rfl
theorem gs_row (nodes : List Nd) (d : Nat) : rowOf (Gs nodes fids c) d = [⟨d, true⟩] := rfl
theorem g_d (hr : ∀ x ∈ rest, True) : lies (Gs (root :: firstNd :: dNd :: rest) fids c) 0 dName = some 2 := by
  simp [lies, Gs, liesHere, root, firstNd, dNd, newNd, List.findIdx?_cons]
theorem g_dir : DirAt (Gs (root :: firstNd :: dNd :: rest) fids c) dName 2 := ⟨isName_d, g_d (fun _ _ => trivial), rfl, rfl⟩
theorem g_none : lies (Gs [root, firstNd, dNd] fids c) 2 L = none := by
  simp [lies, Gs, liesHere, root, firstNd, dNd, newNd, List.findIdx?_cons]
theorem g_there : lies (Gs [root, firstNd, dNd, gFile L data false] fids c) 2 L = some 3 := by
  simp [lies, Gs, liesHere, root, firstNd, dNd, newNd, gFile, List.findIdx?_cons]
theorem g_gone : lies (Gs [root, firstNd, dNd, gFile L data true] fids c) 2 L = none := by
  simp [lies, Gs, liesHere, root, firstNd, dNd, newNd, gFile, List.findIdx?_cons]
theorem g_again (t : ByteArray) : lies (Gs [root, firstNd, dNd, gFile L data true, gFile L t false] fids c) 2 L = some 4 := by
  simp [lies, Gs, liesHere, root, firstNd, dNd, newNd, gFile, List.findIdx?_cons]
theorem g_list : listUpto (Gs [root, firstNd, dNd, gFile L data true] fids c) [⟨2, true⟩] 1 = [] := by
  have : namesOf (Gs [root, firstNd, dNd, gFile L data true] fids c) 2 = [] := by
    simp [namesOf, namesIn, Gs, addName, root, firstNd, dNd, newNd, gFile]
  simp [listUpto, this]
theorem g_busy : mBusy (Gs [root, firstNd, dNd, gFile L data false] fids c) 2 = true := by
  simp [mBusy, hasEntry, Gs, isEntry, gFile]

/-- The way to the file. -/
theorem g_go (T : Treed (Gs [root, firstNd, dNd, gFile L data false] fids c)) (hL : isName L = true) : wayGo (Gs [root, firstNd, dNd, gFile L data false] fids c) [dName, L] W0 = (2, 0, w3) :=
  go2 (g_dir.step T) (wayStep_in (sp := ⟨2, [⟨2, true⟩]⟩) (c := 3) hL (last_snoc _ _) rfl rfl ((seen_one 2 L rfl).trans g_there))
theorem g_go2 (t : ByteArray) (T : Treed (Gs [root, firstNd, dNd, gFile L data true, gFile L t false] fids c)) (hL : isName L = true) : wayGo (Gs [root, firstNd, dNd, gFile L data true, gFile L t false] fids c) [dName, L] W0 = (2, 0, wd ++ [⟨4, []⟩]) :=
  go2 (g_dir.step T) (wayStep_in (sp := ⟨2, [⟨2, true⟩]⟩) (c := 4) hL (last_snoc _ _) rfl rfl ((seen_one 2 L rfl).trans (g_again t)))
end

theorem mRemove_busy {st : St} {n : Int} {way : List Spot} {op : Bool} {d : Nat} {x : Nd} (h : M.find st n = none) (hc : nodeOf ⟨n, way, op⟩ = d) (hx : st.nodes[d]? = some x) (hg : x.gone = false) (hd : x.dir = true) (h0 : d ≠ 0) (hb : mBusy st d = true) :
    mRemove (withFid st ⟨n, way, op⟩) n = (tick st, 10) := by
  have hf := find_with (f := ⟨n, way, op⟩) h
  rw [mRemove_eq (st := withFid st ⟨n, way, op⟩) (n := n) (x := x) hf (get_with _) (by rw [hc]; exact hx)]
  have hE : removeE (withFid st ⟨n, way, op⟩) (nodeOf ⟨n, way, op⟩) x = 10 := by
    unfold removeE
    rw [hg, hc, hd, show mBusy (withFid st ⟨n, way, op⟩) d = true from hb]
    simp [h0]
  rw [hE, if_neg (by decide), show tick (withFid st ⟨n, way, op⟩) = withFid (tick st) ⟨n, way, op⟩ from rfl, show st.fids.length = (tick st).fids.length from rfl, drop_with]
end Go.Proofs.YtdmdgnghaceibaaGreat.P
