/- The reference's 'drop', 'Clunk', 'Open'. -/
import Derived.Test.YtdmdgnghaceibaaGreatPart07
import Derived.Test.YtdmdgnghaceibaaGreatPart02
import Derived.Test.YtdmdgnghaceibaaGreatPart01
import Derived.Test.YtdmdgnghaceibaaGreatPart03
namespace Go.Proofs.YtdmdgnghaceibaaGreat
open M Go.ChangeShapes Go.WideShapes Go.ChangeAt Go.RowKit
set_option linter.unusedVariables false

theorem fid_one (vs : List Value) (fids : List Fid) (hv : ∀ v ∈ vs, ∃ ao n c, v = .slice ao n c) : ∀ r ∈ List.zipWith fidCells vs fids, ∀ u ∈ r, u.oneCell' = true := by
  intro r hr u hu
  obtain ⟨i, hi, e⟩ := List.mem_iff_getElem.1 hr
  rw [List.getElem_zipWith] at e
  subst e
  have hi' : i < vs.length := by rw [List.length_zipWith] at hi; omega
  obtain ⟨ao, n, c, hs⟩ := hv vs[i] (List.getElem_mem hi')
  simp only [fidCells, hs, List.mem_cons, List.not_mem_nil, or_false] at hu
  rcases hu with rfl | rfl | rfl <;> rfl

theorem way_forms {w : World} {F : Nat → Prop} {vs : List Value} {fids : List Fid} (hE : Each (fun v f => WayIs w F v f.way) vs fids) : ∀ v ∈ vs, ∃ ao n c, v = .slice ao n c := by
  intro v hv
  obtain ⟨i, hi, e⟩ := List.mem_iff_getElem.1 hv
  have hv' : vs[i]? = some v := by rw [List.getElem?_eq_getElem hi, e]
  obtain ⟨f, hf⟩ := getElem?_of_lt (show i < fids.length by rw [← hE.1]; exact hi)
  obtain ⟨_, _, hO⟩ := hE.2 i v f hv' hf
  obtain ⟨ao, c, h⟩ := hO.form
  exact ⟨ao, _, c, h⟩

/-- A piece of an owned slice, as a source. -/
theorem SrcIs.piece {w : World} {F : Nat → Prop} {e : TypeId} {size g n cap : Nat} {rows : List (List Value)} (h : Own w F e size (.slice (some ⟨g, 0, none⟩) n cap) rows) (h1 : ∀ r ∈ rows, ∀ u ∈ r, u.oneCell' = true) (i m c : Nat) (hi : i + m ≤ rows.length) (ad : Addr) (had : 0 < m → ad = ⟨g, i * size, none⟩) :
    SrcIs w size (.slice (some ad) m c) ((rows.drop i).take m) := by
  have hmem : ∀ r ∈ (rows.drop i).take m, r ∈ rows := fun r hr => List.mem_of_mem_drop (List.mem_of_mem_take hr)
  have hlen : ((rows.drop i).take m).length = m := by rw [List.length_take, List.length_drop]; omega
  refine ⟨fun r hr => h.2.1 r (hmem r hr), fun r hr => h1 r (hmem r hr), .inr ⟨ad, c, by rw [hlen], fun j u hj => ?_⟩⟩
  have hfl : ∀ r ∈ (rows.drop i).take m, r.length = size := fun r hr => h.2.1 r (hmem r hr)
  have hjl := M.lt_of_getElem? hj
  rw [flat_length size _ hfl, hlen] at hjl
  have hm : 0 < m := by
    rcases Nat.eq_zero_or_pos m with rfl | h
    · simp at hjl
    · exact h
  have hs : 0 < size := by
    rcases Nat.eq_zero_or_pos size with rfl | h
    · simp at hjl
    · exact h
  rw [had hm, Addr.add_lit]
  have hq : j / size < m := by rw [Nat.div_lt_iff_lt_mul hs]; exact hjl
  have hdm : j / size * size + j % size = j := by rw [Nat.mul_comm]; exact Nat.div_add_mod j size
  have hr : ((rows.drop i).take m)[j / size]? = rows[i + j / size]? := by rw [List.getElem?_take_of_lt hq, List.getElem?_drop]
  obtain ⟨row, hrow⟩ := getElem?_of_lt (show i + j / size < rows.length by omega)
  have hfa := flat_at size ((rows.drop i).take m) (j / size) row (j % size) hfl (by rw [hr, hrow]) (Nat.mod_lt _ hs)
  rw [hdm] at hfa
  rw [hfa] at hj
  rcases h.opened with ⟨hv, _⟩ | ⟨g', cap', hv, _, _, _, _, hcell, _⟩
  · simp at hv
  · simp only [Value.slice.injEq, Option.some.injEq, Addr.mk.injEq, and_true] at hv
    obtain ⟨rfl, _, rfl⟩ := hv
    have := hcell (i + j / size) row (j % size) u hrow hj
    rw [← this]
    congr 2
    rw [Nat.add_mul]
    omega

theorem SrcIs.tail {w : World} {F : Nat → Prop} {e : TypeId} {size g n cap : Nat} {rows : List (List Value)} (h : Own w F e size (.slice (some ⟨g, 0, none⟩) n cap) rows) (h1 : ∀ r ∈ rows, ∀ u ∈ r, u.oneCell' = true) (i : Nat) (hn : rows.length = n) (hi : i ≤ n) (hc : n ≤ cap) (c : Nat) :
    SrcIs w size (.slice (if cap = i then some ⟨g, 0, none⟩ else some ⟨g, i * size, none⟩) (n - i) c) ((rows.drop i).take (n - i)) := by
  by_cases hci : cap = i
  · rw [if_pos hci]
    exact SrcIs.piece h h1 i (n - i) c (by omega) _ (fun h0 => by omega)
  · rw [if_neg hci]
    exact SrcIs.piece h h1 i (n - i) c (by omega) _ (fun _ => rfl)

theorem Each.cut {α : Type} {p : Value → α → Prop} {vs : List Value} {xs : List α} (h : Each p vs xs) (i : Nat) (hi : i < xs.length) : Each p (vs.take i ++ vs.drop (i + 1)) (xs.take i ++ xs.drop (i + 1)) := by
  have hl := h.1
  refine ⟨by simp [hl], fun j v x hv hx => ?_⟩
  by_cases hj : j < i
  · rw [List.getElem?_append_left (by rw [List.length_take]; omega), List.getElem?_take_of_lt hj] at hv hx
    exact h.2 j v x hv hx
  · rw [List.getElem?_append_right (by rw [List.length_take]; omega), List.length_take, List.getElem?_drop] at hv hx
    rw [show min i vs.length = i by omega] at hv
    rw [show min i xs.length = i by omega] at hx
    exact h.2 _ v x hv hx

theorem zip_cut {α : Type} (c : Value → α → List Value) (vs : List Value) (xs : List α) (i : Nat) (h : vs.length = xs.length) : (List.zipWith c vs xs).take i ++ (List.zipWith c vs xs).drop (i + 1) = List.zipWith c (vs.take i ++ vs.drop (i + 1)) (xs.take i ++ xs.drop (i + 1)) := by
  rw [List.take_zipWith, List.drop_zipWith, List.zipWith_append (by simp [h])]

/-- What was appended to twice, in new memory alone. -/
theorem two_grown {w w1 w2 : World} {v1 : Value} (hg1 : w.grownBy w1 none) (hb1 : ∀ k, v1.ownBlock = some k → w.heap.size ≤ k) (hg2 : w1.grownBy w2 v1.ownBlock) : Below w.heap.size w w2 :=
  ⟨hg2.os.trans hg1.os, hg2.tape.trans hg1.tape, hg2.output.trans hg1.output, Nat.le_trans hg1.size hg2.size, fun k hk => (hg2.block k (Nat.lt_of_lt_of_le hk hg1.size) (fun e => by have := hb1 k e.symm; omega)).trans (hg1.block k hk (by simp))⟩

theorem drop_close {w w2 : World} {F : Nat → Prop} {r i : Nat} {st : St} {nv lv fv v2 : Value} {vs : List Value} (hR : RefHas w F r st nv lv fv) (hE : Each (fun v f => WayIs w F v f.way) vs st.fids) (hi : i < st.fids.length)
    (hb : Below w.heap.size w w2) (ho2 : Own w2 (ext F w w2) 216 3 v2 ((List.zipWith fidCells vs st.fids).take i ++ (List.zipWith fidCells vs st.fids).drop (i + 1))) :
    RefIs (w2.setCell ⟨r, 2, none⟩ v2) (ext F w (w2.setCell ⟨r, 2, none⟩ v2)) r (mDrop st i) ∧ Ext F w (w2.setCell ⟨r, 2, none⟩ v2) ∧ ∀ G, KeepT (fun e => e ≠ 81) G w (w2.setCell ⟨r, 2, none⟩ v2) := by
  have m : ∀ k, F k → ext F w w2 k := fun k h => .inl h
  have k2 : KeepT (fun _ => True) F w w2 := KeepT.below hb
  refine ⟨?_, ?_, fun G => (KeepT.below hb).setTy (a := ⟨r, 2, none⟩) ⟨_, (k2 r _ _ hR.own hR.blk trivial).trans hR.blk⟩ (by simp) _⟩
  · refine RefIs.mono (F := ext F w w2) ?_ (ext_mono (by simp))
    refine RefIs.setFids (fv := fv) ((k2 r _ _ hR.own hR.blk trivial).trans hR.blk) (.inl hR.own) ((hR.nodes.keepT k2 trivial).mono m) ((hR.laid.keepT k2 trivial trivial).mono m) ?_
    refine ⟨vs.take i ++ vs.drop (i + 1), (hE.imp (fun v f h => (h.keepT k2 trivial trivial).mono m)).cut i hi, ?_⟩
    rw [← zip_cut fidCells vs st.fids i hE.1]
    exact ho2
  · exact (Ext.below hb).setCell (.inl hR.own) _

set_option maxRecDepth 20000 in
set_option maxHeartbeats 1000000 in
theorem drop_any {w : World} {F : Nat → Prop} {r : Nat} {st : St} (i : Nat) (hi : i < st.fids.length) (h : RefIs w F r st) (hl : st.fids.length ≤ 100000) :
    Calls Tryz.prog 139 #[.pointer (some ⟨r, 0, none⟩), .int .i64 i] w fun e w' => e = .returned (.tuple #[]) ∧ RefIs w' (ext F w w') r (mDrop st i) ∧ Ext F w w' ∧ ∀ G, KeepT (fun e => e ≠ 81) G w w' := by
  obtain ⟨nv, lv, fv, hR⟩ := h
  obtain ⟨vs, hE, hO⟩ := hR.fids
  have hlen : (List.zipWith fidCells vs st.fids).length = st.fids.length := zip_len hE
  rcases hO.opened with ⟨rfl, hn⟩ | ⟨g, cap, rfl, hcap, hmax, hF, hb, hcell, hfz⟩
  · rw [hn] at hlen; simp at hlen; omega
  rw [hlen] at hO hR hcap
  have c2 := hR.c2
  have f2 := hR.fz 2
  have h1c := fid_one vs st.fids (way_forms hE)
  have HR := hide hR
  have HO := hide hO
  have HE := hide hE
  have Hlen := hide hlen
  have H1c := hide h1c
  unfold maxLen at hmax
  clear hR hO hE hlen hcell hfz hb hF h1c
  go_enter Tryz.func139, Tryz.ntmps139
  go_wp2_with (first
    | (at_builtin; refine wpList_append_Own _ rfl (.tmp 5) (.tmp 11) 79 rfl (fun _ => False) 216 (.agg #[.int .i64 0, .slice none 0 0, .bool false]) 3 40 Tryz.underlying79 infoFid rfl ?_ (.slice none 0 0) [] rfl (Own.nil _ _ _ _) (.slice (some ⟨g, 0, none⟩) i cap) (((List.zipWith fidCells vs st.fids).drop 0).take i) rfl ?_ i ?_ ?_ ?_ ?_; decide; exact (SrcIs.piece HO.out H1c.out 0 i cap (by rw [Hlen.out]; omega) _ (fun _ => by simp)); (rw [List.length_take, List.length_drop, Hlen.out]; simp; omega); (unfold maxLen; omega); omega; intro ao1 k1 w1 ho1 hg1 hb1; have Ho1 := hide ho1; have Hg1 := hide hg1; have Hb1 := hide hb1; have c2' : w1.cell? ⟨r, 2, none⟩ = some (.slice (some ⟨g, 0, none⟩) st.fids.length cap) := hg1.cell c2 (by simp [Value.ownBlock]); have HO1 := hide (HO.out.keptBlock (fun k hk => hg1.block k (HO.out.1.lt k hk).2 (by simp [Value.ownBlock]))); clear ho1 hg1 hb1)
    | (at_builtin; refine wpList_append_Own _ rfl (.tmp 13) (.tmp 20) 79 rfl (ext (fun _ => False) w w1) 216 (.agg #[.int .i64 0, .slice none 0 0, .bool false]) 3 40 Tryz.underlying79 infoFid rfl ?_ (.slice ao1 i k1) _ rfl Ho1.out (.slice (if cap = i + 1 then some ⟨g, 0, none⟩ else some ⟨g, (i + 1) * 3, none⟩) (st.fids.length - (i + 1)) (cap - (i + 1))) (((List.zipWith fidCells vs st.fids).drop (i + 1)).take (st.fids.length - (i + 1))) rfl ?_ (st.fids.length - 1) ?_ ?_ ?_ ?_; decide; exact (SrcIs.tail HO1.out H1c.out (i + 1) Hlen.out (by omega) hcap _); (simp only [List.length_append, List.length_take, List.length_drop, Hlen.out, List.length_nil]; omega); (unfold maxLen; omega); omega; intro ao2 k2 w2 ho2 hg2 hb2; have HB := hide (two_grown Hg1.out (fun k hk => (Hb1.out k hk).resolve_left (by simp [Value.ownBlock])) hg2); have q2 : w2.cell? ⟨r, 2, none⟩ = some (.slice (some ⟨g, 0, none⟩) st.fids.length cap) := (HB.out.cell (World.block_lt_of_cell? w _ c2)).trans c2; have f2' : w2.frozen? ⟨r, 2, none⟩ = false := (HB.out.frozen (World.block_lt_of_cell? w ⟨r, 2, none⟩ c2)).trans f2; have Ho2 := hide ho2; have Hz2 := hide hg2.size; clear ho2 hg2 hb2))
  all_goals
    go_end0
    have hz : (List.zipWith fidCells vs st.fids).drop (i + 1) = ((List.zipWith fidCells vs st.fids).drop (i + 1)).take (st.fids.length - (i + 1)) := by rw [List.take_of_length_le (by rw [List.length_drop, Hlen.out]; omega)]
    have ho : Own w2 (ext F w w2) 216 3 (.slice ao2 (st.fids.length - 1) k2) ((List.zipWith fidCells vs st.fids).take i ++ (List.zipWith fidCells vs st.fids).drop (i + 1)) := by
      rw [hz]
      refine Ho2.out.mono (fun k hk => ?_)
      have z1 := Hg1.out.size
      have z2 := Hz2.out
      rcases hk with (hk | hk) | hk
      · exact hk.elim
      · exact .inr ⟨hk.1, by have := HB.out.size; omega⟩
      · exact .inr ⟨by omega, hk.2⟩
    exact ⟨rfl, drop_close HR.out HE.out hi HB.out ho⟩
end Go.Proofs.YtdmdgnghaceibaaGreat
/- The reference's 'Clunk', 'Open'. -/
namespace Go.Proofs.YtdmdgnghaceibaaGreat
open M Go.ChangeShapes Go.WideShapes Go.ChangeAt Go.RowKit
set_option linter.unusedVariables false

/-- A call of the reference that answers one number: what it answers, and the Server behind it. -/
def Ends (w : World) (F : Nat → Prop) (r : Nat) (p : St × Int) (e : Ending) (w' : World) : Prop := e = .returned (.int .i64 p.2) ∧ RefIs w' (ext F w w') r p.1 ∧ Ext F w w'

theorem find_some {st : St} {n : Int} {i : Nat} (h : find st n = some i) : ∃ f, st.fids[i]? = some f ∧ f.n = n := by
  unfold find at h
  rw [List.findIdx?_eq_some_iff_getElem] at h
  obtain ⟨hi, hp, _⟩ := h
  exact ⟨st.fids[i], List.getElem?_eq_getElem hi, by simpa using hp⟩

set_option maxHeartbeats 1000000 in
theorem clunk_any {w : World} {F : Nat → Prop} {r : Nat} {st : St} (n : Int) (h : RefIs w F r st) (hl : st.fids.length ≤ 100000) :
    Calls Tryz.prog 106 #[.pointer (some ⟨r, 0, none⟩), .int .i64 n] w fun e w' => Ends w F r (mClunk st n) e w' := by
  cases hf : find st n with
  | none =>
    have H := hide (show mClunk st n = (tick st, 2) by simp [mClunk, hf])
    go_enter Tryz.func106, Tryz.ntmps106
    go_wp2_with fail
    refine (call_any n h).mono ?_
    rintro e w1 ⟨rfl, h1, hx, hsz⟩
    have H1 := hide h1
    have Hx := hide hx
    rw [hf]
    clear hf h h1 hx hsz
    simp only [idxV]
    go_wp2
    go_ret
    refine ⟨by rw [H.out]; rfl, ?_, Hx.out⟩
    rw [H.out]
    exact H1.out.mono (fun k hk => .inl hk)
  | some i =>
    have H := hide (show mClunk st n = (mDrop (tick st) i, 0) by simp [mClunk, hf])
    obtain ⟨f, hfi, _⟩ := find_some hf
    have hi := M.lt_of_getElem? hfi
    go_enter Tryz.func106, Tryz.ntmps106
    go_wp2_with fail
    refine (call_any n h).mono ?_
    rintro e w1 ⟨rfl, h1, hx, hsz⟩
    have H1 := hide h1
    have Hx := hide hx
    have Hsz := hide hsz
    rw [hf]
    clear hf h h1 hx hsz hfi
    simp only [idxV]
    have i0 : (0 : Int) ≤ (i : Int) := by omega
    go_wp2_with fail
    refine (drop_any (st := tick st) i hi H1.out hl).mono ?_
    rintro e w2 ⟨rfl, h2, hx2, _⟩
    have H2 := hide h2
    have Hx2 := hide hx2
    clear h2 hx2
    go_wp2
    go_ret
    refine ⟨by rw [H.out]; rfl, ?_, Hx.out.trans' Hx2.out⟩
    rw [H.out]
    exact H2.out.mono (ext_le (by rw [Hsz.out]; exact Nat.le_refl _) (Nat.le_refl _))

theorem zip_set {vs : List Value} {fids : List Fid} {i : Nat} {v : Value} {f : Fid} (hv : vs[i]? = some v) (hf : fids[i]? = some f) : (List.zipWith fidCells vs fids).set i ((fidCells v f).set 2 (.bool true)) = List.zipWith fidCells vs (fids.set i { f with op := true }) := by
  apply List.ext_getElem?
  intro j
  rw [List.getElem?_set]
  by_cases hj : i = j
  · subst hj
    have h1 := M.lt_of_getElem? hv
    have h2 := M.lt_of_getElem? hf
    rw [if_pos rfl, if_pos (by rw [List.length_zipWith]; omega), List.getElem?_zipWith, hv, List.getElem?_set_self h2]
    rfl
  · rw [if_neg hj, List.getElem?_zipWith, List.getElem?_zipWith, List.getElem?_set_ne hj]

/-- The i-th fid is opened. -/
theorem RefIs.opened {w : World} {F : Nat → Prop} {r g cap i : Nat} {st : St} {nv lv : Value} {f : Fid} (h : RefHas w F r st nv lv (.slice (some ⟨g, 0, none⟩) st.fids.length cap)) (hf : st.fids[i]? = some f) : RefIs (w.setCell ⟨g, i * 3 + 2, none⟩ (.bool true)) F r (setOpen st i f) := by
  obtain ⟨vs, hE, hO⟩ := h.fids
  obtain ⟨v, hv, _, hz⟩ := idx_row (c := fidCells) hE hf
  rcases hO.opened with ⟨hx, _⟩ | ⟨g', cap', hx, _, _, _, ⟨cur, hb⟩, _⟩
  · simp at hx
  simp at hx
  obtain ⟨rfl, _, _⟩ := hx
  have hk : KeepT (fun e => e ≠ 216) F w (w.setCell ⟨g, i * 3 + 2, none⟩ (.bool true)) := (KeepT.refl _ _ _).setCell (a := ⟨g, i * 3 + 2, none⟩) hb (by simp) _
  refine ⟨nv, lv, _, (hk r _ _ h.own h.blk (by decide)).trans h.blk, h.own, h.nodes.keepT hk (by decide), h.laid.keepT hk (by decide) (by decide), vs, ?_, ?_⟩
  · have hE' := hE.imp (fun v f h => h.keepT hk (by decide) (by decide))
    refine ⟨by simp [setOpen, hE.1], fun j v' f' hv' hf' => ?_⟩
    simp only [setOpen] at hf'
    rw [List.getElem?_set] at hf'
    by_cases hj : i = j
    · subst hj
      rw [if_pos rfl, if_pos (M.lt_of_getElem? hf)] at hf'
      cases hf'
      exact hE'.2 i v' f hv' hf
    · rw [if_neg hj] at hf'
      exact hE'.2 j v' f' hv' hf'
  · have := hO.set (k := 2) hz (by omega) (.bool true)
    rw [zip_set hv hf] at this
    exact this

/-- What a state must be for its numbers to lead somewhere. -/
structure StOk (st : St) : Prop where
  pos : 0 < st.nodes.length
  way : ∀ f ∈ st.fids, f.way ≠ [] ∧ ∀ s ∈ f.way, s.n < st.nodes.length ∧ RowOk st s.row
  laid : ∀ l ∈ st.laid, RowOk st l.row
  few : st.fids.length ≤ 51

theorem StOk.last {st : St} (h : StOk st) {f : Fid} (hf : f ∈ st.fids) : ∃ s, f.way.getLast? = some s ∧ s.n < st.nodes.length ∧ RowOk st s.row ∧ nodeOf f = s.n := by
  obtain ⟨hne, hall⟩ := h.way f hf
  have hs : f.way.getLast? = some (f.way.getLast hne) := List.getLast?_eq_some_getLast hne
  generalize f.way.getLast hne = s at hs
  have hm := List.mem_of_getLast? hs
  exact ⟨s, hs, (hall s hm).1, (hall s hm).2, by simp [nodeOf, hs]⟩

set_option maxRecDepth 20000 in
set_option maxHeartbeats 1000000 in
theorem open_any {w : World} {F : Nat → Prop} {r : Nat} {st : St} (n : Int) (h : RefIs w F r st) (ok : StOk st) :
    Calls Tryz.prog 107 #[.pointer (some ⟨r, 0, none⟩), .int .i64 n] w fun e w' => Ends w F r (mOpen st n) e w' := by
  cases hf : find st n with
  | none =>
    have H := hide (show mOpen st n = (tick st, 2) by simp [mOpen, hf])
    go_enter Tryz.func107, Tryz.ntmps107
    go_wp2_with fail
    refine (call_any n h).mono ?_
    rintro e w1 ⟨rfl, h1, hx, hsz⟩
    have H1 := hide h1
    have Hx := hide hx
    rw [hf]
    clear hf h h1 hx hsz
    simp only [idxV]
    go_wp2
    go_ret
    refine ⟨by rw [H.out]; rfl, ?_, Hx.out⟩
    rw [H.out]
    exact H1.out.mono (fun k hk => .inl hk)
  | some i =>
    obtain ⟨f, hfi, _⟩ := find_some hf
    have hi := M.lt_of_getElem? hfi
    obtain ⟨s, hs, hsn, _, hno⟩ := ok.last (List.mem_of_getElem? hfi)
    obtain ⟨x, hx⟩ := getElem?_of_lt hsn
    have hg : isGone st (nodeOf f) = x.gone := by simp [isGone, hno, hx]
    have H := hide (show mOpen st n = if f.op then (tick st, 3) else if x.gone then (tick st, 4) else (setOpen (tick st) i f, 0) by simp [mOpen, hf, hfi, hg])
    have i0 : (0 : Int) ≤ (i : Int) := by omega
    have i1 : (i : Int) < (st.fids.length : Int) := by omega
    go_enter Tryz.func107, Tryz.ntmps107
    go_wp2_with fail
    refine (call_any n h).mono ?_
    rintro e w1 ⟨rfl, h1, hx1, hsz⟩
    have H1 := hide h1
    have Hx := hide hx1
    have Hsz := hide hsz
    rw [hf]
    clear hf h hx1 hsz
    simp only [idxV]
    obtain ⟨nv, lv, fv, hR⟩ := h1
    obtain ⟨g, cap, rfl, hmax, hF, hb, hcell, hfz⟩ := hR.nodesAt ok.pos
    obtain ⟨fg, fcap, wv, rfl, hfm, hFg, _, _, _, _, co, cfz⟩ := FidsIs.at (fids := st.fids) hR.fids i f hfi
    have c2 := hR.c2
    have hgone := (hcell s.n x hx).2.2.2.2.2
    have hc0 := hR.c0
    have f2 := cfz (i * 3 + 2)
    have HR := hide hR
    have Hfi := hide hfi
    have Hs := hide hs
    have HFg := hide hFg
    have Hnode := hide (fun (W : World) (hW : RefIs W F r (tick st)) => node_any (st := tick st) i f s hfi hs hsn hW)
    unfold maxLen at hmax hfm
    clear hR hcell hfz cfz hb hF hx hfi hs hg hFg
    cases ho : f.op with
    | true =>
      rw [ho] at co
      have Ho := hide ho
      clear ho
      go_wp2
      go_ret
      refine ⟨by rw [H.out, Ho.out]; rfl, ?_, Hx.out⟩
      rw [H.out, Ho.out]
      exact H1.out.mono (fun k hk => .inl hk)
    | false =>
      rw [ho] at co
      have Ho := hide ho
      clear ho
      go_wp2_with fail
      refine (Hnode.out _ H1.out).mono ?_
      rintro e w2 ⟨g', cap', hcc, rfl, hb2⟩
      have hgg : g' = g := by rw [hc0] at hcc; simp at hcc; exact hcc.1.symm
      subst hgg
      have Hb2 := hide hb2
      have q5 : w2.cell? ⟨g', s.n * 6 + 5, none⟩ = some (.bool x.gone) := (hb2.cell (World.block_lt_of_cell? w1 _ hgone)).trans hgone
      have q2 : w2.cell? ⟨r, 2, none⟩ = some (.slice (some ⟨fg, 0, none⟩) st.fids.length fcap) := (hb2.cell (World.block_lt_of_cell? w1 _ c2)).trans c2
      have qo : w2.cell? ⟨fg, i * 3 + 2, none⟩ = some (.bool false) := (hb2.cell (World.block_lt_of_cell? w1 _ co)).trans co
      have qf : w2.frozen? ⟨fg, i * 3 + 2, none⟩ = false := (hb2.frozen (World.block_lt_of_cell? w1 ⟨fg, i * 3 + 2, none⟩ co)).trans f2
      clear hb2 hcc hc0
      cases hxg : x.gone with
      | true =>
        rw [hxg] at q5
        have Hxg := hide hxg
        clear hxg
        go_wp2
        go_ret
        refine ⟨by rw [H.out, Ho.out, Hxg.out]; rfl, ?_, Hx.out.trans' (Ext.below Hb2.out)⟩
        rw [H.out, Ho.out, Hxg.out]
        exact (H1.out.below Hb2.out).mono (fun k hk => .inl hk)
      | false =>
        rw [hxg] at q5
        have Hxg := hide hxg
        clear hxg
        go_wp2
        go_ret
        refine ⟨by rw [H.out, Ho.out, Hxg.out]; rfl, ?_, (Hx.out.trans' (Ext.below Hb2.out)).setCell (.inl HFg.out) _⟩
        rw [H.out, Ho.out, Hxg.out]
        have hk : KeepT (fun _ => True) F w1 w2 := KeepT.below Hb2.out
        have hR := HR.out
        have hR2 : RefHas w2 F r (tick st) _ lv (.slice (some ⟨fg, 0, none⟩) st.fids.length fcap) := ⟨(hk r _ _ hR.own hR.blk trivial).trans hR.blk, hR.own, hR.nodes.keepT hk trivial, hR.laid.keepT hk trivial trivial, hR.fids.keepT hk trivial trivial trivial⟩
        exact (RefIs.opened (st := tick st) hR2 Hfi.out).mono (fun k hk => .inl hk)
end Go.Proofs.YtdmdgnghaceibaaGreat
/- The reference's 'allowed'. -/
namespace Go.Proofs.YtdmdgnghaceibaaGreat
open M Go.ChangeShapes Go.WideShapes Go.ChangeAt Go.RowKit
set_option linter.unusedVariables false

set_option maxRecDepth 20000 in
set_option maxHeartbeats 2000000 in
theorem allowed_any {w : World} {F : Nat → Prop} {r : Nat} {st : St} (i : Nat) (f : Fid) (tto : Int) (names : List ByteArray) (ao : Option Addr) (nc : Nat) (hfi : st.fids[i]? = some f) (h : RefIs w F r st) (hn : NamesAt w ao names) :
    Calls Tryz.prog 149 #[.pointer (some ⟨r, 0, none⟩), .int .i64 i, .int .i64 tto, .slice ao names.length nc] w fun e w' => e = .returned (.int .i64 (mAllowed st f tto names)) ∧ w' = w := by
  have HR := hide h
  have hi := M.lt_of_getElem? hfi
  obtain ⟨nv, lv, fv, hR⟩ := h
  obtain ⟨fg, fcap, wv, rfl, hfm, _, _, _, cn, _, co, _⟩ := hR.fids.at i f hfi
  have c2 := hR.c2
  have hl := hn.1
  have i0 : (0 : Int) ≤ (i : Int) := by omega
  have i1 : (i : Int) < (st.fids.length : Int) := by omega
  unfold maxLen at hl hfm
  have Hn := hide hn
  clear hR hn hfi
  cases ho : f.op with
  | true =>
    rw [ho] at co
    have H := hide (show mAllowed st f tto names = 3 by simp [mAllowed, ho])
    clear ho
    go_enter Tryz.func149, Tryz.ntmps149
    go_wp2
    go_ret
    exact ⟨by rw [H.out]; rfl, rfl⟩
  | false =>
    rw [ho] at co
    by_cases ht : fidOk tto = true
    · have ht' := of_decide_eq_true ht
      have t1 : ¬ tto < 0 := by omega
      have t2 : ¬ 50 < tto := by omega
      have t3 : decide (tto < 0) = false := by simpa using t1
      have t4 : decide (50 < tto) = false := by simpa using t2
      have loop : ∀ (hto : ¬ (tto ≠ f.n ∧ (find st tto).isSome = true)), ¬ 16 < names.length → mAllowed st f tto names = if names.any nameBad then 6 else 0 := fun a b => by
        simp only [mAllowed, ho, ht]
        rw [if_neg (by simp), if_pos trivial, if_neg a, if_neg b]
      have hmany : ∀ (hto : ¬ (tto ≠ f.n ∧ (find st tto).isSome = true)), 16 < names.length → mAllowed st f tto names = 11 := fun a b => by
        simp only [mAllowed, ho, ht]
        rw [if_neg (by simp), if_pos trivial, if_neg a, if_pos b]
      have hex : tto ≠ f.n → (find st tto).isSome = true → mAllowed st f tto names = 2 := fun a b => by
        simp only [mAllowed, ho, ht]
        rw [if_neg (by simp), if_pos trivial, if_pos ⟨a, b⟩]
      have Hloop := hide loop
      have Hmany := hide hmany
      have Hex := hide hex
      clear loop hmany hex ht' ht ho
      have hcases : (tto = f.n ∧ (tto != f.n) = false) ∨ ((tto ≠ f.n ∧ (tto != f.n) = true) ∧ ∃ j, find st tto = some j) ∨ ((tto ≠ f.n ∧ (tto != f.n) = true) ∧ find st tto = none) := by
        by_cases e : tto = f.n
        · exact .inl ⟨e, by simp [e]⟩
        · cases hf : find st tto with
          | none => exact .inr (.inr ⟨⟨e, by simp [e]⟩, rfl⟩)
          | some j => exact .inr (.inl ⟨⟨e, by simp [e]⟩, j, rfl⟩)
      rcases hcases with ⟨e, e'⟩ | ⟨⟨e, e'⟩, j, hj⟩ | ⟨⟨e, e'⟩, hj⟩
      · have Hto := hide (show ¬ (tto ≠ f.n ∧ (find st tto).isSome = true) from fun x => x.1 e)
        clear e
        by_cases hmn : 16 < names.length
        · have H := hide (Hmany.out Hto.out hmn)
          have m1 : (16 : Int) < (names.length : Int) := by omega
          clear hmn
          go_enter Tryz.func149, Tryz.ntmps149
          go_wp2
          go_ret
          exact ⟨by rw [H.out]; rfl, rfl⟩
        · have H := hide (Hloop.out Hto.out hmn)
          have m1 : ¬ (16 : Int) < (names.length : Int) := by omega
          have m2 : decide ((16 : Int) < (names.length : Int)) = false := by simpa using m1
          clear hmn
          have hform : names = [] ∨ ∃ nb no, ao = some ⟨nb, no, none⟩ := by
            cases hnm : names with
            | nil => exact .inl rfl
            | cons a l =>
              obtain ⟨_, nb, no, e, _⟩ := Hn.out.2 0 a (by rw [hnm]; rfl)
              exact .inr ⟨nb, no, e⟩
          rcases hform with rfl | ⟨nb, no, rfl⟩
          · go_enter Tryz.func149, Tryz.ntmps149
            go_wp2
            go_loop [9, 10] (fun i _ => i = .int .i64 0) (fun _ _ => 0)
            case atStart => rfl
            case round =>
              subst hrel
              go_wp2
              go_ret
              exact ⟨by rw [H.out]; rfl, rfl⟩
          · go_enter Tryz.func149, Tryz.ntmps149
            go_wp2
            go_loop [9, 10] (fun i _ => ∃ k : Nat, k ≤ names.length ∧ i = .int .i64 k ∧ (names.take k).any nameBad = false) (fun i _ => names.length - (intOf i).toNat)
            case atStart => exact ⟨0, Nat.zero_le _, rfl, by simp⟩
            case round =>
              obtain ⟨k, hk, rfl, hany⟩ := hrel
              have Hany := hide hany
              clear hany
              by_cases hlt : k < names.length
              · obtain ⟨s, hs⟩ := getElem?_of_lt hlt
                obtain ⟨hsz, nb', no', he, hcs⟩ := Hn.out.2 k s hs
                simp only [Option.some.injEq, Addr.mk.injEq, and_true] at he
                obtain ⟨rfl, rfl⟩ := he
                have Hs := hide hs
                have Hname := hide (isName_any s w hsz)
                have Hdef := hide (show nameBad s = (!isName s && decide (s.toList ≠ [46]) && decide (s.toList ≠ [46, 46])) from rfl)
                clear hs
                generalize isName s = bn at Hname Hdef
                cases bn with
                | true =>
                  have Hb := hide (show nameBad s = false by rw [Hdef.out]; rfl)
                  go_wp2_with (go_at_call 141; refine Hname.out.mono ?_; rintro e w' ⟨rfl, rfl⟩)
                  go_round
                  case rel => exact ⟨k + 1, by omega, by go_num, any_snoc nameBad Hs.out Hany.out Hb.out⟩
                  case measure => simp [intOf]; omega
                | false =>
                  by_cases d1 : s.toList = [46]
                  · have Hb := hide (show nameBad s = false by rw [Hdef.out]; simp [d1])
                    go_wp2_with (go_at_call 141; refine Hname.out.mono ?_; rintro e w' ⟨rfl, rfl⟩)
                    go_round
                    case rel => exact ⟨k + 1, by omega, by go_num, any_snoc nameBad Hs.out Hany.out Hb.out⟩
                    case measure => simp [intOf]; omega
                  · by_cases d2 : s.toList = [46, 46]
                    · have Hb := hide (show nameBad s = false by rw [Hdef.out]; simp [d2])
                      go_wp2_with (go_at_call 141; refine Hname.out.mono ?_; rintro e w' ⟨rfl, rfl⟩)
                      go_round
                      case rel => exact ⟨k + 1, by omega, by go_num, any_snoc nameBad Hs.out Hany.out Hb.out⟩
                      case measure => simp [intOf]; omega
                    · have Hb := hide (show nameBad s = true by rw [Hdef.out]; simp [d1, d2])
                      have f1 : (s.toList == [46]) = false := by simpa using d1
                      have f2 : (s.toList == [46, 46]) = false := by simpa using d2
                      go_wp2_with (go_at_call 141; refine Hname.out.mono ?_; rintro e w' ⟨rfl, rfl⟩)
                      go_ret
                      exact ⟨by rw [H.out, any_hit nameBad Hs.out Hb.out]; rfl, rfl⟩
              · have Hall := hide (show names.any nameBad = false by rw [← Hany.out, List.take_of_length_le (by omega)])
                go_wp2
                go_ret
                exact ⟨by rw [H.out, Hall.out]; rfl, rfl⟩
      · have H := hide (Hex.out e (by simp [hj]))
        clear e
        have Hat := hide (show Calls Tryz.prog 146 #[.pointer (some ⟨r, 0, none⟩), .int .i64 tto] w fun e w' => e = .returned (.int .i64 (j : Int)) ∧ w' = w from by have := at_any tto HR.out; rw [hj] at this; exact this)
        clear hj
        have j0 : (0 : Int) ≤ (j : Int) := by omega
        go_enter Tryz.func149, Tryz.ntmps149
        go_wp2_with (go_at_call 146; refine Hat.out.mono ?_; rintro e w' ⟨rfl, hw⟩; obtain rfl := hw.symm)
        go_ret
        exact ⟨by rw [H.out]; rfl, rfl⟩
      · have Hto := hide (show ¬ (tto ≠ f.n ∧ (find st tto).isSome = true) from fun x => by rw [hj] at x; simp at x)
        clear e
        have Hat := hide (show Calls Tryz.prog 146 #[.pointer (some ⟨r, 0, none⟩), .int .i64 tto] w fun e w' => e = .returned (.int .i64 (-1)) ∧ w' = w from by have := at_any tto HR.out; rw [hj] at this; exact this)
        clear hj
        by_cases hmn : 16 < names.length
        · have H := hide (Hmany.out Hto.out hmn)
          have m1 : (16 : Int) < (names.length : Int) := by omega
          clear hmn
          go_enter Tryz.func149, Tryz.ntmps149
          go_wp2_with (go_at_call 146; refine Hat.out.mono ?_; rintro e w' ⟨rfl, hw⟩; obtain rfl := hw.symm)
          go_ret
          exact ⟨by rw [H.out]; rfl, rfl⟩
        · have H := hide (Hloop.out Hto.out hmn)
          have m1 : ¬ (16 : Int) < (names.length : Int) := by omega
          have m2 : decide ((16 : Int) < (names.length : Int)) = false := by simpa using m1
          clear hmn
          have hform : names = [] ∨ ∃ nb no, ao = some ⟨nb, no, none⟩ := by
            cases hnm : names with
            | nil => exact .inl rfl
            | cons a l =>
              obtain ⟨_, nb, no, e, _⟩ := Hn.out.2 0 a (by rw [hnm]; rfl)
              exact .inr ⟨nb, no, e⟩
          rcases hform with rfl | ⟨nb, no, rfl⟩
          · go_enter Tryz.func149, Tryz.ntmps149
            go_wp2_with (go_at_call 146; refine Hat.out.mono ?_; rintro e w' ⟨rfl, hw⟩; obtain rfl := hw.symm)
            go_loop [9, 10] (fun i _ => i = .int .i64 0) (fun _ _ => 0)
            case atStart => rfl
            case round =>
              subst hrel
              go_wp2
              go_ret
              exact ⟨by rw [H.out]; rfl, rfl⟩
          · go_enter Tryz.func149, Tryz.ntmps149
            go_wp2_with (go_at_call 146; refine Hat.out.mono ?_; rintro e w' ⟨rfl, hw⟩; obtain rfl := hw.symm)
            go_loop [9, 10] (fun i _ => ∃ k : Nat, k ≤ names.length ∧ i = .int .i64 k ∧ (names.take k).any nameBad = false) (fun i _ => names.length - (intOf i).toNat)
            case atStart => exact ⟨0, Nat.zero_le _, rfl, by simp⟩
            case round =>
              obtain ⟨k, hk, rfl, hany⟩ := hrel
              have Hany := hide hany
              clear hany
              by_cases hlt : k < names.length
              · obtain ⟨s, hs⟩ := getElem?_of_lt hlt
                obtain ⟨hsz, nb', no', he, hcs⟩ := Hn.out.2 k s hs
                simp only [Option.some.injEq, Addr.mk.injEq, and_true] at he
                obtain ⟨rfl, rfl⟩ := he
                have Hs := hide hs
                have Hname := hide (isName_any s w hsz)
                have Hdef := hide (show nameBad s = (!isName s && decide (s.toList ≠ [46]) && decide (s.toList ≠ [46, 46])) from rfl)
                clear hs
                generalize isName s = bn at Hname Hdef
                cases bn with
                | true =>
                  have Hb := hide (show nameBad s = false by rw [Hdef.out]; rfl)
                  go_wp2_with (go_at_call 141; refine Hname.out.mono ?_; rintro e w' ⟨rfl, rfl⟩)
                  go_round
                  case rel => exact ⟨k + 1, by omega, by go_num, any_snoc nameBad Hs.out Hany.out Hb.out⟩
                  case measure => simp [intOf]; omega
                | false =>
                  by_cases d1 : s.toList = [46]
                  · have Hb := hide (show nameBad s = false by rw [Hdef.out]; simp [d1])
                    go_wp2_with (go_at_call 141; refine Hname.out.mono ?_; rintro e w' ⟨rfl, rfl⟩)
                    go_round
                    case rel => exact ⟨k + 1, by omega, by go_num, any_snoc nameBad Hs.out Hany.out Hb.out⟩
                    case measure => simp [intOf]; omega
                  · by_cases d2 : s.toList = [46, 46]
                    · have Hb := hide (show nameBad s = false by rw [Hdef.out]; simp [d2])
                      go_wp2_with (go_at_call 141; refine Hname.out.mono ?_; rintro e w' ⟨rfl, rfl⟩)
                      go_round
                      case rel => exact ⟨k + 1, by omega, by go_num, any_snoc nameBad Hs.out Hany.out Hb.out⟩
                      case measure => simp [intOf]; omega
                    · have Hb := hide (show nameBad s = true by rw [Hdef.out]; simp [d1, d2])
                      have f1 : (s.toList == [46]) = false := by simpa using d1
                      have f2 : (s.toList == [46, 46]) = false := by simpa using d2
                      go_wp2_with (go_at_call 141; refine Hname.out.mono ?_; rintro e w' ⟨rfl, rfl⟩)
                      go_ret
                      exact ⟨by rw [H.out, any_hit nameBad Hs.out Hb.out]; rfl, rfl⟩
              · have Hall := hide (show names.any nameBad = false by rw [← Hany.out, List.take_of_length_le (by omega)])
                go_wp2
                go_ret
                exact ⟨by rw [H.out, Hall.out]; rfl, rfl⟩
    · have H := hide (show mAllowed st f tto names = 1 by simp [mAllowed, ho, ht])
      have ht' : tto < 0 ∨ 50 < tto := by
        have := of_decide_eq_false (by simpa using ht : fidOk tto = false)
        omega
      clear ht ho
      rcases ht' with t | t
      · go_enter Tryz.func149, Tryz.ntmps149
        go_wp2
        go_ret
        exact ⟨by rw [H.out]; rfl, rfl⟩
      · have t1 : ¬ tto < 0 := by omega
        go_enter Tryz.func149, Tryz.ntmps149
        go_wp2
        go_ret
        exact ⟨by rw [H.out]; rfl, rfl⟩
end Go.Proofs.YtdmdgnghaceibaaGreat
/- The reference's 'Walk'. -/
namespace Go.Proofs.YtdmdgnghaceibaaGreat
open M Go.ChangeShapes Go.WideShapes Go.ChangeAt Go.RowKit
set_option linter.unusedVariables false

theorem infoSpot : (Tryz.prog.info? 212).map (fun i => (i.zero, i.size, i.bytes)) = some (some (.agg #[.int .i64 0, .slice none 0 0]), 2, 32) := by kernel_rfl

theorem spot_one (vs : List Value) (way : List Spot) (hv : ∀ v ∈ vs, ∃ ao n c, v = .slice ao n c) : ∀ r ∈ List.zipWith spotCells vs way, ∀ u ∈ r, u.oneCell' = true := by
  intro r hr u hu
  obtain ⟨i, hi, e⟩ := List.mem_iff_getElem.1 hr
  rw [List.getElem_zipWith] at e
  subst e
  have hi' : i < vs.length := by rw [List.length_zipWith] at hi; omega
  obtain ⟨ao, n, c, hs⟩ := hv vs[i] (List.getElem_mem hi')
  simp only [spotCells, hs, List.mem_cons, List.not_mem_nil, or_false] at hu
  rcases hu with rfl | rfl <;> rfl

theorem row_forms {w : World} {F : Nat → Prop} {vs : List Value} {way : List Spot} (hE : Each (fun v s => RowIs w F v s.row) vs way) : ∀ v ∈ vs, ∃ ao n c, v = .slice ao n c := by
  intro v hv
  obtain ⟨i, hi, e⟩ := List.mem_iff_getElem.1 hv
  have hv' : vs[i]? = some v := by rw [List.getElem?_eq_getElem hi, e]
  obtain ⟨f, hf⟩ := getElem?_of_lt (show i < way.length by rw [← hE.1]; exact hi)
  obtain ⟨ao, c, h⟩ := Own.form (hE.2 i v f hv' hf)
  exact ⟨ao, _, c, h⟩

theorem Own.take {w : World} {F : Nat → Prop} {e : TypeId} {size g n cap : Nat} {rows : List (List Value)} (h : Own w F e size (.slice (some ⟨g, 0, none⟩) n cap) rows) (m : Nat) (hm : m ≤ n) : Own w F e size (.slice (some ⟨g, 0, none⟩) m cap) (rows.take m) := by
  have hn : n = rows.length := by
    rcases h.opened with ⟨hv, _⟩ | ⟨g', cap', hv, _⟩
    · simp at hv
    · simp at hv; exact hv.2.1
  subst hn
  have hl : ∀ r ∈ rows.take m, r.length = size := fun r hr => h.2.1 r (List.mem_of_mem_take hr)
  have hlen : (rows.take m).length = m := by rw [List.length_take]; omega
  refine ⟨⟨by rw [flat_length size _ hl], ?_⟩, hl, h.2.2⟩
  rcases h.1.2 with ⟨hv, _⟩ | ⟨g', cap', cur, hv, hb0, hb, hcap, hmax, hsz, htake⟩
  · simp at hv
  · simp at hv
    obtain ⟨rfl, rfl⟩ := hv
    refine .inr ⟨g, cap, cur, by rw [hlen], hb0, hb, by omega, hmax, hsz, ?_⟩
    have hx : (rows.take m).flatten = rows.flatten.take (m * size) := by
      have e1 : rows.flatten = (rows.take m).flatten ++ (rows.drop m).flatten := by rw [← List.flatten_append, List.take_append_drop]
      have hA : ((rows.take m).flatten).length = m * size := by rw [flat_length size _ hl, hlen]
      have h2 : ((rows.take m).flatten ++ (rows.drop m).flatten).take ((rows.take m).flatten).length = (rows.take m).flatten := List.take_left
      rw [hA, ← e1] at h2
      exact h2.symm
    rw [hx, ← htake, List.take_take, hlen]
    congr 1
    have := Nat.mul_le_mul_right size hm
    omega

/-- The way that a walk is on: new memory, its rows wherever they lie. -/
def WayNew (w1 wr : World) (F : Nat → Prop) (v : Value) (way : List Spot) : Prop :=
  ∃ vs, Each (fun v s => RowIs wr (ext F w1 wr) v s.row) vs way ∧ Own wr (ext (fun _ => False) w1 wr) 212 2 v (List.zipWith spotCells vs way)

/-- The spots of a way lead to nodes. -/
def WayOk (st : St) (way : List Spot) : Prop := way ≠ [] ∧ ∀ s ∈ way, s.n < st.nodes.length ∧ RowOk st s.row

theorem WayNew.isWay {w1 wr : World} {F : Nat → Prop} {v : Value} {way : List Spot} (h : WayNew w1 wr F v way) : WayIs wr (ext F w1 wr) v way := by
  obtain ⟨vs, hE, hO⟩ := h
  exact ⟨vs, hE, hO.mono (fun k hk => by rcases hk with hk | hk; exact hk.elim; exact .inr hk)⟩

theorem WayNew.form {w1 wr : World} {F : Nat → Prop} {v : Value} {way : List Spot} (h : WayNew w1 wr F v way) : ∃ ao c, v = .slice ao way.length c := by
  obtain ⟨vs, hE, hO⟩ := h
  obtain ⟨ao, c, h⟩ := hO.form
  rw [zip_len hE] at h
  exact ⟨ao, c, h⟩

theorem WayNew.cap {w1 wr : World} {F : Nat → Prop} {g n c : Nat} {way : List Spot} (h : WayNew w1 wr F (.slice (some ⟨g, 0, none⟩) n c) way) : n ≤ c ∧ c ≤ maxLen := by
  obtain ⟨vs, hE, hO⟩ := h
  rcases hO.opened with ⟨hv, _⟩ | ⟨g', cap', hv, h1, h2, _⟩
  · simp at hv
  · simp only [Value.slice.injEq, Option.some.injEq, Addr.mk.injEq, and_true] at hv
    obtain ⟨_, h3, rfl⟩ := hv
    exact ⟨by rw [h3]; exact h1, h2⟩

/-- Later worlds in which the old blocks are as they were. -/
theorem WayNew.later {w1 wr w' : World} {F : Nat → Prop} {v : Value} {way : List Spot} (h : WayNew w1 wr F v way) (hb : Below wr.heap.size wr w') : WayNew w1 w' F v way := by
  obtain ⟨vs, hE, hO⟩ := h
  exact ⟨vs, hE.imp (fun v s h => (h.keepT (KeepT.below (T := fun _ => True) hb) trivial).mono (ext_mono hb.size)), (hO.keepT (KeepT.below (T := fun _ => True) hb) trivial).mono (ext_mono hb.size)⟩

theorem WayNew.dropLast {w1 wr : World} {F : Nat → Prop} {g n c : Nat} {way : List Spot} (h : WayNew w1 wr F (.slice (some ⟨g, 0, none⟩) n c) way) (m : Nat) (hm : m ≤ n) : WayNew w1 wr F (.slice (some ⟨g, 0, none⟩) m c) (way.take m) := by
  obtain ⟨vs, hE, hO⟩ := h
  refine ⟨vs.take m, ⟨by simp [hE.1], fun i v s hv hs => ?_⟩, ?_⟩
  · rw [List.getElem?_take] at hv hs
    split at hv
    · rename_i hi
      rw [if_pos hi] at hs
      exact hE.2 i v s hv hs
    · simp at hv
  · have := hO.take m hm
    rw [List.take_zipWith] at this
    exact this

/-- One spot more behind the way. -/
theorem way_append {w1 wr w2 w3 : World} {F : Nat → Prop} {v v3 : Value} {vs : List Value} {way : List Spot} (s : Spot) {ao2 : Option Addr} {cc2 : Nat} {o : Obj}
    (hz : w1.heap.size ≤ wr.heap.size) (hE : Each (fun v s => RowIs wr (ext F w1 wr) v s.row) vs way) (hO : Own wr (ext (fun _ => False) w1 wr) 212 2 v (List.zipWith spotCells vs way))
    (hb : Below wr.heap.size wr w2) (hrow : RowIs w2 (ext F w1 w2) (.slice ao2 s.row.length cc2) s.row)
    (ho3 : Own w3 (ext (ext (fun _ => False) w1 (w2.alloc o)) (w2.alloc o) w3) 212 2 v3 (List.zipWith spotCells vs way ++ [[.int .i64 s.n, .slice ao2 s.row.length cc2]])) (hg3 : (w2.alloc o).grownBy w3 v.ownBlock) :
    WayNew w1 w3 F v3 (way ++ [s]) ∧ Below w1.heap.size wr w3 := by
  have z2 := hb.size
  have z3 := hg3.size
  have z4 : (w2.alloc o).heap.size = w2.heap.size + 1 := by simp
  have hOW : Own (w2.alloc o) (ext (fun _ => False) w1 wr) 212 2 v (List.zipWith spotCells vs way) := hO.keepT (T := fun _ => True) ((KeepT.below hb).alloc _) trivial
  have kT : ∀ G : Nat → Prop, KeepT (fun e => e ≠ 212) G (w2.alloc o) w3 := fun G k cur e hG hbk hT => hg3.block k (Array.getElem?_eq_some_iff.1 hbk).1 (hOW.ne ⟨cur, hbk⟩ hT)
  refine ⟨⟨vs ++ [.slice ao2 s.row.length cc2], Each.snoc (hE.imp (fun v s h => ?_)) ?_, ?_⟩, ?_⟩
  · have k1 : KeepT (fun e => e ≠ 212) (ext F w1 wr) wr w3 := ((KeepT.below hb).alloc _).trans (kT _)
    exact (h.keepT k1 (by decide)).mono (ext_le (Nat.le_refl _) (by omega))
  · have k2 : KeepT (fun e => e ≠ 212) (ext F w1 w2) w2 w3 := ((KeepT.refl _ _ _).alloc _).trans (kT _)
    exact (hrow.keepT k2 (by decide)).mono (ext_le (Nat.le_refl _) (by omega))
  · rw [← zip_snoc hE.1]
    refine Own.mono ho3 (fun k hk => ?_)
    rcases hk with (hk | hk) | hk
    · exact hk.elim
    · exact .inr ⟨hk.1, by omega⟩
    · exact .inr ⟨by omega, hk.2⟩
  · have hb1 : Below wr.heap.size wr (w2.alloc o) := hb.alloc (by omega) o
    refine ⟨hg3.os.trans hb1.os, hg3.tape.trans hb1.tape, hg3.output.trans hb1.output, by omega, fun k hk => ?_⟩
    refine (hg3.block k (by omega) (fun e => ?_)).trans (hb1.block k (by omega))
    rcases hO.2.2 k e.symm with h | h
    · exact h
    · omega

theorem one_spot {w : World} {n : Int} {ao : Option Addr} {m c : Nat} : SrcIs (w.alloc (.cells #[.int .i64 n, .slice ao m c] 212)) 2 (.slice (some ⟨w.heap.size, 0, none⟩) 1 1) [[.int .i64 n, .slice ao m c]] := by
  refine SrcIs.ofBlock (heap_alloc_new w _) rfl ?_
  intro u hu
  simp at hu
  rcases hu with rfl | rfl <;> rfl

theorem tick_gone (st : St) (n : Nat) : isGone (tick st) n = isGone st n := rfl
theorem tick_lies (st : St) (d : Nat) (name : ByteArray) : lies (tick st) d name = lies st d name := rfl
theorem tick_seen (st : St) (name : ByteArray) : ∀ row : List Member, seenIn (tick st) name row = seenIn st name row
  | [] => rfl
  | m :: row => by simp only [seenIn, tick_gone, tick_lies, tick_seen st name row]
theorem lies_lt {st : St} {d c : Nat} {name : ByteArray} (h : lies st d name = some c) : c < st.nodes.length := by
  unfold lies at h
  rw [List.findIdx?_eq_some_iff_getElem] at h
  exact h.1
theorem seen_lt {st : St} {name : ByteArray} {c : Nat} : ∀ row : List Member, seenIn st name row = some c → c < st.nodes.length
  | [], h => by simp [seenIn] at h
  | m :: row, h => by
    simp only [seenIn] at h
    split at h
    · exact seen_lt row h
    · cases hl : lies st m.d name with
      | some k =>
        rw [hl] at h
        simp at h
        subst h
        exact lies_lt hl
      | none =>
        rw [hl] at h
        exact seen_lt row h

/-- The row of a spot that is come to now leads to nodes. -/
theorem come_ok {st : St} (ok : StOk st) (c : Nat) (hc : c < st.nodes.length) : (come st c).n < st.nodes.length ∧ RowOk st (come st c).row := by
  refine ⟨hc, ?_⟩
  unfold come
  split
  · unfold rowOf
    split
    · rename_i l hl
      exact ok.laid l (List.mem_of_find?_eq_some hl)
    · intro m hm
      simp at hm
      subst hm
      exact hc
  · intro m hm
    simp at hm

/-- A fid with a way that lies there already, behind the others. -/
theorem append_close {wq w3 : World} {F : Nat → Prop} {r : Nat} {st : St} (n : Int) (way : List Spot) {nv lv fv v3 wv : Value} {vs : List Value}
    (hR : RefHas wq F r st nv lv fv) (hE : Each (fun v f => WayIs wq F v f.way) vs st.fids) (hO : Own wq F 216 3 fv (List.zipWith fidCells vs st.fids)) (hway : WayIs wq F wv way)
    (ho3 : Own w3 (ext F (wq.alloc (.cells #[.int .i64 n, wv, .bool false] 216)) w3) 216 3 v3 (List.zipWith fidCells vs st.fids ++ [[.int .i64 n, wv, .bool false]]))
    (hg3 : (wq.alloc (.cells #[.int .i64 n, wv, .bool false] 216)).grownBy w3 fv.ownBlock) :
    (w3.heap[r]? = some (.cells #[nv, lv, fv, .int .i64 st.calls] 81 (0, 0))) ∧ RefIs (w3.setCell ⟨r, 2, none⟩ v3) (ext F wq (w3.setCell ⟨r, 2, none⟩ v3)) r { st with fids := st.fids ++ [⟨n, way, false⟩] } ∧ Ext F wq (w3.setCell ⟨r, 2, none⟩ v3) := by
  generalize hW : wq.alloc (.cells #[.int .i64 n, wv, .bool false] 216) = W at *
  have z2 : W.heap.size = wq.heap.size + 1 := by rw [← hW]; simp
  have z3 := hg3.size
  have kW : ∀ (T : TypeId → Prop) (G : Nat → Prop), KeepT T G wq W := fun T G => by rw [← hW]; exact (KeepT.refl _ _ _).alloc _
  have hOW : Own W F 216 3 fv (List.zipWith fidCells vs st.fids) := hO.keepT (kW (fun _ => True) _) trivial
  have k13 : KeepT (fun e => e ≠ 216) F wq w3 := (kW _ _).trans (grown_keepT hOW hg3 _ (by simp))
  have m3 : ∀ k, F k → ext F wq w3 k := fun k h => .inl h
  have hsz : (w3.setCell ⟨r, 2, none⟩ v3).heap.size = w3.heap.size := by simp
  have hblk : w3.heap[r]? = some (.cells #[nv, lv, fv, .int .i64 st.calls] 81 (0, 0)) := (k13 r _ _ hR.own hR.blk (by decide)).trans hR.blk
  refine ⟨hblk, ?_, ?_⟩
  · refine RefIs.mono (F := ext F wq w3) ?_ (ext_mono (by rw [hsz]; exact Nat.le_refl _))
    refine RefIs.setFids (fv := fv) hblk (.inl hR.own) ((hR.nodes.keepT k13 (by decide)).mono m3) ((hR.laid.keepT k13 (by decide) (by decide)).mono m3) ?_
    refine ⟨vs ++ [wv], ?_, ?_⟩
    · exact Each.snoc (hE.imp (fun v f h => (h.keepT k13 (by decide) (by decide)).mono m3)) ((hway.keepT k13 (by decide) (by decide)).mono m3)
    · rw [← zip_snoc hE.1]
      refine Own.mono ho3 (fun k hk => ?_)
      rcases hk with hk | hk
      · exact .inl hk
      · exact .inr ⟨by omega, hk.2⟩
  · refine Ext.setCell ?_ (.inl hR.own) _
    have e1 : Ext F wq W := by rw [← hW]; exact (Ext.refl _ _).alloc _
    exact e1.trans' (grown_ext hOW hg3)

theorem src_fid1 (w : World) (n : Int) (ao : Option Addr) (l c : Nat) : SrcIs (w.alloc (.cells #[.int .i64 n, .slice ao l c, .bool false] 216)) 3 (.slice (some ⟨w.heap.size, 0, none⟩) 1 1) [[.int .i64 n, .slice ao l c, .bool false]] := by
  refine SrcIs.ofBlock (heap_alloc_new w _) rfl ?_
  intro u hu
  simp at hu
  rcases hu with rfl | rfl | rfl <;> rfl

theorem walk_close {w w1 wq w' : World} {F Fq : Nat → Prop} {r : Nat} {st' : St} (hsz : w1.heap.size = w.heap.size) (hx : Ext F w w1) (h1q : Ext F w1 wq) (hFq : Fq = ext F w1 wq) (hR : RefIs w' (ext Fq wq w') r st') (hx2 : Ext Fq wq w') : RefIs w' (ext F w w') r st' ∧ Ext F w w' := by
  subst hFq
  refine ⟨hR.mono (fun k hk => ext_le (by omega) (Nat.le_refl _) k (ext_trans h1q.size hx2.size k hk)), hx.trans' (h1q.trans hx2)⟩

/-- How 'Walk' ends. -/
def Ends2 (w : World) (F : Nat → Prop) (r : Nat) (p : St × Int × Int) (e : Ending) (w' : World) : Prop := e = .returned (.tuple #[.int .i64 p.2.1, .int .i64 p.2.2]) ∧ RefIs w' (ext F w w') r p.1 ∧ Ext F w w'

set_option maxRecDepth 20000 in
set_option maxHeartbeats 4000000 in
theorem walk_any {w : World} {F : Nat → Prop} {r : Nat} {st : St} (n tto : Int) (names : List ByteArray) (ao : Option Addr) (nc : Nat) (h : RefIs w F r st) (ok : StOk st) (hn : NamesAt w ao names) (hnF : ∀ a, ao = some a → names ≠ [] → ¬ F a.block) (hlong : ∀ f ∈ st.fids, f.way.length ≤ 1700000000000) :
    Calls Tryz.prog 112 #[.pointer (some ⟨r, 0, none⟩), .int .i64 n, .int .i64 tto, .slice ao names.length nc] w fun e w' => Ends2 w F r (mWalk st n tto names) e w' := by
  cases hf : find st n with
  | none =>
    have H := hide (show mWalk st n tto names = (tick st, 0, 2) by simp [mWalk, hf])
    go_enter Tryz.func112, Tryz.ntmps112
    go_wp2_with fail
    refine (call_any n h).mono ?_
    rintro e w1 ⟨rfl, h1, hx, hsz⟩
    have H1 := hide h1
    have Hx := hide hx
    rw [hf]
    clear hf h h1 hx hsz
    simp only [idxV]
    go_wp2
    go_ret2
    refine ⟨by rw [H.out]; rfl, ?_, Hx.out⟩
    rw [H.out]
    exact H1.out.mono (fun k hk => .inl hk)
  | some i =>
    obtain ⟨f, hfi, hfn⟩ := find_some hf
    have hi := M.lt_of_getElem? hfi
    have hmem := List.mem_of_getElem? hfi
    have i0 : (0 : Int) ≤ (i : Int) := by omega
    have i1 : (i : Int) < (st.fids.length : Int) := by omega
    have HD := hide (show mWalk st n tto names = if mAllowed (tick st) f tto names = 0 then
        (if (wayGo st names f.way).2.1 = 0 then (mWalkTo (tick st) i n tto (wayGo st names f.way).2.2, (names.length : Int), 0)
         else (tick st, ((wayGo st names f.way).1 : Int), (wayGo st names f.way).2.1))
      else (tick st, 0, mAllowed (tick st) f tto names) by simp only [mWalk, hf, hfi])
    go_enter Tryz.func112, Tryz.ntmps112
    go_wp2_with fail
    refine (call_any n h).mono ?_
    rintro e w1 ⟨rfl, h1, hx, hsz⟩
    have H1 := hide h1
    have Hx := hide hx
    have Hsz := hide hsz
    rw [hf]
    have HN := hide (hn.ext hx hnF)
    have Hall := hide (allowed_any (st := tick st) i f tto names ao nc hfi h1 (hn.ext hx hnF))
    have hl := hn.1
    unfold maxLen at hl
    clear hf h hx hsz hn
    simp only [idxV]
    go_wp2_with fail
    refine Hall.out.mono ?_
    rintro e w' ⟨rfl, hw⟩
    obtain rfl := hw.symm
    by_cases hal : mAllowed (tick st) f tto names = 0
    · rw [hal]
      have HD2 := hide (show mWalk st n tto names = if (wayGo st names f.way).2.1 = 0 then (mWalkTo (tick st) i n tto (wayGo st names f.way).2.2, (names.length : Int), 0)
         else (tick st, ((wayGo st names f.way).1 : Int), (wayGo st names f.way).2.1) by rw [HD.out, if_pos hal])
      have h16 : names.length ≤ 16 := by
        unfold mAllowed at hal
        split at hal
        · simp at hal
        · split at hal
          · split at hal
            · simp at hal
            · split at hal
              · simp at hal
              · omega
          · simp at hal
      clear hal HD Hall
      obtain ⟨nv, lv, fv, hR⟩ := h1
      obtain ⟨fg, fcap, wv, rfl, hfm, _, _, hway, _, c1, _, _⟩ := FidsIs.at (fids := st.fids) hR.fids i f hfi
      obtain ⟨g, cap, rfl, hmax, _, _, hcell, _⟩ := hR.nodesAt ok.pos
      obtain ⟨ws, hE, hO⟩ := hway
      obtain ⟨wao, wc, rfl⟩ := hO.form
      rw [zip_len hE] at hO c1
      have c2 := hR.c2
      have c0 := hR.c0
      have hwl := hlong f hmem
      have hwf := ok.way f hmem
      unfold maxLen at hfm hmax
      have HR := hide hR
      have HE := hide hE
      have HO := hide hO
      have HC := hide hcell
      have Hwf := hide hwf
      have Hfi := hide hfi
      clear hR hE hO hcell hwf hfi
      go_wp2_with (at_builtin; refine wpList_append_Own _ rfl (.tmp 29) (.tmp 37) 214 rfl (fun _ => False) 212 (.agg #[.int .i64 0, .slice none 0 0]) 2 32 Tryz.underlying214 infoSpot rfl ?_ (.slice none 0 0) [] rfl (Own.nil _ _ _ _) (.slice wao f.way.length wc) (List.zipWith spotCells ws f.way) rfl ?_ f.way.length ?_ ?_ ?_ ?_; decide; exact (SrcIs.ofOwn HO.out (spot_one ws f.way (row_forms HE.out))); (rw [zip_len HE.out]; simp); (unfold maxLen; omega); omega; intro ao2 k2 w2 ho2 hg2 hb2; have Ho2 := hide ho2; have Hb2 : Hid (Below w1.heap.size w1 w2) := hide ⟨hg2.os, hg2.tape, hg2.output, hg2.size, fun k hk => hg2.block k hk (by simp [Value.ownBlock])⟩; clear ho2 hg2 hb2)
      have HW0 : Hid (WayNew w1 w2 F (.slice ao2 f.way.length k2) f.way) := hide ⟨ws, HE.out.imp (fun v s h => (h.keepT (KeepT.below (T := fun _ => True) Hb2.out) trivial).mono (fun k hk => .inl hk)), Ho2.out⟩
      go_loopw [12, 13] (fun v i wr => ∃ (k L : Nat) (way : List Spot) (ao3 : Option Addr) (c3 : Nat), k ≤ names.length ∧ i = .int .i64 k ∧ v = .slice ao3 L c3 ∧ way.length = L ∧ L ≤ f.way.length + k ∧ WayNew w1 wr F (.slice ao3 L c3) way ∧ WaySoFar st names f.way k way ∧ WayOk st way ∧ Below w1.heap.size w1 wr) (fun _ i _ => names.length - (intOf i).toNat)
      case atStart => exact ⟨0, _, f.way, ao2, k2, Nat.zero_le _, rfl, rfl, rfl, Nat.le_refl _, HW0.out, WaySoFar.start _ _ _, Hwf.out, Hb2.out⟩
      case round =>
        obtain ⟨k, L, way, ao3, c3, hk, rfl, rfl, hL, hLe, hW, hSo, hOk, hB⟩ := hrel
        have HSo := hide hSo
        have HOk := hide hOk
        have HB := hide hB
        have HW := hide hW
        have HL := hide hL
        clear hSo hOk hL Ho2 Hb2 HW0
        by_cases hlt : k < names.length
        · obtain ⟨s, hs⟩ := getElem?_of_lt hlt
          obtain ⟨hsz, nb, no, rfl, hcs⟩ := HN.out.2 k s hs
          have q0 : wr.cell? ⟨nb, no + k, none⟩ = some (.string s) := (hB.cell (World.block_lt_of_cell? w1 _ hcs)).trans hcs
          have hlast : ∃ x, way.getLast? = some x := ⟨_, List.getLast?_eq_some_getLast HOk.out.1⟩
          obtain ⟨x, hx⟩ := hlast
          obtain ⟨hxn, hxr⟩ := HOk.out.2 x (List.mem_of_getLast? hx)
          obtain ⟨g3, cap3, rao, rc, hv, hpos, _, hrow, s0, s1⟩ := hW.isWay.last x hx
          rw [HL.out] at hv hpos s0 s1
          simp only [Value.slice.injEq, true_and] at hv
          obtain ⟨rfl, rfl⟩ := hv
          obtain ⟨m, rfl⟩ : ∃ m, L = m + 1 := ⟨L - 1, by omega⟩
          simp only [Nat.add_sub_cancel] at s0 s1
          obtain ⟨hcp1, hcp2⟩ := hW.cap
          unfold maxLen at hcp2
          have Hs := hide hs
          have HX := hide hx
          have Hrow := hide hrow
          have Hxr := hide hxr
          obtain ⟨y, hy⟩ := getElem?_of_lt hxn
          obtain ⟨_, cy1, _, _, _, cy5⟩ := HC.out x.n y hy
          have Hy := hide hy
          have u0 := up q0
          have r0 := up ((hB.cell (World.block_lt_of_cell? w1 _ c0)).trans c0)
          have y1 := up ((hB.cell (World.block_lt_of_cell? w1 _ cy1)).trans cy1)
          have y5 := up ((hB.cell (World.block_lt_of_cell? w1 _ cy5)).trans cy5)
          clear hs hx hrow hxr hcs hW hB hy cy1 cy5 c0 c1
          by_cases d1 : s.toList = [46]
          · have He := hide (show wayStep st way s = (0, way) by simp [wayStep, d1])
            go_wp2
            go_roundw
            case rel => exact ⟨k + 1, m + 1, way, _, _, by omega, by go_num, rfl, HL.out, by omega, HW.out.later ((Below.refl _ _).alloc (Nat.le_refl _) _), by have := HSo.out.step Hs.out (by rw [He.out]); rw [He.out] at this; exact this, HOk.out, HB.out.alloc (by have := HB.out.size; omega) _⟩
            case measure => simp [intOf]; omega
          · by_cases d2 : s.toList = [46, 46]
            · have f1 : (s.toList == [46]) = false := by simpa using d1
              by_cases hm : 1 < m + 1
              · have He := hide (show wayStep st way s = (0, way.take m) by simp [wayStep, d2, HL.out, hm])
                have hm' : (1 : Int) < (m : Int) + 1 := by omega
                go_wp2
                go_roundw
                case rel => exact ⟨k + 1, m, way.take m, _, _, by omega, by go_num, by go_num, by rw [List.length_take, HL.out]; omega, by omega, (HW.out.dropLast m (by omega)).later ((Below.refl _ _).alloc (Nat.le_refl _) _), by have := HSo.out.step Hs.out (by rw [He.out]); rw [He.out] at this; exact this, ⟨by intro e0; have := congrArg List.length e0; rw [List.length_take, HL.out] at this; simp at this; omega, fun z hz => HOk.out.2 z (List.mem_of_mem_take hz)⟩, HB.out.alloc (by have := HB.out.size; omega) _⟩
                case measure => simp [intOf]; omega
              · have He := hide (show wayStep st way s = (0, way) by simp [wayStep, d2, HL.out, hm])
                have hm' : ¬ (1 : Int) < (m : Int) + 1 := by omega
                go_wp2
                go_roundw
                case rel => exact ⟨k + 1, m + 1, way, _, _, by omega, by go_num, rfl, HL.out, by omega, HW.out.later ((Below.refl _ _).alloc (Nat.le_refl _) _), by have := HSo.out.step Hs.out (by rw [He.out]); rw [He.out] at this; exact this, HOk.out, HB.out.alloc (by have := HB.out.size; omega) _⟩
                case measure => simp [intOf]; omega
            · have f1 : (s.toList == [46]) = false := by simpa using d1
              have f2 : (s.toList == [46, 46]) = false := by simpa using d2
              have He := hide (show wayStep st way s = if y.gone then ((4 : Int), way) else if y.dir then (match seenIn st s x.row with | none => (7, way) | some c => (0, way ++ [come st c])) else (5, way) by unfold wayStep; rw [if_neg d1, if_neg d2, HX.out]; simp only [isGone, isDir, Hy.out]; rfl)
              have b1 : (x.n : Int) < ((tick st).nodes.length : Int) := by have : (tick st).nodes.length = st.nodes.length := rfl; omega
              have b2 : (0 : Int) ≤ (x.n : Int) := by omega
              cases hyg : y.gone with
              | true =>
                rw [hyg] at y5 He
                have Hst := hide (HSo.out.stop Hs.out (by rw [He.out]; simp))
                go_wp2
                go_quiet (fail)
                go_wp2
                go_ret2
                have hw : wayGo st names f.way = (k, 4, way) := by rw [Hst.out, He.out]; rfl
                refine ⟨by rw [HD2.out, hw]; rfl, ?_, ?_⟩
                · rw [HD2.out, hw]
                  exact (H1.out.below (by exact below_drewN (HB.out.alloc (by have := HB.out.size; omega) _) _)).mono (fun k hk => .inl hk)
                · exact Hx.out.trans' (Ext.below (by exact below_drewN (HB.out.alloc (by have := HB.out.size; omega) _) _))
              | false =>
                rw [hyg] at y5 He
                cases hyd : y.dir with
                | false =>
                  rw [hyd] at y1 He
                  have Hst := hide (HSo.out.stop Hs.out (by rw [He.out]; simp))
                  go_wp2
                  go_quiet (fail)
                  go_wp2
                  go_quiet (fail)
                  go_wp2
                  go_ret2
                  have hw : wayGo st names f.way = (k, 5, way) := by rw [Hst.out, He.out]; rfl
                  refine ⟨by rw [HD2.out, hw]; rfl, ?_, ?_⟩
                  · rw [HD2.out, hw]
                    exact (H1.out.below (by exact below_drewN (below_drewN (HB.out.alloc (by have := HB.out.size; omega) _) _) _)).mono (fun k hk => .inl hk)
                  · exact Hx.out.trans' (Ext.below (by exact below_drewN (below_drewN (HB.out.alloc (by have := HB.out.size; omega) _) _) _))
                | true =>
                  rw [hyd] at y1 He
                  have HSC := hide (fun (W : World) (a1 : RefIs W (ext F w1 wr) r (tick st)) (a2 : RowIs W (ext F w1 wr) (.slice rao x.row.length rc) x.row) => seen_any (F := ext F w1 wr) (st := tick st) x.row s (.slice rao x.row.length rc) a1 ok.pos a2 Hxr.out)
                  rw [tick_seen] at HSC
                  cases hse : seenIn st s x.row with
                  | none =>
                    rw [hse] at HSC He
                    have Hst := hide (HSo.out.stop Hs.out (by rw [He.out]; simp))
                    have Hw := hide (show wayGo st names f.way = (k, 7, way) by rw [Hst.out, He.out]; rfl)
                    clear hse
                    go_wp2
                    go_quiet (fail)
                    go_wp2
                    go_quiet (fail)
                    go_wp2
                    go_region_with (go_at_call 143; refine (HSC.out _ ?_ ?_).mono ?_; exact (H1.out.below (below_drewN (HB.out.alloc HB.out.size _) _)).mono (fun k hk => .inl hk); exact Hrow.out.keepT (T := fun _ => True) ((KeepT.refl _ _ _).alloc _) trivial; rintro e w4 ⟨rfl, hb4⟩; have HB4 := hide hb4; clear hb4; simp only [idxV])
                    all_goals
                      go_wp2
                      go_ret2
                      have hbb : Below w1.heap.size w1 w4 := (below_drewN (HB.out.alloc HB.out.size _) _).trans (HB4.out.mono (by have := HB.out.size; simp [World.drewN]; omega))
                      refine ⟨by rw [HD2.out, Hw.out]; rfl, ?_, Hx.out.trans' (Ext.below hbb)⟩
                      rw [HD2.out, Hw.out]
                      exact (H1.out.below hbb).mono (fun k hk => .inl hk)
                  | some c =>
                    rw [hse] at HSC He
                    have hc := seen_lt x.row hse
                    have c0' : (0 : Int) ≤ (c : Int) := by omega
                    clear hse
                    go_wp2
                    go_quiet (fail)
                    go_wp2
                    go_quiet (fail)
                    go_wp2
                    go_region_with (go_at_call 143; refine (HSC.out _ ?_ ?_).mono ?_; exact (H1.out.below (below_drewN (HB.out.alloc HB.out.size _) _)).mono (fun k hk => .inl hk); exact Hrow.out.keepT (T := fun _ => True) ((KeepT.refl _ _ _).alloc _) trivial; rintro e w4 ⟨rfl, hb4⟩; have HB4 := hide hb4; clear hb4; simp only [idxV])
                    all_goals
                      go_wp2_with fail
                      have Hbb : Hid (Below wr.heap.size wr w4) := hide ((below_drewN ((Below.refl _ _).alloc (Nat.le_refl _) _) _).trans (HB4.out.mono (by simp [World.drewN])))
                      have Hb14 : Hid (Below w1.heap.size w1 w4) := hide (HB.out.trans (Hbb.out.mono HB.out.size))
                      refine (come_any (F := F) (st := tick st) c hc (H1.out.below Hb14.out)).mono ?_
                      rintro e w5 ⟨ao5, cc5, rfl, hrow5, hb5⟩
                      have Hrow5 := hide hrow5
                      have Hb5 : Hid (Below wr.heap.size wr w5) := hide (Hbb.out.trans (hb5.mono Hbb.out.size))
                      have Hz5 := hide hb5.size
                      clear hrow5 hb5
                      obtain ⟨vs5, hE5, hO5⟩ := HW.out
                      have HE5 := hide hE5
                      have HO5 := hide hO5
                      have Hl5 := hide (zip_len (c := spotCells) hE5)
                      clear hE5 hO5
                      go_wp2_with (at_builtin; refine wpList_append_Own _ rfl (.tmp 62) (.tmp 66) 214 rfl (ext (fun _ => False) w1 (w5.alloc (.cells #[.int .i64 c, .slice ao5 (come (tick st) c).row.length cc5] 212))) 212 (.agg #[.int .i64 0, .slice none 0 0]) 2 32 Tryz.underlying214 infoSpot rfl ?_ (.slice (some ⟨g3, 0, none⟩) (m + 1) c3) (List.zipWith spotCells vs5 way) rfl ?_ (.slice (some ⟨w5.heap.size, 0, none⟩) 1 1) [[.int .i64 c, .slice ao5 (come (tick st) c).row.length cc5]] rfl one_spot (m + 1 + 1) ?_ ?_ ?_ ?_; decide; exact (HO5.out.keepT (T := fun _ => True) ((KeepT.below Hb5.out).alloc _) trivial).mono (ext_mono (by have := Hb5.out.size; simp; omega)); (rw [Hl5.out, HL.out]; rfl); (unfold maxLen; omega); omega; intro ao6 k6 w6 ho6 hg6 hb6; have Ho6 := hide ho6; have Hg6 := hide hg6; clear ho6 hg6 hb6)
                      go_roundw
                      case rel =>
                        have hfin := way_append (come (tick st) c) HB.out.size HE5.out HO5.out Hb5.out (Hrow5.out.mono (ext_le Hb14.out.size (Nat.le_refl _))) Ho6.out Hg6.out
                        have hst := HSo.out.step Hs.out (by rw [He.out]; rfl)
                        rw [He.out] at hst
                        refine ⟨k + 1, m + 1 + 1, way ++ [come st c], _, _, by omega, by go_num, rfl, by rw [List.length_append, HL.out]; rfl, by omega, hfin.1, hst, ⟨by simp, fun z hz => ?_⟩, HB.out.trans hfin.2⟩
                        rcases List.mem_append.1 hz with hz | hz
                        · exact HOk.out.2 z hz
                        · simp at hz
                          subst hz
                          exact come_ok ok c hc
                      case measure => simp [intOf]; omega
        · have Hd := hide (HSo.out.done (by omega))
          obtain ⟨k, rfl⟩ : ∃ k', k = k' := ⟨_, rfl⟩
          have Hk : Hid (k = names.length) := hide (by omega)
          by_cases htn : tto = n
          · have htn' : (tto == n) = true := by simpa using htn
            have Htn := hide htn
            clear htn
            go_wp2_with fail
            refine (drop_any (F := F) (st := tick st) i hi (H1.out.below HB.out) (by have := ok.few; show st.fids.length ≤ _; omega)).mono ?_
            rintro e w7 ⟨rfl, h7, hx7, hk7⟩
            obtain ⟨stq, hstq⟩ : ∃ q, q = mDrop (tick st) i := ⟨_, rfl⟩
            obtain ⟨Fq, hFq⟩ : ∃ G, G = ext F w1 w7 := ⟨_, rfl⟩
            have Hq : Hid (RefIs w7 Fq r stq) := hide (by rw [hstq, hFq]; exact h7.mono (ext_le HB.out.size (Nat.le_refl _)))
            have HWq : Hid (WayIs w7 Fq (.slice ao3 L c3) way) := hide (by rw [hFq]; exact (HW.out.isWay.keepT (hk7 _) (by decide) (by decide)).mono (ext_mono hx7.size))
            have Hcnt : Hid (stq.fids.length ≤ 51) := hide (by rw [hstq]; have := ok.few; simp only [mDrop, tick, List.length_append, List.length_take, List.length_drop]; omega)
            have Hstq := hide hstq
            have HFq := hide hFq
            have Hx7 := hide hx7
            clear h7 hx7 hk7 hstq hFq
            obtain ⟨nq, lq, fq, hRq⟩ := Hq.out
            obtain ⟨vq, hEq, hOq⟩ := hRq.fids
            obtain ⟨qao, qc, rfl⟩ := hOq.form
            have hlq := zip_len (c := fidCells) hEq
            rw [hlq] at hOq hRq
            have c2q := hRq.c2
            have f2q := hRq.fz 2
            have HRq := hide hRq
            have HEq := hide hEq
            have HOq := hide hOq
            have Hlq := hide hlq
            have Hcnt2 := Hcnt
            clear hRq hEq hOq hlq
            generalize hLq : stq.fids.length = lenq at c2q f2q HRq HOq Hlq Hcnt2
            have HLq := hide hLq
            clear hLq
            have hcq : lenq ≤ 51 := Hcnt2.out
            go_wp2_with (at_builtin; refine wpList_append_Own _ rfl (.tmp 121) (.tmp 125) 79 rfl Fq 216 (.agg #[.int .i64 0, .slice none 0 0, .bool false]) 3 40 Tryz.underlying79 infoFid rfl ?_ (.slice qao lenq qc) (List.zipWith fidCells vq stq.fids) rfl ?_ (.slice (some ⟨w7.heap.size, 0, none⟩) 1 1) [[.int .i64 tto, .slice ao3 L c3, .bool false]] rfl (src_fid1 _ _ _ _ _) (lenq + 1) ?_ ?_ ?_ ?_; decide; exact (HOq.out.keepT (T := fun _ => True) ((KeepT.refl _ _ _).alloc _) trivial); (rw [Hlq.out]; rfl); (unfold maxLen; omega); omega; intro ao9 k9 w9 ho9 hg9 hb9; have Hfin := hide (append_close tto way HRq.out HEq.out HOq.out HWq.out ho9 hg9); have q9 : w9.cell? ⟨r, 2, none⟩ = some (.slice qao lenq qc) := (by simp [World.cell?, Hfin.out.1]); have f9 : w9.frozen? ⟨r, 2, none⟩ = false := (by simp [World.frozen?, Hfin.out.1]); clear ho9 hg9 hb9)
            go_ret2
            have hM : mWalk st n tto names = (mWalkTo (tick st) i n tto way, (names.length : Int), 0) := by rw [HD2.out, Hd.out]; exact if_pos rfl
            have hT : mWalkTo (tick st) i n tto way = { stq with fids := stq.fids ++ [⟨tto, way, false⟩] } := by unfold mWalkTo; rw [if_pos Htn.out, Hstq.out]
            have hcl := walk_close Hsz.out Hx.out ((Ext.below HB.out).trans' Hx7.out) HFq.out Hfin.out.2.1 Hfin.out.2.2
            refine ⟨by rw [hM]; rfl, ?_, hcl.2⟩
            rw [hM, hT]
            exact hcl.1
          · have htn' : (tto == n) = false := by simpa using htn
            have Htn := hide htn
            clear htn
            obtain ⟨stq, hstq⟩ : ∃ q, q = tick st := ⟨_, rfl⟩
            obtain ⟨Fq, hFq⟩ : ∃ G, G = ext F w1 wr := ⟨_, rfl⟩
            have Hq : Hid (RefIs wr Fq r stq) := hide (by rw [hstq, hFq]; exact (H1.out.below HB.out).mono (fun k hk => .inl hk))
            have HWq : Hid (WayIs wr Fq (.slice ao3 L c3) way) := hide (by rw [hFq]; exact HW.out.isWay)
            have Hcnt : Hid (stq.fids.length ≤ 51) := hide (by rw [hstq]; exact ok.few)
            have Hstq := hide hstq
            have HFq := hide hFq
            clear hstq hFq
            obtain ⟨nq, lq, fq, hRq⟩ := Hq.out
            obtain ⟨vq, hEq, hOq⟩ := hRq.fids
            obtain ⟨qao, qc, rfl⟩ := hOq.form
            have hlq := zip_len (c := fidCells) hEq
            rw [hlq] at hOq hRq
            have c2q := hRq.c2
            have f2q := hRq.fz 2
            have HRq := hide hRq
            have HEq := hide hEq
            have HOq := hide hOq
            have Hlq := hide hlq
            have Hcnt2 := Hcnt
            clear hRq hEq hOq hlq
            generalize hLq : stq.fids.length = lenq at c2q f2q HRq HOq Hlq Hcnt2
            have HLq := hide hLq
            clear hLq
            have hcq : lenq ≤ 51 := Hcnt2.out
            go_wp2_with (at_builtin; refine wpList_append_Own _ rfl (.tmp 121) (.tmp 125) 79 rfl Fq 216 (.agg #[.int .i64 0, .slice none 0 0, .bool false]) 3 40 Tryz.underlying79 infoFid rfl ?_ (.slice qao lenq qc) (List.zipWith fidCells vq stq.fids) rfl ?_ (.slice (some ⟨wr.heap.size, 0, none⟩) 1 1) [[.int .i64 tto, .slice ao3 L c3, .bool false]] rfl (src_fid1 _ _ _ _ _) (lenq + 1) ?_ ?_ ?_ ?_; decide; exact (HOq.out.keepT (T := fun _ => True) ((KeepT.refl _ _ _).alloc _) trivial); (rw [Hlq.out]; rfl); (unfold maxLen; omega); omega; intro ao9 k9 w9 ho9 hg9 hb9; have Hfin := hide (append_close tto way HRq.out HEq.out HOq.out HWq.out ho9 hg9); have q9 : w9.cell? ⟨r, 2, none⟩ = some (.slice qao lenq qc) := (by simp [World.cell?, Hfin.out.1]); have f9 : w9.frozen? ⟨r, 2, none⟩ = false := (by simp [World.frozen?, Hfin.out.1]); clear ho9 hg9 hb9)
            go_ret2
            have hM : mWalk st n tto names = (mWalkTo (tick st) i n tto way, (names.length : Int), 0) := by rw [HD2.out, Hd.out]; exact if_pos rfl
            have hT : mWalkTo (tick st) i n tto way = { stq with fids := stq.fids ++ [⟨tto, way, false⟩] } := by unfold mWalkTo; rw [if_neg Htn.out, Hstq.out]
            have hcl := walk_close Hsz.out Hx.out (Ext.below HB.out) HFq.out Hfin.out.2.1 Hfin.out.2.2
            refine ⟨by rw [hM]; rfl, ?_, hcl.2⟩
            rw [hM, hT]
            exact hcl.1
    · have HD2 := hide (show mWalk st n tto names = (tick st, 0, mAllowed (tick st) f tto names) by rw [HD.out, if_neg hal])
      have hne : (mAllowed (tick st) f tto names != 0) = true := by simpa using hal
      clear HD Hall hal
      generalize mAllowed (tick st) f tto names = al at *
      go_wp2
      go_ret2
      refine ⟨by rw [HD2.out]; rfl, ?_, Hx.out⟩
      rw [HD2.out]
      exact H1.out.mono (fun k hk => .inl hk)
end Go.Proofs.YtdmdgnghaceibaaGreat
/- The program's row.list. -/
namespace Go.Proofs.YtdmdgnghaceibaaGreat.P
open M Go.ChangeShapes Go.WideShapes Go.ChangeAt Go.RowKit
set_option linter.unusedVariables false

theorem infoString : (Tryz.prog.info? 9).map (fun i => (i.zero, i.size, i.bytes)) = some (some (.string ⟨#[]⟩), 1, 16) := by kernel_rfl

/-- The blocks that were made between two worlds. -/
def nw (w w' : World) : Nat → Prop := fun k => w.heap.size ≤ k ∧ k < w'.heap.size

theorem len_strRows (l : List ByteArray) : (strRows l).length = l.length := by unfold strRows; rw [List.length_map]
theorem strRows_append (a b : List ByteArray) : strRows (a ++ b) = strRows a ++ strRows b := by unfold strRows; rw [List.map_append]
theorem strRows_one (s : ByteArray) : strRows [s] = [[.string s]] := rfl

theorem lies_isSome {st : St} {d : Nat} {s : ByteArray} : (lies st d s).isSome = true ↔ ∃ x ∈ st.nodes, x.inn = (d : Int) ∧ x.gone = false ∧ x.name = s := by
  unfold lies
  rw [List.findIdx?_isSome, List.any_eq_true]
  constructor
  · rintro ⟨x, hx, h⟩
    unfold liesHere at h
    simp only [Bool.and_eq_true, beq_iff_eq, decide_eq_true_eq, Bool.not_eq_true'] at h
    exact ⟨x, hx, h.1.1, h.2, bytes_eq (by rw [← toList_data, ← toList_data]; exact h.1.2)⟩
  · rintro ⟨x, hx, h1, h2, rfl⟩
    exact ⟨x, hx, by unfold liesHere; simp [h1, h2]⟩

theorem names_of_keys {st : St} {d : Nat} {L : Lay} {l : List ByteArray} (hn : ∀ x ∈ st.nodes, x.name.size ≤ 12) (h : Keys (fun s => (lies st d s).map (nodeV L)) l) : l = namesOf st d := by
  refine sorted_unique h.order (names_sorted st d) (fun a => ?_)
  have h2 : a ∈ namesOf st d ↔ _ := (fold_names d st.nodes [] List.Pairwise.nil).2 a
  rw [h.mem a, h2, Option.isSome_map, lies_isSome]
  constructor
  · rintro ⟨_, x, hx, r⟩
    exact .inr ⟨x, hx, r⟩
  · rintro (h | ⟨x, hx, r1, r2, r3⟩)
    · simp at h
    · exact ⟨by rw [← r3]; have := hn x hx; unfold maxLen; omega, x, hx, r1, r2, r3⟩

theorem names_small {st : St} {d : Nat} (hn : ∀ x ∈ st.nodes, x.name.size ≤ 12) {s : ByteArray} (h : s ∈ namesOf st d) : s.size ≤ 12 := by
  have h2 : s ∈ namesOf st d ↔ _ := (fold_names d st.nodes [] List.Pairwise.nil).2 s
  rcases h2.1 h with h | ⟨x, hx, _, _, rfl⟩
  · simp at h
  · exact hn x hx

theorem filter_take_succ {α : Type} (P : α → Bool) (l : List α) (q : Nat) (s : α) (h : l[q]? = some s) : (l.take (q + 1)).filter P = (l.take q).filter P ++ (if P s then [s] else []) := by
  have hlt := M.lt_of_getElem? h
  have e : l[q] = s := by rw [List.getElem?_eq_getElem hlt] at h; exact Option.some.inj h
  rw [List.take_succ_eq_append_getElem hlt, e, List.filter_append]
  cases hp : P s <;> simp [hp]

theorem listUpto_gone {st : St} {row : List Member} {k : Nat} {m : Member} (hm : row[k]? = some m) (hg : isGone st m.d = true) : listUpto st row (k + 1) = listUpto st row k := by
  show (match row[k]? with | none => _ | some m => _) = _
  rw [hm]
  simp [hg]
theorem listUpto_live {st : St} {row : List Member} {k : Nat} {m : Member} (hm : row[k]? = some m) (hg : isGone st m.d = false) : listUpto st row (k + 1) = listUpto st row k ++ (namesOf st m.d).filter (fun s => (seenIn st s (row.take k)).isNone) := by
  show (match row[k]? with | none => _ | some m => _) = _
  rw [hm]
  simp [hg]

/-- What List has told so far. -/
structure Told (w wr : World) (l : List ByteArray) (out : Value) : Prop where
  own : Own wr (nw w wr) 9 1 out (strRows l)
  form : ∃ ao c, out = .slice ao l.length c
  below : Below w.heap.size w wr

theorem Told.nil (w : World) : Told w w [] (.slice none 0 0) := ⟨Own.nil _ _ _ _, ⟨none, 0, rfl⟩, Below.refl _ _⟩
theorem Told.kept {w wr w' : World} {l : List ByteArray} {out : Value} (h : Told w wr l out) (hb : Below wr.heap.size wr w') : Told w w' l out :=
  ⟨(h.own.keptBlock (fun k hk => hb.block k (h.own.2.2 k hk).2)).mono (fun k hk => ⟨hk.1, Nat.lt_of_lt_of_le hk.2 hb.size⟩), h.form, ⟨hb.os.trans h.below.os, hb.tape.trans h.below.tape, hb.output.trans h.below.output, Nat.le_trans h.below.size hb.size, fun k hk => (hb.block k (Nat.lt_of_lt_of_le hk h.below.size)).trans (h.below.block k hk)⟩⟩

/-- Beside what was told, the names that are gone through. -/
structure Told2 (w wr : World) (base : List ByteArray) (out : Value) (l : List ByteArray) (sv : Value) : Prop where
  told : Told w wr base out
  own : Own wr (nw w wr) 9 1 sv (strRows l)
  apart : ∀ b, out.ownBlock = some b → sv.ownBlock ≠ some b

theorem Told2.kept {w wr w' : World} {base l : List ByteArray} {out sv : Value} (h : Told2 w wr base out l sv) (hb : Below wr.heap.size wr w') : Told2 w w' base out l sv :=
  ⟨h.told.kept hb, (h.own.keptBlock (fun k hk => hb.block k (h.own.2.2 k hk).2)).mono (fun k hk => ⟨hk.1, Nat.lt_of_lt_of_le hk.2 hb.size⟩), h.apart⟩

theorem Told2.push {w wX w' : World} {base l : List ByteArray} {out sv : Value} {s : ByteArray} {ao : Option Addr} {n c : Nat} (h : Told2 w wX base out l sv) (hn : n = base.length + 1)
    (ho : Own w' (ext (nw w wX) wX w') 9 1 (.slice ao n c) (strRows base ++ [[.string s]])) (hg : wX.grownBy w' out.ownBlock) (hb : ∀ b, (Value.slice ao n c).ownBlock = some b → out.ownBlock = some b ∨ wX.heap.size ≤ b) : Told2 w w' (base ++ [s]) (.slice ao n c) l sv := by
  have hz := hg.size
  have hw := h.told.below.size
  have hsub : ∀ k, ext (nw w wX) wX w' k → nw w w' k := fun k hk => by
    rcases hk with hk | hk
    · exact ⟨hk.1, Nat.lt_of_lt_of_le hk.2 hz⟩
    · exact ⟨Nat.le_trans hw hk.1, hk.2⟩
  refine ⟨⟨?_, ⟨ao, c, by rw [hn]; simp⟩, ?_⟩, ?_, fun b hb' => ?_⟩
  · rw [strRows_append, strRows_one]
    exact ho.mono hsub
  · refine ⟨hg.os.trans h.told.below.os, hg.tape.trans h.told.below.tape, hg.output.trans h.told.below.output, Nat.le_trans hw hz, fun k hk => (hg.block k (Nat.lt_of_lt_of_le hk hw) (fun e => ?_)).trans (h.told.below.block k hk)⟩
    have := (h.told.own.2.2 k e.symm).1
    omega
  · exact (h.own.keptBlock (fun k hk => hg.block k (h.own.2.2 k hk).2 (fun e => h.apart k e.symm hk))).mono (fun k hk => ⟨hk.1, Nat.lt_of_lt_of_le hk.2 hz⟩)
  · rcases hb b hb' with q | q
    · exact h.apart b q
    · intro e
      have := (h.own.2.2 b e).2
      omega

theorem row_take {w : World} {F : Nat → Prop} {L : Lay} {g n cap : Nat} {row : List Member} (h : PRow w F L (.slice (some ⟨g, 0, none⟩) n cap) row) (k : Nat) (hk : k ≤ n) : PRow w F L (.slice (some ⟨g, 0, none⟩) k cap) (row.take k) := by
  have := Own.take h k hk
  rw [← List.map_take] at this
  exact this

set_option maxRecDepth 20000 in
set_option maxHeartbeats 2000000 in
theorem list_any {w : World} {F : Nat → Prop} {t : Nat} {st : St} {L : Lay} {bv : Nat → Value} (row : List Member) (v : Value) (h : TreeIs w F t st L bv) (hv : PRow w F L v row) (hok : RowDirs st row) (hlen6 : row.length ≤ 6) (hnm : ∀ x ∈ st.nodes, x.name.size ≤ 12) (hnodes : st.nodes.length ≤ 1700000000000)
    (hsmall : ∀ k, k ≤ row.length → (listUpto st row k).length ≤ 1000000) :
    Calls Tryz.prog 55 #[v] w fun e w' => ∃ out, e = .returned out ∧ Told w w' (listUpto st row row.length) out := by
  rcases hv.opened with ⟨rfl, hn⟩ | ⟨g, cap, rfl, hcap, hmax, hF, hb, hcell, hfz⟩
  · have h0 : row = [] := List.map_eq_nil_iff.1 hn
    subst h0
    clear hv hn h hok
    go_enter Tryz.func55, Tryz.ntmps55
    go_wp2
    go_loop [3, 10] (fun o i => i = .int .i64 0 ∧ o = .slice none 0 0) (fun _ _ => 0)
    case atStart => exact ⟨rfl, rfl⟩
    case round =>
      obtain ⟨rfl, rfl⟩ := hrel
      go_wp2
      go_ret
      exact ⟨_, rfl, Told.nil w⟩
  · have hlen : (row.map (mCells L)).length = row.length := by simp
    rw [hlen] at hcap hv
    rw [hlen]
    have HT := hide h
    have Hc := hide hcell
    have hglt : g < w.heap.size := by obtain ⟨cur, hb⟩ := hb; exact (Array.getElem?_eq_some_iff.1 hb).1
    have Hok := hide hok
    have Hv := hide hv
    have Hsm := hide hsmall
    clear h hb hcell hfz hv hok hF hlen hmax hsmall
    go_enter Tryz.func55, Tryz.ntmps55
    go_wp2
    go_loopw [3, 10] (fun o i wr => ∃ k : Nat, k ≤ row.length ∧ i = .int .i64 k ∧ Told w wr (listUpto st row k) o) (fun _ i _ => row.length - (intOf i).toNat)
    case atStart => exact ⟨0, Nat.zero_le _, rfl, Told.nil w⟩
    case round =>
      obtain ⟨k, hk, rfl, hTo⟩ := hrel
      have hbel := hTo.below
      have Hbel := hide hbel
      obtain ⟨ao, co, rfl⟩ := hTo.form
      have HTo := hide hTo
      clear hTo
      by_cases hlt : k < row.length
      · obtain ⟨m, hm⟩ := M.getElem?_of_lt hlt
        have hmm := List.mem_of_getElem? hm
        obtain ⟨hd, hdir⟩ := Hok.out m hmm
        obtain ⟨x, hx, D, hg2, hnlt⟩ := HT.out.member hd hdir
        have hrow : (row.map (mCells L))[k]? = some (mCells L m) := by rw [List.getElem?_map, hm]; rfl
        have r0 : wr.cell? ⟨g, k * 2, none⟩ = some (dirPtr L m.d) := (hbel.cell (p := ⟨g, k * 2, none⟩) hglt).trans (Hc.out k _ 0 _ hrow rfl)
        have r1 : wr.cell? ⟨g, k * 2 + 1, none⟩ = some (.bool m.leave) := (hbel.cell (p := ⟨g, k * 2 + 1, none⟩) hglt).trans (Hc.out k _ 1 _ hrow rfl)
        have g2 : wr.cell? ⟨L.nb m.d, 2, none⟩ = some (.bool (isGone st m.d)) := (hbel.cell (p := ⟨L.nb m.d, 2, none⟩) hnlt).trans hg2
        have g3 : wr.cell? ⟨L.nb m.d, 3, none⟩ = some (.map (some (L.mb m.d))) := (hbel.cell (p := ⟨L.nb m.d, 3, none⟩) hnlt).trans D.c3
        have hMM := fun o => (D.map.kept (hbel.block _ D.map.lt)).kept (Below.heap_alloc wr o _ (Nat.lt_of_lt_of_le D.map.lt hbel.size))
        have HMM := hide hMM
        have Hm := hide hm
        unfold dirPtr at r0
        clear hm hx D hrow hbel hmm hg2 hMM
        have k0 : (0 : Int) ≤ (k : Int) := by omega
        have k1 : (k : Int) < (row.length : Int) := by omega
        have g2' := fun o => up g2 o
        have g3' := fun o => up g3 o
        cases hgv : isGone st m.d with
        | true =>
          rw [hgv] at g2'
          go_wp2_with (go_at_call 94; refine (isGone_any _ _ _ (g2' _)).mono ?_; rintro e w' ⟨rfl, hw⟩; obtain rfl := hw.symm)
          refine ⟨⟨k + 1, by omega, by go_num, ?_⟩, by simp [intOf]; omega⟩
          rw [listUpto_gone Hm.out hgv]
          exact HTo.out.kept ((Below.refl _ _).alloc (Nat.le_refl _) _)
        | false =>
          rw [hgv] at g2'
          have HG := hide hgv
          clear hgv
          go_wp2_with (first | (go_at_call 94; refine (isGone_any _ _ _ (g2' _)).mono ?_; rintro e w' ⟨rfl, hw⟩; obtain rfl := hw.symm))
          refine (keys_any _ _).mono ?_
          rintro e w2 ⟨rfl, rfl⟩
          go_wp2_with fail
          have hSo := sorted_any (HMM.out (.cells #[.pointer (some ⟨L.nb m.d, 0, none⟩), .bool m.leave] 165)) hnodes
          rw [show (wr.alloc (.cells #[.pointer (some ⟨L.nb m.d, 0, none⟩), .bool m.leave] 165)).heap.size = wr.heap.size + 1 by simp] at hSo
          refine hSo.mono ?_
          clear hSo
          rintro e w3 ⟨v3, l, rfl, hkeys, hll, hown3, hb3⟩
          obtain ⟨ao3, c3, rfl⟩ := hown3.form
          rw [len_strRows] at hown3 ⊢
          obtain rfl := names_of_keys hnm hkeys
          have h8 : ∀ (W : World) (o : Obj), (W.alloc o).heap.size = W.heap.size + 1 := fun W o => by simp
          have hbw : Below wr.heap.size wr w3 := ⟨hb3.os, hb3.tape, hb3.output, by have h9 := hb3.size; rw [h8, h8] at h9; omega, fun q hq => (hb3.block q (by omega)).trans ((Below.heap_alloc _ _ q (by rw [h8]; omega)).trans (Below.heap_alloc _ _ q hq))⟩
          have hT2 : Told2 w w3 (listUpto st row k) (.slice ao (listUpto st row k).length co) (namesOf st m.d) (.slice ao3 (namesOf st m.d).length c3) := by
            refine ⟨HTo.out.kept hbw, hown3.mono (fun q hq => ⟨?_, hq.2⟩), fun b hb e => ?_⟩
            · have := Hbel.out.size
              have := hq.1
              omega
            · have h1 := (HTo.out.own.2.2 b hb).2
              have h2 := (hown3.2.2 b e).1
              omega
          have HT2 := hide hT2
          have hnl : (namesOf st m.d).length ≤ 1700000000000 := by omega
          clear hkeys hll hown3 hb3 hbw hT2 h8
          go_wp2
          go_loopw [3, 28] (fun o j wr2 => ∃ q : Nat, q ≤ (namesOf st m.d).length ∧ j = .int .i64 q ∧ Told2 w wr2 (listUpto st row k ++ ((namesOf st m.d).take q).filter (fun s => (seenIn st s (row.take k)).isNone)) o (namesOf st m.d) (.slice ao3 (namesOf st m.d).length c3)) (fun _ j _ => (namesOf st m.d).length - (intOf j).toNat)
          case atStart => exact ⟨0, Nat.zero_le _, rfl, by simpa using HT2.out⟩
          case round =>
            obtain ⟨q, hq, rfl, h2⟩ := hrel
            have hsm : (listUpto st row k ++ ((namesOf st m.d).take q).filter (fun s => (seenIn st s (row.take k)).isNone)).length ≤ 1800000000000 := by
              rw [List.length_append]
              have h3 := Hsm.out k hk
              have h4 : (((namesOf st m.d).take q).filter (fun s => (seenIn st s (row.take k)).isNone)).length ≤ (namesOf st m.d).length := Nat.le_trans (List.length_filter_le _ _) (List.length_take_le' _ _)
              omega
            obtain ⟨B, hB⟩ : ∃ B, B = listUpto st row k ++ ((namesOf st m.d).take q).filter (fun s => (seenIn st s (row.take k)).isNone) := ⟨_, rfl⟩
            rw [← hB] at h2 hsm
            obtain ⟨ao2, co2, rfl⟩ := h2.told.form
            have HB := hide hB
            clear hB
            by_cases hql : q < (namesOf st m.d).length
            · obtain ⟨s, hs⟩ := M.getElem?_of_lt hql
              rcases h2.own.opened with ⟨e, _⟩ | ⟨g3, cap3, e, _, _, _, _, hc3, _⟩
              · injection e with _ e2 _
                omega
              · rw [len_strRows] at e
                simp only [Value.slice.injEq, true_and] at e
                obtain ⟨rfl, rfl⟩ := e
                have cs : wr.cell? ⟨g3, q, none⟩ = some (.string s) := by
                  have := hc3 q [.string s] 0 _ (by unfold strRows; rw [List.getElem?_map, hs]; rfl) rfl
                  simpa using this
                have hss : s.size ≤ 12 := names_small hnm (List.mem_of_getElem? hs)
                have hbw := h2.told.below
                have hFi := find_any (row.take k) s (.slice (some ⟨g, 0, none⟩) k cap) (HT.out.kept (KeepX.below hbw)) (row_take (Hv.out.kept (KeepX.below (T := fun _ => True) (M := True) hbw) trivial) k hk) (fun x hx => Hok.out x (List.mem_of_mem_take hx)) (by unfold maxLen; omega)
                have HFi := hide hFi
                have hcl := fun W => clone_any s W (by omega)
                have Hcl := hide hcl
                have H2 := hide h2
                have Hs := hide hs
                have Hsuc := hide (filter_take_succ (fun s => (seenIn st s (row.take k)).isNone) (namesOf st m.d) q s hs)
                clear h2 hc3 hs hFi hbw hcl
                have q1 : (q : Int) < ((namesOf st m.d).length : Int) := by omega
                have q0 : (0 : Int) ≤ (q : Int) := by omega
                have kc : ¬ cap < k := by omega
                cases hse : seenIn st s (row.take k) with
                | some j =>
                  have HSE := hide hse
                  rw [hse] at HFi
                  simp only [foundV, nodeV] at HFi
                  clear hse
                  go_wp2_with fail
                  refine HFi.out.mono ?_
                  rintro e w4 ⟨rfl, hb4⟩
                  have HB4 := hide hb4
                  clear hb4
                  go_wp2
                  refine ⟨⟨q + 1, by omega, by go_num, ?_⟩, by simp [intOf]; omega⟩
                  rw [Hsuc.out, HSE.out, if_neg (by simp), List.append_nil, ← HB.out]
                  exact H2.out.kept HB4.out
                | none =>
                  have HSE := hide hse
                  rw [hse] at HFi
                  simp only [foundV] at HFi
                  clear hse
                  go_wp2_with fail
                  refine HFi.out.mono ?_
                  rintro e w4 ⟨rfl, hb4⟩
                  have HB4 := hide hb4
                  clear hb4
                  go_wp2_with fail
                  refine (Hcl.out _).mono ?_
                  rintro e w5 ⟨rfl, hb5⟩
                  have HB5 := hide hb5
                  clear hb5
                  have hT5 := (H2.out.kept HB4.out).kept HB5.out
                  have hTX : ∀ o, Told2 w (w5.alloc o) _ _ _ _ := fun o => hT5.kept ((Below.refl _ _).alloc (Nat.le_refl _) o)
                  have HTX := hide hTX
                  clear hT5 hTX
                  go_wp2_with (at_builtin; refine wpList_append_Own _ rfl (.tmp 38) (.tmp 41) 35 rfl (nw w (w5.alloc (.cells #[.string s] 9))) 9 (.string ⟨#[]⟩) 1 16 Tryz.underlying35 infoString rfl (by decide) (.slice ao2 B.length co2) (strRows B) rfl (HTX.out _).told.own (.slice (some ⟨w5.heap.size, 0, none⟩) 1 1) [[.string s]] rfl (SrcIs.ofBlock (cs := #[.string s]) (heap_alloc_new w5 _) rfl (by simp [Value.oneCell'])) (B.length + 1) (by rw [len_strRows]; rfl) (by unfold maxLen; omega) (by omega) ?_; intro ao6 c6 w6 ho6 hg6 hb6; have HT6 := hide ((HTX.out _).push rfl ho6 hg6 hb6); clear ho6 hg6 hb6)
                  refine ⟨⟨q + 1, by omega, by go_num, ?_⟩, by simp [intOf]; omega⟩
                  rw [Hsuc.out, HSE.out, if_pos (by simp), ← List.append_assoc, ← HB.out]
                  exact HT6.out
            · have H2 := hide h2
              clear h2
              go_wp2
              refine ⟨⟨k + 1, by omega, by go_num, ?_⟩, by simp [intOf]; omega⟩
              rw [listUpto_live Hm.out HG.out]
              have e := HB.out
              rw [show (namesOf st m.d).take q = namesOf st m.d from List.take_of_length_le (by omega)] at e
              rw [← e]
              exact H2.out.told
      · go_wp2
        go_ret
        refine ⟨_, rfl, ?_⟩
        rw [show row.length = k by omega]
        exact HTo.out
end Go.Proofs.YtdmdgnghaceibaaGreat.P
