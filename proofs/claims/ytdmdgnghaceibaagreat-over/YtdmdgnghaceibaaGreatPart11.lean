/- The program's Bind and Unbind. -/
import Derived.Test.YtdmdgnghaceibaaGreatPart10
import Derived.Deep.RegionHeld3
import Derived.Test.YtdmdgnghaceibaaGreatPart09
namespace Go.Proofs.YtdmdgnghaceibaaGreat.P
open M Go.ChangeShapes Go.WideShapes Go.ChangeAt Go.RowKit
set_option linter.unusedVariables false

theorem fidAt_of {st : St} {n : Int} {i : Nat} {f : Fid} (hf : find st n = some i) (hi : st.fids[i]? = some f) : nodeAt st n = nodeOf f := by
  obtain ⟨f', hi', _, ha⟩ := fidAt_find hf
  rw [hi] at hi'
  cases hi'
  simp [nodeAt, ha]

theorem mBind_eq (st : St) (n onto how : Int) : mBind st n onto how =
    if dirsE st [n, onto] ≠ 0 then (tick st, dirsE st [n, onto]) else if howOk how then (if 6 < (M.boundRow st (nodeAt st n) (nodeAt st onto) how).length then (tick st, 11) else (mLay (tick st) (nodeAt st onto) (M.boundRow st (nodeAt st n) (nodeAt st onto) how), 0)) else (tick st, 1) := by
  unfold mBind
  cases h1 : find st n with
  | none =>
    have : dirsE st [n, onto] = 2 := by unfold dirsE; rw [if_pos (by simp [h1])]
    rw [this]
    simp
  | some i =>
    cases h2 : find st onto with
    | none =>
      have : dirsE st [n, onto] = 2 := by unfold dirsE; rw [if_pos (by simp [h2])]
      rw [this]
      simp
    | some k =>
      obtain ⟨f, hf, _, _⟩ := fidAt_find h1
      obtain ⟨g, hg, _, _⟩ := fidAt_find h2
      have e1 := fidAt_of h1 hf
      have e2 := fidAt_of h2 hg
      simp only
      rw [hf, hg]
      simp only
      rw [← e1, ← e2]
      have hE : dirsE st [n, onto] = if isGone st (nodeAt st n) || isGone st (nodeAt st onto) then 4 else if !isDir st (nodeAt st n) || !isDir st (nodeAt st onto) then 5 else 0 := by
        unfold dirsE nodesAt
        rw [if_neg (by simp [h1, h2])]
        simp only [List.map_cons, List.map_nil, List.any_cons, List.any_nil, Bool.or_false]
      rw [hE]
      cases isGone st (nodeAt st n) <;> cases isGone st (nodeAt st onto) <;> cases isDir st (nodeAt st n) <;> cases isDir st (nodeAt st onto) <;> simp

theorem mUnbind_eq (st : St) (n : Int) : mUnbind st n =
    if dirsE st [n] ≠ 0 then (tick st, dirsE st [n]) else if (st.laid.find? (fun l => l.onto == nodeAt st n)).isSome then (mLay (tick st) (nodeAt st n) [], 0) else (tick st, 7) := by
  unfold mUnbind
  cases h1 : find st n with
  | none =>
    have : dirsE st [n] = 2 := by unfold dirsE; rw [if_pos (by simp [h1])]
    rw [this]
    simp
  | some i =>
    obtain ⟨f, hf, _, _⟩ := fidAt_find h1
    have e1 := fidAt_of h1 hf
    simp only
    rw [hf]
    simp only
    rw [← e1]
    have hE : dirsE st [n] = if isGone st (nodeAt st n) then 4 else if !isDir st (nodeAt st n) then 5 else 0 := by
      unfold dirsE nodesAt
      rw [if_neg (by simp [h1])]
      simp only [List.map_cons, List.map_nil, List.any_cons, List.any_nil, Bool.or_false]
    have hany : (st.laid.find? (fun l => l.onto == nodeAt st n)).isSome = st.laid.any (fun l => l.onto == nodeAt st n) := by
      rw [Bool.eq_iff_iff, List.find?_isSome, List.any_eq_true]
    rw [hE, hany]
    cases isGone st (nodeAt st n) <;> cases isDir st (nodeAt st n) <;> simp

/-- What 'directories' finds. -/
theorem dirsE_zero {st : St} {fs : List Int} (h : dirsE st fs = 0) : ∀ n ∈ fs, (find st n).isNone = false ∧ isGone st (nodeAt st n) = false ∧ isDir st (nodeAt st n) = true := by
  unfold dirsE at h
  split at h
  · cases h
  · rename_i h1
    split at h
    · cases h
    · rename_i h2
      split at h
      · cases h
      · rename_i h3
        intro n hn
        refine ⟨?_, ?_, ?_⟩
        · cases hq : (find st n).isNone with
          | false => rfl
          | true => exact absurd (List.any_eq_true.2 ⟨n, hn, hq⟩) h1
        · cases hq : isGone st (nodeAt st n) with
          | false => rfl
          | true => exact absurd (List.any_eq_true.2 ⟨nodeAt st n, List.mem_map.2 ⟨n, hn, rfl⟩, hq⟩) h2
        · cases hq : isDir st (nodeAt st n) with
          | true => rfl
          | false => exact absurd (List.any_eq_true.2 ⟨nodeAt st n, List.mem_map.2 ⟨n, hn, rfl⟩, by simp [hq]⟩) h3

theorem dir_node {st : St} {i : Nat} (h : isDir st i = true) : ∃ x, st.nodes[i]? = some x ∧ x.dir = true := by
  unfold isDir at h
  split at h
  · rename_i x hx
    exact ⟨x, hx, h⟩
  · cases h

set_option maxRecDepth 20000 in
set_option maxHeartbeats 1000000 in
theorem unbind_any {w : World} {F : Nat → Prop} {t : Nat} {st : St} {L : Lay} {bv : Nat → Value} (h : TreeIs w F t st L bv) {d : Nat} {x : Nd} (hx : st.nodes[d]? = some x) (hd : x.dir = true) :
    Calls Tryz.prog 61 #[.pointer (some ⟨L.nb d, 0, none⟩)] w fun e w' => if (st.laid.find? (fun l => l.onto == d)).isSome then e = .returned (.int .i64 0) ∧ w' = w.setCell ⟨L.nb d, 4, none⟩ (.slice none 0 0) else e = .returned (.int .i64 7) ∧ w' = w := by
  obtain ⟨v, c4, hv⟩ := (h.dir d x hx hd).bound
  have f4 := (h.dir d x hx hd).blk.fz 4
  have hnil := rowNil
  clear h hx hd
  cases hf : st.laid.find? (fun l => l.onto == d) with
  | none =>
    rw [hf] at hv
    have hv : v = .slice none 0 0 := hv
    subst hv
    clear hf
    simp only [Option.isSome_none, Bool.false_eq_true, if_false]
    go_enter Tryz.func61, Tryz.ntmps61
    go_wp2
    go_ret
    exact ⟨rfl, rfl⟩
  | some l =>
    rw [hf] at hv
    obtain ⟨hp, hne⟩ := hv
    rcases hp.opened with ⟨rfl, hn⟩ | ⟨g, cap, rfl, _⟩
    · exact absurd (List.map_eq_nil_iff.1 hn) hne
    · have hlen : (l.row.map (mCells L)).length = l.row.length := by simp
      rw [hlen] at c4
      clear hf hp hne hlen
      simp only [Option.isSome_some, if_true]
      go_enter Tryz.func61, Tryz.ntmps61
      go_wp2
      go_ret
      exact ⟨rfl, rfl⟩

theorem BindEnds.err {w : World} {L : Lay} {b : Nat} {row : List Member} {good : Bool} {e : Ending} {w' : World} (h : BindEnds w L b row good e w') : ∃ er, e = .returned (.int .i64 er) ∧ er = (if good then (if 6 < row.length then 11 else 0) else 1) := by
  rcases h with ⟨rfl, rfl, _⟩ | ⟨rfl, hl, rfl, _⟩ | ⟨rfl, hl, rfl, _⟩
  · exact ⟨1, rfl, rfl⟩
  · exact ⟨11, rfl, by rw [if_pos rfl, if_pos hl]⟩
  · exact ⟨0, rfl, by rw [if_pos rfl, if_neg hl]⟩
/-- Blocks that bind leaves. -/
theorem BindEnds.kept {w : World} {L : Lay} {b : Nat} {row : List Member} {good : Bool} {e : Ending} {w' : World} (h : BindEnds w L b row good e w') {k : Nat} (hk : k < w.heap.size) (hne : k ≠ L.nb b) : w'.heap[k]? = w.heap[k]? := by
  rcases h with ⟨_, _, hb⟩ | ⟨_, _, _, hb⟩ | ⟨_, _, _, w2, v, rfl, hb, _⟩
  · exact hb.block k hk
  · exact hb.block k hk
  · exact (Below.heap_setCell _ _ _ k hne).trans (hb.block k hk)

/-- The fids that are handed on. -/
theorem two_fids (w : World) (n m : Int) : ∀ (j : Nat) z, [n, m][j]? = some z → (w.alloc (.cells #[.int .i64 n, .int .i64 m] 3)).cell? ⟨w.heap.size, j, none⟩ = some (.int .i64 z) := by
  intro j z hz
  have hn := heap_alloc_new w (.cells #[.int .i64 n, .int .i64 m] 3)
  simp only [World.cell?, hn]
  have e2 : (#[Value.int .i64 n, Value.int .i64 m] : Array Value)[j]? = ([n, m].map (Value.int .i64))[j]? := by rw [← List.getElem?_toArray]; rfl
  simp only [e2, List.getElem?_map, hz]
  rfl
theorem one_fid (w : World) (n : Int) : ∀ (j : Nat) z, [n][j]? = some z → (w.alloc (.cells #[.int .i64 n] 3)).cell? ⟨w.heap.size, j, none⟩ = some (.int .i64 z) := by
  intro j z hz
  have hn := heap_alloc_new w (.cells #[.int .i64 n] 3)
  simp only [World.cell?, hn]
  have e2 : (#[Value.int .i64 n] : Array Value)[j]? = ([n].map (Value.int .i64))[j]? := by rw [← List.getElem?_toArray]; rfl
  simp only [e2, List.getElem?_map, hz]
  rfl

set_option maxRecDepth 20000 in
set_option maxHeartbeats 2000000 in
theorem sbind_any {w : World} {F : Nat → Prop} {s : Nat} {st : St} (n onto how : Int) (hr : -9223372036854775808 ≤ how ∧ how ≤ 9223372036854775807) (h : SrvIs w F s st) (ok : POk st) :
    Calls Tryz.prog 23 #[.pointer (some ⟨s, 0, none⟩), .int .i64 n, .int .i64 onto, .int .i64 how] w fun e w' => PEnds w F s (mBind st n onto how) e w' := by
  go_enter_defers Tryz.func23, Tryz.ntmps23
  go_wp2_with fail
  refine (enter_any h).mono ?_
  rintro e w1 ⟨rfl, hH, hx⟩
  clear h
  obtain ⟨t, L, bv, hS⟩ := hH
  have hx := hide hx
  have hbA : Below w1.heap.size w1 (w1.alloc (.cells #[.int .i64 n, .int .i64 onto] 3)) := (Below.refl _ w1).alloc (Nat.le_refl _) _
  have HD := hide (dirs_any (hS.below hbA) ok.tick [n, onto] w1.heap.size 2 (by simp) (by simp) (two_fids w1 n onto))
  have HM := hide (mBind_eq st n onto how)
  have HS := hide hS
  have HbA := hide hbA
  clear hS hbA
  go_wp2_with fail
  refine HD.out.mono ?_
  rintro e w2 (⟨hE, rfl, hb2⟩ | ⟨hE, g, rfl, ho2, hb2⟩)
  · have hbw : Below w1.heap.size w1 w2 := HbA.out.trans (hb2.mono (by simp))
    have Hp := hide (show mBind st n onto how = (tick st, dirsE st [n, onto]) by rw [HM.out, if_pos (show dirsE st [n, onto] ≠ 0 from hE)])
    have hE' : dirsE st [n, onto] ≠ 0 := hE
    rw [show dirsE (tick st) [n, onto] = dirsE st [n, onto] from rfl]
    have q1 : (dirsE st [n, onto] != 0) = true := by simpa using hE'
    have q2 : (dirsE st [n, onto] == 0) = false := by simpa using hE'
    have hS2 := HS.out.below hbw
    have hx2 : Ext F w w2 := hx.out.trans' (Ext.below hbw)
    have hD : Held w2 (ext F w w2) s (tick st) := ⟨t, L, bv, hS2.mono (ext_mono hbw.size)⟩
    have HDd := hide hD
    have HX2 := hide hx2
    clear hE hE' hb2 hbw hS2 hx2 hD
    go_wp2
    refine leaves_cons (f := 43) (args := #[.pointer (some ⟨s, 0, none⟩)]) (by simp) (by simp [go_sem]) ?_
    refine (leave_deferred .returning HDd.out).mono ?_
    rintro e u' w'' ⟨rfl, rfl, rfl⟩
    refine ⟨_, results_tmp rfl _ _ _, ?_⟩
    exact PEnds.close Hp.out HDd.out HX2.out
  · have hbw : Below w1.heap.size w1 w2 := HbA.out.trans (hb2.mono (by simp))
    have hE' : dirsE st [n, onto] = 0 := hE
    have hS2 : SrvHas w2.drew (ext F w w1) s (tick st) 1 t L bv := HS.out.below hbw.drew
    have hz := dirsE_zero hE'
    obtain ⟨_, _, hda⟩ := hz n (by simp)
    obtain ⟨_, _, hdb⟩ := hz onto (by simp)
    obtain ⟨xb, hxb, hxbd⟩ := dir_node hdb
    obtain ⟨g0, g1⟩ : w2.cell? ⟨g, 0, none⟩ = some (.pointer (some ⟨L.nb (nodeAt st n), 0, none⟩)) ∧ w2.cell? ⟨g, 1, none⟩ = some (.pointer (some ⟨L.nb (nodeAt st onto), 0, none⟩)) := by
      rcases ho2.opened with ⟨hv, _⟩ | ⟨g', cap, hv, _, _, _, _, hcell, _⟩
      · cases hv
      · simp only [Value.slice.injEq, Option.some.injEq, Addr.mk.injEq, and_true] at hv
        obtain ⟨rfl, _⟩ := hv
        exact ⟨hcell 0 _ 0 _ rfl rfl, hcell 1 _ 0 _ rfl rfl⟩
    have hgt : Ty w2 g 87 := by
      rcases ho2.opened with ⟨hv, _⟩ | ⟨g', cap, hv, _, _, _, ⟨cur, hb⟩, _, _⟩
      · cases hv
      · simp only [Value.slice.injEq, Option.some.injEq, Addr.mk.injEq, and_true] at hv
        obtain ⟨rfl, _⟩ := hv
        exact ⟨cur, hb⟩
    generalize hA : nodeAt st n = a at g0 HM hda
    generalize hB : nodeAt st onto = b at g1 HM hdb hxb
    have hrow6 : (rowOf st b).length ≤ 6 := by
      unfold rowOf
      split
      · rename_i l hl
        exact (ok.laid l (List.mem_of_find?_eq_some hl)).2.1
      · simp
    have HM2 := hide (show mBind st n onto how = if howOk how then (if 6 < (M.boundRow st a b how).length then (tick st, 11) else (mLay (tick st) b (M.boundRow st a b how), 0)) else (tick st, 1) by rw [HM.out, if_neg (by rw [hE']; simp)])
    have hBind : Calls Tryz.prog 60 #[.pointer (some ⟨L.nb b, 0, none⟩), .pointer (some ⟨L.nb a, 0, none⟩), .int .i64 how] w2.drew fun e w' => BindEnds w2.drew L b (M.boundRow st a b how) (howOk how) e w' := by
      cases hh : howOk how with
      | false =>
        refine (bind_bad (L.nb b) (L.nb a) how hr hh w2.drew).mono ?_
        rintro e w' ⟨rfl, hb⟩
        exact .inl ⟨rfl, rfl, hb⟩
      | true =>
        rcases how_good hh with e | e | e | e | e | e
        · have := bind_replace (a := a) hS2.tree hxb hxbd how (.inl e)
          rw [show M.boundRow st a b how = [⟨a, decide (4 ≤ how)⟩] by unfold M.boundRow; rw [if_pos (by omega)]]
          exact this
        · have := bind_before (a := a) hS2.tree hxb hxbd hrow6 how (.inl e)
          rw [show M.boundRow st a b how = ⟨a, decide (4 ≤ how)⟩ :: rowOf st b by unfold M.boundRow; rw [if_neg (by omega), if_pos (by omega)]]
          exact this
        · have := bind_after (a := a) hS2.tree hxb hxbd hrow6 how (.inl e)
          rw [show M.boundRow st a b how = rowOf st b ++ [⟨a, decide (4 ≤ how)⟩] by unfold M.boundRow; rw [if_neg (by omega), if_neg (by omega)]]
          exact this
        · have := bind_replace (a := a) hS2.tree hxb hxbd how (.inr e)
          rw [show M.boundRow st a b how = [⟨a, decide (4 ≤ how)⟩] by unfold M.boundRow; rw [if_pos (by omega)]]
          exact this
        · have := bind_before (a := a) hS2.tree hxb hxbd hrow6 how (.inr e)
          rw [show M.boundRow st a b how = ⟨a, decide (4 ≤ how)⟩ :: rowOf st b by unfold M.boundRow; rw [if_neg (by omega), if_pos (by omega)]]
          exact this
        · have := bind_after (a := a) hS2.tree hxb hxbd hrow6 how (.inr e)
          rw [show M.boundRow st a b how = rowOf st b ++ [⟨a, decide (4 ≤ how)⟩] by unfold M.boundRow; rw [if_neg (by omega), if_neg (by omega)]]
          exact this
    have HBi := hide hBind
    have HS2 := hide hS2
    have Hbw := hide hbw
    have Hxb := hide hxb
    have Hxbd := hide hxbd
    have Hgne := hide (show g < w2.heap.size ∧ g ≠ L.nb b from ⟨hgt.lt, Ty.ne_ty (w := w2.drew) (e := 87) (e' := 168) hgt (hS2.tree.dir b xb hxb hxbd).blk.ty (by decide)⟩)
    rw [show [n, onto].length = 2 from rfl]
    clear hE hE' hb2 hbw hS2 hz hda hdb hxb hxbd ho2 hA hB hrow6 hBind hr hgt
    go_wp2_with fail
    go_region_held3 (fun ww => ww.cell? ⟨g, 0, none⟩ = some (.pointer (some ⟨L.nb a, 0, none⟩)) ∧ ww.cell? ⟨g, 1, none⟩ = some (.pointer (some ⟨L.nb b, 0, none⟩))) (go_keep) (first | (go_at_call 60; refine HBi.out.mono ?_; rintro e w3 hbe; obtain ⟨er, rfl, her⟩ := hbe.err; have HBE := hide hbe; have HEr := hide her; have hk3 := hbe.kept (k := g) Hgne.out.1 Hgne.out.2; have p0 : w3.cell? ⟨g, 0, none⟩ = some (.pointer (some ⟨L.nb a, 0, none⟩)) := (World.cell?_of_block hk3).trans g0; have p1 : w3.cell? ⟨g, 1, none⟩ = some (.pointer (some ⟨L.nb b, 0, none⟩)) := (World.cell?_of_block hk3).trans g1; clear hbe her hk3))
    all_goals go_wp2
    all_goals
      have hfin : ∃ st', mBind st n onto how = (st', er) ∧ Held w3 (ext F w w3) s st' ∧ Ext F w w3 := by
        have hz12 := Hbw.out.size
        have hx12 : Ext F w w2.drew := (hx.out.trans' (Ext.below Hbw.out)).drew
        have her := HEr.out
        rcases HBE.out with ⟨hg, he, hb⟩ | ⟨hg, hl, he, hb⟩ | ⟨hg, hl, he, wv, v, rfl, hb, hp⟩
        · rw [hg] at her
          refine ⟨tick st, by rw [HM2.out, hg, her]; rfl, ⟨t, L, bv, (HS2.out.below hb).mono (ext_mono (by have := hb.size; exact Nat.le_trans hz12 this))⟩, hx12.trans' (Ext.below hb)⟩
        · rw [hg, if_pos rfl, if_pos hl] at her
          refine ⟨tick st, by rw [HM2.out, hg, if_pos rfl, if_pos hl, her], ⟨t, L, bv, (HS2.out.below hb).mono (ext_mono (by have := hb.size; exact Nat.le_trans hz12 this))⟩, hx12.trans' (Ext.below hb)⟩
        · rw [hg, if_pos rfl, if_neg hl] at her
          have hzv : w2.heap.size ≤ wv.heap.size := hb.size
          have hz1 := hx.out.size
          have hS3 : SrvHas wv (ext F w wv) s (tick st) 1 t L bv := (HS2.out.below hb).mono (ext_mono (by omega))
          have hrn : M.boundRow st a b how ≠ [] := by
            unfold M.boundRow
            split
            · simp
            · split
              · simp
              · simp
          have hp3 : PRow wv (ext F w wv) L v (M.boundRow st a b how) := hp.mono (fun k hk => .inr ⟨by have : w2.heap.size ≤ k := hk.1; omega, hk.2⟩)
          have hS4 := hS3.lay (show (tick st).nodes[b]? = some xb from Hxb.out) Hxbd.out (.inr ⟨hrn, hp3⟩)
          refine ⟨mLay (tick st) b (M.boundRow st a b how), by rw [HM2.out, hg, if_pos rfl, if_neg hl, her], ⟨t, L, bv, hS4.mono (ext_mono (by simp))⟩, ?_⟩
          have hxv : Ext F w wv := hx12.trans' (Ext.below hb)
          have hown : ext F w w1 (L.nb b) := (HS.out.tree.dir b xb (show (tick st).nodes[b]? = some xb from Hxb.out) Hxbd.out).blk.own
          exact hxv.setCell (a := ⟨L.nb b, 4, none⟩) (by rcases hown with q | q; exact .inl q; exact .inr q.1) v
      obtain ⟨st', hp, hD, hxx⟩ := hfin
      refine leaves_cons (f := 43) (args := #[.pointer (some ⟨s, 0, none⟩)]) (by simp) (by simp [go_sem]) ?_
      refine (leave_deferred .returning hD).mono ?_
      rintro e u' w'' ⟨rfl, rfl, rfl⟩
      refine ⟨_, results_tmp rfl _ _ _, ?_⟩
      exact PEnds.close hp hD hxx

set_option maxRecDepth 20000 in
set_option maxHeartbeats 2000000 in
theorem sunbind_any {w : World} {F : Nat → Prop} {s : Nat} {st : St} (n : Int) (h : SrvIs w F s st) (ok : POk st) :
    Calls Tryz.prog 24 #[.pointer (some ⟨s, 0, none⟩), .int .i64 n] w fun e w' => PEnds w F s (mUnbind st n) e w' := by
  go_enter_defers Tryz.func24, Tryz.ntmps24
  go_wp2_with fail
  refine (enter_any h).mono ?_
  rintro e w1 ⟨rfl, hH, hx⟩
  clear h
  obtain ⟨t, L, bv, hS⟩ := hH
  have hx := hide hx
  have hbA : Below w1.heap.size w1 (w1.alloc (.cells #[.int .i64 n] 3)) := (Below.refl _ w1).alloc (Nat.le_refl _) _
  have HD := hide (dirs_any (hS.below hbA) ok.tick [n] w1.heap.size 1 (by simp) (by simp) (one_fid w1 n))
  have HM := hide (mUnbind_eq st n)
  have HS := hide hS
  have HbA := hide hbA
  clear hS hbA
  go_wp2_with fail
  refine HD.out.mono ?_
  rintro e w2 (⟨hE, rfl, hb2⟩ | ⟨hE, g, rfl, ho2, hb2⟩)
  · have hbw : Below w1.heap.size w1 w2 := HbA.out.trans (hb2.mono (by simp))
    have Hp := hide (show mUnbind st n = (tick st, dirsE st [n]) by rw [HM.out, if_pos (show dirsE st [n] ≠ 0 from hE)])
    have hE' : dirsE st [n] ≠ 0 := hE
    rw [show dirsE (tick st) [n] = dirsE st [n] from rfl]
    have q1 : (dirsE st [n] != 0) = true := by simpa using hE'
    have q2 : (dirsE st [n] == 0) = false := by simpa using hE'
    have hS2 := HS.out.below hbw
    have hx2 : Ext F w w2 := hx.out.trans' (Ext.below hbw)
    have hD : Held w2 (ext F w w2) s (tick st) := ⟨t, L, bv, hS2.mono (ext_mono hbw.size)⟩
    have HDd := hide hD
    have HX2 := hide hx2
    clear hE hE' hb2 hbw hS2 hx2 hD
    go_wp2
    refine leaves_cons (f := 43) (args := #[.pointer (some ⟨s, 0, none⟩)]) (by simp) (by simp [go_sem]) ?_
    refine (leave_deferred .returning HDd.out).mono ?_
    rintro e u' w'' ⟨rfl, rfl, rfl⟩
    refine ⟨_, results_tmp rfl _ _ _, ?_⟩
    exact PEnds.close Hp.out HDd.out HX2.out
  · have hbw : Below w1.heap.size w1 w2 := HbA.out.trans (hb2.mono (by simp))
    have hE' : dirsE st [n] = 0 := hE
    have hS2 := HS.out.below hbw
    obtain ⟨_, _, hda⟩ := dirsE_zero hE' n (by simp)
    obtain ⟨xb, hxb, hxbd⟩ := dir_node hda
    have g0 : w2.cell? ⟨g, 0, none⟩ = some (.pointer (some ⟨L.nb (nodeAt st n), 0, none⟩)) := by
      rcases ho2.opened with ⟨hv, _⟩ | ⟨g', cap, hv, _, _, _, _, hcell, _⟩
      · cases hv
      · simp only [Value.slice.injEq, Option.some.injEq, Addr.mk.injEq, and_true] at hv
        obtain ⟨rfl, _⟩ := hv
        exact hcell 0 _ 0 _ rfl rfl
    have HM2 := hide (show mUnbind st n = if (st.laid.find? (fun l => l.onto == nodeAt st n)).isSome then (mLay (tick st) (nodeAt st n) [], 0) else (tick st, 7) by rw [HM.out, if_neg (by rw [hE']; simp)])
    clear HM
    generalize hA : nodeAt st n = a at g0 HM2 hda hxb
    have HU := hide (unbind_any hS2.tree (show (tick st).nodes[a]? = some xb from hxb) hxbd)
    rw [show (tick st).laid = st.laid from rfl] at HU
    have HS2 := hide hS2
    have Hbw := hide hbw
    have Hxb := hide hxb
    have Hxbd := hide hxbd
    rw [show [n].length = 1 from rfl]
    clear hE hE' hb2 hbw hS2 hda hxb hxbd ho2 hA
    cases hbd : (st.laid.find? (fun l => l.onto == a)).isSome with
    | false =>
      rw [hbd] at HU HM2
      simp only [Bool.false_eq_true, if_false] at HU HM2
      clear hbd
      go_wp2_with (go_at_call 61; refine HU.out.mono ?_; rintro e w3 ⟨rfl, hw⟩; obtain rfl := hw.symm)
      have hx2 : Ext F w w2 := hx.out.trans' (Ext.below Hbw.out)
      have hD : Held w2 (ext F w w2) s (tick st) := ⟨t, L, bv, HS2.out.mono (ext_mono Hbw.out.size)⟩
      refine leaves_cons (f := 43) (args := #[.pointer (some ⟨s, 0, none⟩)]) (by simp) (by simp [go_sem]) ?_
      refine (leave_deferred .returning hD).mono ?_
      rintro e u' w'' ⟨rfl, rfl, rfl⟩
      refine ⟨_, results_tmp rfl _ _ _, ?_⟩
      exact PEnds.close HM2.out hD hx2
    | true =>
      rw [hbd] at HU HM2
      simp only [if_true] at HU HM2
      clear hbd
      go_wp2_with (go_at_call 61; refine HU.out.mono ?_; rintro e w3 ⟨rfl, rfl⟩)
      have hx2 : Ext F w w2 := hx.out.trans' (Ext.below Hbw.out)
      have hS3 : SrvHas w2 (ext F w w2) s (tick st) 1 t L bv := HS2.out.mono (ext_mono Hbw.out.size)
      have hS4 := hS3.lay (show (tick st).nodes[a]? = some xb from Hxb.out) Hxbd.out (row := []) (.inl ⟨rfl, rfl⟩)
      have hD : Held (w2.setCell ⟨L.nb a, 4, none⟩ (.slice none 0 0)) (ext F w (w2.setCell ⟨L.nb a, 4, none⟩ (.slice none 0 0))) s (mLay (tick st) a []) := ⟨t, L, bv, hS4.mono (ext_mono (by simp))⟩
      have hown : ext F w w1 (L.nb a) := (HS.out.tree.dir a xb (show (tick st).nodes[a]? = some xb from Hxb.out) Hxbd.out).blk.own
      have hxx : Ext F w (w2.setCell ⟨L.nb a, 4, none⟩ (.slice none 0 0)) := hx2.setCell (a := ⟨L.nb a, 4, none⟩) (by rcases hown with q | q; exact .inl q; exact .inr q.1) _
      refine leaves_cons (f := 43) (args := #[.pointer (some ⟨s, 0, none⟩)]) (by simp) (by simp [go_sem]) ?_
      refine (leave_deferred .returning hD).mono ?_
      rintro e u' w'' ⟨rfl, rfl, rfl⟩
      refine ⟨_, results_tmp rfl _ _ _, ?_⟩
      exact PEnds.close HM2.out hD hxx
end Go.Proofs.YtdmdgnghaceibaaGreat.P
/- What every state keeps, more: Bind, Unbind; both as the laws use them. -/
namespace Go.Proofs.YtdmdgnghaceibaaGreat.P
open M Go.ChangeShapes Go.WideShapes Go.ChangeAt Go.RowKit
set_option linter.unusedVariables false

theorem mem_others {d : Nat} {l : List Laid} {x : Laid} (h : x ∈ others d l) : x ∈ l ∧ x.onto ≠ d := by
  unfold others at h
  obtain ⟨h1, h2⟩ := List.mem_filter.1 h
  exact ⟨h1, by simpa using h2⟩
theorem mem_lay {st : St} {d : Nat} {row : List Member} {x : Laid} (h : x ∈ (mLay st d row).laid) : (x ∈ st.laid ∧ x.onto ≠ d) ∨ (x = ⟨d, row⟩ ∧ row ≠ []) := by
  unfold mLay at h
  simp only at h
  rcases List.mem_append.1 h with h | h
  · exact .inl (mem_others h)
  · split at h
    · rename_i h0
      simp at h
      exact .inr ⟨h, fun e => by rw [e] at h0; simp at h0⟩
    · simp at h

theorem lay_ok {st : St} (ok : POk st) {d : Nat} {row : List Member} (hd : d < st.nodes.length) (hrow : ∀ m ∈ row, m.d < st.nodes.length ∧ isDir st m.d = true) (hl : row.length ≤ 6) : POk (mLay st d row) := by
  refine ⟨⟨ok.fids.once, ok.fids.small⟩, ok.root, ok.way, fun l h => ?_, ok.names, ok.inn, ok.live⟩
  rcases mem_lay h with ⟨h, _⟩ | ⟨rfl, _⟩
  · exact ok.laid l h
  · exact ⟨hrow, hl, hd⟩
theorem lay_treed {st : St} (T : Treed st) {d : Nat} {row : List Member} (hd : d < st.nodes.length) (hg : isGone st d = false) (hdir : isDir st d = true) : Treed (mLay st d row) := by
  refine ⟨T.root, T.inn, T.uniq, fun l h => ?_, ?_⟩
  · rcases mem_lay h with ⟨h, _⟩ | ⟨rfl, hne⟩
    · exact T.laid l h
    · exact ⟨hd, hg, hdir, hne⟩
  · unfold mLay
    simp only
    rw [List.pairwise_append]
    refine ⟨T.one.sublist (List.filter_sublist), ?_, fun a ha b hb => ?_⟩
    · split <;> simp
    · split at hb
      · simp at hb
        subst hb
        exact (mem_others ha).2
      · simp at hb

theorem row_members {st : St} (ok : POk st) {d : Nat} (hd : d < st.nodes.length) (hdir : isDir st d = true) : ∀ m ∈ rowOf st d, m.d < st.nodes.length ∧ isDir st m.d = true := by
  unfold rowOf
  split
  · rename_i l hl
    exact (ok.laid l (List.mem_of_find?_eq_some hl)).1
  · intro m hm
    simp at hm
    subst hm
    exact ⟨hd, hdir⟩
theorem bound_members {st : St} (ok : POk st) {a b : Nat} (ha : a < st.nodes.length) (had : isDir st a = true) (hb : b < st.nodes.length) (hbd : isDir st b = true) (how : Int) : ∀ m ∈ M.boundRow st a b how, m.d < st.nodes.length ∧ isDir st m.d = true := by
  intro m hm
  unfold M.boundRow at hm
  split at hm
  · simp at hm; subst hm; exact ⟨ha, had⟩
  · split at hm
    · rcases List.mem_cons.1 hm with rfl | hm
      · exact ⟨ha, had⟩
      · exact row_members ok hb hbd m hm
    · rcases List.mem_append.1 hm with hm | hm
      · exact row_members ok hb hbd m hm
      · simp at hm; subst hm; exact ⟨ha, had⟩

theorem isDir_lt {st : St} {i : Nat} (h : isDir st i = true) : i < st.nodes.length := by
  obtain ⟨x, hx, _⟩ := dir_node h
  exact M.lt_of_getElem? hx

theorem mBind_cases (st : St) (n onto how : Int) : (mBind st n onto how).1 = tick st ∨ ∃ a b, isDir st a = true ∧ isDir st b = true ∧ isGone st b = false ∧ (M.boundRow st a b how).length ≤ 6 ∧ (mBind st n onto how).1 = mLay (tick st) b (M.boundRow st a b how) := by
  rw [mBind_eq]
  by_cases hE : dirsE st [n, onto] = 0
  · rw [if_neg (by rw [hE]; simp)]
    split
    · split
      · exact .inl rfl
      · rename_i h6
        obtain ⟨_, _, ha⟩ := dirsE_zero hE n (by simp)
        obtain ⟨_, hgb, hb⟩ := dirsE_zero hE onto (by simp)
        exact .inr ⟨nodeAt st n, nodeAt st onto, ha, hb, hgb, by omega, rfl⟩
    · exact .inl rfl
  · rw [if_pos hE]
    exact .inl rfl
theorem mUnbind_cases (st : St) (n : Int) : (mUnbind st n).1 = tick st ∨ ∃ b, isDir st b = true ∧ isGone st b = false ∧ (mUnbind st n).1 = mLay (tick st) b [] := by
  rw [mUnbind_eq]
  by_cases hE : dirsE st [n] = 0
  · rw [if_neg (by rw [hE]; simp)]
    obtain ⟨_, hgb, hb⟩ := dirsE_zero hE n (by simp)
    split
    · exact .inr ⟨nodeAt st n, hb, hgb, rfl⟩
    · exact .inl rfl
  · rw [if_pos hE]
    exact .inl rfl

theorem KOk.bind {st : St} (h : KOk st) (n onto how : Int) : KOk (mBind st n onto how).1 := by
  rcases mBind_cases st n onto how with e | ⟨a, b, ha, hb, hgb, hl, e⟩
  · rw [e]; exact h.tick
  · rw [e]
    exact ⟨lay_ok h.ok.tick (isDir_lt hb) (bound_members h.ok (isDir_lt ha) ha (isDir_lt hb) hb how) hl, lay_treed (st := M.tick st) (h.tree.same rfl rfl) (isDir_lt hb) hgb hb, h.small, h.len⟩
theorem KOk.unbind {st : St} (h : KOk st) (n : Int) : KOk (mUnbind st n).1 := by
  rcases mUnbind_cases st n with e | ⟨b, hb, hgb, e⟩
  · rw [e]; exact h.tick
  · rw [e]
    exact ⟨lay_ok h.ok.tick (isDir_lt hb) (by simp) (by simp), lay_treed (st := M.tick st) (h.tree.same rfl rfl) (isDir_lt hb) hgb hb, h.small, h.len⟩

section
variable {w : World} {X : Nat → Prop} {s : Nat} {st : St}
theorem k_bind (n onto how : Int) (hr : -9223372036854775808 ≤ how ∧ how ≤ 9223372036854775807) (h : KSrv w X s st) (ok : POk st) :
    Calls Tryz.prog 23 #[.pointer (some ⟨s, 0, none⟩), .int .i64 n, .int .i64 onto, .int .i64 how] w fun e w' => e = .returned (.int .i64 (mBind st n onto how).2) ∧ KSrv w' X s (mBind st n onto how).1 ∧ Ext X w w' := by
  obtain ⟨F, h, lo, hi⟩ := h
  refine (sbind_any n onto how hr h ok).mono ?_
  rintro e w' ⟨rfl, hs, hx⟩
  exact ⟨rfl, KSrv.step hs (fun k hk => hk) hx lo hi⟩
theorem k_unbind (n : Int) (h : KSrv w X s st) (ok : POk st) :
    Calls Tryz.prog 24 #[.pointer (some ⟨s, 0, none⟩), .int .i64 n] w fun e w' => e = .returned (.int .i64 (mUnbind st n).2) ∧ KSrv w' X s (mUnbind st n).1 ∧ Ext X w w' := by
  obtain ⟨F, h, lo, hi⟩ := h
  refine (sunbind_any n h ok).mono ?_
  rintro e w' ⟨rfl, hs, hx⟩
  exact ⟨rfl, KSrv.step hs (fun k hk => hk) hx lo hi⟩
end
end Go.Proofs.YtdmdgnghaceibaaGreat.P
/- 'Gone' walked. -/
namespace Go.Proofs.YtdmdgnghaceibaaGreat.P
open M Go.ChangeShapes Go.WideShapes Go.ChangeAt Go.RowKit
set_option linter.unusedVariables false

def F2 : Fid := ⟨2, w3, false⟩
def F3 : Fid := ⟨3, w3, false⟩
def F5 : Fid := ⟨5, wd, false⟩

section
variable {L D : ByteArray} {c : Int}
abbrev gN (L D : ByteArray) : List Nd := [root, firstNd, dNd, gFile L D false]
abbrev gM (L D : ByteArray) : List Nd := [root, firstNd, dNd, gFile L D true]
abbrev gO (L D : ByteArray) : List Nd := [root, firstNd, dNd, gFile L D true, gFile L newText false]

theorem q_z (nodes : List Nd) (rest : List Fid) (h : ∀ f ∈ rest, f.n ≠ 1) : Zero (Gs nodes (f0 :: rest) c) := by
  refine ⟨⟨rest, rfl⟩, ?_⟩
  unfold M.find
  rw [List.findIdx?_eq_none_iff]
  intro f hf
  rcases List.mem_cons.1 hf with rfl | hf
  · rfl
  · simpa using h f hf

theorem q_w2 (T : Treed (Gs (gN L D) [f0] c)) (hL : isName L = true) : mWalk (Gs (gN L D) [f0] c) 0 2 [dName, L] = (Gs (gN L D) [f0, F2] (wrap64 (c + 1)), 2, 0) := by
  have z := q_z (c := c) (gN L D) [] (by simp)
  rw [mWalk_new z.find z.get rfl rfl (by decide) (by decide) rfl (by simp) (by simp [nameBad_no isName_d, nameBad_no hL]), show f0.way = W0 from rfl, g_go T hL]
  rfl
theorem q_w3 (T : Treed (Gs (gN L D) [f0, F2] c)) (hL : isName L = true) : mWalk (Gs (gN L D) [f0, F2] c) 0 3 [dName, L] = (Gs (gN L D) [f0, F2, F3] (wrap64 (c + 1)), 2, 0) := by
  have z := q_z (c := c) (gN L D) [F2] (by simp [F2])
  rw [mWalk_new z.find z.get rfl rfl (by decide) (by decide) rfl (by simp) (by simp [nameBad_no isName_d, nameBad_no hL]), show f0.way = W0 from rfl, g_go T hL]
  rfl
theorem q_w4 (T : Treed (Gs (gN L D) [f0, F2, F3] c)) : mWalk (Gs (gN L D) [f0, F2, F3] c) 0 4 [dName] = (withFid (Gs (gN L D) [f0, F2, F3] (wrap64 (c + 1))) ⟨4, wd, false⟩, 1, 0) := by
  have z := q_z (c := c) (gN L D) [F2, F3] (by simp [F2, F3])
  rw [mWalk_new z.find z.get rfl rfl (by decide) (by decide) rfl (by simp) (by simp [nameBad_no isName_d]), show f0.way = W0 from rfl, go1 (g_dir.step T)]
  rfl
theorem q_r4 : mRemove (withFid (Gs (gN L D) [f0, F2, F3] c) ⟨4, wd, false⟩) 4 = (Gs (gN L D) [f0, F2, F3] (wrap64 (c + 1)), 10) := by
  rw [mRemove_busy (d := 2) (x := dNd) rfl rfl rfl rfl rfl (by decide) g_busy]
  rfl
theorem q_c4 : mClunk (Gs (gN L D) [f0, F2, F3] c) 4 = (Gs (gN L D) [f0, F2, F3] (wrap64 (c + 1)), 2) := by
  unfold mClunk
  rw [show M.find (Gs (gN L D) [f0, F2, F3] c) 4 = none from rfl]
  rfl
theorem q_r2 : mRemove (Gs (gN L D) [f0, F2, F3] c) 2 = (Gs (gM L D) [f0, F3] (wrap64 (c + 1)), 0) := by
  rw [mRemove_eq (i := 1) (f := F2) (x := gFile L D false) rfl rfl rfl]
  rfl
theorem q_o3 (nodes : List Nd) (rest : List Fid) (h : isGone (Gs nodes (f0 :: F3 :: rest) c) 3 = true) : mOpen (Gs nodes (f0 :: F3 :: rest) c) 3 = (Gs nodes (f0 :: F3 :: rest) (wrap64 (c + 1)), 4) := by
  unfold mOpen
  rw [show M.find (Gs nodes (f0 :: F3 :: rest) c) 3 = some 1 from rfl]
  simp only
  rw [show (Gs nodes (f0 :: F3 :: rest) c).fids[1]? = some F3 from rfl]
  simp only
  rw [if_neg (by simp [F3]), show nodeOf F3 = 3 from rfl, if_pos h]
  rfl
theorem q_s3 : mStat (Gs (gM L D) [f0, F3] c) 3 = (Gs (gM L D) [f0, F3] (wrap64 (c + 1)), noStat, 4) := rfl
theorem q_w5 : mWalk (Gs (gM L D) [f0, F3] c) 3 5 [⟨#[46, 46]⟩] = (Gs (gM L D) [f0, F3, F5] (wrap64 (c + 1)), 1, 0) := by
  rw [mWalk_new (n := 3) (i := 1) (f := F3) rfl rfl rfl rfl (by decide) (by decide) rfl (by simp) (by decide +kernel)]
  rw [show F3.way = wd ++ [⟨3, []⟩] from rfl, go1 (wayStep_back (by decide))]
  rfl
theorem q_r3 (nodes : List Nd) (rest : List Fid) (x : Nd) (hx : nodes[3]? = some x) (hg : x.gone = true) : (mRemove (Gs nodes (f0 :: F3 :: rest) c) 3).2 = 4 := by
  rw [mRemove_eq (i := 1) (f := F3) (x := x) rfl rfl hx]
  simp [removeE, hg]
end

/-- 'told' by two names that were typed there. -/
theorem ktold2 {w : World} {X : Nat → Prop} {s : Nat} {st : St} (a b : ByteArray) (nc : Nat) (way : List Spot) (sp : Spot) (x : Nd) (h : KSrv w X s st) (k : KOk st) (z : Zero st) (ha : isName a = true) (hb : isName b = true)
    (hgo : wayGo st [a, b] W0 = (2, 0, way)) (hsp : way.getLast? = some sp) (hx : st.nodes[sp.n]? = some x) (hg : x.gone = false) (hd : x.dir = false) :
    Calls Tryz.prog 38 #[.pointer (some ⟨s, 0, none⟩), .slice (some ⟨w.heap.size, 0, none⟩) 2 nc] (w.alloc (.cells #[.string a, .string b] 9)) fun e w' => ToldEnds w X s st x.data e w' := by
  have hbl : Below w.heap.size w (w.alloc (.cells #[.string a, .string b] 9)) := (Below.refl _ w).alloc (Nat.le_refl _) _
  have h1 := h.apart hbl (fun k => k = w.heap.size) (fun k hk => by subst hk; simp)
  have hsz : ∀ x ∈ [a, b], x.size ≤ maxLen := fun x hx => by
    simp at hx
    rcases hx with rfl | rfl
    · have := isName_size ha; unfold maxLen; omega
    · have := isName_size hb; unfold maxLen; omega
  refine (ktold_any [a, b] (some ⟨w.heap.size, 0, none⟩) nc way sp x h1 k z ⟨by simp [maxLen], fun i t ht => ⟨hsz t (List.mem_of_getElem? ht), w.heap.size, 0, rfl, ?_⟩⟩ (fun q hq _ e => by cases hq; exact e.2 rfl) (by simp) (by simp [nameBad_no ha, nameBad_no hb]) hgo hsp hx hg hd).mono ?_
  · have := heap_alloc_new w (.cells #[.string a, .string b] 9)
    simp only [World.cell?, this]
    have e2 : (#[Value.string a, Value.string b] : Array Value)[i]? = ([a, b].map Value.string)[i]? := by rw [← List.getElem?_toArray]; rfl
    simp only [e2, List.getElem?_map, ht, Nat.zero_add]
    rfl
  · rintro e w' ⟨rfl, cc, h2, hx2⟩
    exact ⟨rfl, cc, h2.more (fun k hk => hk.1), (Ext.below hbl).trans' (hx2.weak (fun k hk => hk.1))⟩
theorem ktold2_none {w : World} {X : Nat → Prop} {s : Nat} {st : St} (a b : ByteArray) (nc : Nat) (q : Nat) (er : Int) (way : List Spot) (h : KSrv w X s st) (k : KOk st) (z : Zero st) (ha : isName a = true) (hb : isName b = true)
    (hgo : wayGo st [a, b] W0 = (q, er, way)) (her : er ≠ 0) :
    Calls Tryz.prog 38 #[.pointer (some ⟨s, 0, none⟩), .slice (some ⟨w.heap.size, 0, none⟩) 2 nc] (w.alloc (.cells #[.string a, .string b] 9)) fun e w' => ToldEnds w X s st ⟨#[63]⟩ e w' := by
  have hbl : Below w.heap.size w (w.alloc (.cells #[.string a, .string b] 9)) := (Below.refl _ w).alloc (Nat.le_refl _) _
  have h1 := h.apart hbl (fun k => k = w.heap.size) (fun k hk => by subst hk; simp)
  have hsz : ∀ x ∈ [a, b], x.size ≤ maxLen := fun x hx => by
    simp at hx
    rcases hx with rfl | rfl
    · have := isName_size ha; unfold maxLen; omega
    · have := isName_size hb; unfold maxLen; omega
  refine (ktold_none [a, b] (some ⟨w.heap.size, 0, none⟩) nc q er way h1 k z ⟨by simp [maxLen], fun i t ht => ⟨hsz t (List.mem_of_getElem? ht), w.heap.size, 0, rfl, ?_⟩⟩ (fun q hq _ e => by cases hq; exact e.2 rfl) (by simp) (by simp [nameBad_no ha, nameBad_no hb]) hgo her).mono ?_
  · have := heap_alloc_new w (.cells #[.string a, .string b] 9)
    simp only [World.cell?, this]
    have e2 : (#[Value.string a, Value.string b] : Array Value)[i]? = ([a, b].map Value.string)[i]? := by rw [← List.getElem?_toArray]; rfl
    simp only [e2, List.getElem?_map, ht, Nat.zero_add]
    rfl
  · rintro e w' ⟨rfl, cc, h2, hx2⟩
    exact ⟨rfl, cc, h2.more (fun k hk => hk.1), (Ext.below hbl).trans' (hx2.weak (fun k hk => hk.1))⟩
end Go.Proofs.YtdmdgnghaceibaaGreat.P
/- The model through which 'Still' goes. (No program.) -/
namespace Go.Proofs.YtdmdgnghaceibaaGreat.P
open M
set_option linter.unusedVariables false

def ontoN : ByteArray := ⟨#[111, 110, 116, 111]⟩
def overN : ByteArray := ⟨#[111, 118, 101, 114]⟩
theorem isName_onto : isName ontoN = true := by decide +kernel
theorem isName_over : isName overN = true := by decide +kernel

/-- A list of a directory that stands alone. -/
theorem list_one {st : St} {d : Nat} (hg : isGone st d = false) : listUpto st [⟨d, true⟩] 1 = namesOf st d := by
  have : (namesOf st d).filter (fun s => (seenIn st s []).isNone) = namesOf st d := List.filter_eq_self.2 (fun _ _ => rfl)
  simp [listUpto, hg, this]

theorem mList_at {st : St} {n : Int} {i : Nat} {f : Fid} {sp : Spot} (hf : M.find st n = some i) (hi : st.fids[i]? = some f) (ho : f.op = true) (hsp : f.way.getLast? = some sp) (hg : isGone st sp.n = false) (hd : isDir st sp.n = true) :
    mList st n = (tick st, listUpto st sp.row sp.row.length, 0) := by
  have hno : nodeOf f = sp.n := by simp [nodeOf, hsp]
  have he : mDirE st (M.find st n) = 0 := by
    rw [hf]
    unfold mDirE
    simp only
    rw [hi]
    simp only
    rw [if_pos ho, hno, hg, hd]
    simp
  unfold mList
  rw [if_pos he, hf]
  simp only
  rw [hi]
  simp only
  rw [show fidRow f = sp.row by simp [fidRow, hsp]]

theorem wayStep_dot (st : St) (way : List Spot) : wayStep st way ⟨#[46]⟩ = (0, way) := by
  unfold wayStep
  rw [if_pos (by simp [ByteArray.toList_eq])]
theorem go3 {st : St} {s t u : ByteArray} {way w1 w2 w3 : List Spot} (h : wayStep st way s = (0, w1)) (h2 : wayStep st w1 t = (0, w2)) (h3 : wayStep st w2 u = (0, w3)) : wayGo st [s, t, u] way = (3, 0, w3) := by
  have := go2 h2 h3
  unfold wayGo
  rw [h]
  simp only [if_true]
  rw [this]

/-- Two directories of the root, each with its files. -/
structure Pair (st : St) (a b ma mb : Nat) : Prop where
  da : M.lies st 0 ontoN = some a
  db : M.lies st 0 overN = some b
  dira : isDir st a = true
  dirb : isDir st b = true
  fa : Filled st ontoN a ma 8
  fb : Filled st overN b mb 8
theorem Pair.same {st st' : St} {a b ma mb : Nat} (h : Pair st a b ma mb) (hn : st'.nodes = st.nodes) : Pair st' a b ma mb := by
  obtain ⟨n', l', f', c'⟩ := st'
  obtain ⟨n, l, f, c⟩ := st
  simp only at hn
  subst hn
  exact ⟨h.da, h.db, h.dira, h.dirb, ⟨h.fa.names, h.fa.there⟩, ⟨h.fb.names, h.fb.there⟩⟩
theorem lies_live2 {st : St} {s : ByteArray} {a : Nat} (h : M.lies st 0 s = some a) : isGone st a = false := by
  obtain ⟨x, hx, _, hg, _⟩ := lies_at h
  simp only [isGone, hx]
  exact hg

theorem St_onto (c : Int) : lies (made StK (newNd ontoN true 0) c) 0 ontoN = some 2 ∧ namesOf (made StK (newNd ontoN true 0) c) 2 = [] ∧ lies StK 0 ontoN = none := by
  refine ⟨?_, ?_, ?_⟩
  · simp [lies, made, StK, liesHere, root, firstNd, newNd, List.findIdx?_cons]
  · simp [namesOf, namesIn, made, StK, addName, root, firstNd, newNd]
  · simp [lies, StK, liesHere, root, firstNd, List.findIdx?_cons]

/-- The second directory is made. -/
theorem over_none {st st' : St} {n : Nat} (g : Grew st st' 2 n) (h : lies st 0 overN = none) : lies st' 0 overN = none := by rw [g.lies (by decide)]; exact h
theorem onto_over (c : Int) : lies (made StK (newNd ontoN true 0) c) 0 overN = none := by
  have : ¬ ontoN = overN := by decide
  have h2 : ¬ ontoN.toList = overN.toList := fun e => this (bytes_same e)
  simp [lies, made, StK, liesHere, root, firstNd, newNd, List.findIdx?_cons, h2]

theorem names_new {st : St} (ok : POk st) (name : ByteArray) (c : Int) : namesOf (made st (newNd name true 0) c) st.nodes.length = [] := by
  rw [names_more]
  have hne : ¬ ((newNd name true 0).inn = (st.nodes.length : Int) ∧ (newNd name true 0).gone = false) := by
    have := ok.pos
    simp [newNd]
    omega
  rw [if_neg hne]
  have h0 : ¬ 0 < (namesOf st st.nodes.length).length := fun h => by
    have := names_ne_nil.2 h
    unfold hasEntry at this
    obtain ⟨x, hx, he⟩ := List.any_eq_true.1 this
    have h1 := ok.inn x hx
    unfold isEntry at he
    simp at he
    have := he.1
    omega
  exact List.length_eq_zero_iff.1 (by omega)
end Go.Proofs.YtdmdgnghaceibaaGreat.P
/- The model through which 'Over' goes: a row of directories, each with its files. (No program.) -/
namespace Go.Proofs.YtdmdgnghaceibaaGreat.P
open M
set_option linter.unusedVariables false

/-- A directory: its name, its node, which of eight names it has. -/
structure Dn where
  nm : ByteArray
  d : Nat
  m : Nat
/-- A row of live directories, each with its files. -/
structure Lain (st : St) (row : List Dn) (R : List Member) : Prop where
  same : R.map Member.d = row.map Dn.d
  live : ∀ x ∈ row, isGone st x.d = false
  filled : ∀ x ∈ row, Filled st x.nm x.d x.m 8

/-- Has one of them this name? -/
def toldBy (row : List Dn) (k : Nat) : Bool := row.any (fun x => bit x.m k)

theorem Lain.tail {st : St} {x : Dn} {row : List Dn} {a : Member} {R : List Member} (h : Lain st (x :: row) (a :: R)) : Lain st row R ∧ a.d = x.d := by
  have e := h.same
  simp only [List.map_cons, List.cons.injEq] at e
  exact ⟨⟨e.2, fun y hy => h.live y (by simp [hy]), fun y hy => h.filled y (by simp [hy])⟩, e.1⟩
theorem Lain.len {st : St} {row : List Dn} {R : List Member} (h : Lain st row R) : R.length = row.length := by
  have := congrArg List.length h.same
  simpa using this
theorem Lain.take {st : St} {row : List Dn} {R : List Member} (h : Lain st row R) (i : Nat) : Lain st (row.take i) (R.take i) :=
  ⟨by rw [List.map_take, List.map_take, h.same], fun x hx => h.live x (List.mem_of_mem_take hx), fun x hx => h.filled x (List.mem_of_mem_take hx)⟩

theorem lain_none {st : St} {k : Nat} (hk : k < 8) : ∀ {row : List Dn} {R : List Member}, Lain st row R → toldBy row k = false → seenIn st (letterB k) R = none
  | [], R, h, _ => by
    have := h.len
    rw [List.length_eq_zero_iff.1 this]
    rfl
  | x :: row, [], h, _ => by have := h.len; simp at this
  | x :: row, a :: R, h, ht => by
    simp only [toldBy, List.any_cons, Bool.or_eq_false_iff] at ht
    obtain ⟨h2, e⟩ := h.tail
    unfold seenIn
    rw [e, h.live x (by simp), (h.filled x (by simp)).none hk (Nat.le_refl _) (.inl ht.1)]
    exact lain_none hk h2 ht.2
theorem lain_some {st : St} {k : Nat} (hk : k < 8) : ∀ {row : List Dn} {R : List Member} {i : Nat} {x : Dn}, Lain st row R → row[i]? = some x → bit x.m k = true → toldBy (row.take i) k = false →
    ∃ c y, seenIn st (letterB k) R = some c ∧ st.nodes[c]? = some y ∧ y.dir = false ∧ y.gone = false ∧ y.data = x.nm ++ letterB k
  | [], R, i, x, h, hi, _, _ => by simp at hi
  | x :: row, [], i, _, h, _, _, _ => by have := h.len; simp at this
  | z :: row, a :: R, 0, x, h, hi, hb, _ => by
    simp at hi
    subst hi
    obtain ⟨h2, e⟩ := h.tail
    obtain ⟨c, y, q1, q2, q3, q4, q5⟩ := (h.filled z (by simp)).there k hk hb
    refine ⟨c, y, ?_, q2, q3, q4, q5⟩
    unfold seenIn
    rw [e, h.live z (by simp), q1]
    rfl
  | z :: row, a :: R, i + 1, x, h, hi, hb, ht => by
    obtain ⟨h2, e⟩ := h.tail
    simp only [List.take_succ_cons, toldBy, List.any_cons, Bool.or_eq_false_iff] at ht
    obtain ⟨c, y, q1, q2⟩ := lain_some hk h2 (i := i) (by simpa using hi) hb ht.2
    refine ⟨c, y, ?_, q2⟩
    unfold seenIn
    rw [e, h.live z (by simp), (h.filled z (by simp)).none hk (Nat.le_refl _) (.inl ht.1)]
    exact q1

theorem lain_seen {st : St} {k : Nat} (hk : k < 8) : ∀ {row : List Dn} {R : List Member}, Lain st row R → toldBy row k = true → (seenIn st (letterB k) R).isSome
  | [], R, h, ht => by simp [toldBy] at ht
  | x :: row, [], h, _ => by have := h.len; simp at this
  | x :: row, a :: R, h, ht => by
    obtain ⟨h2, e⟩ := h.tail
    unfold seenIn
    rw [e, h.live x (by simp)]
    simp only [Bool.false_eq_true, if_false]
    cases hl : lies st x.d (letterB k) with
    | some n => rfl
    | none =>
      simp only
      refine lain_seen hk h2 ?_
      simp only [toldBy, List.any_cons, Bool.or_eq_true] at ht
      rcases ht with ht | ht
      · obtain ⟨c, y, q1, _⟩ := (h.filled x (by simp)).there k hk ht
        rw [hl] at q1
        cases q1
      · exact ht

/-- The names that the i-th adds, the first j of eight. -/
def newsTo (row : List Dn) (i : Nat) (m j : Nat) : List ByteArray := ((List.range j).filter (fun k => bit m k && !toldBy (row.take i) k)).map letterB
theorem newsTo_succ (row : List Dn) (i m j : Nat) : newsTo row i m (j + 1) = newsTo row i m j ++ (if bit m j && !toldBy (row.take i) j then [letterB j] else []) := by
  unfold newsTo
  rw [List.range_succ, List.filter_append, List.map_append]
  congr 1
  cases h : (bit m j && !toldBy (row.take i) j) <;> simp [h]

theorem lain_list {st : St} {row : List Dn} {R : List Member} (h : Lain st row R) {i : Nat} {x : Dn} (hi : row[i]? = some x) : listUpto st R (i + 1) = listUpto st R i ++ newsTo row i x.m 8 := by
  have hlt : i < R.length := by rw [h.len]; exact M.lt_of_getElem? hi
  obtain ⟨a, ha⟩ := getElem?_of_lt hlt
  have e : a.d = x.d := by
    have := congrArg (fun l => l[i]?) h.same
    simp only [List.getElem?_map, ha, hi, Option.map_some, Option.some.injEq] at this
    exact this
  have hx : x ∈ row := List.mem_of_getElem? hi
  show (match R[i]? with | none => _ | some m => _) = _
  rw [ha]
  simp only
  rw [e, h.live x hx]
  simp only [Bool.false_eq_true, if_false]
  congr 1
  rw [(h.filled x hx).names]
  unfold lettersTo newsTo
  rw [List.filter_map, List.filter_filter]
  congr 1
  apply List.filter_congr
  intro k hk
  have hk8 : k < 8 := List.mem_range.1 hk
  have ht := h.take i
  cases hb : bit x.m k with
  | false => simp
  | true =>
    simp only [Function.comp_apply, Bool.and_true, Bool.true_and]
    cases htb : toldBy (row.take i) k with
    | false => rw [lain_none hk8 ht htb]; rfl
    | true =>
      have := lain_seen hk8 ht htb
      rw [Option.isNone_eq_false_iff.2 this]
      rfl

/-! ### The bits that were told -/
/-- The bits of T are those told by the first i, and of the i-th the first j. -/
def BitsTold (row : List Dn) (i m j T : Nat) : Prop := T < 256 ∧ ∀ k, k < 8 → bit T k = (toldBy (row.take i) k || (decide (k < j) && bit m k))
theorem bit_add {T k : Nat} (hT : T < 256) (hk : k < 8) (h : bit T k = false) : T + 2 ^ k < 256 ∧ ∀ j, j < 8 → bit (T + 2 ^ k) j = (bit T j || decide (j = k)) := by
  have : ∀ T : Fin 256, ∀ k : Fin 8, bit T.val k.val = false → T.val + 2 ^ k.val < 256 ∧ ∀ j : Fin 8, bit (T.val + 2 ^ k.val) j.val = (bit T.val j.val || decide (j.val = k.val)) := by decide +kernel
  obtain ⟨h1, h2⟩ := this ⟨T, hT⟩ ⟨k, hk⟩ h
  exact ⟨h1, fun j hj => h2 ⟨j, hj⟩⟩
theorem bits_first (row : List Dn) (m : Nat) : BitsTold row 0 m 0 0 := ⟨by decide, fun k hk => by simp [toldBy, bit]⟩
theorem BitsTold.skip {row : List Dn} {i m j T : Nat} (h : BitsTold row i m j T) (hj : j < 8) (hb : bit m j = false ∨ bit T j = true) : BitsTold row i m (j + 1) T := by
  refine ⟨h.1, fun k hk => ?_⟩
  rw [h.2 k hk]
  by_cases e : k = j
  · subst e
    have hT := h.2 k hk
    rcases hb with hb | hb
    · simp [hb]
    · rw [hb] at hT
      simp at hT
      simp [hT]
  · congr 2
    simp
    omega
theorem BitsTold.put {row : List Dn} {i m j T : Nat} (h : BitsTold row i m j T) (hj : j < 8) (hb : bit m j = true) (hT : bit T j = false) : BitsTold row i m (j + 1) (T + 2 ^ j) := by
  obtain ⟨h1, h2⟩ := bit_add h.1 hj hT
  refine ⟨h1, fun k hk => ?_⟩
  rw [h2 k hk, h.2 k hk]
  by_cases e : k = j
  · subst e
    simp [hb]
  · have : decide (k = j) = false := by simpa using e
    rw [this, Bool.or_false]
    congr 2
    simp
    omega
theorem BitsTold.next {row : List Dn} {i m T : Nat} {x : Dn} (h : BitsTold row i m 8 T) (hi : row[i]? = some x) (hm : x.m = m) (m' : Nat) : BitsTold row (i + 1) m' 0 T := by
  refine ⟨h.1, fun k hk => ?_⟩
  rw [h.2 k hk]
  have : row.take (i + 1) = row.take i ++ [x] := by rw [List.take_add_one, hi]; rfl
  rw [this, toldBy, toldBy, List.any_append]
  simp [hk, hm]
theorem BitsTold.none {row : List Dn} {i m j T k : Nat} (h : BitsTold row i m j T) (hk : k < 8) (hb : bit T k = false) : toldBy (row.take i) k = false := by
  have := h.2 k hk
  rw [hb] at this
  simp at this
  simpa using this.1

theorem list_prefix (st : St) (R : List Member) (i : Nat) : ∀ n, listUpto st R i <+: listUpto st R (i + n)
  | 0 => List.prefix_rfl
  | n + 1 => by
    refine (list_prefix st R i n).trans ?_
    show listUpto st R (i + n) <+: (match R[i + n]? with | none => _ | some m => _)
    split
    · exact List.prefix_rfl
    · split
      · exact List.prefix_rfl
      · exact List.prefix_append _ _
theorem news_prefix (row : List Dn) (i m j : Nat) : ∀ n, newsTo row i m j <+: newsTo row i m (j + n)
  | 0 => List.prefix_rfl
  | n + 1 => by
    refine (news_prefix row i m j n).trans ?_
    rw [← Nat.add_assoc, newsTo_succ]
    exact List.prefix_append _ _
/-- How far the list was told. -/
def toldLen (st : St) (row : List Dn) (R : List Member) (i m j : Nat) : Nat := (listUpto st R i).length + (newsTo row i m j).length
theorem lain_at {st : St} {row : List Dn} {R : List Member} (h : Lain st row R) {i k : Nat} {x : Dn} (hi : row[i]? = some x) (hk : k < 8) (hb : bit x.m k = true) (ht : toldBy (row.take i) k = false) :
    (listUpto st R R.length)[toldLen st row R i x.m k]? = some (letterB k) := by
  have hlt : i < R.length := by rw [h.len]; exact M.lt_of_getElem? hi
  have p1 := list_prefix st R (i + 1) (R.length - (i + 1))
  rw [show i + 1 + (R.length - (i + 1)) = R.length by omega, lain_list h hi] at p1
  have p2 := news_prefix row i x.m (k + 1) (8 - (k + 1))
  rw [show k + 1 + (8 - (k + 1)) = 8 by omega, newsTo_succ, hb, ht] at p2
  simp only [Bool.not_false, Bool.and_self, if_true] at p2
  obtain ⟨u, hu⟩ := p1
  obtain ⟨v, hv⟩ := p2
  rw [← hu, ← hv]
  unfold toldLen
  have e : listUpto st R i ++ (newsTo row i x.m k ++ [letterB k] ++ v) ++ u = (listUpto st R i ++ newsTo row i x.m k) ++ (letterB k :: (v ++ u)) := by simp
  rw [e, ← List.length_append, List.getElem?_append_right (Nat.le_refl _)]
  simp
theorem toldLen_succ (st : St) (row : List Dn) (R : List Member) (i m j : Nat) : toldLen st row R i m (j + 1) = toldLen st row R i m j + (if bit m j && !toldBy (row.take i) j then 1 else 0) := by
  unfold toldLen
  rw [newsTo_succ, List.length_append]
  split <;> simp <;> omega
theorem toldLen_next {st : St} {row : List Dn} {R : List Member} (h : Lain st row R) {i : Nat} {x : Dn} (hi : row[i]? = some x) (m : Nat) : toldLen st row R (i + 1) m 0 = toldLen st row R i x.m 8 := by
  unfold toldLen
  rw [lain_list h hi, List.length_append]
  simp [newsTo]
theorem toldLen_end {st : St} {row : List Dn} {R : List Member} (h : Lain st row R) (m : Nat) : toldLen st row R row.length m 0 = (listUpto st R R.length).length := by
  unfold toldLen
  rw [h.len]
  simp [newsTo]
theorem BitsTold.put_len {st : St} {row : List Dn} {R : List Member} {i m j T : Nat} (h : BitsTold row i m j T) (hj : j < 8) (hb : bit m j = true) (hT : bit T j = false) : toldLen st row R i m (j + 1) = toldLen st row R i m j + 1 := by
  rw [toldLen_succ, hb, h.none hj hT]
  rfl
theorem BitsTold.skip_len {st : St} {row : List Dn} {R : List Member} {i m j T : Nat} (h : BitsTold row i m j T) (hj : j < 8) (hb : bit m j = false ∨ bit T j = true) : toldLen st row R i m (j + 1) = toldLen st row R i m j := by
  rw [toldLen_succ]
  have e : (bit m j && !toldBy (row.take i) j) = false := by
    rcases hb with hb | hb
    · simp [hb]
    · have := h.2 j hj
      rw [hb] at this
      simp at this
      simp [this]
  rw [e]
  rfl
end Go.Proofs.YtdmdgnghaceibaaGreat.P
/- The calls of 'Still', each at its state. -/
namespace Go.Proofs.YtdmdgnghaceibaaGreat.P
open M Go.ChangeShapes Go.WideShapes Go.ChangeAt Go.RowKit
set_option linter.unusedVariables false

/-- A Server whose fids are these; onto is node 2, over node b; onto's row is R. -/
def KS (w : World) (X : Nat → Prop) (s : Nat) (fids : List Fid) (b ma mb : Nat) (R : List Member) : Prop := ∃ st, KSrv w X s st ∧ KOk st ∧ st.fids = fids ∧ Pair st 2 b ma mb ∧ rowOf st 2 = R ∧ rowOf st b = [⟨b, true⟩]
def A5 : Fid := ⟨5, W0 ++ [⟨2, [⟨2, true⟩]⟩], false⟩
def A6 (op : Bool) : Fid := ⟨6, W0 ++ [⟨2, [⟨2, true⟩]⟩], op⟩
def A2 (b : Nat) : Fid := ⟨2, W0 ++ [⟨b, [⟨b, true⟩]⟩], false⟩
abbrev R0 : List Member := [⟨2, true⟩]

theorem KS.below {w w2 : World} {X : Nat → Prop} {s : Nat} {fids : List Fid} {b ma mb : Nat} {R : List Member} (h : KS w X s fids b ma mb R) (hb : Below w.heap.size w w2) : KS w2 X s fids b ma mb R := by
  obtain ⟨st, h, r⟩ := h
  exact ⟨st, h.below hb, r⟩
theorem KS.more {w : World} {X Y : Nat → Prop} {s : Nat} {fids : List Fid} {b ma mb : Nat} {R : List Member} (h : KS w X s fids b ma mb R) (hX : ∀ k, X k → Y k) : KS w Y s fids b ma mb R := by
  obtain ⟨st, h, r⟩ := h
  exact ⟨st, h.more hX, r⟩

section
variable {w : World} {X : Nat → Prop} {s : Nat} {b ma mb : Nat} {R : List Member}

theorem row_same {st st' : St} (h : st'.laid = st.laid) (d : Nat) : rowOf st' d = rowOf st d := by unfold rowOf; rw [h]
theorem find_fids {st : St} {fids : List Fid} (h : st.fids = fids) (n : Int) : M.find st n = fids.findIdx? (fun f => f.n == n) := by unfold M.find; rw [h]
theorem zero_fids {st : St} {rest : List Fid} (h : st.fids = f0 :: rest) (h1 : (f0 :: rest).findIdx? (fun f => f.n == 1) = none) : Zero st := ⟨⟨rest, h⟩, by rw [find_fids h]; exact h1⟩

/-- What a step that turns no node and no row keeps. -/
theorem KS.step {w' : World} {st st' : St} {fids : List Fid} (h : KSrv w' X s st') (k : KOk st') (hf : st'.fids = fids) (p : Pair st 2 b ma mb) (hr : rowOf st 2 = R) (hb : rowOf st b = [⟨b, true⟩]) (hn : st'.nodes = st.nodes) (hl : st'.laid = st.laid) : KS w' X s fids b ma mb R :=
  ⟨st', h, k, hf, p.same hn, by rw [row_same hl]; exact hr, by rw [row_same hl]; exact hb⟩

theorem onto_step {st : St} (T : Treed st) (p : Pair st 2 b ma mb) (hr : rowOf st 2 = R) : wayStep st W0 ontoN = (0, W0 ++ [⟨2, R⟩]) := by
  obtain ⟨hrg, hrd⟩ := root_live T
  rw [wayStep_in (sp := ⟨0, [⟨0, true⟩]⟩) (c := 2) isName_onto W0_last hrg hrd ((seen_one 0 ontoN hrg).trans p.da)]
  unfold come
  rw [p.dira, hr]
  rfl
theorem over_step {st : St} (T : Treed st) (p : Pair st 2 b ma mb) (hb : rowOf st b = [⟨b, true⟩]) : wayStep st W0 overN = (0, W0 ++ [⟨b, [⟨b, true⟩]⟩]) := by
  obtain ⟨hrg, hrd⟩ := root_live T
  rw [wayStep_in (sp := ⟨0, [⟨0, true⟩]⟩) (c := b) isName_over W0_last hrg hrd ((seen_one 0 overN hrg).trans p.db)]
  unfold come
  rw [p.dirb, hb]
  rfl

theorem ks_w5 (h : KS w X s [f0] b ma mb R0) : Calls Tryz.prog 14 #[.pointer (some ⟨s, 0, none⟩), .int .i64 0, .int .i64 5, .slice (some ⟨w.heap.size, 0, none⟩) 1 1] (w.alloc (.cells #[.string ⟨#[111, 110, 116, 111]⟩] 9)) fun e w' => e = .returned (.tuple #[.int .i64 1, .int .i64 0]) ∧ KS w' X s [f0, A5] b ma mb R0 ∧ Ext X w w' := by
  obtain ⟨st, h, k, hf, p, hr, hb⟩ := h
  have z := zero_fids hf rfl
  have e : mWalk st 0 5 [ontoN] = (withFid (tick st) A5, 1, 0) := by
    rw [mWalk_new z.find z.get rfl rfl (by decide) (by decide) (by rw [find_fids hf]; rfl) (by simp) (by simp [nameBad_no isName_onto]), show f0.way = W0 from rfl, go1 (onto_step k.tree p hr)]
    rfl
  have k2 := k.walk 0 5 [ontoN]
  have hc := k_walk1 0 5 ontoN 1 h k.ok (by decide)
  rw [e] at hc k2
  refine hc.mono ?_
  rintro e w' ⟨rfl, h', hx⟩
  exact ⟨rfl, KS.step h' k2 (by simp only [withFid, tick, hf]; rfl) p hr hb rfl rfl, hx⟩
theorem ks_w6 (h : KS w X s [f0, A5] b ma mb R0) : Calls Tryz.prog 14 #[.pointer (some ⟨s, 0, none⟩), .int .i64 5, .int .i64 6, .slice (some ⟨w.heap.size, 0, none⟩) 1 1] (w.alloc (.cells #[.string ⟨#[46]⟩] 9)) fun e w' => e = .returned (.tuple #[.int .i64 1, .int .i64 0]) ∧ KS w' X s [f0, A5, A6 false] b ma mb R0 ∧ Ext X w w' := by
  obtain ⟨st, h, k, hf, p, hr, hb⟩ := h
  have e : mWalk st 5 6 [⟨#[46]⟩] = (withFid (tick st) (A6 false), 1, 0) := by
    rw [mWalk_new (n := 5) (i := 1) (f := A5) (by rw [find_fids hf]; rfl) (by rw [hf]; rfl) rfl rfl (by decide) (by decide) (by rw [find_fids hf]; rfl) (by simp) (by decide +kernel), go1 (wayStep_dot st A5.way)]
    rfl
  have k2 := k.walk 5 6 [⟨#[46]⟩]
  have hc := k_walk1 5 6 ⟨#[46]⟩ 1 h k.ok (by decide)
  rw [e] at hc k2
  refine hc.mono ?_
  rintro e w' ⟨rfl, h', hx⟩
  exact ⟨rfl, KS.step h' k2 (by simp only [withFid, tick, hf]; rfl) p hr hb rfl rfl, hx⟩
theorem ks_o6 (h : KS w X s [f0, A5, A6 false] b ma mb R0) : Calls Tryz.prog 15 #[.pointer (some ⟨s, 0, none⟩), .int .i64 6] w fun e w' => e = .returned (.int .i64 0) ∧ KS w' X s [f0, A5, A6 true] b ma mb R0 ∧ Ext X w w' := by
  obtain ⟨st, h, k, hf, p, hr, hb⟩ := h
  have e : mOpen st 6 = (setOpen (tick st) 2 (A6 false), 0) := by
    unfold mOpen
    rw [find_fids hf, show [f0, A5, A6 false].findIdx? (fun f => f.n == 6) = some 2 from rfl]
    simp only
    rw [hf]
    simp only [List.getElem?_cons_succ, List.getElem?_cons_zero]
    rw [if_neg (by simp [A6]), show nodeOf (A6 false) = 2 from rfl, lies_live2 p.da]
    simp
  have k2 := k.open 6
  have hc := k_open 6 h k.ok
  rw [e] at hc k2
  refine hc.mono ?_
  rintro e w' ⟨rfl, h', hx⟩
  exact ⟨rfl, KS.step h' k2 (by simp only [setOpen, tick, hf]; rfl) p hr hb rfl rfl, hx⟩

/-- Fid 6 is listed: what it saw when it came. -/
def KSL (w : World) (X : Nat → Prop) (s : Nat) (fids : List Fid) (b ma mb : Nat) (R : List Member) (l : List ByteArray) (e : Ending) (w' : World) : Prop :=
  ∃ ao c, e = .returned (.tuple #[.slice ao l.length c, .int .i64 0]) ∧ TextsAt w' (.slice ao l.length c) l ∧ (∀ k, (Value.slice ao l.length c).ownBlock = some k → w.heap.size ≤ k ∧ k < w'.heap.size) ∧ KS w' (fun k => X k ∧ (Value.slice ao l.length c).ownBlock ≠ some k) s fids b ma mb R ∧ Ext X w w'
theorem ks_l6 {rest : List Fid} (h : KS w X s (f0 :: A5 :: A6 true :: rest) b ma mb R) : Calls Tryz.prog 19 #[.pointer (some ⟨s, 0, none⟩), .int .i64 6] w fun e w' => KSL w X s (f0 :: A5 :: A6 true :: rest) b ma mb R (lettersTo ma 8) e w' := by
  obtain ⟨st, h, k, hf, p, hr, hb⟩ := h
  have hlv := lies_live2 p.da
  have e : mList st 6 = (tick st, lettersTo ma 8, 0) := by
    rw [mList_at (i := 2) (f := A6 true) (sp := ⟨2, [⟨2, true⟩]⟩) (by rw [find_fids hf]; rfl) (by rw [hf]; rfl) rfl (last_snoc _ _) hlv p.dira]
    rw [show listUpto st (Spot.row ⟨2, [⟨2, true⟩]⟩) (Spot.row ⟨2, [⟨2, true⟩]⟩).length = namesOf st 2 from list_one hlv, p.fa.names]
  have hc := k_list 6 h k
  rw [e] at hc
  refine hc.mono ?_
  rintro e w' ⟨ao, c, rfl, h1, h2, h', hx⟩
  exact ⟨ao, c, rfl, h1, h2, KS.step h' k.tick hf p hr hb rfl rfl, hx⟩
theorem ks_w2 (h : KS w X s [f0, A5, A6 true] b ma mb R0) : Calls Tryz.prog 14 #[.pointer (some ⟨s, 0, none⟩), .int .i64 0, .int .i64 2, .slice (some ⟨w.heap.size, 0, none⟩) 1 1] (w.alloc (.cells #[.string ⟨#[111, 118, 101, 114]⟩] 9)) fun e w' => e = .returned (.tuple #[.int .i64 1, .int .i64 0]) ∧ KS w' X s [f0, A5, A6 true, A2 b] b ma mb R0 ∧ Ext X w w' := by
  obtain ⟨st, h, k, hf, p, hr, hb⟩ := h
  have z := zero_fids hf rfl
  have e : mWalk st 0 2 [overN] = (withFid (tick st) (A2 b), 1, 0) := by
    rw [mWalk_new z.find z.get rfl rfl (by decide) (by decide) (by rw [find_fids hf]; rfl) (by simp) (by simp [nameBad_no isName_over]), show f0.way = W0 from rfl, go1 (over_step k.tree p hb)]
    rfl
  have k2 := k.walk 0 2 [overN]
  have hc := k_walk1 0 2 overN 1 h k.ok (by decide)
  rw [e] at hc k2
  refine hc.mono ?_
  rintro e w' ⟨rfl, h', hx⟩
  exact ⟨rfl, KS.step h' k2 (by simp only [withFid, tick, hf]; rfl) p hr hb rfl rfl, hx⟩

/-- The row that the Bind makes. -/
def stillRow (b : Nat) (q : Nat) : List Member := if q = 0 then [⟨b, false⟩] else if q = 1 then [⟨b, false⟩, ⟨2, true⟩] else [⟨2, true⟩, ⟨b, false⟩]
theorem ks_bind (h : KS w X s [f0, A5, A6 true, A2 b] b ma mb R0) (hb2 : b ≠ 2) (q : Nat) (hq : q < 3) : Calls Tryz.prog 23 #[.pointer (some ⟨s, 0, none⟩), .int .i64 2, .int .i64 5, .int .i64 q] w fun e w' => e = .returned (.int .i64 0) ∧ KS w' X s [f0, A5, A6 true, A2 b] b ma mb (stillRow b q) ∧ Ext X w w' := by
  obtain ⟨st, h, k, hf, p, hr, hb⟩ := h
  have n2 : nodeAt st 2 = b := by simp [nodeAt, fidAt, hf, f0, A5, A6, A2, nodeOf]
  have n5 : nodeAt st 5 = 2 := by simp [nodeAt, fidAt, hf, f0, A5, nodeOf]
  have hE : dirsE st [2, 5] = 0 := by
    unfold dirsE nodesAt
    simp only [List.any_cons, List.any_nil, List.map_cons, List.map_nil, n2, n5, Bool.or_false, lies_live2 p.da, lies_live2 p.db, p.dira, p.dirb]
    rw [find_fids hf, find_fids hf]
    rfl
  have hrow : M.boundRow st b 2 (q : Int) = stillRow b q := by
    unfold M.boundRow stillRow
    rw [hr]
    have : q = 0 ∨ q = 1 ∨ q = 2 := by omega
    rcases this with rfl | rfl | rfl <;> simp
  have hlen : (stillRow b q).length ≤ 2 := by unfold stillRow; split <;> (try split) <;> simp
  have e : mBind st 2 5 (q : Int) = (mLay (tick st) 2 (stillRow b q), 0) := by
    rw [mBind_eq, if_neg (by rw [hE]; simp), n2, n5, hrow, if_pos (by unfold howOk; exact decide_eq_true (by omega)), if_neg (by omega)]
  have k2 := k.bind 2 5 (q : Int)
  have hc := k_bind 2 5 (q : Int) (by omega) h k.ok
  rw [e] at hc k2
  refine hc.mono ?_
  rintro e w' ⟨rfl, h', hx⟩
  refine ⟨rfl, ⟨_, h', k2, hf, p.same rfl, ?_, ?_⟩, hx⟩
  · unfold rowOf
    rw [find_lay, if_pos rfl, if_pos (by unfold stillRow; split <;> (try split) <;> simp)]
  · have := hb
    unfold rowOf at this ⊢
    rw [find_lay, if_neg hb2]
    exact this
end
end Go.Proofs.YtdmdgnghaceibaaGreat.P
/- 'Still': what its loop calls, 'listed', 'ones'. -/
namespace Go.Proofs.YtdmdgnghaceibaaGreat.P
open M Go.ChangeShapes Go.WideShapes Go.ChangeAt Go.RowKit
set_option linter.unusedVariables false

theorem list_any1 {st : St} {d : Nat} (f : Bool) (hg : isGone st d = false) : listUpto st [⟨d, f⟩] 1 = namesOf st d := by
  have : (namesOf st d).filter (fun s => (seenIn st s []).isNone) = namesOf st d := List.filter_eq_self.2 (fun _ _ => rfl)
  simp [listUpto, hg, this]
theorem textAt_9 {d : ByteArray} (h : d.size ≤ 9) : textAt d 0 9 = d := by
  unfold textAt
  by_cases h0 : 0 < d.size
  · rw [if_pos h0, show min (0 + 9) d.size = d.size by omega, ByteArray.extract_zero_size]
  · rw [if_neg h0]
    apply ByteArray.ext
    have : d.data.size = 0 := by have : d.size = d.data.size := rfl; omega
    exact (Array.eq_empty_of_size_eq_zero this).symm

def F4 (b : Nat) : List Fid := [f0, A5, A6 true, A2 b]
/-- Fid 7 stands at a file of these bytes. -/
def KF (w : World) (X : Nat → Prop) (s : Nat) (b ma mb : Nat) (R : List Member) (t : ByteArray) (op : Bool) : Prop :=
  ∃ st way sp x, KSrv w X s (withFid st ⟨7, way, op⟩) ∧ KOk (withFid st ⟨7, way, op⟩) ∧ st.fids = F4 b ∧ Pair st 2 b ma mb ∧ rowOf st 2 = R ∧ rowOf st b = [⟨b, true⟩] ∧ way.getLast? = some sp ∧ st.nodes[sp.n]? = some x ∧ x.gone = false ∧ x.dir = false ∧ x.data = t

theorem KF.more {w : World} {X Y : Nat → Prop} {s : Nat} {b ma mb : Nat} {R : List Member} {t : ByteArray} {op : Bool} (h : KF w X s b ma mb R t op) (hX : ∀ k, X k → Y k) : KF w Y s b ma mb R t op := by
  obtain ⟨st, way, sp, x, h, r⟩ := h
  exact ⟨st, way, sp, x, h.more hX, r⟩

section
variable {w : World} {X : Nat → Prop} {s : Nat} {b ma mb : Nat} {R : List Member}

theorem k_walk3 {st : St} (n t : Int) (a b d : ByteArray) (c : Nat) (h : KSrv w X s st) (ok : POk st) (ha : a.size ≤ maxLen) (hb : b.size ≤ maxLen) (hd : d.size ≤ maxLen) :
    Calls Tryz.prog 14 #[.pointer (some ⟨s, 0, none⟩), .int .i64 n, .int .i64 t, .slice (some ⟨w.heap.size, 0, none⟩) 3 c] (w.alloc (.cells #[.string a, .string b, .string d] 9)) fun e w' => e = .returned (.tuple #[.int .i64 (mWalk st n t [a, b, d]).2.1, .int .i64 (mWalk st n t [a, b, d]).2.2]) ∧ KSrv w' X s (mWalk st n t [a, b, d]).1 ∧ Ext X w w' :=
  k_walk_lit n t [a, b, d] c h ok (by simp [maxLen]) (by simpa using ⟨ha, hb, hd⟩)

theorem kf_walk (h : KS w X s (F4 b) b ma mb R) (k : Nat) (hk : k < 8) (hb : bit ma k = true) : Calls Tryz.prog 14 #[.pointer (some ⟨s, 0, none⟩), .int .i64 5, .int .i64 7, .slice (some ⟨w.heap.size, 0, none⟩) 3 3] (w.alloc (.cells #[.string (letterB k), .string ⟨#[46, 46]⟩, .string (letterB k)] 9)) fun e w' => e = .returned (.tuple #[.int .i64 3, .int .i64 0]) ∧ KF w' X s b ma mb R (ontoN ++ letterB k) false ∧ Ext X w w' := by
  obtain ⟨st, h, kk, hf, p, hr, hrb⟩ := h
  obtain ⟨c, x, h1, h2, h3, h4, h5⟩ := p.fa.there k hk hb
  have hL := isName_letter hk
  have hlv := lies_live2 p.da
  have hs1 : wayStep st A5.way (letterB k) = (0, A5.way ++ [come st c]) := wayStep_in (sp := ⟨2, [⟨2, true⟩]⟩) (c := c) hL (last_snoc _ _) hlv p.dira ((seen_one 2 (letterB k) hlv).trans h1)
  have hs2 : wayStep st (A5.way ++ [come st c]) ⟨#[46, 46]⟩ = (0, A5.way) := wayStep_back (by decide)
  have e : mWalk st 5 7 [letterB k, ⟨#[46, 46]⟩, letterB k] = (withFid (tick st) ⟨7, A5.way ++ [come st c], false⟩, 3, 0) := by
    rw [mWalk_new (n := 5) (i := 1) (f := A5) (by rw [find_fids hf]; rfl) (by rw [hf]; rfl) rfl rfl (by decide) (by decide) (by rw [find_fids hf]; rfl) (by simp) (by simp only [List.any_cons, List.any_nil, nameBad_no hL]; decide +kernel), go3 hs1 hs2 hs1]
    rfl
  have k2 := kk.walk 5 7 [letterB k, ⟨#[46, 46]⟩, letterB k]
  have hsz : (letterB k).size ≤ maxLen := by have := isName_size hL; unfold maxLen; omega
  have hc := k_walk3 5 7 (letterB k) ⟨#[46, 46]⟩ (letterB k) 3 h kk.ok hsz (by decide) hsz
  rw [e] at hc k2
  refine hc.mono ?_
  rintro e w' ⟨rfl, h', hx⟩
  exact ⟨rfl, ⟨tick st, _, come st c, x, h', k2, hf, p.same rfl, hr, hrb, last_snoc _ _, h2, h4, h3, h5⟩, hx⟩

theorem f4_7 {st : St} (hf : st.fids = F4 b) : M.find st 7 = none := by rw [find_fids hf]; rfl

theorem kf_open {t : ByteArray} (h : KF w X s b ma mb R t false) : Calls Tryz.prog 15 #[.pointer (some ⟨s, 0, none⟩), .int .i64 7] w fun e w' => e = .returned (.int .i64 0) ∧ KF w' X s b ma mb R t true ∧ Ext X w w' := by
  obtain ⟨st, way, sp, x, h, k, hf, p, hr, hrb, hsp, hx, hg, hd, ht⟩ := h
  have e := mOpen_with (st := st) (n := 7) (f4_7 hf) hsp (by simp only [isGone, hx]; exact hg)
  have k2 := k.open 7
  have hc := k_open 7 h k.ok
  rw [e] at hc k2
  refine hc.mono ?_
  rintro e w' ⟨rfl, h', hx'⟩
  exact ⟨rfl, ⟨tick st, way, sp, x, h', k2, hf, p.same rfl, hr, hrb, hsp, hx, hg, hd, ht⟩, hx'⟩
/-- What Read hands out. -/
def KFR (w : World) (X : Nat → Prop) (s b ma mb : Nat) (R : List Member) (t : ByteArray) (e : Ending) (w' : World) : Prop :=
  ∃ ao n c, e = .returned (.tuple #[.slice ao n c, .int .i64 0]) ∧ BytesAt w' (.slice ao n c) t ∧ (∀ k, (Value.slice ao n c).ownBlock = some k → w.heap.size ≤ k ∧ k < w'.heap.size) ∧ KF w' (fun k => X k ∧ (Value.slice ao n c).ownBlock ≠ some k) s b ma mb R t true ∧ Ext X w w'
theorem kf_read {t : ByteArray} (hts : t.size ≤ 9) (h : KF w X s b ma mb R t true) : Calls Tryz.prog 17 #[.pointer (some ⟨s, 0, none⟩), .int .i64 7, .int .i64 0, .int .i64 9] w fun e w' => KFR w X s b ma mb R t e w' := by
  obtain ⟨st, way, sp, x, h, k, hf, p, hr, hrb, hsp, hx, hg, hd, ht⟩ := h
  have e := mRead_with (st := st) (n := 7) (a := 0) (q := 9) (way := way) (c := sp.n) (x := x) (f4_7 hf) (by simp [nodeOf, hsp]) hx hg hd (by omega) (by omega)
  rw [show (0 : Int).toNat = 0 from rfl, show (9 : Int).toNat = 9 from rfl, textAt_9 (by rw [ht]; exact hts), ht] at e
  have k2 : KOk (mRead (withFid st ⟨7, way, true⟩) 7 0 9).1 := by rw [mRead_tick]; exact k.tick
  have hc := k_read 7 0 9 h k
  rw [e] at hc k2
  refine hc.mono ?_
  rintro e w' ⟨ao, n, c, rfl, h1, h2, h', hx'⟩
  exact ⟨ao, n, c, rfl, h1, h2, ⟨tick st, way, sp, x, h', k2, hf, p.same rfl, hr, hrb, hsp, hx, hg, hd, ht⟩, hx'⟩
theorem kf_clunk {t : ByteArray} (h : KF w X s b ma mb R t true) : Calls Tryz.prog 22 #[.pointer (some ⟨s, 0, none⟩), .int .i64 7] w fun e w' => e = .returned (.int .i64 0) ∧ KS w' X s (F4 b) b ma mb R ∧ Ext X w w' := by
  obtain ⟨st, way, sp, x, h, k, hf, p, hr, hrb, hsp, hx, hg, hd, ht⟩ := h
  have e := mClunk_with (st := st) (f := ⟨7, way, true⟩) (f4_7 hf)
  have k2 := k.clunk 7
  have hc := k_clunk 7 h k.ok
  rw [show mClunk _ 7 = _ from e] at hc k2
  refine hc.mono ?_
  rintro e w' ⟨rfl, h', hx'⟩
  exact ⟨rfl, ⟨tick st, h', k2, hf, p.same rfl, hr, hrb⟩, hx'⟩

/-- How 'listed' of it ends. -/
def KSN (w : World) (X : Nat → Prop) (mb q : Nat) (e : Ending) (w' : World) : Prop := ∃ ao n c, e = .returned (.tuple #[.slice ao n c, .bool true]) ∧ (q = 0 → n = (lettersTo mb 8).length) ∧ Ext X w w'
theorem ks_listed (q : Nat) (h : KS w X s (F4 b) b ma mb (stillRow b q)) : Calls Tryz.prog 37 #[.pointer (some ⟨s, 0, none⟩), .string ⟨#[111, 110, 116, 111]⟩] w fun e w' => KSN w X mb q e w' := by
  obtain ⟨st, h, k, hf, p, hr, hrb⟩ := h
  refine (klisted_any ontoN ⟨2, stillRow b q⟩ h k (zero_fids hf rfl) isName_onto (onto_step k.tree p hr) (lies_live2 p.da) p.dira).mono ?_
  rintro e w' ⟨ao, c, rfl, _, _, _, hx⟩
  refine ⟨ao, _, c, rfl, fun h0 => ?_, hx⟩
  subst h0
  rw [show listUpto st (Spot.row ⟨2, stillRow b 0⟩) (Spot.row ⟨2, stillRow b 0⟩).length = namesOf st b from list_any1 false (lies_live2 p.db), p.fb.names]
end

theorem letters_few (m j : Nat) : (lettersTo m j).length ≤ j := by
  unfold lettersTo
  rw [List.length_map]
  have := List.length_filter_le (bit m) (List.range j)
  simpa using this
theorem letters_len (m j : Nat) : (lettersTo m (j + 1)).length = (lettersTo m j).length + (if bit m j then 1 else 0) := by
  rw [lettersTo_succ, List.length_append]
  cases bit m j <;> rfl

set_option maxRecDepth 20000 in
set_option maxHeartbeats 1000000 in
theorem kones_any (c : Int) (w : World) (hc : -9223372036854775808 ≤ c ∧ c ≤ 9223372036854775807) :
    Calls Tryz.prog 41 #[.int .i64 c] w fun e w' => e = .returned (.int .i64 (lettersTo (mPick c 256) 8).length) ∧ w' = w := by
  have HP := hide (fun w1 => kpick_any c 256 w1 hc (by omega))
  obtain ⟨m, hm⟩ : ∃ m, mPick c 256 = m := ⟨_, rfl⟩
  rw [hm] at HP ⊢
  clear hm hc
  go_enter Tryz.func41, Tryz.ntmps41
  go_wp2
  go_loopw [3, 4] (fun n i wr => ∃ (j : Nat), j ≤ 8 ∧ n = .int .i64 (lettersTo m j).length ∧ i = .int .i64 j ∧ wr = w) (fun _ i _ => 8 - (intOf i).toNat)
  case atStart => exact ⟨0, by omega, rfl, rfl, rfl⟩
  case round =>
    obtain ⟨j, hj, rfl, rfl, rfl⟩ := hrel
    by_cases hlt : j < 8
    · have hlt' : (j : Int) < 8 := by omega
      have j0 : ¬ (j : Int) < 0 := by omega
      have hsh := bit_shift m j
      have hfew := letters_few m j
      have hlen := hide (letters_len m j)
      obtain ⟨v, hv⟩ : ∃ v, (lettersTo m j).length = v := ⟨_, rfl⟩
      rw [hv] at hfew hlen
      rw [hv]
      obtain ⟨u, hu⟩ : ∃ u : Nat, (if bit m j then 1 else 0) = u := ⟨_, rfl⟩
      have hu1 : u ≤ 1 := by rw [← hu]; split <;> omega
      rw [hu] at hlen
      have hsh' : ((m : Int) / 2 ^ j).tmod 2 = (u : Int) := by rw [hsh, ← hu]; split <;> rfl
      clear hsh hv hu
      go_wp2_with fail
      refine (HP.out wr).mono ?_
      rintro e w' ⟨rfl, hw⟩
      obtain rfl := hw.symm
      go_wp2_with fail
      exact ⟨⟨j + 1, by omega, by rw [hlen.out]; go_num, by go_num, by trivial⟩, by simp [intOf]; omega⟩
    · go_wp2
      go_ret
      obtain rfl : j = 8 := by omega
      exact ⟨rfl, rfl⟩
end Go.Proofs.YtdmdgnghaceibaaGreat.P
/- 'Still' walked. -/
namespace Go.Proofs.YtdmdgnghaceibaaGreat.P
open M Go.ChangeShapes Go.WideShapes Go.ChangeAt Go.RowKit
set_option linter.unusedVariables false

/-- A Server with one directory, and how many nodes. -/
def KD (w : World) (X : Nat → Prop) (s : Nat) (st : St) : Prop := KSrv w X s st ∧ KOk st

section
variable {w : World} {X : Nat → Prop} {s : Nat}

/-- The Server has 'onto', empty. -/
def KO1 (w : World) (X : Nat → Prop) (s : Nat) : Prop := ∃ c, KSrv w X s (made StK (newNd ontoN true 0) c) ∧ KOk (made StK (newNd ontoN true 0) c)
def KO2 (w : World) (X : Nat → Prop) (s : Nat) (ma : Nat) : Prop := ∃ c st, KSrv w X s st ∧ KOk st ∧ Grew (made StK (newNd ontoN true 0) c) st 2 8 ∧ Filled st ontoN 2 ma 8
def KO3 (w : World) (X : Nat → Prop) (s : Nat) (b ma : Nat) : Prop := ∃ c d st, KSrv w X s (made st (newNd overN true 0) d) ∧ KOk (made st (newNd overN true 0) d) ∧ KOk st ∧ Grew (made StK (newNd ontoN true 0) c) st 2 8 ∧ Filled st ontoN 2 ma 8 ∧ b = st.nodes.length
def KE1 (P : World → Prop) (w : World) (X : Nat → Prop) (e : Ending) (w' : World) : Prop := e = .returned (.bool true) ∧ P w' ∧ Ext X w w'

theorem onto_at (c : Int) : DirAt (made StK (newNd ontoN true 0) c) ontoN 2 := ⟨isName_onto, (St_onto c).1, rfl, rfl⟩
theorem zero_K : Zero StK := ⟨⟨[], rfl⟩, rfl⟩

theorem ks_d1 (h : KSrv w X s StK) (k : KOk StK) : Calls Tryz.prog 35 #[.pointer (some ⟨s, 0, none⟩), .string ⟨#[111, 110, 116, 111]⟩] w fun e w' => KE1 (fun w' => KO1 w' X s) w X e w' := by
  refine (kdir_any ontoN h k zero_K isName_onto (St_onto 0).2.2 (by decide) (by decide)).mono ?_
  rintro e w' ⟨rfl, c', h', k', hx⟩
  exact ⟨rfl, ⟨c', h', k'⟩, hx⟩
theorem ks_f1 (own : Int) (hc : -9223372036854775808 ≤ own ∧ own ≤ 9223372036854775807) (h : KO1 w X s) : Calls Tryz.prog 39 #[.pointer (some ⟨s, 0, none⟩), .string ⟨#[111, 110, 116, 111]⟩, .int .i64 own] w fun e w' => KE1 (fun w' => KO2 w' X s (mPick own 256)) w X e w' := by
  obtain ⟨c, h, k⟩ := h
  refine (kfill_any ontoN 2 own hc h k (zero_K.same rfl) (onto_at c) (by decide) (St_onto c).2.1 (by simp [made, StK, liveNodes, root, firstNd, newNd]) (by simp [made, StK])).mono ?_
  rintro e w' ⟨rfl, st', h', k', g, f, hx⟩
  exact ⟨rfl, ⟨c, st', h', k', g, f⟩, hx⟩
theorem live_onto (c : Int) : liveNodes (made StK (newNd ontoN true 0) c).nodes ≤ 2 ∧ (made StK (newNd ontoN true 0) c).nodes.length = 3 := by
  simp [made, StK, liveNodes, root, firstNd, newNd]
theorem ks_d2 (ma : Nat) (h : KO2 w X s ma) : Calls Tryz.prog 35 #[.pointer (some ⟨s, 0, none⟩), .string ⟨#[111, 118, 101, 114]⟩] w fun e w' => KE1 (fun w' => ∃ b, KO3 w' X s b ma) w X e w' := by
  obtain ⟨c, st, h, k, g, f⟩ := h
  have hl := live_onto c
  refine (kdir_any overN h k ((zero_K.same (st' := made StK (newNd ontoN true 0) c) rfl).same g.fids) isName_over (over_none g (onto_over c)) (by have := g.live; omega) (by have := g.len; omega)).mono ?_
  rintro e w' ⟨rfl, c', h', k', hx⟩
  exact ⟨rfl, ⟨_, c, c', st, h', k', k, g, f, rfl⟩, hx⟩
theorem over_lies {st : St} (d : Int) (h : lies st 0 overN = none) : lies (made st (newNd overN true 0) d) 0 overN = some st.nodes.length := by
  rw [lies_more, h]
  simp [liesHere, newNd]
theorem over_dir {st : St} (d : Int) : isDir (made st (newNd overN true 0) d) st.nodes.length = true := by
  unfold isDir made
  simp [newNd]
theorem row_over {st : St} (ok : POk st) (d : Int) (x : Nd) : rowOf (made st x d) st.nodes.length = [⟨st.nodes.length, true⟩] := by
  unfold rowOf
  have : (made st x d).laid.find? (fun l => l.onto == st.nodes.length) = none := by
    rw [List.find?_eq_none]
    intro l hl
    have := (ok.laid l hl).2.2
    simp
    omega
  rw [this]
theorem ks_f2 (b ma : Nat) (other : Int) (hc : -9223372036854775808 ≤ other ∧ other ≤ 9223372036854775807) (h : KO3 w X s b ma) : Calls Tryz.prog 39 #[.pointer (some ⟨s, 0, none⟩), .string ⟨#[111, 118, 101, 114]⟩, .int .i64 other] w fun e w' => KE1 (fun w' => KS w' X s [f0] b ma (mPick other 256) R0) w X e w' := by
  obtain ⟨c, d, st, h, k, k0, g, f, rfl⟩ := h
  have hl := live_onto c
  have hlen : 3 ≤ st.nodes.length := by have := g.len.2; omega
  have hno := over_none g (onto_over c)
  have hz : Zero (made st (newNd overN true 0) d) := (((zero_K.same (st' := made StK (newNd ontoN true 0) c) rfl).same g.fids).same (st' := made st (newNd overN true 0) d) rfl)
  have hd : DirAt (made st (newNd overN true 0) d) overN st.nodes.length := ⟨isName_over, over_lies d hno, over_dir d, row_over k0.ok d _⟩
  refine (kfill_any overN st.nodes.length other hc h k hz hd (by omega) (names_new k0.ok overN d) (by rw [show (made st (newNd overN true 0) d).nodes = st.nodes ++ [newNd overN true 0] from rfl, live_more _ _ rfl]; have := g.live; omega) (by rw [show (made st (newNd overN true 0) d).nodes = st.nodes ++ [newNd overN true 0] from rfl, List.length_append]; simp only [List.length_cons, List.length_nil]; have := g.len; omega)).mono ?_
  rintro e w' ⟨rfl, st', h', k', g', f', hx⟩
  have h2n : (2 : Nat) ≠ st.nodes.length := by omega
  have hb0 : (0 : Nat) ≠ st.nodes.length := by omega
  have fm : Filled (made st (newNd overN true 0) d) ontoN 2 ma 8 := by
    refine ⟨?_, fun k hk hb => ?_⟩
    · rw [names_more, if_neg (by simp [newNd]), f.names]
    · obtain ⟨cc, x, h1, h2, h3⟩ := f.there k hk hb
      refine ⟨cc, x, by rw [lies_more, h1]; rfl, ?_, h3⟩
      simp only [made]
      rw [List.getElem?_append_left (M.lt_of_getElem? h2)]
      exact h2
  have d0 := (onto_at c).grew g (by decide)
  have da : lies (made st (newNd overN true 0) d) 0 ontoN = some 2 := by rw [lies_more, d0.lies]; rfl
  have dd : isDir (made st (newNd overN true 0) d) 2 = true := by
    obtain ⟨x, hx, hxd⟩ := dir_node d0.dir
    unfold isDir made
    simp only
    rw [List.getElem?_append_left (M.lt_of_getElem? hx), hx]
    exact hxd
  have hlaid : st'.laid = [] := by rw [g'.laid]; show st.laid = []; rw [g.laid]; rfl
  exact ⟨rfl, ⟨st', h', k', by rw [g'.fids]; show st.fids = _; rw [g.fids]; rfl, ⟨by rw [g'.lies hb0]; exact da, (hd.grew g' (by omega)).lies, g'.isDir dd, (hd.grew g' (by omega)).dir, fm.grew g' h2n, f'⟩, by unfold rowOf; rw [hlaid]; rfl, by unfold rowOf; rw [hlaid]; rfl⟩, hx⟩
theorem KO3.ne {b ma : Nat} (h : KO3 w X s b ma) : b ≠ 2 := by
  obtain ⟨c, d, st, h, k, k0, g, f, rfl⟩ := h
  have := live_onto c
  have := g.len.2
  omega
end
end Go.Proofs.YtdmdgnghaceibaaGreat.P
/- 'Still' walked. -/
namespace Go.Proofs.YtdmdgnghaceibaaGreat.P
open M Go.ChangeShapes Go.WideShapes Go.ChangeAt Go.RowKit
set_option linter.unusedVariables false

/-- Texts of a slice of one's own, as a list of texts. -/
theorem namesAt_own {w : World} {G : Nat → Prop} {ao : Option Addr} {n c : Nat} {B : List ByteArray} (h : Own w G 9 1 (.slice ao n c) (strRows B)) (hl : B.length ≤ maxLen) (hs : ∀ s ∈ B, s.size ≤ maxLen) : NamesAt w ao B := by
  refine ⟨hl, fun i s hi => ⟨hs s (List.mem_of_getElem? hi), ?_⟩⟩
  rcases h.opened with ⟨e, hn⟩ | ⟨g, cap, e, _, _, _, _, hc, _⟩
  · unfold strRows at hn
    rw [List.map_eq_nil_iff.1 hn] at hi
    simp at hi
  · simp only [Value.slice.injEq] at e
    obtain ⟨rfl, _, _⟩ := e
    refine ⟨g, 0, rfl, ?_⟩
    have := hc i [.string s] 0 _ (by unfold strRows; rw [List.getElem?_map, hi]; rfl) rfl
    simpa using this

/-- Names that lie apart from the Server. -/
def NamesApart (w : World) (X : Nat → Prop) (ao : Option Addr) (l : List ByteArray) : Prop := NamesAt w ao l ∧ ∀ a, ao = some a → l ≠ [] → ¬ X a.block
theorem NamesApart.ext {w w' : World} {X : Nat → Prop} {ao : Option Addr} {l : List ByteArray} (h : NamesApart w X ao l) (hx : Ext X w w') : NamesApart w' X ao l := ⟨h.1.ext hx h.2, h.2⟩
theorem NamesApart.less {w : World} {X Y : Nat → Prop} {ao : Option Addr} {l : List ByteArray} (h : NamesApart w X ao l) (hX : ∀ k, Y k → X k) : NamesApart w Y ao l := ⟨h.1, fun a ha hl q => h.2 a ha hl (hX _ q)⟩
theorem letters_apart {w : World} {X : Nat → Prop} {ao : Option Addr} {c m : Nat} (h : TextsAt w (.slice ao (lettersTo m 8).length c) (lettersTo m 8)) : NamesApart w (fun k => X k ∧ (Value.slice ao (lettersTo m 8).length c).ownBlock ≠ some k) ao (lettersTo m 8) := by
  refine ⟨namesAt_own h (by have := letters_few m 8; unfold maxLen; omega) (fun s hs => ?_), fun a ha _ q => ?_⟩
  · obtain ⟨k, hk, _, rfl⟩ := mem_letters hs
    have := isName_size (isName_letter hk)
    unfold maxLen
    omega
  · subst ha
    exact q.2 rfl

set_option maxRecDepth 20000 in
set_option maxHeartbeats 4000000 in
theorem kstill_any {w : World} (own other how : Int) (hc1 : -9223372036854775808 ≤ own ∧ own ≤ 9223372036854775807) (hc2 : -9223372036854775808 ≤ other ∧ other ≤ 9223372036854775807) (hc3 : -9223372036854775808 ≤ how ∧ how ≤ 9223372036854775807) :
    Calls Tryz.prog 11 #[.int .i64 own, .int .i64 other, .int .i64 how] w fun e w' => e = .returned (.bool true) ∧ Below w.heap.size w w' := by
  obtain ⟨X, hX⟩ : ∃ X : Nat → Prop, X = fun k => w.heap.size ≤ k := ⟨_, rfl⟩
  have HO := hide (opened_any (w := w) (X := X) (fun k hk => by rw [hX]; exact hk))
  have HX := hide hX
  have HP := hide (fun w1 => kpick_any how 3 w1 hc3 (by omega))
  have hq := mPick_lt how (n := 3) (by omega)
  obtain ⟨q, hqe⟩ : ∃ q, mPick how 3 = q := ⟨_, rfl⟩
  rw [hqe] at HP hq
  have H1 := hide hc1
  have H2 := hide hc2
  have HN := hide (fun w1 => kones_any other w1 hc2)
  clear hX hc1 hc2 hc3 hqe
  go_enter Tryz.func11, Tryz.ntmps11
  go_wp2_with fail
  refine HO.out.mono ?_
  rintro e w1 ⟨rfl, h1, k1, hx1⟩
  have H1' := hide h1
  have K1 := hide k1
  have HX1 := hide hx1
  generalize w.heap.size = s at H1' ⊢
  clear h1 hx1 k1
  go_wp2_with fail
  refine (ks_d1 H1'.out K1.out).mono ?_
  rintro e w2 ⟨rfl, h2, hx2⟩
  have G2 := hide h2
  have HX2 := hide (HX1.out.trans' hx2)
  clear h2 hx2
  go_wp2_with fail
  refine (ks_f1 own H1.out G2.out).mono ?_
  rintro e w3 ⟨rfl, h3, hx3⟩
  have G3 := hide h3
  have HX3 := hide (HX2.out.trans' hx3)
  clear h3 hx3
  go_wp2_with fail
  refine (ks_d2 _ G3.out).mono ?_
  rintro e w4 ⟨rfl, ⟨b, h4⟩, hx4⟩
  have G4 := hide h4
  have HX4 := hide (HX3.out.trans' hx4)
  clear h4 hx4
  go_wp2_with fail
  refine (ks_f2 _ _ other H2.out G4.out).mono ?_
  rintro e w5 ⟨rfl, h5, hx5⟩
  generalize mPick own 256 = ma at h5 G4
  have hmb : ∃ mb, mPick other 256 = mb := ⟨_, rfl⟩
  obtain ⟨mb, hmb⟩ := hmb
  rw [hmb] at h5 HN
  clear hmb
  have G5 := hide h5
  have HX5 := hide (HX4.out.trans' hx5)
  clear h5 hx5
  go_wp2_with fail
  refine (ks_w5 G5.out).mono ?_
  rintro e w6 ⟨rfl, h6, hx6⟩
  have G6 := hide h6
  have HX6 := hide (HX5.out.trans' hx6)
  clear h6 hx6
  go_wp2_with fail
  refine (ks_w6 G6.out).mono ?_
  rintro e w7 ⟨rfl, h7, hx7⟩
  have G7 := hide h7
  have HX7 := hide (HX6.out.trans' hx7)
  clear h7 hx7
  go_wp2_with fail
  refine (ks_o6 G7.out).mono ?_
  rintro e w8 ⟨rfl, h8, hx8⟩
  have G8 := hide h8
  have HX8 := hide (HX7.out.trans' hx8)
  clear h8 hx8
  go_wp2_with fail
  refine (ks_l6 G8.out).mono ?_
  rintro e w9 ⟨ao, ac, rfl, t9, o9, h9, hx9⟩
  have N9 := letters_apart (X := X) t9
  obtain ⟨Y, hY⟩ : ∃ Y : Nat → Prop, Y = (fun k => X k ∧ (Value.slice ao (lettersTo ma 8).length ac).ownBlock ≠ some k) := ⟨_, rfl⟩
  rw [← hY] at N9 h9
  have hYX : ∀ k, Y k → X k := fun k hk => by rw [hY] at hk; exact hk.1
  have HYX := hide hYX
  have HN9 := hide N9
  have G9 := hide h9
  have HX9 := hide (HX8.out.trans' hx9)
  clear h9 hx9 N9 hY hYX t9 o9
  go_wp2_with fail
  refine (ks_w2 G9.out).mono ?_
  rintro e w10 ⟨rfl, h10, hx10⟩
  have G10 := hide h10
  have HY10 := hide hx10
  clear h10 hx10
  go_wp2_with fail
  refine (HP.out _).mono ?_
  rintro e w' ⟨rfl, hw⟩
  obtain rfl := hw.symm
  go_wp2_with fail
  refine (ks_bind G10.out G4.out.ne q hq).mono ?_
  rintro e w11 ⟨rfl, h11, hx11⟩
  have G11 := hide h11
  have HY11 := hide (HY10.out.trans' hx11)
  clear h11 hx11
  go_wp2_with fail
  refine (ks_l6 G11.out).mono ?_
  rintro e w12 ⟨bo, bc, rfl, t12, o12, h12, hx12⟩
  have N12 := letters_apart (X := Y) t12
  obtain ⟨Z, hZ⟩ : ∃ Z : Nat → Prop, Z = (fun k => Y k ∧ (Value.slice bo (lettersTo ma 8).length bc).ownBlock ≠ some k) := ⟨_, rfl⟩
  rw [← hZ] at N12 h12
  have hZY : ∀ k, Z k → Y k := fun k hk => by rw [hZ] at hk; exact hk.1
  have HZX := hide (fun k (hk : Z k) => HYX.out k (hZY k hk))
  have HN12 := hide N12
  have HN9' := hide ((HN9.out.ext (HY11.out.trans' hx12)).less hZY)
  have G12 := hide (show KS w12 Z s (F4 b) b ma mb (stillRow b q) from h12)
  have HX12 := hide (HX9.out.trans' ((HY11.out.trans' hx12).weak (X := X) HYX.out))
  clear h12 hx12 N12 hZ hZY t12 o12
  have hfew := letters_few ma 8
  have HL := hide (fun j (hj : j < (lettersTo ma 8).length) => getElem?_of_lt hj)
  have HM := hide (fun s (h : s ∈ lettersTo ma 8) => mem_letters h)
  obtain ⟨l, hl⟩ : ∃ l, lettersTo ma 8 = l := ⟨_, rfl⟩
  rw [hl] at HN9' HN12 HL HM hfew ⊢
  clear hl
  have hself : ((l.length : Int) == (l.length : Int)) = true := by simp
  go_wp2_with fail
  go_loopw [24, 25] (fun ok i wr => ∃ (j : Nat), j ≤ l.length ∧ ok = .bool true ∧ i = .int .i64 j ∧ KS wr Z s (F4 b) b ma mb (stillRow b q) ∧ Ext Z w12 wr) (fun _ i _ => l.length - (intOf i).toNat)
  case atStart => exact ⟨0, by omega, by simp, rfl, G12.out, Ext.refl _ _⟩
  case round =>
    obtain ⟨j, hj, rfl, rfl, hs, hx⟩ := hrel
    have GS := hide hs
    have HXr := hide hx
    clear hs hx
    by_cases hlt : j < l.length
    · obtain ⟨t, ht⟩ := HL.out j hlt
      obtain ⟨kk, hk8, hbit, rfl⟩ := HM.out t (List.mem_of_getElem? ht)
      obtain ⟨_, nb, no, rfl, hcs⟩ := (HN9'.out.ext HXr.out).1.2 j _ ht
      obtain ⟨_, nb2, no2, rfl, hcs2⟩ := (HN12.out.ext HXr.out).1.2 j _ ht
      have k0 : (0 : Int) ≤ (j : Int) := by omega
      have k1 : (j : Int) < (l.length : Int) := by omega
      have HXz := hide (fun (p : Nat × Nat) (hp : Z p.1) => hp)
      have hZ1 : ¬ Z nb := HN9'.out.2 _ rfl (List.ne_nil_of_length_pos (by omega))
      have hZ2 : ¬ Z nb2 := HN12.out.2 _ rfl (List.ne_nil_of_length_pos (by omega))
      have HZ1 := hide hZ1
      have hls : (letterB kk).size = 1 := rfl
      have hsum : 4 + (letterB kk).size ≤ 9223372036854775807 := by omega
      have hsum' : (4 : Int) + ((letterB kk).size : Int) ≤ 9223372036854775807 := by omega
      have hts : (ontoN ++ letterB kk).size ≤ 9 := by rw [ByteArray.size_append]; show 4 + 1 ≤ 9; omega
      have HTS := hide hts
      have HB := hide hbit
      have fc : ((letterB kk).toList == (letterB kk).toList) = true := by simp
      have HC12 := hide (ext_cell (F := Z) (Ext.refl Z w12) HZ1.out (by
        obtain ⟨_, nb', no', e', h'⟩ := HN9'.out.1.2 j _ ht
        cases e'
        exact h'))
      clear ht hZ1 hZ2 hls hts hbit
      go_wp2_with fail
      go_region
      all_goals go_wp2_with fail
      have GD := hide (GS.out.below ((Below.refl _ wr).drew.drew))
      have HXd := hide (HXr.out.trans' (Ext.below (F := Z) ((Below.refl _ wr).drew.drew)))
      go_region_with (go_at_call 14; refine (kf_walk GD.out kk hk8 HB.out).mono ?_; rintro e v1 ⟨rfl, g1, hy1⟩; have GV1 := hide g1; have HV1 := hide (HXd.out.trans' hy1); clear g1 hy1)
      all_goals go_wp2_with fail
      all_goals
        refine (kf_open GV1.out).mono ?_
        rintro e v2 ⟨rfl, g2, hy2⟩
        have GV2 := hide g2
        have HV2 := hide (HV1.out.trans' hy2)
        clear g2 hy2
        go_wp2_with fail
        refine (kf_read HTS.out GV2.out).mono ?_
        rintro e v3 ⟨lo, ln, lc, rfl, b3, o3', g3, hy3⟩
        have GV3 := hide g3
        have HV3 := hide (HV2.out.trans' hy3)
        have HB3 := hide b3
        have HO3 := hide o3'
        clear g3 hy3 b3 o3'
        go_wp2_with fail
        refine (kf_clunk GV3.out).mono ?_
        rintro e v4 ⟨rfl, g4, hy4⟩
        have GV4 := hide (g4.more (Y := Z) (fun k hk => hk.1))
        have HV4 := hide (HV3.out.trans' (hy4.weak (X := Z) (fun k hk => hk.1)))
        have hcv := bytes_string (w := v4) (Own.keptBlock HB3.out (fun k hk => hy4.block k (HO3.out k hk).2 (fun q => q.2 hk)))
        have hcs4 : v4.cell? ⟨nb, no + j, none⟩ = some (.string (letterB kk)) := ext_cell HV4.out HZ1.out (HC12.out)
        have hcvd := bytes_string (w := v4.drew) (BytesAt.drew (Own.keptBlock HB3.out (fun k hk => hy4.block k (HO3.out k hk).2 (fun q => q.2 hk))))
        clear g4 hy4
        go_wp2_with fail
        go_region
        all_goals go_wp2_with fail
        all_goals exact ⟨⟨j + 1, by omega, by simp; rfl, by go_num, GV4.out.below ((Below.refl _ v4).drew), HV4.out.trans' (Ext.below ((Below.refl _ v4).drew))⟩, by simp [intOf]; omega⟩
    · have hge : ¬ (j : Int) < (l.length : Int) := by omega
      go_wp2_with fail
      refine (ks_listed q GS.out).mono ?_
      rintro e v1 ⟨lo, ln, lc, rfl, hn0, hy⟩
      have HY := hide hy
      have HE := hide hn0
      clear hy hn0
      go_wp2_with fail
      refine (HP.out _).mono ?_
      rintro e w' ⟨rfl, hw⟩
      obtain rfl := hw.symm
      have HFin := hide (show Below w.heap.size w v1 by
        have e1 := HX12.out.trans' ((HXr.out.trans' HY.out).weak (X := X) HZX.out)
        rw [HX.out] at e1
        exact e1.toBelow (Nat.le_refl _))
      rcases Nat.eq_zero_or_pos q with hq0 | hq0
      · have hq1 : ¬ (0 : Int) < (q : Int) := by omega
        have hln := HE.out hq0
        go_wp2_with fail
        refine (HN.out _).mono ?_
        rintro e w' ⟨rfl, hw⟩
        obtain rfl := hw.symm
        go_wp2_with fail
        go_ret
        exact ⟨by simp, HFin.out⟩
      · have hq1 : (0 : Int) < (q : Int) := by omega
        go_wp2_with fail
        go_ret
        exact ⟨by simp, HFin.out⟩
end Go.Proofs.YtdmdgnghaceibaaGreat.P
