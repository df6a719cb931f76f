/- The program's tree.remove. -/
import Derived.Test.YtdmdgnghaceibaaGreatPart09
import Derived.Test.YtdmdgnghaceibaaGreatPart08
import Derived.Test.YtdmdgnghaceibaaGreatPart06
import Derived.Test.YtdmdgnghaceibaaGreatPart07
import Derived.Test.YtdmdgnghaceibaaGreatPart02
import Derived.Test.YtdmdgnghaceibaaGreatPart03
namespace Go.Proofs.YtdmdgnghaceibaaGreat.P
open M Go.ChangeShapes Go.WideShapes Go.ChangeAt Go.RowKit
set_option linter.unusedVariables false

/-- What taking a node away leaves. -/
structure Went (w w' : World) (F : Nat → Prop) (t : Nat) (st : St) (L : Lay) (bv : Nat → Value) (i p : Nat) (x : Nd) : Prop where
  tree : TreeIs w' F t (setNode st i (goneNd x)) L bv
  os : w'.os = w.os
  tape : w'.tape = w.tape
  output : w'.output = w.output
  size : w.heap.size ≤ w'.heap.size
  block : ∀ k, k < w.heap.size → k ≠ t → k ≠ L.mb p → k ≠ L.nb i → w'.heap[k]? = w.heap[k]?

theorem Went.of {w w1 w' : World} {F : Nat → Prop} {t : Nat} {st : St} {L : Lay} {bv : Nat → Value} {i p : Nat} {x : Nd} {e : Ending} (h : TreeIs w F t st L bv) (T : Treed st) (hx : st.nodes[i]? = some x) (hg : x.gone = false) (hp : x.inn = (p : Int)) (hpl : p < st.nodes.length) (hpd : M.isDir st p = true) (hb : Below w.heap.size w w1)
    (hD : Dropped w1 t (L.mb p) st.nodes.length (L.nb i) (fun s => (lies st p s).map (nodeV L)) x.name ((liveNodes st.nodes : Int) - 1) e w') : Went w w' F t st L bv i p x := by
  have hi := M.lt_of_getElem? hx
  have h1 : TreeIs w1 F t st L bv := h.kept (KeepX.below hb)
  obtain ⟨w3, _, hm3, ht, rfl⟩ := hD
  obtain ⟨xp, hxp⟩ := getElem?_of_lt hpl
  have hxpd : xp.dir = true := by simpa [M.isDir, hxp] using hpd
  obtain ⟨es, cl, hmb⟩ := (h1.dir p xp hxp hxpd).map.blk
  have tyI : ∃ e, Ty w1 (L.nb i) e ∧ e ≠ 89 := by
    cases hxd : x.dir with
    | true => exact ⟨_, (h1.dir i x hx hxd).blk.ty, by decide⟩
    | false => exact ⟨_, (h1.file i x hx hxd).blk.ty, by decide⟩
  obtain ⟨ei, tyI, hei⟩ := tyI
  have n1 : L.nb i ≠ t := Ty.ne_ty tyI h1.blk.ty hei
  have n2 : L.nb i ≠ L.mb p := Ty.ne_map tyI hmb
  have n3 : t ≠ L.mb p := Ty.ne_map h1.blk.ty hmb
  have hg3 := ht.grown
  have blk : ∀ k, k ≠ t → k ≠ L.mb p → k ≠ L.nb i → k < w1.heap.size → ((w3.setCell ⟨L.nb i, 2, none⟩ (.bool true)).setCell ⟨t, 1, none⟩ (.int .i64 ((liveNodes st.nodes : Int) - 1))).heap[k]? = w1.heap[k]? := fun k k1 k2 k3 hk => by
    rw [Below.heap_setCell _ _ _ _ k1, Below.heap_setCell _ _ _ _ k3]
    exact hg3.block k hk (by simpa using k2)
  have cellW : ∀ (b j : Nat), ((b : Nat), j) ≠ (L.nb i, 2) → (b, j) ≠ (t, 1) → ((w3.setCell ⟨L.nb i, 2, none⟩ (.bool true)).setCell ⟨t, 1, none⟩ (.int .i64 ((liveNodes st.nodes : Int) - 1))).cell? ⟨b, j, none⟩ = w1.cell? ⟨b, j, none⟩ := fun b j h1 h2 => by
    rw [World.cell?_setCell_other _ _ _ _ (fun e => h2 (by simp only [Addr.mk.injEq] at e; simp [e.1, e.2.1])), World.cell?_setCell_other _ _ _ _ (fun e => h1 (by simp only [Addr.mk.injEq] at e; simp [e.1, e.2.1])), turned_cell ht]
    rfl
  have tyW : ∀ (b : Nat) (e : TypeId), Ty w1 b e → Ty ((w3.setCell ⟨L.nb i, 2, none⟩ (.bool true)).setCell ⟨t, 1, none⟩ (.int .i64 ((liveNodes st.nodes : Int) - 1))) b e := fun b e hb => by
    refine Ty.setCell (Ty.setCell ?_ _ _) _ _
    obtain ⟨cur, hc⟩ := hb
    exact ⟨cur, (hg3.block b (Array.getElem?_eq_some_iff.1 hc).1 (fun q => by
      have q' : b = L.mb p := by simpa using q
      subst q'
      rw [hmb] at hc
      cases hc)).trans hc⟩
  have c1 : (w3.setCell ⟨L.nb i, 2, none⟩ (.bool true)).cell? ⟨t, 1, none⟩ = some (.int .i64 (liveNodes st.nodes)) := (World.cell?_setCell_other _ _ _ _ (fun e => n1 (congrArg Addr.block e))).trans ((turned_cell ht _).trans h1.c1)
  have c2 : ∃ v, w3.cell? ⟨L.nb i, 2, none⟩ = some v := by
    have := h1.gone hi
    exact ⟨_, (turned_cell ht _).trans this⟩
  obtain ⟨v2, c2⟩ := c2
  refine ⟨?_, ?_, ?_, ?_, ?_, fun k hk k1 k2 k3 => (blk k k1 k2 k3 (by have := hb.size; omega)).trans (hb.block k hk)⟩
  · refine h1.dropNode T.uniq hx hg hp hpl hpd (fun _ h => h) (fun b _ b1 b2 b3 hlt => blk b b1 b2 b3 hlt) (tyW t _ h1.blk.ty) (cellW t 0 (fun e => n1 (by simp only [Prod.mk.injEq] at e; exact e.1.symm)) (by simp)) ?_ (fun e he => tyW _ e he) (fun j hj => cellW (L.nb i) j (by simp [hj]) (fun e => n1 (by simp only [Prod.mk.injEq] at e; exact e.1))) ?_ ?_
    · exact cell_same _ _ _ _ _ c1
    · exact (World.cell?_setCell_other _ _ _ _ (fun e => n1 (congrArg Addr.block e).symm)).trans (cell_same _ _ _ _ _ c2)
    · refine hm3.kept ?_
      rw [Below.heap_setCell _ _ _ _ (Ne.symm n3), Below.heap_setCell _ _ _ _ (Ne.symm n2)]
  · exact hg3.os.trans hb.os
  · exact hg3.tape.trans hb.tape
  · exact hg3.output.trans hb.output
  · have h1 := hg3.size
    have h2 := hb.size
    have hz : ((w3.setCell ⟨L.nb i, 2, none⟩ (.bool true)).setCell ⟨t, 1, none⟩ (.int .i64 ((liveNodes st.nodes : Int) - 1))).heap.size = w3.heap.size := by simp
    have : w1.drew.heap.size = w1.heap.size := rfl
    omega

section
variable {w : World} {F : Nat → Prop} {t : Nat} {st : St} {L : Lay} {bv : Nat → Value}

set_option maxRecDepth 20000 in
set_option maxHeartbeats 1000000 in
theorem remove_err (h : TreeIs w F t st L bv) (T : Treed st) (ok : POk st) {i : Nat} {x : Nd} (hx : st.nodes[i]? = some x) (hE : removeE st i x ≠ 0) :
    Calls Tryz.prog 58 #[.pointer (some ⟨t, 0, none⟩), nodeV L i] w fun e w' => e = .returned (.int .i64 (removeE st i x)) ∧ Below w.heap.size w w' := by
  have hi := M.lt_of_getElem? hx
  have hg2 := h.gone hi
  have m1 := m_isGoneD
  have m2 := m_isGoneF
  have m3 := m_liesInD
  have m4 := m_liesInF
  have a1 := asDir
  have a2 := notDir
  rw [show isGone st i = x.gone by simp [isGone, hx]] at hg2
  cases hgv : x.gone with
  | true =>
    rw [hgv] at hg2
    have H := hide (show removeE st i x = 4 by simp [removeE, hgv])
    rcases nodeV_cases L i with e | e
    all_goals
      rw [e]
      clear h hx hE hgv e
      go_enter Tryz.func58, Tryz.ntmps58
      go_wp2_with (go_at_call 94; refine (isGone_any _ _ _ hg2).mono ?_; rintro e w' ⟨rfl, hw⟩; obtain rfl := hw.symm)
      go_ret
      exact ⟨by rw [H.out]; rfl, Below.refl _ _⟩
  | false =>
    rw [hgv] at hg2
    by_cases h0 : i = 0
    · subst h0
      obtain ⟨r, hr, hrd, _, hri⟩ := T.root
      rw [hr] at hx
      cases hx
      have H := hide (show removeE st 0 x = 9 by simp [removeE, hgv])
      have c1 := (h.dir 0 x hr hrd).c1
      rw [hri] at c1
      have c1 : w.cell? ⟨L.nb 0, 1, none⟩ = some (.pointer none) := c1
      rcases nodeV_cases L 0 with e | e
      all_goals
        rw [e]
        clear h hE hgv e hr
        go_enter Tryz.func58, Tryz.ntmps58
        go_wp2_with (first | (go_at_call 94; refine (isGone_any _ _ _ hg2).mono ?_; rintro e w' ⟨rfl, hw⟩; obtain rfl := hw.symm) | (go_at_call 247; refine (liesIn_any _ _ _ c1).mono ?_; rintro e w' ⟨rfl, hw⟩; obtain rfl := hw.symm))
        go_ret
        exact ⟨by rw [H.out]; rfl, Below.refl _ _⟩
    · cases hxd : x.dir with
      | false => exact absurd (by simp [removeE, hgv, h0, hxd]) hE
      | true =>
        cases hb : mBusy st i with
        | false => exact absurd (by simp [removeE, hgv, h0, hb]) hE
        | true =>
          have H := hide (show removeE st i x = 10 by simp [removeE, hgv, h0, hxd, hb])
          obtain ⟨p, hp, _⟩ := T.inn i x hx (by omega)
          have c1 := (h.dir i x hx hxd).c1
          rw [hp] at c1
          have c1 : w.cell? ⟨L.nb i, 1, none⟩ = some (.pointer (some ⟨L.nb p, 0, none⟩)) := by
            rw [c1]
            unfold inV
            rw [if_neg (by omega), Int.toNat_natCast]
          have HI := hide (isBusy_any h T ok i hi (by simp [M.isDir, hx, hxd]))
          rw [hb] at HI
          have e : nodeV L i = .iface 87 (.pointer (some ⟨L.nb i, 0, none⟩)) := by rw [nodeV, h.kind i x hx, hxd]; rfl
          rw [e]
          clear h hE hgv e hx hb hxd
          go_enter Tryz.func58, Tryz.ntmps58
          go_wp2_with (first | (go_at_call 94; refine (isGone_any _ _ _ hg2).mono ?_; rintro e w' ⟨rfl, hw⟩; obtain rfl := hw.symm) | (go_at_call 247; refine (liesIn_any _ _ _ c1).mono ?_; rintro e w' ⟨rfl, hw⟩; obtain rfl := hw.symm) | (go_at_call 99; refine HI.out.mono ?_; rintro e w1 ⟨rfl, hb1⟩; have HB1 := hide hb1; clear hb1))
          go_ret
          exact ⟨by rw [H.out]; rfl, HB1.out⟩

theorem live_pos {st : St} {i : Nat} {x : Nd} (hx : st.nodes[i]? = some x) (hg : x.gone = false) : 0 < liveNodes st.nodes := by
  unfold liveNodes
  exact List.length_pos_of_mem (List.mem_filter.2 ⟨List.mem_of_getElem? hx, by simp [hg]⟩)

set_option maxRecDepth 20000 in
set_option maxHeartbeats 1000000 in
theorem remove_ok (h : TreeIs w F t st L bv) (T : Treed st) (ok : POk st) {i p : Nat} {x : Nd} (hx : st.nodes[i]? = some x) (hE : removeE st i x = 0) (hp : x.inn = (p : Int)) :
    Calls Tryz.prog 58 #[.pointer (some ⟨t, 0, none⟩), nodeV L i] w fun e w' => e = .returned (.int .i64 0) ∧ Went w w' F t st L bv i p x := by
  have hi := M.lt_of_getElem? hx
  have hg2 := h.gone hi
  have m1 := m_isGoneD
  have m2 := m_isGoneF
  have m3 := m_liesInD
  have m4 := m_liesInF
  have a1 := asDir
  have a2 := notDir
  rw [show isGone st i = x.gone by simp [isGone, hx]] at hg2
  have hgv : x.gone = false := by
    cases hgv : x.gone with
    | false => rfl
    | true => simp [removeE, hgv] at hE
  have h0 : i ≠ 0 := fun e => by simp [removeE, hgv, e] at hE
  rw [hgv] at hg2
  obtain ⟨p', hp', hpi, hpd, _⟩ := T.inn i x hx (by omega)
  have hpp : p' = p := by omega
  subst hpp
  have hpl : p' < st.nodes.length := by omega
  obtain ⟨xp, hxp⟩ := getElem?_of_lt hpl
  have hxpd : xp.dir = true := by simpa [M.isDir, hxp] using hpd
  have Dp := h.dir p' xp hxp hxpd
  have hname := ok.names x (List.mem_of_getElem? hx)
  have hname' : x.name.size ≤ maxLen := by unfold maxLen; omega
  have hl1 := live_pos hx hgv
  have hl2 := ok.live
  have inE : inV L x.inn = .pointer (some ⟨L.nb p', 0, none⟩) := by
    unfold inV
    rw [hp, if_neg (by omega), Int.toNat_natCast]
  cases hxd : x.dir with
  | false =>
    have FI := h.file i x hx hxd
    have c1 : w.cell? ⟨L.nb i, 1, none⟩ = some (.pointer (some ⟨L.nb p', 0, none⟩)) := FI.c1.trans (by rw [inE])
    have HD := hide (drop_file (t := t) (n := st.nodes.length) (c := (liveNodes st.nodes : Int)) hname' ⟨by omega, by omega⟩ (Ty.ne_ty FI.blk.ty h.blk.ty (by decide)) FI.c0 c1 FI.c2 (FI.blk.fz 2) Dp.c3 h.c1 (h.blk.fz 1) Dp.map)
    have HW := hide (fun e w' => Went.of (w1 := w) (w' := w') (e := e) h T hx hgv hp hpl hpd (Below.refl _ w))
    have e : nodeV L i = .iface 122 (.pointer (some ⟨L.nb i, 0, none⟩)) := by rw [nodeV, h.kind i x hx, hxd]; rfl
    rw [e]
    clear h hE hgv e hx hxd FI Dp hxp
    go_enter Tryz.func58, Tryz.ntmps58
    go_wp2_with (first | (go_at_call 94; refine (isGone_any _ _ _ hg2).mono ?_; rintro e w' ⟨rfl, hw⟩; obtain rfl := hw.symm) | (go_at_call 247; refine (liesIn_any _ _ _ c1).mono ?_; rintro e w' ⟨rfl, hw⟩; obtain rfl := hw.symm) | (go_at_call 100; refine HD.out.mono ?_; rintro e w2 hd; have HD2 := hide (HW.out _ _ hd); have he : e = .returned (.tuple #[]) := (by obtain ⟨_, h, _⟩ := hd; exact h); subst he; clear hd))
    go_ret
    exact ⟨rfl, HD2.out⟩
  | true =>
    have DI := h.dir i x hx hxd
    have c1 : w.cell? ⟨L.nb i, 1, none⟩ = some (.pointer (some ⟨L.nb p', 0, none⟩)) := DI.c1.trans (by rw [inE])
    have hb : mBusy st i = false := by
      cases hb : mBusy st i with
      | false => rfl
      | true => simp [removeE, hgv, h0, hxd, hb] at hE
    have HI := hide (isBusy_any h T ok i hi (by simp [M.isDir, hx, hxd]))
    rw [hb] at HI
    have HW := hide (fun w1 e w' => Went.of (w1 := w1) (w' := w') (e := e) h T hx hgv hp hpl hpd)
    have HD := hide (fun (w1 : World) (hb1 : Below w.heap.size w w1) => by
      have h1 : TreeIs w1 F t st L bv := h.kept (KeepX.below hb1)
      have DI := h1.dir i x hx hxd
      exact drop_dir (t := t) (n := st.nodes.length) (c := (liveNodes st.nodes : Int)) hname' ⟨by omega, by omega⟩ (Ty.ne_ty DI.blk.ty h1.blk.ty (by decide)) DI.c0 (DI.c1.trans (by rw [inE])) DI.c2 (DI.blk.fz 2) (h1.dir p' xp hxp hxpd).c3 h1.c1 (h1.blk.fz 1) (h1.dir p' xp hxp hxpd).map)
    have e : nodeV L i = .iface 87 (.pointer (some ⟨L.nb i, 0, none⟩)) := by rw [nodeV, h.kind i x hx, hxd]; rfl
    rw [e]
    clear h hE hgv e hx hxd DI Dp hxp hb
    go_enter Tryz.func58, Tryz.ntmps58
    go_wp2_with (first | (go_at_call 94; refine (isGone_any _ _ _ hg2).mono ?_; rintro e w' ⟨rfl, hw⟩; obtain rfl := hw.symm) | (go_at_call 247; refine (liesIn_any _ _ _ c1).mono ?_; rintro e w' ⟨rfl, hw⟩; obtain rfl := hw.symm) | (go_at_call 99; refine HI.out.mono ?_; rintro e w1 ⟨rfl, hb1⟩; have HB1 := hide hb1; clear hb1) | (go_at_call 100; refine (HD.out _ HB1.out).mono ?_; rintro e w2 hd; have HD2 := hide (HW.out _ _ _ HB1.out hd); have he : e = .returned (.tuple #[]) := (by obtain ⟨_, h, _⟩ := hd; exact h); subst he; clear hd))
    go_ret
    exact ⟨rfl, HD2.out⟩
end

/-- The Server with a node gone. -/
theorem SrvHas.went {w w' : World} {F : Nat → Prop} {s t : Nat} {st : St} {lk : Int} {L : Lay} {bv : Nat → Value} {i p : Nat} {x : Nd} (h : SrvHas w F s st lk t L bv) (hx : st.nodes[i]? = some x) (hpl : p < st.nodes.length) (hpd : M.isDir st p = true) (hW : Went w w' F t st L bv i p x) :
    SrvHas w' F s (setNode st i (goneNd x)) lk t L bv ∧ Ext F w w' := by
  obtain ⟨xp, hxp, Dp, _, _⟩ := h.tree.member hpl hpd
  obtain ⟨es, cl, hmb⟩ := Dp.map.blk
  have tyI : Ty w (L.nb i) (if x.dir then 168 else 162) ∧ F (L.nb i) := by
    cases hxd : x.dir with
    | true => exact ⟨(h.tree.dir i x hx hxd).blk.ty, (h.tree.dir i x hx hxd).blk.own⟩
    | false => exact ⟨(h.tree.file i x hx hxd).blk.ty, (h.tree.file i x hx hxd).blk.own⟩
  have hk : KeepX (fun e => e ≠ 89 ∧ e ≠ 168 ∧ e ≠ 162) False F w w' := by
    refine ⟨fun k cur e hFk hb hT => hW.block k (Array.getElem?_eq_some_iff.1 hb).1 (fun q => ?_) (fun q => ?_) (fun q => ?_), fun hf => hf.elim⟩
    · subst q
      exact Ty.ne_ty h.tree.blk.ty ⟨cur, hb⟩ (fun q => hT.1 q.symm) rfl
    · subst q
      rw [hmb] at hb
      cases hb
    · subst q
      refine Ty.ne_ty tyI.1 ⟨cur, hb⟩ (fun q => ?_) rfl
      split at q
      · exact hT.2.1 q.symm
      · exact hT.2.2 q.symm
  have c := h.blk.cell hk (by decide)
  refine ⟨⟨h.blk.kept hk (by decide), (c 0).trans h.k0, (c 1).trans h.k1, (c 3).trans h.k3, (c 5).trans h.k5, (c 6).trans h.k6, fun n hn => (h.fids n hn).kept hk (by decide) (by decide) (c _) (c _), hW.tree⟩,
    ⟨hW.os, hW.tape, hW.output, hW.size, fun k hk hF => hW.block k hk (fun e => hF (e ▸ h.tree.blk.own)) (fun e => hF (e ▸ Dp.mapF)) (fun e => hF (e ▸ tyI.2))⟩⟩
end Go.Proofs.YtdmdgnghaceibaaGreat.P
/- The program's Remove. -/
namespace Go.Proofs.YtdmdgnghaceibaaGreat.P
open M Go.ChangeShapes Go.WideShapes Go.ChangeAt Go.RowKit
set_option linter.unusedVariables false

set_option maxRecDepth 20000 in
theorem giveUp_deferred (s k : Nat) (x y : Value) (u : FrameMode) (w : World) (h7 : w.cell? ⟨s, 7 + k * 2, none⟩ = some x) (h8 : w.cell? ⟨s, 7 + k * 2 + 1, none⟩ = some y) (fz : ∀ j, w.frozen? ⟨s, j, none⟩ = false) :
    CallsD Tryz.prog 57 #[.pointer (some ⟨s, 7 + k * 2, none⟩)] u w fun e u' w' => u' = u ∧ (e = .returned (.tuple #[]) ∧ w' = (w.setCell ⟨s, 7 + k * 2, none⟩ (.pointer none)).setCell ⟨s, 7 + k * 2 + 1, none⟩ (.bool false)) := by
  have f0 := fz (7 + k * 2)
  have f1 : (w.setCell ⟨s, 7 + k * 2, none⟩ (.pointer none)).frozen? ⟨s, 7 + k * 2 + 1, none⟩ = false := fz_set _ _ _ _ (fz _)
  have g8 : (w.setCell ⟨s, 7 + k * 2, none⟩ (.pointer none)).cell? ⟨s, 7 + k * 2 + 1, none⟩ = some y := (cell_other _ _ _ _ _ (by omega)).trans h8
  go_enter_d Tryz.func57, Tryz.ntmps57
  go_wp2
  go_end0
  exact ⟨rfl, rfl⟩

theorem mRemove_eq {st : St} {n : Int} {i : Nat} {f : Fid} {x : Nd} (hf : find st n = some i) (hi : st.fids[i]? = some f) (hx : st.nodes[nodeOf f]? = some x) :
    mRemove st n = (if removeE st (nodeOf f) x = 0 then setNode (mDrop (tick st) i) (nodeOf f) (goneNd x) else mDrop (tick st) i, removeE st (nodeOf f) x) := by
  unfold mRemove
  rw [hf]
  simp only
  rw [hi]
  simp only
  rw [hx]
  simp only
  unfold removeE
  by_cases h1 : x.gone = true
  · rw [if_pos h1, if_pos h1, if_neg (by decide)]
  · rw [if_neg h1, if_neg h1]
    by_cases h2 : nodeOf f = 0
    · rw [if_pos h2, if_pos h2, if_neg (by decide)]
    · rw [if_neg h2, if_neg h2]
      by_cases h3 : (x.dir && mBusy st (nodeOf f)) = true
      · rw [if_pos h3, if_pos h3, if_neg (by decide)]
      · rw [if_neg h3, if_neg h3, if_pos rfl]

theorem removeE_zero {st : St} {i : Nat} {x : Nd} (h : removeE st i x = 0) : i ≠ 0 := by
  intro e
  unfold removeE at h
  rw [if_pos e] at h
  split at h <;> cases h

set_option maxRecDepth 20000 in
set_option maxHeartbeats 1000000 in
theorem sremove_any {w : World} {F : Nat → Prop} {s : Nat} {st : St} (n : Int) (h : SrvIs w F s st) (ok : POk st) (T : Treed st) :
    Calls Tryz.prog 21 #[.pointer (some ⟨s, 0, none⟩), .int .i64 n] w fun e w' => PEnds w F s (mRemove st n) e w' := by
  go_enter_defers Tryz.func21, Tryz.ntmps21
  go_wp2_with fail
  refine (enter_any h).mono ?_
  rintro e w1 ⟨rfl, hH, hx⟩
  clear h
  obtain ⟨t, L, bv, hS⟩ := hH
  have hx := hide hx
  rcases fid_cases hS ok.tick.fids n with ⟨hf, hno⟩ | ⟨k, i, f, p, rfl, hk, hf, hi, hn, ha, c7, c8, hp⟩
  · have H := hide (show mRemove st n = (tick st, 2) by unfold mRemove; rw [show find st n = none from hf])
    have hS := hide hS
    clear hf
    go_wp2_with (go_at_call 45; refine (standing_no hno).mono ?_; rintro e w' ⟨rfl, hw⟩; obtain rfl := hw.symm)
    have hD : Held w1 (ext F w w1) s (tick st) := ⟨t, L, bv, hS.out⟩
    refine leaves_cons (f := 43) (args := #[.pointer (some ⟨s, 0, none⟩)]) (by simp) (by simp [go_sem]) ?_
    refine (leave_deferred .returning hD).mono ?_
    rintro e u' w'' ⟨rfl, rfl, rfl⟩
    refine ⟨_, results_tmp rfl _ _ _, ?_⟩
    exact PEnds.close H.out hD hx.out
  · obtain ⟨sp, hsp, d0, _, _⟩ := place_last hp
    have hno : nodeOf f = sp.n := by simp [nodeOf, hsp]
    have hin := ((ok.way f (List.mem_of_getElem? hi)).2 sp (List.mem_of_getLast? hsp)).1
    obtain ⟨x, hxn⟩ := getElem?_of_lt hin
    have H := hide (mRemove_eq (show find st k = some i from hf) (show st.fids[i]? = some f from hi) (by rw [hno]; exact hxn))
    rw [hno] at H
    have Tt : Treed (tick st) := T.same rfl rfl
    have hSd := srv_drew hS
    have k6 := hS.k6
    have hslt := hS.blk.lt
    have HS := hide hS
    have Hi := hide hi
    have Hn := hide hn
    have Hxn := hide hxn
    by_cases hE : removeE st sp.n x = 0
    · rw [if_pos hE, hE] at H
      have h0 : sp.n ≠ 0 := removeE_zero hE
      obtain ⟨q, hq, hqi, hqd, _⟩ := T.inn sp.n x hxn (by omega)
      have HR := hide (remove_ok hSd.tree Tt ok.tick (show (tick st).nodes[sp.n]? = some x from hxn) hE hq)
      have hql : q < st.nodes.length := by omega
      have Hq : q < (tick st).nodes.length ∧ M.isDir (tick st) q = true := ⟨hql, hqd⟩
      have Hfa := hide (show fidAt (setNode (tick st) sp.n (goneNd x)) (k : Int) = some f from ha)
      rcases nodeV_cases L sp.n with e | e
      all_goals
        rw [e] at d0 HR
        clear hf hi ha hp hn hS hSd hsp hxn e
        go_wp2_with (go_at_call 45; refine (standing_some s k p hk _ c7).mono ?_; rintro e w' ⟨rfl, hw⟩; obtain rfl := hw.symm)
        refine wp_strict ?_
        go_region_with (go_at_call 58; refine HR.out.mono ?_; rintro e w2 ⟨rfl, hwent⟩; have HWent := hide hwent; clear hwent)
        all_goals
          go_wp2
          obtain ⟨hS2, hx2⟩ := (srv_drew HS.out).went (show (tick st).nodes[sp.n]? = some x from Hxn.out) Hq.1 Hq.2 HWent.out
          have st2 := hS2.fids k hk
          rw [Hfa.out] at st2
          obtain ⟨p2, q7, q8, _⟩ := st2
          have hsF := hS2.blk.own
          refine leaves_cons (f := 57) (args := #[.pointer (some ⟨s, 7 + k * 2, none⟩)]) (by simp) (by simp [go_sem]) ?_
          refine (giveUp_deferred s k _ _ .returning _ q7 q8 hS2.blk.fz).mono ?_
          rintro e u' w3 ⟨rfl, rfl, rfl⟩
          have hset : SrvHas ((w2.setCell ⟨s, 7 + k * 2, none⟩ (.pointer none)).setCell ⟨s, 7 + k * 2 + 1, none⟩ (.bool false)) (ext F w w1) s (mDrop (setNode (tick st) sp.n (goneNd x)) i) 1 t L bv :=
            hS2.setStand (st' := mDrop (setNode (tick st) sp.n (goneNd x)) i) hk (o := none) ⟨rfl, rfl⟩ rfl rfl rfl (fun m => by rw [fidAt_drop (st := setNode (tick st) sp.n (goneNd x)) ⟨ok.tick.fids.once, ok.tick.fids.small⟩ Hi.out m, Hn.out])
          have hxx : Ext F w ((w2.setCell ⟨s, 7 + k * 2, none⟩ (.pointer none)).setCell ⟨s, 7 + k * 2 + 1, none⟩ (.bool false)) := by
            have ho : F s ∨ w.heap.size ≤ s := by rcases hsF with h | h; exact .inl h; exact .inr h.1
            have hx3 : Ext F w w2 := by
              have z1 := hx.out.size
              exact ⟨hx2.os.trans hx.out.os, hx2.tape.trans hx.out.tape, hx2.output.trans hx.out.output, Nat.le_trans z1 hx2.size, fun j hj hF => (hx2.block j (Nat.lt_of_lt_of_le hj z1) (fun q => by rcases q with q | q; exact hF q; omega)).trans (hx.out.block j hj hF)⟩
            exact (hx3.setCell ho _).setCell ho _
          have hz2 : w1.heap.size ≤ w2.heap.size := hx2.size
          have hD : Held ((w2.setCell ⟨s, 7 + k * 2, none⟩ (.pointer none)).setCell ⟨s, 7 + k * 2 + 1, none⟩ (.bool false)) (ext F w ((w2.setCell ⟨s, 7 + k * 2, none⟩ (.pointer none)).setCell ⟨s, 7 + k * 2 + 1, none⟩ (.bool false))) s (setNode (mDrop (tick st) i) sp.n (goneNd x)) :=
            ⟨t, L, bv, hset.mono (ext_mono (by simpa using hz2))⟩
          refine leaves_cons (f := 43) (args := #[.pointer (some ⟨s, 0, none⟩)]) (by simp [settle]) (by simp [go_sem]) ?_
          refine (leave_deferred .returning hD).mono ?_
          rintro e u' w'' ⟨rfl, rfl, rfl⟩
          refine ⟨_, results_tmp rfl _ _ _, ?_⟩
          exact PEnds.close H.out hD hxx
    · rw [if_neg hE] at H
      have HR := hide (remove_err hSd.tree Tt ok.tick (show (tick st).nodes[sp.n]? = some x from hxn) hE)
      rw [show removeE (tick st) sp.n x = removeE st sp.n x from rfl] at HR
      generalize removeE st sp.n x = c at H HR
      rcases nodeV_cases L sp.n with e | e
      all_goals
        rw [e] at d0 HR
        clear hf hi ha hp hn hS hSd hsp hxn e hE
        go_wp2_with (go_at_call 45; refine (standing_some s k p hk _ c7).mono ?_; rintro e w' ⟨rfl, hw⟩; obtain rfl := hw.symm)
        refine wp_strict ?_
        go_region_with (go_at_call 58; refine HR.out.mono ?_; rintro e w2 ⟨rfl, hb⟩; have HB := hide hb; clear hb)
        all_goals
          go_wp2
          have hb2 : Below w1.heap.size w1 w2 := ((Below.refl _ w1).drew).trans HB.out
          have hS2 : SrvHas w2 (ext F w w1) s (tick st) 1 t L bv := HS.out.below hb2
          have hx2 : Ext F w w2 := hx.out.trans' (Ext.below hb2)
          have q7 := (hb2.cell (p := ⟨s, 7 + k * 2, none⟩) hslt).trans c7
          have q8 := (hb2.cell (p := ⟨s, 7 + k * 2 + 1, none⟩) hslt).trans c8
          have hsF := hS2.blk.own
          refine leaves_cons (f := 57) (args := #[.pointer (some ⟨s, 7 + k * 2, none⟩)]) (by simp) (by simp [go_sem]) ?_
          refine (giveUp_deferred s k _ _ .returning _ q7 q8 hS2.blk.fz).mono ?_
          rintro e u' w3 ⟨rfl, rfl, rfl⟩
          have hset : SrvHas ((w2.setCell ⟨s, 7 + k * 2, none⟩ (.pointer none)).setCell ⟨s, 7 + k * 2 + 1, none⟩ (.bool false)) (ext F w w1) s (mDrop (tick st) i) 1 t L bv :=
            hS2.setStand (st' := mDrop (tick st) i) hk (o := none) ⟨rfl, rfl⟩ rfl rfl rfl (fun m => by rw [fidAt_drop ok.tick.fids Hi.out m, Hn.out])
          have hxx : Ext F w ((w2.setCell ⟨s, 7 + k * 2, none⟩ (.pointer none)).setCell ⟨s, 7 + k * 2 + 1, none⟩ (.bool false)) := by
            have ho : F s ∨ w.heap.size ≤ s := by rcases hsF with h | h; exact .inl h; exact .inr h.1
            exact (hx2.setCell ho _).setCell ho _
          have hz2 : w1.heap.size ≤ w2.heap.size := hb2.size
          have hD : Held ((w2.setCell ⟨s, 7 + k * 2, none⟩ (.pointer none)).setCell ⟨s, 7 + k * 2 + 1, none⟩ (.bool false)) (ext F w ((w2.setCell ⟨s, 7 + k * 2, none⟩ (.pointer none)).setCell ⟨s, 7 + k * 2 + 1, none⟩ (.bool false))) s (mDrop (tick st) i) :=
            ⟨t, L, bv, hset.mono (ext_mono (by simpa using hz2))⟩
          refine leaves_cons (f := 43) (args := #[.pointer (some ⟨s, 0, none⟩)]) (by simp [settle]) (by simp [go_sem]) ?_
          refine (leave_deferred .returning hD).mono ?_
          rintro e u' w'' ⟨rfl, rfl, rfl⟩
          refine ⟨_, results_tmp rfl _ _ _, ?_⟩
          exact PEnds.close H.out hD hxx
end Go.Proofs.YtdmdgnghaceibaaGreat.P
/- The reference's Remove. -/
namespace Go.Proofs.YtdmdgnghaceibaaGreat.P
open M Go.ChangeShapes Go.WideShapes Go.ChangeAt Go.RowKit
set_option linter.unusedVariables false

set_option maxRecDepth 20000 in
set_option maxHeartbeats 2000000 in
theorem rremove_any {w : World} {F : Nat → Prop} {r : Nat} {st : St} (n : Int) (h : RefIs w F r st) (pok : POk st) (hu : UniqL st.nodes) (hnod : st.nodes.length ≤ 1700000000000) :
    Calls Tryz.prog 109 #[.pointer (some ⟨r, 0, none⟩), .int .i64 n] w fun e w' => Ends w F r (mRemove st n) e w' := by
  have ok : StOk st := ⟨pok.pos, fun f hf => ⟨(pok.way f hf).1, fun s hs => ⟨((pok.way f hf).2 s hs).1, fun m hm => (((pok.way f hf).2 s hs).2.1 m hm).1⟩⟩, fun l hl m hm => ((pok.laid l hl).1 m hm).1, FidsOk.few pok.fids⟩
  cases hf : find st n with
  | none =>
    have H := hide (show mRemove st n = (tick st, 2) by simp [mRemove, hf])
    go_enter Tryz.func109, Tryz.ntmps109
    go_wp2_with fail
    refine (call_any n h).mono ?_
    rintro e w1 ⟨rfl, h1, hx, hsz⟩
    have H1 := hide h1
    have Hx := hide hx
    rw [hf]
    clear hf h h1 hx hsz
    simp only [idxV]
    go_wp2
    go_ret
    exact Ends.same H.out rfl H1.out Hx.out (Below.refl _ _)
  | some i =>
    obtain ⟨f, hfi, _⟩ := find_some hf
    have hi := M.lt_of_getElem? hfi
    have hmem := List.mem_of_getElem? hfi
    obtain ⟨s, hs, hsn, hrok, hno⟩ := ok.last hmem
    obtain ⟨x, hx⟩ := getElem?_of_lt hsn
    have HD := hide (mRemove_eq hf hfi (by rw [hno]; exact hx))
    rw [hno] at HD
    have i0 : (0 : Int) ≤ (i : Int) := by omega
    have i1 : (i : Int) < (st.fids.length : Int) := by omega
    have hfl : st.fids.length ≤ 100000 := by have := ok.few; omega
    go_enter Tryz.func109, Tryz.ntmps109
    go_wp2_with fail
    refine (call_any n h).mono ?_
    rintro e w1 ⟨rfl, h1, hx1, hsz⟩
    have H1 := hide h1
    have Hx := hide hx1
    have Hsz := hide hsz
    rw [hf]
    clear hf h hx1 hsz
    simp only [idxV]
    obtain ⟨nv, lv, fv, hR⟩ := h1
    obtain ⟨fg, fcap, wv, rfl, hfm, hFg, _, hway, _, cw, co, cfz⟩ := FidsIs.at (fids := st.fids) hR.fids i f hfi
    obtain ⟨gw, wcap, rao, rc, rfl, hwpos, hwmax, hrow, s0, s1⟩ := hway.last s hs
    have c2 := hR.c2
    have Hspot := hide (spot_core fg (i * 3) gw f.way.length wcap s.n rao s.row.length rc w1 hwpos hwmax cw s0 s1)
    have Hfi := hide hfi
    have HX := hide hx
    have Hpok := hide pok
    have Hu := hide hu
    have hfd : ∀ (u : Value) (W : World), (Instr.field 212 (.agg #[.int .i64 s.n, u]) 0).run Tryz.prog W = .ok (.int .i64 s.n) W := fun _ _ => by kernel_rfl
    unfold maxLen at hfm
    clear hR cfz hfi hs hFg hway hrow hx cw co s0 s1 pok hu hrok
    go_wp2_with fail
    refine Hspot.out.mono ?_
    rintro e w2 ⟨rfl, hb2⟩
    have HB2 := hide hb2
    have Hdrop := hide (drop_any (st := tick st) i hi (H1.out.below hb2) hfl)
    clear hb2 Hspot
    go_wp2_with fail
    refine Hdrop.out.mono ?_
    rintro e w3 ⟨rfl, h3, hx3, _⟩
    have H3 := hide h3
    have HX3 := hide (Hx.out.trans' ((Ext.below HB2.out).trans' hx3))
    have HF3 := hide (show ∀ k, ext F w2 w3 k → ext F w w3 k from fun k hk => by
      rcases hk with hk | hk
      · exact .inl hk
      · exact .inr ⟨by have := HB2.out.size; have := Hsz.out; omega, hk.2⟩)
    clear hx3 Hdrop
    obtain ⟨nv3, lv3, fv3, hR3⟩ := h3
    obtain ⟨g, cap, rfl, hmax, hFn, hb, hcell, hfz⟩ := hR3.nodesAt (show 0 < (mDrop (tick st) i).nodes.length from ok.pos)
    have hc0 : w3.cell? ⟨r, 0, none⟩ = some (.slice (some ⟨g, 0, none⟩) st.nodes.length cap) := hR3.c0
    obtain ⟨_, d1, _, _, _, d5⟩ := hcell s.n x HX.out
    have HR3 := hide hR3
    have HFn := hide hFn
    have b1 : (s.n : Int) < (st.nodes.length : Int) := by omega
    have b3 : (0 : Int) ≤ (s.n : Int) := by omega
    have hmax' : st.nodes.length ≤ maxLen := hmax
    unfold maxLen at hmax'
    have HBusy := hide (busy_any (F := ext F w2 w3) (r := r) (st := mDrop (tick st) i) s.n H3.out ok.pos hnod Hu.out (names_few (mDrop_ok Hpok.out.tick i) s.n))
    rw [show mBusy (mDrop (tick st) i) s.n = mBusy st s.n from rfl] at HBusy
    clear hR3 hcell hFn hb hmax
    cases hxg : x.gone with
    | true =>
      rw [hxg] at d5
      have HH := hide (show mRemove st n = (mDrop (tick st) i, 4) by rw [HD.out]; simp [removeE, hxg])
      clear hxg HD hfz
      go_wp2
      go_ret
      refine ⟨by rw [HH.out]; rfl, ?_, HX3.out⟩
      rw [HH.out]
      exact H3.out.mono HF3.out
    | false =>
      rw [hxg] at d5
      by_cases h0 : s.n = 0
      · have HH := hide (show mRemove st n = (mDrop (tick st) i, 9) by rw [HD.out]; simp [removeE, hxg, h0])
        have hq : ((s.n : Int) == 0) = true := by simp [h0]
        clear hxg HD hfz h0
        go_wp2
        go_ret
        refine ⟨by rw [HH.out]; rfl, ?_, HX3.out⟩
        rw [HH.out]
        exact H3.out.mono HF3.out
      · have hq : ((s.n : Int) == 0) = false := by simp; omega
        have H0 := hide h0
        clear h0
        go_wp2_with fail
        refine HBusy.out.mono ?_
        rintro e w4 ⟨rfl, hb4⟩
        have HB4 := hide hb4
        have e0 : w4.cell? ⟨r, 0, none⟩ = some (.slice (some ⟨g, 0, none⟩) st.nodes.length cap) := (hb4.cell (World.block_lt_of_cell? w3 _ hc0)).trans hc0
        have e1 : w4.cell? ⟨g, s.n * 6 + 1, none⟩ = some (.bool x.dir) := (hb4.cell (World.block_lt_of_cell? w3 _ d1)).trans d1
        have e5 : w4.cell? ⟨g, s.n * 6 + 5, none⟩ = some (.bool false) := (hb4.cell (World.block_lt_of_cell? w3 _ d5)).trans d5
        have z5 : w4.frozen? ⟨g, s.n * 6 + 5, none⟩ = false := (hb4.frozen (World.block_lt_of_cell? w3 ⟨g, s.n * 6 + 5, none⟩ d5)).trans (hfz _)
        have HX4 := hide (HX3.out.trans' (Ext.below hb4))
        have hz4 := hb4.size
        have HF4 := hide (show ∀ k, ext F w2 w3 k → ext F w w4 k from fun k hk => by
          rcases HF3.out k hk with hk | hk
          · exact .inl hk
          · exact .inr ⟨hk.1, by omega⟩)
        have HR4 : Hid (RefHas w4 (ext F w2 w3) r (mDrop (tick st) i) (.slice (some ⟨g, 0, none⟩) (mDrop (tick st) i).nodes.length cap) lv3 fv3) := hide (by
          have hk : KeepT (fun _ => True) (ext F w2 w3) w3 w4 := KeepT.below hb4
          have hR := HR3.out
          exact ⟨(hk r _ _ hR.own hR.blk trivial).trans hR.blk, hR.own, hR.nodes.keepT hk trivial, hR.laid.keepT hk trivial trivial, hR.fids.keepT hk trivial trivial trivial⟩)
        clear hb4 hz4 hfz hc0 d1 d5
        cases hxd : x.dir with
        | true =>
          rw [hxd] at e1
          cases hb : mBusy st s.n with
          | true =>
            have HH := hide (show mRemove st n = (mDrop (tick st) i, 10) by rw [HD.out]; simp [removeE, hxg, H0.out, hxd, hb])
            clear hxg HD hxd hb
            go_wp2
            go_ret
            refine ⟨by rw [HH.out]; rfl, ?_, HX4.out⟩
            rw [HH.out]
            exact (H3.out.below HB4.out).mono HF4.out
          | false =>
            have HH := hide (show mRemove st n = (setNode (mDrop (tick st) i) s.n (goneNd x), 0) by rw [HD.out]; simp [removeE, hxg, H0.out, hb])
            clear hxg HD hxd hb
            go_wp2
            go_ret
            refine ⟨by rw [HH.out]; rfl, ?_, HX4.out.setCell (by rcases HF4.out g HFn.out with q | q; exact .inl q; exact .inr q.1) _⟩
            rw [HH.out]
            exact RefIs.mono ⟨_, _, _, HR4.out.setNode (k := 5) (v := .bool true) (x' := goneNd x) HX.out (by omega) rfl⟩ (fun k hk => by rcases HF4.out k hk with q | q; exact .inl q; exact .inr ⟨q.1, by simpa using q.2⟩)
        | false =>
          rw [hxd] at e1
          have HH := hide (show mRemove st n = (setNode (mDrop (tick st) i) s.n (goneNd x), 0) by rw [HD.out]; simp [removeE, hxg, H0.out, hxd])
          generalize mBusy st s.n = bb
          clear hxg HD hxd
          go_wp2
          go_ret
          refine ⟨by rw [HH.out]; rfl, ?_, HX4.out.setCell (by rcases HF4.out g HFn.out with q | q; exact .inl q; exact .inr q.1) _⟩
          rw [HH.out]
          exact RefIs.mono ⟨_, _, _, HR4.out.setNode (k := 5) (v := .bool true) (x' := goneNd x) HX.out (by omega) rfl⟩ (fun k hk => by rcases HF4.out k hk with q | q; exact .inl q; exact .inr ⟨q.1, by simpa using q.2⟩)
end Go.Proofs.YtdmdgnghaceibaaGreat.P
/- Both halves: Remove. -/
namespace Go.Proofs.YtdmdgnghaceibaaGreat.P
open M Go.ChangeShapes Go.WideShapes Go.ChangeAt Go.RowKit
set_option linter.unusedVariables false

set_option maxRecDepth 20000 in
set_option maxHeartbeats 1000000 in
theorem turned_remove {w : World} {X : Nat → Prop} {b : Nat} {st : St} (k fid a bb : Int) (text : ByteArray) (yes : Bool) (ao : Option Addr) (nl nc : Nat) (h : BothIs w X b st) (ok : POk st) (T : Treed st) (hnod : st.nodes.length ≤ 1700000000000) :
    Calls Tryz.prog 65 #[.pointer (some ⟨b, 0, none⟩), .agg #[.int .i64 10, .int .i64 k, .int .i64 fid, .int .i64 a, .int .i64 bb, .string text, .bool yes, .slice ao nl nc]] w fun e w' => e = .returned (.bool true) ∧ BothIs w' X b (mRemove st fid).1 ∧ Ext X w w' := by
  obtain ⟨s, r, F, G, h⟩ := h
  have c0 := h.c0
  have c1 := h.c1
  have H := hide h
  have Hok := hide ok
  have HTr := hide T
  have HBox := hide (show ¬ F w.heap.size from fun hk => by have := (h.lo _ (.inl hk)).2; omega)
  have HbF := hide h.bF
  clear h ok T
  have u0 := fun o => up c0 o
  have u1 := fun o => up c1 o
  go_enter Tryz.func65, Tryz.ntmps65
  go_wp2
  go_cut [5] (fun s5 wc => s5 = .int .i64 (mRemove st fid).2 ∧ Ext X w wc ∧ (∃ F', TwoIs wc X b s r F' G (mRemove st fid).1 st) ∧ wc.cell? ⟨w.heap.size, 2, none⟩ = some (.int .i64 fid))
  case first =>
    go_region_with (go_at_call 21; refine (sremove_any (F := F) (st := st) fid ?_ Hok.out HTr.out).mono ?_; exact (H.out.below (((Below.refl _ w).alloc (Nat.le_refl _) _).drew)).srv; rintro e w2 ⟨rfl, hs2, hx2⟩; have HS2 := hide hs2; have HX := hide hx2; have q2 : w2.cell? ⟨w.heap.size, 2, none⟩ = some (.int .i64 fid) := ext_cell HX.out HBox.out (by simp); clear hs2 hx2)
    all_goals go_wp2
    all_goals go_meet
    all_goals
      have hT2 := (H.out.below (((Below.refl _ w).alloc (Nat.le_refl _) (.cells #[.int .i64 10, .int .i64 k, .int .i64 fid, .int .i64 a, .int .i64 bb, .string text, .bool yes, .slice ao nl nc] 57)).drew)).srvStep HS2.out HX.out
      have e1 : Ext X w ((w.alloc (.cells #[.int .i64 10, .int .i64 k, .int .i64 fid, .int .i64 a, .int .i64 bb, .string text, .bool yes, .slice ao nl nc] 57)).drew) := Ext.below (((Below.refl _ w).alloc (Nat.le_refl _) _).drew)
      have e2 := HX.out.weak (fun k hk => (H.out.lo k (.inl hk)).1)
      exact ⟨rfl, e1.trans' e2, ⟨_, hT2⟩, q2⟩
  case rest =>
    obtain ⟨rfl, hbc, ⟨F', hT⟩, q2⟩ := hcut
    have v1 := hT.c1
    have HT := hide hT
    have HBc := hide hbc
    clear hT hbc
    go_wp2
    go_region_with (go_at_call 109; refine (rremove_any (F := G) (st := st) fid ?_ Hok.out HTr.out.uniq hnod).mono ?_; exact HT.out.ref.drew; rintro e w3 ⟨rfl, hr3, hx3⟩; have HR3 := hide hr3; have HX3 := hide hx3; clear hr3 hx3)
    all_goals
      have hT3 := (HT.out.below ((Below.refl _ wc).drew)).refStep HR3.out HX3.out
      have e3 := HX3.out.weak (fun k hk => (HT.out.lo k (.inr hk)).1)
      have HT2 := hide hT3
      have HBd := hide (HBc.out.trans' (((Ext.refl X wc).drew).trans' e3))
      clear hT3 e3
      go_wp2_with (go_at_call 27; refine (num_any _ _).mono ?_; rintro e w' ⟨rfl, hw⟩; obtain rfl := hw.symm)
      go_ret
      exact ⟨by simp, ⟨s, r, _, _, HT2.out⟩, HBd.out⟩

end Go.Proofs.YtdmdgnghaceibaaGreat.P
/- The reference's 'Stat'. -/
namespace Go.Proofs.YtdmdgnghaceibaaGreat
open M Go.ChangeShapes Go.WideShapes Go.ChangeAt Go.RowKit
set_option linter.unusedVariables false

def statV (r : StatR) : Value := .agg #[.string r.name, .bool r.dir, .int .i64 r.size, .int .i64 r.version, .int .i64 r.row]

def Ends3 (w : World) (F : Nat → Prop) (r : Nat) (p : St × StatR × Int) (e : Ending) (w' : World) : Prop := e = .returned (.tuple #[statV p.2.1, .int .i64 p.2.2]) ∧ RefIs w' (ext F w w') r p.1 ∧ Ext F w w'

/-- Five cells of a block are stored one behind the other. -/
theorem five (W : World) (b : Nat) (x0 x1 x2 x3 x4 v0 v1 v2 v3 v4 : Value) (e0 : W.cell? ⟨b, 0, none⟩ = some x0) (e1 : W.cell? ⟨b, 1, none⟩ = some x1) (e2 : W.cell? ⟨b, 2, none⟩ = some x2) (e3 : W.cell? ⟨b, 3, none⟩ = some x3) (e4 : W.cell? ⟨b, 4, none⟩ = some x4) :
    (W.setCell ⟨b, 0, none⟩ v0).cell? ⟨b, 0, none⟩ = some v0 ∧ ((W.setCell ⟨b, 0, none⟩ v0).setCell ⟨b, 1, none⟩ v1).cell? ⟨b, 1, none⟩ = some v1 ∧ (((W.setCell ⟨b, 0, none⟩ v0).setCell ⟨b, 1, none⟩ v1).setCell ⟨b, 2, none⟩ v2).cell? ⟨b, 2, none⟩ = some v2 ∧
    ((((W.setCell ⟨b, 0, none⟩ v0).setCell ⟨b, 1, none⟩ v1).setCell ⟨b, 2, none⟩ v2).setCell ⟨b, 3, none⟩ v3).cell? ⟨b, 3, none⟩ = some v3 ∧ (((((W.setCell ⟨b, 0, none⟩ v0).setCell ⟨b, 1, none⟩ v1).setCell ⟨b, 2, none⟩ v2).setCell ⟨b, 3, none⟩ v3).setCell ⟨b, 4, none⟩ v4).cell? ⟨b, 4, none⟩ = some v4 := by
  have o : ∀ (X : World) (i j : Nat) (u : Value), i ≠ j → (X.setCell ⟨b, i, none⟩ u).cell? ⟨b, j, none⟩ = X.cell? ⟨b, j, none⟩ := fun X i j u h => World.cell?_setCell_other X ⟨b, i, none⟩ ⟨b, j, none⟩ u (fun e' => h (congrArg Addr.off e'))
  refine ⟨World.cell?_setCell_same W _ _ e0, World.cell?_setCell_same _ _ _ ((o _ 0 1 _ (by decide)).trans e1), World.cell?_setCell_same _ _ _ ((o _ 1 2 _ (by decide)).trans ((o _ 0 2 _ (by decide)).trans e2)),
    World.cell?_setCell_same _ _ _ ((o _ 2 3 _ (by decide)).trans ((o _ 1 3 _ (by decide)).trans ((o _ 0 3 _ (by decide)).trans e3))), World.cell?_setCell_same _ _ _ ((o _ 3 4 _ (by decide)).trans ((o _ 2 4 _ (by decide)).trans ((o _ 1 4 _ (by decide)).trans ((o _ 0 4 _ (by decide)).trans e4))))⟩

/-- The place of a Stat that was laid ahead of all, in a later world. -/
theorem stat_block {w w1 : World} {F : Nat → Prop} (hF : ∀ k, F k → k < w.heap.size) (hx : Ext F (w.alloc (.cells #[.string ⟨#[]⟩, .bool false, .int .i64 0, .int .i64 0, .int .i64 0] 39)) w1) :
    w1.heap[w.heap.size]? = some (.cells #[.string ⟨#[]⟩, .bool false, .int .i64 0, .int .i64 0, .int .i64 0] 39 (0, 0)) :=
  (hx.block w.heap.size (by simp) (fun h => by have := hF _ h; omega)).trans (heap_alloc_new w _)

theorem stat_end {w W : World} {F : Nat → Prop} {r : Nat} {st' : St} {w1 : World} (hx : Ext F w W) (hR : RefIs w1 F r st') (hb : Below w1.heap.size w1 W) (hz : w.heap.size < w1.heap.size) (hF : ∀ k, F k → k < w.heap.size) (v0 v1 v2 v3 v4 : Value) :
    RefIs (((((W.setCell ⟨w.heap.size, 0, none⟩ v0).setCell ⟨w.heap.size, 1, none⟩ v1).setCell ⟨w.heap.size, 2, none⟩ v2).setCell ⟨w.heap.size, 3, none⟩ v3).setCell ⟨w.heap.size, 4, none⟩ v4) (ext F w (((((W.setCell ⟨w.heap.size, 0, none⟩ v0).setCell ⟨w.heap.size, 1, none⟩ v1).setCell ⟨w.heap.size, 2, none⟩ v2).setCell ⟨w.heap.size, 3, none⟩ v3).setCell ⟨w.heap.size, 4, none⟩ v4)) r st' ∧
      Ext F w (((((W.setCell ⟨w.heap.size, 0, none⟩ v0).setCell ⟨w.heap.size, 1, none⟩ v1).setCell ⟨w.heap.size, 2, none⟩ v2).setCell ⟨w.heap.size, 3, none⟩ v3).setCell ⟨w.heap.size, 4, none⟩ v4) := by
  have hk : ∀ (X : World) (j : Nat) (u : Value), RefIs X F r st' → RefIs (X.setCell ⟨w.heap.size, j, none⟩ u) F r st' := fun X j u h => h.kept (fun k cur e hFk hb' _ => Below.heap_setCell X _ u k (fun e' => by have := hF k hFk; simp at e'; omega))
  refine ⟨RefIs.mono (hk _ 4 v4 (hk _ 3 v3 (hk _ 2 v2 (hk _ 1 v1 (hk _ 0 v0 (hR.below hb)))))) (fun k h => .inl h), ?_⟩
  exact ((((hx.setCell (.inr (Nat.le_refl _)) _).setCell (.inr (Nat.le_refl _)) _).setCell (.inr (Nat.le_refl _)) _).setCell (.inr (Nat.le_refl _)) _).setCell (.inr (Nat.le_refl _)) _

set_option maxRecDepth 20000 in
set_option maxHeartbeats 2000000 in
theorem stat_any {w : World} {F : Nat → Prop} {r : Nat} {st : St} (n : Int) (h : RefIs w F r st) (ok : StOk st) (hF : ∀ k, F k → k < w.heap.size) :
    Calls Tryz.prog 117 #[.pointer (some ⟨r, 0, none⟩), .int .i64 n] w fun e w' => Ends3 w F r (mStat st n) e w' := by
  cases hf : find st n with
  | none =>
    have H := hide (show mStat st n = (tick st, noStat, 2) by simp [mStat, hf])
    go_enter Tryz.func117, Tryz.ntmps117
    go_wp2_with fail
    refine (call_any n (h.alloc _)).mono ?_
    rintro e w1 ⟨rfl, h1, hx, hsz⟩
    have H1 := hide h1
    have Hx := hide hx
    have hblk := stat_block hF hx
    have s0 : w1.cell? ⟨w.heap.size, 0, none⟩ = some (.string ⟨#[]⟩) := by simp [World.cell?, hblk]
    have s1 : w1.cell? ⟨w.heap.size, 1, none⟩ = some (.bool false) := by simp [World.cell?, hblk]
    have s2 : w1.cell? ⟨w.heap.size, 2, none⟩ = some (.int .i64 0) := by simp [World.cell?, hblk]
    have s3 : w1.cell? ⟨w.heap.size, 3, none⟩ = some (.int .i64 0) := by simp [World.cell?, hblk]
    have s4 : w1.cell? ⟨w.heap.size, 4, none⟩ = some (.int .i64 0) := by simp [World.cell?, hblk]
    have sf : ∀ j, w1.frozen? ⟨w.heap.size, j, none⟩ = false := fun j => by simp [World.frozen?, hblk]
    have Hz : Hid (w.heap.size < w1.heap.size) := hide (by rw [hsz]; simp)
    rw [hf]
    clear hf h h1 hsz hx hblk
    simp only [idxV]
    go_wp2
    obtain ⟨q0, q1, q2, q3, q4⟩ := five w1 w.heap.size _ _ _ _ _ (.string ⟨#[]⟩) (.bool false) (.int .i64 0) (.int .i64 0) (.int .i64 0) s0 s1 s2 s3 s4
    have hend := stat_end (((Ext.refl F w).alloc _).trans' Hx.out) H1.out (Below.refl _ _) Hz.out hF (.string ⟨#[]⟩) (.bool false) (.int .i64 0) (.int .i64 0) (.int .i64 0)
    refine bodyPost_ret (v := .tuple #[statV noStat, .int .i64 2]) (by simp [results, Tryz.results117, go_sem, q0, q1, q2, q3, q4, statV, noStat]) rfl ?_
    unfold Ends3
    rw [H.out]
    exact ⟨rfl, hend⟩
  | some i =>
    obtain ⟨f, hfi, _⟩ := find_some hf
    have hi := M.lt_of_getElem? hfi
    obtain ⟨s, hs, hsn, hrok, hno⟩ := ok.last (List.mem_of_getElem? hfi)
    obtain ⟨x, hx⟩ := getElem?_of_lt hsn
    have H := hide (show mStat st n = if x.gone then (tick st, noStat, (4 : Int)) else if x.dir then (tick st, ⟨x.name, true, 0, 0, liveRow st s.row⟩, 0) else (tick st, ⟨x.name, false, x.data.size, x.version, 0⟩, 0) by simp only [mStat, hf, hfi, hs, hx])
    have i0 : (0 : Int) ≤ (i : Int) := by omega
    have i1 : (i : Int) < (st.fids.length : Int) := by omega
    go_enter Tryz.func117, Tryz.ntmps117
    go_wp2_with fail
    refine (call_any n (h.alloc _)).mono ?_
    rintro e w1 ⟨rfl, h1, hx1, hsz⟩
    have H1 := hide h1
    have Hx := hide hx1
    have hblk := stat_block hF hx1
    have Hblk := hide hblk
    have Hz : Hid (w.heap.size < w1.heap.size) := hide (by rw [hsz]; simp)
    rw [hf]
    clear hf h hsz hx1
    simp only [idxV]
    obtain ⟨nv, lv, fv, hR⟩ := h1
    obtain ⟨g, cap, rfl, hmax, _, _, hcell, hfz⟩ := hR.nodesAt ok.pos
    obtain ⟨fg, fcap, wv, rfl, hfm, _, _, hway, _, cw, co, _⟩ := FidsIs.at (fids := st.fids) hR.fids i f hfi
    obtain ⟨gw, wcap, rao, rc, rfl, hwpos, hwmax, hrow, t0, t1⟩ := hway.last s hs
    have c2 := hR.c2
    have hc0 : w1.cell? ⟨r, 0, none⟩ = some (.slice (some ⟨g, 0, none⟩) st.nodes.length cap) := hR.c0
    obtain ⟨x0, x1, _, x3, x4, x5⟩ := hcell s.n x hx
    have Hrow := hide hrow
    have Hnode := hide (node_any (st := tick st) i f s hfi hs hsn H1.out)
    have Hspot := hide (fun (W : World) (a1 : W.cell? ⟨fg, i * 3 + 1, none⟩ = some (.slice (some ⟨gw, 0, none⟩) f.way.length wcap)) (a2 : W.cell? ⟨gw, (f.way.length - 1) * 2, none⟩ = some (.int .i64 s.n)) (a3 : W.cell? ⟨gw, (f.way.length - 1) * 2 + 1, none⟩ = some (.slice rao s.row.length rc)) => spot_core fg (i * 3) gw f.way.length wcap s.n rao s.row.length rc W hwpos hwmax a1 a2 a3)
    have Hrok := hide hrok
    unfold maxLen at hmax hfm
    clear hR hcell hfz hx hfi hs hway hrow
    go_wp2_with fail
    refine Hnode.out.mono ?_
    rintro e w2 ⟨g', cap', hcc, rfl, hb2⟩
    have hgg : g' = g := by rw [hc0] at hcc; simp at hcc; exact hcc.1.symm
    subst hgg
    have HB2 := hide hb2
    have hblk2 := (hb2.block w.heap.size (by have := Hz.out; omega)).trans Hblk.out
    have s0 : w2.cell? ⟨w.heap.size, 0, none⟩ = some (.string ⟨#[]⟩) := (by simp [World.cell?, hblk2])
    have s1 : w2.cell? ⟨w.heap.size, 1, none⟩ = some (.bool false) := (by simp [World.cell?, hblk2])
    have s2 : w2.cell? ⟨w.heap.size, 2, none⟩ = some (.int .i64 0) := (by simp [World.cell?, hblk2])
    have s3 : w2.cell? ⟨w.heap.size, 3, none⟩ = some (.int .i64 0) := (by simp [World.cell?, hblk2])
    have s4 : w2.cell? ⟨w.heap.size, 4, none⟩ = some (.int .i64 0) := (by simp [World.cell?, hblk2])
    have sf : ∀ j, w2.frozen? ⟨w.heap.size, j, none⟩ = false := (fun j => by simp [World.frozen?, hblk2])
    have y0 : w2.cell? ⟨g', s.n * 6, none⟩ = some (.string x.name) := (hb2.cell (World.block_lt_of_cell? w1 _ x0)).trans x0
    have y1 : w2.cell? ⟨g', s.n * 6 + 1, none⟩ = some (.bool x.dir) := (hb2.cell (World.block_lt_of_cell? w1 _ x1)).trans x1
    have y3 : w2.cell? ⟨g', s.n * 6 + 3, none⟩ = some (.string x.data) := (hb2.cell (World.block_lt_of_cell? w1 _ x3)).trans x3
    have y4 : w2.cell? ⟨g', s.n * 6 + 4, none⟩ = some (.int .i64 x.version) := (hb2.cell (World.block_lt_of_cell? w1 _ x4)).trans x4
    have y5 : w2.cell? ⟨g', s.n * 6 + 5, none⟩ = some (.bool x.gone) := (hb2.cell (World.block_lt_of_cell? w1 _ x5)).trans x5
    have z2 : w2.cell? ⟨r, 2, none⟩ = some (.slice (some ⟨fg, 0, none⟩) st.fids.length fcap) := (hb2.cell (World.block_lt_of_cell? w1 _ c2)).trans c2
    have zw : w2.cell? ⟨fg, i * 3 + 1, none⟩ = some (.slice (some ⟨gw, 0, none⟩) f.way.length wcap) := (hb2.cell (World.block_lt_of_cell? w1 _ cw)).trans cw
    have zt0 : w2.cell? ⟨gw, (f.way.length - 1) * 2, none⟩ = some (.int .i64 s.n) := (hb2.cell (World.block_lt_of_cell? w1 _ t0)).trans t0
    have zt1 : w2.cell? ⟨gw, (f.way.length - 1) * 2 + 1, none⟩ = some (.slice rao s.row.length rc) := (hb2.cell (World.block_lt_of_cell? w1 _ t1)).trans t1
    clear hb2 hcc hblk hblk2 x0 x1 x3 x4 x5 cw co t0 t1 c2
    cases hxg : x.gone with
    | true =>
      rw [hxg] at y5 H
      go_wp2
      obtain ⟨q0, q1, q2, q3, q4⟩ := five w2 w.heap.size _ _ _ _ _ (.string ⟨#[]⟩) (.bool false) (.int .i64 0) (.int .i64 0) (.int .i64 0) s0 s1 s2 s3 s4
      have hend := stat_end ((((Ext.refl F w).alloc _).trans' Hx.out).trans' (Ext.below HB2.out)) H1.out HB2.out Hz.out hF (.string ⟨#[]⟩) (.bool false) (.int .i64 0) (.int .i64 0) (.int .i64 0)
      refine bodyPost_ret (v := .tuple #[statV noStat, .int .i64 4]) (by simp [results, Tryz.results117, go_sem, q0, q1, q2, q3, q4, statV, noStat]) rfl ?_
      unfold Ends3
      rw [H.out]
      exact ⟨rfl, hend⟩
    | false =>
      rw [hxg] at y5 H
      cases hxd : x.dir with
      | false =>
        rw [hxd] at y1 H
        go_wp2
        go_region
        go_wp2
        obtain ⟨q0, q1, q2, q3, q4⟩ := five w2 w.heap.size _ _ _ _ _ (.string x.name) (.bool false) (.int .i64 x.data.size) (.int .i64 x.version) (.int .i64 0) s0 s1 s2 s3 s4
        have hend := stat_end ((((Ext.refl F w).alloc _).trans' Hx.out).trans' (Ext.below HB2.out)) H1.out HB2.out Hz.out hF (.string x.name) (.bool false) (.int .i64 x.data.size) (.int .i64 x.version) (.int .i64 0)
        refine bodyPost_ret (v := .tuple #[statV ⟨x.name, false, x.data.size, x.version, 0⟩, .int .i64 0]) (by simp [results, Tryz.results117, go_sem, q0, q1, q2, q3, q4, statV]) rfl ?_
        unfold Ends3
        rw [H.out]
        exact ⟨rfl, hend.1.drew, hend.2.drew⟩
      | true =>
        rw [hxd] at y1 H
        have hfd : ∀ (W : World), (Instr.field 212 (.agg #[.int .i64 s.n, .slice rao s.row.length rc]) 1).run Tryz.prog W = .ok (.slice rao s.row.length rc) W := fun _ => by kernel_rfl
        have Hs0 := hide s0
        clear s0 s1 s2 s3 s4 sf
        go_wp2
        go_region_with (first
          | (go_at_call 142; refine (Hspot.out _ ?_ ?_ ?_).mono ?_; exact zw; exact zt0; exact zt1; rintro e w3 ⟨rfl, hb3⟩; have HB3 : Hid (Below w1.heap.size w1 w3) := hide (HB2.out.trans ((((Below.refl _ w2).drew).trans hb3).mono HB2.out.size)); have y03 : w3.cell? ⟨g', s.n * 6, none⟩ = some (.string x.name) := (hb3.cell (World.block_lt_of_cell? w2 _ y0)).trans y0; clear hb3)
          | (go_at_call 153; refine (live_any (F := F) (st := tick st) s.row (.slice rao s.row.length rc) ?_ ok.pos ?_ Hrok.out).mono ?_; exact H1.out.below HB3.out; exact Hrow.out.keepT (KeepT.below (T := fun _ => True) HB3.out) trivial; rintro e w4 ⟨rfl, hb4⟩; have HB4 : Hid (Below w1.heap.size w1 w4) := hide (HB3.out.trans (hb4.mono HB3.out.size)); have y04 : w4.cell? ⟨g', s.n * 6, none⟩ = some (.string x.name) := (hb4.cell (World.block_lt_of_cell? w3 _ y03)).trans y03; have hblk4 := (HB4.out.block w.heap.size Hz.out).trans Hblk.out; have s0 : w4.cell? ⟨w.heap.size, 0, none⟩ = some (.string ⟨#[]⟩) := (by simp [World.cell?, hblk4]); have s1 : w4.cell? ⟨w.heap.size, 1, none⟩ = some (.bool false) := (by simp [World.cell?, hblk4]); have s2 : w4.cell? ⟨w.heap.size, 2, none⟩ = some (.int .i64 0) := (by simp [World.cell?, hblk4]); have s3 : w4.cell? ⟨w.heap.size, 3, none⟩ = some (.int .i64 0) := (by simp [World.cell?, hblk4]); have s4 : w4.cell? ⟨w.heap.size, 4, none⟩ = some (.int .i64 0) := (by simp [World.cell?, hblk4]); have sf : ∀ j, w4.frozen? ⟨w.heap.size, j, none⟩ = false := (fun j => by simp [World.frozen?, hblk4]); clear hb4 hblk4))
        all_goals
          go_wp2
          obtain ⟨q0, q1, q2, q3, q4⟩ := five w4 w.heap.size _ _ _ _ _ (.string x.name) (.bool true) (.int .i64 0) (.int .i64 0) (.int .i64 (liveRow (tick st) s.row)) s0 s1 s2 s3 s4
          have hend := stat_end ((((Ext.refl F w).alloc _).trans' Hx.out).trans' (Ext.below HB4.out)) H1.out HB4.out Hz.out hF (.string x.name) (.bool true) (.int .i64 0) (.int .i64 0) (.int .i64 (liveRow (tick st) s.row))
          refine bodyPost_ret (v := .tuple #[statV ⟨x.name, true, 0, 0, liveRow (tick st) s.row⟩, .int .i64 0]) (by simp [results, Tryz.results117, go_sem, q0, q1, q2, q3, q4, statV]) rfl ?_
          unfold Ends3
          rw [H.out]
          exact ⟨rfl, hend⟩
end Go.Proofs.YtdmdgnghaceibaaGreat
/- The program's row.count. -/
namespace Go.Proofs.YtdmdgnghaceibaaGreat.P
open M Go.ChangeShapes Go.WideShapes Go.ChangeAt Go.RowKit
set_option linter.unusedVariables false

set_option maxRecDepth 20000 in
set_option maxHeartbeats 1000000 in
theorem count_any {w : World} {F : Nat → Prop} {t : Nat} {st : St} {L : Lay} {bv : Nat → Value} (row : List Member) (v : Value) (h : TreeIs w F t st L bv) (hv : PRow w F L v row) (hok : RowDirs st row) (hlen6 : row.length ≤ 6) :
    Calls Tryz.prog 98 #[v] w fun e w' => e = .returned (.int .i64 (liveRow st row)) ∧ Below w.heap.size w w' := by
  have hnot : ∀ (x : Bool) (w : World), (Op.unary .not (.bool x)).run Tryz.prog w = .ok (.bool (!x)) w := fun _ _ => rfl
  rcases hv.opened with ⟨rfl, hn⟩ | ⟨g, cap, rfl, hcap, hmax, hF, hb, hcell, hfz⟩
  · have h0 : row = [] := List.map_eq_nil_iff.1 hn
    subst h0
    clear hv hn h hok
    go_enter Tryz.func98, Tryz.ntmps98
    go_wp2
    go_loop [3, 8] (fun n i => i = .int .i64 0 ∧ n = .int .i64 0) (fun _ _ => 0)
    case atStart => exact ⟨rfl, rfl⟩
    case round =>
      obtain ⟨rfl, rfl⟩ := hrel
      go_wp2
      go_ret
      exact ⟨rfl, Below.refl _ _⟩
  · have hlen : (row.map (mCells L)).length = row.length := by simp
    rw [hlen] at hcap hv
    rw [hlen]
    have HT := hide h
    have Hc := hide hcell
    have hglt : g < w.heap.size := by obtain ⟨cur, hb⟩ := hb; exact (Array.getElem?_eq_some_iff.1 hb).1
    have Hok := hide hok
    clear h hb hcell hfz hv hok hF hlen hmax
    go_enter Tryz.func98, Tryz.ntmps98
    go_wp2
    go_loopw [3, 8] (fun n i wr => ∃ k : Nat, k ≤ row.length ∧ i = .int .i64 k ∧ n = .int .i64 (liveRow st (row.take k)) ∧ Below w.heap.size w wr) (fun _ i _ => row.length - (intOf i).toNat)
    case atStart => exact ⟨0, Nat.zero_le _, rfl, by simp [liveRow], Below.refl _ _⟩
    case round =>
      obtain ⟨k, hk, rfl, rfl, hbel⟩ := hrel
      have Hbel := hide hbel
      have hle := liveRow_le st row k
      by_cases hlt : k < row.length
      · obtain ⟨m, hm⟩ := M.getElem?_of_lt hlt
        have hmm := List.mem_of_getElem? hm
        obtain ⟨hd, hdir⟩ := Hok.out m hmm
        obtain ⟨x, hx, D, hg2, hnlt⟩ := HT.out.member hd hdir
        have hrow : (row.map (mCells L))[k]? = some (mCells L m) := by rw [List.getElem?_map, hm]; rfl
        have r0 : wr.cell? ⟨g, k * 2, none⟩ = some (dirPtr L m.d) := (hbel.cell (p := ⟨g, k * 2, none⟩) hglt).trans (Hc.out k _ 0 _ hrow rfl)
        have r1 : wr.cell? ⟨g, k * 2 + 1, none⟩ = some (.bool m.leave) := (hbel.cell (p := ⟨g, k * 2 + 1, none⟩) hglt).trans (Hc.out k _ 1 _ hrow rfl)
        have g2 : wr.cell? ⟨L.nb m.d, 2, none⟩ = some (.bool (isGone st m.d)) := (hbel.cell (p := ⟨L.nb m.d, 2, none⟩) hnlt).trans hg2
        have Hs := hide (liveRow_snoc st row k m hm)
        unfold dirPtr at r0
        clear hm hx D hrow hbel hmm hg2
        have k0 : (0 : Int) ≤ (k : Int) := by omega
        have k1 : (k : Int) < (row.length : Int) := by omega
        have g2' := fun o => up g2 o
        have hwr : IntKind.i64.wrap ((liveRow st (row.take k) : Int) + 1) = (liveRow st (row.take k) : Int) + 1 := by simp only [IntKind.wrap_i64]; omega
        cases hgv : isGone st m.d with
        | true =>
          rw [hgv] at g2'
          go_wp2_with (go_at_call 94; refine (isGone_any _ _ _ (g2' _)).mono ?_; rintro e w' ⟨rfl, hw⟩; obtain rfl := hw.symm)
          refine ⟨⟨k + 1, by omega, by go_num, ?_, Hbel.out.alloc Hbel.out.size _⟩, by simp [intOf]; omega⟩
          rw [Hs.out, hgv]
          rfl
        | false =>
          rw [hgv] at g2'
          go_wp2_with (go_at_call 94; refine (isGone_any _ _ _ (g2' _)).mono ?_; rintro e w' ⟨rfl, hw⟩; obtain rfl := hw.symm)
          refine ⟨⟨k + 1, by omega, by go_num, ?_, Hbel.out.alloc Hbel.out.size _⟩, by simp [intOf]; omega⟩
          rw [Hs.out, hgv]
          simp
      · go_wp2
        go_ret
        refine ⟨?_, Hbel.out⟩
        rw [List.take_of_length_le (by omega)]
        rfl
end Go.Proofs.YtdmdgnghaceibaaGreat.P
/- The program's place.stat. -/
namespace Go.Proofs.YtdmdgnghaceibaaGreat.P
open M Go.ChangeShapes Go.WideShapes Go.ChangeAt Go.RowKit
set_option linter.unusedVariables false

def pStatV (r : StatR) : Value := .agg #[.string r.name, .bool r.dir, .int .i64 r.size, .int .i64 r.version, .int .i64 r.row]

theorem five (W : World) (b : Nat) (x0 x1 x2 x3 x4 v0 v1 v2 v3 v4 : Value) (e0 : W.cell? ⟨b, 0, none⟩ = some x0) (e1 : W.cell? ⟨b, 1, none⟩ = some x1) (e2 : W.cell? ⟨b, 2, none⟩ = some x2) (e3 : W.cell? ⟨b, 3, none⟩ = some x3) (e4 : W.cell? ⟨b, 4, none⟩ = some x4) :
    (W.setCell ⟨b, 0, none⟩ v0).cell? ⟨b, 0, none⟩ = some v0 ∧ ((W.setCell ⟨b, 0, none⟩ v0).setCell ⟨b, 1, none⟩ v1).cell? ⟨b, 1, none⟩ = some v1 ∧ (((W.setCell ⟨b, 0, none⟩ v0).setCell ⟨b, 1, none⟩ v1).setCell ⟨b, 2, none⟩ v2).cell? ⟨b, 2, none⟩ = some v2 ∧
    ((((W.setCell ⟨b, 0, none⟩ v0).setCell ⟨b, 1, none⟩ v1).setCell ⟨b, 2, none⟩ v2).setCell ⟨b, 3, none⟩ v3).cell? ⟨b, 3, none⟩ = some v3 ∧ (((((W.setCell ⟨b, 0, none⟩ v0).setCell ⟨b, 1, none⟩ v1).setCell ⟨b, 2, none⟩ v2).setCell ⟨b, 3, none⟩ v3).setCell ⟨b, 4, none⟩ v4).cell? ⟨b, 4, none⟩ = some v4 :=
  ⟨cell_same _ _ _ _ _ e0, cell_same _ _ _ _ _ ((cell_other _ _ _ _ _ (by decide)).trans e1), cell_same _ _ _ _ _ ((cell_other _ _ _ _ _ (by decide)).trans ((cell_other _ _ _ _ _ (by decide)).trans e2)),
    cell_same _ _ _ _ _ ((cell_other _ _ _ _ _ (by decide)).trans ((cell_other _ _ _ _ _ (by decide)).trans ((cell_other _ _ _ _ _ (by decide)).trans e3))), cell_same _ _ _ _ _ ((cell_other _ _ _ _ _ (by decide)).trans ((cell_other _ _ _ _ _ (by decide)).trans ((cell_other _ _ _ _ _ (by decide)).trans ((cell_other _ _ _ _ _ (by decide)).trans e4))))⟩

set_option maxRecDepth 20000 in
set_option maxHeartbeats 1000000 in
theorem stat_file {w : World} {p b : Nat} {name : ByteArray} {ao : Option Addr} {len cap : Nat} {ver : Int} (hname : name.size ≤ 12) (hlen : len ≤ 1000000)
    (c0 : w.cell? ⟨p, 0, none⟩ = some (.iface 122 (.pointer (some ⟨b, 0, none⟩)))) (b0 : w.cell? ⟨b, 0, none⟩ = some (.string name)) (b3 : w.cell? ⟨b, 3, none⟩ = some (.slice ao len cap)) (b4 : w.cell? ⟨b, 4, none⟩ = some (.int .i64 ver)) :
    Calls Tryz.prog 56 #[.pointer (some ⟨p, 0, none⟩)] w fun e w' => e = .returned (pStatV ⟨name, false, len, ver, 0⟩) ∧ Below w.heap.size w w' := by
  have m1 := m_calledF
  have a1 := asFile
  have hp : p < w.heap.size := World.block_lt_of_cell? w _ c0
  have hb : b < w.heap.size := World.block_lt_of_cell? w _ b0
  have u0 := fun o => up c0 o
  have v0 := fun o => up b0 o
  have v3 := fun o => up b3 o
  have v4 := fun o => up b4 o
  have hz : (w.alloc (.cells #[.string ⟨#[]⟩, .bool false, .int .i64 0, .int .i64 0, .int .i64 0] 39)).heap.size = w.heap.size + 1 := by simp
  clear c0 b0 b3 b4
  go_enter Tryz.func56, Tryz.ntmps56
  go_wp2_with (first | (go_at_call 245; refine (called_any b name _ (v0 _)).mono ?_; rintro e w' ⟨rfl, hw⟩; obtain rfl := hw.symm) | (go_at_call 97; refine (clone_any name _ (by omega)).mono ?_; rintro e w1 ⟨rfl, hb1⟩; have x0 : w1.cell? ⟨p, 0, none⟩ = some (.iface 122 (.pointer (some ⟨b, 0, none⟩))) := (hb1.cell (p := ⟨p, 0, none⟩) (by simp; omega)).trans (u0 _); have x3 : w1.cell? ⟨b, 3, none⟩ = some (.slice ao len cap) := (hb1.cell (p := ⟨b, 3, none⟩) (by simp; omega)).trans (v3 _); have x4 : w1.cell? ⟨b, 4, none⟩ = some (.int .i64 ver) := (hb1.cell (p := ⟨b, 4, none⟩) (by simp; omega)).trans (v4 _); have hblk : w1.heap[w.heap.size]? = some (.cells #[.string ⟨#[]⟩, .bool false, .int .i64 0, .int .i64 0, .int .i64 0] 39 (0, 0)) := (hb1.block w.heap.size (by simp)).trans (heap_alloc_new w _); have HB1 := hide hb1; have x0' := (fun o => up x0 o); have x3' := (fun o => up x3 o); have x4' := (fun o => up x4 o); have HBlk := hide hblk; clear hb1 hblk))
  have hblk := HBlk.out
  have s0 : w1.cell? ⟨w.heap.size, 0, none⟩ = some (.string ⟨#[]⟩) := by simp [World.cell?, hblk]
  have s1 : w1.cell? ⟨w.heap.size, 1, none⟩ = some (.bool false) := by simp [World.cell?, hblk]
  have s2 : w1.cell? ⟨w.heap.size, 2, none⟩ = some (.int .i64 0) := by simp [World.cell?, hblk]
  have s3 : w1.cell? ⟨w.heap.size, 3, none⟩ = some (.int .i64 0) := by simp [World.cell?, hblk]
  have s4 : w1.cell? ⟨w.heap.size, 4, none⟩ = some (.int .i64 0) := by simp [World.cell?, hblk]
  have sf : ∀ j, w1.frozen? ⟨w.heap.size, j, none⟩ = false := fun j => by simp [World.frozen?, hblk]
  clear hblk
  have T0 : ∀ o : Obj, (w1.alloc o).cell? ⟨w.heap.size, 0, none⟩ = some (.string ⟨#[]⟩) := fun o => up s0 o
  have Z0 := fun o => upz s0 o (sf 0)
  have T1 : ∀ o : Obj, ((w1.alloc o).setCell ⟨w.heap.size, 0, none⟩ (.string name)).cell? ⟨w.heap.size, 1, none⟩ = some (.bool false) := fun o => (cell_other _ _ _ _ _ (by decide)).trans (up s1 o)
  have Z1 := fun o => upz s1 o (sf 1)
  have T2 : ∀ o : Obj, (((w1.alloc o).setCell ⟨w.heap.size, 0, none⟩ (.string name)).setCell ⟨w.heap.size, 1, none⟩ (.bool false)).cell? ⟨w.heap.size, 2, none⟩ = some (.int .i64 0) := fun o => (cell_other _ _ _ _ _ (by decide)).trans ((cell_other _ _ _ _ _ (by decide)).trans (up s2 o))
  have Z2 := fun o => upz s2 o (sf 2)
  have T3 : ∀ o : Obj, ((((w1.alloc o).setCell ⟨w.heap.size, 0, none⟩ (.string name)).setCell ⟨w.heap.size, 1, none⟩ (.bool false)).setCell ⟨w.heap.size, 2, none⟩ (.int .i64 len)).cell? ⟨w.heap.size, 3, none⟩ = some (.int .i64 0) := fun o => (cell_other _ _ _ _ _ (by decide)).trans ((cell_other _ _ _ _ _ (by decide)).trans ((cell_other _ _ _ _ _ (by decide)).trans (up s3 o)))
  have Z3 := fun o => upz s3 o (sf 3)
  have T4 : ∀ o : Obj, (((((w1.alloc o).setCell ⟨w.heap.size, 0, none⟩ (.string name)).setCell ⟨w.heap.size, 1, none⟩ (.bool false)).setCell ⟨w.heap.size, 2, none⟩ (.int .i64 len)).setCell ⟨w.heap.size, 3, none⟩ (.int .i64 ver)).cell? ⟨w.heap.size, 4, none⟩ = some (.int .i64 0) := fun o => (cell_other _ _ _ _ _ (by decide)).trans ((cell_other _ _ _ _ _ (by decide)).trans ((cell_other _ _ _ _ _ (by decide)).trans ((cell_other _ _ _ _ _ (by decide)).trans (up s4 o))))
  have Z4 := fun o => upz s4 o (sf 4)
  go_region
  go_wp2
  clear T0 T1 T2 T3 T4 Z0 Z1 Z2 Z3 Z4
  obtain ⟨q0, q1, q2, q3, q4⟩ := five (w1.alloc (.cells #[.string name, .bool false, .int .i64 len, .int .i64 ver, .int .i64 0] 39)) w.heap.size _ _ _ _ _ (.string name) (.bool false) (.int .i64 len) (.int .i64 ver) (.int .i64 0) (up s0 _) (up s1 _) (up s2 _) (up s3 _) (up s4 _)
  refine bodyPost_ret (v := pStatV ⟨name, false, len, ver, 0⟩) (by simp [results, Tryz.results56, go_sem, q0, q1, q2, q3, q4, pStatV]) rfl ?_
  refine ⟨rfl, ?_⟩
  have e1 : Below w.heap.size w w1 := ((Below.refl _ w).alloc (Nat.le_refl _) _).trans (HB1.out.mono (by simp))
  exact ((((((e1.alloc e1.size _).setCell (Nat.le_refl _) _).setCell (Nat.le_refl _) _).setCell (Nat.le_refl _) _).setCell (Nat.le_refl _) _).setCell (Nat.le_refl _) _).drew

set_option maxRecDepth 20000 in
set_option maxHeartbeats 1000000 in
theorem stat_dir {w : World} {p b : Nat} {name : ByteArray} {ao : Option Addr} {len cap : Nat} {n : Int} (hname : name.size ≤ 12)
    (c0 : w.cell? ⟨p, 0, none⟩ = some (.iface 87 (.pointer (some ⟨b, 0, none⟩)))) (c1 : w.cell? ⟨p, 1, none⟩ = some (.slice ao len cap)) (b0 : w.cell? ⟨b, 0, none⟩ = some (.string name))
    (hcount : ∀ W, Below w.heap.size w W → Calls Tryz.prog 98 #[.slice ao len cap] W fun e w' => e = .returned (.int .i64 n) ∧ Below W.heap.size W w') :
    Calls Tryz.prog 56 #[.pointer (some ⟨p, 0, none⟩)] w fun e w' => e = .returned (pStatV ⟨name, true, 0, 0, n⟩) ∧ Below w.heap.size w w' := by
  have m1 := m_calledD
  have a1 := asDir
  have a2 := notFile
  have hp : p < w.heap.size := World.block_lt_of_cell? w _ c0
  have u0 := fun o => up c0 o
  have u1 := fun o => up c1 o
  have v0 := fun o => up b0 o
  have HCount := hide hcount
  clear c0 b0 c1 hcount
  go_enter Tryz.func56, Tryz.ntmps56
  go_wp2_with (first | (go_at_call 245; refine (called_any b name _ (v0 _)).mono ?_; rintro e w' ⟨rfl, hw⟩; obtain rfl := hw.symm) | (go_at_call 97; refine (clone_any name _ (by omega)).mono ?_; rintro e w1 ⟨rfl, hb1⟩; have x0 : w1.cell? ⟨p, 0, none⟩ = some (.iface 87 (.pointer (some ⟨b, 0, none⟩))) := (hb1.cell (p := ⟨p, 0, none⟩) (by simp; omega)).trans (u0 _); have x1 : w1.cell? ⟨p, 1, none⟩ = some (.slice ao len cap) := (hb1.cell (p := ⟨p, 1, none⟩) (by simp; omega)).trans (u1 _); have hblk : w1.heap[w.heap.size]? = some (.cells #[.string ⟨#[]⟩, .bool false, .int .i64 0, .int .i64 0, .int .i64 0] 39 (0, 0)) := (hb1.block w.heap.size (by simp)).trans (heap_alloc_new w _); have HB1 := hide (show Below w.heap.size w w1 from ((Below.refl _ w).alloc (Nat.le_refl _) _).trans (hb1.mono (by simp))); have x0' := (fun o => up x0 o); have x1' := (fun o => up x1 o); have HBlk := hide hblk; clear hb1 hblk))
  refine (HCount.out _ (HB1.out.alloc HB1.out.size _)).mono ?_
  rintro e w2 ⟨rfl, hb2⟩
  have HB2 := hide (show Below w.heap.size w w2 from (HB1.out.alloc HB1.out.size _).trans (hb2.mono (by have := HB1.out.size; simp; omega)))
  have hz1 : w.heap.size < w1.heap.size := (Array.getElem?_eq_some_iff.1 HBlk.out).1
  have hblk : w2.heap[w.heap.size]? = some (.cells #[.string ⟨#[]⟩, .bool false, .int .i64 0, .int .i64 0, .int .i64 0] 39 (0, 0)) := (hb2.block w.heap.size (by simp; omega)).trans ((Below.heap_alloc _ _ _ hz1).trans HBlk.out)
  have hout : w2.heap[w1.heap.size]? = some (.cells #[.string name, .bool false, .int .i64 0, .int .i64 0, .int .i64 0] 39 (0, 0)) := (hb2.block w1.heap.size (by simp)).trans (heap_alloc_new w1 _)
  obtain ⟨O, hO⟩ : ∃ O, O = w1.heap.size := ⟨_, rfl⟩
  have hne : w.heap.size ≠ O := by omega
  clear hb2
  rw [← hO] at hout ⊢
  have y0 : w2.cell? ⟨O, 0, none⟩ = some (.string name) := by simp [World.cell?, hout]
  have y1 : w2.cell? ⟨O, 1, none⟩ = some (.bool false) := by simp [World.cell?, hout]
  have y2 : w2.cell? ⟨O, 2, none⟩ = some (.int .i64 0) := by simp [World.cell?, hout]
  have y3 : w2.cell? ⟨O, 3, none⟩ = some (.int .i64 0) := by simp [World.cell?, hout]
  have y4 : w2.cell? ⟨O, 4, none⟩ = some (.int .i64 0) := by simp [World.cell?, hout]
  have yf : ∀ j, w2.frozen? ⟨O, j, none⟩ = false := fun j => by simp [World.frozen?, hout]
  have s0 : w2.cell? ⟨w.heap.size, 0, none⟩ = some (.string ⟨#[]⟩) := by simp [World.cell?, hblk]
  have s1 : w2.cell? ⟨w.heap.size, 1, none⟩ = some (.bool false) := by simp [World.cell?, hblk]
  have s2 : w2.cell? ⟨w.heap.size, 2, none⟩ = some (.int .i64 0) := by simp [World.cell?, hblk]
  have s3 : w2.cell? ⟨w.heap.size, 3, none⟩ = some (.int .i64 0) := by simp [World.cell?, hblk]
  have s4 : w2.cell? ⟨w.heap.size, 4, none⟩ = some (.int .i64 0) := by simp [World.cell?, hblk]
  have sf : ∀ j, w2.frozen? ⟨w.heap.size, j, none⟩ = false := fun j => by simp [World.frozen?, hblk]
  have HO := hide hO
  have ne1 : ¬ w.heap.size = O := hne
  have ne2 : ¬ O = w.heap.size := fun h => hne h.symm
  clear hout hblk hO hne
  go_wp2
  have ob : ∀ (j : Nat) (v : Value), w2.cell? ⟨w.heap.size, j, none⟩ = some v → ((w2.setCell ⟨O, 1, none⟩ (.bool true)).setCell ⟨O, 4, none⟩ (.int .i64 n)).cell? ⟨w.heap.size, j, none⟩ = some v := fun j v h =>
    (World.cell?_setCell_other _ ⟨O, 4, none⟩ ⟨w.heap.size, j, none⟩ _ (fun e => ne2 (congrArg Addr.block e))).trans ((World.cell?_setCell_other _ ⟨O, 1, none⟩ ⟨w.heap.size, j, none⟩ _ (fun e => ne2 (congrArg Addr.block e))).trans h)
  obtain ⟨q0, q1, q2, q3, q4⟩ := five ((w2.setCell ⟨O, 1, none⟩ (.bool true)).setCell ⟨O, 4, none⟩ (.int .i64 n)) w.heap.size _ _ _ _ _ (.string name) (.bool true) (.int .i64 0) (.int .i64 0) (.int .i64 n) (ob _ _ s0) (ob _ _ s1) (ob _ _ s2) (ob _ _ s3) (ob _ _ s4)
  refine bodyPost_ret (v := pStatV ⟨name, true, 0, 0, n⟩) (by simp [results, Tryz.results56, go_sem, q0, q1, q2, q3, q4, pStatV]) rfl ?_
  refine ⟨rfl, ?_⟩
  have hO1 : w.heap.size ≤ O := by have := HB1.out.size; rw [HO.out]; exact this
  exact ((((((HB2.out.setCell hO1 _).setCell hO1 _).setCell (Nat.le_refl _) _).setCell (Nat.le_refl _) _).setCell (Nat.le_refl _) _).setCell (Nat.le_refl _) _).setCell (Nat.le_refl _) _
end Go.Proofs.YtdmdgnghaceibaaGreat.P
/- The program's Stat. -/
namespace Go.Proofs.YtdmdgnghaceibaaGreat.P
open M Go.ChangeShapes Go.WideShapes Go.ChangeAt Go.RowKit
set_option linter.unusedVariables false

/-- How Stat ends. -/
def PEnds3 (w : World) (F : Nat → Prop) (s : Nat) (p : St × StatR × Int) (e : Ending) (w' : World) : Prop := e = .returned (.tuple #[pStatV p.2.1, .int .i64 p.2.2]) ∧ SrvIs w' (ext F w w') s p.1 ∧ Ext F w w'

abbrev zeroStat : Obj := .cells #[.string ⟨#[]⟩, .bool false, .int .i64 0, .int .i64 0, .int .i64 0] 39

/-- The place of a Stat, written full. -/
def putStat (W : World) (b : Nat) (r : StatR) : World := ((((W.setCell ⟨b, 0, none⟩ (.string r.name)).setCell ⟨b, 1, none⟩ (.bool r.dir)).setCell ⟨b, 2, none⟩ (.int .i64 r.size)).setCell ⟨b, 3, none⟩ (.int .i64 r.version)).setCell ⟨b, 4, none⟩ (.int .i64 r.row)

theorem putStat_other (W : World) (b : Nat) (r : StatR) (k : Nat) (h : k ≠ b) : (putStat W b r).heap[k]? = W.heap[k]? := by
  unfold putStat
  exact (Below.heap_setCell _ _ _ k h).trans ((Below.heap_setCell _ _ _ k h).trans ((Below.heap_setCell _ _ _ k h).trans ((Below.heap_setCell _ _ _ k h).trans (Below.heap_setCell _ _ _ k h))))

theorem stat_close {w W : World} {F G : Nat → Prop} {s t : Nat} {st' : St} {L : Lay} {bv : Nat → Value} (r : StatR) (hS : SrvHas W G s st' 1 t L bv) (hGB : ¬ G w.heap.size) (hG : ∀ k, G k → ext F w W k) (hx : Ext F w W) (hblk : W.heap[w.heap.size]? = some zeroStat) :
    Held (putStat W w.heap.size r) (ext F w (putStat W w.heap.size r)) s st' ∧ Ext F w (putStat W w.heap.size r) ∧
      (left (putStat W w.heap.size r) s).cell? ⟨w.heap.size, 0, none⟩ = some (.string r.name) ∧ (left (putStat W w.heap.size r) s).cell? ⟨w.heap.size, 1, none⟩ = some (.bool r.dir) ∧ (left (putStat W w.heap.size r) s).cell? ⟨w.heap.size, 2, none⟩ = some (.int .i64 r.size) ∧
      (left (putStat W w.heap.size r) s).cell? ⟨w.heap.size, 3, none⟩ = some (.int .i64 r.version) ∧ (left (putStat W w.heap.size r) s).cell? ⟨w.heap.size, 4, none⟩ = some (.int .i64 r.row) := by
  have hz : (putStat W w.heap.size r).heap.size = W.heap.size := by simp [putStat]
  have hne : s ≠ w.heap.size := fun e => hGB (e ▸ hS.blk.own)
  have hk : KeepX (fun _ => True) True G W (putStat W w.heap.size r) :=
    ⟨fun k _ _ hGk _ _ => putStat_other W _ r k (fun e => hGB (e ▸ hGk)), fun _ k _ _ hGk _ => putStat_other W _ r k (fun e => hGB (e ▸ hGk))⟩
  have s0 : W.cell? ⟨w.heap.size, 0, none⟩ = some (.string ⟨#[]⟩) := by simp [World.cell?, hblk]
  have s1 : W.cell? ⟨w.heap.size, 1, none⟩ = some (.bool false) := by simp [World.cell?, hblk]
  have s2 : W.cell? ⟨w.heap.size, 2, none⟩ = some (.int .i64 0) := by simp [World.cell?, hblk]
  have s3 : W.cell? ⟨w.heap.size, 3, none⟩ = some (.int .i64 0) := by simp [World.cell?, hblk]
  have s4 : W.cell? ⟨w.heap.size, 4, none⟩ = some (.int .i64 0) := by simp [World.cell?, hblk]
  have lf : ∀ (X : World) (j : Nat), (left X s).cell? ⟨w.heap.size, j, none⟩ = X.cell? ⟨w.heap.size, j, none⟩ := fun X j => World.cell?_setCell_other _ ⟨s, 3, none⟩ ⟨w.heap.size, j, none⟩ _ (fun e => hne (congrArg Addr.block e))
  refine ⟨⟨t, L, bv, (hS.kept hk).mono (fun k hk => ext_mono (by rw [hz]; exact Nat.le_refl _) k (hG k hk))⟩, ?_, ?_, ?_, ?_, ?_, ?_⟩
  · unfold putStat
    exact ((((hx.setCell (a := ⟨w.heap.size, 0, none⟩) (.inr (Nat.le_refl _)) _).setCell (a := ⟨w.heap.size, 1, none⟩) (.inr (Nat.le_refl _)) _).setCell (a := ⟨w.heap.size, 2, none⟩) (.inr (Nat.le_refl _)) _).setCell (a := ⟨w.heap.size, 3, none⟩) (.inr (Nat.le_refl _)) _).setCell (a := ⟨w.heap.size, 4, none⟩) (.inr (Nat.le_refl _)) _
  · rw [lf]
    unfold putStat
    rw [cell_other _ _ _ _ _ (by decide), cell_other _ _ _ _ _ (by decide), cell_other _ _ _ _ _ (by decide), cell_other _ _ _ _ _ (by decide)]
    exact cell_same _ _ _ _ _ s0
  · rw [lf]
    unfold putStat
    rw [cell_other _ _ _ _ _ (by decide), cell_other _ _ _ _ _ (by decide), cell_other _ _ _ _ _ (by decide)]
    exact cell_same _ _ _ _ _ ((cell_other _ _ _ _ _ (by decide)).trans s1)
  · rw [lf]
    unfold putStat
    rw [cell_other _ _ _ _ _ (by decide), cell_other _ _ _ _ _ (by decide)]
    exact cell_same _ _ _ _ _ ((cell_other _ _ _ _ _ (by decide)).trans ((cell_other _ _ _ _ _ (by decide)).trans s2))
  · rw [lf]
    unfold putStat
    rw [cell_other _ _ _ _ _ (by decide)]
    exact cell_same _ _ _ _ _ ((cell_other _ _ _ _ _ (by decide)).trans ((cell_other _ _ _ _ _ (by decide)).trans ((cell_other _ _ _ _ _ (by decide)).trans s3)))
  · rw [lf]
    unfold putStat
    exact cell_same _ _ _ _ _ ((cell_other _ _ _ _ _ (by decide)).trans ((cell_other _ _ _ _ _ (by decide)).trans ((cell_other _ _ _ _ _ (by decide)).trans ((cell_other _ _ _ _ _ (by decide)).trans s4))))

set_option maxRecDepth 20000 in
set_option maxHeartbeats 1000000 in
theorem stat_any {w : World} {F : Nat → Prop} {s : Nat} {st : St} (n : Int) (h : SrvIs w F s st) (ok : POk st) (hF : ∀ k, F k → k < w.heap.size) (hsz : ∀ x ∈ st.nodes, x.data.size ≤ 1000000) :
    Calls Tryz.prog 20 #[.pointer (some ⟨s, 0, none⟩), .int .i64 n] w fun e w' => PEnds3 w F s (mStat st n) e w' := by
  go_enter_defers Tryz.func20, Tryz.ntmps20
  go_wp2_with fail
  refine (enter_any (F := F) (st := st) (h.kept (KeepX.below ((Below.refl _ w).alloc (Nat.le_refl _) _)))).mono ?_
  rintro e w1 ⟨rfl, hH, hx⟩
  clear h
  obtain ⟨t, L, bv, hS⟩ := hH
  have hblk : w1.heap[w.heap.size]? = some (.cells #[.string ⟨#[]⟩, .bool false, .int .i64 0, .int .i64 0, .int .i64 0] 39 (0, 0)) := (hx.block w.heap.size (by simp) (fun h => by have := hF _ h; omega)).trans (heap_alloc_new w _)
  have s0 : w1.cell? ⟨w.heap.size, 0, none⟩ = some (.string ⟨#[]⟩) := by simp [World.cell?, hblk]
  have s1 : w1.cell? ⟨w.heap.size, 1, none⟩ = some (.bool false) := by simp [World.cell?, hblk]
  have s2 : w1.cell? ⟨w.heap.size, 2, none⟩ = some (.int .i64 0) := by simp [World.cell?, hblk]
  have s3 : w1.cell? ⟨w.heap.size, 3, none⟩ = some (.int .i64 0) := by simp [World.cell?, hblk]
  have s4 : w1.cell? ⟨w.heap.size, 4, none⟩ = some (.int .i64 0) := by simp [World.cell?, hblk]
  have sf : ∀ j, w1.frozen? ⟨w.heap.size, j, none⟩ = false := fun j => by simp [World.frozen?, hblk]
  have HBlk : Hid (w1.heap[w.heap.size]? = some zeroStat) := hide hblk
  have HGB := hide (show ¬ ext F (w.alloc zeroStat) w1 w.heap.size from fun h => by
    rcases h with h | h
    · have := hF _ h; omega
    · have := h.1; simp at this; omega)
  have HX := hide (show Ext F w w1 from ((Ext.refl F w).alloc _).trans' hx)
  have HG := hide (show ∀ k, ext F (w.alloc zeroStat) w1 k → ext F w w1 k from ext_le (by simp) (Nat.le_refl _))
  clear hblk hx
  rcases fid_cases hS ok.tick.fids n with ⟨hf, hno⟩ | ⟨k, i, f, p, rfl, hk, hf, hi, hn, ha, c7, c8, hp⟩
  · have H := hide (show mStat st n = (tick st, noStat, 2) by unfold mStat; rw [show find st n = none from hf])
    have hS := hide hS
    clear hf
    go_wp2_with (go_at_call 45; refine (standing_no hno).mono ?_; rintro e w' ⟨rfl, hw⟩; obtain rfl := hw.symm)
    have hcl := stat_close (r := noStat) (F := F) hS.out HGB.out HG.out HX.out HBlk.out
    obtain ⟨hD, hxW, q0, q1, q2, q3, q4⟩ := hcl
    show bodyPostD _ _ _ _ _ (putStat w1 w.heap.size noStat)
    refine leaves_cons (f := 43) (args := #[.pointer (some ⟨s, 0, none⟩)]) (by simp) (by simp [go_sem]) ?_
    refine (leave_deferred .returning hD).mono ?_
    rintro e u' w'' ⟨rfl, rfl, rfl⟩
    refine ⟨.tuple #[pStatV noStat, .int .i64 2], (by simp [results, Tryz.results20, go_sem, q0, q1, q2, q3, q4, pStatV]), ?_⟩
    obtain ⟨h1, h2⟩ := left_close (w1 := w) hD hxW
    exact ⟨by rw [H.out], by rw [H.out]; exact h1, h2⟩
  · obtain ⟨sp, hsp, d0, ⟨v, d1, hv⟩, hplt⟩ := place_last hp
    have hin := ((ok.way f (List.mem_of_getElem? hi)).2 sp (List.mem_of_getLast? hsp)).1
    have hrd := ((ok.way f (List.mem_of_getElem? hi)).2 sp (List.mem_of_getLast? hsp)).2
    obtain ⟨x, hxn⟩ := getElem?_of_lt hin
    have e0 : mStat st k = if x.gone then (tick st, noStat, 4) else if x.dir then (tick st, ⟨x.name, true, 0, 0, liveRow st sp.row⟩, 0) else (tick st, ⟨x.name, false, x.data.size, x.version, 0⟩, 0) := by
      unfold mStat
      rw [show find st k = some i from hf]
      simp only
      rw [show st.fids[i]? = some f from hi]
      simp only
      rw [hsp]
      simp only
      rw [hxn]
    have hg0 := hS.tree.gone (i := sp.n) hin
    have hgx : isGone (tick st) sp.n = x.gone := by show isGone st sp.n = x.gone; simp [isGone, hxn]
    rw [hgx] at hg0
    have hkind := hS.tree.kind sp.n x hxn
    have m1 := m_isGoneD
    have m2 := m_isGoneF
    cases hgv : x.gone with
    | true =>
      have H := hide (e0.trans (if_pos hgv))
      rw [hgv] at hg0
      have hS := hide hS
      clear hf hi ha hp hn e0 hkind hgx hv
      rcases nodeV_cases L sp.n with e | e
      all_goals
        rw [e] at d0
        go_wp2_with (first | (go_at_call 45; refine (standing_some s k p hk _ c7).mono ?_; rintro e w' ⟨rfl, hw⟩; obtain rfl := hw.symm) | (go_at_call 94; refine (isGone_any _ _ _ hg0).mono ?_; rintro e w' ⟨rfl, hw⟩; obtain rfl := hw.symm))
        have hcl := stat_close (r := noStat) (F := F) hS.out HGB.out HG.out HX.out HBlk.out
        obtain ⟨hD, hxW, q0, q1, q2, q3, q4⟩ := hcl
        show bodyPostD _ _ _ _ _ (putStat w1 w.heap.size noStat)
        refine leaves_cons (f := 43) (args := #[.pointer (some ⟨s, 0, none⟩)]) (by simp) (by simp [go_sem]) ?_
        refine (leave_deferred .returning hD).mono ?_
        rintro e u' w'' ⟨rfl, rfl, rfl⟩
        refine ⟨.tuple #[pStatV noStat, .int .i64 4], (by simp [results, Tryz.results20, go_sem, q0, q1, q2, q3, q4, pStatV]), ?_⟩
        obtain ⟨h1, h2⟩ := left_close (w1 := w) hD hxW
        exact ⟨by rw [H.out], by rw [H.out]; exact h1, h2⟩
    | false =>
      rw [hgv] at hg0
      have e1 := e0.trans (if_neg (by simp [hgv]))
      cases hdv : x.dir with
      | false =>
        have H := hide (e1.trans (if_neg (by simp [hdv])))
        have FI := hS.tree.file sp.n x hxn hdv
        obtain ⟨bao, bc, hbv⟩ := FI.data.form
        have hbl : (byteCells x.data).length = x.data.size := by unfold byteCells; rw [List.length_map, Array.length_toList]; rfl
        rw [hbl] at hbv
        have f3 := FI.c3
        rw [hbv] at f3
        have en : nodeV L sp.n = .iface 122 (.pointer (some ⟨L.nb sp.n, 0, none⟩)) := by rw [nodeV, hkind, hdv]; rfl
        rw [en] at d0
        have HStat := hide (stat_file (ok.names x (List.mem_of_getElem? hxn)) (hsz x (List.mem_of_getElem? hxn)) d0 FI.c0 f3 FI.c4)
        have hS := hide hS
        clear hf hi ha hp hn e0 e1 hkind hgx hv FI hbv f3
        go_wp2_with (first | (go_at_call 45; refine (standing_some s k p hk _ c7).mono ?_; rintro e w' ⟨rfl, hw⟩; obtain rfl := hw.symm) | (go_at_call 94; refine (isGone_any _ _ _ hg0).mono ?_; rintro e w' ⟨rfl, hw⟩; obtain rfl := hw.symm))
        refine HStat.out.mono ?_
        rintro e w2 ⟨rfl, hb2⟩
        unfold pStatV
        have hb1z : w.heap.size < w1.heap.size := (Array.getElem?_eq_some_iff.1 HBlk.out).1
        have hblk2 : w2.heap[w.heap.size]? = some zeroStat := (hb2.block w.heap.size hb1z).trans HBlk.out
        have HBlk2 := hide hblk2
        have HS2 := hide (hS.out.below hb2)
        have HX2 := hide (HX.out.trans' (Ext.below hb2))
        have HG2 := hide (show ∀ k, ext F (w.alloc zeroStat) w1 k → ext F w w2 k from fun k h => ext_mono hb2.size k (HG.out k h))
        have y0 : w2.cell? ⟨w.heap.size, 0, none⟩ = some (.string ⟨#[]⟩) := by simp [World.cell?, hblk2]
        have y1 : w2.cell? ⟨w.heap.size, 1, none⟩ = some (.bool false) := by simp [World.cell?, hblk2]
        have y2 : w2.cell? ⟨w.heap.size, 2, none⟩ = some (.int .i64 0) := by simp [World.cell?, hblk2]
        have y3 : w2.cell? ⟨w.heap.size, 3, none⟩ = some (.int .i64 0) := by simp [World.cell?, hblk2]
        have y4 : w2.cell? ⟨w.heap.size, 4, none⟩ = some (.int .i64 0) := by simp [World.cell?, hblk2]
        have yf : ∀ j, w2.frozen? ⟨w.heap.size, j, none⟩ = false := fun j => by simp [World.frozen?, hblk2]
        clear hblk2 hb2
        go_wp2
        have hcl := stat_close (r := ⟨x.name, false, x.data.size, x.version, 0⟩) (F := F) HS2.out HGB.out HG2.out HX2.out HBlk2.out
        obtain ⟨hD, hxW, q0, q1, q2, q3, q4⟩ := hcl
        show bodyPostD _ _ _ _ _ (putStat w2 w.heap.size ⟨x.name, false, x.data.size, x.version, 0⟩)
        refine leaves_cons (f := 43) (args := #[.pointer (some ⟨s, 0, none⟩)]) (by simp) (by simp [go_sem]) ?_
        refine (leave_deferred .returning hD).mono ?_
        rintro e u' w'' ⟨rfl, rfl, rfl⟩
        refine ⟨.tuple #[pStatV ⟨x.name, false, x.data.size, x.version, 0⟩, .int .i64 0], (by simp [results, Tryz.results20, go_sem, q0, q1, q2, q3, q4, pStatV]), ?_⟩
        obtain ⟨h1, h2⟩ := left_close (w1 := w) hD hxW
        exact ⟨by rw [H.out], by rw [H.out]; exact h1, h2⟩
      | true =>
        have H := hide (e1.trans (if_pos hdv))
        have DI := hS.tree.dir sp.n x hxn hdv
        obtain ⟨rao, rc, hvv⟩ := hv.form
        rw [List.length_map] at hvv
        subst hvv
        have en : nodeV L sp.n = .iface 87 (.pointer (some ⟨L.nb sp.n, 0, none⟩)) := by rw [nodeV, hkind, hdv]; rfl
        rw [en] at d0
        have HStat := hide (stat_dir (n := (liveRow st sp.row : Int)) (ok.names x (List.mem_of_getElem? hxn)) d0 d1 DI.c0 (fun W hW => count_any (st := tick st) sp.row _ (hS.tree.kept (KeepX.below hW)) (hv.kept (KeepX.below (T := fun _ => True) (M := True) hW) trivial) hrd.1 hrd.2))
        have hS := hide hS
        clear hf hi ha hp hn e0 e1 hkind hgx hv DI
        go_wp2_with (first | (go_at_call 45; refine (standing_some s k p hk _ c7).mono ?_; rintro e w' ⟨rfl, hw⟩; obtain rfl := hw.symm) | (go_at_call 94; refine (isGone_any _ _ _ hg0).mono ?_; rintro e w' ⟨rfl, hw⟩; obtain rfl := hw.symm))
        refine HStat.out.mono ?_
        rintro e w2 ⟨rfl, hb2⟩
        unfold pStatV
        have hb1z : w.heap.size < w1.heap.size := (Array.getElem?_eq_some_iff.1 HBlk.out).1
        have hblk2 : w2.heap[w.heap.size]? = some zeroStat := (hb2.block w.heap.size hb1z).trans HBlk.out
        have HBlk2 := hide hblk2
        have HS2 := hide (hS.out.below hb2)
        have HX2 := hide (HX.out.trans' (Ext.below hb2))
        have HG2 := hide (show ∀ k, ext F (w.alloc zeroStat) w1 k → ext F w w2 k from fun k h => ext_mono hb2.size k (HG.out k h))
        have y0 : w2.cell? ⟨w.heap.size, 0, none⟩ = some (.string ⟨#[]⟩) := by simp [World.cell?, hblk2]
        have y1 : w2.cell? ⟨w.heap.size, 1, none⟩ = some (.bool false) := by simp [World.cell?, hblk2]
        have y2 : w2.cell? ⟨w.heap.size, 2, none⟩ = some (.int .i64 0) := by simp [World.cell?, hblk2]
        have y3 : w2.cell? ⟨w.heap.size, 3, none⟩ = some (.int .i64 0) := by simp [World.cell?, hblk2]
        have y4 : w2.cell? ⟨w.heap.size, 4, none⟩ = some (.int .i64 0) := by simp [World.cell?, hblk2]
        have yf : ∀ j, w2.frozen? ⟨w.heap.size, j, none⟩ = false := fun j => by simp [World.frozen?, hblk2]
        clear hblk2 hb2
        go_wp2
        have hcl := stat_close (r := ⟨x.name, true, 0, 0, (liveRow st sp.row : Int)⟩) (F := F) HS2.out HGB.out HG2.out HX2.out HBlk2.out
        obtain ⟨hD, hxW, q0, q1, q2, q3, q4⟩ := hcl
        show bodyPostD _ _ _ _ _ (putStat w2 w.heap.size ⟨x.name, true, 0, 0, (liveRow st sp.row : Int)⟩)
        refine leaves_cons (f := 43) (args := #[.pointer (some ⟨s, 0, none⟩)]) (by simp) (by simp [go_sem]) ?_
        refine (leave_deferred .returning hD).mono ?_
        rintro e u' w'' ⟨rfl, rfl, rfl⟩
        refine ⟨.tuple #[pStatV ⟨x.name, true, 0, 0, (liveRow st sp.row : Int)⟩, .int .i64 0], (by simp [results, Tryz.results20, go_sem, q0, q1, q2, q3, q4, pStatV]), ?_⟩
        obtain ⟨h1, h2⟩ := left_close (w1 := w) hD hxW
        exact ⟨by rw [H.out], by rw [H.out]; exact h1, h2⟩
end Go.Proofs.YtdmdgnghaceibaaGreat.P
/- Both halves: Stat. -/
namespace Go.Proofs.YtdmdgnghaceibaaGreat.P
open M Go.ChangeShapes Go.WideShapes Go.ChangeAt Go.RowKit
set_option linter.unusedVariables false

theorem mStat_tick (st : St) (n : Int) : (mStat st n).1 = tick st := by
  unfold mStat
  split
  · rfl
  · split
    · rfl
    · split
      · rfl
      · split
        · rfl
        · split
          · rfl
          · split <;> rfl

set_option maxRecDepth 20000 in
set_option maxHeartbeats 4000000 in
theorem stated_any {w : World} {X : Nat → Prop} {b : Nat} {st : St} (fid : Int) (h : BothIs w X b st) (ok : POk st) (hsm : ∀ x ∈ st.nodes, x.data.size ≤ 300) :
    Calls Tryz.prog 70 #[.pointer (some ⟨b, 0, none⟩), .int .i64 fid] w fun e w' => e = .returned (.bool true) ∧ BothIs w' X b (mStat st fid).1 ∧ Ext X w w' := by
  obtain ⟨s, r, F, G, h⟩ := h
  have c0 := h.c0
  have c1 := h.c1
  have H := hide h
  have Hok := hide ok
  have Hsm := hide hsm
  obtain ⟨⟨name, dir, size, ver, row⟩, hR⟩ : ∃ R, (mStat st fid).2.1 = R := ⟨_, rfl⟩
  obtain ⟨er, hE⟩ : ∃ er, (mStat st fid).2.2 = er := ⟨_, rfl⟩
  obtain ⟨st2, hS⟩ : ∃ st2, (mStat st fid).1 = st2 := ⟨_, rfl⟩
  have HM := hide (show mStat st fid = (st2, ⟨name, dir, size, ver, row⟩, er) by rw [← hR, ← hE, ← hS])
  rw [hS]
  clear h ok hsm hR hE hS
  go_enter Tryz.func70, Tryz.ntmps70
  go_wp2_with fail
  refine (stat_any (F := F) (st := st) fid H.out.srv Hok.out (fun k hk => (H.out.lo k (.inl hk)).2) (fun x hx => Nat.le_trans (Hsm.out x hx) (by decide))).mono ?_
  rintro e w2 he2
  rw [HM.out] at he2
  obtain ⟨rfl, hs2, hx2⟩ := he2
  have hT := H.out.srvStep hs2 hx2
  have v1 := fun o => up hT.c1 o
  have HT := hide hT
  have HBc := hide (hx2.weak (fun k hk => (H.out.lo k (.inl hk)).1))
  have HG := hide (show ¬ G w2.heap.size from fun hk => by have := (HT.out.lo _ (.inr hk)).2; omega)
  clear hs2 hx2 hT
  simp only [pStatV]
  go_wp2_with fail
  refine (Go.Proofs.YtdmdgnghaceibaaGreat.stat_any (F := G) (st := st) fid (HT.out.below ((Below.refl _ w2).alloc (Nat.le_refl _) _)).ref Hok.out.stOk (fun k hk => by have := (HT.out.lo k (.inr hk)).2; simp; omega)).mono ?_
  rintro e w3 he3
  rw [HM.out] at he3
  obtain ⟨rfl, hr3, hx3⟩ := he3
  have p0 := fun o => up (ext_cell hx3 HG.out (j := 0) (v := .string name) (by simp)) o
  have p1 := fun o => up (ext_cell hx3 HG.out (j := 1) (v := .bool dir) (by simp)) o
  have p2 := fun o => up (ext_cell hx3 HG.out (j := 2) (v := .int .i64 size) (by simp)) o
  have p3 := fun o => up (ext_cell hx3 HG.out (j := 3) (v := .int .i64 ver) (by simp)) o
  have p4 := fun o => up (ext_cell hx3 HG.out (j := 4) (v := .int .i64 row) (by simp)) o
  have HT2 := hide ((HT.out.below ((Below.refl _ w2).alloc (Nat.le_refl _) _)).refStep hr3 hx3)
  have HBd := hide (HBc.out.trans' ((Ext.below ((Below.refl _ w2).alloc (Nat.le_refl _) _)).trans' (hx3.weak (fun k hk => (HT.out.lo k (.inr hk)).1))))
  have q0 : (name.toList == name.toList) = true := by simp
  have q1 : (dir == dir) = true := by simp
  have q2 : (size == size) = true := by simp
  have q3 : (ver == ver) = true := by simp
  have q4 : (row == row) = true := by simp
  have q5 : (er == er) = true := by simp
  clear hr3 hx3
  simp only [statV]
  go_wp2_with (go_at_call 27; refine (num_any _ _).mono ?_; rintro e w' ⟨rfl, hw⟩; obtain rfl := hw.symm)
  go_ret
  exact ⟨by simp, ⟨s, r, _, _, HT2.out.below ((Below.refl _ w3).alloc (Nat.le_refl _) _)⟩, HBd.out.trans' (Ext.below ((Below.refl _ w3).alloc (Nat.le_refl _) _))⟩
end Go.Proofs.YtdmdgnghaceibaaGreat.P
