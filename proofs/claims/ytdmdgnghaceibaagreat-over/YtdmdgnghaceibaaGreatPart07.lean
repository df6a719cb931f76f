/- The program's Stat. -/
import Derived.Test.YtdmdgnghaceibaaGreatPart06
import Derived.Test.YtdmdgnghaceibaaGreatPart04
import Derived.Test.YtdmdgnghaceibaaGreatIter
import Derived.Test.YtdmdgnghaceibaaGreatPart01
import Derived.Test.YtdmdgnghaceibaaGreatRows
import Derived.Outline
import Derived.RegionTactic
import Derived.BigRegion
import Derived.Deep.QuietTactic
import Derived.BigQuiet
import Derived.WalkSmall
import Derived.Deep.RegionWith
import Derived.Test.YtdmdgnghaceibaaGreatPart02
import Derived.Deep.RegionLaw
namespace Go.Proofs.YtdmdgnghaceibaaGreat.P
open M Go.ChangeShapes Go.WideShapes Go.ChangeAt Go.RowKit
set_option linter.unusedVariables false

/-- How Stat ends. -/
def PEnds3 (w : World) (F : Nat → Prop) (s : Nat) (p : St × StatR × Int) (e : Ending) (w' : World) : Prop := e = .returned (.tuple #[pStatV p.2.1, .int .i64 p.2.2]) ∧ SrvIs w' (ext F w w') s p.1 ∧ Ext F w w'

abbrev zeroStat : Obj := .cells #[.string ⟨#[]⟩, .bool false, .int .i64 0, .int .i64 0, .int .i64 0] 39

/-- The place of a Stat, written full. -/
def putStat (W : World) (b : Nat) (r : StatR) : World := ((((W.setCell ⟨b, 0, none⟩ (.string r.name)).setCell ⟨b, 1, none⟩ (.bool r.dir)).setCell ⟨b, 2, none⟩ (.int .i64 r.size)).setCell ⟨b, 3, none⟩ (.int .i64 r.version)).setCell ⟨b, 4, none⟩ (.int .i64 r.row)

theorem putStat_other (W : World) (b : Nat) (r : StatR) (k : Nat) (h : k ≠ b) : (putStat W b r).heap[k]? = W.heap[k]? := by
  unfold putStat
  exact (Below.heap_setCell _ _ _ k h).trans ((Below.heap_setCell _ _ _ k h).trans ((Below.heap_setCell _ _ _ k h).trans ((Below.heap_setCell _ _ _ k h).trans (Below.heap_setCell _ _ _ k h))))

theorem stat_close {w W : World} {F G : Nat → Prop} {s t : Nat} {st' : St} {L : Lay} {bv : Nat → Value} (r : StatR) (hS : SrvHas W G s st' 1 t L bv) (hGB : ¬ G w.heap.size) (hG : ∀ k, G k → ext F w W k) (hx : Ext F w W) (hblk : W.heap[w.heap.size]? = some zeroStat) :
    Held (putStat W w.heap.size r) (ext F w (putStat W w.heap.size r)) s st' ∧ Ext F w (putStat W w.heap.size r) ∧
      (left (putStat W w.heap.size r) s).cell? ⟨w.heap.size, 0, none⟩ = some (.string r.name) ∧ (left (putStat W w.heap.size r) s).cell? ⟨w.heap.size, 1, none⟩ = some (.bool r.dir) ∧ (left (putStat W w.heap.size r) s).cell? ⟨w.heap.size, 2, none⟩ = some (.int .i64 r.size) ∧
      (left (putStat W w.heap.size r) s).cell? ⟨w.heap.size, 3, none⟩ = some (.int .i64 r.version) ∧ (left (putStat W w.heap.size r) s).cell? ⟨w.heap.size, 4, none⟩ = some (.int .i64 r.row) := by
  have hz : (putStat W w.heap.size r).heap.size = W.heap.size := by simp [putStat]
  have hne : s ≠ w.heap.size := fun e => hGB (e ▸ hS.blk.own)
  have hk : KeepX (fun _ => True) True G W (putStat W w.heap.size r) :=
    ⟨fun k _ _ hGk _ _ => putStat_other W _ r k (fun e => hGB (e ▸ hGk)), fun _ k _ _ hGk _ => putStat_other W _ r k (fun e => hGB (e ▸ hGk))⟩
  have s0 : W.cell? ⟨w.heap.size, 0, none⟩ = some (.string ⟨#[]⟩) := by simp [World.cell?, hblk]
  have s1 : W.cell? ⟨w.heap.size, 1, none⟩ = some (.bool false) := by simp [World.cell?, hblk]
  have s2 : W.cell? ⟨w.heap.size, 2, none⟩ = some (.int .i64 0) := by simp [World.cell?, hblk]
  have s3 : W.cell? ⟨w.heap.size, 3, none⟩ = some (.int .i64 0) := by simp [World.cell?, hblk]
  have s4 : W.cell? ⟨w.heap.size, 4, none⟩ = some (.int .i64 0) := by simp [World.cell?, hblk]
  have lf : ∀ (X : World) (j : Nat), (left X s).cell? ⟨w.heap.size, j, none⟩ = X.cell? ⟨w.heap.size, j, none⟩ := fun X j => World.cell?_setCell_other _ ⟨s, 3, none⟩ ⟨w.heap.size, j, none⟩ _ (fun e => hne (congrArg Addr.block e))
  refine ⟨⟨t, L, bv, (hS.kept hk).mono (fun k hk => ext_mono (by rw [hz]; exact Nat.le_refl _) k (hG k hk))⟩, ?_, ?_, ?_, ?_, ?_, ?_⟩
  · unfold putStat
    exact ((((hx.setCell (a := ⟨w.heap.size, 0, none⟩) (.inr (Nat.le_refl _)) _).setCell (a := ⟨w.heap.size, 1, none⟩) (.inr (Nat.le_refl _)) _).setCell (a := ⟨w.heap.size, 2, none⟩) (.inr (Nat.le_refl _)) _).setCell (a := ⟨w.heap.size, 3, none⟩) (.inr (Nat.le_refl _)) _).setCell (a := ⟨w.heap.size, 4, none⟩) (.inr (Nat.le_refl _)) _
  · rw [lf]
    unfold putStat
    rw [cell_other _ _ _ _ _ (by decide), cell_other _ _ _ _ _ (by decide), cell_other _ _ _ _ _ (by decide), cell_other _ _ _ _ _ (by decide)]
    exact cell_same _ _ _ _ _ s0
  · rw [lf]
    unfold putStat
    rw [cell_other _ _ _ _ _ (by decide), cell_other _ _ _ _ _ (by decide), cell_other _ _ _ _ _ (by decide)]
    exact cell_same _ _ _ _ _ ((cell_other _ _ _ _ _ (by decide)).trans s1)
  · rw [lf]
    unfold putStat
    rw [cell_other _ _ _ _ _ (by decide), cell_other _ _ _ _ _ (by decide)]
    exact cell_same _ _ _ _ _ ((cell_other _ _ _ _ _ (by decide)).trans ((cell_other _ _ _ _ _ (by decide)).trans s2))
  · rw [lf]
    unfold putStat
    rw [cell_other _ _ _ _ _ (by decide)]
    exact cell_same _ _ _ _ _ ((cell_other _ _ _ _ _ (by decide)).trans ((cell_other _ _ _ _ _ (by decide)).trans ((cell_other _ _ _ _ _ (by decide)).trans s3)))
  · rw [lf]
    unfold putStat
    exact cell_same _ _ _ _ _ ((cell_other _ _ _ _ _ (by decide)).trans ((cell_other _ _ _ _ _ (by decide)).trans ((cell_other _ _ _ _ _ (by decide)).trans ((cell_other _ _ _ _ _ (by decide)).trans s4))))

set_option maxRecDepth 20000 in
set_option maxHeartbeats 1000000 in
theorem stat_any {w : World} {F : Nat → Prop} {s : Nat} {st : St} (n : Int) (h : SrvIs w F s st) (ok : POk st) (hF : ∀ k, F k → k < w.heap.size) (hsz : ∀ x ∈ st.nodes, x.data.size ≤ 1000000) :
    Calls Tryz.prog 20 #[.pointer (some ⟨s, 0, none⟩), .int .i64 n] w fun e w' => PEnds3 w F s (mStat st n) e w' := by
  go_enter_defers Tryz.func20, Tryz.ntmps20
  go_wp2_with fail
  refine (enter_any (F := F) (st := st) (h.kept (KeepX.below ((Below.refl _ w).alloc (Nat.le_refl _) _)))).mono ?_
  rintro e w1 ⟨rfl, hH, hx⟩
  clear h
  obtain ⟨t, L, bv, hS⟩ := hH
  have hblk : w1.heap[w.heap.size]? = some (.cells #[.string ⟨#[]⟩, .bool false, .int .i64 0, .int .i64 0, .int .i64 0] 39 (0, 0)) := (hx.block w.heap.size (by simp) (fun h => by have := hF _ h; omega)).trans (heap_alloc_new w _)
  have s0 : w1.cell? ⟨w.heap.size, 0, none⟩ = some (.string ⟨#[]⟩) := by simp [World.cell?, hblk]
  have s1 : w1.cell? ⟨w.heap.size, 1, none⟩ = some (.bool false) := by simp [World.cell?, hblk]
  have s2 : w1.cell? ⟨w.heap.size, 2, none⟩ = some (.int .i64 0) := by simp [World.cell?, hblk]
  have s3 : w1.cell? ⟨w.heap.size, 3, none⟩ = some (.int .i64 0) := by simp [World.cell?, hblk]
  have s4 : w1.cell? ⟨w.heap.size, 4, none⟩ = some (.int .i64 0) := by simp [World.cell?, hblk]
  have sf : ∀ j, w1.frozen? ⟨w.heap.size, j, none⟩ = false := fun j => by simp [World.frozen?, hblk]
  have HBlk : Hid (w1.heap[w.heap.size]? = some zeroStat) := hide hblk
  have HGB := hide (show ¬ ext F (w.alloc zeroStat) w1 w.heap.size from fun h => by
    rcases h with h | h
    · have := hF _ h; omega
    · have := h.1; simp at this; omega)
  have HX := hide (show Ext F w w1 from ((Ext.refl F w).alloc _).trans' hx)
  have HG := hide (show ∀ k, ext F (w.alloc zeroStat) w1 k → ext F w w1 k from ext_le (by simp) (Nat.le_refl _))
  clear hblk hx
  rcases fid_cases hS ok.tick.fids n with ⟨hf, hno⟩ | ⟨k, i, f, p, rfl, hk, hf, hi, hn, ha, c7, c8, hp⟩
  · have H := hide (show mStat st n = (tick st, noStat, 2) by unfold mStat; rw [show find st n = none from hf])
    have hS := hide hS
    clear hf
    go_wp2_with (go_at_call 45; refine (standing_no hno).mono ?_; rintro e w' ⟨rfl, hw⟩; obtain rfl := hw.symm)
    have hcl := stat_close (r := noStat) (F := F) hS.out HGB.out HG.out HX.out HBlk.out
    obtain ⟨hD, hxW, q0, q1, q2, q3, q4⟩ := hcl
    show bodyPostD _ _ _ _ _ (putStat w1 w.heap.size noStat)
    refine leaves_cons (f := 43) (args := #[.pointer (some ⟨s, 0, none⟩)]) (by simp) (by simp [go_sem]) ?_
    refine (leave_deferred .returning hD).mono ?_
    rintro e u' w'' ⟨rfl, rfl, rfl⟩
    refine ⟨.tuple #[pStatV noStat, .int .i64 2], (by simp [results, Tryz.results20, go_sem, q0, q1, q2, q3, q4, pStatV]), ?_⟩
    obtain ⟨h1, h2⟩ := left_close (w1 := w) hD hxW
    exact ⟨by rw [H.out], by rw [H.out]; exact h1, h2⟩
  · obtain ⟨sp, hsp, d0, ⟨v, d1, hv⟩, hplt⟩ := place_last hp
    have hin := ((ok.way f (List.mem_of_getElem? hi)).2 sp (List.mem_of_getLast? hsp)).1
    have hrd := ((ok.way f (List.mem_of_getElem? hi)).2 sp (List.mem_of_getLast? hsp)).2
    obtain ⟨x, hxn⟩ := getElem?_of_lt hin
    have e0 : mStat st k = if x.gone then (tick st, noStat, 4) else if x.dir then (tick st, ⟨x.name, true, 0, 0, liveRow st sp.row⟩, 0) else (tick st, ⟨x.name, false, x.data.size, x.version, 0⟩, 0) := by
      unfold mStat
      rw [show find st k = some i from hf]
      simp only
      rw [show st.fids[i]? = some f from hi]
      simp only
      rw [hsp]
      simp only
      rw [hxn]
    have hg0 := hS.tree.gone (i := sp.n) hin
    have hgx : isGone (tick st) sp.n = x.gone := by show isGone st sp.n = x.gone; simp [isGone, hxn]
    rw [hgx] at hg0
    have hkind := hS.tree.kind sp.n x hxn
    have m1 := m_isGoneD
    have m2 := m_isGoneF
    cases hgv : x.gone with
    | true =>
      have H := hide (e0.trans (if_pos hgv))
      rw [hgv] at hg0
      have hS := hide hS
      clear hf hi ha hp hn e0 hkind hgx hv
      rcases nodeV_cases L sp.n with e | e
      all_goals
        rw [e] at d0
        go_wp2_with (first | (go_at_call 45; refine (standing_some s k p hk _ c7).mono ?_; rintro e w' ⟨rfl, hw⟩; obtain rfl := hw.symm) | (go_at_call 94; refine (isGone_any _ _ _ hg0).mono ?_; rintro e w' ⟨rfl, hw⟩; obtain rfl := hw.symm))
        have hcl := stat_close (r := noStat) (F := F) hS.out HGB.out HG.out HX.out HBlk.out
        obtain ⟨hD, hxW, q0, q1, q2, q3, q4⟩ := hcl
        show bodyPostD _ _ _ _ _ (putStat w1 w.heap.size noStat)
        refine leaves_cons (f := 43) (args := #[.pointer (some ⟨s, 0, none⟩)]) (by simp) (by simp [go_sem]) ?_
        refine (leave_deferred .returning hD).mono ?_
        rintro e u' w'' ⟨rfl, rfl, rfl⟩
        refine ⟨.tuple #[pStatV noStat, .int .i64 4], (by simp [results, Tryz.results20, go_sem, q0, q1, q2, q3, q4, pStatV]), ?_⟩
        obtain ⟨h1, h2⟩ := left_close (w1 := w) hD hxW
        exact ⟨by rw [H.out], by rw [H.out]; exact h1, h2⟩
    | false =>
      rw [hgv] at hg0
      have e1 := e0.trans (if_neg (by simp [hgv]))
      cases hdv : x.dir with
      | false =>
        have H := hide (e1.trans (if_neg (by simp [hdv])))
        have FI := hS.tree.file sp.n x hxn hdv
        obtain ⟨bao, bc, hbv⟩ := FI.data.form
        have hbl : (byteCells x.data).length = x.data.size := by unfold byteCells; rw [List.length_map, Array.length_toList]; rfl
        rw [hbl] at hbv
        have f3 := FI.c3
        rw [hbv] at f3
        have en : nodeV L sp.n = .iface 122 (.pointer (some ⟨L.nb sp.n, 0, none⟩)) := by rw [nodeV, hkind, hdv]; rfl
        rw [en] at d0
        have HStat := hide (stat_file (ok.names x (List.mem_of_getElem? hxn)) (hsz x (List.mem_of_getElem? hxn)) d0 FI.c0 f3 FI.c4)
        have hS := hide hS
        clear hf hi ha hp hn e0 e1 hkind hgx hv FI hbv f3
        go_wp2_with (first | (go_at_call 45; refine (standing_some s k p hk _ c7).mono ?_; rintro e w' ⟨rfl, hw⟩; obtain rfl := hw.symm) | (go_at_call 94; refine (isGone_any _ _ _ hg0).mono ?_; rintro e w' ⟨rfl, hw⟩; obtain rfl := hw.symm))
        refine HStat.out.mono ?_
        rintro e w2 ⟨rfl, hb2⟩
        unfold pStatV
        have hb1z : w.heap.size < w1.heap.size := (Array.getElem?_eq_some_iff.1 HBlk.out).1
        have hblk2 : w2.heap[w.heap.size]? = some zeroStat := (hb2.block w.heap.size hb1z).trans HBlk.out
        have HBlk2 := hide hblk2
        have HS2 := hide (hS.out.below hb2)
        have HX2 := hide (HX.out.trans' (Ext.below hb2))
        have HG2 := hide (show ∀ k, ext F (w.alloc zeroStat) w1 k → ext F w w2 k from fun k h => ext_mono hb2.size k (HG.out k h))
        have y0 : w2.cell? ⟨w.heap.size, 0, none⟩ = some (.string ⟨#[]⟩) := by simp [World.cell?, hblk2]
        have y1 : w2.cell? ⟨w.heap.size, 1, none⟩ = some (.bool false) := by simp [World.cell?, hblk2]
        have y2 : w2.cell? ⟨w.heap.size, 2, none⟩ = some (.int .i64 0) := by simp [World.cell?, hblk2]
        have y3 : w2.cell? ⟨w.heap.size, 3, none⟩ = some (.int .i64 0) := by simp [World.cell?, hblk2]
        have y4 : w2.cell? ⟨w.heap.size, 4, none⟩ = some (.int .i64 0) := by simp [World.cell?, hblk2]
        have yf : ∀ j, w2.frozen? ⟨w.heap.size, j, none⟩ = false := fun j => by simp [World.frozen?, hblk2]
        clear hblk2 hb2
        go_wp2
        have hcl := stat_close (r := ⟨x.name, false, x.data.size, x.version, 0⟩) (F := F) HS2.out HGB.out HG2.out HX2.out HBlk2.out
        obtain ⟨hD, hxW, q0, q1, q2, q3, q4⟩ := hcl
        show bodyPostD _ _ _ _ _ (putStat w2 w.heap.size ⟨x.name, false, x.data.size, x.version, 0⟩)
        refine leaves_cons (f := 43) (args := #[.pointer (some ⟨s, 0, none⟩)]) (by simp) (by simp [go_sem]) ?_
        refine (leave_deferred .returning hD).mono ?_
        rintro e u' w'' ⟨rfl, rfl, rfl⟩
        refine ⟨.tuple #[pStatV ⟨x.name, false, x.data.size, x.version, 0⟩, .int .i64 0], (by simp [results, Tryz.results20, go_sem, q0, q1, q2, q3, q4, pStatV]), ?_⟩
        obtain ⟨h1, h2⟩ := left_close (w1 := w) hD hxW
        exact ⟨by rw [H.out], by rw [H.out]; exact h1, h2⟩
      | true =>
        have H := hide (e1.trans (if_pos hdv))
        have DI := hS.tree.dir sp.n x hxn hdv
        obtain ⟨rao, rc, hvv⟩ := hv.form
        rw [List.length_map] at hvv
        subst hvv
        have en : nodeV L sp.n = .iface 87 (.pointer (some ⟨L.nb sp.n, 0, none⟩)) := by rw [nodeV, hkind, hdv]; rfl
        rw [en] at d0
        have HStat := hide (stat_dir (n := (liveRow st sp.row : Int)) (ok.names x (List.mem_of_getElem? hxn)) d0 d1 DI.c0 (fun W hW => count_any (st := tick st) sp.row _ (hS.tree.kept (KeepX.below hW)) (hv.kept (KeepX.below (T := fun _ => True) (M := True) hW) trivial) hrd.1 hrd.2))
        have hS := hide hS
        clear hf hi ha hp hn e0 e1 hkind hgx hv DI
        go_wp2_with (first | (go_at_call 45; refine (standing_some s k p hk _ c7).mono ?_; rintro e w' ⟨rfl, hw⟩; obtain rfl := hw.symm) | (go_at_call 94; refine (isGone_any _ _ _ hg0).mono ?_; rintro e w' ⟨rfl, hw⟩; obtain rfl := hw.symm))
        refine HStat.out.mono ?_
        rintro e w2 ⟨rfl, hb2⟩
        unfold pStatV
        have hb1z : w.heap.size < w1.heap.size := (Array.getElem?_eq_some_iff.1 HBlk.out).1
        have hblk2 : w2.heap[w.heap.size]? = some zeroStat := (hb2.block w.heap.size hb1z).trans HBlk.out
        have HBlk2 := hide hblk2
        have HS2 := hide (hS.out.below hb2)
        have HX2 := hide (HX.out.trans' (Ext.below hb2))
        have HG2 := hide (show ∀ k, ext F (w.alloc zeroStat) w1 k → ext F w w2 k from fun k h => ext_mono hb2.size k (HG.out k h))
        have y0 : w2.cell? ⟨w.heap.size, 0, none⟩ = some (.string ⟨#[]⟩) := by simp [World.cell?, hblk2]
        have y1 : w2.cell? ⟨w.heap.size, 1, none⟩ = some (.bool false) := by simp [World.cell?, hblk2]
        have y2 : w2.cell? ⟨w.heap.size, 2, none⟩ = some (.int .i64 0) := by simp [World.cell?, hblk2]
        have y3 : w2.cell? ⟨w.heap.size, 3, none⟩ = some (.int .i64 0) := by simp [World.cell?, hblk2]
        have y4 : w2.cell? ⟨w.heap.size, 4, none⟩ = some (.int .i64 0) := by simp [World.cell?, hblk2]
        have yf : ∀ j, w2.frozen? ⟨w.heap.size, j, none⟩ = false := fun j => by simp [World.frozen?, hblk2]
        clear hblk2 hb2
        go_wp2
        have hcl := stat_close (r := ⟨x.name, true, 0, 0, (liveRow st sp.row : Int)⟩) (F := F) HS2.out HGB.out HG2.out HX2.out HBlk2.out
        obtain ⟨hD, hxW, q0, q1, q2, q3, q4⟩ := hcl
        show bodyPostD _ _ _ _ _ (putStat w2 w.heap.size ⟨x.name, true, 0, 0, (liveRow st sp.row : Int)⟩)
        refine leaves_cons (f := 43) (args := #[.pointer (some ⟨s, 0, none⟩)]) (by simp) (by simp [go_sem]) ?_
        refine (leave_deferred .returning hD).mono ?_
        rintro e u' w'' ⟨rfl, rfl, rfl⟩
        refine ⟨.tuple #[pStatV ⟨x.name, true, 0, 0, (liveRow st sp.row : Int)⟩, .int .i64 0], (by simp [results, Tryz.results20, go_sem, q0, q1, q2, q3, q4, pStatV]), ?_⟩
        obtain ⟨h1, h2⟩ := left_close (w1 := w) hD hxW
        exact ⟨by rw [H.out], by rw [H.out]; exact h1, h2⟩
end Go.Proofs.YtdmdgnghaceibaaGreat.P
/- A directory's names in order: slices.Sorted(maps.Keys(m)), by the library's contracts. -/
namespace Go.Proofs.YtdmdgnghaceibaaGreat.P
open M Go.ChangeShapes Go.WideShapes Go.ChangeAt Go.RowKit
set_option linter.unusedVariables false

/-- The texts at which a map has something, in order. -/
structure Keys (f : ByteArray → Option Value) (l : List ByteArray) : Prop where
  order : l.Pairwise (fun a b => a.data.toList < b.data.toList)
  mem : ∀ s, s ∈ l ↔ s.size ≤ maxLen ∧ (f s).isSome = true

def strRows (l : List ByteArray) : List (List Value) := l.map fun s => [.string s]

theorem map_size_le {H : Type} {P : Program} {k : TypeId} {R : Value → Option (DataW H × List MemPlace)} {w : World} {b n : Nat} {D : DataW H} (h : w.ownsMap P k R b n D) : Go.Maps.size D ≤ n := by
  obtain ⟨es, clock, _, _, hs, rfl⟩ := h
  rw [Go.Maps.size_eq, (sorted_perm _).length_eq, List.length_map, Array.length_toList]
  exact hs

theorem lt_of_le_ne {a b : List UInt8} (h : a ≤ b) (hne : a ≠ b) : a < b := by
  by_cases hlt : a < b
  · exact hlt
  · exact absurd (List.le_antisymm h (List.not_lt.1 hlt)) hne

theorem keys_of_sorted {w : World} {b n : Nat} {f : ByteArray → Option Value} {D : DataW Value} (hown : w.ownsMap Tryz.prog 9 rawElem b n D)
    (hf : ∀ s : ByteArray, s.size ≤ maxLen → Go.Maps.has D (.string s.data.toList) = (f s).isSome ∧ ∀ v, f s = some v → ∀ z, D.atKey (.string s.data.toList) z = .held v) {ss : List (List UInt8)} (hp : ss.Perm (strKeys D)) :
    Keys f ((ss.mergeSort (fun x y => decide (x ≤ y))).map fun x => ⟨x.toArray⟩) := by
  have tr : ∀ a b c : List UInt8, decide (a ≤ b) = true → decide (b ≤ c) = true → decide (a ≤ c) = true := fun a b c h1 h2 => by simp only [decide_eq_true_eq] at *; exact List.le_trans h1 h2
  have tto : ∀ a b : List UInt8, (decide (a ≤ b) || decide (b ≤ a)) = true := fun a b => by simp only [Bool.or_eq_true, decide_eq_true_eq]; exact List.le_total a b
  have hle := strKeys_le hown Tryz.underlying9
  have hmem : ∀ x, x ∈ ss ↔ Go.Maps.has D (.string x) = true := fun x => by
    rw [hp.mem_iff]
    obtain ⟨es, rfl, hko⟩ := hown.keysOf
    rw [Go.Maps.has_eq, List.any_eq_true]
    show x ∈ es.map (fun p => strOf p.1) ↔ _
    rw [List.mem_map]
    constructor
    · rintro ⟨p, hp', rfl⟩
      obtain ⟨v, hv⟩ := hko p hp'
      obtain ⟨y, _, hy, _⟩ := Maps.keyOf_str Tryz.underlying9 hv
      exact ⟨p, hp', by rw [hy]; simp [Lit.sameKey, strOf]⟩
    · rintro ⟨p, hp', hs⟩
      obtain ⟨v, hv⟩ := hko p hp'
      obtain ⟨y, _, hy, _⟩ := Maps.keyOf_str Tryz.underlying9 hv
      rw [hy] at hs
      exact ⟨p, hp', by rw [hy]; simpa [Lit.sameKey, strOf] using hs⟩
  have hnd : ss.Nodup := by
    rw [hp.nodup_iff]
    obtain ⟨es, hD, hpw, _⟩ := hown.entries strKeyed
    obtain ⟨es', hD', hko⟩ := hown.keysOf
    obtain rfl : es = es' := by rw [hD] at hD'; simpa using hD'
    subst hD
    show (es.map fun p => strOf p.1).Nodup
    refine List.pairwise_map.2 (hpw.imp_of_mem fun {p q} hp' hq' hne e => hne ?_)
    obtain ⟨v, hv⟩ := hko p hp'
    obtain ⟨x, _, hx, _⟩ := Maps.keyOf_str Tryz.underlying9 hv
    obtain ⟨v', hv'⟩ := hko q hq'
    obtain ⟨y, _, hy, _⟩ := Maps.keyOf_str Tryz.underlying9 hv'
    rw [hx, hy] at e ⊢
    exact congrArg _ e
  have hnd' : (ss.mergeSort (fun x y => decide (x ≤ y))).Nodup := ((List.mergeSort_perm ss _).nodup_iff).2 hnd
  refine ⟨?_, fun s => ?_⟩
  · refine List.pairwise_map.2 ?_
    refine ((List.pairwise_mergeSort tr tto ss).and hnd').imp (fun {a b} h => ?_)
    have h1 : a ≤ b := by simpa using h.1
    simpa using lt_of_le_ne h1 h.2
  · rw [List.mem_map]
    constructor
    · rintro ⟨x, hx, rfl⟩
      have hx' : x ∈ ss := (List.mergeSort_perm ss _).mem_iff.1 hx
      have hl : x.length ≤ maxLen := hle x (hp.mem_iff.1 hx')
      have hs : (⟨x.toArray⟩ : ByteArray).size ≤ maxLen := by simpa [ByteArray.size] using hl
      refine ⟨hs, ?_⟩
      rw [← (hf ⟨x.toArray⟩ hs).1]
      simpa using (hmem x).1 hx'
    · rintro ⟨hs, hfs⟩
      rw [← (hf s hs).1] at hfs
      exact ⟨s.data.toList, (List.mergeSort_perm ss _).mem_iff.2 ((hmem _).2 hfs), by simp⟩

theorem keys_any (b : Nat) (w : World) : Calls Tryz.prog 96 #[.map (some b)] w fun e w' => e = .returned (.func (.func 131) #[] #[.pointer (some ⟨w.heap.size, 0, none⟩)]) ∧ w' = w.alloc (.cells #[.map (some b)] 166) :=
  callsIn_wide.1 (Tryz.maps_Keys_96 (some b) w)

/-- What 'slices.Sorted' gives for what 'maps.Keys' gave. -/
theorem sorted_any {w : World} {b n : Nat} {f : ByteArray → Option Value} (h : MapIs w b n f) (hn : n ≤ 1700000000000) :
    Calls Tryz.prog 95 #[.func (.func 131) #[] #[.pointer (some ⟨w.heap.size, 0, none⟩)]] (w.alloc (.cells #[.map (some b)] 166)) fun e w' => ∃ (v : Value) (l : List ByteArray), e = .returned v ∧ Keys f l ∧ l.length ≤ n ∧
      Own w' (fun k => w.heap.size + 1 ≤ k ∧ k < w'.heap.size) 9 1 v (strRows l) ∧ Below (w.heap.size + 1) (w.alloc (.cells #[.map (some b)] 166)) w' := by
  obtain ⟨D, hD, hf⟩ := h
  have hsz := map_size_le hD
  refine callsIn_wide.1 ((Tryz.slices_Sorted_keys_95_96 b n D rawElem w hD (by unfold maxLen; omega) (by omega)).mono ?_)
  rintro e w' ⟨v, ss, rfl, hp, hrow, hnil, hb⟩
  have hl : ss.length ≤ n := by
    rw [hp.length_eq]
    obtain ⟨es, rfl, _⟩ := hD.keysOf
    show (es.map fun p => strOf p.1).length ≤ n
    rw [List.length_map]
    exact hsz
  have hz : (w.alloc (.cells #[.map (some b)] 166)).heap.size = w.heap.size + 1 := by simp
  rw [hz] at hb hrow
  refine ⟨v, (ss.mergeSort (fun x y => decide (x ≤ y))).map fun x => ⟨x.toArray⟩, rfl, keys_of_sorted hD hf hp, by rw [List.length_map, List.length_mergeSort]; exact hl, ⟨?_, ?_, fun k hk => hrow.lt k hk⟩, hb⟩
  · have hlen : (strRows ((ss.mergeSort (fun x y => decide (x ≤ y))).map fun x => ⟨x.toArray⟩)).length = ss.length := by
      unfold strRows
      rw [List.length_map, List.length_map, List.length_mergeSort]
    have hfl : (strRows ((ss.mergeSort (fun x y => decide (x ≤ y))).map fun x => ⟨x.toArray⟩)).flatten = (ss.mergeSort (fun x y => decide (x ≤ y))).map encStr := by
      unfold strRows
      generalize ss.mergeSort (fun x y => decide (x ≤ y)) = l
      induction l with
      | nil => rfl
      | cons x l ih => simp only [List.map_cons, List.flatten_cons, ih]; rfl
    rw [hlen, hfl]
    obtain ⟨h1, h2⟩ := hrow
    refine ⟨h1, ?_⟩
    rcases h2 with h2 | ⟨g, cap, cur, e, _, r⟩
    · exact .inl h2
    · exact .inr ⟨g, cap, cur, e, Nat.zero_le _, r⟩
  · intro r hr
    unfold strRows at hr
    obtain ⟨s, _, rfl⟩ := List.mem_map.1 hr
    rfl
end Go.Proofs.YtdmdgnghaceibaaGreat.P
/- How the reference's Server lies in memory. -/
namespace Go.Proofs.YtdmdgnghaceibaaGreat
open M Go.ChangeShapes Go.WideShapes Go.ChangeAt Go.RowKit
set_option linter.unusedVariables false

/-! ### The reference's Server -/

def nodeCells (x : Nd) : List Value := [.string x.name, .bool x.dir, .int .i64 x.inn, .string x.data, .int .i64 x.version, .bool x.gone]
def memberCells (m : Member) : List Value := [.int .i64 m.d, .bool m.leave]
def laidCells (v : Value) (l : Laid) : List Value := [.int .i64 l.onto, v]
def spotCells (v : Value) (s : Spot) : List Value := [.int .i64 s.n, v]
def fidCells (v : Value) (f : Fid) : List Value := [.int .i64 f.n, v, .bool f.op]

/-- A slice value that reads as a row. -/
def RowIs (w : World) (F : Nat → Prop) (v : Value) (row : List Member) : Prop := Own w F 222 2 v (row.map memberCells)
/-- One slice value a thing. -/
def Each {α : Type} (p : Value → α → Prop) (vs : List Value) (xs : List α) : Prop := vs.length = xs.length ∧ ∀ (i : Nat) v x, vs[i]? = some v → xs[i]? = some x → p v x
def WayIs (w : World) (F : Nat → Prop) (v : Value) (way : List Spot) : Prop :=
  ∃ vs, Each (fun v s => RowIs w F v s.row) vs way ∧ Own w F 212 2 v (List.zipWith spotCells vs way)
def LaidsIs (w : World) (F : Nat → Prop) (v : Value) (laid : List Laid) : Prop :=
  ∃ vs, Each (fun v l => RowIs w F v l.row) vs laid ∧ Own w F 226 2 v (List.zipWith laidCells vs laid)
def FidsIs (w : World) (F : Nat → Prop) (v : Value) (fids : List Fid) : Prop :=
  ∃ vs, Each (fun v f => WayIs w F v f.way) vs fids ∧ Own w F 216 3 v (List.zipWith fidCells vs fids)

structure RefHas (w : World) (F : Nat → Prop) (r : Nat) (st : St) (nv lv fv : Value) : Prop where
  blk : w.heap[r]? = some (.cells #[nv, lv, fv, .int .i64 st.calls] 81 (0, 0))
  own : F r
  nodes : Own w F 184 6 nv (st.nodes.map nodeCells)
  laid : LaidsIs w F lv st.laid
  fids : FidsIs w F fv st.fids

def RefIs (w : World) (F : Nat → Prop) (r : Nat) (st : St) : Prop := ∃ nv lv fv, RefHas w F r st nv lv fv

section
variable {w w' : World} {F F' : Nat → Prop} {r : Nat} {st : St} {nv lv fv : Value}
theorem RefHas.c0 (h : RefHas w F r st nv lv fv) : w.cell? ⟨r, 0, none⟩ = some nv := by simp [World.cell?, h.blk]
theorem RefHas.c1 (h : RefHas w F r st nv lv fv) : w.cell? ⟨r, 1, none⟩ = some lv := by simp [World.cell?, h.blk]
theorem RefHas.c2 (h : RefHas w F r st nv lv fv) : w.cell? ⟨r, 2, none⟩ = some fv := by simp [World.cell?, h.blk]
theorem RefHas.c3 (h : RefHas w F r st nv lv fv) : w.cell? ⟨r, 3, none⟩ = some (.int .i64 st.calls) := by simp [World.cell?, h.blk]
theorem RefHas.fz (h : RefHas w F r st nv lv fv) (j : Nat) : w.frozen? ⟨r, j, none⟩ = false := by simp [World.frozen?, h.blk]
theorem RefHas.lt (h : RefHas w F r st nv lv fv) : r < w.heap.size := (Array.getElem?_eq_some_iff.1 h.blk).1
end

section
variable {w w' : World} {F F' : Nat → Prop} {T : TypeId → Prop} {r : Nat} {st : St} {v : Value}
theorem RowIs.keepT {row : List Member} (h : RowIs w F v row) (hk : KeepT T F w w') (h1 : T 222) : RowIs w' F v row := Own.keepT h hk h1
theorem RowIs.mono {row : List Member} (h : RowIs w F v row) (hF : ∀ k, F k → F' k) : RowIs w F' v row := Own.mono h hF
theorem Each.imp {α : Type} {p q : Value → α → Prop} {vs : List Value} {xs : List α} (h : Each p vs xs) (hpq : ∀ v x, p v x → q v x) : Each q vs xs := ⟨h.1, fun i v x hv hx => hpq v x (h.2 i v x hv hx)⟩
theorem WayIs.keepT {way : List Spot} (h : WayIs w F v way) (hk : KeepT T F w w') (h1 : T 222) (h2 : T 212) : WayIs w' F v way := by
  obtain ⟨vs, hE, hO⟩ := h
  exact ⟨vs, hE.imp (fun _ _ h => h.keepT hk h1), hO.keepT hk h2⟩
theorem WayIs.mono {way : List Spot} (h : WayIs w F v way) (hF : ∀ k, F k → F' k) : WayIs w F' v way := by
  obtain ⟨vs, hE, hO⟩ := h
  exact ⟨vs, hE.imp (fun _ _ h => h.mono hF), hO.mono hF⟩
theorem LaidsIs.keepT {laid : List Laid} (h : LaidsIs w F v laid) (hk : KeepT T F w w') (h1 : T 222) (h2 : T 226) : LaidsIs w' F v laid := by
  obtain ⟨vs, hE, hO⟩ := h
  exact ⟨vs, hE.imp (fun _ _ h => h.keepT hk h1), hO.keepT hk h2⟩
theorem LaidsIs.mono {laid : List Laid} (h : LaidsIs w F v laid) (hF : ∀ k, F k → F' k) : LaidsIs w F' v laid := by
  obtain ⟨vs, hE, hO⟩ := h
  exact ⟨vs, hE.imp (fun _ _ h => h.mono hF), hO.mono hF⟩
theorem FidsIs.keepT {fids : List Fid} (h : FidsIs w F v fids) (hk : KeepT T F w w') (h1 : T 222) (h2 : T 212) (h3 : T 216) : FidsIs w' F v fids := by
  obtain ⟨vs, hE, hO⟩ := h
  exact ⟨vs, hE.imp (fun _ _ h => h.keepT hk h1 h2), hO.keepT hk h3⟩
theorem FidsIs.mono {fids : List Fid} (h : FidsIs w F v fids) (hF : ∀ k, F k → F' k) : FidsIs w F' v fids := by
  obtain ⟨vs, hE, hO⟩ := h
  exact ⟨vs, hE.imp (fun _ _ h => h.mono hF), hO.mono hF⟩
theorem RefIs.mono (h : RefIs w F r st) (hF : ∀ k, F k → F' k) : RefIs w F' r st := by
  obtain ⟨nv, lv, fv, h⟩ := h
  exact ⟨nv, lv, fv, h.blk, hF r h.own, h.nodes.mono hF, h.laid.mono hF, h.fids.mono hF⟩
/-- Whatever keeps the blocks of F keeps the Server. -/
theorem RefIs.kept (h : RefIs w F r st) (hk : KeepT (fun _ => True) F w w') : RefIs w' F r st := by
  obtain ⟨nv, lv, fv, h⟩ := h
  exact ⟨nv, lv, fv, (hk r _ _ h.own h.blk trivial).trans h.blk, h.own, h.nodes.keepT hk trivial, h.laid.keepT hk trivial trivial, h.fids.keepT hk trivial trivial trivial⟩
theorem RefIs.below (h : RefIs w F r st) (hb : Below w.heap.size w w') : RefIs w' F r st := h.kept (KeepT.below hb)
theorem RefIs.alloc (h : RefIs w F r st) (o : Obj) : RefIs (w.alloc o) F r st := h.kept ((KeepT.refl _ _ _).alloc o)
theorem RefIs.drew (h : RefIs w F r st) : RefIs w.drew F r st := h.kept ((KeepT.refl _ _ _).drew)
theorem Ext.keepT {G : Nat → Prop} (h : Ext F w w') (hd : ∀ k, G k → ¬ F k) : KeepT T G w w' := fun k _ _ hG hb _ => h.block k (Array.getElem?_eq_some_iff.1 hb).1 (hd k hG)

/-- The list of fids is another one. -/
theorem RefIs.setFids {nv lv fv fv' : Value} {c : Int} {nodes : List Nd} {laid : List Laid} {fids : List Fid} (blk : w.heap[r]? = some (.cells #[nv, lv, fv, .int .i64 c] 81 (0, 0))) (own : F r)
    (hn : Own w F 184 6 nv (nodes.map nodeCells)) (hl : LaidsIs w F lv laid) (hf : FidsIs w F fv' fids) : RefIs (w.setCell ⟨r, 2, none⟩ fv') F r ⟨nodes, laid, fids, c⟩ := by
  have hk : KeepT (fun e => e ≠ 81) F w (w.setCell ⟨r, 2, none⟩ fv') := (KeepT.refl _ _ _).setCell (a := ⟨r, 2, none⟩) blk (by simp) _
  refine ⟨nv, lv, fv', ?_, own, hn.keepT hk (by decide), hl.keepT hk (by decide) (by decide), hf.keepT hk (by decide) (by decide) (by decide)⟩
  rw [heap_setCell_same w r 2 _ _ _ blk]
  rfl

theorem heap_set_lit (w : World) (b j : Nat) (cs : Array Value) (e : TypeId) (u : Value) (h : w.heap[b]? = some (.cells cs e (0, 0))) : (w.setCell ⟨b, j, none⟩ u).heap[b]? = some (.cells (cs.setIfInBounds j u) e (0, 0)) := heap_setCell_same w b j cs e u h

theorem RefIs.tick (h : RefIs w F r st) : RefIs (w.setCell ⟨r, 3, none⟩ (.int .i64 (wrap64 (st.calls + 1)))) F r (tick st) := by
  obtain ⟨nv, lv, fv, h⟩ := h
  have hk : KeepT (fun e => e ≠ 81) F w (w.setCell ⟨r, 3, none⟩ (.int .i64 (wrap64 (st.calls + 1)))) := (KeepT.refl _ _ _).setCell (a := ⟨r, 3, none⟩) h.blk (by simp) _
  refine ⟨nv, lv, fv, ?_, h.own, h.nodes.keepT hk (by decide), h.laid.keepT hk (by decide) (by decide), h.fids.keepT hk (by decide) (by decide) (by decide)⟩
  rw [heap_set_lit _ _ _ _ _ _ h.blk]
  rfl
end
end Go.Proofs.YtdmdgnghaceibaaGreat
/- The reference's 'at', 'call'. -/
namespace Go.Proofs.YtdmdgnghaceibaaGreat
open M Go.ChangeShapes Go.WideShapes Go.ChangeAt Go.RowKit
set_option linter.unusedVariables false

theorem idx_row {α : Type} {p : Value → α → Prop} {c : Value → α → List Value} {vs : List Value} {xs : List α} (h : Each p vs xs) {i : Nat} {x : α} (hx : xs[i]? = some x) :
    ∃ v, vs[i]? = some v ∧ p v x ∧ (List.zipWith c vs xs)[i]? = some (c v x) := by
  have hi : i < vs.length := by rw [h.1]; exact M.lt_of_getElem? hx
  refine ⟨vs[i], List.getElem?_eq_getElem hi, h.2 i _ x (List.getElem?_eq_getElem hi) hx, ?_⟩
  rw [List.getElem?_zipWith, List.getElem?_eq_getElem hi, hx]

theorem zip_len {α : Type} {p : Value → α → Prop} {c : Value → α → List Value} {vs : List Value} {xs : List α} (h : Each p vs xs) : (List.zipWith c vs xs).length = xs.length := by
  rw [List.length_zipWith, h.1]; omega

set_option maxHeartbeats 400000 in
theorem at_core (r fb cap : Nat) (fids : List Fid) (n : Int) (w : World)
    (h2 : w.cell? ⟨r, 2, none⟩ = some (.slice (some ⟨fb, 0, none⟩) fids.length cap))
    (hc : ∀ i f, fids[i]? = some f → w.cell? ⟨fb, i * 3, none⟩ = some (.int .i64 f.n)) (hl : fids.length ≤ maxLen) :
    Calls Tryz.prog 146 #[.pointer (some ⟨r, 0, none⟩), .int .i64 n] w fun e w' => e = .returned (.int .i64 (idxV (fids.findIdx? (fun f => f.n == n)))) ∧ w' = w := by
  unfold maxLen at hl
  go_enter Tryz.func146, Tryz.ntmps146
  go_wp2
  go_loop [5] (fun i => ∃ k : Nat, k ≤ fids.length ∧ i = .int .i64 k ∧ ∀ j y, j < k → fids[j]? = some y → (y.n == n) = false) (fun i => fids.length - (intOf i).toNat)
  case atStart => exact ⟨0, Nat.zero_le _, rfl, by omega⟩
  case round =>
    obtain ⟨k, hk, rfl, hno⟩ := hrel
    have Hno := hide hno
    clear hno
    by_cases hlt : k < fids.length
    · obtain ⟨f, hf⟩ := getElem?_of_lt hlt
      have hcf := hc k f hf
      have Hf := hide hf
      clear hf hc
      cases hfn : (f.n == n) with
      | true =>
        go_wp2
        go_ret
        exact ⟨by rw [findIdx?_some_of _ _ k f Hf.out hfn Hno.out]; rfl, rfl⟩
      | false =>
        go_wp2
        go_round
        case rel =>
          refine ⟨k + 1, by omega, by go_num, fun j y hj hy => ?_⟩
          by_cases h : j = k
          · subst h
            rw [Hf.out] at hy
            cases hy
            exact hfn
          · exact Hno.out j y (by omega) hy
        case measure => simp [intOf]; omega
    · go_wp2
      go_ret
      exact ⟨by rw [findIdx?_none_of _ _ (fun j y hy => Hno.out j y (by have := M.lt_of_getElem? hy; omega) hy)]; rfl, rfl⟩

theorem at_nil (r : Nat) (n : Int) (w : World) (h2 : w.cell? ⟨r, 2, none⟩ = some (.slice none 0 0)) :
    Calls Tryz.prog 146 #[.pointer (some ⟨r, 0, none⟩), .int .i64 n] w fun e w' => e = .returned (.int .i64 (-1)) ∧ w' = w := by
  go_enter Tryz.func146, Tryz.ntmps146
  go_wp2
  go_loop [5] (fun i => i = .int .i64 0) (fun _ => 0)
  case atStart => rfl
  case round =>
    subst hrel
    go_wp2
    go_ret
    exact ⟨rfl, rfl⟩

/-- 'at': where a fid is in the list. -/
theorem at_any {w : World} {F : Nat → Prop} {r : Nat} {st : St} (n : Int) (h : RefIs w F r st) :
    Calls Tryz.prog 146 #[.pointer (some ⟨r, 0, none⟩), .int .i64 n] w fun e w' => e = .returned (.int .i64 (idxV (find st n))) ∧ w' = w := by
  obtain ⟨nv, lv, fv, h⟩ := h
  obtain ⟨vs, hE, hO⟩ := h.fids
  rcases hO.opened with ⟨rfl, hn⟩ | ⟨g, cap, rfl, hcap, hmax, hF, hb, hcell, _⟩
  · have h0 : st.fids = [] := by
      have := zip_len (c := fidCells) hE
      rw [hn] at this
      exact List.length_eq_zero_iff.1 this.symm
    rw [show find st n = none by simp [find, h0]]
    exact at_nil r n w h.c2
  · have hl := zip_len (c := fidCells) hE
    rw [hl] at hcap
    refine at_core r g cap st.fids n w (by rw [h.c2, hl]) ?_ (by omega)
    intro i f hf
    obtain ⟨v, _, _, hrow⟩ := idx_row (c := fidCells) hE hf
    exact hcell i _ 0 _ hrow rfl

/-- 'call': one call more; where the fid is. -/
theorem call_any {w : World} {F : Nat → Prop} {r : Nat} {st : St} (n : Int) (h : RefIs w F r st) :
    Calls Tryz.prog 137 #[.pointer (some ⟨r, 0, none⟩), .int .i64 n] w fun e w' => e = .returned (.int .i64 (idxV (find st n))) ∧ RefIs w' F r (tick st) ∧ Ext F w w' ∧ w'.heap.size = w.heap.size := by
  have ht := h.tick
  obtain ⟨nv, lv, fv, h⟩ := h
  have h3 := h.c3
  have f3 := h.fz 3
  go_enter Tryz.func137, Tryz.ntmps137
  go_wp2_with fail
  refine (at_any n ht).mono ?_
  rintro e w' ⟨rfl, rfl⟩
  go_wp2
  go_ret
  exact ⟨rfl, ht, (Ext.refl _ _).setCell (.inl h.own) _, by simp⟩
end Go.Proofs.YtdmdgnghaceibaaGreat
/- The reference's reading functions. -/
namespace Go.Proofs.YtdmdgnghaceibaaGreat
open M Go.ChangeShapes Go.WideShapes Go.ChangeAt Go.RowKit
set_option linter.unusedVariables false

set_option maxHeartbeats 400000 in
theorem spot_core (fb fo gw m cap : Nat) (N : Int) (ao : Option Addr) (rn rc : Nat) (w : World) (hm : 0 < m) (hl : m ≤ maxLen)
    (h1 : w.cell? ⟨fb, fo + 1, none⟩ = some (.slice (some ⟨gw, 0, none⟩) m cap))
    (c0 : w.cell? ⟨gw, (m - 1) * 2, none⟩ = some (.int .i64 N)) (c1 : w.cell? ⟨gw, (m - 1) * 2 + 1, none⟩ = some (.slice ao rn rc)) :
    Calls Tryz.prog 142 #[.pointer (some ⟨fb, fo, none⟩)] w fun e w' => e = .returned (.agg #[.int .i64 N, .slice ao rn rc]) ∧ Below w.heap.size w w' := by
  unfold maxLen at hl
  obtain ⟨k, rfl⟩ : ∃ k, m = k + 1 := ⟨m - 1, by omega⟩
  simp only [Nat.add_sub_cancel] at c0 c1
  have h1' := up h1
  have c0' := up c0
  have c1' := up c1
  go_enter Tryz.func142, Tryz.ntmps142
  go_wp2
  go_region
  go_wp2
  exact bodyPost_ret (v := .agg #[.int .i64 N, .slice ao rn rc]) (by simp [results, Tryz.results142, go_sem]) rfl ⟨rfl, ((Below.refl _ _).alloc (Nat.le_refl _) _).drew⟩

/-- A way that is not empty, as its last spot lies there. -/
theorem WayIs.last {w : World} {F : Nat → Prop} {v : Value} {way : List Spot} (h : WayIs w F v way) (s : Spot) (hs : way.getLast? = some s) :
    ∃ g cap ao c, v = .slice (some ⟨g, 0, none⟩) way.length cap ∧ 0 < way.length ∧ way.length ≤ maxLen ∧ RowIs w F (.slice ao s.row.length c) s.row ∧
      w.cell? ⟨g, (way.length - 1) * 2, none⟩ = some (.int .i64 s.n) ∧ w.cell? ⟨g, (way.length - 1) * 2 + 1, none⟩ = some (.slice ao s.row.length c) := by
  obtain ⟨vs, hE, hO⟩ := h
  have hl := zip_len (c := spotCells) hE
  have hpos : 0 < way.length := by
    rcases way with _ | ⟨a, l⟩
    · simp at hs
    · simp
  have hi : way[way.length - 1]? = some s := by rw [← List.getLast?_eq_getElem?]; exact hs
  obtain ⟨rv, hrv, hrow, hz⟩ := idx_row (c := spotCells) hE hi
  rcases hO.opened with ⟨rfl, hn⟩ | ⟨g, cap, rfl, hcap, hmax, hF, hb, hcell, _⟩
  · rw [hn] at hl
    simp at hl
    omega
  · obtain ⟨ao, c, rfl⟩ := Own.form hrow
    simp only [List.length_map] at hrow hrv hz hcell
    exact ⟨g, cap, ao, c, by rw [hl], hpos, by omega, hrow, hcell _ _ 0 _ hz rfl, hcell _ _ 1 _ hz rfl⟩

/-- The i-th fid, as it lies in the list. -/
theorem FidsIs.at {w : World} {F : Nat → Prop} {v : Value} {fids : List Fid} (h : FidsIs w F v fids) (i : Nat) (f : Fid) (hf : fids[i]? = some f) :
    ∃ g cap wv, v = .slice (some ⟨g, 0, none⟩) fids.length cap ∧ fids.length ≤ maxLen ∧ F g ∧ (∃ cur, w.heap[g]? = some (.cells cur 216 (0, 0))) ∧ WayIs w F wv f.way ∧
      w.cell? ⟨g, i * 3, none⟩ = some (.int .i64 f.n) ∧ w.cell? ⟨g, i * 3 + 1, none⟩ = some wv ∧ w.cell? ⟨g, i * 3 + 2, none⟩ = some (.bool f.op) ∧ (∀ j, w.frozen? ⟨g, j, none⟩ = false) := by
  obtain ⟨vs, hE, hO⟩ := h
  have hl := zip_len (c := fidCells) hE
  obtain ⟨wv, hwv, hway, hz⟩ := idx_row (c := fidCells) hE hf
  rcases hO.opened with ⟨rfl, hn⟩ | ⟨g, cap, rfl, hcap, hmax, hF, hb, hcell, hfz⟩
  · rw [hn] at hz
    simp at hz
  · exact ⟨g, cap, wv, by rw [hl], by omega, hF, hb, hway, hcell _ _ 0 _ hz rfl, hcell _ _ 1 _ hz rfl, hcell _ _ 2 _ hz rfl, hfz⟩

/-- The nodes, as they lie in the list. -/
theorem RefHas.nodesAt {w : World} {F : Nat → Prop} {r : Nat} {st : St} {nv lv fv : Value} (h : RefHas w F r st nv lv fv) (h0 : 0 < st.nodes.length) :
    ∃ g cap, nv = .slice (some ⟨g, 0, none⟩) st.nodes.length cap ∧ st.nodes.length ≤ maxLen ∧ F g ∧ (∃ cur, w.heap[g]? = some (.cells cur 184 (0, 0))) ∧
      (∀ i x, st.nodes[i]? = some x → w.cell? ⟨g, i * 6, none⟩ = some (.string x.name) ∧ w.cell? ⟨g, i * 6 + 1, none⟩ = some (.bool x.dir) ∧ w.cell? ⟨g, i * 6 + 2, none⟩ = some (.int .i64 x.inn) ∧
        w.cell? ⟨g, i * 6 + 3, none⟩ = some (.string x.data) ∧ w.cell? ⟨g, i * 6 + 4, none⟩ = some (.int .i64 x.version) ∧ w.cell? ⟨g, i * 6 + 5, none⟩ = some (.bool x.gone)) ∧ (∀ j, w.frozen? ⟨g, j, none⟩ = false) := by
  rcases h.nodes.opened with ⟨rfl, hn⟩ | ⟨g, cap, rfl, hcap, hmax, hF, hb, hcell, hfz⟩
  · have := congrArg List.length hn
    rw [List.length_map] at this
    simp only [List.length_nil] at this
    omega
  · rw [List.length_map] at hcap
    refine ⟨g, cap, by rw [List.length_map], by omega, hF, hb, fun i x hx => ?_, hfz⟩
    have hz : (st.nodes.map nodeCells)[i]? = some (nodeCells x) := by rw [List.getElem?_map, hx]; rfl
    exact ⟨hcell _ _ 0 _ hz rfl, hcell _ _ 1 _ hz rfl, hcell _ _ 2 _ hz rfl, hcell _ _ 3 _ hz rfl, hcell _ _ 4 _ hz rfl, hcell _ _ 5 _ hz rfl⟩

/-- How 'row' ends. -/
def RowEnd (laid : List Laid) (rvs : List Value) (d : Nat) (w : World) (e : Ending) (w' : World) : Prop :=
  (∃ (i : Nat) (l : Laid) (v : Value), laid[i]? = some l ∧ laid.find? (fun l => l.onto == d) = some l ∧ rvs[i]? = some v ∧ e = .returned v ∧ w' = w) ∨
      (laid.find? (fun l => l.onto == d) = none ∧ e = .returned (.slice (some ⟨w.heap.size, 0, none⟩) 1 1) ∧ w' = w.alloc (.cells #[.int .i64 d, .bool true] 222))

set_option maxHeartbeats 400000 in
theorem row_core (r lb cap : Nat) (laid : List Laid) (rvs : List Value) (d : Nat) (w : World)
    (h2 : w.cell? ⟨r, 1, none⟩ = some (.slice (some ⟨lb, 0, none⟩) laid.length cap)) (hl : laid.length ≤ maxLen)
    (hc : ∀ i l, laid[i]? = some l → ∃ v, rvs[i]? = some v ∧ w.cell? ⟨lb, i * 2, none⟩ = some (.int .i64 l.onto) ∧ w.cell? ⟨lb, i * 2 + 1, none⟩ = some v) :
    Calls Tryz.prog 147 #[.pointer (some ⟨r, 0, none⟩), .int .i64 d] w fun e w' => RowEnd laid rvs d w e w' := by
  unfold maxLen at hl
  go_enter Tryz.func147, Tryz.ntmps147
  go_wp2
  go_loop [5] (fun i => ∃ k : Nat, k ≤ laid.length ∧ i = .int .i64 k ∧ ∀ j y, j < k → laid[j]? = some y → (y.onto == d) = false) (fun i => laid.length - (intOf i).toNat)
  case atStart => exact ⟨0, Nat.zero_le _, rfl, by omega⟩
  case round =>
    obtain ⟨k, hk, rfl, hno⟩ := hrel
    have Hno := hide hno
    clear hno
    by_cases hlt : k < laid.length
    · obtain ⟨l, hf⟩ := getElem?_of_lt hlt
      obtain ⟨v, hv, c0, c1⟩ := hc k l hf
      have Hf := hide hf
      have Hv := hide hv
      clear hf hc hv
      cases hfn : (l.onto == d) with
      | true =>
        have hfn' : ((l.onto : Int) == (d : Int)) = true := by simp only [beq_iff_eq] at hfn ⊢; omega
        have Hfn := hide hfn
        clear hfn
        go_wp2
        go_ret
        exact .inl ⟨k, l, v, Hf.out, find?_some_of _ _ k l Hf.out Hfn.out Hno.out, Hv.out, rfl, rfl⟩
      | false =>
        have hfn' : ((l.onto : Int) == (d : Int)) = false := by simp only [beq_eq_false_iff_ne] at hfn ⊢; omega
        have Hfn := hide hfn
        clear hfn
        go_wp2
        go_round
        case rel =>
          refine ⟨k + 1, by omega, by go_num, fun j y hj hy => ?_⟩
          by_cases h : j = k
          · subst h
            rw [Hf.out] at hy
            cases hy
            exact Hfn.out
          · exact Hno.out j y (by omega) hy
        case measure => simp [intOf]; omega
    · go_wp2
      go_ret
      exact .inr ⟨find?_none_of _ _ (fun j y hy => Hno.out j y (by have := M.lt_of_getElem? hy; omega) hy), rfl, rfl⟩

theorem row_nil (r : Nat) (d : Nat) (w : World) (h2 : w.cell? ⟨r, 1, none⟩ = some (.slice none 0 0)) :
    Calls Tryz.prog 147 #[.pointer (some ⟨r, 0, none⟩), .int .i64 d] w fun e w' => e = .returned (.slice (some ⟨w.heap.size, 0, none⟩) 1 1) ∧ w' = w.alloc (.cells #[.int .i64 d, .bool true] 222) := by
  go_enter Tryz.func147, Tryz.ntmps147
  go_wp2
  go_loop [5] (fun i => i = .int .i64 0) (fun _ => 0)
  case atStart => rfl
  case round =>
    subst hrel
    go_wp2
    go_ret
    exact ⟨rfl, rfl⟩

theorem row_lit (w : World) (F : Nat → Prop) (d : Nat) : RowIs (w.alloc (.cells #[.int .i64 d, .bool true] 222)) (ext F w (w.alloc (.cells #[.int .i64 d, .bool true] 222))) (.slice (some ⟨w.heap.size, 0, none⟩) 1 1) [⟨d, true⟩] := by
  refine ⟨World.ownsRow_lit w #[.int .i64 d, .bool true] 1 (Nat.zero_le _) (by decide) rfl, by simp [memberCells], fun k hk => ?_⟩
  simp [Value.ownBlock] at hk
  subst hk
  exact .inr ⟨Nat.le_refl _, by simp⟩

/-- 'row': what is seen of a directory now. -/
theorem row_any {w : World} {F : Nat → Prop} {r : Nat} {st : St} (d : Nat) (h : RefIs w F r st) :
    Calls Tryz.prog 147 #[.pointer (some ⟨r, 0, none⟩), .int .i64 d] w fun e w' => ∃ ao c, e = .returned (.slice ao (rowOf st d).length c) ∧ RowIs w' (ext F w w') (.slice ao (rowOf st d).length c) (rowOf st d) ∧ Below w.heap.size w w' := by
  obtain ⟨nv, lv, fv, h⟩ := h
  obtain ⟨vs, hE, hO⟩ := h.laid
  have hl := zip_len (c := laidCells) hE
  rcases hO.opened with ⟨rfl, hn⟩ | ⟨g, cap, rfl, hcap, hmax, hF, hb, hcell, _⟩
  · have h0 : st.laid = [] := by
      rw [hn] at hl
      exact List.length_eq_zero_iff.1 hl.symm
    have hr : rowOf st d = [⟨d, true⟩] := by simp [rowOf, h0]
    rw [hr]
    refine (row_nil r d w h.c1).mono ?_
    rintro e w' ⟨rfl, rfl⟩
    exact ⟨_, _, rfl, row_lit w F d, (Below.refl _ _).alloc (Nat.le_refl _) _⟩
  · rw [hl] at hcap
    refine (row_core r g cap st.laid vs d w (by rw [h.c1, hl]) (by omega) ?_).mono ?_
    · intro i l hi
      obtain ⟨v, hv, _, hz⟩ := idx_row (c := laidCells) hE hi
      exact ⟨v, hv, hcell _ _ 0 _ hz rfl, hcell _ _ 1 _ hz rfl⟩
    · rintro e w' (⟨i, l, v, hi, hfd, hv, rfl, rfl⟩ | ⟨hfd, rfl, rfl⟩)
      · have hr : rowOf st d = l.row := by simp [rowOf, hfd]
        have hrow := hE.2 i v l hv hi
        obtain ⟨ao, c, rfl⟩ := Own.form hrow
        simp only [List.length_map] at hrow
        rw [hr]
        refine ⟨ao, c, by simp, hrow.mono (fun k hk => .inl hk), Below.refl _ _⟩
      · have hr : rowOf st d = [⟨d, true⟩] := by simp [rowOf, hfd]
        rw [hr]
        exact ⟨_, _, rfl, row_lit w F d, (Below.refl _ _).alloc (Nat.le_refl _) _⟩
end Go.Proofs.YtdmdgnghaceibaaGreat
/- The reference's reading functions: come, lies, seen, count, node, IsName. -/
namespace Go.Proofs.YtdmdgnghaceibaaGreat
open M Go.ChangeShapes Go.WideShapes Go.ChangeAt Go.RowKit
set_option linter.unusedVariables false

set_option maxHeartbeats 400000 in
/-- 'come': the spot of a node, now. -/
theorem come_any {w : World} {F : Nat → Prop} {r : Nat} {st : St} (n : Nat) (hn : n < st.nodes.length) (h : RefIs w F r st) :
    Calls Tryz.prog 138 #[.pointer (some ⟨r, 0, none⟩), .int .i64 n] w fun e w' => ∃ ao c, e = .returned (.agg #[.int .i64 n, .slice ao (come st n).row.length c]) ∧ RowIs w' (ext F w w') (.slice ao (come st n).row.length c) (come st n).row ∧ Below w.heap.size w w' := by
  have hR := h
  obtain ⟨nv, lv, fv, h⟩ := h
  obtain ⟨g, cap, rfl, hmax, hF, hb, hcell, hfz⟩ := h.nodesAt (by omega)
  unfold maxLen at hmax
  obtain ⟨x, hx⟩ := getElem?_of_lt hn
  obtain ⟨_, hdir, _⟩ := hcell n x hx
  have h0 := up2 h.c0
  have hd := up2 hdir
  have HR := hide hR
  have hD : isDir st n = x.dir := by simp [isDir, hx]
  have HD := hide hD
  have Hx := hide hx
  clear hR hD hx hcell hb h hfz hdir
  cases hxd : x.dir with
  | false =>
    rw [hxd] at hd HD
    go_enter Tryz.func138, Tryz.ntmps138
    go_wp2
    have hc : (come st n).row = [] := by simp [come, HD.out]
    rw [hc]
    refine bodyPost_ret (v := .agg #[.int .i64 n, .slice none 0 0]) (by simp [results, Tryz.results138, go_sem]) rfl ⟨none, 0, rfl, Own.nil _ _ _ _, ?_⟩
    exact ((Below.refl _ _).alloc (Nat.le_refl _) _).alloc (by simp) _
  | true =>
    rw [hxd] at hd HD
    have hc : (come st n).row = rowOf st n := by simp [come, HD.out]
    rw [hc]
    go_enter Tryz.func138, Tryz.ntmps138
    go_wp2_with fail
    refine (row_any n ((HR.out.alloc _).alloc _)).mono ?_
    rintro e w1 ⟨ao, c, rfl, hrow, hb⟩
    obtain ⟨hcw, hfw⟩ := bcell hb
    have hz : w.heap.size + 1 < w1.heap.size := by have := hb.size; simp at this; omega
    have Hrow := hide hrow
    have Hb := hide hb
    clear hrow hb h0 hd
    go_wp2
    have hb := Hb.out
    have hrow := Hrow.out
    have t0 : Ty w1 w.heap.size 212 := ((Ty.new _ _ _).alloc _).below hb (by simp <;> omega)
    have t1 : Ty w1 (w.heap.size + 1) 212 := by
      have := (Ty.new (w.alloc (.cells #[.int .i64 0, .slice none 0 0] 212)) #[.int .i64 n, .slice none 0 0] 212).below hb (by simp <;> omega)
      simpa using this
    have e0 : w1.cell? ⟨w.heap.size, 0, none⟩ = some (.int .i64 0) := by rw [hcw _ _ (by simp <;> omega)]; simp
    have e1 : w1.cell? ⟨w.heap.size, 1, none⟩ = some (.slice none 0 0) := by rw [hcw _ _ (by simp <;> omega)]; simp
    have q0 := World.cell?_setCell_same (w1.setCell ⟨w.heap.size + 1, 1, none⟩ (.slice ao (rowOf st n).length c)) ⟨w.heap.size, 0, none⟩ (.int .i64 n) ((World.cell?_setCell_other w1 _ _ _ (by simp)).trans e0)
    have q1 := World.cell?_setCell_same ((w1.setCell ⟨w.heap.size + 1, 1, none⟩ (.slice ao (rowOf st n).length c)).setCell ⟨w.heap.size, 0, none⟩ (.int .i64 n)) ⟨w.heap.size, 1, none⟩ (.slice ao (rowOf st n).length c) ((World.cell?_setCell_other _ _ _ _ (by simp)).trans ((World.cell?_setCell_other w1 _ _ _ (by simp)).trans e1))
    refine bodyPost_ret (v := .agg #[.int .i64 n, .slice ao (rowOf st n).length c]) (by simp [results, Tryz.results138, go_sem, q0, q1]) rfl ⟨ao, c, rfl, ?_, ?_⟩
    · refine (hrow.mono (ext_le (by simp <;> omega) (by simp))).keepT (T := fun e => e = 222) ?_ rfl
      exact (((KeepT.refl _ _ _).setTy t1 (by decide) _).setTy (t0.setCell _ _) (by decide) _).setTy ((t0.setCell _ _).setCell _ _) (by decide) _
    · exact ((((((Below.refl _ _).alloc (Nat.le_refl _) _).alloc (by simp) _).trans (hb.mono (by simp <;> omega))).setCell (by simp <;> omega) _).setCell (by simp <;> omega) _).setCell (by simp) _
end Go.Proofs.YtdmdgnghaceibaaGreat
/- The reference's 'lies', 'seen', 'count', 'node'. -/
namespace Go.Proofs.YtdmdgnghaceibaaGreat
open M Go.ChangeShapes Go.WideShapes Go.ChangeAt Go.RowKit
set_option linter.unusedVariables false

set_option maxHeartbeats 1000000 in
theorem lies_core (r g cap : Nat) (nodes : List Nd) (d : Nat) (name : ByteArray) (w : World) (hl : nodes.length ≤ maxLen)
    (h0 : w.cell? ⟨r, 0, none⟩ = some (.slice (some ⟨g, 0, none⟩) nodes.length cap))
    (hc : ∀ i x, nodes[i]? = some x → w.cell? ⟨g, i * 6, none⟩ = some (.string x.name) ∧ w.cell? ⟨g, i * 6 + 2, none⟩ = some (.int .i64 x.inn) ∧ w.cell? ⟨g, i * 6 + 5, none⟩ = some (.bool x.gone)) :
    Calls Tryz.prog 174 #[.pointer (some ⟨r, 0, none⟩), .int .i64 d, .string name] w fun e w' => e = .returned (.int .i64 (idxV (nodes.findIdx? (liesHere d name)))) ∧ w' = w := by
  unfold maxLen at hl
  go_enter Tryz.func174, Tryz.ntmps174
  go_wp2
  go_loop [7] (fun i => ∃ k : Nat, k ≤ nodes.length ∧ i = .int .i64 k ∧ ∀ j y, j < k → nodes[j]? = some y → liesHere d name y = false) (fun i => nodes.length - (intOf i).toNat)
  case atStart => exact ⟨0, Nat.zero_le _, rfl, by omega⟩
  case round =>
    obtain ⟨k, hk, rfl, hno⟩ := hrel
    have Hno := hide hno
    clear hno
    by_cases hlt : k < nodes.length
    · obtain ⟨x, hx⟩ := getElem?_of_lt hlt
      obtain ⟨c0, c2, c5⟩ := hc k x hx
      have Hx := hide hx
      clear hx hc
      have hnext : liesHere d name x = false → (∃ m : Nat, m ≤ nodes.length ∧ Value.int .i64 ((k : Int) + 1) = .int .i64 m ∧ ∀ j y, j < m → nodes[j]? = some y → liesHere d name y = false) := fun hf => by
        refine ⟨k + 1, by omega, by go_num, fun j y hj hy => ?_⟩
        by_cases h : j = k
        · subst h
          rw [Hx.out] at hy
          cases hy
          exact hf
        · exact Hno.out j y (by omega) hy
      have Hnext := hide hnext
      clear hnext
      cases h1 : (x.inn == (d : Int)) with
      | false =>
        have Hf := hide (show liesHere d name x = false by simp [liesHere, h1])
        go_wp2
        go_round
        case rel => exact Hnext.out Hf.out
        case measure => simp [intOf]; omega
      | true =>
        by_cases h2 : x.name.toList = name.toList
        · cases h3 : x.gone with
          | true =>
            rw [h3] at c5
            have Hf := hide (show liesHere d name x = false by simp [liesHere, h3])
            go_wp2
            go_round
            case rel => exact Hnext.out Hf.out
            case measure => simp [intOf]; omega
          | false =>
            rw [h3] at c5
            have Hf := hide (show liesHere d name x = true by simp [liesHere, h1, h2, h3])
            go_wp2
            go_ret
            exact ⟨by rw [findIdx?_some_of _ _ k x Hx.out Hf.out Hno.out]; rfl, rfl⟩
        · have Hf := hide (show liesHere d name x = false by simp [liesHere, h2])
          go_wp2
          go_round
          case rel => exact Hnext.out Hf.out
          case measure => simp [intOf]; omega
    · go_wp2
      go_ret
      exact ⟨by rw [findIdx?_none_of _ _ (fun j y hy => Hno.out j y (by have := M.lt_of_getElem? hy; omega) hy)]; rfl, rfl⟩

/-- 'lies': the node of this name in a directory. -/
theorem lies_any {w : World} {F : Nat → Prop} {r : Nat} {st : St} (d : Nat) (name : ByteArray) (h0 : 0 < st.nodes.length) (h : RefIs w F r st) :
    Calls Tryz.prog 174 #[.pointer (some ⟨r, 0, none⟩), .int .i64 d, .string name] w fun e w' => e = .returned (.int .i64 (idxV (lies st d name))) ∧ w' = w := by
  obtain ⟨nv, lv, fv, h⟩ := h
  obtain ⟨g, cap, rfl, hmax, hF, hb, hcell, hfz⟩ := h.nodesAt h0
  exact lies_core r g cap st.nodes d name w hmax h.c0 (fun i x hx => ⟨(hcell i x hx).1, (hcell i x hx).2.2.1, (hcell i x hx).2.2.2.2.2⟩)

def liveCount (l : List Nd) : Nat := (l.filter fun x => !x.gone).length

theorem liveCount_snoc (l : List Nd) (k : Nat) (x : Nd) (hx : l[k]? = some x) : liveCount (l.take (k + 1)) = liveCount (l.take k) + (if x.gone then 0 else 1) := by
  have hlt := M.lt_of_getElem? hx
  have : l[k] = x := by rw [List.getElem?_eq_getElem hlt] at hx; exact Option.some.inj hx
  rw [List.take_succ_eq_append_getElem hlt, this]
  unfold liveCount
  rw [List.filter_append, List.length_append]
  cases h : x.gone <;> simp [h]

theorem liveCount_le (l : List Nd) (k : Nat) : liveCount (l.take k) ≤ k := by
  unfold liveCount
  exact Nat.le_trans (List.length_filter_le _ _) (List.length_take_le _ _)

set_option maxHeartbeats 400000 in
theorem count_core (r g cap : Nat) (nodes : List Nd) (w : World) (hl : nodes.length ≤ maxLen)
    (h0 : w.cell? ⟨r, 0, none⟩ = some (.slice (some ⟨g, 0, none⟩) nodes.length cap))
    (hc : ∀ i x, nodes[i]? = some x → w.cell? ⟨g, i * 6 + 5, none⟩ = some (.bool x.gone)) :
    Calls Tryz.prog 144 #[.pointer (some ⟨r, 0, none⟩)] w fun e w' => e = .returned (.int .i64 (liveCount nodes)) ∧ w' = w := by
  unfold maxLen at hl
  go_enter Tryz.func144, Tryz.ntmps144
  go_wp2
  go_loop [3, 4] (fun n i => ∃ k : Nat, k ≤ nodes.length ∧ i = .int .i64 k ∧ n = .int .i64 (liveCount (nodes.take k))) (fun _ i => nodes.length - (intOf i).toNat)
  case atStart => exact ⟨0, Nat.zero_le _, rfl, rfl⟩
  case round =>
    obtain ⟨k, hk, rfl, rfl⟩ := hrel
    have hle := liveCount_le nodes k
    by_cases hlt : k < nodes.length
    · obtain ⟨x, hx⟩ := getElem?_of_lt hlt
      have c5 := hc k x hx
      have Hs := hide (liveCount_snoc nodes k x hx)
      clear hx hc
      generalize liveCount (nodes.take k) = m at *
      cases h3 : x.gone with
      | true =>
        rw [h3] at c5 Hs
        go_wp2
        go_round
        case rel => exact ⟨k + 1, by omega, by go_num, by rw [Hs.out]; rfl⟩
        case measure => simp [intOf]; omega
      | false =>
        rw [h3] at c5 Hs
        go_wp2
        go_round
        case rel => exact ⟨k + 1, by omega, by go_num, by rw [Hs.out]; go_num⟩
        case measure => simp [intOf]; omega
    · have e : nodes.take k = nodes := List.take_of_length_le (by omega)
      rw [e] at hle
      rw [e]
      go_wp2
      go_ret
      exact ⟨rfl, rfl⟩

/-- 'count': how many nodes there are. -/
theorem count_any {w : World} {F : Nat → Prop} {r : Nat} {st : St} (h0 : 0 < st.nodes.length) (h : RefIs w F r st) :
    Calls Tryz.prog 144 #[.pointer (some ⟨r, 0, none⟩)] w fun e w' => e = .returned (.int .i64 (liveCount st.nodes)) ∧ w' = w := by
  obtain ⟨nv, lv, fv, h⟩ := h
  obtain ⟨g, cap, rfl, hmax, hF, hb, hcell, hfz⟩ := h.nodesAt h0
  exact count_core r g cap st.nodes w hmax h.c0 (fun i x hx => (hcell i x hx).2.2.2.2.2)
end Go.Proofs.YtdmdgnghaceibaaGreat
/- The reference's 'seen', 'node'. -/
namespace Go.Proofs.YtdmdgnghaceibaaGreat
open M Go.ChangeShapes Go.WideShapes Go.ChangeAt Go.RowKit
set_option linter.unusedVariables false

theorem seen_drop (st : St) (name : ByteArray) (row : List Member) (k : Nat) (m : Member) (hm : row[k]? = some m) :
    seenIn st name (row.drop k) = if isGone st m.d then seenIn st name (row.drop (k + 1)) else match lies st m.d name with | some n => some n | none => seenIn st name (row.drop (k + 1)) := by
  have hlt := M.lt_of_getElem? hm
  have : row[k] = m := by rw [List.getElem?_eq_getElem hlt] at hm; exact Option.some.inj hm
  rw [List.drop_eq_getElem_cons hlt, this]
  rfl

set_option maxHeartbeats 1000000 in
theorem seen_core {w : World} {F : Nat → Prop} {r : Nat} {st : St} (row : List Member) (name : ByteArray) (rb rc : Nat) (h : RefIs w F r st) (h0 : 0 < st.nodes.length) (hl : row.length ≤ maxLen)
    (hrow : ∀ i m, row[i]? = some m → w.cell? ⟨rb, i * 2, none⟩ = some (.int .i64 m.d) ∧ m.d < st.nodes.length) :
    Calls Tryz.prog 143 #[.pointer (some ⟨r, 0, none⟩), .slice (some ⟨rb, 0, none⟩) row.length rc, .string name] w fun e w' => e = .returned (.int .i64 (idxV (seenIn st name row))) ∧ Below w.heap.size w w' := by
  have HR := hide h
  obtain ⟨nv, lv, fv, h⟩ := h
  obtain ⟨g, cap, rfl, hmax, hF, hb, hcell, hfz⟩ := h.nodesAt h0
  have hc0 := h.c0
  unfold maxLen at hl hmax
  clear h hb hfz hF
  go_enter Tryz.func143, Tryz.ntmps143
  go_wp2
  go_loopw [7] (fun i wr => ∃ k : Nat, k ≤ row.length ∧ i = .int .i64 k ∧ seenIn st name (row.drop k) = seenIn st name row ∧ Below w.heap.size w wr) (fun i _ => row.length - (intOf i).toNat)
  case atStart => exact ⟨0, Nat.zero_le _, rfl, rfl, Below.refl _ _⟩
  case round =>
    obtain ⟨k, hk, rfl, hsn, hbl⟩ := hrel
    have HB := hide hbl
    have Hsn := hide hsn
    clear hsn
    by_cases hlt : k < row.length
    · obtain ⟨m, hm⟩ := getElem?_of_lt hlt
      obtain ⟨cm, hd⟩ := hrow k m hm
      obtain ⟨x, hx⟩ := getElem?_of_lt hd
      have c5 := (hcell m.d x hx).2.2.2.2.2
      have cm' : wr.cell? ⟨rb, k * 2, none⟩ = some (.int .i64 m.d) := (hbl.cell (World.block_lt_of_cell? w _ cm)).trans cm
      have c5' : wr.cell? ⟨g, m.d * 6 + 5, none⟩ = some (.bool x.gone) := (hbl.cell (World.block_lt_of_cell? w _ c5)).trans c5
      have c0' : wr.cell? ⟨r, 0, none⟩ = some (.slice (some ⟨g, 0, none⟩) st.nodes.length cap) := (hbl.cell (World.block_lt_of_cell? w _ hc0)).trans hc0
      have Hsd := hide (seen_drop st name row k m hm)
      have Hg := hide (show isGone st m.d = x.gone by simp [isGone, hx])
      have b1 : (m.d : Int) < (st.nodes.length : Int) := by omega
      have b2 : (k : Int) < (row.length : Int) := by omega
      have b3 : (0 : Int) ≤ (m.d : Int) := by omega
      have b4 : (0 : Int) ≤ (k : Int) := by omega
      clear hx hm hcell hrow cm c5 hc0 hbl
      cases hxg : x.gone with
      | true =>
        rw [hxg] at c5' Hg
        go_wp2
        go_quiet (fail)
        go_wp2
        go_roundw
        case rel => exact ⟨k + 1, by omega, by go_num, by rw [← Hsn.out, Hsd.out, Hg.out]; rfl, HB.out.trans ⟨rfl, rfl, rfl, Nat.le_refl _, fun _ _ => rfl⟩⟩
        case measure => simp [intOf]; omega
      | false =>
        rw [hxg] at c5' Hg
        go_wp2
        go_quiet (fail)
        go_wp2_with fail
        have HB2 := hide (HB.out.trans (below_drewN (Below.refl w.heap.size wr) nq))
        refine (lies_any m.d name h0 (HR.out.below HB2.out)).mono ?_
        rintro e w1 ⟨rfl, rfl⟩
        cases hli : lies st m.d name with
        | some n =>
          have HE := hide (show seenIn st name row = some n by rw [← Hsn.out, Hsd.out, Hg.out, hli]; rfl)
          clear hli
          have b5 : (0 : Int) ≤ (n : Int) := by omega
          simp only [idxV]
          go_wp2
          go_ret
          exact ⟨by rw [HE.out]; rfl, HB2.out⟩
        | none =>
          have HE := hide (show seenIn st name (row.drop (k + 1)) = seenIn st name row by rw [← Hsn.out, Hsd.out, Hg.out, hli]; rfl)
          clear hli
          simp only [idxV]
          go_wp2
          go_roundw
          case rel => exact ⟨k + 1, by omega, by go_num, HE.out, HB2.out⟩
          case measure => simp [intOf]; omega
    · have HE := hide (show seenIn st name row = none by rw [← Hsn.out, List.drop_eq_nil_of_le (by omega)]; rfl)
      go_wp2
      go_ret
      exact ⟨by rw [HE.out]; rfl, HB.out⟩

theorem seen_nil {w : World} {r : Nat} (name : ByteArray) :
    Calls Tryz.prog 143 #[.pointer (some ⟨r, 0, none⟩), .slice none 0 0, .string name] w fun e w' => e = .returned (.int .i64 (-1)) ∧ w' = w := by
  go_enter Tryz.func143, Tryz.ntmps143
  go_wp2
  go_loop [7] (fun i => i = .int .i64 0) (fun _ => 0)
  case atStart => rfl
  case round =>
    subst hrel
    go_wp2
    go_ret
    exact ⟨rfl, rfl⟩

/-- The members of a row are nodes. -/
def RowOk (st : St) (row : List Member) : Prop := ∀ m ∈ row, m.d < st.nodes.length

/-- 'seen': the node of this name in a row. -/
theorem seen_any {w : World} {F : Nat → Prop} {r : Nat} {st : St} (row : List Member) (name : ByteArray) (v : Value) (h : RefIs w F r st) (h0 : 0 < st.nodes.length) (hv : RowIs w F v row) (hok : RowOk st row) :
    Calls Tryz.prog 143 #[.pointer (some ⟨r, 0, none⟩), v, .string name] w fun e w' => e = .returned (.int .i64 (idxV (seenIn st name row))) ∧ Below w.heap.size w w' := by
  rcases hv.opened with ⟨rfl, hn⟩ | ⟨g, cap, rfl, hcap, hmax, hF, hb, hcell, hfz⟩
  · have h0 : row = [] := List.map_eq_nil_iff.1 hn
    subst h0
    refine (seen_nil name).mono ?_
    rintro e w' ⟨rfl, rfl⟩
    exact ⟨rfl, Below.refl _ _⟩
  · rw [List.length_map] at hcap ⊢
    refine seen_core row name g cap h h0 (by omega) (fun i m hm => ⟨?_, hok m (List.mem_of_getElem? hm)⟩)
    have hz : (row.map memberCells)[i]? = some (memberCells m) := by rw [List.getElem?_map, hm]; rfl
    exact hcell _ _ 0 _ hz rfl

set_option maxRecDepth 20000 in
set_option maxHeartbeats 1000000 in
/-- 'node': where a fid's node lies. -/
theorem node_any {w : World} {F : Nat → Prop} {r : Nat} {st : St} (i : Nat) (f : Fid) (s : Spot) (hf : st.fids[i]? = some f) (hs : f.way.getLast? = some s) (hn : s.n < st.nodes.length) (h : RefIs w F r st) :
    Calls Tryz.prog 140 #[.pointer (some ⟨r, 0, none⟩), .int .i64 i] w fun e w' => ∃ g cap, w.cell? ⟨r, 0, none⟩ = some (.slice (some ⟨g, 0, none⟩) st.nodes.length cap) ∧ e = .returned (.pointer (some ⟨g, s.n * 6, none⟩)) ∧ Below w.heap.size w w' := by
  obtain ⟨nv, lv, fv, h⟩ := h
  obtain ⟨g, cap, rfl, hmax, hF, hb, hcell, hfz⟩ := h.nodesAt (by omega)
  obtain ⟨fg, fcap, wv, rfl, hfm, _, _, hway, _, c1, _, _⟩ := h.fids.at i f hf
  obtain ⟨gw, wcap, ao, c, rfl, hwpos, hwmax, hrow, s0, s1⟩ := hway.last s hs
  have hi := M.lt_of_getElem? hf
  have hc0 := h.c0
  have hc2 := h.c2
  unfold maxLen at hmax hfm hwmax
  have b1 : (s.n : Int) < (st.nodes.length : Int) := by omega
  have b2 : (i : Int) < (st.fids.length : Int) := by omega
  have b3 : (0 : Int) ≤ (s.n : Int) := by omega
  have b4 : (0 : Int) ≤ (i : Int) := by omega
  have HG := hide hc0
  have hfd : ∀ (u : Value) (W : World), (Instr.field 212 (.agg #[.int .i64 s.n, u]) 0).run Tryz.prog W = .ok (.int .i64 s.n) W := fun _ _ => by kernel_rfl
  clear hcell hb hfz hF h hrow hf hs
  go_enter Tryz.func140, Tryz.ntmps140
  go_wp2
  go_region_with (go_at_call 142; refine (spot_core fg (i * 3) gw f.way.length wcap s.n ao s.row.length c _ hwpos (by unfold maxLen; exact hwmax) ?_ ?_ ?_).mono ?_; exact c1; exact s0; exact s1; rintro e w1 ⟨rfl, hb1⟩; have hcw : w1.cell? ⟨r, 0, none⟩ = some (.slice (some ⟨g, 0, none⟩) st.nodes.length cap) := (hb1.cell (World.block_lt_of_cell? w _ HG.out)).trans HG.out; have HB1 := hide hb1; clear hb1)
  all_goals go_wp2
  all_goals (go_ret; exact ⟨g, cap, HG.out, rfl, ((Below.refl _ w).drew).trans HB1.out⟩)
end Go.Proofs.YtdmdgnghaceibaaGreat
/- The reference's 'IsName'. -/
namespace Go.Proofs.YtdmdgnghaceibaaGreat
open M Go.ChangeShapes Go.WideShapes Go.ChangeAt Go.RowKit
set_option linter.unusedVariables false

set_option maxRecDepth 100000 in
set_option maxHeartbeats 1000000 in
/-- 'IsName'. -/
theorem isName_any (s : ByteArray) (w : World) (hs : s.size ≤ maxLen) :
    Calls Tryz.prog 141 #[.string s] w fun e w' => e = .returned (.bool (isName s)) ∧ w' = w := by
  unfold maxLen at hs
  by_cases e0 : s.toList = []
  · have H := hide (show isName s = false by simp [isName, badText, e0])
    go_enter Tryz.func141, Tryz.ntmps141
    go_wp2
    go_ret
    exact ⟨by rw [H.out]; rfl, rfl⟩
  · by_cases e1 : s.toList = [46]
    · have H := hide (show isName s = false by simp [isName, badText, e1])
      go_enter Tryz.func141, Tryz.ntmps141
      go_wp2
      go_ret
      exact ⟨by rw [H.out]; rfl, rfl⟩
    · by_cases e2 : s.toList = [46, 46]
      · have H := hide (show isName s = false by simp [isName, badText, e2])
        go_enter Tryz.func141, Tryz.ntmps141
        go_wp2
        go_ret
        exact ⟨by rw [H.out]; rfl, rfl⟩
      · have f0 : s.toList.isEmpty = false := by simpa using e0
        have f1 : (s.toList == [46]) = false := by simpa using e1
        have f2 : (s.toList == [46, 46]) = false := by simpa using e2
        by_cases e3 : 12 < s.size
        · have H := hide (show isName s = false by simp [isName, badText, e3])
          have f3 : (12 : Int) < (s.size : Int) := by omega
          clear e3
          go_enter Tryz.func141, Tryz.ntmps141
          go_wp2
          go_ret
          exact ⟨by rw [H.out]; rfl, rfl⟩
        · have H := hide (show isName s = s.data.toList.all nameOk by simp [isName, badText, e0, e1, e2, e3])
          have f3 : (s.size : Int) ≤ 12 := by omega
          clear e3
          go_enter Tryz.func141, Tryz.ntmps141
          go_wp2
          go_loop [3] (fun i => ∃ k : Nat, k ≤ s.size ∧ i = .int .i64 k ∧ (s.data.toList.take k).all nameOk = true) (fun i => s.size - (intOf i).toNat)
          case atStart => exact ⟨0, Nat.zero_le _, rfl, rfl⟩
          case round =>
            obtain ⟨k, hk, rfl, hall⟩ := hrel
            have Hall := hide hall
            clear hall e0 e1 e2 f0 f1 f2
            by_cases hlt : k < s.size
            · go_wp2
              · go_ret
                exact ⟨by rw [H.out, not_all s k hlt (nameOk_no1 _ (by assumption))]; rfl, rfl⟩
              · go_round
                case rel => exact ⟨k + 1, by omega, by go_num, all_snoc s k hlt Hall.out (nameOk_yes _ (by assumption))⟩
                case measure => simp [intOf]; omega
              · go_ret
                exact ⟨by rw [H.out, not_all s k hlt (nameOk_no1 _ (.inl (.inr (by assumption))))]; rfl, rfl⟩
              · go_ret
                exact ⟨by rw [H.out, not_all s k hlt (nameOk_no1 _ (.inl (.inl (by assumption))))]; rfl, rfl⟩
            · go_wp2
              go_ret
              exact ⟨by rw [H.out, ← Hall.out, List.take_of_length_le (by simpa using (show s.size ≤ k by omega))]; simp, rfl⟩
end Go.Proofs.YtdmdgnghaceibaaGreat
/- The reference's 'Attach'. -/
namespace Go.Proofs.YtdmdgnghaceibaaGreat
open M Go.ChangeShapes Go.WideShapes Go.ChangeAt Go.RowKit
set_option linter.unusedVariables false

theorem infoFid : (Tryz.prog.info? 216).map (fun i => (i.zero, i.size, i.bytes)) = some (some (.agg #[.int .i64 0, .slice none 0 0, .bool false]), 3, 40) := by kernel_rfl

theorem tick_find (st : St) (n : Int) : find (tick st) n = find st n := rfl

theorem come_zero {w : World} {F : Nat → Prop} {r : Nat} {st : St} (h0 : 0 < st.nodes.length) (h : RefIs w F r st) :
    Calls Tryz.prog 138 #[.pointer (some ⟨r, 0, none⟩), .int .i64 0] w fun e w' => ∃ ao c, e = .returned (.agg #[.int .i64 0, .slice ao (come st 0).row.length c]) ∧ RowIs w' (ext F w w') (.slice ao (come st 0).row.length c) (come st 0).row ∧ Below w.heap.size w w' :=
  come_any 0 h0 h

theorem src_fid (w : World) (o : Obj) (n : Int) (x : Nat) : SrcIs ((w.alloc o).alloc (.cells #[.int .i64 n, .slice (some ⟨x, 0, none⟩) 1 1, .bool false] 216)) 3 (.slice (some ⟨w.heap.size + 1, 0, none⟩) 1 1) [[.int .i64 n, .slice (some ⟨x, 0, none⟩) 1 1, .bool false]] := by
  have h := heap_alloc_new (w.alloc o) (.cells #[.int .i64 n, .slice (some ⟨x, 0, none⟩) 1 1, .bool false] 216)
  have e : (w.alloc o).heap.size = w.heap.size + 1 := by simp
  rw [e] at h
  refine SrcIs.ofBlock h rfl ?_
  intro u hu
  simp at hu
  rcases hu with rfl | rfl | rfl <;> rfl

theorem zip_snoc {α : Type} {c : Value → α → List Value} {vs : List Value} {xs : List α} (h : vs.length = xs.length) (v : Value) (x : α) : List.zipWith c vs xs ++ [c v x] = List.zipWith c (vs ++ [v]) (xs ++ [x]) := by
  rw [List.zipWith_append h]; rfl

theorem Each.snoc {α : Type} {p : Value → α → Prop} {vs : List Value} {xs : List α} (h : Each p vs xs) {v : Value} {x : α} (hp : p v x) : Each p (vs ++ [v]) (xs ++ [x]) := by
  refine ⟨by simp [h.1], fun i v' x' hv hx => ?_⟩
  by_cases hi : i < vs.length
  · rw [List.getElem?_append_left hi] at hv
    rw [List.getElem?_append_left (by rw [← h.1]; exact hi)] at hx
    exact h.2 i v' x' hv hx
  · rw [List.getElem?_append_right (by omega)] at hv
    rw [List.getElem?_append_right (by rw [← h.1]; omega)] at hx
    rw [h.1] at hv
    cases hj : i - xs.length with
    | zero =>
      rw [hj] at hv hx
      simp at hv hx
      rw [← hv, ← hx]
      exact hp
    | succ j =>
      rw [hj] at hv
      simp at hv

theorem blk_close {w1 w2 w3 : World} {F : Nat → Prop} {r : Nat} {st : St} {nv lv : Value} {fv : Value} {rows : List (List Value)} {o1 o2 : Obj}
    (hR : RefHas w1 F r st nv lv fv) (hO : Own w1 F 216 3 fv rows) (hb2 : Below w1.heap.size w1 w2) (hg3 : ((w2.alloc o1).alloc o2).grownBy w3 fv.ownBlock) :
    w3.heap[r]? = some (.cells #[nv, lv, fv, .int .i64 st.calls] 81 (0, 0)) := by
  have hOW : Own ((w2.alloc o1).alloc o2) F 216 3 fv rows := hO.keepT (T := fun _ => True) (((KeepT.below hb2).alloc _).alloc _) trivial
  have k13 : KeepT (fun e => e ≠ 216) F w1 w3 := (((KeepT.below hb2).alloc _).alloc _).trans (grown_keepT hOW hg3 _ (by simp))
  exact (k13 r _ _ hR.own hR.blk (by decide)).trans hR.blk

/-- A new fid behind the others, with a way of one spot: what was laid for it, and the list that was appended to. -/
theorem attach_close {w1 w2 w3 : World} {F : Nat → Prop} {r : Nat} {st : St} (n : Int) (s : Spot) {nv lv : Value} {vs : List Value} {fao ao2 ao3 : Option Addr} {fc cc2 c3 : Nat}
    (hR : RefHas w1 F r st nv lv (.slice fao st.fids.length fc)) (hE : Each (fun v f => WayIs w1 F v f.way) vs st.fids) (hO : Own w1 F 216 3 (.slice fao st.fids.length fc) (List.zipWith fidCells vs st.fids))
    (hb2 : Below w1.heap.size w1 w2) (hrow2 : RowIs w2 (ext F w1 w2) (.slice ao2 s.row.length cc2) s.row)
    (ho3 : Own w3 (ext F ((w2.alloc (.cells #[.int .i64 s.n, .slice ao2 s.row.length cc2] 212)).alloc (.cells #[.int .i64 n, .slice (some ⟨w2.heap.size, 0, none⟩) 1 1, .bool false] 216)) w3) 216 3 (.slice ao3 (st.fids.length + 1) c3) (List.zipWith fidCells vs st.fids ++ [[.int .i64 n, .slice (some ⟨w2.heap.size, 0, none⟩) 1 1, .bool false]]))
    (hg3 : ((w2.alloc (.cells #[.int .i64 s.n, .slice ao2 s.row.length cc2] 212)).alloc (.cells #[.int .i64 n, .slice (some ⟨w2.heap.size, 0, none⟩) 1 1, .bool false] 216)).grownBy w3 (Value.slice fao st.fids.length fc).ownBlock) :
    RefIs (w3.setCell ⟨r, 2, none⟩ (.slice ao3 (st.fids.length + 1) c3)) (ext F w1 (w3.setCell ⟨r, 2, none⟩ (.slice ao3 (st.fids.length + 1) c3))) r { st with fids := st.fids ++ [⟨n, [s], false⟩] } ∧
      Ext F w1 (w3.setCell ⟨r, 2, none⟩ (.slice ao3 (st.fids.length + 1) c3)) := by
  generalize hW1 : w2.alloc (.cells #[.int .i64 s.n, .slice ao2 s.row.length cc2] 212) = W1 at *
  generalize hW : W1.alloc (.cells #[.int .i64 n, .slice (some ⟨w2.heap.size, 0, none⟩) 1 1, .bool false] 216) = W at *
  have z1 : W1.heap.size = w2.heap.size + 1 := by rw [← hW1]; simp
  have z2 : W.heap.size = w2.heap.size + 1 + 1 := by rw [← hW]; simp [z1]
  have z3 := hg3.size
  have z0 := hb2.size
  have kW : ∀ (T : TypeId → Prop) (G : Nat → Prop), KeepT T G w2 W := fun T G => by rw [← hW, ← hW1]; exact ((KeepT.refl _ _ _).alloc _).alloc _
  have hOW : Own W F 216 3 (.slice fao st.fids.length fc) (List.zipWith fidCells vs st.fids) := hO.keepT ((KeepT.below (T := fun _ => True) hb2).trans (kW _ _)) trivial
  have k3 : ∀ G : Nat → Prop, (∀ k, F k → G k) → KeepT (fun e => e ≠ 216) G W w3 := fun G hG => grown_keepT (hOW.mono hG) hg3 _ (by simp)
  have k13 : KeepT (fun e => e ≠ 216) F w1 w3 := ((KeepT.below hb2).trans (kW _ _)).trans (k3 F (fun _ h => h))
  have m3 : ∀ k, F k → ext F w1 w3 k := fun k h => .inl h
  have hsz : (w3.setCell ⟨r, 2, none⟩ (.slice ao3 (st.fids.length + 1) c3)).heap.size = w3.heap.size := by simp
  have hblk : w3.heap[r]? = some (.cells #[nv, lv, .slice fao st.fids.length fc, .int .i64 st.calls] 81 (0, 0)) := (k13 r _ _ hR.own hR.blk (by decide)).trans hR.blk
  constructor
  · refine RefIs.mono (F := ext F w1 w3) ?_ (ext_mono (by rw [hsz]; exact Nat.le_refl _))
    refine RefIs.setFids (fv := .slice fao st.fids.length fc) hblk (.inl hR.own) ((hR.nodes.keepT k13 (by decide)).mono m3) ((hR.laid.keepT k13 (by decide) (by decide)).mono m3) ?_
    refine ⟨vs ++ [.slice (some ⟨w2.heap.size, 0, none⟩) 1 1], ?_, ?_⟩
    · refine Each.snoc (hE.imp (fun v f h => (h.keepT k13 (by decide) (by decide)).mono m3)) ?_
      refine ⟨[.slice ao2 s.row.length cc2], ⟨rfl, fun i v x hv hx => ?_⟩, ?_⟩
      · cases i with
        | zero =>
          simp at hv hx
          subst hv hx
          refine ((hrow2.keepT (T := fun e => e ≠ 216) ((kW _ _).trans (k3 _ (fun _ h => .inl h))) (by decide))).mono (fun k hk => ?_)
          rcases hk with hk | hk
          · exact .inl hk
          · exact .inr ⟨hk.1, by omega⟩
        | succ j => simp at hv
      · have ho := Own.lit w2 #[.int .i64 s.n, .slice ao2 s.row.length cc2] 212 2 rfl
        rw [hW1] at ho
        have kk : KeepT (fun e => e ≠ 216) (fun k => k = w2.heap.size) W1 w3 := by
          refine KeepT.trans (w1 := W) (by rw [← hW]; exact (KeepT.refl _ _ _).alloc _) ?_
          intro k cur e hk hb hT
          subst hk
          refine hg3.block _ (Array.getElem?_eq_some_iff.1 hb).1 (hOW.ne ⟨cur, hb⟩ hT)
        exact (ho.keepT kk (by decide)).mono (fun k hk => by subst hk; exact .inr ⟨by omega, by omega⟩)
    · rw [← zip_snoc hE.1]
      refine Own.mono ho3 (fun k hk => ?_)
      rcases hk with hk | hk
      · exact .inl hk
      · exact .inr ⟨by omega, hk.2⟩
  · refine Ext.setCell ?_ (.inl hR.own) _
    have e1 : Ext F w1 W := by rw [← hW, ← hW1]; exact ((Ext.below hb2).alloc _).alloc _
    exact e1.trans' (grown_ext hOW hg3)

set_option maxRecDepth 20000 in
set_option maxHeartbeats 1000000 in
theorem attach_any {w : World} {F : Nat → Prop} {r : Nat} {st : St} (n : Int) (h : RefIs w F r st) (h0 : 0 < st.nodes.length) (hl : st.fids.length ≤ 100000) :
    Calls Tryz.prog 105 #[.pointer (some ⟨r, 0, none⟩), .int .i64 n] w fun e w' => e = .returned (.int .i64 (mAttach st n).2) ∧ RefIs w' (ext F w w') r (mAttach st n).1 ∧ Ext F w w' := by
  by_cases hn : fidOk n = true
  · have hn' := of_decide_eq_true hn
    have n1 : ¬ n < 0 := by omega
    have n2 : ¬ 50 < n := by omega
    have n3 : decide (n < 0) = false := by simpa using n1
    cases hf : find st n with
    | some i =>
      have H := hide (show mAttach st n = (tick st, 2) by simp [mAttach, hn, hf])
      clear hn hn'
      go_enter Tryz.func105, Tryz.ntmps105
      go_wp2_with fail
      refine (call_any n h).mono ?_
      rintro e w1 ⟨rfl, h1, hx, _⟩
      have H1 := hide h1
      have Hx := hide hx
      clear h1 hx
      rw [hf]
      clear hf
      simp only [idxV]
      have i0 : (0 : Int) ≤ (i : Int) := by omega
      go_wp2
      go_ret
      exact ⟨by rw [H.out]; rfl, by rw [H.out]; exact H1.out.mono (fun k hk => .inl hk), Hx.out⟩
    | none =>
      have H := hide (show mAttach st n = ({ tick st with fids := st.fids ++ [⟨n, [come st 0], false⟩] }, 0) by simp [mAttach, hn, hf])
      clear hn hn'
      go_enter Tryz.func105, Tryz.ntmps105
      go_wp2_with fail
      refine (call_any n h).mono ?_
      rintro e w1 ⟨rfl, h1, hx, hsz⟩
      have H1 := hide h1
      have Hx := hide hx
      rw [hf]
      clear hf h
      simp only [idxV]
      obtain ⟨nv, lv, fv, hR⟩ := h1
      obtain ⟨vs, hE, hO⟩ := hR.fids
      obtain ⟨fao, fc, rfl⟩ := hO.form
      have hlen : (List.zipWith fidCells vs (tick st).fids).length = st.fids.length := zip_len hE
      rw [hlen] at hO hR
      have c2 := hR.c2
      have f2 := hR.fz 2
      have HR := hide hR
      have HO := hide hO
      have HE := hide hE
      have Hlen := hide hlen
      have Hsz := hide hsz
      clear hR hO hE hlen hx hsz
      have HT : Hid (Ty w1 r 81) := hide ⟨_, HR.out.blk⟩
      go_wp2
      go_region_law (first
        | (go_simp; go_at_call 138; refine (come_zero (F := F) (st := tick st) h0 ?_).mono ?_; exact H1.out.drew; rintro e w2 ⟨ao2, cc2, rfl, hrow2, hb2⟩; have Hb2 : Hid (Below w1.heap.size w1 w2) := hide (((Below.refl _ w1).drew).trans hb2); have Hrow2 := hide hrow2; have c2' : w2.cell? ⟨r, 2, none⟩ = some (.slice fao st.fids.length fc) := (Hb2.out.cell (World.block_lt_of_cell? w1 _ c2)).trans c2; have u2 := up c2'; have u22 := up2 c2'; clear hb2 hrow2)
        | (refine step_append_Own _ rfl (.tmp 21) (.tmp 27) 79 rfl F 216 (.agg #[.int .i64 0, .slice none 0 0, .bool false]) 3 40 Tryz.underlying79 infoFid rfl ?_ (.slice fao st.fids.length fc) (List.zipWith fidCells vs (tick st).fids) rfl ?_ (.slice (some ⟨w2.heap.size + 1, 0, none⟩) 1 1) [[.int .i64 n, .slice (some ⟨w2.heap.size, 0, none⟩) 1 1, .bool false]] rfl ?_ (st.fids.length + 1) ?_ ?_ ?_ ?_; decide; exact (HO.out.keepT (T := fun _ => True) (((KeepT.below Hb2.out).alloc _).alloc _) trivial); exact src_fid w2 _ _ _; (rw [Hlen.out]; rfl); (unfold maxLen; omega); omega; intro ao3 c3 w3 ho3 hg3 hb3; have hblk3 := blk_close HR.out HO.out Hb2.out hg3; have q3 : w3.cell? ⟨r, 2, none⟩ = some (.slice fao st.fids.length fc) := (by simp [World.cell?, hblk3]); have f3 : w3.frozen? ⟨r, 2, none⟩ = false := (by simp [World.frozen?, hblk3]); have Ho3 := hide ho3; have Hg3 := hide hg3; clear ho3 hg3 hb3 hblk3))
      all_goals
        go_wp2
        go_ret
        have hfin := attach_close n (come (tick st) 0) HR.out HE.out HO.out Hb2.out Hrow2.out Ho3.out Hg3.out
        refine ⟨by rw [H.out]; rfl, ?_, Hx.out.trans' hfin.2⟩
        rw [H.out]
        exact hfin.1.mono (ext_le (by rw [Hsz.out]; exact Nat.le_refl _) (Nat.le_refl _))
  · have H := hide (show mAttach st n = (tick st, 1) by simp [mAttach, hn])
    have hn' : n < 0 ∨ 50 < n := by
      have := of_decide_eq_false (by simpa using hn : fidOk n = false)
      omega
    clear hn
    rcases hn' with hn | hn
    · go_enter Tryz.func105, Tryz.ntmps105
      go_wp2_with fail
      refine (call_any n h).mono ?_
      rintro e w1 ⟨rfl, h1, hx, _⟩
      have H1 := hide h1
      have Hx := hide hx
      clear h1 hx
      go_wp2
      go_ret
      exact ⟨by rw [H.out]; rfl, by rw [H.out]; exact H1.out.mono (fun k hk => .inl hk), Hx.out⟩
    · have n1 : ¬ n < 0 := by omega
      go_enter Tryz.func105, Tryz.ntmps105
      go_wp2_with fail
      refine (call_any n h).mono ?_
      rintro e w1 ⟨rfl, h1, hx, _⟩
      have H1 := hide h1
      have Hx := hide hx
      clear h1 hx
      go_wp2
      go_ret
      exact ⟨by rw [H.out]; rfl, by rw [H.out]; exact H1.out.mono (fun k hk => .inl hk), Hx.out⟩
end Go.Proofs.YtdmdgnghaceibaaGreat
