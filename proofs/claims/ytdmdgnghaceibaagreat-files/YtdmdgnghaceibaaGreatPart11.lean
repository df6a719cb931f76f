/- The reference's 'Stat'. -/
import Derived.Test.YtdmdgnghaceibaaGreatPart09
import Derived.Test.YtdmdgnghaceibaaGreatPart02
import Derived.Test.YtdmdgnghaceibaaGreatPart07
import Derived.Laws.Strings2
import Derived.Laws.Strings3
import Derived.Test.YtdmdgnghaceibaaGreatPart05
import Derived.Laws.IdiomStrings
import Derived.Laws.BytesArg
import Derived.Deep.RegionHeld3
import Derived.Test.YtdmdgnghaceibaaGreatPart10
import Derived.Test.YtdmdgnghaceibaaGreatPart06
namespace Go.Proofs.YtdmdgnghaceibaaGreat
open M Go.ChangeShapes Go.WideShapes Go.ChangeAt Go.RowKit
set_option linter.unusedVariables false

def statV (r : StatR) : Value := .agg #[.string r.name, .bool r.dir, .int .i64 r.size, .int .i64 r.version, .int .i64 r.row]

def Ends3 (w : World) (F : Nat → Prop) (r : Nat) (p : St × StatR × Int) (e : Ending) (w' : World) : Prop := e = .returned (.tuple #[statV p.2.1, .int .i64 p.2.2]) ∧ RefIs w' (ext F w w') r p.1 ∧ Ext F w w'

/-- Five cells of a block are stored one behind the other. -/
theorem five (W : World) (b : Nat) (x0 x1 x2 x3 x4 v0 v1 v2 v3 v4 : Value) (e0 : W.cell? ⟨b, 0, none⟩ = some x0) (e1 : W.cell? ⟨b, 1, none⟩ = some x1) (e2 : W.cell? ⟨b, 2, none⟩ = some x2) (e3 : W.cell? ⟨b, 3, none⟩ = some x3) (e4 : W.cell? ⟨b, 4, none⟩ = some x4) :
    (W.setCell ⟨b, 0, none⟩ v0).cell? ⟨b, 0, none⟩ = some v0 ∧ ((W.setCell ⟨b, 0, none⟩ v0).setCell ⟨b, 1, none⟩ v1).cell? ⟨b, 1, none⟩ = some v1 ∧ (((W.setCell ⟨b, 0, none⟩ v0).setCell ⟨b, 1, none⟩ v1).setCell ⟨b, 2, none⟩ v2).cell? ⟨b, 2, none⟩ = some v2 ∧
    ((((W.setCell ⟨b, 0, none⟩ v0).setCell ⟨b, 1, none⟩ v1).setCell ⟨b, 2, none⟩ v2).setCell ⟨b, 3, none⟩ v3).cell? ⟨b, 3, none⟩ = some v3 ∧ (((((W.setCell ⟨b, 0, none⟩ v0).setCell ⟨b, 1, none⟩ v1).setCell ⟨b, 2, none⟩ v2).setCell ⟨b, 3, none⟩ v3).setCell ⟨b, 4, none⟩ v4).cell? ⟨b, 4, none⟩ = some v4 := by
  have o : ∀ (X : World) (i j : Nat) (u : Value), i ≠ j → (X.setCell ⟨b, i, none⟩ u).cell? ⟨b, j, none⟩ = X.cell? ⟨b, j, none⟩ := fun X i j u h => World.cell?_setCell_other X ⟨b, i, none⟩ ⟨b, j, none⟩ u (fun e' => h (congrArg Addr.off e'))
  refine ⟨World.cell?_setCell_same W _ _ e0, World.cell?_setCell_same _ _ _ ((o _ 0 1 _ (by decide)).trans e1), World.cell?_setCell_same _ _ _ ((o _ 1 2 _ (by decide)).trans ((o _ 0 2 _ (by decide)).trans e2)),
    World.cell?_setCell_same _ _ _ ((o _ 2 3 _ (by decide)).trans ((o _ 1 3 _ (by decide)).trans ((o _ 0 3 _ (by decide)).trans e3))), World.cell?_setCell_same _ _ _ ((o _ 3 4 _ (by decide)).trans ((o _ 2 4 _ (by decide)).trans ((o _ 1 4 _ (by decide)).trans ((o _ 0 4 _ (by decide)).trans e4))))⟩

/-- The place of a Stat that was laid ahead of all, in a later world. -/
theorem stat_block {w w1 : World} {F : Nat → Prop} (hF : ∀ k, F k → k < w.heap.size) (hx : Ext F (w.alloc (.cells #[.string ⟨#[]⟩, .bool false, .int .i64 0, .int .i64 0, .int .i64 0] 39)) w1) :
    w1.heap[w.heap.size]? = some (.cells #[.string ⟨#[]⟩, .bool false, .int .i64 0, .int .i64 0, .int .i64 0] 39 (0, 0)) :=
  (hx.block w.heap.size (by simp) (fun h => by have := hF _ h; omega)).trans (heap_alloc_new w _)

theorem stat_end {w W : World} {F : Nat → Prop} {r : Nat} {st' : St} {w1 : World} (hx : Ext F w W) (hR : RefIs w1 F r st') (hb : Below w1.heap.size w1 W) (hz : w.heap.size < w1.heap.size) (hF : ∀ k, F k → k < w.heap.size) (v0 v1 v2 v3 v4 : Value) :
    RefIs (((((W.setCell ⟨w.heap.size, 0, none⟩ v0).setCell ⟨w.heap.size, 1, none⟩ v1).setCell ⟨w.heap.size, 2, none⟩ v2).setCell ⟨w.heap.size, 3, none⟩ v3).setCell ⟨w.heap.size, 4, none⟩ v4) (ext F w (((((W.setCell ⟨w.heap.size, 0, none⟩ v0).setCell ⟨w.heap.size, 1, none⟩ v1).setCell ⟨w.heap.size, 2, none⟩ v2).setCell ⟨w.heap.size, 3, none⟩ v3).setCell ⟨w.heap.size, 4, none⟩ v4)) r st' ∧
      Ext F w (((((W.setCell ⟨w.heap.size, 0, none⟩ v0).setCell ⟨w.heap.size, 1, none⟩ v1).setCell ⟨w.heap.size, 2, none⟩ v2).setCell ⟨w.heap.size, 3, none⟩ v3).setCell ⟨w.heap.size, 4, none⟩ v4) := by
  have hk : ∀ (X : World) (j : Nat) (u : Value), RefIs X F r st' → RefIs (X.setCell ⟨w.heap.size, j, none⟩ u) F r st' := fun X j u h => h.kept (fun k cur e hFk hb' _ => Below.heap_setCell X _ u k (fun e' => by have := hF k hFk; simp at e'; omega))
  refine ⟨RefIs.mono (hk _ 4 v4 (hk _ 3 v3 (hk _ 2 v2 (hk _ 1 v1 (hk _ 0 v0 (hR.below hb)))))) (fun k h => .inl h), ?_⟩
  exact ((((hx.setCell (.inr (Nat.le_refl _)) _).setCell (.inr (Nat.le_refl _)) _).setCell (.inr (Nat.le_refl _)) _).setCell (.inr (Nat.le_refl _)) _).setCell (.inr (Nat.le_refl _)) _

set_option maxRecDepth 20000 in
set_option maxHeartbeats 2000000 in
theorem stat_any {w : World} {F : Nat → Prop} {r : Nat} {st : St} (n : Int) (h : RefIs w F r st) (ok : StOk st) (hF : ∀ k, F k → k < w.heap.size) :
    Calls Tryz.prog 117 #[.pointer (some ⟨r, 0, none⟩), .int .i64 n] w fun e w' => Ends3 w F r (mStat st n) e w' := by
  cases hf : find st n with
  | none =>
    have H := hide (show mStat st n = (tick st, noStat, 2) by simp [mStat, hf])
    go_enter Tryz.func117, Tryz.ntmps117
    go_wp2_with fail
    refine (call_any n (h.alloc _)).mono ?_
    rintro e w1 ⟨rfl, h1, hx, hsz⟩
    have H1 := hide h1
    have Hx := hide hx
    have hblk := stat_block hF hx
    have s0 : w1.cell? ⟨w.heap.size, 0, none⟩ = some (.string ⟨#[]⟩) := by simp [World.cell?, hblk]
    have s1 : w1.cell? ⟨w.heap.size, 1, none⟩ = some (.bool false) := by simp [World.cell?, hblk]
    have s2 : w1.cell? ⟨w.heap.size, 2, none⟩ = some (.int .i64 0) := by simp [World.cell?, hblk]
    have s3 : w1.cell? ⟨w.heap.size, 3, none⟩ = some (.int .i64 0) := by simp [World.cell?, hblk]
    have s4 : w1.cell? ⟨w.heap.size, 4, none⟩ = some (.int .i64 0) := by simp [World.cell?, hblk]
    have sf : ∀ j, w1.frozen? ⟨w.heap.size, j, none⟩ = false := fun j => by simp [World.frozen?, hblk]
    have Hz : Hid (w.heap.size < w1.heap.size) := hide (by rw [hsz]; simp)
    rw [hf]
    clear hf h h1 hsz hx hblk
    simp only [idxV]
    go_wp2
    obtain ⟨q0, q1, q2, q3, q4⟩ := five w1 w.heap.size _ _ _ _ _ (.string ⟨#[]⟩) (.bool false) (.int .i64 0) (.int .i64 0) (.int .i64 0) s0 s1 s2 s3 s4
    have hend := stat_end (((Ext.refl F w).alloc _).trans' Hx.out) H1.out (Below.refl _ _) Hz.out hF (.string ⟨#[]⟩) (.bool false) (.int .i64 0) (.int .i64 0) (.int .i64 0)
    refine bodyPost_ret (v := .tuple #[statV noStat, .int .i64 2]) (by simp [results, Tryz.results117, go_sem, q0, q1, q2, q3, q4, statV, noStat]) rfl ?_
    unfold Ends3
    rw [H.out]
    exact ⟨rfl, hend⟩
  | some i =>
    obtain ⟨f, hfi, _⟩ := find_some hf
    have hi := M.lt_of_getElem? hfi
    obtain ⟨s, hs, hsn, hrok, hno⟩ := ok.last (List.mem_of_getElem? hfi)
    obtain ⟨x, hx⟩ := getElem?_of_lt hsn
    have H := hide (show mStat st n = if x.gone then (tick st, noStat, (4 : Int)) else if x.dir then (tick st, ⟨x.name, true, 0, 0, liveRow st s.row⟩, 0) else (tick st, ⟨x.name, false, x.data.size, x.version, 0⟩, 0) by simp only [mStat, hf, hfi, hs, hx])
    have i0 : (0 : Int) ≤ (i : Int) := by omega
    have i1 : (i : Int) < (st.fids.length : Int) := by omega
    go_enter Tryz.func117, Tryz.ntmps117
    go_wp2_with fail
    refine (call_any n (h.alloc _)).mono ?_
    rintro e w1 ⟨rfl, h1, hx1, hsz⟩
    have H1 := hide h1
    have Hx := hide hx1
    have hblk := stat_block hF hx1
    have Hblk := hide hblk
    have Hz : Hid (w.heap.size < w1.heap.size) := hide (by rw [hsz]; simp)
    rw [hf]
    clear hf h hsz hx1
    simp only [idxV]
    obtain ⟨nv, lv, fv, hR⟩ := h1
    obtain ⟨g, cap, rfl, hmax, _, _, hcell, hfz⟩ := hR.nodesAt ok.pos
    obtain ⟨fg, fcap, wv, rfl, hfm, _, _, hway, _, cw, co, _⟩ := FidsIs.at (fids := st.fids) hR.fids i f hfi
    obtain ⟨gw, wcap, rao, rc, rfl, hwpos, hwmax, hrow, t0, t1⟩ := hway.last s hs
    have c2 := hR.c2
    have hc0 : w1.cell? ⟨r, 0, none⟩ = some (.slice (some ⟨g, 0, none⟩) st.nodes.length cap) := hR.c0
    obtain ⟨x0, x1, _, x3, x4, x5⟩ := hcell s.n x hx
    have Hrow := hide hrow
    have Hnode := hide (node_any (st := tick st) i f s hfi hs hsn H1.out)
    have Hspot := hide (fun (W : World) (a1 : W.cell? ⟨fg, i * 3 + 1, none⟩ = some (.slice (some ⟨gw, 0, none⟩) f.way.length wcap)) (a2 : W.cell? ⟨gw, (f.way.length - 1) * 2, none⟩ = some (.int .i64 s.n)) (a3 : W.cell? ⟨gw, (f.way.length - 1) * 2 + 1, none⟩ = some (.slice rao s.row.length rc)) => spot_core fg (i * 3) gw f.way.length wcap s.n rao s.row.length rc W hwpos hwmax a1 a2 a3)
    have Hrok := hide hrok
    unfold maxLen at hmax hfm
    clear hR hcell hfz hx hfi hs hway hrow
    go_wp2_with fail
    refine Hnode.out.mono ?_
    rintro e w2 ⟨g', cap', hcc, rfl, hb2⟩
    have hgg : g' = g := by rw [hc0] at hcc; simp at hcc; exact hcc.1.symm
    subst hgg
    have HB2 := hide hb2
    have hblk2 := (hb2.block w.heap.size (by have := Hz.out; omega)).trans Hblk.out
    have s0 : w2.cell? ⟨w.heap.size, 0, none⟩ = some (.string ⟨#[]⟩) := (by simp [World.cell?, hblk2])
    have s1 : w2.cell? ⟨w.heap.size, 1, none⟩ = some (.bool false) := (by simp [World.cell?, hblk2])
    have s2 : w2.cell? ⟨w.heap.size, 2, none⟩ = some (.int .i64 0) := (by simp [World.cell?, hblk2])
    have s3 : w2.cell? ⟨w.heap.size, 3, none⟩ = some (.int .i64 0) := (by simp [World.cell?, hblk2])
    have s4 : w2.cell? ⟨w.heap.size, 4, none⟩ = some (.int .i64 0) := (by simp [World.cell?, hblk2])
    have sf : ∀ j, w2.frozen? ⟨w.heap.size, j, none⟩ = false := (fun j => by simp [World.frozen?, hblk2])
    have y0 : w2.cell? ⟨g', s.n * 6, none⟩ = some (.string x.name) := (hb2.cell (World.block_lt_of_cell? w1 _ x0)).trans x0
    have y1 : w2.cell? ⟨g', s.n * 6 + 1, none⟩ = some (.bool x.dir) := (hb2.cell (World.block_lt_of_cell? w1 _ x1)).trans x1
    have y3 : w2.cell? ⟨g', s.n * 6 + 3, none⟩ = some (.string x.data) := (hb2.cell (World.block_lt_of_cell? w1 _ x3)).trans x3
    have y4 : w2.cell? ⟨g', s.n * 6 + 4, none⟩ = some (.int .i64 x.version) := (hb2.cell (World.block_lt_of_cell? w1 _ x4)).trans x4
    have y5 : w2.cell? ⟨g', s.n * 6 + 5, none⟩ = some (.bool x.gone) := (hb2.cell (World.block_lt_of_cell? w1 _ x5)).trans x5
    have z2 : w2.cell? ⟨r, 2, none⟩ = some (.slice (some ⟨fg, 0, none⟩) st.fids.length fcap) := (hb2.cell (World.block_lt_of_cell? w1 _ c2)).trans c2
    have zw : w2.cell? ⟨fg, i * 3 + 1, none⟩ = some (.slice (some ⟨gw, 0, none⟩) f.way.length wcap) := (hb2.cell (World.block_lt_of_cell? w1 _ cw)).trans cw
    have zt0 : w2.cell? ⟨gw, (f.way.length - 1) * 2, none⟩ = some (.int .i64 s.n) := (hb2.cell (World.block_lt_of_cell? w1 _ t0)).trans t0
    have zt1 : w2.cell? ⟨gw, (f.way.length - 1) * 2 + 1, none⟩ = some (.slice rao s.row.length rc) := (hb2.cell (World.block_lt_of_cell? w1 _ t1)).trans t1
    clear hb2 hcc hblk hblk2 x0 x1 x3 x4 x5 cw co t0 t1 c2
    cases hxg : x.gone with
    | true =>
      rw [hxg] at y5 H
      go_wp2
      obtain ⟨q0, q1, q2, q3, q4⟩ := five w2 w.heap.size _ _ _ _ _ (.string ⟨#[]⟩) (.bool false) (.int .i64 0) (.int .i64 0) (.int .i64 0) s0 s1 s2 s3 s4
      have hend := stat_end ((((Ext.refl F w).alloc _).trans' Hx.out).trans' (Ext.below HB2.out)) H1.out HB2.out Hz.out hF (.string ⟨#[]⟩) (.bool false) (.int .i64 0) (.int .i64 0) (.int .i64 0)
      refine bodyPost_ret (v := .tuple #[statV noStat, .int .i64 4]) (by simp [results, Tryz.results117, go_sem, q0, q1, q2, q3, q4, statV, noStat]) rfl ?_
      unfold Ends3
      rw [H.out]
      exact ⟨rfl, hend⟩
    | false =>
      rw [hxg] at y5 H
      cases hxd : x.dir with
      | false =>
        rw [hxd] at y1 H
        go_wp2
        go_region
        go_wp2
        obtain ⟨q0, q1, q2, q3, q4⟩ := five w2 w.heap.size _ _ _ _ _ (.string x.name) (.bool false) (.int .i64 x.data.size) (.int .i64 x.version) (.int .i64 0) s0 s1 s2 s3 s4
        have hend := stat_end ((((Ext.refl F w).alloc _).trans' Hx.out).trans' (Ext.below HB2.out)) H1.out HB2.out Hz.out hF (.string x.name) (.bool false) (.int .i64 x.data.size) (.int .i64 x.version) (.int .i64 0)
        refine bodyPost_ret (v := .tuple #[statV ⟨x.name, false, x.data.size, x.version, 0⟩, .int .i64 0]) (by simp [results, Tryz.results117, go_sem, q0, q1, q2, q3, q4, statV]) rfl ?_
        unfold Ends3
        rw [H.out]
        exact ⟨rfl, hend.1.drew, hend.2.drew⟩
      | true =>
        rw [hxd] at y1 H
        have hfd : ∀ (W : World), (Instr.field 212 (.agg #[.int .i64 s.n, .slice rao s.row.length rc]) 1).run Tryz.prog W = .ok (.slice rao s.row.length rc) W := fun _ => by kernel_rfl
        have Hs0 := hide s0
        clear s0 s1 s2 s3 s4 sf
        go_wp2
        go_region_with (first
          | (go_at_call 142; refine (Hspot.out _ ?_ ?_ ?_).mono ?_; exact zw; exact zt0; exact zt1; rintro e w3 ⟨rfl, hb3⟩; have HB3 : Hid (Below w1.heap.size w1 w3) := hide (HB2.out.trans ((((Below.refl _ w2).drew).trans hb3).mono HB2.out.size)); have y03 : w3.cell? ⟨g', s.n * 6, none⟩ = some (.string x.name) := (hb3.cell (World.block_lt_of_cell? w2 _ y0)).trans y0; clear hb3)
          | (go_at_call 153; refine (live_any (F := F) (st := tick st) s.row (.slice rao s.row.length rc) ?_ ok.pos ?_ Hrok.out).mono ?_; exact H1.out.below HB3.out; exact Hrow.out.keepT (KeepT.below (T := fun _ => True) HB3.out) trivial; rintro e w4 ⟨rfl, hb4⟩; have HB4 : Hid (Below w1.heap.size w1 w4) := hide (HB3.out.trans (hb4.mono HB3.out.size)); have y04 : w4.cell? ⟨g', s.n * 6, none⟩ = some (.string x.name) := (hb4.cell (World.block_lt_of_cell? w3 _ y03)).trans y03; have hblk4 := (HB4.out.block w.heap.size Hz.out).trans Hblk.out; have s0 : w4.cell? ⟨w.heap.size, 0, none⟩ = some (.string ⟨#[]⟩) := (by simp [World.cell?, hblk4]); have s1 : w4.cell? ⟨w.heap.size, 1, none⟩ = some (.bool false) := (by simp [World.cell?, hblk4]); have s2 : w4.cell? ⟨w.heap.size, 2, none⟩ = some (.int .i64 0) := (by simp [World.cell?, hblk4]); have s3 : w4.cell? ⟨w.heap.size, 3, none⟩ = some (.int .i64 0) := (by simp [World.cell?, hblk4]); have s4 : w4.cell? ⟨w.heap.size, 4, none⟩ = some (.int .i64 0) := (by simp [World.cell?, hblk4]); have sf : ∀ j, w4.frozen? ⟨w.heap.size, j, none⟩ = false := (fun j => by simp [World.frozen?, hblk4]); clear hb4 hblk4))
        all_goals
          go_wp2
          obtain ⟨q0, q1, q2, q3, q4⟩ := five w4 w.heap.size _ _ _ _ _ (.string x.name) (.bool true) (.int .i64 0) (.int .i64 0) (.int .i64 (liveRow (tick st) s.row)) s0 s1 s2 s3 s4
          have hend := stat_end ((((Ext.refl F w).alloc _).trans' Hx.out).trans' (Ext.below HB4.out)) H1.out HB4.out Hz.out hF (.string x.name) (.bool true) (.int .i64 0) (.int .i64 0) (.int .i64 (liveRow (tick st) s.row))
          refine bodyPost_ret (v := .tuple #[statV ⟨x.name, true, 0, 0, liveRow (tick st) s.row⟩, .int .i64 0]) (by simp [results, Tryz.results117, go_sem, q0, q1, q2, q3, q4, statV]) rfl ?_
          unfold Ends3
          rw [H.out]
          exact ⟨rfl, hend⟩
end Go.Proofs.YtdmdgnghaceibaaGreat
/- Both halves: Stat. -/
namespace Go.Proofs.YtdmdgnghaceibaaGreat.P
open M Go.ChangeShapes Go.WideShapes Go.ChangeAt Go.RowKit
set_option linter.unusedVariables false

set_option maxRecDepth 20000 in
set_option maxHeartbeats 4000000 in
theorem stated_any {w : World} {X : Nat → Prop} {b : Nat} {st : St} (fid : Int) (h : BothIs w X b st) (ok : POk st) (hsm : ∀ x ∈ st.nodes, x.data.size ≤ 300) :
    Calls Tryz.prog 70 #[.pointer (some ⟨b, 0, none⟩), .int .i64 fid] w fun e w' => e = .returned (.bool true) ∧ BothIs w' X b (mStat st fid).1 ∧ Ext X w w' := by
  obtain ⟨s, r, F, G, h⟩ := h
  have c0 := h.c0
  have c1 := h.c1
  have H := hide h
  have Hok := hide ok
  have Hsm := hide hsm
  obtain ⟨⟨name, dir, size, ver, row⟩, hR⟩ : ∃ R, (mStat st fid).2.1 = R := ⟨_, rfl⟩
  obtain ⟨er, hE⟩ : ∃ er, (mStat st fid).2.2 = er := ⟨_, rfl⟩
  obtain ⟨st2, hS⟩ : ∃ st2, (mStat st fid).1 = st2 := ⟨_, rfl⟩
  have HM := hide (show mStat st fid = (st2, ⟨name, dir, size, ver, row⟩, er) by rw [← hR, ← hE, ← hS])
  rw [hS]
  clear h ok hsm hR hE hS
  go_enter Tryz.func70, Tryz.ntmps70
  go_wp2_with fail
  refine (stat_any (F := F) (st := st) fid H.out.srv Hok.out (fun k hk => (H.out.lo k (.inl hk)).2) (fun x hx => Nat.le_trans (Hsm.out x hx) (by decide))).mono ?_
  rintro e w2 he2
  rw [HM.out] at he2
  obtain ⟨rfl, hs2, hx2⟩ := he2
  have hT := H.out.srvStep hs2 hx2
  have v1 := fun o => up hT.c1 o
  have HT := hide hT
  have HBc := hide (hx2.weak (fun k hk => (H.out.lo k (.inl hk)).1))
  have HG := hide (show ¬ G w2.heap.size from fun hk => by have := (HT.out.lo _ (.inr hk)).2; omega)
  clear hs2 hx2 hT
  simp only [pStatV]
  go_wp2_with fail
  refine (Go.Proofs.YtdmdgnghaceibaaGreat.stat_any (F := G) (st := st) fid (HT.out.below ((Below.refl _ w2).alloc (Nat.le_refl _) _)).ref Hok.out.stOk (fun k hk => by have := (HT.out.lo k (.inr hk)).2; simp; omega)).mono ?_
  rintro e w3 he3
  rw [HM.out] at he3
  obtain ⟨rfl, hr3, hx3⟩ := he3
  have p0 := fun o => up (ext_cell hx3 HG.out (j := 0) (v := .string name) (by simp)) o
  have p1 := fun o => up (ext_cell hx3 HG.out (j := 1) (v := .bool dir) (by simp)) o
  have p2 := fun o => up (ext_cell hx3 HG.out (j := 2) (v := .int .i64 size) (by simp)) o
  have p3 := fun o => up (ext_cell hx3 HG.out (j := 3) (v := .int .i64 ver) (by simp)) o
  have p4 := fun o => up (ext_cell hx3 HG.out (j := 4) (v := .int .i64 row) (by simp)) o
  have HT2 := hide ((HT.out.below ((Below.refl _ w2).alloc (Nat.le_refl _) _)).refStep hr3 hx3)
  have HBd := hide (HBc.out.trans' ((Ext.below ((Below.refl _ w2).alloc (Nat.le_refl _) _)).trans' (hx3.weak (fun k hk => (HT.out.lo k (.inr hk)).1))))
  have q0 : (name.toList == name.toList) = true := by simp
  have q1 : (dir == dir) = true := by simp
  have q2 : (size == size) = true := by simp
  have q3 : (ver == ver) = true := by simp
  have q4 : (row == row) = true := by simp
  have q5 : (er == er) = true := by simp
  clear hr3 hx3
  simp only [statV]
  go_wp2_with (go_at_call 27; refine (num_any _ _).mono ?_; rintro e w' ⟨rfl, hw⟩; obtain rfl := hw.symm)
  go_ret
  exact ⟨by simp, ⟨s, r, _, _, HT2.out.below ((Below.refl _ w3).alloc (Nat.le_refl _) _)⟩, HBd.out.trans' (Ext.below ((Below.refl _ w3).alloc (Nat.le_refl _) _))⟩
end Go.Proofs.YtdmdgnghaceibaaGreat.P
/- The reference's 'Read'. -/
namespace Go.Proofs.YtdmdgnghaceibaaGreat
open M Go.ChangeShapes Go.WideShapes Go.ChangeAt Go.RowKit
set_option linter.unusedVariables false

def Ends4 (w : World) (F : Nat → Prop) (r : Nat) (p : St × ByteArray × Int) (e : Ending) (w' : World) : Prop := e = .returned (.tuple #[.string p.2.1, .int .i64 p.2.2]) ∧ RefIs w' (ext F w w') r p.1 ∧ Ext F w w'

theorem Ends4.same {w w1 w' : World} {F : Nat → Prop} {r : Nat} {st' : St} {c : Int} {t : ByteArray} {p : St × ByteArray × Int} {e : Ending} (hp : p = (st', t, c)) (he : e = .returned (.tuple #[.string t, .int .i64 c])) (h1 : RefIs w1 F r st') (hx : Ext F w w1) (hb : Below w1.heap.size w1 w') : Ends4 w F r p e w' := by
  subst hp
  exact ⟨he, (h1.below hb).mono (fun k hk => .inl hk), hx.trans' (Ext.below hb)⟩

set_option maxRecDepth 20000 in
set_option maxHeartbeats 1000000 in
theorem read_any {w : World} {F : Nat → Prop} {r : Nat} {st : St} (n a c : Int) (h : RefIs w F r st) (ok : StOk st) (hdat : ∀ x ∈ st.nodes, x.data.size ≤ 300) :
    Calls Tryz.prog 113 #[.pointer (some ⟨r, 0, none⟩), .int .i64 n, .int .i64 a, .int .i64 c] w fun e w' => Ends4 w F r (mRead st n a c) e w' := by
  have hoi : ∀ i, find st n = some i → i < (tick st).fids.length := fun i hi => by
    obtain ⟨f, hfi, _⟩ := find_some hi
    exact M.lt_of_getElem? hfi
  have hdef : mRead st n a c = if mFile st (find st n) = 0 then
    (if a < 0 ∨ c < 0 then (tick st, ⟨#[]⟩, (1 : Int)) else match find st n with
      | none => (tick st, ⟨#[]⟩, 2)
      | some i => match st.fids[i]? with
        | none => (tick st, ⟨#[]⟩, 2)
        | some f => (tick st, textAt (dataOf st f) a.toNat c.toNat, 0))
  else (tick st, ⟨#[]⟩, mFile st (find st n)) := rfl
  have HD := hide hdef
  clear hdef
  go_enter Tryz.func113, Tryz.ntmps113
  go_wp2_with fail
  refine (call_any n h).mono ?_
  rintro e w1 ⟨rfl, h1, hx1, hsz1⟩
  have H1 := hide h1
  have Hx := hide hx1
  have Hfile := hide (file_any (st := tick st) (find st n) hoi h1 ⟨ok.pos, ok.way, ok.laid, ok.few⟩)
  rw [show mFile (tick st) (find st n) = mFile st (find st n) from rfl] at Hfile
  have Hoi := hide hoi
  clear h hx1 hsz1 h1 hoi
  generalize hfo : find st n = fo at *
  have Hfo := hide hfo
  clear hfo
  go_wp2_with fail
  refine Hfile.out.mono ?_
  rintro e w2 ⟨rfl, hb2⟩
  have HB2 := hide hb2
  clear hb2 Hfile
  by_cases hm : mFile st fo = 0
  · rw [if_pos hm] at HD
    have Hm := hide hm
    rw [hm]
    clear hm
    by_cases hac : a < 0 ∨ c < 0
    · rw [if_pos hac] at HD
      rcases hac with ha | hc
      · go_wp2
        go_ret2
        exact Ends4.same HD.out rfl H1.out Hx.out HB2.out
      · by_cases ha : a < 0
        · go_wp2
          go_ret2
          exact Ends4.same HD.out rfl H1.out Hx.out HB2.out
        · go_wp2
          go_ret2
          exact Ends4.same HD.out rfl H1.out Hx.out HB2.out
    · rw [if_neg hac] at HD
      obtain ⟨an, rfl⟩ := Int.eq_ofNat_of_zero_le (show 0 ≤ a by omega)
      obtain ⟨cn, rfl⟩ := Int.eq_ofNat_of_zero_le (show 0 ≤ c by omega)
      have g1 : ¬ (an : Int) < 0 := by omega
      have g2 : ¬ (cn : Int) < 0 := by omega
      clear hac
      cases hfo2 : fo with
      | none => have := Hm.out; rw [hfo2] at this; simp [mFile] at this
      | some i =>
        rw [hfo2] at HD Hm Hoi
        obtain ⟨f, hfi⟩ := getElem?_of_lt (show i < st.fids.length from Hoi.out i rfl)
        obtain ⟨s, hs, hsn, _, hno⟩ := ok.last (List.mem_of_getElem? hfi)
        obtain ⟨x, hx⟩ := getElem?_of_lt hsn
        have hxs := hdat x (List.mem_of_getElem? hx)
        have HD2 := hide (show mRead st n (an : Int) (cn : Int) = (tick st, textAt x.data an cn, 0) by rw [HD.out]; simp [hfi, dataOf, hno, hx])
        have HB2' := HB2
        have hR2 := H1.out.below HB2.out
        have Hnode := hide (node_any (st := tick st) i f s hfi hs hsn hR2)
        obtain ⟨nv, lv, fv, hR⟩ := hR2
        obtain ⟨g, cap, rfl, _, _, _, hcell, _⟩ := hR.nodesAt ok.pos
        have hc0 : w2.cell? ⟨r, 0, none⟩ = some (.slice (some ⟨g, 0, none⟩) st.nodes.length cap) := hR.c0
        have x3 := (hcell s.n x hx).2.2.2.1
        clear hR hcell HD hfo2 hx hfi hs Hoi
        simp only [idxV]
        go_wp2_with fail
        refine Hnode.out.mono ?_
        rintro e w3 ⟨g', cap', hcc, rfl, hb3⟩
        have hgg : g' = g := by rw [hc0] at hcc; simp at hcc; exact hcc.1.symm
        subst hgg
        have y3 : w3.cell? ⟨g', s.n * 6 + 3, none⟩ = some (.string x.data) := (hb3.cell (World.block_lt_of_cell? w2 _ x3)).trans x3
        have HB3 : Hid (Below w1.heap.size w1 w3) := hide (HB2.out.trans (hb3.mono HB2.out.size))
        clear hb3 hcc x3 hc0
        generalize x.data = d at *
        go_wp2
        by_cases had : an < d.size
        · go_loop [12, 14] (fun o v => ∃ k : Nat, an ≤ k ∧ k ≤ d.size ∧ k - an ≤ cn ∧ v = .int .i64 k ∧ o = .string (d.extract an k)) (fun _ v => d.size - (intOf v).toNat)
          case atStart => exact ⟨an, Nat.le_refl _, by omega, by omega, rfl, by rw [ByteArray.extract_same]; rfl⟩
          case round =>
            obtain ⟨k, hk1, hk2, hk3, rfl, rfl⟩ := hrel
            have hes : (d.extract an k).size = k - an := by rw [ByteArray.size_extract]; omega
            have Hmore := hide (extract_more d an k hk1)
            by_cases h1 : k < d.size
            · by_cases h2 : k - an < cn
              · have h2' : ((d.extract an k).size : Int) < (cn : Int) := by rw [hes]; omega
                have sl := fun (W : World) => run_slice_string (P := Tryz.prog) W 9 d .i64 .i64 (k : Int) ((k : Int) + 1) Tryz.underlying9 (by omega) (by omega) (by omega)
                have hes' : (d.extract an k).size ≤ 300 := by omega
                clear hes
                go_wp2
                go_round
                case rel => exact ⟨k + 1, by omega, by omega, by omega, by go_num, rfl⟩
                case measure => simp [intOf]; omega
              · have h2' : ¬ ((d.extract an k).size : Int) < (cn : Int) := by rw [hes]; omega
                have h2'' : decide (((d.extract an k).size : Int) < (cn : Int)) = false := by simpa using h2'
                have Ht := hide (textAt_stop hk1 hk2 hk3 (.inr (by omega)) had)
                clear hes
                go_wp2
                go_ret2
                exact Ends4.same (by rw [HD2.out, Ht.out]) rfl H1.out Hx.out HB3.out
            · have Ht := hide (textAt_stop hk1 hk2 hk3 (.inl (by omega)) had)
              have h1' : decide ((k : Int) < (d.size : Int)) = false := by simp; omega
              clear hes
              go_wp2
              go_ret2
              exact Ends4.same (by rw [HD2.out, Ht.out]) rfl H1.out Hx.out HB3.out
        · have Ht := hide (show textAt d an cn = ⟨#[]⟩ by unfold textAt; rw [if_neg had])
          have h1' : decide ((an : Int) < (d.size : Int)) = false := by simp; omega
          go_loop [12, 14] (fun o v => v = .int .i64 an ∧ o = .string ⟨#[]⟩) (fun _ _ => 0)
          case atStart => exact ⟨rfl, rfl⟩
          case round =>
            obtain ⟨rfl, rfl⟩ := hrel
            go_wp2
            go_ret2
            exact Ends4.same (by rw [HD2.out, Ht.out]) rfl H1.out Hx.out HB3.out
  · rw [if_neg hm] at HD
    have hne : (mFile st fo != 0) = true := by simpa using hm
    clear hm
    generalize mFile st fo = al at *
    go_wp2
    go_ret2
    exact Ends4.same HD.out rfl H1.out Hx.out HB2.out
end Go.Proofs.YtdmdgnghaceibaaGreat
/- Both halves: Read. -/
namespace Go.Proofs.YtdmdgnghaceibaaGreat.P
open M Go.ChangeShapes Go.WideShapes Go.ChangeAt Go.RowKit
set_option linter.unusedVariables false

/-- How 'read' of both ends: what came out lies apart. -/
def ReadEnds (w : World) (X : Nat → Prop) (b : Nat) (t : ByteArray) (st' : St) (e : Ending) (w' : World) : Prop :=
  ∃ ao n c, e = .returned (.tuple #[.slice ao n c, .bool true]) ∧ BytesAt w' (.slice ao n c) t ∧ (∀ k, (Value.slice ao n c).ownBlock = some k → w.heap.size ≤ k ∧ k < w'.heap.size) ∧ BothIs w' (fun k => X k ∧ (Value.slice ao n c).ownBlock ≠ some k) b st' ∧ Ext X w w'

set_option maxRecDepth 20000 in
set_option maxHeartbeats 4000000 in
theorem bread_any {w : World} {X : Nat → Prop} {b : Nat} {st : St} (k fid a bb : Int) (text : ByteArray) (yes : Bool) (ao : Option Addr) (nl nc : Nat) (h : BothIs w X b st) (ok : POk st) (hsm : ∀ x ∈ st.nodes, x.data.size ≤ 300) :
    Calls Tryz.prog 67 #[.pointer (some ⟨b, 0, none⟩), .agg #[.int .i64 6, .int .i64 k, .int .i64 fid, .int .i64 a, .int .i64 bb, .string text, .bool yes, .slice ao nl nc]] w fun e w' => ReadEnds w X b (mRead st fid a bb).2.1 (mRead st fid a bb).1 e w' := by
  obtain ⟨s, r, F, G, h⟩ := h
  have c0 := h.c0
  have c1 := h.c1
  have H := hide h
  have Hok := hide ok
  have Hsm := hide hsm
  have HbF := hide h.bF
  have HbG := hide h.bG
  have HBoxG := hide (show ¬ G w.heap.size from fun hk => by have := (h.lo _ (.inr hk)).2; omega)
  have HBox := hide (show ¬ F w.heap.size from fun hk => by have := (h.lo _ (.inl hk)).2; omega)
  obtain ⟨t, hR⟩ : ∃ R, (mRead st fid a bb).2.1 = R := ⟨_, rfl⟩
  obtain ⟨er, hE⟩ : ∃ er, (mRead st fid a bb).2.2 = er := ⟨_, rfl⟩
  obtain ⟨st2, hS⟩ : ∃ st2, (mRead st fid a bb).1 = st2 := ⟨_, rfl⟩
  have HM := hide (show mRead st fid a bb = (st2, t, er) by rw [← hR, ← hE, ← hS])
  rw [hS, hR]
  clear h ok hsm hR hE hS
  have u0 := fun o => up c0 o
  have u1 := fun o => up c1 o
  obtain ⟨W0, hW0⟩ : ∃ W0, W0 = (w.alloc (.cells #[.int .i64 6, .int .i64 k, .int .i64 fid, .int .i64 a, .int .i64 bb, .string text, .bool yes, .slice ao nl nc] 57)) := ⟨_, rfl⟩
  have HW0 := hide hW0
  have HB0 := hide (show Below w.heap.size w W0 by rw [hW0]; exact (Below.refl _ w).alloc (Nat.le_refl _) _)
  have HZ0 := hide (show W0.heap.size = w.heap.size + 1 by rw [hW0]; simp)
  go_enter Tryz.func67, Tryz.ntmps67
  go_wp2
  rw [← HW0.out]
  have v0 : W0.cell? ⟨b, 0, none⟩ = some (.pointer (some ⟨s, 0, none⟩)) := by rw [hW0]; exact u0 _
  have v1 : W0.cell? ⟨b, 1, none⟩ = some (.pointer (some ⟨r, 0, none⟩)) := by rw [hW0]; exact u1 _
  have x2 : W0.cell? ⟨w.heap.size, 2, none⟩ = some (.int .i64 fid) := by rw [hW0]; simp
  have x3 : W0.cell? ⟨w.heap.size, 3, none⟩ = some (.int .i64 a) := by rw [hW0]; simp
  have x4 : W0.cell? ⟨w.heap.size, 4, none⟩ = some (.int .i64 bb) := by rw [hW0]; simp
  clear hW0 u0 u1
  go_cut [6, 7] (fun s7 s8 wc => s8 = .int .i64 er ∧ (∃ ao n c, s7 = .slice ao n c) ∧ BytesAt wc s7 t ∧ (∀ k, s7.ownBlock = some k → w.heap.size ≤ k ∧ k < wc.heap.size) ∧ Ext X w wc ∧ (∃ F', (∀ k, s7.ownBlock = some k → ¬ F' k) ∧ TwoIs wc X b s r F' G st2 st) ∧ wc.cell? ⟨w.heap.size, 2, none⟩ = some (.int .i64 fid) ∧ wc.cell? ⟨w.heap.size, 3, none⟩ = some (.int .i64 a) ∧ wc.cell? ⟨w.heap.size, 4, none⟩ = some (.int .i64 bb))
  case first =>
    go_region_held3 (fun ww => ww.cell? ⟨b, 0, none⟩ = some (.pointer (some ⟨s, 0, none⟩)) ∧ ww.cell? ⟨w.heap.size, 2, none⟩ = some (.int .i64 fid) ∧ ww.cell? ⟨w.heap.size, 3, none⟩ = some (.int .i64 a) ∧ ww.cell? ⟨w.heap.size, 4, none⟩ = some (.int .i64 bb)) (go_keep) (first | (go_at_call 17; refine (sread_any (F := F) (st := st) fid a bb ?_ Hok.out ?_ ?_).mono ?_; exact (H.out.below HB0.out.drew).srv; exact (fun k hk => by have := (H.out.lo k (.inl hk)).2; have := HZ0.out; show k < W0.heap.size; omega); exact (fun x hx => Nat.le_trans (Hsm.out x hx) (by decide)); rintro e w2 he2; rw [HM.out] at he2; obtain ⟨v, F2, rfl, hb2, hk2, hs2, hF2, hx2⟩ := he2; have HV2 := hide hb2; have HK2 := hide hk2; have HS2 := hide hs2; have HF2 := hide hF2; have HX := hide hx2; have q0 : w2.cell? ⟨b, 0, none⟩ = some (.pointer (some ⟨s, 0, none⟩)) := ext_cell HX.out HbF.out v0; have q2 : w2.cell? ⟨w.heap.size, 2, none⟩ = some (.int .i64 fid) := ext_cell HX.out HBox.out x2; have q3 : w2.cell? ⟨w.heap.size, 3, none⟩ = some (.int .i64 a) := ext_cell HX.out HBox.out x3; have q4 : w2.cell? ⟨w.heap.size, 4, none⟩ = some (.int .i64 bb) := ext_cell HX.out HBox.out x4; clear hb2 hk2 hs2 hF2 hx2))
    all_goals go_wp2
    all_goals go_meet
    all_goals
      have hT2 := (H.out.below HB0.out.drew).srvStep' HS2.out HF2.out HX.out
      have e1 : Ext X w W0.drew := Ext.below HB0.out.drew
      have e2 := HX.out.weak (fun k hk => (H.out.lo k (.inl hk)).1)
      exact ⟨rfl, HV2.out.form, HV2.out, fun k hk => ⟨by have h1 : W0.heap.size ≤ k := (HK2.out k hk).1; have := HZ0.out; omega, (HK2.out k hk).2.1⟩, e1.trans' e2, ⟨_, fun k hk => (HK2.out k hk).2.2, hT2⟩, q2, q3, q4⟩
  case rest =>
    obtain ⟨rfl, ⟨vo, vn, vc, rfl⟩, hbv, hbk, hbc, ⟨F', hF', hT⟩, q2, q3, q4⟩ := hcut
    have v1 := hT.c1
    have HT := hide hT
    have HBc := hide hbc
    have HBv := hide hbv
    have HBk := hide hbk
    have HF' := hide hF'
    clear hT hbc hbv hbk hF'
    go_wp2
    go_cut [8, 9] (fun s9 s10 wd => s9 = .string t ∧ s10 = .int .i64 er ∧ BytesAt wd (.slice vo vn vc) t ∧ (∀ k, (Value.slice vo vn vc).ownBlock = some k → w.heap.size ≤ k ∧ k < wd.heap.size) ∧ Ext X w wd ∧ ∃ F' G', (∀ k, (Value.slice vo vn vc).ownBlock = some k → ¬ F' k ∧ ¬ G' k) ∧ TwoIs wd X b s r F' G' st2 st2)
    case first =>
      go_region_held3 (fun ww => ww.cell? ⟨b, 1, none⟩ = some (.pointer (some ⟨r, 0, none⟩)) ∧ ww.cell? ⟨w.heap.size, 2, none⟩ = some (.int .i64 fid) ∧ ww.cell? ⟨w.heap.size, 3, none⟩ = some (.int .i64 a) ∧ ww.cell? ⟨w.heap.size, 4, none⟩ = some (.int .i64 bb)) (go_keep) (first | (go_at_call 113; refine (Go.Proofs.YtdmdgnghaceibaaGreat.read_any (F := G) (st := st) fid a bb ?_ Hok.out.stOk Hsm.out).mono ?_; exact HT.out.ref.drew; rintro e w3 he3; rw [HM.out] at he3; obtain ⟨rfl, hr3, hx3⟩ := he3; have HR3 := hide hr3; have HX3 := hide hx3; have p1 : w3.cell? ⟨b, 1, none⟩ = some (.pointer (some ⟨r, 0, none⟩)) := ext_cell hx3 HbG.out v1; have p2 : w3.cell? ⟨w.heap.size, 2, none⟩ = some (.int .i64 fid) := ext_cell hx3 HBoxG.out q2; have p3 : w3.cell? ⟨w.heap.size, 3, none⟩ = some (.int .i64 a) := ext_cell hx3 HBoxG.out q3; have p4 : w3.cell? ⟨w.heap.size, 4, none⟩ = some (.int .i64 bb) := ext_cell hx3 HBoxG.out q4; clear hr3 hx3))
      all_goals go_wp2
      all_goals go_meet
      all_goals
        have hT3 := (HT.out.below ((Below.refl _ wc).drew)).refStep HR3.out HX3.out
        have e3 := HX3.out.weak (fun k hk => (HT.out.lo k (.inr hk)).1)
        have hnG : ∀ k, (Value.slice vo vn vc).ownBlock = some k → ¬ G k := fun k hk hG => by have := (H.out.lo k (.inr hG)).2; have := (HBk.out k hk).1; omega
        refine ⟨rfl, rfl, Own.keptBlock HBv.out.drew (fun k hk => HX3.out.block k (HBk.out k hk).2 (hnG k hk)), fun k hk => ⟨(HBk.out k hk).1, Nat.lt_of_lt_of_le (HBk.out k hk).2 HX3.out.size⟩, HBc.out.trans' (((Ext.refl X wc).drew).trans' e3), _, _, fun k hk => ⟨HF'.out k hk, fun q => ?_⟩, hT3⟩
        rcases q with q | q
        · exact hnG k hk q
        · have := (HBk.out k hk).2
          have : wc.heap.size ≤ k := q.1
          omega
    case rest =>
      obtain ⟨rfl, rfl, hbv, hbk, hbd, F2, G2, hFG, hT⟩ := hcut
      have HT2 := hide hT
      have HBd := hide hbd
      have HBv2 := hide hbv
      have HBk2 := hide hbk
      have HFG := hide hFG
      have q0 : (t.toList == t.toList) = true := by simp
      have q5 : (er == er) = true := by simp
      have hcv := bytes_string hbv
      clear hT hbd hbv hbk hFG
      go_wp2_with (go_at_call 27; refine (num_any _ _).mono ?_; rintro e w' ⟨rfl, hw⟩; obtain rfl := hw.symm)
      go_ret2
      exact ⟨vo, vn, vc, by simp, HBv2.out, HBk2.out, ⟨s, r, F2, G2, HT2.out.less (fun k hk => ⟨(HT2.out.lo k hk).1, fun q => by rcases hk with hk | hk; exact (HFG.out k q).1 hk; exact (HFG.out k q).2 hk⟩) (fun k hk => ⟨HT2.out.up k hk, fun q => absurd hk (Nat.not_le.2 (HBk2.out k q).2)⟩)⟩, HBd.out⟩
end Go.Proofs.YtdmdgnghaceibaaGreat.P
/- Both halves: Write. -/
namespace Go.Proofs.YtdmdgnghaceibaaGreat.P
open M Go.ChangeShapes Go.WideShapes Go.ChangeAt Go.RowKit
set_option linter.unusedVariables false

set_option maxRecDepth 20000 in
set_option maxHeartbeats 4000000 in
theorem written_any {w : World} {X : Nat → Prop} {b : Nat} {st : St} (k fid a bb : Int) (text : ByteArray) (yes : Bool) (ao : Option Addr) (nl nc : Nat) (ad : Option Addr) (cd : Nat) (h : BothIs w X b st) (ok : POk st) (hsm : ∀ x ∈ st.nodes, x.data.size ≤ 300) (ha : a ≤ 9223372036854775807) (ht : text.size ≤ 140737488355328)
    (hsrc : SrcIs w 1 (.slice ad text.size cd) (byteCells text)) (hap : ∀ q, ad = some q → 0 < text.size → ¬ X q.block) :
    Calls Tryz.prog 68 #[.pointer (some ⟨b, 0, none⟩), .agg #[.int .i64 7, .int .i64 k, .int .i64 fid, .int .i64 a, .int .i64 bb, .string text, .bool yes, .slice ao nl nc], .slice ad text.size cd] w fun e w' => e = .returned (.bool true) ∧ BothIs w' X b (mWrite st fid a text).1 ∧ Ext X w w' := by
  obtain ⟨s, r, F, G, h⟩ := h
  have c0 := h.c0
  have c1 := h.c1
  have H := hide h
  have Hok := hide ok
  have Hsm := hide hsm
  have Hsrc := hide hsrc
  have HbF := hide h.bF
  have HbG := hide h.bG
  have HBoxG := hide (show ¬ G w.heap.size from fun hk => by have := (h.lo _ (.inr hk)).2; omega)
  have HBox := hide (show ¬ F w.heap.size from fun hk => by have := (h.lo _ (.inl hk)).2; omega)
  obtain ⟨nr, hR⟩ : ∃ R, (mWrite st fid a text).2.1 = R := ⟨_, rfl⟩
  obtain ⟨er, hE⟩ : ∃ er, (mWrite st fid a text).2.2 = er := ⟨_, rfl⟩
  obtain ⟨st2, hS⟩ : ∃ st2, (mWrite st fid a text).1 = st2 := ⟨_, rfl⟩
  have HM := hide (show mWrite st fid a text = (st2, nr, er) by rw [← hR, ← hE, ← hS])
  rw [hS]
  clear h ok hsm hR hE hS hsrc
  have u0 := fun o => up c0 o
  have u1 := fun o => up c1 o
  obtain ⟨W0, hW0⟩ : ∃ W0, W0 = (w.alloc (.cells #[.int .i64 7, .int .i64 k, .int .i64 fid, .int .i64 a, .int .i64 bb, .string text, .bool yes, .slice ao nl nc] 57)) := ⟨_, rfl⟩
  have HW0 := hide hW0
  have HB0 := hide (show Below w.heap.size w W0 by rw [hW0]; exact (Below.refl _ w).alloc (Nat.le_refl _) _)
  have HZ0 := hide (show W0.heap.size = w.heap.size + 1 by rw [hW0]; simp)
  go_enter Tryz.func68, Tryz.ntmps68
  go_wp2
  rw [← HW0.out]
  have v0 : W0.cell? ⟨b, 0, none⟩ = some (.pointer (some ⟨s, 0, none⟩)) := by rw [hW0]; exact u0 _
  have v1 : W0.cell? ⟨b, 1, none⟩ = some (.pointer (some ⟨r, 0, none⟩)) := by rw [hW0]; exact u1 _
  have x2 : W0.cell? ⟨w.heap.size, 2, none⟩ = some (.int .i64 fid) := by rw [hW0]; simp
  have x3 : W0.cell? ⟨w.heap.size, 3, none⟩ = some (.int .i64 a) := by rw [hW0]; simp
  have x5 : W0.cell? ⟨w.heap.size, 5, none⟩ = some (.string text) := by rw [hW0]; simp
  have Hap : Hid (∀ ad' n c, Value.slice ad text.size cd = .slice (some ad') n c → 0 < n → ¬ F ad'.block) := hide (fun ad' n c e hn hF => by
    simp only [Value.slice.injEq] at e
    obtain ⟨e1, rfl, _⟩ := e
    exact hap ad' e1 hn (H.out.lo _ (.inl hF)).1)
  clear hW0 u0 u1 hap
  go_cut [7, 8] (fun s7 s8 wc => s7 = .int .i64 nr ∧ s8 = .int .i64 er ∧ Ext X w wc ∧ (∃ F', TwoIs wc X b s r F' G st2 st) ∧ wc.cell? ⟨w.heap.size, 2, none⟩ = some (.int .i64 fid) ∧ wc.cell? ⟨w.heap.size, 3, none⟩ = some (.int .i64 a) ∧ wc.cell? ⟨w.heap.size, 5, none⟩ = some (.string text))
  case first =>
    go_region_held3 (fun ww => ww.cell? ⟨b, 0, none⟩ = some (.pointer (some ⟨s, 0, none⟩)) ∧ ww.cell? ⟨w.heap.size, 2, none⟩ = some (.int .i64 fid) ∧ ww.cell? ⟨w.heap.size, 3, none⟩ = some (.int .i64 a) ∧ ww.cell? ⟨w.heap.size, 5, none⟩ = some (.string text)) (go_keep) (first | (go_at_call 18; refine (swrite_any (F := F) (st := st) fid a ha _ text ?_ Hok.out ?_ Hap.out ht ?_).mono ?_; exact (H.out.below HB0.out.drew).srv; exact SrcIs.below Hsrc.out HB0.out.drew; exact (fun x hx => Nat.le_trans (Hsm.out x hx) (by decide)); rintro e w2 he2; rw [HM.out] at he2; obtain ⟨rfl, hs2, hx2⟩ := he2; have HS2 := hide hs2; have HX := hide hx2; have q0 : w2.cell? ⟨b, 0, none⟩ = some (.pointer (some ⟨s, 0, none⟩)) := ext_cell HX.out HbF.out v0; have q2 : w2.cell? ⟨w.heap.size, 2, none⟩ = some (.int .i64 fid) := ext_cell HX.out HBox.out x2; have q3 : w2.cell? ⟨w.heap.size, 3, none⟩ = some (.int .i64 a) := ext_cell HX.out HBox.out x3; have q5 : w2.cell? ⟨w.heap.size, 5, none⟩ = some (.string text) := ext_cell HX.out HBox.out x5; clear hs2 hx2))
    all_goals go_wp2
    all_goals go_meet
    all_goals
      have hT2 := (H.out.below HB0.out.drew).srvStep HS2.out HX.out
      have e1 : Ext X w W0.drew := Ext.below HB0.out.drew
      have e2 := HX.out.weak (fun k hk => (H.out.lo k (.inl hk)).1)
      exact ⟨rfl, rfl, e1.trans' e2, ⟨_, hT2⟩, q2, q3, q5⟩
  case rest =>
    obtain ⟨rfl, rfl, hbc, ⟨F', hT⟩, q2, q3, q5⟩ := hcut
    have v1 := hT.c1
    have HT := hide hT
    have HBc := hide hbc
    clear hT hbc
    go_wp2
    go_cut [9, 10] (fun s9 s10 wd => s9 = .int .i64 nr ∧ s10 = .int .i64 er ∧ Ext X w wd ∧ ∃ F' G', TwoIs wd X b s r F' G' st2 st2)
    case first =>
      go_region_held3 (fun ww => ww.cell? ⟨b, 1, none⟩ = some (.pointer (some ⟨r, 0, none⟩)) ∧ ww.cell? ⟨w.heap.size, 2, none⟩ = some (.int .i64 fid) ∧ ww.cell? ⟨w.heap.size, 3, none⟩ = some (.int .i64 a) ∧ ww.cell? ⟨w.heap.size, 5, none⟩ = some (.string text)) (go_keep) (first | (go_at_call 114; refine (Go.Proofs.YtdmdgnghaceibaaGreat.write_any (F := G) (st := st) fid a text ?_ Hok.out.stOk Hsm.out ht).mono ?_; exact HT.out.ref.drew; rintro e w3 he3; rw [HM.out] at he3; obtain ⟨rfl, hr3, hx3⟩ := he3; have HR3 := hide hr3; have HX3 := hide hx3; have p1 : w3.cell? ⟨b, 1, none⟩ = some (.pointer (some ⟨r, 0, none⟩)) := ext_cell hx3 HbG.out v1; have p2 : w3.cell? ⟨w.heap.size, 2, none⟩ = some (.int .i64 fid) := ext_cell hx3 HBoxG.out q2; have p3 : w3.cell? ⟨w.heap.size, 3, none⟩ = some (.int .i64 a) := ext_cell hx3 HBoxG.out q3; have p5 : w3.cell? ⟨w.heap.size, 5, none⟩ = some (.string text) := ext_cell hx3 HBoxG.out q5; clear hr3 hx3))
      all_goals go_wp2
      all_goals go_meet
      all_goals
        have hT3 := (HT.out.below ((Below.refl _ wc).drew)).refStep HR3.out HX3.out
        have e3 := HX3.out.weak (fun k hk => (HT.out.lo k (.inr hk)).1)
        exact ⟨rfl, rfl, HBc.out.trans' (((Ext.refl X wc).drew).trans' e3), _, _, hT3⟩
    case rest =>
      obtain ⟨rfl, rfl, hbd, F2, G2, hT⟩ := hcut
      have HT2 := hide hT
      have HBd := hide hbd
      clear hT hbd
      go_wp2_with (go_at_call 27; refine (num_any _ _).mono ?_; rintro e w' ⟨rfl, hw⟩; obtain rfl := hw.symm)
      go_ret
      exact ⟨by simp, ⟨s, r, F2, G2, HT2.out⟩, HBd.out⟩
end Go.Proofs.YtdmdgnghaceibaaGreat.P
/- The reference's 'has', 'within'. -/
namespace Go.Proofs.YtdmdgnghaceibaaGreat
open M Go.ChangeShapes Go.WideShapes Go.ChangeAt Go.RowKit
set_option linter.unusedVariables false

set_option maxRecDepth 20000 in
set_option maxHeartbeats 1000000 in
/-- 'has': is a text in a list? -/
theorem has_any {w : World} (l : List ByteArray) (s : ByteArray) (ao : Option Addr) (c : Nat) (hn : NamesAt w ao l) :
    Calls Tryz.prog 152 #[.slice ao l.length c, .string s] w fun e w' => e = .returned (.bool (hasText l s)) ∧ w' = w := by
  have hl := hn.1
  unfold maxLen at hl
  have Hn := hide hn
  clear hn
  go_enter Tryz.func152, Tryz.ntmps152
  go_wp2
  go_loop [5] (fun i => ∃ k : Nat, k ≤ l.length ∧ i = .int .i64 k ∧ (l.take k).any (fun x => decide (x.toList = s.toList)) = false) (fun i => l.length - (intOf i).toNat)
  case atStart => exact ⟨0, Nat.zero_le _, rfl, by simp⟩
  case round =>
    obtain ⟨k, hk, rfl, hany⟩ := hrel
    have Hany := hide hany
    clear hany
    by_cases hlt : k < l.length
    · obtain ⟨t, ht⟩ := getElem?_of_lt hlt
      obtain ⟨hsz, nb, no, rfl, hcs⟩ := Hn.out.2 k t ht
      have Ht := hide ht
      clear ht
      by_cases d : t.toList = s.toList
      · have Hb := hide (show decide (t.toList = s.toList) = true by simpa using d)
        go_wp2
        go_ret
        exact ⟨by rw [show hasText l s = true from any_hit _ Ht.out Hb.out]; rfl, rfl⟩
      · have Hb := hide (show decide (t.toList = s.toList) = false by simpa using d)
        have fb : (t.toList == s.toList) = false := by simpa using d
        go_wp2
        go_round
        case rel => exact ⟨k + 1, by omega, by go_num, any_snoc _ Ht.out Hany.out Hb.out⟩
        case measure => simp [intOf]; omega
    · have Hall := hide (show hasText l s = false by unfold hasText; rw [← Hany.out, List.take_of_length_le (by omega)])
      go_wp2
      go_ret
      exact ⟨by rw [Hall.out]; rfl, rfl⟩

set_option maxHeartbeats 1000000 in
theorem within_core (r g cap : Nat) (st : St) (n : Int) (d : Nat) (w : World) (hl : st.nodes.length ≤ maxLen) (hp : ParentOk st)
    (h0 : w.cell? ⟨r, 0, none⟩ = some (.slice (some ⟨g, 0, none⟩) st.nodes.length cap))
    (hc : ∀ i x, st.nodes[i]? = some x → w.cell? ⟨g, i * 6 + 2, none⟩ = some (.int .i64 x.inn)) (hn : -1 ≤ n) (hn2 : n < st.nodes.length) :
    Calls Tryz.prog 154 #[.pointer (some ⟨r, 0, none⟩), .int .i64 n, .int .i64 d] w fun e w' => e = .returned (.bool (inside st d (n + 1).toNat n)) ∧ w' = w := by
  unfold maxLen at hl
  go_enter Tryz.func154, Tryz.ntmps154
  go_wp2
  go_loop [1] (fun v => ∃ q : Int, v = .int .i64 q ∧ -1 ≤ q ∧ q < st.nodes.length ∧ inside st d (n + 1).toNat n = inside st d (q + 1).toNat q) (fun v => (intOf v + 1).toNat)
  case atStart => exact ⟨n, rfl, hn, hn2, rfl⟩
  case round =>
    obtain ⟨q, rfl, hq, hq2, hin⟩ := hrel
    have Hin := hide hin
    clear hin
    by_cases h1 : 0 ≤ q
    · by_cases h2 : q = (d : Int)
      · have h2' : (q != (d : Int)) = false := by simpa using h2
        have h2'' : (q == (d : Int)) = true := by simpa using h2
        have HE := hide (show inside st d (n + 1).toNat n = true by
          rw [Hin.out]
          cases hz : (q + 1).toNat with
          | zero => simp [inside, h2]
          | succ z => simp only [inside]; rw [if_neg (fun a => a.2 h2)]; exact h2'')
        clear h2
        go_wp2
        go_ret
        exact ⟨by rw [HE.out]; rfl, rfl⟩
      · have h2' : (q != (d : Int)) = true := by simpa using h2
        obtain ⟨qn, rfl⟩ := Int.eq_ofNat_of_zero_le h1
        obtain ⟨x, hx⟩ := getElem?_of_lt (show qn < st.nodes.length by omega)
        have c2 := hc qn x hx
        obtain ⟨p1, p2⟩ := hp qn x hx
        have HE := hide (show inside st d (n + 1).toNat n = inside st d (x.inn + 1).toNat x.inn by
          rw [Hin.out, show ((qn : Int) + 1).toNat = qn + 1 by omega]
          have e1 : inside st d (qn + 1) (qn : Int) = inside st d qn x.inn := by
            simp only [inside]
            rw [if_pos ⟨h1, h2⟩, Int.toNat_natCast, show innOf st qn = x.inn by simp [innOf, hx]]
          rw [e1]
          exact inside_fuel st hp d qn x.inn p1 p2)
        clear hx hc h2
        go_wp2
        go_round
        case rel => exact ⟨x.inn, rfl, p1, by omega, HE.out⟩
        case measure => simp [intOf]; omega
    · have HE := hide (show inside st d (n + 1).toNat n = (q == (d : Int)) by
        rw [Hin.out, show (q + 1).toNat = 0 by omega]
        rfl)
      have h3 : (q == (d : Int)) = false := by simp; omega
      go_wp2
      go_ret
      exact ⟨by rw [HE.out, h3]; rfl, rfl⟩
end Go.Proofs.YtdmdgnghaceibaaGreat
/- The reference's List. -/
namespace Go.Proofs.YtdmdgnghaceibaaGreat.P
open M Go.ChangeShapes Go.WideShapes Go.ChangeAt Go.RowKit
set_option linter.unusedVariables false

/-- How the reference's List ends. -/
def REnds6 (w : World) (F : Nat → Prop) (r : Nat) (p : St × List ByteArray × Int) (e : Ending) (w' : World) : Prop :=
  ∃ v, e = .returned (.tuple #[v, .int .i64 p.2.2]) ∧ TextsAt w' v p.2.1 ∧ (∀ k, v.ownBlock = some k → w.heap.size ≤ k ∧ k < w'.heap.size) ∧ RefIs w' F r p.1 ∧ Ext F w w'

theorem REnds6.err {w w1 w' : World} {F : Nat → Prop} {r : Nat} {p : St × List ByteArray × Int} {c : Int} {st' : St} {e : Ending} (hp : p = (st', [], c)) (he : e = .returned (.tuple #[.slice none 0 0, .int .i64 c])) (h1 : RefIs w1 F r st') (hx : Ext F w w1) (hb : Below w1.heap.size w1 w') : REnds6 w F r p e w' := by
  subst hp
  exact ⟨_, he, Own.nil _ _ _ _, fun k hk => by simp [Value.ownBlock] at hk, h1.below hb, hx.trans' (Ext.below hb)⟩

/-- Texts of a slice of one's own, as a list of texts. -/
theorem namesAt_of_own {w : World} {G : Nat → Prop} {ao : Option Addr} {n c : Nat} {B : List ByteArray} (h : Own w G 9 1 (.slice ao n c) (strRows B)) (hl : B.length ≤ maxLen) (hs : ∀ s ∈ B, s.size ≤ maxLen) : NamesAt w ao B := by
  refine ⟨hl, fun i s hi => ⟨hs s (List.mem_of_getElem? hi), ?_⟩⟩
  rcases h.opened with ⟨e, hn⟩ | ⟨g, cap, e, _, _, _, _, hc, _⟩
  · unfold strRows at hn
    rw [List.map_eq_nil_iff.1 hn] at hi
    simp at hi
  · simp only [Value.slice.injEq] at e
    obtain ⟨rfl, _, _⟩ := e
    refine ⟨g, 0, rfl, ?_⟩
    have := hc i [.string s] 0 _ (by unfold strRows; rw [List.getElem?_map, hi]; rfl) rfl
    simpa using this

theorem told_mem {s : ByteArray} : ∀ {l base : List ByteArray}, s ∈ l.foldl tell base → s ∈ base ∨ s ∈ l
  | [], base, h => .inl h
  | x :: l, base, h => by
    rw [List.foldl_cons] at h
    rcases told_mem h with h | h
    · unfold tell at h
      split at h
      · exact .inl h
      · rcases List.mem_append.1 h with h | h
        · exact .inl h
        · simp at h
          exact .inr (by simp [h])
    · exact .inr (by simp [h])
theorem told_len : ∀ (l base : List ByteArray), (l.foldl tell base).length ≤ base.length + l.length
  | [], base => by simp
  | x :: l, base => by
    rw [List.foldl_cons]
    have h := told_len l (tell base x)
    have h2 : (tell base x).length ≤ base.length + 1 := by
      unfold tell
      split
      · omega
      · simp
    simp only [List.length_cons]
    omega
theorem fold_take_succ (l : List ByteArray) (base : List ByteArray) (q : Nat) (s : ByteArray) (h : l[q]? = some s) : (l.take (q + 1)).foldl tell base = tell ((l.take q).foldl tell base) s := by
  have hlt := M.lt_of_getElem? h
  have e : l[q] = s := by rw [List.getElem?_eq_getElem hlt] at h; exact Option.some.inj h
  rw [List.take_succ_eq_append_getElem hlt, e, List.foldl_append]
  rfl

set_option maxRecDepth 20000 in
set_option maxHeartbeats 4000000 in
theorem rlist_any {w : World} {F : Nat → Prop} {r : Nat} {st : St} (n : Int) (h : RefIs w F r st) (pok : POk st) (hu : UniqL st.nodes) (hF : ∀ k, F k → k < w.heap.size) (hnod : st.nodes.length ≤ 1700000000000) :
    Calls Tryz.prog 115 #[.pointer (some ⟨r, 0, none⟩), .int .i64 n] w fun e w' => REnds6 w F r (mList st n) e w' := by
  have ok : StOk st := ⟨pok.pos, fun f hf => ⟨(pok.way f hf).1, fun s hs => ⟨((pok.way f hf).2 s hs).1, fun m hm => (((pok.way f hf).2 s hs).2.1 m hm).1⟩⟩, fun l hl m hm => ((pok.laid l hl).1 m hm).1, FidsOk.few pok.fids⟩
  cases hf : find st n with
  | none =>
    have H := hide (show mList st n = (tick st, [], 2) by simp [mList, mDirE, hf])
    go_enter Tryz.func115, Tryz.ntmps115
    go_wp2_with fail
    refine (call_any n h).mono ?_
    rintro e w1 ⟨rfl, h1, hx, hsz⟩
    have H1 := hide h1
    have Hx := hide hx
    rw [hf]
    clear hf h h1 hx hsz
    simp only [idxV]
    go_wp2
    go_ret2
    exact REnds6.err H.out rfl H1.out Hx.out (Below.refl _ _)
  | some i =>
    obtain ⟨f, hfi, _⟩ := find_some hf
    have hi := M.lt_of_getElem? hfi
    have hmem := List.mem_of_getElem? hfi
    obtain ⟨s, hs, hsn, hrok, hno⟩ := ok.last hmem
    have hr6 : s.row.length ≤ 6 := ((pok.way f hmem).2 s (List.mem_of_getLast? hs)).2.2
    obtain ⟨x, hx⟩ := getElem?_of_lt hsn
    have HD := hide (show mList st n = if f.op then (if x.gone then (tick st, [], (4 : Int)) else if x.dir then (tick st, listUpto st s.row s.row.length, 0) else (tick st, [], 5)) else (tick st, [], 3) by
      unfold mList mDirE
      rw [hf]
      simp only
      rw [hfi]
      simp only
      rw [hno]
      simp only [isGone, isDir, hx, fidRow, hs]
      cases f.op <;> cases x.gone <;> cases x.dir <;> simp)
    have i0 : (0 : Int) ≤ (i : Int) := by omega
    have i1 : (i : Int) < (st.fids.length : Int) := by omega
    go_enter Tryz.func115, Tryz.ntmps115
    go_wp2_with fail
    refine (call_any n h).mono ?_
    rintro e w1 ⟨rfl, h1, hx1, hsz⟩
    have H1 := hide h1
    have Hx := hide hx1
    have Hsz := hide hsz
    rw [hf]
    clear hf h hx1 hsz
    simp only [idxV]
    obtain ⟨nv, lv, fv, hR⟩ := h1
    obtain ⟨g, cap, rfl, hmax, hFF, hb, hcell, hfz⟩ := hR.nodesAt ok.pos
    obtain ⟨fg, fcap, wv, rfl, hfm, hFg, _, hway, _, cw, co, cfz⟩ := FidsIs.at (fids := st.fids) hR.fids i f hfi
    obtain ⟨gw, wcap, rao, rc, rfl, hwpos, hwmax, hrow, s0, s1⟩ := hway.last s hs
    have c2 := hR.c2
    have hc0 : w1.cell? ⟨r, 0, none⟩ = some (.slice (some ⟨g, 0, none⟩) st.nodes.length cap) := hR.c0
    have hgone := (hcell s.n x hx).2.2.2.2.2
    have hdir := (hcell s.n x hx).2.1
    have HC := hide hcell
    have Hrow := hide hrow
    have Hnode := hide (node_any (st := tick st) i f s hfi hs hsn H1.out)
    have Hspot := hide (fun (W : World) (a1 : W.cell? ⟨fg, i * 3 + 1, none⟩ = some (.slice (some ⟨gw, 0, none⟩) f.way.length wcap)) (a2 : W.cell? ⟨gw, (f.way.length - 1) * 2, none⟩ = some (.int .i64 s.n)) (a3 : W.cell? ⟨gw, (f.way.length - 1) * 2 + 1, none⟩ = some (.slice rao s.row.length rc)) => spot_core fg (i * 3) gw f.way.length wcap s.n rao s.row.length rc W hwpos hwmax a1 a2 a3)
    have Hrok := hide hrok
    have Hok := hide pok
    have Hu := hide hu
    unfold maxLen at hmax hfm
    clear hR hcell hfz cfz hb hFF hx hfi hs hFg hway hrow
    cases ho : f.op with
    | false =>
      rw [ho] at co HD
      go_wp2
      go_ret2
      exact REnds6.err HD.out rfl H1.out Hx.out (Below.refl _ _)
    | true =>
      rw [ho] at co HD
      clear ho
      go_wp2_with fail
      refine Hnode.out.mono ?_
      rintro e w2 ⟨g', cap', hcc, rfl, hb2⟩
      have hgg : g' = g := by rw [hc0] at hcc; simp at hcc; exact hcc.1.symm
      subst hgg
      have HB2 := hide hb2
      have q5 : w2.cell? ⟨g', s.n * 6 + 5, none⟩ = some (.bool x.gone) := (hb2.cell (World.block_lt_of_cell? w1 _ hgone)).trans hgone
      have q1 : w2.cell? ⟨g', s.n * 6 + 1, none⟩ = some (.bool x.dir) := (hb2.cell (World.block_lt_of_cell? w1 _ hdir)).trans hdir
      have q2 : w2.cell? ⟨r, 2, none⟩ = some (.slice (some ⟨fg, 0, none⟩) st.fids.length fcap) := (hb2.cell (World.block_lt_of_cell? w1 _ c2)).trans c2
      have qw : w2.cell? ⟨fg, i * 3 + 1, none⟩ = some (.slice (some ⟨gw, 0, none⟩) f.way.length wcap) := (hb2.cell (World.block_lt_of_cell? w1 _ cw)).trans cw
      have t0 : w2.cell? ⟨gw, (f.way.length - 1) * 2, none⟩ = some (.int .i64 s.n) := (hb2.cell (World.block_lt_of_cell? w1 _ s0)).trans s0
      have t1 : w2.cell? ⟨gw, (f.way.length - 1) * 2 + 1, none⟩ = some (.slice rao s.row.length rc) := (hb2.cell (World.block_lt_of_cell? w1 _ s1)).trans s1
      clear hb2 hcc
      cases hxg : x.gone with
      | true =>
        rw [hxg] at q5 HD
        go_wp2
        go_ret2
        exact REnds6.err HD.out rfl H1.out Hx.out HB2.out
      | false =>
        rw [hxg] at q5 HD
        cases hxd : x.dir with
        | false =>
          rw [hxd] at q1 HD
          go_wp2
          go_ret2
          exact REnds6.err HD.out rfl H1.out Hx.out HB2.out
        | true =>
          rw [hxd] at q1 HD
          have hfd : ∀ (u : Value) (W : World), (Instr.field 212 (.agg #[.int .i64 s.n, u]) 1).run Tryz.prog W = .ok u W := fun _ _ => by kernel_rfl
          have HD2 := hide (show mList st n = (tick st, listUpto st s.row s.row.length, 0) from HD.out)
          clear HD hxg hxd
          go_wp2_with fail
          refine (Hspot.out _ qw t0 t1).mono ?_
          rintro e w3 ⟨rfl, hb3⟩
          have HB3 : Hid (Below w1.heap.size w1 w3) := hide (HB2.out.trans (hb3.mono HB2.out.size))
          have HR3 := hide (H1.out.below HB3.out)
          have Hrow3 := hide (Hrow.out.keepT (T := fun _ => True) (KeepT.below HB3.out) trivial)
          have q0 : w3.cell? ⟨r, 0, none⟩ = some (.slice (some ⟨g', 0, none⟩) st.nodes.length cap) := (HB3.out.cell (World.block_lt_of_cell? w1 _ hc0)).trans hc0
          have HC3 := hide (show ∀ j y, st.nodes[j]? = some y → w3.cell? ⟨g', j * 6 + 5, none⟩ = some (.bool y.gone) from fun j y hy => (HB3.out.cell (World.block_lt_of_cell? w1 _ (HC.out j y hy).2.2.2.2.2)).trans (HC.out j y hy).2.2.2.2.2)
          clear hb3 q5 q1 q2 qw t0 t1 c2 cw co s0 s1 hgone hdir hc0 Hspot Hnode HC
          go_wp2
          go_loopw [8, 10] (fun o i wr => ∃ k : Nat, k ≤ s.row.length ∧ i = .int .i64 k ∧ Told w3 wr (listUpto st s.row k) o) (fun _ i _ => s.row.length - (intOf i).toNat)
          case atStart => exact ⟨0, Nat.zero_le _, rfl, Told.nil w3⟩
          case round =>
            obtain ⟨k, hk, rfl, hTo⟩ := hrel
            have hbel := hTo.below
            have Hbel := hide hbel
            obtain ⟨ao, co, rfl⟩ := hTo.form
            have HTo := hide hTo
            clear hTo
            by_cases hlt : k < s.row.length
            · obtain ⟨m, hm⟩ := M.getElem?_of_lt hlt
              have hmd := Hrok.out m (List.mem_of_getElem? hm)
              obtain ⟨y, hy⟩ := M.getElem?_of_lt hmd
              rcases Hrow3.out.opened with ⟨e, _⟩ | ⟨rg, rcap, e, _, _, _, _, hrc, _⟩
              · simp only [Value.slice.injEq] at e
                omega
              · simp only [Value.slice.injEq] at e
                obtain ⟨rfl, e2, e3⟩ := e
                clear e2 e3
                have cm : wr.cell? ⟨rg, k * 2, none⟩ = some (.int .i64 m.d) := by
                  have h0 := hrc k (memberCells m) 0 _ (by rw [List.getElem?_map, hm]; rfl) rfl
                  exact (hbel.cell (World.block_lt_of_cell? w3 _ h0)).trans h0
                have c5 : wr.cell? ⟨g', m.d * 6 + 5, none⟩ = some (.bool y.gone) := (hbel.cell (World.block_lt_of_cell? w3 _ (HC3.out m.d y hy))).trans (HC3.out m.d y hy)
                have c0 : wr.cell? ⟨r, 0, none⟩ = some (.slice (some ⟨g', 0, none⟩) st.nodes.length cap) := (hbel.cell (World.block_lt_of_cell? w3 _ q0)).trans q0
                have Hg := hide (show isGone st m.d = y.gone by simp [isGone, hy])
                have b1 : (m.d : Int) < (st.nodes.length : Int) := by omega
                have b2 : (k : Int) < (s.row.length : Int) := by omega
                have b3 : (0 : Int) ≤ (m.d : Int) := by omega
                have b4 : (0 : Int) ≤ (k : Int) := by omega
                have Hm := hide hm
                clear hm hy hrc hbel
                cases hyg : y.gone with
                | true =>
                  rw [hyg] at c5 Hg
                  go_wp2
                  go_quiet (fail)
                  go_wp2
                  refine ⟨⟨k + 1, by omega, by go_num, ?_⟩, by simp [intOf]; omega⟩
                  rw [listUpto_gone Hm.out Hg.out]
                  exact HTo.out.kept (below_drewN (Below.refl _ _) nq)
                | false =>
                  rw [hyg] at c5 Hg
                  go_wp2
                  go_quiet (fail)
                  go_wp2_with fail
                  have HTo2 := hide (HTo.out.kept (below_drewN (Below.refl wr.heap.size wr) nq))
                  have HNm := hide (refNames_any (F := F) (r := r) (st := tick st) m.d pok.pos hnod hu (HR3.out.below HTo2.out.below))
                  refine HNm.out.mono ?_
                  rintro e w4 ⟨v4, rfl, hT4⟩
                  rw [show namesOf (tick st) m.d = namesOf st m.d from rfl] at hT4
                  obtain ⟨ao3, c3, rfl⟩ := hT4.form
                  obtain ⟨NL, hNL⟩ : ∃ NL, NL = namesOf st m.d := ⟨_, rfl⟩
                  rw [← hNL] at hT4 ⊢
                  have HNL := hide hNL
                  have hnl : NL.length ≤ 100 := by rw [hNL]; exact names_few Hok.out m.d
                  have hT2 : Told2 w3 w4 (listUpto st s.row k) (.slice ao (listUpto st s.row k).length co) NL (.slice ao3 NL.length c3) := by
                    refine ⟨HTo2.out.kept hT4.below, hT4.own.mono (fun q hq => ⟨Nat.le_trans HTo2.out.below.size hq.1, hq.2⟩), fun b hb e => ?_⟩
                    have h1 := (HTo2.out.own.2.2 b hb).2
                    have h2 := (hT4.own.2.2 b e).1
                    omega
                  have HT2 := hide hT2
                  clear hT4 hT2 hNL HNm
                  go_wp2
                  go_loopw [8, 12] (fun o j wr2 => ∃ q : Nat, q ≤ NL.length ∧ j = .int .i64 q ∧ Told2 w3 wr2 ((NL.take q).foldl tell (listUpto st s.row k)) o NL (.slice ao3 NL.length c3)) (fun _ j _ => NL.length - (intOf j).toNat)
                  case atStart => exact ⟨0, Nat.zero_le _, rfl, by simpa using HT2.out⟩
                  case round =>
                    obtain ⟨q, hq, rfl, h2⟩ := hrel
                    have hsm : ((NL.take q).foldl tell (listUpto st s.row k)).length ≤ 200 := by
                      have h3 := told_len (NL.take q) (listUpto st s.row k)
                      have h4 := listUpto_few Hok.out s.row k hk
                      have h5 : (NL.take q).length ≤ NL.length := List.length_take_le' _ _
                      omega
                    have hsz : ∀ z ∈ (NL.take q).foldl tell (listUpto st s.row k), z.size ≤ maxLen := fun z hz => by
                      have hlv : z ∈ liveNames st := by
                        rcases told_mem hz with hz | hz
                        · exact seenIn_live ((mem_listUpto st s.row z k hk).1 hz)
                        · exact lies_live (d := m.d) (M.mem_names.1 (by rw [← HNL.out]; exact List.mem_of_mem_take hz))
                      obtain ⟨y, hy, rfl⟩ := List.mem_map.1 hlv
                      have := Hok.out.names y (List.mem_filter.1 hy).1
                      unfold maxLen
                      omega
                    obtain ⟨B, hB⟩ : ∃ B, B = (NL.take q).foldl tell (listUpto st s.row k) := ⟨_, rfl⟩
                    rw [← hB] at h2 hsm hsz
                    obtain ⟨ao2, co2, rfl⟩ := h2.told.form
                    have HB := hide hB
                    clear hB
                    by_cases hql : q < NL.length
                    · obtain ⟨z, hz⟩ := M.getElem?_of_lt hql
                      rcases h2.own.opened with ⟨e, _⟩ | ⟨g3, cap3, e, _, _, _, _, hc3, _⟩
                      · injection e with _ e2 _
                        omega
                      · rw [len_strRows] at e
                        simp only [Value.slice.injEq, true_and] at e
                        obtain ⟨rfl, rfl⟩ := e
                        have cs : wr.cell? ⟨g3, q, none⟩ = some (.string z) := by
                          have := hc3 q [.string z] 0 _ (by unfold strRows; rw [List.getElem?_map, hz]; rfl) rfl
                          simpa using this
                        have HHas := hide (Go.Proofs.YtdmdgnghaceibaaGreat.has_any B z ao2 co2 (namesAt_of_own h2.told.own (by unfold maxLen; omega) hsz))
                        have H2 := hide h2
                        have Hsuc := hide (fold_take_succ NL (listUpto st s.row k) q z hz)
                        clear h2 hc3 hz hsz
                        have p1 : (q : Int) < (NL.length : Int) := by omega
                        have p0 : (0 : Int) ≤ (q : Int) := by omega
                        cases hh : hasText B z with
                        | true =>
                          rw [hh] at HHas
                          have Hh := hide hh
                          clear hh
                          go_wp2_with (go_at_call 152; refine HHas.out.mono ?_; rintro e w' ⟨rfl, hw⟩; obtain rfl := hw.symm)
                          refine ⟨⟨q + 1, by omega, by go_num, ?_⟩, by simp [intOf]; omega⟩
                          rw [Hsuc.out, ← HB.out]
                          unfold tell
                          rw [if_pos Hh.out]
                          exact H2.out
                        | false =>
                          rw [hh] at HHas
                          have Hh := hide hh
                          clear hh
                          have hTX : ∀ o, Told2 w3 (wr.alloc o) _ _ _ _ := fun o => H2.out.kept ((Below.refl _ _).alloc (Nat.le_refl _) o)
                          have HTX := hide hTX
                          clear hTX
                          go_wp2_with (first | (go_at_call 152; refine HHas.out.mono ?_; rintro e w' ⟨rfl, hw⟩; obtain rfl := hw.symm) | (at_builtin; refine wpList_append_Own _ rfl (.tmp 87) (.tmp 92) 35 rfl (nw w3 (wr.alloc (.cells #[.string z] 9))) 9 (.string ⟨#[]⟩) 1 16 Tryz.underlying35 infoString rfl (by decide) (.slice ao2 B.length co2) (strRows B) rfl (HTX.out _).told.own (.slice (some ⟨wr.heap.size, 0, none⟩) 1 1) [[.string z]] rfl (SrcIs.ofBlock (cs := #[.string z]) (heap_alloc_new wr _) rfl (by simp [Value.oneCell'])) (B.length + 1) (by rw [len_strRows]; rfl) (by unfold maxLen; omega) (by omega) ?_; intro ao6 c6 w6 ho6 hg6 hb6; have HT6 := hide ((HTX.out _).push rfl ho6 hg6 hb6); clear ho6 hg6 hb6))
                          refine ⟨⟨q + 1, by omega, by go_num, ?_⟩, by simp [intOf]; omega⟩
                          rw [Hsuc.out, ← HB.out]
                          unfold tell
                          rw [if_neg (by rw [Hh.out]; decide)]
                          exact HT6.out
                    · have H2 := hide h2
                      clear h2
                      go_wp2
                      refine ⟨⟨k + 1, by omega, by go_num, ?_⟩, by simp [intOf]; omega⟩
                      rw [← list_told st s.row k hlt m Hm.out Hg.out]
                      have e := HB.out
                      rw [show NL.take q = NL from List.take_of_length_le (by omega)] at e
                      rw [← HNL.out, ← e]
                      exact H2.out.told
            · go_wp2
              go_ret2
              have hk2 : k = s.row.length := by omega
              subst hk2
              have hT := HTo.out
              have hbw : Below w1.heap.size w1 wr := HB3.out.trans (Hbel.out.mono HB3.out.size)
              refine ⟨_, by rw [HD2.out]; rfl, ?_, fun b hb => ?_, ?_, Hx.out.trans' (Ext.below hbw)⟩
              · rw [HD2.out]
                exact hT.own.mono (fun _ _ => trivial)
              · have := hT.own.2.2 b hb
                have h1 := HB3.out.size
                have h2 := Hsz.out
                exact ⟨by have := this.1; omega, this.2⟩
              · rw [HD2.out]
                exact H1.out.below hbw
end Go.Proofs.YtdmdgnghaceibaaGreat.P
/- Both halves: List. -/
namespace Go.Proofs.YtdmdgnghaceibaaGreat.P
open M Go.ChangeShapes Go.WideShapes Go.ChangeAt Go.RowKit
set_option linter.unusedVariables false

set_option maxRecDepth 20000 in
set_option maxHeartbeats 1000000 in
/-- 'sameTexts' of two lists that read alike. -/
theorem same_any {w : World} (l : List ByteArray) (a1 : Option Addr) (c1 : Nat) (a2 : Option Addr) (c2 : Nat) (h1 : NamesAt w a1 l) (h2 : NamesAt w a2 l) :
    Calls Tryz.prog 116 #[.slice a1 l.length c1, .slice a2 l.length c2] w fun e w' => e = .returned (.bool true) ∧ Below w.heap.size w w' := by
  have hl := h1.1
  unfold maxLen at hl
  have H1 := hide h1
  have H2 := hide h2
  have hne : ((l.length : Int) != (l.length : Int)) = false := by simp
  clear h1 h2
  go_enter Tryz.func116, Tryz.ntmps116
  go_wp2
  go_loopw [5] (fun i wr => ∃ k : Nat, k ≤ l.length ∧ i = .int .i64 k ∧ Below w.heap.size w wr) (fun i _ => l.length - (intOf i).toNat)
  case atStart => exact ⟨0, Nat.zero_le _, rfl, Below.refl _ _⟩
  case round =>
    obtain ⟨k, hk, rfl, hbel⟩ := hrel
    have Hbel := hide hbel
    by_cases hlt : k < l.length
    · obtain ⟨t, ht⟩ := getElem?_of_lt hlt
      obtain ⟨hsz, nb, no, rfl, hcs⟩ := H1.out.2 k t ht
      obtain ⟨_, nb2, no2, rfl, hcs2⟩ := H2.out.2 k t ht
      have d1 : wr.cell? ⟨nb, no + k, none⟩ = some (.string t) := (hbel.cell (p := ⟨nb, no + k, none⟩) (World.block_lt_of_cell? w _ hcs)).trans hcs
      have d2 : wr.cell? ⟨nb2, no2 + k, none⟩ = some (.string t) := (hbel.cell (p := ⟨nb2, no2 + k, none⟩) (World.block_lt_of_cell? w _ hcs2)).trans hcs2
      have fb : (t.toList != t.toList) = false := by simp
      have fc : (t.toList == t.toList) = true := by simp
      have k0 : (0 : Int) ≤ (k : Int) := by omega
      have k1 : (k : Int) < (l.length : Int) := by omega
      clear ht hbel hcs hcs2
      go_wp2
      go_region
      all_goals go_wp2
      all_goals exact ⟨⟨k + 1, by omega, by go_num, Hbel.out.drew⟩, by simp [intOf]; omega⟩
    · clear hbel
      go_wp2
      go_ret
      exact ⟨rfl, Hbel.out⟩

/-- How 'listed' of both ends: what came out lies apart. -/
def ListEnds (w : World) (X : Nat → Prop) (b : Nat) (t : List ByteArray) (st' : St) (e : Ending) (w' : World) : Prop :=
  ∃ ao c, e = .returned (.tuple #[.slice ao t.length c, .bool true]) ∧ TextsAt w' (.slice ao t.length c) t ∧ (∀ k, (Value.slice ao t.length c).ownBlock = some k → w.heap.size ≤ k ∧ k < w'.heap.size) ∧ BothIs w' (fun k => X k ∧ (Value.slice ao t.length c).ownBlock ≠ some k) b st' ∧ Ext X w w'

set_option maxRecDepth 20000 in
set_option maxHeartbeats 4000000 in
theorem blist_any {w : World} {X : Nat → Prop} {b : Nat} {st : St} (k fid a bb : Int) (text : ByteArray) (yes : Bool) (ao : Option Addr) (nl nc : Nat) (h : BothIs w X b st) (ok : POk st) (hu : UniqL st.nodes) (hnod : st.nodes.length ≤ 1700000000000) :
    Calls Tryz.prog 69 #[.pointer (some ⟨b, 0, none⟩), .agg #[.int .i64 8, .int .i64 k, .int .i64 fid, .int .i64 a, .int .i64 bb, .string text, .bool yes, .slice ao nl nc]] w fun e w' => ListEnds w X b (mList st fid).2.1 (mList st fid).1 e w' := by
  obtain ⟨s, r, F, G, h⟩ := h
  have c0 := h.c0
  have c1 := h.c1
  have H := hide h
  have Hok := hide ok
  have Hu := hide hu
  have HBox := hide (show ¬ F w.heap.size from fun hk => by have := (h.lo _ (.inl hk)).2; omega)
  have HBoxG := hide (show ¬ G w.heap.size from fun hk => by have := (h.lo _ (.inr hk)).2; omega)
  have hfew := mList_few ok fid
  have hnm := mList_names ok fid
  obtain ⟨t, hR⟩ : ∃ R, (mList st fid).2.1 = R := ⟨_, rfl⟩
  obtain ⟨er, hE⟩ : ∃ er, (mList st fid).2.2 = er := ⟨_, rfl⟩
  obtain ⟨st2, hS⟩ : ∃ st2, (mList st fid).1 = st2 := ⟨_, rfl⟩
  have HM := hide (show mList st fid = (st2, t, er) by rw [← hR, ← hE, ← hS])
  rw [hR] at hfew hnm
  rw [hS, hR]
  have Hnm := hide hnm
  clear h ok hu hR hE hS hnm
  have u0 := fun o => up c0 o
  have u1 := fun o => up c1 o
  obtain ⟨W0, hW0⟩ : ∃ W0, W0 = (w.alloc (.cells #[.int .i64 8, .int .i64 k, .int .i64 fid, .int .i64 a, .int .i64 bb, .string text, .bool yes, .slice ao nl nc] 57)) := ⟨_, rfl⟩
  have HW0 := hide hW0
  have HB0 := hide (show Below w.heap.size w W0 by rw [hW0]; exact (Below.refl _ w).alloc (Nat.le_refl _) _)
  have HZ0 := hide (show W0.heap.size = w.heap.size + 1 by rw [hW0]; simp)
  go_enter Tryz.func69, Tryz.ntmps69
  go_wp2
  rw [← HW0.out]
  have v0 : W0.cell? ⟨b, 0, none⟩ = some (.pointer (some ⟨s, 0, none⟩)) := by rw [hW0]; exact u0 _
  have v1 : W0.cell? ⟨b, 1, none⟩ = some (.pointer (some ⟨r, 0, none⟩)) := by rw [hW0]; exact u1 _
  have x2 : W0.cell? ⟨w.heap.size, 2, none⟩ = some (.int .i64 fid) := by rw [hW0]; simp
  clear hW0 u0 u1
  go_cut [6, 7] (fun s7 s8 wc => s8 = .int .i64 er ∧ (∃ ao c, s7 = .slice ao t.length c) ∧ TextsAt wc s7 t ∧ (∀ k, s7.ownBlock = some k → w.heap.size ≤ k ∧ k < wc.heap.size) ∧ Ext X w wc ∧ (∃ F', (∀ k, s7.ownBlock = some k → ¬ F' k) ∧ TwoIs wc X b s r F' G st2 st) ∧ wc.cell? ⟨w.heap.size, 2, none⟩ = some (.int .i64 fid))
  case first =>
    go_region_with (go_at_call 19; refine (slist_any (F := F) (st := st) fid ?_ Hok.out ?_ hnod ?_).mono ?_; exact (H.out.below HB0.out.drew).srv; exact (fun k hk => by have := (H.out.lo k (.inl hk)).2; have := HZ0.out; show k < W0.heap.size; omega); exact (fun row k _ hk => Nat.le_trans (listUpto_few Hok.out row k hk) (by decide)); rintro e w2 he2; rw [HM.out] at he2; obtain ⟨v, F2, rfl, hb2, hk2, hs2, hF2, hx2⟩ := he2; have HV2 := hide hb2; have HK2 := hide hk2; have HS2 := hide hs2; have HF2 := hide hF2; have HX := hide hx2; have q2 : w2.cell? ⟨w.heap.size, 2, none⟩ = some (.int .i64 fid) := ext_cell HX.out HBox.out x2; clear hb2 hk2 hs2 hF2 hx2)
    all_goals go_wp2
    all_goals go_meet
    all_goals
      have hT2 := (H.out.below HB0.out.drew).srvStep' HS2.out HF2.out HX.out
      have e1 : Ext X w W0.drew := Ext.below HB0.out.drew
      have e2 := HX.out.weak (fun k hk => (H.out.lo k (.inl hk)).1)
      exact ⟨rfl, HV2.out.form, HV2.out, fun k hk => ⟨by have h1 : W0.heap.size ≤ k := (HK2.out k hk).1; have := HZ0.out; omega, (HK2.out k hk).2.1⟩, e1.trans' e2, ⟨_, fun k hk => (HK2.out k hk).2.2, hT2⟩, q2⟩
  case rest =>
    obtain ⟨rfl, ⟨vo, vc, rfl⟩, hbv, hbk, hbc, ⟨F', hF', hT⟩, q2⟩ := hcut
    have v1 := hT.c1
    have HT := hide hT
    have HBc := hide hbc
    have HBv := hide hbv
    have HBk := hide hbk
    have HF' := hide hF'
    clear hT hbc hbv hbk hF'
    go_wp2
    go_cut [8, 9] (fun s9 s10 wd => (∃ ao c, s9 = .slice ao t.length c) ∧ TextsAt wd s9 t ∧ s10 = .int .i64 er ∧ TextsAt wd (.slice vo t.length vc) t ∧ (∀ k, (Value.slice vo t.length vc).ownBlock = some k → w.heap.size ≤ k ∧ k < wd.heap.size) ∧ Ext X w wd ∧ ∃ F' G', (∀ k, (Value.slice vo t.length vc).ownBlock = some k → ¬ F' k ∧ ¬ G' k) ∧ TwoIs wd X b s r F' G' st2 st2)
    case first =>
      go_region_with (go_at_call 115; refine (rlist_any (F := G) (st := st) fid ?_ Hok.out Hu.out ?_ hnod).mono ?_; exact HT.out.ref.drew; exact (fun k hk => (HT.out.lo k (.inr hk)).2); rintro e w3 he3; rw [HM.out] at he3; obtain ⟨v, rfl, hv3, hk3, hr3, hx3⟩ := he3; have HV3 := hide hv3; have HR3 := hide hr3; have HX3 := hide hx3; clear hv3 hk3 hr3 hx3)
      all_goals go_wp2
      all_goals go_meet
      all_goals
        have hT3 := (HT.out.below ((Below.refl _ wc).drew)).refStep' HR3.out (fun k hk => .inl hk) HX3.out
        have e3 := HX3.out.weak (fun k hk => (HT.out.lo k (.inr hk)).1)
        have hnG : ∀ k, (Value.slice vo t.length vc).ownBlock = some k → ¬ G k := fun k hk hG => by have := (H.out.lo k (.inr hG)).2; have := (HBk.out k hk).1; omega
        exact ⟨HV3.out.form, HV3.out, rfl, Own.keptBlock HBv.out.drew (fun k hk => HX3.out.block k (HBk.out k hk).2 (hnG k hk)), fun k hk => ⟨(HBk.out k hk).1, Nat.lt_of_lt_of_le (HBk.out k hk).2 HX3.out.size⟩, HBc.out.trans' (((Ext.refl X wc).drew).trans' e3), _, _, fun k hk => ⟨HF'.out k hk, fun q => hnG k hk q⟩, hT3⟩
    case rest =>
      obtain ⟨⟨wo, wc2, rfl⟩, hwv, rfl, hbv, hbk, hbd, F2, G2, hFG, hT⟩ := hcut
      have HT2 := hide hT
      have HBd := hide hbd
      have HBv2 := hide hbv
      have HBk2 := hide hbk
      have HFG := hide hFG
      have q5 : (er == er) = true := by simp
      have hml : t.length ≤ maxLen := by unfold maxLen; omega
      have hms : ∀ s ∈ t, s.size ≤ maxLen := fun s hs => by have := Hnm.out s hs; unfold maxLen; omega
      have HSame := hide (same_any t vo vc wo wc2 (namesAt_of_own hbv hml hms) (namesAt_of_own hwv hml hms))
      clear hT hbd hbv hbk hFG hwv hml hms
      go_wp2_with (first | (go_at_call 116; refine HSame.out.mono ?_; rintro e w4 ⟨rfl, hb4⟩; have HB4 := hide hb4; clear hb4) | (go_at_call 27; refine (num_any _ _).mono ?_; rintro e w' ⟨rfl, hw⟩; obtain rfl := hw.symm))
      go_ret2
      exact ⟨vo, vc, by simp, Own.keptBlock HBv2.out (fun k hk => HB4.out.block k (HBk2.out k hk).2), fun k hk => ⟨(HBk2.out k hk).1, Nat.lt_of_lt_of_le (HBk2.out k hk).2 HB4.out.size⟩, ⟨s, r, F2, G2, (HT2.out.below HB4.out).less (fun k hk => ⟨(HT2.out.lo k hk).1, fun q => by rcases hk with hk | hk; exact (HFG.out k q).1 hk; exact (HFG.out k q).2 hk⟩) (fun k hk => ⟨HT2.out.up k (Nat.le_trans HB4.out.size hk), fun q => by have := (HBk2.out k q).2; have := HB4.out.size; have : w4.heap.size ≤ k := hk; omega⟩)⟩, HBd.out.trans' (Ext.below HB4.out)⟩
end Go.Proofs.YtdmdgnghaceibaaGreat.P
/- One step of a script, over both halves: Read, Write, List, Stat, Remove. -/
namespace Go.Proofs.YtdmdgnghaceibaaGreat.P
open M Go.ChangeShapes Go.WideShapes Go.ChangeAt Go.RowKit
set_option linter.unusedVariables false

theorem BothIs.more {w : World} {X Y : Nat → Prop} {b : Nat} {st : St} (h : BothIs w X b st) (hX : ∀ k, X k → Y k) : BothIs w Y b st := by
  obtain ⟨s, r, F, G, h⟩ := h
  exact ⟨s, r, F, G, h.less (fun k hk => hX k (h.lo k hk).1) (fun k hk => hX k (h.up k hk))⟩

set_option maxRecDepth 20000 in
set_option maxHeartbeats 1000000 in
theorem step_remove {w : World} {X : Nat → Prop} {b : Nat} {st : St} (k fid a bb : Int) (text : ByteArray) (yes : Bool) (ao : Option Addr) (nl nc : Nat) (h : BothIs w X b st) (ok : POk st) (T : Treed st) (hnod : st.nodes.length ≤ 1700000000000) :
    Calls Tryz.prog 29 #[.pointer (some ⟨b, 0, none⟩), .agg #[.int .i64 10, .int .i64 k, .int .i64 fid, .int .i64 a, .int .i64 bb, .string text, .bool yes, .slice ao nl nc]] w fun e w' => e = .returned (.bool true) ∧ BothIs w' X b (mRemove st fid).1 ∧ Ext X w w' := by
  have HC := hide (turned_remove k fid a bb text yes ao nl nc (h.below ((Below.refl _ w).alloc (Nat.le_refl _) (.cells #[.int .i64 10, .int .i64 k, .int .i64 fid, .int .i64 a, .int .i64 bb, .string text, .bool yes, .slice ao nl nc] 57))) ok T hnod)
  clear h T
  go_enter Tryz.func29, Tryz.ntmps29
  go_wp2_with (go_at_call 65; refine HC.out.mono ?_; rintro e w2 ⟨rfl, h2, hb2⟩; have H2 := hide h2; have HB2 := hide hb2; clear h2 hb2)
  go_ret
  exact ⟨rfl, H2.out, (Ext.below ((Below.refl _ w).alloc (Nat.le_refl _) _)).trans' HB2.out⟩

set_option maxRecDepth 20000 in
set_option maxHeartbeats 1000000 in
theorem step_stat {w : World} {X : Nat → Prop} {b : Nat} {st : St} (k fid a bb : Int) (text : ByteArray) (yes : Bool) (ao : Option Addr) (nl nc : Nat) (h : BothIs w X b st) (ok : POk st) (hsm : ∀ x ∈ st.nodes, x.data.size ≤ 300) :
    Calls Tryz.prog 29 #[.pointer (some ⟨b, 0, none⟩), .agg #[.int .i64 9, .int .i64 k, .int .i64 fid, .int .i64 a, .int .i64 bb, .string text, .bool yes, .slice ao nl nc]] w fun e w' => e = .returned (.bool true) ∧ BothIs w' X b (tick st) ∧ Ext X w w' := by
  have HC := hide (stated_any fid (h.below ((Below.refl _ w).alloc (Nat.le_refl _) (.cells #[.int .i64 9, .int .i64 k, .int .i64 fid, .int .i64 a, .int .i64 bb, .string text, .bool yes, .slice ao nl nc] 57))) ok hsm)
  rw [mStat_tick] at HC
  clear h hsm
  go_enter Tryz.func29, Tryz.ntmps29
  go_wp2_with (go_at_call 70; refine HC.out.mono ?_; rintro e w2 ⟨rfl, h2, hb2⟩; have H2 := hide h2; have HB2 := hide hb2; clear h2 hb2)
  go_ret
  exact ⟨rfl, H2.out, (Ext.below ((Below.refl _ w).alloc (Nat.le_refl _) _)).trans' HB2.out⟩

set_option maxRecDepth 20000 in
set_option maxHeartbeats 1000000 in
theorem step_read {w : World} {X : Nat → Prop} {b : Nat} {st : St} (k fid a bb : Int) (text : ByteArray) (yes : Bool) (ao : Option Addr) (nl nc : Nat) (h : BothIs w X b st) (ok : POk st) (hsm : ∀ x ∈ st.nodes, x.data.size ≤ 300) :
    Calls Tryz.prog 29 #[.pointer (some ⟨b, 0, none⟩), .agg #[.int .i64 6, .int .i64 k, .int .i64 fid, .int .i64 a, .int .i64 bb, .string text, .bool yes, .slice ao nl nc]] w fun e w' => e = .returned (.bool true) ∧ BothIs w' X b (tick st) ∧ Ext X w w' := by
  have HC := hide (bread_any k fid a bb text yes ao nl nc (h.below ((Below.refl _ w).alloc (Nat.le_refl _) (.cells #[.int .i64 6, .int .i64 k, .int .i64 fid, .int .i64 a, .int .i64 bb, .string text, .bool yes, .slice ao nl nc] 57))) ok hsm)
  rw [mRead_tick] at HC
  clear h hsm
  go_enter Tryz.func29, Tryz.ntmps29
  go_wp2_with (go_at_call 67; refine HC.out.mono ?_; rintro e w2 ⟨vo, vn, vc, rfl, _, _, h2, hb2⟩; have H2 := hide (h2.more (fun k hk => hk.1)); have HB2 := hide hb2; clear h2 hb2)
  go_ret
  exact ⟨rfl, H2.out, (Ext.below ((Below.refl _ w).alloc (Nat.le_refl _) _)).trans' HB2.out⟩

set_option maxRecDepth 20000 in
set_option maxHeartbeats 1000000 in
theorem step_list {w : World} {X : Nat → Prop} {b : Nat} {st : St} (k fid a bb : Int) (text : ByteArray) (yes : Bool) (ao : Option Addr) (nl nc : Nat) (h : BothIs w X b st) (ok : POk st) (hu : UniqL st.nodes) (hnod : st.nodes.length ≤ 1700000000000) :
    Calls Tryz.prog 29 #[.pointer (some ⟨b, 0, none⟩), .agg #[.int .i64 8, .int .i64 k, .int .i64 fid, .int .i64 a, .int .i64 bb, .string text, .bool yes, .slice ao nl nc]] w fun e w' => e = .returned (.bool true) ∧ BothIs w' X b (tick st) ∧ Ext X w w' := by
  have HC := hide (blist_any k fid a bb text yes ao nl nc (h.below ((Below.refl _ w).alloc (Nat.le_refl _) (.cells #[.int .i64 8, .int .i64 k, .int .i64 fid, .int .i64 a, .int .i64 bb, .string text, .bool yes, .slice ao nl nc] 57))) ok hu hnod)
  rw [mList_tick] at HC
  clear h hu
  go_enter Tryz.func29, Tryz.ntmps29
  go_wp2_with (go_at_call 69; refine HC.out.mono ?_; rintro e w2 ⟨vo, vc, rfl, _, _, h2, hb2⟩; have H2 := hide (h2.more (fun k hk => hk.1)); have HB2 := hide hb2; clear h2 hb2)
  go_ret
  exact ⟨rfl, H2.out, (Ext.below ((Below.refl _ w).alloc (Nat.le_refl _) _)).trans' HB2.out⟩

set_option maxRecDepth 20000 in
set_option maxHeartbeats 1000000 in
theorem step_write {w : World} {X : Nat → Prop} {b : Nat} {st : St} (k fid a bb : Int) (text : ByteArray) (yes : Bool) (ao : Option Addr) (nl nc : Nat) (h : BothIs w X b st) (ok : POk st) (hsm : ∀ x ∈ st.nodes, x.data.size ≤ 300) (ha : a ≤ 9223372036854775807) (ht : text.size ≤ 140737488355328) :
    Calls Tryz.prog 29 #[.pointer (some ⟨b, 0, none⟩), .agg #[.int .i64 7, .int .i64 k, .int .i64 fid, .int .i64 a, .int .i64 bb, .string text, .bool yes, .slice ao nl nc]] w fun e w' => e = .returned (.bool true) ∧ BothIs w' X b (mWrite st fid a text).1 ∧ Ext X w w' := by
  obtain ⟨W0, hW0⟩ : ∃ W0, W0 = (w.alloc (.cells #[.int .i64 7, .int .i64 k, .int .i64 fid, .int .i64 a, .int .i64 bb, .string text, .bool yes, .slice ao nl nc] 57)) := ⟨_, rfl⟩
  have HB0 := hide (show Below w.heap.size w W0 by rw [hW0]; exact (Below.refl _ w).alloc (Nat.le_refl _) _)
  have HZ0 := hide (show W0.heap.size = w.heap.size + 1 by rw [hW0]; simp)
  have x5 : W0.cell? ⟨w.heap.size, 5, none⟩ = some (.string text) := by rw [hW0]; simp
  obtain ⟨c, o, hrun, hsrc⟩ := bytes_laid W0 text
  obtain ⟨s, r, F, G, hT⟩ := h
  have HB1 := hide (show Below w.heap.size w (W0.drew.alloc o) from (HB0.out.drew).alloc (by have := HZ0.out; show w.heap.size ≤ W0.heap.size; omega) o)
  -- the bytes' own block is not of the halves
  have hY : BothIs (W0.drew.alloc o) (fun q => X q ∧ q ≠ W0.heap.size) b st := ⟨s, r, F, G, (hT.below HB1.out).less (fun q hq => ⟨(hT.lo q hq).1, fun e => by have := (hT.lo q hq).2; have := HZ0.out; omega⟩) (fun q hq => by
    have hz : W0.heap.size + 1 ≤ q := by simpa using hq
    exact ⟨hT.up q (by have := HZ0.out; omega), by omega⟩)⟩
  have HC := hide (written_any k fid a bb text yes ao nl nc (some ⟨W0.heap.size, 0, none⟩) c hY ok hsm ha ht hsrc (fun q hq _ hX => by cases hq; exact hX.2 rfl))
  rw [HZ0.out, show W0.drew.alloc o = (W0.alloc o).drew from rfl] at HC
  have hz0 := HZ0.out
  rw [hW0] at hrun x5 hz0
  rw [hz0] at hrun
  have HW0 := hide hW0
  clear hT hsrc hY hW0 hsm hz0
  go_enter Tryz.func29, Tryz.ntmps29
  go_wp2_with fail
  rw [← HW0.out]
  refine HC.out.mono ?_
  rintro e w2 ⟨rfl, h2, hb2⟩
  have H2 := hide (h2.more (fun k hk => hk.1))
  have HB2 := hide (hb2.weak (X := X) (fun k hk => hk.1))
  clear h2 hb2
  go_wp2
  go_ret
  exact ⟨rfl, H2.out, (Ext.below HB1.out).trans' HB2.out⟩
end Go.Proofs.YtdmdgnghaceibaaGreat.P
/- The document's own answer, more: what lies over a directory. -/
namespace Go.Proofs.YtdmdgnghaceibaaGreat.M

def others (d : Nat) (l : List Laid) : List Laid := l.filter (fun x => !(x.onto == d))
def mLay (st : St) (d : Nat) (row : List Member) : St := { st with laid := others d st.laid ++ (if 0 < row.length then [⟨d, row⟩] else []) }

theorem others_snoc (d : Nat) (l : List Laid) (k : Nat) (x : Laid) (hx : l[k]? = some x) : others d (l.take (k + 1)) = others d (l.take k) ++ (if x.onto == d then [] else [x]) := by
  have hlt := lt_of_getElem? hx
  have e : l[k] = x := by rw [List.getElem?_eq_getElem hlt] at hx; exact Option.some.inj hx
  rw [List.take_succ_eq_append_getElem hlt, e]
  unfold others
  rw [List.filter_append]
  cases h : (x.onto == d) <;> simp [h]

theorem others_le (d : Nat) (l : List Laid) (k : Nat) : (others d (l.take k)).length ≤ k := by
  unfold others
  exact Nat.le_trans (List.length_filter_le _ _) (List.length_take_le _ _)
end Go.Proofs.YtdmdgnghaceibaaGreat.M
/- The document's own answer, more: Bind, Unbind. -/
namespace Go.Proofs.YtdmdgnghaceibaaGreat.M

def mUnbind (st : St) (n : Int) : St × Int :=
  match find st n with
  | none => (tick st, 2)
  | some i => match st.fids[i]? with
    | none => (tick st, 2)
    | some f => if isGone st (nodeOf f) then (tick st, 4) else if isDir st (nodeOf f) then
        (if st.laid.any (fun l => l.onto == nodeOf f) then (mLay (tick st) (nodeOf f) [], 0) else (tick st, 7))
      else (tick st, 5)

theorem any_laid_snoc {l : List Laid} {k : Nat} {x : Laid} (p : Laid → Bool) (hs : l[k]? = some x) (ha : (l.take k).any p = false) (hp : p x = false) : (l.take (k + 1)).any p = false := by
  have hlt := lt_of_getElem? hs
  have e : l[k] = x := by rw [List.getElem?_eq_getElem hlt] at hs; exact Option.some.inj hs
  rw [List.take_succ_eq_append_getElem hlt, List.any_append, ha, e]
  simp [hp]
theorem any_laid_hit {l : List Laid} {k : Nat} {x : Laid} (p : Laid → Bool) (hs : l[k]? = some x) (hp : p x = true) : l.any p = true :=
  List.any_eq_true.2 ⟨x, List.mem_of_getElem? hs, hp⟩
end Go.Proofs.YtdmdgnghaceibaaGreat.M
/- The document's own answer, more: Bind. -/
namespace Go.Proofs.YtdmdgnghaceibaaGreat.M

/-- The row that a Bind would make. -/
def boundRow (st : St) (a b : Nat) (how : Int) : List Member :=
  if how = 0 ∨ how = 4 then [⟨a, decide (4 ≤ how)⟩] else if how = 1 ∨ how = 5 then ⟨a, decide (4 ≤ how)⟩ :: rowOf st b else rowOf st b ++ [⟨a, decide (4 ≤ how)⟩]

def howOk (how : Int) : Bool := decide (how = 0 ∨ how = 1 ∨ how = 2 ∨ how = 4 ∨ how = 5 ∨ how = 6)

def mBind (st : St) (n onto how : Int) : St × Int :=
  match find st n, find st onto with
  | some i, some k => match st.fids[i]?, st.fids[k]? with
    | some f, some g =>
      if isGone st (nodeOf f) || isGone st (nodeOf g) then (tick st, 4)
      else if !isDir st (nodeOf f) || !isDir st (nodeOf g) then (tick st, 5)
      else if howOk how then (if 6 < (boundRow st (nodeOf f) (nodeOf g) how).length then (tick st, 11) else (mLay (tick st) (nodeOf g) (boundRow st (nodeOf f) (nodeOf g) how), 0))
      else (tick st, 1)
    | _, _ => (tick st, 2)
  | _, _ => (tick st, 2)
end Go.Proofs.YtdmdgnghaceibaaGreat.M
