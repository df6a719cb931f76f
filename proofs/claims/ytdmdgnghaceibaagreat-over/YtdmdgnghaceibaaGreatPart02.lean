/- The program's 'enter', 'leave', 'Calls'. -/
import Derived.Test.YtdmdgnghaceibaaGreatPart01
import Derived.Lib.SliceRun
import Derived.Deep.RegionWith
namespace Go.Proofs.YtdmdgnghaceibaaGreat.P
open M Go.ChangeShapes Go.WideShapes Go.ChangeAt Go.RowKit
set_option linter.unusedVariables false

theorem cell_other (w : World) (b i j : Nat) (u : Value) (h : i ≠ j) : (w.setCell ⟨b, i, none⟩ u).cell? ⟨b, j, none⟩ = w.cell? ⟨b, j, none⟩ := World.cell?_setCell_other w ⟨b, i, none⟩ ⟨b, j, none⟩ u (fun e => h (congrArg Addr.off e))
theorem cell_same (w : World) (b i : Nat) (u v : Value) (h : w.cell? ⟨b, i, none⟩ = some v) : (w.setCell ⟨b, i, none⟩ u).cell? ⟨b, i, none⟩ = some u := World.cell?_setCell_same w _ _ h
theorem fz_set (w : World) (a b : Addr) (u : Value) (h : w.frozen? b = false) : (w.setCell a u).frozen? b = false := by rw [World.frozen?_setCell]; exact h

section
variable {w : World} {F : Nat → Prop} {s t : Nat} {st : St} {lk : Int} {L : Lay} {bv : Nat → Value}

/-- A cell of the Server's own block turns nothing else. -/
theorem keep_srv (h : Blk w F s 110) (j : Nat) (u : Value) : KeepX inT True F w (w.setCell ⟨s, j, none⟩ u) :=
  (KeepX.refl _ _ _ _).setTy (a := ⟨s, j, none⟩) h.ty (by simp [inT, treeT, placeT]) u

/-- Cells ahead of the fids. -/
theorem SrvHas.fidsPut (h : SrvHas w F s st lk t L bv) (j : Nat) (hj : j < 7) (u : Value) (st' : St) (hf : st'.fids = st.fids) : ∀ n : Nat, n < 51 → StandIs (w.setCell ⟨s, j, none⟩ u) F L s n (fidAt st' n) := by
  intro n hn
  have e : fidAt st' n = fidAt st n := by unfold fidAt; rw [hf]
  rw [e]
  exact (h.fids n hn).kept (keep_srv h.blk j u) (by simp [inT, placeT]) (by simp [inT, placeT]) (cell_other _ _ _ _ _ (by omega)) (cell_other _ _ _ _ _ (by omega))

theorem SrvHas.lock (h : SrvHas w F s st lk t L bv) (k : Int) : SrvHas (w.setCell ⟨s, 3, none⟩ (.int .i32 k)) F s st k t L bv :=
  have hk := keep_srv h.blk 3 (.int .i32 k)
  ⟨h.blk.setCell _ _, (cell_other _ _ _ _ _ (by decide)).trans h.k0, (cell_other _ _ _ _ _ (by decide)).trans h.k1, cell_same _ _ _ _ _ h.k3, (cell_other _ _ _ _ _ (by decide)).trans h.k5, (cell_other _ _ _ _ _ (by decide)).trans h.k6,
    h.fidsPut 3 (by decide) _ st rfl, h.tree.kept (hk.weak (fun _ h => .inl h) (fun h => h))⟩

theorem SrvHas.tick (h : SrvHas w F s st lk t L bv) : SrvHas (w.setCell ⟨s, 5, none⟩ (.int .i64 (wrap64 (st.calls + 1)))) F s (tick st) lk t L bv :=
  have hk := keep_srv h.blk 5 (.int .i64 (wrap64 (st.calls + 1)))
  ⟨h.blk.setCell _ _, (cell_other _ _ _ _ _ (by decide)).trans h.k0, (cell_other _ _ _ _ _ (by decide)).trans h.k1, (cell_other _ _ _ _ _ (by decide)).trans h.k3, cell_same _ _ _ _ _ h.k5, (cell_other _ _ _ _ _ (by decide)).trans h.k6,
    h.fidsPut 5 (by decide) _ (M.tick st) rfl, (h.tree.kept (hk.weak (fun _ h => .inl h) (fun h => h))).same rfl rfl⟩
end

def entered (w : World) (s : Nat) (c : Int) : World := (w.setCell ⟨s, 3, none⟩ (.int .i32 1)).setCell ⟨s, 5, none⟩ (.int .i64 (wrap64 (c + 1)))

set_option maxRecDepth 20000 in
set_option maxHeartbeats 800000 in
theorem enter_made {w : World} {s : Nat} {c : Int} (h0 : w.cell? ⟨s, 0, none⟩ = some (.int .u32 1)) (h3 : w.cell? ⟨s, 3, none⟩ = some (.int .i32 0)) (h5 : w.cell? ⟨s, 5, none⟩ = some (.int .i64 c)) (fz : ∀ j, w.frozen? ⟨s, j, none⟩ = false) :
    Calls Tryz.prog 42 #[.pointer (some ⟨s, 0, none⟩)] w fun e w' => e = .returned (.tuple #[]) ∧ w' = entered w s c := by
  have hmf : ∀ (fn : Fn) (first cap : Array Value) (w : World), (Instr.makeFunc fn first cap).run Tryz.prog w = .ok (.func fn first cap) w := fun _ _ _ _ => rfl
  have g5 : (w.setCell ⟨s, 3, none⟩ (.int .i32 1)).cell? ⟨s, 5, none⟩ = some (.int .i64 c) := (cell_other _ _ _ _ _ (by decide)).trans h5
  go_enter Tryz.func42, Tryz.ntmps42
  go_wp2_with (first | (go_at_call 79; refine (do_done ⟨s, 0, none⟩ 1 (by decide) _ _ h0).mono ?_; rintro e w' ⟨rfl, hw⟩; obtain rfl := hw.symm) | (go_at_call 81; refine (Go.MuLone.lock_free muLib ⟨s, 3, none⟩ _ h3 (fz 3)).mono ?_; rintro e w' ⟨rfl, rfl⟩) | (go_at_call 82; refine (add_any ⟨s, 5, none⟩ c _ g5 (fz_set _ _ _ _ (fz 5))).mono ?_; rintro e w' ⟨rfl, rfl⟩))
  go_end0
  exact ⟨rfl, rfl⟩

theorem once_cell (w : World) (s j : Nat) (hs : s < w.heap.size) (h0 : j ≠ 0) (h1 : j ≠ 1) (h6 : j ≠ 6) : (onced w s).cell? ⟨s, j, none⟩ = w.cell? ⟨s, j, none⟩ := by
  unfold onced
  rw [cell_other _ _ _ _ _ h1.symm, cell_other _ _ _ _ _ h0.symm, World.cell?_drew, plant_cell _ _ _ h6 (by simpa using hs), cell_other _ _ _ _ _ h1.symm]
theorem once_fz (w : World) (s j : Nat) (hs : s < w.heap.size) : (onced w s).frozen? ⟨s, j, none⟩ = w.frozen? ⟨s, j, none⟩ := by
  unfold onced
  rw [World.frozen?_setCell, World.frozen?_setCell, World.frozen?_drew, plant_fz _ _ _ (by simpa using hs), World.frozen?_setCell]

set_option maxRecDepth 20000 in
set_option maxHeartbeats 800000 in
theorem enter_fresh {w : World} {F : Nat → Prop} {s : Nat} (h : Fresh w F s) :
    Calls Tryz.prog 42 #[.pointer (some ⟨s, 0, none⟩)] w fun e w' => e = .returned (.tuple #[]) ∧ w' = entered (onced w s) s 0 := by
  have hs := h.blk.lt
  have fz := h.blk.fz
  have o3 : (onced w s).cell? ⟨s, 3, none⟩ = some (.int .i32 0) := (once_cell w s 3 hs (by decide) (by decide) (by decide)).trans h.k3
  have o5 : (onced w s).cell? ⟨s, 5, none⟩ = some (.int .i64 0) := (once_cell w s 5 hs (by decide) (by decide) (by decide)).trans h.k5
  have oz : ∀ j, (onced w s).frozen? ⟨s, j, none⟩ = false := fun j => (once_fz w s j hs).trans (fz j)
  have h0 := h.k0
  have h1 := h.k1
  have h6 := h.k6
  have hmf : ∀ (fn : Fn) (first cap : Array Value) (w : World), (Instr.makeFunc fn first cap).run Tryz.prog w = .ok (.func fn first cap) w := fun _ _ _ _ => rfl
  have g5 : ((onced w s).setCell ⟨s, 3, none⟩ (.int .i32 1)).cell? ⟨s, 5, none⟩ = some (.int .i64 0) := (cell_other _ _ _ _ _ (by decide)).trans o5
  go_enter Tryz.func42, Tryz.ntmps42
  go_wp2_with (first | (go_at_call 79; refine (do_first s _ _ h0 h1 h6 fz).mono ?_; rintro e w' ⟨rfl, rfl⟩) | (go_at_call 81; refine (Go.MuLone.lock_free muLib ⟨s, 3, none⟩ _ o3 (oz 3)).mono ?_; rintro e w' ⟨rfl, rfl⟩) | (go_at_call 82; refine (add_any ⟨s, 5, none⟩ 0 _ g5 (fz_set _ _ _ _ (oz 5))).mono ?_; rintro e w' ⟨rfl, rfl⟩))
  go_end0
  exact ⟨rfl, rfl⟩

theorem entered_ext {w : World} {F : Nat → Prop} {s : Nat} {c : Int} (h : F s) : Ext F w (entered w s c) := ((Ext.refl F w).setCell (.inl h) _).setCell (.inl h) _
theorem onced_ext {w : World} {F : Nat → Prop} {s : Nat} (h : F s) : Ext F w (onced w s) := by
  unfold onced planted
  exact ((((((((Ext.refl F w).setCell (.inl h) _).alloc _).alloc _).alloc _).setCell (.inl h) _).drew).setCell (.inl h) _).setCell (.inl h) _
theorem onced_size (w : World) (s : Nat) : (onced w s).heap.size = w.heap.size + 3 := by simp [onced, planted]

/-- Behind the Once the tree is there. -/
theorem onced_has {w : World} {F : Nat → Prop} {s : Nat} (h : Fresh w F s) : SrvHas (onced w s) (ext F w (onced w s)) s St0 0 (w.heap.size + 2) ⟨fun _ => w.heap.size + 1, fun _ => w.heap.size, fun _ => true⟩ (fun _ => .slice none 0 0) := by
  have hs := h.blk.lt
  have hF : ∀ k, k = w.heap.size ∨ k = w.heap.size + 1 ∨ k = w.heap.size + 2 → ext F w (onced w s) k := fun k hk => .inr (by rw [onced_size]; omega)
  have hsF : ext F w (onced w s) s := .inl h.blk.own
  -- the three new blocks
  have n1 : (w.setCell ⟨s, 1, none⟩ (.int .i32 1)).heap.size = w.heap.size := by simp
  have hb : ∀ k, k ≠ s → (onced w s).heap[k]? = (((((w.setCell ⟨s, 1, none⟩ (.int .i32 1)).alloc (.map #[] 0)).alloc (dirObj ⟨#[47]⟩ (.pointer none) w.heap.size)).alloc (treeObj (w.heap.size + 1)))).heap[k]? := fun k hk => by
    unfold onced planted
    rw [n1]
    refine (Below.heap_setCell _ _ _ k hk).trans ((Below.heap_setCell _ _ _ k hk).trans ?_)
    exact Below.heap_setCell _ _ _ k hk
  have b0 : (onced w s).heap[w.heap.size]? = some (.map #[] 0) := by
    rw [hb _ (by omega)]
    refine (Below.heap_alloc _ _ _ (by simp; omega)).trans ((Below.heap_alloc _ _ _ (by simp)).trans ?_)
    have := heap_alloc_new (w.setCell ⟨s, 1, none⟩ (.int .i32 1)) (.map #[] 0)
    rw [n1] at this
    exact this
  have b1 : (onced w s).heap[w.heap.size + 1]? = some (dirObj ⟨#[47]⟩ (.pointer none) w.heap.size) := by
    rw [hb _ (by omega)]
    refine (Below.heap_alloc _ _ _ (by simp)).trans ?_
    have := heap_alloc_new ((w.setCell ⟨s, 1, none⟩ (.int .i32 1)).alloc (.map #[] 0)) (dirObj ⟨#[47]⟩ (.pointer none) w.heap.size)
    rw [show ((w.setCell ⟨s, 1, none⟩ (.int .i32 1)).alloc (.map #[] 0)).heap.size = w.heap.size + 1 by simp] at this
    exact this
  have b2 : (onced w s).heap[w.heap.size + 2]? = some (treeObj (w.heap.size + 1)) := by
    rw [hb _ (by omega)]
    have := heap_alloc_new (((w.setCell ⟨s, 1, none⟩ (.int .i32 1)).alloc (.map #[] 0)).alloc (dirObj ⟨#[47]⟩ (.pointer none) w.heap.size)) (treeObj (w.heap.size + 1))
    rw [show (((w.setCell ⟨s, 1, none⟩ (.int .i32 1)).alloc (.map #[] 0)).alloc (dirObj ⟨#[47]⟩ (.pointer none) w.heap.size)).heap.size = w.heap.size + 2 by simp] at this
    exact this
  have sT : Ty (onced w s) s 110 := by
    unfold onced planted
    exact (((((((h.blk.ty.setCell _ _).alloc _).alloc _).alloc _).setCell _ _).drew).setCell _ _).setCell _ _
  have c := fun j h0 h1 h6 => once_cell w s j hs h0 h1 h6
  have k0 : (onced w s).cell? ⟨s, 0, none⟩ = some (.int .u32 1) := by
    unfold onced
    rw [cell_other _ _ _ _ _ (by decide)]
    refine cell_same _ _ _ _ (.int .u32 0) ?_
    rw [World.cell?_drew, plant_cell _ _ _ (by decide) (by simpa using hs), cell_other _ _ _ _ _ (by decide)]
    exact h.k0
  have k1 : (onced w s).cell? ⟨s, 1, none⟩ = some (.int .i32 0) := by
    unfold onced
    refine cell_same _ _ _ _ (.int .i32 1) ?_
    rw [cell_other _ _ _ _ _ (by decide), World.cell?_drew, plant_cell _ _ _ (by decide) (by simpa using hs)]
    exact cell_same _ _ _ _ _ h.k1
  have k6 : (onced w s).cell? ⟨s, 6, none⟩ = some (.pointer (some ⟨w.heap.size + 2, 0, none⟩)) := by
    unfold onced
    rw [cell_other _ _ _ _ _ (by decide), cell_other _ _ _ _ _ (by decide), World.cell?_drew]
    unfold planted
    rw [n1]
    exact cell_same _ _ _ _ _ (up3 ((cell_other _ _ _ _ _ (by decide)).trans h.k6) _ _ _)
  refine ⟨⟨sT, hsF⟩, k0, k1, (c 3 (by decide) (by decide) (by decide)).trans h.k3, (c 5 (by decide) (by decide) (by decide)).trans h.k5, k6, fun n hn => ?_, ?_⟩
  · have e : fidAt St0 n = none := rfl
    rw [e]
    exact ⟨(c _ (by omega) (by omega) (by omega)).trans (h.fids n hn).1, (c _ (by omega) (by omega) (by omega)).trans (h.fids n hn).2⟩
  · have one : ∀ i x, St0.nodes[i]? = some x → i = 0 ∧ x = root := fun i x hx => by
      have := M.lt_of_getElem? hx
      simp [St0] at this
      subst this
      simp [St0] at hx
      exact ⟨rfl, hx.symm⟩
    refine ⟨⟨⟨_, b2⟩, hF _ (by omega)⟩, by simp [World.cell?, b2, treeObj, dirPtr], by simp [World.cell?, b2, treeObj, St0, liveNodes, root], fun i x hx => ?_, fun i x hx hd => ?_, fun i x hx hd => ?_, fun i j hi hj _ => ?_, fun i j x y hx hy _ _ _ => ?_, fun i j x y k hx hy hd _ _ _ => ?_⟩
    · obtain ⟨rfl, rfl⟩ := one i x hx
      rfl
    · obtain ⟨rfl, rfl⟩ := one i x hx
      refine ⟨⟨⟨_, b1⟩, hF _ (.inr (.inl rfl))⟩, by simp [World.cell?, b1, dirObj, root], by simp [World.cell?, b1, dirObj, root, inV], by simp [World.cell?, b1, dirObj, root], by simp [World.cell?, b1, dirObj], hF _ (.inl rfl), ?_, .slice none 0 0, by simp [World.cell?, b1, dirObj], rfl⟩
      have hm := (MapIs.made w).kept (w' := onced w s) (b0.trans (heap_alloc_new w _).symm)
      refine (hm.mono (Nat.zero_le _)).congr (fun t _ => ?_)
      have : lies St0 0 t = none := by simp [lies, St0, liesHere, root]
      rw [this]
      rfl
    · obtain ⟨rfl, rfl⟩ := one i x hx
      simp [root] at hd
    · simp [St0] at hi hj
      omega
    · obtain ⟨rfl, _⟩ := one i x hx
      obtain ⟨rfl, _⟩ := one j y hy
      rfl
    · obtain ⟨rfl, rfl⟩ := one i x hx
      simp [root] at hd

def Enters (w : World) (F : Nat → Prop) (s : Nat) (st : St) (e : Ending) (w' : World) : Prop := e = .returned (.tuple #[]) ∧ Held w' (ext F w w') s (tick st) ∧ Ext F w w'

theorem entered_size (w : World) (s : Nat) (c : Int) : (entered w s c).heap.size = w.heap.size := by simp [entered]

theorem enter_any {w : World} {F : Nat → Prop} {s : Nat} {st : St} (h : SrvIs w F s st) :
    Calls Tryz.prog 42 #[.pointer (some ⟨s, 0, none⟩)] w fun e w' => Enters w F s st e w' := by
  rcases h with ⟨h, rfl⟩ | ⟨t, L, bv, h⟩
  · refine (enter_fresh h).mono ?_
    rintro e w' ⟨rfl, rfl⟩
    have hs := h.blk.own
    have ho := onced_has h
    have hm : SrvHas (entered (onced w s) s 0) (ext F w (entered (onced w s) s 0)) s (tick St0) 1 (w.heap.size + 2) ⟨fun _ => w.heap.size + 1, fun _ => w.heap.size, fun _ => true⟩ (fun _ => .slice none 0 0) :=
      SrvHas.mono (F := ext F w (onced w s)) ((ho.lock 1).tick) (ext_mono (by rw [entered_size]; exact Nat.le_refl _))
    exact ⟨rfl, ⟨_, _, _, hm⟩, (onced_ext hs).trans' (entered_ext hs)⟩
  · refine (enter_made h.k0 h.k3 h.k5 h.blk.fz).mono ?_
    rintro e w' ⟨rfl, rfl⟩
    refine ⟨rfl, ⟨t, L, bv, ?_⟩, entered_ext h.blk.own⟩
    exact SrvHas.mono (F := F) ((h.lock 1).tick) (fun k hk => .inl hk)

def left (w : World) (s : Nat) : World := w.setCell ⟨s, 3, none⟩ (.int .i32 0)

theorem leave_deferred {w : World} {F : Nat → Prop} {s : Nat} {st : St} (u : FrameMode) (h : Held w F s st) :
    CallsD Tryz.prog 43 #[.pointer (some ⟨s, 0, none⟩)] u w fun e u' w' => u' = u ∧ (e = .returned (.tuple #[]) ∧ w' = left w s) := by
  obtain ⟨t, L, bv, h⟩ := h
  have h3 := h.k3
  have fz := h.blk.fz 3
  go_enter_d Tryz.func43, Tryz.ntmps43
  go_wp2_with (go_at_call 83; refine (Go.MuLone.unlock_held muLib ⟨s, 3, none⟩ _ h3 fz).mono ?_; rintro e w' ⟨rfl, rfl⟩)
  go_end0
  exact ⟨rfl, rfl⟩

theorem Held.left {w : World} {F : Nat → Prop} {s : Nat} {st : St} (h : Held w F s st) : SrvIs (left w s) F s st := by
  obtain ⟨t, L, bv, h⟩ := h
  exact .inr ⟨t, L, bv, h.lock 0⟩
theorem Held.own {w : World} {F : Nat → Prop} {s : Nat} {st : St} (h : Held w F s st) : F s := by
  obtain ⟨t, L, bv, h⟩ := h
  exact h.blk.own
end Go.Proofs.YtdmdgnghaceibaaGreat.P
/- The program's small readers: isFid, standing, isGone, row, come. -/
namespace Go.Proofs.YtdmdgnghaceibaaGreat.P
open M Go.ChangeShapes Go.WideShapes Go.ChangeAt Go.RowKit
set_option linter.unusedVariables false

theorem isFid_any (n : Int) (w : World) : Calls Tryz.prog 44 #[.int .i64 n] w fun e w' => e = .returned (.bool (fidOk n)) ∧ w' = w := by
  by_cases h0 : 0 ≤ n
  · by_cases h1 : n ≤ 50
    · have H := hide (show fidOk n = true from decide_eq_true ⟨h0, h1⟩)
      go_enter Tryz.func44, Tryz.ntmps44
      go_wp2
      go_ret
      rw [H.out]
      exact ⟨rfl, rfl⟩
    · have H := hide (show fidOk n = false from decide_eq_false (fun h => h1 h.2))
      go_enter Tryz.func44, Tryz.ntmps44
      go_wp2
      go_ret
      rw [H.out]
      exact ⟨rfl, rfl⟩
  · have H := hide (show fidOk n = false from decide_eq_false (fun h => h0 h.1))
    go_enter Tryz.func44, Tryz.ntmps44
    go_wp2
    go_ret
    rw [H.out]
    exact ⟨rfl, rfl⟩

set_option maxRecDepth 20000 in
theorem standing_bad (s : Nat) (n : Int) (h : fidOk n = false) (w : World) : Calls Tryz.prog 45 #[.pointer (some ⟨s, 0, none⟩), .int .i64 n] w fun e w' => e = .returned (.pointer none) ∧ w' = w := by
  have hnot : ∀ (x : Bool) (w : World), (Op.unary .not (.bool x)).run Tryz.prog w = .ok (.bool (!x)) w := fun _ _ => rfl
  go_enter Tryz.func45, Tryz.ntmps45
  go_wp2_with (go_at_call 44; refine (isFid_any _ _).mono ?_; rintro e w' ⟨rfl, hw⟩; obtain rfl := hw.symm; rw [h])
  go_ret
  exact ⟨rfl, rfl⟩

set_option maxRecDepth 20000 in
theorem standing_none (s k : Nat) (hk : k < 51) (w : World) (h7 : w.cell? ⟨s, 7 + k * 2, none⟩ = some (.pointer none)) : Calls Tryz.prog 45 #[.pointer (some ⟨s, 0, none⟩), .int .i64 k] w fun e w' => e = .returned (.pointer none) ∧ w' = w := by
  have hnot : ∀ (x : Bool) (w : World), (Op.unary .not (.bool x)).run Tryz.prog w = .ok (.bool (!x)) w := fun _ _ => rfl
  have hok : fidOk k = true := decide_eq_true (by omega)
  go_enter Tryz.func45, Tryz.ntmps45
  go_wp2_with (go_at_call 44; refine (isFid_any _ _).mono ?_; rintro e w' ⟨rfl, hw⟩; obtain rfl := hw.symm; rw [hok])
  go_ret
  exact ⟨rfl, rfl⟩

set_option maxRecDepth 20000 in
theorem standing_some (s k p : Nat) (hk : k < 51) (w : World) (h7 : w.cell? ⟨s, 7 + k * 2, none⟩ = some (.pointer (some ⟨p, 0, none⟩))) : Calls Tryz.prog 45 #[.pointer (some ⟨s, 0, none⟩), .int .i64 k] w fun e w' => e = .returned (.pointer (some ⟨s, 7 + k * 2, none⟩)) ∧ w' = w := by
  have hnot : ∀ (x : Bool) (w : World), (Op.unary .not (.bool x)).run Tryz.prog w = .ok (.bool (!x)) w := fun _ _ => rfl
  have hok : fidOk k = true := decide_eq_true (by omega)
  go_enter Tryz.func45, Tryz.ntmps45
  go_wp2_with (go_at_call 44; refine (isFid_any _ _).mono ?_; rintro e w' ⟨rfl, hw⟩; obtain rfl := hw.symm; rw [hok])
  go_ret
  exact ⟨rfl, rfl⟩

/-- A fid of a number: none, or there. -/
theorem fid_cases {w : World} {F : Nat → Prop} {s t : Nat} {st : St} {lk : Int} {L : Lay} {bv : Nat → Value} (h : SrvHas w F s st lk t L bv) (ok : FidsOk st) (n : Int) :
    (find st n = none ∧ ((fidOk n = false) ∨ ∃ k : Nat, n = k ∧ k < 51 ∧ w.cell? ⟨s, 7 + k * 2, none⟩ = some (.pointer none) ∧ w.cell? ⟨s, 7 + k * 2 + 1, none⟩ = some (.bool false))) ∨
    ∃ (k i : Nat) (f : Fid) (p : Nat), n = (k : Int) ∧ k < 51 ∧ find st n = some i ∧ st.fids[i]? = some f ∧ f.n = n ∧ fidAt st n = some f ∧ w.cell? ⟨s, 7 + k * 2, none⟩ = some (.pointer (some ⟨p, 0, none⟩)) ∧ w.cell? ⟨s, 7 + k * 2 + 1, none⟩ = some (.bool f.op) ∧ PlaceIs w F L p f.way.reverse := by
  cases hf : find st n with
  | none =>
    refine .inl ⟨rfl, ?_⟩
    cases ho : fidOk n with
    | false => exact .inl rfl
    | true =>
      have := of_decide_eq_true ho
      obtain ⟨k, rfl⟩ := Int.eq_ofNat_of_zero_le this.1
      have hs := h.fids k (by omega)
      rw [fidAt_none hf] at hs
      exact .inr ⟨k, rfl, by omega, hs.1, hs.2⟩
  | some i =>
    obtain ⟨f, hi, hn, ha⟩ := fidAt_find hf
    have hsm := ok.small f (List.mem_of_getElem? hi)
    rw [hn] at hsm
    obtain ⟨k, rfl⟩ := Int.eq_ofNat_of_zero_le hsm.1
    have hs := h.fids k (by omega)
    rw [ha] at hs
    obtain ⟨p, c7, c8, hp⟩ := hs
    exact .inr ⟨k, i, f, p, rfl, by omega, rfl, hi, hn, ha, c7, c8, hp⟩

theorem isGone_any (b : Nat) (g : Bool) (w : World) (h : w.cell? ⟨b, 2, none⟩ = some (.bool g)) : Calls Tryz.prog 94 #[.pointer (some ⟨b, 0, none⟩)] w fun e w' => e = .returned (.bool g) ∧ w' = w := by
  go_enter Tryz.func94, Tryz.ntmps94
  go_wp2
  go_ret
  exact ⟨rfl, rfl⟩

theorem called_any (b : Nat) (name : ByteArray) (w : World) (h : w.cell? ⟨b, 0, none⟩ = some (.string name)) : Calls Tryz.prog 245 #[.pointer (some ⟨b, 0, none⟩)] w fun e w' => e = .returned (.string name) ∧ w' = w := by
  go_enter Tryz.func245, Tryz.ntmps245
  go_wp2
  go_ret
  exact ⟨rfl, rfl⟩

theorem liesIn_any (b : Nat) (q : Option Addr) (w : World) (h : w.cell? ⟨b, 1, none⟩ = some (.pointer q)) : Calls Tryz.prog 247 #[.pointer (some ⟨b, 0, none⟩)] w fun e w' => e = .returned (.pointer q) ∧ w' = w := by
  go_enter Tryz.func247, Tryz.ntmps247
  go_wp2
  go_ret
  exact ⟨rfl, rfl⟩

theorem rowNil (w : World) (a : Option Addr) (n c n' c' : Nat) : (binOp .eql 117 (.slice a n c) (.slice none n' c')).run Tryz.prog w = .ok (.bool a.isNone) w := Lib.run_eql_slice_nil w _ _ a n c n' c' Tryz.underlying117

set_option maxRecDepth 20000 in
/-- 'row' of a directory onto which nothing is bound. -/
theorem row_own (b : Nat) (w : World) (h : w.cell? ⟨b, 4, none⟩ = some (.slice none 0 0)) : Calls Tryz.prog 84 #[.pointer (some ⟨b, 0, none⟩)] w fun e w' => e = .returned (.slice (some ⟨w.heap.size, 0, none⟩) 1 1) ∧ w' = w.alloc (.cells #[.pointer (some ⟨b, 0, none⟩), .bool true] 165) := by
  have q := rowNil
  go_enter Tryz.func84, Tryz.ntmps84
  go_wp2
  go_ret
  exact ⟨rfl, rfl⟩

set_option maxRecDepth 20000 in
theorem row_bound (b : Nat) (a : Addr) (n c : Nat) (w : World) (h : w.cell? ⟨b, 4, none⟩ = some (.slice (some a) n c)) : Calls Tryz.prog 84 #[.pointer (some ⟨b, 0, none⟩)] w fun e w' => e = .returned (.slice (some a) n c) ∧ w' = w := by
  have q := rowNil
  go_enter Tryz.func84, Tryz.ntmps84
  go_wp2
  go_ret
  exact ⟨rfl, rfl⟩

set_option maxRecDepth 20000 in
theorem giveUp_any (s k : Nat) (x y : Value) (w : World) (h7 : w.cell? ⟨s, 7 + k * 2, none⟩ = some x) (h8 : w.cell? ⟨s, 7 + k * 2 + 1, none⟩ = some y) (fz : ∀ j, w.frozen? ⟨s, j, none⟩ = false) : Calls Tryz.prog 57 #[.pointer (some ⟨s, 7 + k * 2, none⟩)] w fun e w' => e = .returned (.tuple #[]) ∧ w' = (w.setCell ⟨s, 7 + k * 2, none⟩ (.pointer none)).setCell ⟨s, 7 + k * 2 + 1, none⟩ (.bool false) := by
  have f0 := fz (7 + k * 2)
  have f1 : (w.setCell ⟨s, 7 + k * 2, none⟩ (.pointer none)).frozen? ⟨s, 7 + k * 2 + 1, none⟩ = false := fz_set _ _ _ _ (fz _)
  have g8 : (w.setCell ⟨s, 7 + k * 2, none⟩ (.pointer none)).cell? ⟨s, 7 + k * 2 + 1, none⟩ = some y := (cell_other _ _ _ _ _ (by omega)).trans h8
  go_enter Tryz.func57, Tryz.ntmps57
  go_wp2
  go_end0
  exact ⟨rfl, rfl⟩
end Go.Proofs.YtdmdgnghaceibaaGreat.P
/- The program's 'come'. -/
namespace Go.Proofs.YtdmdgnghaceibaaGreat.P
open M Go.ChangeShapes Go.WideShapes Go.ChangeAt Go.RowKit
set_option linter.unusedVariables false

theorem asDir (b : Nat) (w : World) : (Instr.typeAssert (.iface 87 (.pointer (some ⟨b, 0, none⟩))) 115 87 true).run Tryz.prog w = .ok (.tuple #[.pointer (some ⟨b, 0, none⟩), .bool true]) w := by kernel_rfl
theorem notDir (b : Nat) (w : World) : (Instr.typeAssert (.iface 122 (.pointer (some ⟨b, 0, none⟩))) 115 87 true).run Tryz.prog w = .ok (.tuple #[.pointer none, .bool false]) w := by kernel_rfl
theorem asFile (b : Nat) (w : World) : (Instr.typeAssert (.iface 122 (.pointer (some ⟨b, 0, none⟩))) 115 122 true).run Tryz.prog w = .ok (.tuple #[.pointer (some ⟨b, 0, none⟩), .bool true]) w := by kernel_rfl
theorem notFile (b : Nat) (w : World) : (Instr.typeAssert (.iface 87 (.pointer (some ⟨b, 0, none⟩))) 115 122 true).run Tryz.prog w = .ok (.tuple #[.pointer none, .bool false]) w := by kernel_rfl

def placeObj (nv rv : Value) (q : Nat) : Obj := .cells #[nv, rv, .pointer (some ⟨q, 0, none⟩)] 119
def memObj (b : Nat) : Obj := .cells #[.pointer (some ⟨b, 0, none⟩), .bool true] 165
def dirI (b : Nat) : Value := .iface 87 (.pointer (some ⟨b, 0, none⟩))
def fileI (b : Nat) : Value := .iface 122 (.pointer (some ⟨b, 0, none⟩))
def fromV (q : Option Nat) : Value := .pointer (q.map (fun q => ⟨q, 0, none⟩))

set_option maxRecDepth 20000 in
theorem come_dirOwn (b : Nat) (q : Option Nat) (w : World) (h : w.cell? ⟨b, 4, none⟩ = some (.slice none 0 0)) :
    Calls Tryz.prog 46 #[.iface 87 (.pointer (some ⟨b, 0, none⟩)), fromV q] w fun e w' => e = .returned (.pointer (some ⟨w.heap.size, 0, none⟩)) ∧ w' = (w.alloc (placeObj (dirI b) (.slice (some ⟨w.heap.size + 1, 0, none⟩) 1 1) (q.getD w.heap.size))).alloc (memObj b) := by
  have ta := asDir
  cases q with
  | none =>
    have h4 := up h (.cells #[.iface 87 (.pointer (some ⟨b, 0, none⟩)), .slice none 0 0, .pointer none] 119)
    unfold fromV
    go_enter Tryz.func46, Tryz.ntmps46
    go_wp2_with (go_at_call 84; refine (row_own _ _ h4).mono ?_; rintro e w' ⟨rfl, rfl⟩)
    go_ret
    exact ⟨rfl, rfl⟩
  | some q =>
    have h4 := up h (.cells #[.iface 87 (.pointer (some ⟨b, 0, none⟩)), .slice none 0 0, .pointer (some ⟨q, 0, none⟩)] 119)
    unfold fromV
    go_enter Tryz.func46, Tryz.ntmps46
    go_wp2_with (go_at_call 84; refine (row_own _ _ h4).mono ?_; rintro e w' ⟨rfl, rfl⟩)
    go_ret
    exact ⟨rfl, rfl⟩

set_option maxRecDepth 20000 in
theorem come_dirBound (b : Nat) (q : Option Nat) (a : Addr) (n c : Nat) (w : World) (h : w.cell? ⟨b, 4, none⟩ = some (.slice (some a) n c)) :
    Calls Tryz.prog 46 #[.iface 87 (.pointer (some ⟨b, 0, none⟩)), fromV q] w fun e w' => e = .returned (.pointer (some ⟨w.heap.size, 0, none⟩)) ∧ w' = w.alloc (placeObj (dirI b) (.slice (some a) n c) (q.getD w.heap.size)) := by
  have ta := asDir
  cases q with
  | none =>
    have h4 := up h (.cells #[.iface 87 (.pointer (some ⟨b, 0, none⟩)), .slice none 0 0, .pointer none] 119)
    unfold fromV
    go_enter Tryz.func46, Tryz.ntmps46
    go_wp2_with (go_at_call 84; refine (row_bound _ _ _ _ _ h4).mono ?_; rintro e w' ⟨rfl, hw⟩; obtain rfl := hw.symm)
    go_ret
    exact ⟨rfl, rfl⟩
  | some q =>
    have h4 := up h (.cells #[.iface 87 (.pointer (some ⟨b, 0, none⟩)), .slice none 0 0, .pointer (some ⟨q, 0, none⟩)] 119)
    unfold fromV
    go_enter Tryz.func46, Tryz.ntmps46
    go_wp2_with (go_at_call 84; refine (row_bound _ _ _ _ _ h4).mono ?_; rintro e w' ⟨rfl, hw⟩; obtain rfl := hw.symm)
    go_ret
    exact ⟨rfl, rfl⟩

set_option maxRecDepth 20000 in
theorem come_file (b : Nat) (q : Option Nat) (w : World) :
    Calls Tryz.prog 46 #[.iface 122 (.pointer (some ⟨b, 0, none⟩)), fromV q] w fun e w' => e = .returned (.pointer (some ⟨w.heap.size, 0, none⟩)) ∧ w' = w.alloc (placeObj (fileI b) (.slice none 0 0) (q.getD w.heap.size)) := by
  have ta := notDir
  cases q with
  | none =>
    unfold fromV
    go_enter Tryz.func46, Tryz.ntmps46
    go_wp2
    go_ret
    exact ⟨rfl, rfl⟩
  | some q =>
    unfold fromV
    go_enter Tryz.func46, Tryz.ntmps46
    go_wp2
    go_ret
    exact ⟨rfl, rfl⟩

/-- What 'come' hands back: a new place that reads as the spot, come to from what q says. -/
def Came (w : World) (F : Nat → Prop) (L : Lay) (sp : Spot) (q : Option Nat) (e : Ending) (w' : World) : Prop :=
  ∃ v, e = .returned (.pointer (some ⟨w.heap.size, 0, none⟩)) ∧ Below w.heap.size w w' ∧ w'.heap[w.heap.size]? = some (placeObj (nodeV L sp.n) v (q.getD w.heap.size)) ∧ PRow w' (ext F w w') L v sp.row

theorem Came.place {w w' : World} {F : Nat → Prop} {L : Lay} {sp : Spot} {q : Option Nat} {e : Ending} (h : Came w F L sp q e w') {r : List Spot} (hr : match q with | none => r = [] | some q => PlaceIs w F L q r) : PlaceIs w' (ext F w w') L w.heap.size (sp :: r) := by
  obtain ⟨v, _, hb, hblk, hv⟩ := h
  have hlt := (Array.getElem?_eq_some_iff.1 hblk).1
  refine ⟨⟨⟨_, hblk⟩, .inr ⟨Nat.le_refl _, hlt⟩⟩, by simp [World.cell?, hblk, placeObj], ⟨v, by simp [World.cell?, hblk, placeObj], hv⟩, q.getD w.heap.size, by simp [World.cell?, hblk, placeObj], ?_⟩
  cases q with
  | none => rw [hr]; rfl
  | some q =>
    cases r with
    | nil => exact absurd hr (by simp [PlaceIs])
    | cons x r => exact PlaceIs.mono (fun k hk => .inl hk) (PlaceIs.kept (KeepX.below (T := fun _ => True) (M := True) hb) trivial trivial hr)

theorem come_any {w : World} {F : Nat → Prop} {t : Nat} {st : St} {L : Lay} {bv : Nat → Value} (h : TreeIs w F t st L bv) (i : Nat) (hi : i < st.nodes.length) (q : Option Nat) :
    Calls Tryz.prog 46 #[nodeV L i, fromV q] w fun e w' => Came w F L (come st i) q e w' := by
  obtain ⟨x, hx⟩ := getElem?_of_lt hi
  have hk := h.kind i x hx
  have hd : isDir st i = x.dir := by simp [isDir, hx]
  cases hxd : x.dir with
  | true =>
    have e1 : nodeV L i = dirI (L.nb i) := by rw [nodeV, hk, hxd]; rfl
    have D := h.dir i x hx hxd
    obtain ⟨v, c4, hv⟩ := D.bound
    have e2 : (come st i).row = rowOf st i := by simp [come, hd, hxd]
    have e3 : (come st i).n = i := rfl
    cases hl : st.laid.find? (fun l => l.onto == i) with
    | none =>
      rw [hl] at hv
      obtain rfl : v = .slice none 0 0 := hv
      rw [e1]
      refine (come_dirOwn (L.nb i) q w c4).mono ?_
      rintro e w' ⟨rfl, rfl⟩
      have hrow : rowOf st i = [⟨i, true⟩] := by simp [rowOf, hl]
      have z1 : (w.alloc (placeObj (dirI (L.nb i)) (.slice (some ⟨w.heap.size + 1, 0, none⟩) 1 1) (q.getD w.heap.size))).heap.size = w.heap.size + 1 := by simp
      refine ⟨.slice (some ⟨w.heap.size + 1, 0, none⟩) 1 1, rfl, (((Below.refl _ w).alloc (Nat.le_refl _) _).alloc (by simp) _), ?_, ?_⟩
      · rw [e3, e1]
        exact (Below.heap_alloc _ _ _ (by simp)).trans (heap_alloc_new w _)
      · have ho := Own.lit (w.alloc (placeObj (dirI (L.nb i)) (.slice (some ⟨w.heap.size + 1, 0, none⟩) 1 1) (q.getD w.heap.size))) #[.pointer (some ⟨L.nb i, 0, none⟩), .bool true] 165 2 rfl
        rw [z1] at ho
        unfold PRow
        rw [e2, hrow]
        exact ho.mono (fun k hk => .inr (by subst hk; simp))
    | some l =>
      rw [hl] at hv
      obtain ⟨hv, hne⟩ := hv
      have hrow : rowOf st i = l.row := by simp [rowOf, hl]
      rcases hv.opened with ⟨rfl, hn⟩ | ⟨g, cap, rfl, _⟩
      · exact absurd (List.map_eq_nil_iff.1 hn) hne
      · rw [e1]
        refine (come_dirBound (L.nb i) q _ _ _ w c4).mono ?_
        rintro e w' ⟨rfl, rfl⟩
        refine ⟨.slice (some ⟨g, 0, none⟩) (l.row.map (mCells L)).length cap, rfl, ((Below.refl _ w).alloc (Nat.le_refl _) _), ?_, ?_⟩
        · rw [e3, e1]
          exact heap_alloc_new w _
        · rw [e2, hrow]
          exact (hv.kept (KeepX.below (T := fun _ => True) (M := True) ((Below.refl _ w).alloc (Nat.le_refl _) _)) trivial).mono (fun k hk => .inl hk)
  | false =>
    have e1 : nodeV L i = fileI (L.nb i) := by rw [nodeV, hk, hxd]; rfl
    have e2 : (come st i).row = [] := by simp [come, hd, hxd]
    have e3 : (come st i).n = i := rfl
    rw [e1]
    refine (come_file (L.nb i) q w).mono ?_
    rintro e w' ⟨rfl, rfl⟩
    refine ⟨.slice none 0 0, rfl, ((Below.refl _ w).alloc (Nat.le_refl _) _), ?_, ?_⟩
    · rw [e3, e1]
      exact heap_alloc_new w _
    · rw [e2]
      exact Own.nil _ _ _ _
end Go.Proofs.YtdmdgnghaceibaaGreat.P
/- What a fid holds is another thing; how a call ends. -/
namespace Go.Proofs.YtdmdgnghaceibaaGreat.P
open M Go.ChangeShapes Go.WideShapes Go.ChangeAt Go.RowKit
set_option linter.unusedVariables false

/-- What of the model's state the program's calls ask. -/
structure POk (st : St) : Prop where
  fids : FidsOk st
  root : ∃ x, st.nodes[0]? = some x ∧ x.dir = true
  way : ∀ f ∈ st.fids, f.way ≠ [] ∧ ∀ s ∈ f.way, s.n < st.nodes.length ∧ (∀ m ∈ s.row, m.d < st.nodes.length ∧ isDir st m.d = true) ∧ s.row.length ≤ 6
  laid : ∀ l ∈ st.laid, (∀ m ∈ l.row, m.d < st.nodes.length ∧ isDir st m.d = true) ∧ l.row.length ≤ 6 ∧ l.onto < st.nodes.length
  names : ∀ x ∈ st.nodes, x.name.size ≤ 12
  inn : ∀ x ∈ st.nodes, x.inn < (st.nodes.length : Int)
  live : liveNodes st.nodes ≤ 100

theorem POk.pos {st : St} (ok : POk st) : 0 < st.nodes.length := by
  obtain ⟨x, hx, _⟩ := ok.root
  exact M.lt_of_getElem? hx

theorem TreeIs.root {w : World} {F : Nat → Prop} {t : Nat} {st : St} {L : Lay} {bv : Nat → Value} (h : TreeIs w F t st L bv) (ok : POk st) : nodeV L 0 = .iface 87 (.pointer (some ⟨L.nb 0, 0, none⟩)) := by
  obtain ⟨x, hx, hd⟩ := ok.root
  rw [nodeV, h.kind 0 x hx, hd]
  rfl

section
variable {w : World} {F : Nat → Prop} {s t : Nat} {st st' : St} {lk : Int} {L : Lay} {bv : Nat → Value}

/-- What a stand's two cells are to hold. -/
def StandV (w : World) (F : Nat → Prop) (L : Lay) (pv : Value) (op : Bool) : Option Fid → Prop
  | none => pv = .pointer none ∧ op = false
  | some f => ∃ p, pv = .pointer (some ⟨p, 0, none⟩) ∧ op = f.op ∧ PlaceIs w F L p f.way.reverse

theorem SrvHas.setStand (h : SrvHas w F s st lk t L bv) {k : Nat} (hk : k < 51) {pv : Value} {op : Bool} {o : Option Fid} (ho : StandV w F L pv op o)
    (hn : st'.nodes = st.nodes) (hl : st'.laid = st.laid) (hc : st'.calls = st.calls) (hf : ∀ m : Int, fidAt st' m = if m = (k : Int) then o else fidAt st m) :
    SrvHas ((w.setCell ⟨s, 7 + k * 2, none⟩ pv).setCell ⟨s, 7 + k * 2 + 1, none⟩ (.bool op)) F s st' lk t L bv := by
  have hk1 := keep_srv h.blk (7 + k * 2) pv
  have hk2 := keep_srv (h.blk.setCell ⟨s, 7 + k * 2, none⟩ pv) (7 + k * 2 + 1) (.bool op)
  have hK := hk1.trans hk2
  have hold := h.fids k hk
  have hcell : ∀ j, j ≠ 7 + k * 2 → j ≠ 7 + k * 2 + 1 → ((w.setCell ⟨s, 7 + k * 2, none⟩ pv).setCell ⟨s, 7 + k * 2 + 1, none⟩ (.bool op)).cell? ⟨s, j, none⟩ = w.cell? ⟨s, j, none⟩ := fun j h1 h2 =>
    (cell_other _ _ _ _ _ (Ne.symm h2)).trans (cell_other _ _ _ _ _ (Ne.symm h1))
  have o7 : ∃ x, w.cell? ⟨s, 7 + k * 2, none⟩ = some x := by
    cases hf0 : fidAt st k with
    | none => rw [hf0] at hold; exact ⟨_, hold.1⟩
    | some f => rw [hf0] at hold; obtain ⟨p, c7, _⟩ := hold; exact ⟨_, c7⟩
  have o8 : ∃ x, w.cell? ⟨s, 7 + k * 2 + 1, none⟩ = some x := by
    cases hf0 : fidAt st k with
    | none => rw [hf0] at hold; exact ⟨_, hold.2⟩
    | some f => rw [hf0] at hold; obtain ⟨p, _, c8, _⟩ := hold; exact ⟨_, c8⟩
  obtain ⟨x7, o7⟩ := o7
  obtain ⟨x8, o8⟩ := o8
  have n7 : ((w.setCell ⟨s, 7 + k * 2, none⟩ pv).setCell ⟨s, 7 + k * 2 + 1, none⟩ (.bool op)).cell? ⟨s, 7 + k * 2, none⟩ = some pv := (cell_other _ _ _ _ _ (by omega)).trans (cell_same _ _ _ _ _ o7)
  have n8 : ((w.setCell ⟨s, 7 + k * 2, none⟩ pv).setCell ⟨s, 7 + k * 2 + 1, none⟩ (.bool op)).cell? ⟨s, 7 + k * 2 + 1, none⟩ = some (.bool op) := cell_same _ _ _ _ x8 ((cell_other _ _ _ _ _ (by omega)).trans o8)
  refine ⟨(h.blk.setCell _ _).setCell _ _, (hcell 0 (by omega) (by omega)).trans h.k0, (hcell 1 (by omega) (by omega)).trans h.k1, (hcell 3 (by omega) (by omega)).trans h.k3, by rw [hc]; exact (hcell 5 (by omega) (by omega)).trans h.k5, (hcell 6 (by omega) (by omega)).trans h.k6, fun n hn51 => ?_,
    (h.tree.kept (hK.weak (fun _ h => .inl h) (fun h => h))).same hn hl⟩
  rw [hf]
  by_cases e : n = k
  · subst e
    rw [if_pos rfl]
    cases o with
    | none =>
      obtain ⟨rfl, rfl⟩ := ho
      exact ⟨n7, n8⟩
    | some f =>
      obtain ⟨p, rfl, rfl, hp⟩ := ho
      exact ⟨p, n7, n8, hp.kept hK (by simp [inT, placeT]) (by simp [inT, placeT])⟩
  · rw [if_neg (by omega)]
    exact (h.fids n hn51).kept hK (by simp [inT, placeT]) (by simp [inT, placeT]) (hcell _ (by omega) (by omega)) (hcell _ (by omega) (by omega))
end

/-- A statement that does not panic: what a panic would come to is of no matter (for regions that draw in a function that defers). -/
def Strict (Q : Exit → Act → World → Prop) : Exit → Act → World → Prop
  | .panic _, _, _ => False
  | e, a, w => Q e a w
theorem wp_strict {P : Program} {c : Code} {K : Act → World → Prop} {Q : Exit → Act → World → Prop} {a : Act} {w : World} (h : c.wp P (Exit.then K (Strict Q)) a w) : c.wp P (Exit.then K Q) a w := by
  refine wp_mono h ?_
  intro e a' w' hq
  cases e with
  | panic ch => exact hq.elim
  | normal => exact hq
  | exit id => exact hq
  | goto l => exact hq
  | ret => exact hq
  | outgrown => exact hq

/-- How a call ends that answers an error alone. -/
def PEnds (w : World) (F : Nat → Prop) (s : Nat) (p : St × Int) (e : Ending) (w' : World) : Prop := e = .returned (.int .i64 p.2) ∧ SrvIs w' (ext F w w') s p.1 ∧ Ext F w w'

theorem left_close {w w1 w2 : World} {F : Nat → Prop} {s : Nat} {st' : St} (h : Held w2 (ext F w w2) s st') (hx : Ext F w w2) : SrvIs (left w2 s) (ext F w (left w2 s)) s st' ∧ Ext F w (left w2 s) := by
  have hz : (left w2 s).heap.size = w2.heap.size := by simp [left]
  refine ⟨h.left.mono (ext_mono (by rw [hz]; exact Nat.le_refl _)), ?_⟩
  exact hx.setCell (a := ⟨s, 3, none⟩) (by rcases h.own with h | h; exact .inl h; exact .inr h.1) _

/-- The lock is given back. -/
theorem PEnds.close {w w2 : World} {F : Nat → Prop} {s : Nat} {p : St × Int} {c : Int} {st' : St} (hp : p = (st', c)) (h : Held w2 (ext F w w2) s st') (hx : Ext F w w2) : PEnds w F s p (.returned (.int .i64 c)) (left w2 s) := by
  subst hp
  obtain ⟨h1, h2⟩ := left_close (w1 := w) h hx
  exact ⟨rfl, h1, h2⟩
end Go.Proofs.YtdmdgnghaceibaaGreat.P
/- The program's Clunk, Calls. -/
namespace Go.Proofs.YtdmdgnghaceibaaGreat.P
open M Go.ChangeShapes Go.WideShapes Go.ChangeAt Go.RowKit
set_option linter.unusedVariables false

theorem POk.tick {st : St} (ok : POk st) : POk (tick st) := ⟨ok.fids.tick, ok.root, ok.way, ok.laid, ok.names, ok.inn, ok.live⟩

/-- 'standing' of a fid that stands nowhere. -/
theorem standing_no {w : World} {s : Nat} {n : Int} (h : (fidOk n = false) ∨ ∃ k : Nat, n = k ∧ k < 51 ∧ w.cell? ⟨s, 7 + k * 2, none⟩ = some (.pointer none) ∧ w.cell? ⟨s, 7 + k * 2 + 1, none⟩ = some (.bool false)) :
    Calls Tryz.prog 45 #[.pointer (some ⟨s, 0, none⟩), .int .i64 n] w fun e w' => e = .returned (.pointer none) ∧ w' = w := by
  rcases h with h | ⟨k, rfl, hk, h7, h8⟩
  · exact standing_bad s n h w
  · exact standing_none s k hk w h7

theorem fid_of (k : Nat) (hk : k < 51) : fidOk (k : Int) = true := decide_eq_true (by omega)

set_option maxRecDepth 20000 in
set_option maxHeartbeats 800000 in
theorem clunk_any {w : World} {F : Nat → Prop} {s : Nat} {st : St} (n : Int) (h : SrvIs w F s st) (ok : POk st) :
    Calls Tryz.prog 22 #[.pointer (some ⟨s, 0, none⟩), .int .i64 n] w fun e w' => PEnds w F s (mClunk st n) e w' := by
  go_enter_defers Tryz.func22, Tryz.ntmps22
  go_wp2_with fail
  refine (enter_any h).mono ?_
  rintro e w1 ⟨rfl, hH, hx⟩
  clear h
  obtain ⟨t, L, bv, hS⟩ := hH
  have hx := hide hx
  rcases fid_cases hS ok.tick.fids n with ⟨hf, hno⟩ | ⟨k, i, f, p, rfl, hk, hf, hi, hn, ha, c7, c8, hp⟩
  · have H := hide (show mClunk st n = (tick st, 2) by unfold mClunk; rw [show find st n = none from hf])
    have hS := hide hS
    clear hf
    go_wp2_with (go_at_call 45; refine (standing_no hno).mono ?_; rintro e w' ⟨rfl, hw⟩; obtain rfl := hw.symm)
    have hD : Held w1 (ext F w w1) s (tick st) := ⟨t, L, bv, hS.out⟩
    refine leaves_cons (f := 43) (args := #[.pointer (some ⟨s, 0, none⟩)]) (by simp) (by simp [go_sem]) ?_
    refine (leave_deferred .returning hD).mono ?_
    rintro e u' w'' ⟨rfl, rfl, rfl⟩
    refine ⟨_, results_tmp rfl _ _ _, ?_⟩
    exact PEnds.close H.out hD hx.out
  · have H := hide (show mClunk st k = (mDrop (tick st) i, 0) by unfold mClunk; rw [show find st k = some i from hf])
    have hfz := hS.blk.fz
    have hset : SrvHas ((w1.setCell ⟨s, 7 + k * 2, none⟩ (.pointer none)).setCell ⟨s, 7 + k * 2 + 1, none⟩ (.bool false)) (ext F w w1) s (mDrop (tick st) i) 1 t L bv :=
      hS.setStand (st' := mDrop (tick st) i) hk (o := none) ⟨rfl, rfl⟩ rfl rfl rfl (fun m => by rw [fidAt_drop ok.tick.fids hi m, hn])
    have hsF := hide hS.blk.own
    have hset := hide hset
    clear hS hf hi ha hp hn
    go_wp2_with (first | (go_at_call 45; refine (standing_some s k p hk _ c7).mono ?_; rintro e w' ⟨rfl, hw⟩; obtain rfl := hw.symm) | (go_at_call 57; refine (giveUp_any s k _ _ _ c7 c8 hfz).mono ?_; rintro e w' ⟨rfl, rfl⟩))
    have hx2 : Ext F w ((w1.setCell ⟨s, 7 + k * 2, none⟩ (.pointer none)).setCell ⟨s, 7 + k * 2 + 1, none⟩ (.bool false)) := by
      have ho : F s ∨ w.heap.size ≤ s := by rcases hsF.out with h | h; exact .inl h; exact .inr h.1
      exact (hx.out.setCell ho _).setCell ho _
    have hD : Held ((w1.setCell ⟨s, 7 + k * 2, none⟩ (.pointer none)).setCell ⟨s, 7 + k * 2 + 1, none⟩ (.bool false)) (ext F w ((w1.setCell ⟨s, 7 + k * 2, none⟩ (.pointer none)).setCell ⟨s, 7 + k * 2 + 1, none⟩ (.bool false))) s (mDrop (tick st) i) :=
      ⟨t, L, bv, hset.out.mono (ext_mono (by simp))⟩
    refine leaves_cons (f := 43) (args := #[.pointer (some ⟨s, 0, none⟩)]) (by simp) (by simp [go_sem]) ?_
    refine (leave_deferred .returning hD).mono ?_
    rintro e u' w'' ⟨rfl, rfl, rfl⟩
    refine ⟨_, results_tmp rfl _ _ _, ?_⟩
    exact PEnds.close H.out hD hx2

theorem srv_calls {w : World} {F : Nat → Prop} {s : Nat} {st : St} (h : SrvIs w F s st) : w.cell? ⟨s, 5, none⟩ = some (.int .i64 st.calls) := by
  rcases h with ⟨h, rfl⟩ | ⟨t, L, bv, h⟩
  · exact h.k5
  · exact h.k5

set_option maxRecDepth 20000 in
theorem calls_any {w : World} {F : Nat → Prop} {s : Nat} {st : St} (h : SrvIs w F s st) :
    Calls Tryz.prog 26 #[.pointer (some ⟨s, 0, none⟩)] w fun e w' => e = .returned (.int .i64 st.calls) ∧ w' = w := by
  have h5 := srv_calls h
  clear h
  go_enter Tryz.func26, Tryz.ntmps26
  go_wp2_with (go_at_call 63; refine (load_any _ _ _ h5).mono ?_; rintro e w' ⟨rfl, hw⟩; obtain rfl := hw.symm)
  go_ret
  exact ⟨rfl, rfl⟩
end Go.Proofs.YtdmdgnghaceibaaGreat.P
/- The program's Open. -/
namespace Go.Proofs.YtdmdgnghaceibaaGreat.P
open M Go.ChangeShapes Go.WideShapes Go.ChangeAt Go.RowKit
set_option linter.unusedVariables false

section
variable {w : World} {F : Nat → Prop} {t : Nat} {st : St} {L : Lay} {bv : Nat → Value}
theorem TreeIs.gone (h : TreeIs w F t st L bv) {i : Nat} (hi : i < st.nodes.length) : w.cell? ⟨L.nb i, 2, none⟩ = some (.bool (isGone st i)) := by
  obtain ⟨x, hx⟩ := getElem?_of_lt hi
  have e : isGone st i = x.gone := by simp [isGone, hx]
  rw [e]
  cases hd : x.dir with
  | true => exact (h.dir i x hx hd).c2
  | false => exact (h.file i x hx hd).c2
theorem TreeIs.isDir (h : TreeIs w F t st L bv) {i : Nat} (hi : i < st.nodes.length) : L.dirs i = M.isDir st i := by
  obtain ⟨x, hx⟩ := getElem?_of_lt hi
  rw [h.kind i x hx]
  simp [M.isDir, hx]
end

/-- A fid's place: the last spot of its way. -/
theorem place_last {w : World} {F : Nat → Prop} {L : Lay} {p : Nat} {way : List Spot} (h : PlaceIs w F L p way.reverse) : ∃ sp, way.getLast? = some sp ∧ w.cell? ⟨p, 0, none⟩ = some (nodeV L sp.n) ∧ (∃ v, w.cell? ⟨p, 1, none⟩ = some v ∧ PRow w F L v sp.row) ∧ p < w.heap.size := by
  cases hw : way.reverse with
  | nil => rw [hw] at h; exact absurd h (by simp [PlaceIs])
  | cons sp r =>
    rw [hw] at h
    obtain ⟨hb, c0, hv, _⟩ := h
    refine ⟨sp, ?_, c0, hv, hb.lt⟩
    rw [List.getLast?_eq_head?_reverse, hw]
    rfl

theorem m_isGoneD (b : Nat) (w : World) : (method 413 87 (.pointer (some ⟨b, 0, none⟩)) "warren/warren.isGone").run Tryz.prog w = .ok (94, .pointer (some ⟨b, 0, none⟩)) w := by kernel_rfl
theorem m_isGoneF (b : Nat) (w : World) : (method 413 122 (.pointer (some ⟨b, 0, none⟩)) "warren/warren.isGone").run Tryz.prog w = .ok (94, .pointer (some ⟨b, 0, none⟩)) w := by kernel_rfl
theorem m_calledD (b : Nat) (w : World) : (method 413 87 (.pointer (some ⟨b, 0, none⟩)) "warren/warren.called").run Tryz.prog w = .ok (245, .pointer (some ⟨b, 0, none⟩)) w := by kernel_rfl
theorem m_calledF (b : Nat) (w : World) : (method 413 122 (.pointer (some ⟨b, 0, none⟩)) "warren/warren.called").run Tryz.prog w = .ok (245, .pointer (some ⟨b, 0, none⟩)) w := by kernel_rfl
theorem m_liesInD (b : Nat) (w : World) : (method 413 87 (.pointer (some ⟨b, 0, none⟩)) "warren/warren.liesIn").run Tryz.prog w = .ok (247, .pointer (some ⟨b, 0, none⟩)) w := by kernel_rfl
theorem m_liesInF (b : Nat) (w : World) : (method 413 122 (.pointer (some ⟨b, 0, none⟩)) "warren/warren.liesIn").run Tryz.prog w = .ok (247, .pointer (some ⟨b, 0, none⟩)) w := by kernel_rfl

/-- A store of what lies there already. -/
theorem setCell_idle {w : World} {b j : Nat} {v : Value} (h : w.cell? ⟨b, j, none⟩ = some v) : w.setCell ⟨b, j, none⟩ v = w := by
  have hh : (w.setCell ⟨b, j, none⟩ v).heap = w.heap := by
    apply Array.ext_getElem?
    intro k
    by_cases hk : k = b
    · subst hk
      cases hb : w.heap[k]? with
      | none => simp [World.cell?, hb] at h
      | some o =>
        cases o with
        | cells c e fr =>
          have hc : c[j]? = some v := by simpa [World.cell?, hb] using h
          have he : c.setIfInBounds j v = c := by
            apply Array.ext_getElem?
            intro i
            rw [Array.getElem?_setIfInBounds]
            split
            · rename_i e
              subst e
              split
              · exact hc.symm
              · rename_i hlt
                exact absurd (Array.getElem?_eq_some_iff.1 hc).1 hlt
            · rfl
          simp [World.setCell, Array.getElem?_modify, hb, he]
        | _ => simp [World.cell?, hb] at h
    · exact Below.heap_setCell _ _ _ _ hk
  cases w
  simp only [World.setCell] at hh ⊢
  rw [hh]

/-- A node's value: of the one kind or the other. -/
theorem nodeV_cases (L : Lay) (i : Nat) : nodeV L i = .iface 87 (.pointer (some ⟨L.nb i, 0, none⟩)) ∨ nodeV L i = .iface 122 (.pointer (some ⟨L.nb i, 0, none⟩)) := by
  unfold nodeV nodeT
  cases L.dirs i
  · exact .inr rfl
  · exact .inl rfl

set_option maxRecDepth 20000 in
set_option maxHeartbeats 800000 in
theorem open_any {w : World} {F : Nat → Prop} {s : Nat} {st : St} (n : Int) (h : SrvIs w F s st) (ok : POk st) :
    Calls Tryz.prog 15 #[.pointer (some ⟨s, 0, none⟩), .int .i64 n] w fun e w' => PEnds w F s (mOpen st n) e w' := by
  go_enter_defers Tryz.func15, Tryz.ntmps15
  go_wp2_with fail
  refine (enter_any h).mono ?_
  rintro e w1 ⟨rfl, hH, hx⟩
  clear h
  obtain ⟨t, L, bv, hS⟩ := hH
  have hx := hide hx
  rcases fid_cases hS ok.tick.fids n with ⟨hf, hno⟩ | ⟨k, i, f, p, rfl, hk, hf, hi, hn, ha, c7, c8, hp⟩
  · have H := hide (show mOpen st n = (tick st, 2) by unfold mOpen; rw [show find st n = none from hf])
    have hS := hide hS
    clear hf
    go_wp2_with (go_at_call 45; refine (standing_no hno).mono ?_; rintro e w' ⟨rfl, hw⟩; obtain rfl := hw.symm)
    have hD : Held w1 (ext F w w1) s (tick st) := ⟨t, L, bv, hS.out⟩
    refine leaves_cons (f := 43) (args := #[.pointer (some ⟨s, 0, none⟩)]) (by simp) (by simp [go_sem]) ?_
    refine (leave_deferred .returning hD).mono ?_
    rintro e u' w'' ⟨rfl, rfl, rfl⟩
    refine ⟨_, results_tmp rfl _ _ _, ?_⟩
    exact PEnds.close H.out hD hx.out
  · have e0 : mOpen st k = if f.op then (tick st, 3) else if isGone st (nodeOf f) then (tick st, 4) else (setOpen (tick st) i f, 0) := by
      unfold mOpen
      rw [show find st k = some i from hf]
      simp only
      rw [show st.fids[i]? = some f from hi]
    obtain ⟨sp, hsp, d0, _, _⟩ := place_last hp
    have hno : nodeOf f = sp.n := by simp [nodeOf, hsp]
    have hin := ((ok.way f (List.mem_of_getElem? hi)).2 sp (List.mem_of_getLast? hsp)).1
    have hg := hS.tree.gone (i := sp.n) hin
    cases hop : f.op with
    | true =>
      have H := hide (e0.trans (by rw [if_pos hop]))
      rw [hop] at c8
      have hS := hide hS
      clear hf hi ha hp hn e0
      go_wp2_with (go_at_call 45; refine (standing_some s k p hk _ c7).mono ?_; rintro e w' ⟨rfl, hw⟩; obtain rfl := hw.symm)
      have hD : Held w1 (ext F w w1) s (tick st) := ⟨t, L, bv, hS.out⟩
      refine leaves_cons (f := 43) (args := #[.pointer (some ⟨s, 0, none⟩)]) (by simp) (by simp [go_sem]) ?_
      refine (leave_deferred .returning hD).mono ?_
      rintro e u' w'' ⟨rfl, rfl, rfl⟩
      refine ⟨_, results_tmp rfl _ _ _, ?_⟩
      exact PEnds.close H.out hD hx.out
    | false =>
      rw [hop] at c8
      cases hgv : isGone st sp.n with
      | true =>
        have H := hide (e0.trans (by rw [if_neg (by simp [hop]), hno, if_pos hgv]))
        have hgg : w1.cell? ⟨L.nb sp.n, 2, none⟩ = some (.bool true) := hg.trans (by rw [show isGone (tick st) sp.n = true from hgv])
        have hS := hide hS
        have m1 := m_isGoneD
        have m2 := m_isGoneF
        clear hf hi ha hp hn e0 hg
        rcases nodeV_cases L sp.n with e | e
        all_goals
          rw [e] at d0
          go_wp2_with (first | (go_at_call 45; refine (standing_some s k p hk _ c7).mono ?_; rintro e w' ⟨rfl, hw⟩; obtain rfl := hw.symm) | (go_at_call 94; refine (isGone_any _ _ _ hgg).mono ?_; rintro e w' ⟨rfl, hw⟩; obtain rfl := hw.symm))
          have hD : Held w1 (ext F w w1) s (tick st) := ⟨t, L, bv, hS.out⟩
          refine leaves_cons (f := 43) (args := #[.pointer (some ⟨s, 0, none⟩)]) (by simp) (by simp [go_sem]) ?_
          refine (leave_deferred .returning hD).mono ?_
          rintro e u' w'' ⟨rfl, rfl, rfl⟩
          refine ⟨_, results_tmp rfl _ _ _, ?_⟩
          exact PEnds.close H.out hD hx.out
      | false =>
        have H := hide (e0.trans (by rw [if_neg (by simp [hop]), hno, if_neg (by simp [hgv])]))
        have hgg : w1.cell? ⟨L.nb sp.n, 2, none⟩ = some (.bool false) := hg.trans (by rw [show isGone (tick st) sp.n = false from hgv])
        have hfz := hS.blk.fz
        have fz8 := hfz (7 + k * 2 + 1)
        have h0 : SrvHas ((w1.setCell ⟨s, 7 + k * 2, none⟩ (.pointer (some ⟨p, 0, none⟩))).setCell ⟨s, 7 + k * 2 + 1, none⟩ (.bool true)) (ext F w w1) s (setOpen (tick st) i f) 1 t L bv :=
          hS.setStand (st' := setOpen (tick st) i f) hk (o := some { f with op := true }) ⟨p, rfl, rfl, hp⟩ rfl rfl rfl (fun m => by unfold setOpen fidAt; simp only; rw [fidAt_set (g := { f with op := true }) ok.tick.fids hi rfl m, hn]; rfl)
        have hset : SrvHas (w1.setCell ⟨s, 7 + k * 2 + 1, none⟩ (.bool true)) (ext F w w1) s (setOpen (tick st) i f) 1 t L bv := by
          rw [setCell_idle c7] at h0
          exact h0
        have hsF := hide hS.blk.own
        have hset := hide hset
        have m1 := m_isGoneD
        have m2 := m_isGoneF
        clear hS h0 hf hi ha hp hn e0 hg
        rcases nodeV_cases L sp.n with e | e
        all_goals
          rw [e] at d0
          go_wp2_with (first | (go_at_call 45; refine (standing_some s k p hk _ c7).mono ?_; rintro e w' ⟨rfl, hw⟩; obtain rfl := hw.symm) | (go_at_call 94; refine (isGone_any _ _ _ hgg).mono ?_; rintro e w' ⟨rfl, hw⟩; obtain rfl := hw.symm))
          have hx2 : Ext F w (w1.setCell ⟨s, 7 + k * 2 + 1, none⟩ (.bool true)) := hx.out.setCell (by rcases hsF.out with h | h; exact .inl h; exact .inr h.1) _
          have hD : Held (w1.setCell ⟨s, 7 + k * 2 + 1, none⟩ (.bool true)) (ext F w (w1.setCell ⟨s, 7 + k * 2 + 1, none⟩ (.bool true))) s (setOpen (tick st) i f) := ⟨t, L, bv, hset.out.mono (ext_mono (by simp))⟩
          refine leaves_cons (f := 43) (args := #[.pointer (some ⟨s, 0, none⟩)]) (by simp) (by simp [go_sem]) ?_
          refine (leave_deferred .returning hD).mono ?_
          rintro e u' w'' ⟨rfl, rfl, rfl⟩
          refine ⟨_, results_tmp rfl _ _ _, ?_⟩
          exact PEnds.close H.out hD hx2
end Go.Proofs.YtdmdgnghaceibaaGreat.P
/- Slices of texts that came in. (No program.) -/
namespace Go.Proofs.YtdmdgnghaceibaaGreat
open M Go.ChangeShapes Go.WideShapes Go.ChangeAt Go.RowKit
set_option linter.unusedVariables false

/-- A slice of texts that came in. -/
def NamesAt (w : World) (ao : Option Addr) (names : List ByteArray) : Prop :=
  names.length ≤ maxLen ∧ ∀ (i : Nat) s, names[i]? = some s → s.size ≤ maxLen ∧ ∃ nb no, ao = some ⟨nb, no, none⟩ ∧ w.cell? ⟨nb, no + i, none⟩ = some (.string s)

theorem NamesAt.below {B : Nat} {w w' : World} {ao : Option Addr} {names : List ByteArray} (h : NamesAt w ao names) (hb : Below B w w') (hB : ∀ a, ao = some a → names ≠ [] → a.block < B) : NamesAt w' ao names := by
  refine ⟨h.1, fun i s hs => ?_⟩
  obtain ⟨hm, nb, no, e, hc⟩ := h.2 i s hs
  exact ⟨hm, nb, no, e, (hb.cell (p := ⟨nb, no + i, none⟩) (show nb < B from hB ⟨nb, no, none⟩ e (fun h0 => by rw [h0] at hs; simp at hs))).trans hc⟩

theorem NamesAt.ext {F : Nat → Prop} {w w' : World} {ao : Option Addr} {names : List ByteArray} (h : NamesAt w ao names) (hx : Ext F w w') (hF : ∀ a, ao = some a → names ≠ [] → ¬ F a.block) : NamesAt w' ao names := by
  refine ⟨h.1, fun i s hs => ?_⟩
  obtain ⟨hm, nb, no, e, hc⟩ := h.2 i s hs
  refine ⟨hm, nb, no, e, (World.cell?_of_block (w := w) (w' := w') (a := ⟨nb, no + i, none⟩) (hx.block nb (World.block_lt_of_cell? w _ hc) (hF _ e (fun h0 => by rw [h0] at hs; simp at hs)))).trans hc⟩

theorem any_snoc {l : List ByteArray} {k : Nat} {s : ByteArray} (p : ByteArray → Bool) (hs : l[k]? = some s) (ha : (l.take k).any p = false) (hp : p s = false) : (l.take (k + 1)).any p = false := by
  have hlt := M.lt_of_getElem? hs
  have e : l[k] = s := by rw [List.getElem?_eq_getElem hlt] at hs; exact Option.some.inj hs
  rw [List.take_succ_eq_append_getElem hlt, List.any_append, ha, e]
  simp [hp]

theorem any_hit {l : List ByteArray} {k : Nat} {s : ByteArray} (p : ByteArray → Bool) (hs : l[k]? = some s) (hp : p s = true) : l.any p = true :=
  List.any_eq_true.2 ⟨s, List.mem_of_getElem? hs, hp⟩

/-! ### Bytes of a name -/
theorem take_snoc (s : ByteArray) (k : Nat) (h : k < s.size) : s.data.toList.take (k + 1) = s.data.toList.take k ++ [s[k]] := by
  rw [List.take_succ_eq_append_getElem (by simpa using h)]; rfl

theorem all_snoc (s : ByteArray) (k : Nat) (h : k < s.size) (ha : (s.data.toList.take k).all nameOk = true) (hk : nameOk s[k] = true) : (s.data.toList.take (k + 1)).all nameOk = true := by
  rw [take_snoc s k h, List.all_append, ha]
  simp [hk]

theorem not_all (s : ByteArray) (k : Nat) (h : k < s.size) (hk : nameOk s[k] = false) : s.data.toList.all nameOk = false := by
  rw [List.all_eq_false]
  exact ⟨s[k], List.mem_of_getElem? (i := k) (by rw [List.getElem?_eq_getElem (by simpa using h)]; rfl), by simp [hk]⟩

theorem nameOk_no1 (c : UInt8) (h : ((c.toNat : Int) ≤ 32 ∨ 127 ≤ (c.toNat : Int)) ∨ ((c.toNat : Int) == 47) = true) : nameOk c = false := by
  simp only [nameOk, decide_eq_false_iff_not, beq_iff_eq] at h ⊢
  omega
theorem nameOk_yes (c : UInt8) (h : (32 < (c.toNat : Int) ∧ (c.toNat : Int) < 127) ∧ ((c.toNat : Int) == 47) = false) : nameOk c = true := by
  simp only [nameOk, decide_eq_true_eq, beq_eq_false_iff_ne] at h ⊢
  omega
end Go.Proofs.YtdmdgnghaceibaaGreat
/- The program's isName, checkNames. -/
namespace Go.Proofs.YtdmdgnghaceibaaGreat.P
open M Go.ChangeShapes Go.WideShapes Go.ChangeAt Go.RowKit
set_option linter.unusedVariables false

theorem toList_data (s : ByteArray) : s.toList = s.data.toList := ByteArray.toList_eq s
theorem toList_nil (s : ByteArray) : s.toList = [] ↔ s.size = 0 := by
  rw [toList_data]
  show s.data.toList = [] ↔ s.data.size = 0
  rw [← Array.length_toList]
  exact List.length_eq_zero_iff.symm

set_option maxRecDepth 100000 in
set_option maxHeartbeats 1000000 in
theorem isName_any (s : ByteArray) (w : World) (hs : s.size ≤ maxLen) :
    Calls Tryz.prog 87 #[.string s] w fun e w' => e = .returned (.bool (isName s)) ∧ w' = w := by
  unfold maxLen at hs
  by_cases e0 : s.size = 0
  · have H := hide (show isName s = false by
      have : s.toList = [] := (toList_nil s).2 e0
      simp [isName, badText, this])
    have f0 : ((s.size : Int) == 0) = true := by simpa using e0
    clear e0
    go_enter Tryz.func87, Tryz.ntmps87
    go_wp2
    go_ret
    exact ⟨by rw [H.out]; rfl, rfl⟩
  · have f0 : ((s.size : Int) == 0) = false := by simpa using e0
    by_cases e3 : 12 < s.size
    · have H := hide (show isName s = false by simp [isName, badText, e3])
      have f3 : (12 : Int) < (s.size : Int) := by omega
      clear e3 e0
      go_enter Tryz.func87, Tryz.ntmps87
      go_wp2
      go_ret
      exact ⟨by rw [H.out]; rfl, rfl⟩
    · have f3 : decide ((12 : Int) < (s.size : Int)) = false := decide_eq_false (by omega)
      have f4 : ¬ (12 : Int) < (s.size : Int) := by omega
      by_cases e1 : s.toList = [46]
      · have H := hide (show isName s = false by simp [isName, badText, e1])
        clear e0 e3
        go_enter Tryz.func87, Tryz.ntmps87
        go_wp2
        go_ret
        exact ⟨by rw [H.out]; rfl, rfl⟩
      · have f1 : (s.toList == [46]) = false := by simpa using e1
        by_cases e2 : s.toList = [46, 46]
        · have H := hide (show isName s = false by simp [isName, badText, e2])
          clear e0 e3
          go_enter Tryz.func87, Tryz.ntmps87
          go_wp2
          go_ret
          exact ⟨by rw [H.out]; rfl, rfl⟩
        · have f2 : (s.toList == [46, 46]) = false := by simpa using e2
          have e5 : ¬ s.toList = [] := fun h => e0 ((toList_nil s).1 h)
          have H := hide (show isName s = s.data.toList.all nameOk by simp [isName, badText, e5, e1, e2, e3])
          clear e0 e3 e5
          go_enter Tryz.func87, Tryz.ntmps87
          go_wp2
          go_loop [23] (fun i => ∃ k : Nat, k ≤ s.size ∧ i = .int .i64 k ∧ (s.data.toList.take k).all nameOk = true) (fun i => s.size - (intOf i).toNat)
          case atStart => exact ⟨0, Nat.zero_le _, rfl, rfl⟩
          case round =>
            obtain ⟨k, hk, rfl, hall⟩ := hrel
            have Hall := hide hall
            clear hall e1 e2 f0 f1 f2 f3 f4
            by_cases hlt : k < s.size
            · go_wp2
              · go_ret
                exact ⟨by rw [H.out, not_all s k hlt (nameOk_no1 _ (by rename_i h1 h2 h _; rcases h with (h | h) | h; exact .inl (.inl (by omega)); exact .inl (.inr (by omega)); exact .inr h))]; rfl, rfl⟩
              · go_round
                case rel => exact ⟨k + 1, by omega, by go_num, all_snoc s k hlt Hall.out (nameOk_yes _ (by rename_i h1 h2 h; exact ⟨⟨by omega, by omega⟩, h.2⟩))⟩
                case measure => simp [intOf]; omega
              · go_ret
                exact ⟨by rw [H.out, not_all s k hlt (nameOk_no1 _ (.inl (.inr (by omega))))]; rfl, rfl⟩
              · go_ret
                exact ⟨by rw [H.out, not_all s k hlt (nameOk_no1 _ (.inl (.inl (by omega))))]; rfl, rfl⟩
            · go_wp2
              go_ret
              exact ⟨by rw [H.out, ← Hall.out, List.take_of_length_le (by simpa using (show s.size ≤ k by omega))]; simp, rfl⟩

/-- What keeps texts from being the names of a walk. -/
def badNames (names : List ByteArray) : Int := if 16 < names.length then 11 else if names.any nameBad then 6 else 0

theorem names_form {w : World} {ao : Option Addr} {names : List ByteArray} (h : NamesAt w ao names) : names = [] ∨ ∃ nb no, ao = some ⟨nb, no, none⟩ := by
  cases hnm : names with
  | nil => exact .inl rfl
  | cons a l =>
    obtain ⟨_, nb, no, e, _⟩ := h.2 0 a (by rw [hnm]; rfl)
    exact .inr ⟨nb, no, e⟩

set_option maxRecDepth 20000 in
set_option maxHeartbeats 1000000 in
theorem checkNames_any {w : World} (names : List ByteArray) (ao : Option Addr) (nc : Nat) (hn : NamesAt w ao names) :
    Calls Tryz.prog 85 #[.slice ao names.length nc] w fun e w' => e = .returned (.int .i64 (badNames names)) ∧ w' = w := by
  have hnot : ∀ (x : Bool) (w : World), (Op.unary .not (.bool x)).run Tryz.prog w = .ok (.bool (!x)) w := fun _ _ => rfl
  have hl := hn.1
  unfold maxLen at hl
  by_cases hm : 16 < names.length
  · have H := hide (show badNames names = 11 by simp [badNames, hm])
    have m1 : (16 : Int) < (names.length : Int) := by omega
    clear hm hn
    go_enter Tryz.func85, Tryz.ntmps85
    go_wp2
    go_ret
    exact ⟨by rw [H.out]; rfl, rfl⟩
  · have H := hide (show badNames names = if names.any nameBad then 6 else 0 by simp [badNames, hm])
    have m1 : ¬ (16 : Int) < (names.length : Int) := by omega
    have m2 : decide ((16 : Int) < (names.length : Int)) = false := by simpa using m1
    clear hm
    rcases names_form hn with rfl | ⟨nb, no, rfl⟩
    · clear hn
      go_enter Tryz.func85, Tryz.ntmps85
      go_wp2
      go_loop [10] (fun i => i = .int .i64 0) (fun _ => 0)
      case atStart => rfl
      case round =>
        subst hrel
        go_wp2
        go_ret
        exact ⟨by rw [H.out]; rfl, rfl⟩
    · have Hn := hide hn
      clear hn
      go_enter Tryz.func85, Tryz.ntmps85
      go_wp2
      go_loop [10] (fun i => ∃ k : Nat, k ≤ names.length ∧ i = .int .i64 k ∧ (names.take k).any nameBad = false) (fun i => names.length - (intOf i).toNat)
      case atStart => exact ⟨0, Nat.zero_le _, rfl, by simp⟩
      case round =>
        obtain ⟨k, hk, rfl, hany⟩ := hrel
        have Hany := hide hany
        clear hany
        by_cases hlt : k < names.length
        · obtain ⟨s, hs⟩ := M.getElem?_of_lt hlt
          obtain ⟨hsz, nb', no', heq, hcell⟩ := Hn.out.2 k s hs
          have hs := hide hs
          cases heq
          by_cases e1 : s.toList = [46]
          · have Hb := hide (show nameBad s = false by simp [nameBad, e1])
            go_wp2_with fail
            go_round
            case rel => exact ⟨k + 1, by omega, by go_num, any_snoc nameBad hs.out Hany.out Hb.out⟩
            case measure => simp [intOf]; omega
          · have f1 : (s.toList == [46]) = false := by simpa using e1
            by_cases e2 : s.toList = [46, 46]
            · have Hb := hide (show nameBad s = false by simp [nameBad, e2])
              go_wp2_with fail
              go_round
              case rel => exact ⟨k + 1, by omega, by go_num, any_snoc nameBad hs.out Hany.out Hb.out⟩
              case measure => simp [intOf]; omega
            · have f2 : (s.toList == [46, 46]) = false := by simpa using e2
              cases hb : isName s with
              | true =>
                have Hb := hide (show nameBad s = false by simp [nameBad, hb])
                go_wp2_with (go_at_call 87; refine (isName_any s _ hsz).mono ?_; rintro e w' ⟨rfl, hw⟩; obtain rfl := hw.symm; rw [hb])
                go_round
                case rel => exact ⟨k + 1, by omega, by go_num, any_snoc nameBad hs.out Hany.out Hb.out⟩
                case measure => simp [intOf]; omega
              | false =>
                have Hb := hide (show nameBad s = true by simp [nameBad, hb, e1, e2])
                go_wp2_with (go_at_call 87; refine (isName_any s _ hsz).mono ?_; rintro e w' ⟨rfl, hw⟩; obtain rfl := hw.symm; rw [hb])
                go_ret
                exact ⟨by rw [H.out, any_hit nameBad hs.out Hb.out]; rfl, rfl⟩
        · go_wp2
          go_ret
          exact ⟨by rw [H.out, show names.any nameBad = false by have := Hany.out; rwa [List.take_of_length_le (by omega)] at this]; rfl, rfl⟩
end Go.Proofs.YtdmdgnghaceibaaGreat.P
/- The program's row.find, checkDirectory. -/
namespace Go.Proofs.YtdmdgnghaceibaaGreat.P
open M Go.ChangeShapes Go.WideShapes Go.ChangeAt Go.RowKit
set_option linter.unusedVariables false

/-- What 'find' hands back. -/
def foundV (L : Lay) : Option Nat → Value
  | none => .nilIface
  | some i => nodeV L i

/-- A row whose members are directories. -/
def RowDirs (st : St) (row : List Member) : Prop := ∀ m ∈ row, m.d < st.nodes.length ∧ isDir st m.d = true

theorem seenIn_drop (st : St) (name : ByteArray) (row : List Member) (k : Nat) (m : Member) (hm : row[k]? = some m) :
    seenIn st name (row.drop k) = if isGone st m.d then seenIn st name (row.drop (k + 1)) else match lies st m.d name with | some n => some n | none => seenIn st name (row.drop (k + 1)) := by
  have hlt := lt_of_getElem? hm
  have e : row[k] = m := by rw [List.getElem?_eq_getElem hlt] at hm; exact Option.some.inj hm
  rw [List.drop_eq_getElem_cons hlt, e]
  rfl

/-- What of a member's directory is read. -/
theorem TreeIs.member {w : World} {F : Nat → Prop} {t : Nat} {st : St} {L : Lay} {bv : Nat → Value} (h : TreeIs w F t st L bv) {d : Nat} (hd : d < st.nodes.length) (hdir : M.isDir st d = true) :
    ∃ x, st.nodes[d]? = some x ∧ DirIs w F L st d x ∧ w.cell? ⟨L.nb d, 2, none⟩ = some (.bool (isGone st d)) ∧ L.nb d < w.heap.size := by
  obtain ⟨x, hx⟩ := getElem?_of_lt hd
  have hxd : x.dir = true := by simpa [M.isDir, hx] using hdir
  have D := h.dir d x hx hxd
  exact ⟨x, hx, D, h.gone hd, D.blk.lt⟩

set_option maxRecDepth 20000 in
set_option maxHeartbeats 1000000 in
theorem find_any {w : World} {F : Nat → Prop} {t : Nat} {st : St} {L : Lay} {bv : Nat → Value} (row : List Member) (name : ByteArray) (v : Value) (h : TreeIs w F t st L bv) (hv : PRow w F L v row) (hok : RowDirs st row) (hname : name.size ≤ maxLen) :
    Calls Tryz.prog 88 #[v, .string name] w fun e w' => e = .returned (foundV L (seenIn st name row)) ∧ Below w.heap.size w w' := by
  rcases hv.opened with ⟨rfl, hn⟩ | ⟨g, cap, rfl, hcap, hmax, hF, hb, hcell, hfz⟩
  · have h0 : row = [] := List.map_eq_nil_iff.1 hn
    subst h0
    clear hv hn h hok
    go_enter Tryz.func88, Tryz.ntmps88
    go_wp2
    go_loop [11] (fun i => i = .int .i64 0) (fun _ => 0)
    case atStart => rfl
    case round =>
      subst hrel
      go_wp2
      go_ret
      exact ⟨rfl, Below.refl _ _⟩
  · have hlen : (row.map (mCells L)).length = row.length := by simp
    rw [hlen] at hcap hv
    rw [hlen]
    unfold maxLen at hmax
    have HT := hide h
    have hgb := hide hb
    have Hc := hide hcell
    have hglt : g < w.heap.size := by obtain ⟨cur, hb⟩ := hb; exact (Array.getElem?_eq_some_iff.1 hb).1
    have Hok := hide hok
    clear h hb hcell hfz hv hok hF hlen
    go_enter Tryz.func88, Tryz.ntmps88
    go_wp2
    go_loopw [11] (fun i wr => ∃ k : Nat, k ≤ row.length ∧ i = .int .i64 k ∧ Below w.heap.size w wr ∧ seenIn st name row = seenIn st name (row.drop k)) (fun i _ => row.length - (intOf i).toNat)
    case atStart => exact ⟨0, Nat.zero_le _, rfl, Below.refl _ _, by simp⟩
    case round =>
      obtain ⟨k, hk, rfl, hbel, hsee⟩ := hrel
      have Hbel := hide hbel
      have Hsee := hide hsee
      by_cases hlt : k < row.length
      · obtain ⟨m, hm⟩ := M.getElem?_of_lt hlt
        have hmm := List.mem_of_getElem? hm
        obtain ⟨hd, hdir⟩ := Hok.out m hmm
        obtain ⟨x, hx, D, hg2, hnlt⟩ := HT.out.member hd hdir
        have hrow : (row.map (mCells L))[k]? = some (mCells L m) := by rw [List.getElem?_map, hm]; rfl
        have r0 : wr.cell? ⟨g, k * 2, none⟩ = some (dirPtr L m.d) := (hbel.cell (p := ⟨g, k * 2, none⟩) hglt).trans (Hc.out k _ 0 _ hrow rfl)
        have r1 : wr.cell? ⟨g, k * 2 + 1, none⟩ = some (.bool m.leave) := (hbel.cell (p := ⟨g, k * 2 + 1, none⟩) hglt).trans (Hc.out k _ 1 _ hrow rfl)
        have g2 : wr.cell? ⟨L.nb m.d, 2, none⟩ = some (.bool (isGone st m.d)) := (hbel.cell (p := ⟨L.nb m.d, 2, none⟩) hnlt).trans hg2
        have g3 : wr.cell? ⟨L.nb m.d, 3, none⟩ = some (.map (some (L.mb m.d))) := (hbel.cell (p := ⟨L.nb m.d, 3, none⟩) hnlt).trans D.c3
        have hmap : MapIs wr (L.mb m.d) st.nodes.length (fun s => (lies st m.d s).map (nodeV L)) := D.map.kept (hbel.block _ D.map.lt)
        have Hm := hide hm
        have HD := hide D
        unfold dirPtr at r0
        clear hm hx D hrow hbel hsee hmm
        have k0 : (0 : Int) ≤ (k : Int) := by omega
        have k1 : (k : Int) < (row.length : Int) := by omega
        have g2' := fun o => up g2 o
        have g3' := fun o => up g3 o
        cases hgv : isGone st m.d with
        | true =>
          rw [hgv] at g2'
          go_wp2_with (go_at_call 94; refine (isGone_any _ _ _ (g2' _)).mono ?_; rintro e w' ⟨rfl, hw⟩; obtain rfl := hw.symm)
          refine ⟨⟨k + 1, by omega, by go_num, Hbel.out.alloc Hbel.out.size _, ?_⟩, by simp [intOf]; omega⟩
          rw [Hsee.out, seenIn_drop st name row k m Hm.out, if_pos hgv]
        | false =>
          rw [hgv] at g2'
          have hlk := (hmap.kept (w' := wr.alloc (.cells #[.pointer (some ⟨L.nb m.d, 0, none⟩), .bool m.leave] 165)) (Below.heap_alloc _ _ _ hmap.lt)).look name hname
          have hgv := hide hgv
          clear hmap
          cases hl : lies st m.d name with
          | none =>
            rw [hl] at hlk
            simp only [Option.map_none, Option.getD_none, Option.isSome_none] at hlk
            go_wp2_with (go_at_call 94; refine (isGone_any _ _ _ (g2' _)).mono ?_; rintro e w' ⟨rfl, hw⟩; obtain rfl := hw.symm)
            refine ⟨⟨k + 1, by omega, by go_num, Hbel.out.alloc Hbel.out.size _, ?_⟩, by simp [intOf]; omega⟩
            rw [Hsee.out, seenIn_drop st name row k m Hm.out, if_neg (by simp [hgv.out]), hl]
          | some j =>
            rw [hl] at hlk
            simp only [Option.map_some, Option.getD_some, Option.isSome_some] at hlk
            go_wp2_with (go_at_call 94; refine (isGone_any _ _ _ (g2' _)).mono ?_; rintro e w' ⟨rfl, hw⟩; obtain rfl := hw.symm)
            go_ret
            refine ⟨?_, Hbel.out.alloc Hbel.out.size _⟩
            rw [Hsee.out, seenIn_drop st name row k m Hm.out, if_neg (by simp [hgv.out]), hl]
            rfl
      · go_wp2
        go_ret
        refine ⟨?_, Hbel.out⟩
        rw [Hsee.out, List.drop_eq_nil_of_le (by omega)]
        rfl

/-- What keeps a place from being used as a directory. -/
def notDirE (st : St) (n : Nat) : Int := if isGone st n then 4 else if isDir st n then 0 else 5

set_option maxRecDepth 20000 in
set_option maxHeartbeats 1000000 in
theorem checkDirectory_any {w : World} {F : Nat → Prop} {t : Nat} {st : St} {L : Lay} {bv : Nat → Value} (p i : Nat) (h : TreeIs w F t st L bv) (hi : i < st.nodes.length) (c0 : w.cell? ⟨p, 0, none⟩ = some (nodeV L i)) :
    Calls Tryz.prog 54 #[.pointer (some ⟨p, 0, none⟩)] w fun e w' => e = .returned (.int .i64 (notDirE st i)) ∧ w' = w := by
  have hnot : ∀ (x : Bool) (w : World), (Op.unary .not (.bool x)).run Tryz.prog w = .ok (.bool (!x)) w := fun _ _ => rfl
  have hg := h.gone hi
  have hd := h.isDir hi
  have m1 := m_isGoneD
  have m2 := m_isGoneF
  have a1 := asDir
  have a2 := notDir
  clear h
  cases hgv : isGone st i with
  | true =>
    have H := hide (show notDirE st i = 4 by simp [notDirE, hgv])
    rw [hgv] at hg
    rcases nodeV_cases L i with e | e
    all_goals
      rw [e] at c0
      clear hd hgv e
      go_enter Tryz.func54, Tryz.ntmps54
      go_wp2_with (go_at_call 94; refine (isGone_any _ _ _ hg).mono ?_; rintro e w' ⟨rfl, hw⟩; obtain rfl := hw.symm)
      go_ret
      exact ⟨by rw [H.out]; rfl, rfl⟩
  | false =>
    rw [hgv] at hg
    cases hdv : isDir st i with
    | true =>
      have H := hide (show notDirE st i = 0 by simp [notDirE, hgv, hdv])
      have e : nodeV L i = .iface 87 (.pointer (some ⟨L.nb i, 0, none⟩)) := by rw [nodeV, hd, hdv]; rfl
      rw [e] at c0
      clear hd hgv hdv e
      go_enter Tryz.func54, Tryz.ntmps54
      go_wp2_with (go_at_call 94; refine (isGone_any _ _ _ hg).mono ?_; rintro e w' ⟨rfl, hw⟩; obtain rfl := hw.symm)
      go_ret
      exact ⟨by rw [H.out]; rfl, rfl⟩
    | false =>
      have H := hide (show notDirE st i = 5 by simp [notDirE, hgv, hdv])
      have e : nodeV L i = .iface 122 (.pointer (some ⟨L.nb i, 0, none⟩)) := by rw [nodeV, hd, hdv]; rfl
      rw [e] at c0
      clear hd hgv hdv e
      go_enter Tryz.func54, Tryz.ntmps54
      go_wp2_with (go_at_call 94; refine (isGone_any _ _ _ hg).mono ?_; rintro e w' ⟨rfl, hw⟩; obtain rfl := hw.symm)
      go_ret
      exact ⟨by rw [H.out]; rfl, rfl⟩
end Go.Proofs.YtdmdgnghaceibaaGreat.P
/- The document's own answer, more: Stat. -/
namespace Go.Proofs.YtdmdgnghaceibaaGreat.M

structure StatR where
  name : ByteArray
  dir : Bool
  size : Int
  version : Int
  row : Int

def noStat : StatR := ⟨⟨#[]⟩, false, 0, 0, 0⟩

def mStat (st : St) (n : Int) : St × StatR × Int :=
  match find st n with
  | none => (tick st, noStat, 2)
  | some i => match st.fids[i]? with
    | none => (tick st, noStat, 2)
    | some f => match f.way.getLast? with
      | none => (tick st, noStat, 2)
      | some s => match st.nodes[s.n]? with
        | none => (tick st, noStat, 2)
        | some x => if x.gone then (tick st, noStat, 4) else if x.dir then (tick st, ⟨x.name, true, 0, 0, liveRow st s.row⟩, 0) else (tick st, ⟨x.name, false, x.data.size, x.version, 0⟩, 0)
end Go.Proofs.YtdmdgnghaceibaaGreat.M
/- The document's own answer, more: Read. -/
namespace Go.Proofs.YtdmdgnghaceibaaGreat.M

/-- The bytes from a place on, so many at most. -/
def textAt (d : ByteArray) (a c : Nat) : ByteArray := if a < d.size then d.extract a (min (a + c) d.size) else ⟨#[]⟩

def dataOf (st : St) (f : Fid) : ByteArray := match st.nodes[nodeOf f]? with | some x => x.data | none => ⟨#[]⟩

def mRead (st : St) (n a c : Int) : St × ByteArray × Int :=
  if mFile st (find st n) = 0 then
    (if a < 0 ∨ c < 0 then (tick st, ⟨#[]⟩, 1) else match find st n with
      | none => (tick st, ⟨#[]⟩, 2)
      | some i => match st.fids[i]? with
        | none => (tick st, ⟨#[]⟩, 2)
        | some f => (tick st, textAt (dataOf st f) a.toNat c.toNat, 0))
  else (tick st, ⟨#[]⟩, mFile st (find st n))

theorem textAt_stop {d : ByteArray} {a c k : Nat} (h1 : a ≤ k) (h2 : k ≤ d.size) (h3 : k - a ≤ c) (h4 : d.size ≤ k ∨ c ≤ k - a) (ha : a < d.size) : textAt d a c = d.extract a k := by
  unfold textAt
  rw [if_pos ha, show min (a + c) d.size = k by omega]

theorem extract_more (d : ByteArray) (a k : Nat) (h : a ≤ k) : d.extract a k ++ d.extract k (k + 1) = d.extract a (k + 1) :=
  (ByteArray.extract_eq_extract_append_extract k h (by omega)).symm
end Go.Proofs.YtdmdgnghaceibaaGreat.M
/- The document's own answer, more: Write. -/
namespace Go.Proofs.YtdmdgnghaceibaaGreat.M

def zeros (k : Nat) : ByteArray := ⟨Array.replicate k 0⟩
def padded (d : ByteArray) (a : Nat) : ByteArray := d ++ zeros (a - d.size)
/-- What a file holds behind a Write. -/
def over (d : ByteArray) (a : Nat) (t : ByteArray) : ByteArray :=
  (padded d a).extract 0 a ++ t ++ (if a + t.size < (padded d a).size then (padded d a).extract (a + t.size) (padded d a).size else ⟨#[]⟩)

def wroteNd (x : Nd) (a : Nat) (t : ByteArray) : Nd :=
  if t.size = 0 then { x with version := Go.RowKit.wrap64 (x.version + 1) } else { x with version := Go.RowKit.wrap64 (x.version + 1), data := over x.data a t }

def setNode (st : St) (i : Nat) (x : Nd) : St := { st with nodes := st.nodes.set i x }

def mWrite (st : St) (n a : Int) (t : ByteArray) : St × Int × Int :=
  if mFile st (find st n) = 0 then
    (if a < 0 then (tick st, 0, 1) else if 300 < a ∨ 300 < a + t.size then (tick st, 0, 12) else match find st n with
      | none => (tick st, 0, 2)
      | some i => match st.fids[i]? with
        | none => (tick st, 0, 2)
        | some f => match st.nodes[nodeOf f]? with
          | none => (tick st, 0, 2)
          | some x => (setNode (tick st) (nodeOf f) (wroteNd x a.toNat t), (t.size : Int), 0))
  else (tick st, 0, mFile st (find st n))

theorem size_zeros (k : Nat) : (zeros k).size = k := by simp [zeros, ByteArray.size]
theorem zeros_more (d : ByteArray) (k : Nat) : d ++ zeros k ++ ⟨#[0]⟩ = d ++ zeros (k + 1) := by
  apply ByteArray.ext
  simp [zeros, ByteArray.data_append, Array.replicate_succ]
theorem zeros_none (d : ByteArray) : d ++ zeros 0 = d := by
  apply ByteArray.ext
  simp [zeros, ByteArray.data_append]
theorem size_padded (d : ByteArray) (a : Nat) : (padded d a).size = max d.size a := by
  unfold padded
  rw [ByteArray.size_append, size_zeros]
  omega
end Go.Proofs.YtdmdgnghaceibaaGreat.M
/- The document's own answer, more: the names in a directory, List. -/
namespace Go.Proofs.YtdmdgnghaceibaaGreat.M

def ltB (a b : ByteArray) : Prop := a.data.toList < b.data.toList
instance (a b : ByteArray) : Decidable (ltB a b) := by unfold ltB; infer_instance

theorem ltB_irrefl (a : ByteArray) : ¬ ltB a a := List.lt_irrefl _
theorem ltB_trans {a b c : ByteArray} (h : ltB a b) (k : ltB b c) : ltB a c := List.lt_trans h k
theorem ltB_or {a b : ByteArray} (h : ¬ ltB a b) (hne : a ≠ b) : ltB b a := by
  unfold ltB at *
  by_cases k : b.data.toList < a.data.toList
  · exact k
  · refine absurd ?_ hne
    have e := List.le_antisymm (List.not_lt.1 h) (List.not_lt.1 k)
    cases a; cases b
    simp only [ByteArray.mk.injEq]
    exact Array.toList_inj.1 e.symm

/-- A name more, in its place. -/
def insName : List ByteArray → ByteArray → List ByteArray
  | [], s => [s]
  | x :: l, s => if ltB x s then x :: insName l s else if x = s then x :: l else s :: x :: l

theorem mem_insName {a s : ByteArray} : ∀ {l : List ByteArray}, a ∈ insName l s ↔ a = s ∨ a ∈ l
  | [] => by simp [insName]
  | x :: l => by
    unfold insName
    split
    · rw [List.mem_cons, mem_insName, List.mem_cons]
      constructor
      · rintro (h | h | h)
        · exact .inr (.inl h)
        · exact .inl h
        · exact .inr (.inr h)
      · rintro (h | h | h)
        · exact .inr (.inl h)
        · exact .inl h
        · exact .inr (.inr h)
    · split
      · rename_i e
        subst e
        simp
      · simp

theorem sorted_insName {s : ByteArray} : ∀ {l : List ByteArray}, l.Pairwise ltB → (insName l s).Pairwise ltB
  | [], _ => by simp [insName]
  | x :: l, h => by
    obtain ⟨h1, h2⟩ := List.pairwise_cons.1 h
    unfold insName
    split
    · rename_i hx
      refine List.pairwise_cons.2 ⟨fun a ha => ?_, sorted_insName h2⟩
      rcases mem_insName.1 ha with rfl | ha
      · exact hx
      · exact h1 a ha
    · rename_i hx
      split
      · exact h
      · rename_i hne
        refine List.pairwise_cons.2 ⟨fun a ha => ?_, h⟩
        have hs := ltB_or hx hne
        rcases List.mem_cons.1 ha with rfl | ha
        · exact hs
        · exact ltB_trans hs (h1 a ha)

def addName (d : Nat) (l : List ByteArray) (x : Nd) : List ByteArray := if x.inn = (d : Int) ∧ x.gone = false then insName l x.name else l
def namesIn (d : Nat) (nodes : List Nd) : List ByteArray := nodes.foldl (addName d) []
/-- The names of a directory's entries, in order. -/
def namesOf (st : St) (d : Nat) : List ByteArray := namesIn d st.nodes

theorem fold_names (d : Nat) : ∀ (nodes : List Nd) (l : List ByteArray), l.Pairwise ltB → (nodes.foldl (addName d) l).Pairwise ltB ∧ ∀ a, a ∈ nodes.foldl (addName d) l ↔ a ∈ l ∨ ∃ x ∈ nodes, x.inn = (d : Int) ∧ x.gone = false ∧ x.name = a
  | [], l, h => ⟨h, fun a => by simp⟩
  | x :: nodes, l, h => by
    rw [List.foldl_cons]
    unfold addName
    by_cases hc : x.inn = (d : Int) ∧ x.gone = false
    · obtain ⟨h1, h2⟩ := fold_names d nodes (insName l x.name) (sorted_insName h)
      simp only [if_pos hc]
      refine ⟨h1, fun a => (h2 a).trans ?_⟩
      rw [mem_insName]
      constructor
      · rintro ((rfl | h) | ⟨y, hy, r⟩)
        · exact .inr ⟨x, by simp, hc.1, hc.2, rfl⟩
        · exact .inl h
        · exact .inr ⟨y, by simp [hy], r⟩
      · rintro (h | ⟨y, hy, r1, r2, r3⟩)
        · exact .inl (.inr h)
        · rcases List.mem_cons.1 hy with rfl | hy
          · exact .inl (.inl r3.symm)
          · exact .inr ⟨y, hy, r1, r2, r3⟩
    · obtain ⟨h1, h2⟩ := fold_names d nodes l h
      simp only [if_neg hc]
      refine ⟨h1, fun a => (h2 a).trans ?_⟩
      constructor
      · rintro (h | ⟨y, hy, r⟩)
        · exact .inl h
        · exact .inr ⟨y, by simp [hy], r⟩
      · rintro (h | ⟨y, hy, r1, r2, r3⟩)
        · exact .inl h
        · rcases List.mem_cons.1 hy with rfl | hy
          · exact absurd ⟨r1, r2⟩ hc
          · exact .inr ⟨y, hy, r1, r2, r3⟩

theorem names_sorted (st : St) (d : Nat) : (namesOf st d).Pairwise ltB := (fold_names d st.nodes [] List.Pairwise.nil).1

theorem sorted_unique {l k : List ByteArray} (hl : l.Pairwise ltB) (hk : k.Pairwise ltB) (h : ∀ a, a ∈ l ↔ a ∈ k) : l = k := by
  have nd : ∀ {m : List ByteArray}, m.Pairwise ltB → m.Nodup := fun {m} hm => List.Pairwise.imp (fun {a b} (hab : ltB a b) (e : a = b) => by subst e; exact ltB_irrefl a hab) hm
  exact List.Perm.eq_of_pairwise (le := ltB) (fun a b _ _ h1 h2 => absurd (ltB_trans h1 h2) (ltB_irrefl a)) hl hk ((List.perm_ext_iff_of_nodup (nd hl) (nd hk)).2 h)

/-- What List tells of the first k members of a row. -/
def listUpto (st : St) (row : List Member) : Nat → List ByteArray
  | 0 => []
  | k + 1 => match row[k]? with
    | none => listUpto st row k
    | some m => if isGone st m.d then listUpto st row k else listUpto st row k ++ (namesOf st m.d).filter (fun s => (seenIn st s (row.take k)).isNone)

def mDirE (st : St) (o : Option Nat) : Int :=
  match o with
  | none => 2
  | some i => match st.fids[i]? with
    | none => 2
    | some f => if f.op then (if isGone st (nodeOf f) then 4 else if isDir st (nodeOf f) then 0 else 5) else 3

def fidRow (f : Fid) : List Member := match f.way.getLast? with | some s => s.row | none => []

def mList (st : St) (n : Int) : St × List ByteArray × Int :=
  if mDirE st (find st n) = 0 then match find st n with
    | none => (tick st, [], 2)
    | some i => match st.fids[i]? with
      | none => (tick st, [], 2)
      | some f => (tick st, listUpto st (fidRow f) (fidRow f).length, 0)
  else (tick st, [], mDirE st (find st n))
end Go.Proofs.YtdmdgnghaceibaaGreat.M
