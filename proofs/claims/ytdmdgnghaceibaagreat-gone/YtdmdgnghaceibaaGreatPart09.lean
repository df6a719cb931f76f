/- The program's place.stat. -/
import Derived.Test.YtdmdgnghaceibaaGreatPart08
import Derived.Test.YtdmdgnghaceibaaGreatPart02
import Derived.Test.YtdmdgnghaceibaaGreatPart03
import Derived.Test.YtdmdgnghaceibaaGreatIter
import Derived.Test.YtdmdgnghaceibaaGreatPart01
import Derived.Test.YtdmdgnghaceibaaGreatPart05
import Derived.Test.YtdmdgnghaceibaaGreatPart07
import Derived.Test.YtdmdgnghaceibaaGreatPart06
import Derived.Test.YtdmdgnghaceibaaGreatPart04
import Derived.Sort.Walk0
namespace Go.Proofs.YtdmdgnghaceibaaGreat.P
open M Go.ChangeShapes Go.WideShapes Go.ChangeAt Go.RowKit
set_option linter.unusedVariables false

def pStatV (r : StatR) : Value := .agg #[.string r.name, .bool r.dir, .int .i64 r.size, .int .i64 r.version, .int .i64 r.row]

theorem five (W : World) (b : Nat) (x0 x1 x2 x3 x4 v0 v1 v2 v3 v4 : Value) (e0 : W.cell? ⟨b, 0, none⟩ = some x0) (e1 : W.cell? ⟨b, 1, none⟩ = some x1) (e2 : W.cell? ⟨b, 2, none⟩ = some x2) (e3 : W.cell? ⟨b, 3, none⟩ = some x3) (e4 : W.cell? ⟨b, 4, none⟩ = some x4) :
    (W.setCell ⟨b, 0, none⟩ v0).cell? ⟨b, 0, none⟩ = some v0 ∧ ((W.setCell ⟨b, 0, none⟩ v0).setCell ⟨b, 1, none⟩ v1).cell? ⟨b, 1, none⟩ = some v1 ∧ (((W.setCell ⟨b, 0, none⟩ v0).setCell ⟨b, 1, none⟩ v1).setCell ⟨b, 2, none⟩ v2).cell? ⟨b, 2, none⟩ = some v2 ∧
    ((((W.setCell ⟨b, 0, none⟩ v0).setCell ⟨b, 1, none⟩ v1).setCell ⟨b, 2, none⟩ v2).setCell ⟨b, 3, none⟩ v3).cell? ⟨b, 3, none⟩ = some v3 ∧ (((((W.setCell ⟨b, 0, none⟩ v0).setCell ⟨b, 1, none⟩ v1).setCell ⟨b, 2, none⟩ v2).setCell ⟨b, 3, none⟩ v3).setCell ⟨b, 4, none⟩ v4).cell? ⟨b, 4, none⟩ = some v4 :=
  ⟨cell_same _ _ _ _ _ e0, cell_same _ _ _ _ _ ((cell_other _ _ _ _ _ (by decide)).trans e1), cell_same _ _ _ _ _ ((cell_other _ _ _ _ _ (by decide)).trans ((cell_other _ _ _ _ _ (by decide)).trans e2)),
    cell_same _ _ _ _ _ ((cell_other _ _ _ _ _ (by decide)).trans ((cell_other _ _ _ _ _ (by decide)).trans ((cell_other _ _ _ _ _ (by decide)).trans e3))), cell_same _ _ _ _ _ ((cell_other _ _ _ _ _ (by decide)).trans ((cell_other _ _ _ _ _ (by decide)).trans ((cell_other _ _ _ _ _ (by decide)).trans ((cell_other _ _ _ _ _ (by decide)).trans e4))))⟩

set_option maxRecDepth 20000 in
set_option maxHeartbeats 1000000 in
theorem stat_file {w : World} {p b : Nat} {name : ByteArray} {ao : Option Addr} {len cap : Nat} {ver : Int} (hname : name.size ≤ 12) (hlen : len ≤ 1000000)
    (c0 : w.cell? ⟨p, 0, none⟩ = some (.iface 122 (.pointer (some ⟨b, 0, none⟩)))) (b0 : w.cell? ⟨b, 0, none⟩ = some (.string name)) (b3 : w.cell? ⟨b, 3, none⟩ = some (.slice ao len cap)) (b4 : w.cell? ⟨b, 4, none⟩ = some (.int .i64 ver)) :
    Calls Tryz.prog 56 #[.pointer (some ⟨p, 0, none⟩)] w fun e w' => e = .returned (pStatV ⟨name, false, len, ver, 0⟩) ∧ Below w.heap.size w w' := by
  have m1 := m_calledF
  have a1 := asFile
  have hp : p < w.heap.size := World.block_lt_of_cell? w _ c0
  have hb : b < w.heap.size := World.block_lt_of_cell? w _ b0
  have u0 := fun o => up c0 o
  have v0 := fun o => up b0 o
  have v3 := fun o => up b3 o
  have v4 := fun o => up b4 o
  have hz : (w.alloc (.cells #[.string ⟨#[]⟩, .bool false, .int .i64 0, .int .i64 0, .int .i64 0] 39)).heap.size = w.heap.size + 1 := by simp
  clear c0 b0 b3 b4
  go_enter Tryz.func56, Tryz.ntmps56
  go_wp2_with (first | (go_at_call 245; refine (called_any b name _ (v0 _)).mono ?_; rintro e w' ⟨rfl, hw⟩; obtain rfl := hw.symm) | (go_at_call 97; refine (clone_any name _ (by omega)).mono ?_; rintro e w1 ⟨rfl, hb1⟩; have x0 : w1.cell? ⟨p, 0, none⟩ = some (.iface 122 (.pointer (some ⟨b, 0, none⟩))) := (hb1.cell (p := ⟨p, 0, none⟩) (by simp; omega)).trans (u0 _); have x3 : w1.cell? ⟨b, 3, none⟩ = some (.slice ao len cap) := (hb1.cell (p := ⟨b, 3, none⟩) (by simp; omega)).trans (v3 _); have x4 : w1.cell? ⟨b, 4, none⟩ = some (.int .i64 ver) := (hb1.cell (p := ⟨b, 4, none⟩) (by simp; omega)).trans (v4 _); have hblk : w1.heap[w.heap.size]? = some (.cells #[.string ⟨#[]⟩, .bool false, .int .i64 0, .int .i64 0, .int .i64 0] 39 (0, 0)) := (hb1.block w.heap.size (by simp)).trans (heap_alloc_new w _); have HB1 := hide hb1; have x0' := (fun o => up x0 o); have x3' := (fun o => up x3 o); have x4' := (fun o => up x4 o); have HBlk := hide hblk; clear hb1 hblk))
  have hblk := HBlk.out
  have s0 : w1.cell? ⟨w.heap.size, 0, none⟩ = some (.string ⟨#[]⟩) := by simp [World.cell?, hblk]
  have s1 : w1.cell? ⟨w.heap.size, 1, none⟩ = some (.bool false) := by simp [World.cell?, hblk]
  have s2 : w1.cell? ⟨w.heap.size, 2, none⟩ = some (.int .i64 0) := by simp [World.cell?, hblk]
  have s3 : w1.cell? ⟨w.heap.size, 3, none⟩ = some (.int .i64 0) := by simp [World.cell?, hblk]
  have s4 : w1.cell? ⟨w.heap.size, 4, none⟩ = some (.int .i64 0) := by simp [World.cell?, hblk]
  have sf : ∀ j, w1.frozen? ⟨w.heap.size, j, none⟩ = false := fun j => by simp [World.frozen?, hblk]
  clear hblk
  have T0 : ∀ o : Obj, (w1.alloc o).cell? ⟨w.heap.size, 0, none⟩ = some (.string ⟨#[]⟩) := fun o => up s0 o
  have Z0 := fun o => upz s0 o (sf 0)
  have T1 : ∀ o : Obj, ((w1.alloc o).setCell ⟨w.heap.size, 0, none⟩ (.string name)).cell? ⟨w.heap.size, 1, none⟩ = some (.bool false) := fun o => (cell_other _ _ _ _ _ (by decide)).trans (up s1 o)
  have Z1 := fun o => upz s1 o (sf 1)
  have T2 : ∀ o : Obj, (((w1.alloc o).setCell ⟨w.heap.size, 0, none⟩ (.string name)).setCell ⟨w.heap.size, 1, none⟩ (.bool false)).cell? ⟨w.heap.size, 2, none⟩ = some (.int .i64 0) := fun o => (cell_other _ _ _ _ _ (by decide)).trans ((cell_other _ _ _ _ _ (by decide)).trans (up s2 o))
  have Z2 := fun o => upz s2 o (sf 2)
  have T3 : ∀ o : Obj, ((((w1.alloc o).setCell ⟨w.heap.size, 0, none⟩ (.string name)).setCell ⟨w.heap.size, 1, none⟩ (.bool false)).setCell ⟨w.heap.size, 2, none⟩ (.int .i64 len)).cell? ⟨w.heap.size, 3, none⟩ = some (.int .i64 0) := fun o => (cell_other _ _ _ _ _ (by decide)).trans ((cell_other _ _ _ _ _ (by decide)).trans ((cell_other _ _ _ _ _ (by decide)).trans (up s3 o)))
  have Z3 := fun o => upz s3 o (sf 3)
  have T4 : ∀ o : Obj, (((((w1.alloc o).setCell ⟨w.heap.size, 0, none⟩ (.string name)).setCell ⟨w.heap.size, 1, none⟩ (.bool false)).setCell ⟨w.heap.size, 2, none⟩ (.int .i64 len)).setCell ⟨w.heap.size, 3, none⟩ (.int .i64 ver)).cell? ⟨w.heap.size, 4, none⟩ = some (.int .i64 0) := fun o => (cell_other _ _ _ _ _ (by decide)).trans ((cell_other _ _ _ _ _ (by decide)).trans ((cell_other _ _ _ _ _ (by decide)).trans ((cell_other _ _ _ _ _ (by decide)).trans (up s4 o))))
  have Z4 := fun o => upz s4 o (sf 4)
  go_region
  go_wp2
  clear T0 T1 T2 T3 T4 Z0 Z1 Z2 Z3 Z4
  obtain ⟨q0, q1, q2, q3, q4⟩ := five (w1.alloc (.cells #[.string name, .bool false, .int .i64 len, .int .i64 ver, .int .i64 0] 39)) w.heap.size _ _ _ _ _ (.string name) (.bool false) (.int .i64 len) (.int .i64 ver) (.int .i64 0) (up s0 _) (up s1 _) (up s2 _) (up s3 _) (up s4 _)
  refine bodyPost_ret (v := pStatV ⟨name, false, len, ver, 0⟩) (by simp [results, Tryz.results56, go_sem, q0, q1, q2, q3, q4, pStatV]) rfl ?_
  refine ⟨rfl, ?_⟩
  have e1 : Below w.heap.size w w1 := ((Below.refl _ w).alloc (Nat.le_refl _) _).trans (HB1.out.mono (by simp))
  exact ((((((e1.alloc e1.size _).setCell (Nat.le_refl _) _).setCell (Nat.le_refl _) _).setCell (Nat.le_refl _) _).setCell (Nat.le_refl _) _).setCell (Nat.le_refl _) _).drew

set_option maxRecDepth 20000 in
set_option maxHeartbeats 1000000 in
theorem stat_dir {w : World} {p b : Nat} {name : ByteArray} {ao : Option Addr} {len cap : Nat} {n : Int} (hname : name.size ≤ 12)
    (c0 : w.cell? ⟨p, 0, none⟩ = some (.iface 87 (.pointer (some ⟨b, 0, none⟩)))) (c1 : w.cell? ⟨p, 1, none⟩ = some (.slice ao len cap)) (b0 : w.cell? ⟨b, 0, none⟩ = some (.string name))
    (hcount : ∀ W, Below w.heap.size w W → Calls Tryz.prog 98 #[.slice ao len cap] W fun e w' => e = .returned (.int .i64 n) ∧ Below W.heap.size W w') :
    Calls Tryz.prog 56 #[.pointer (some ⟨p, 0, none⟩)] w fun e w' => e = .returned (pStatV ⟨name, true, 0, 0, n⟩) ∧ Below w.heap.size w w' := by
  have m1 := m_calledD
  have a1 := asDir
  have a2 := notFile
  have hp : p < w.heap.size := World.block_lt_of_cell? w _ c0
  have u0 := fun o => up c0 o
  have u1 := fun o => up c1 o
  have v0 := fun o => up b0 o
  have HCount := hide hcount
  clear c0 b0 c1 hcount
  go_enter Tryz.func56, Tryz.ntmps56
  go_wp2_with (first | (go_at_call 245; refine (called_any b name _ (v0 _)).mono ?_; rintro e w' ⟨rfl, hw⟩; obtain rfl := hw.symm) | (go_at_call 97; refine (clone_any name _ (by omega)).mono ?_; rintro e w1 ⟨rfl, hb1⟩; have x0 : w1.cell? ⟨p, 0, none⟩ = some (.iface 87 (.pointer (some ⟨b, 0, none⟩))) := (hb1.cell (p := ⟨p, 0, none⟩) (by simp; omega)).trans (u0 _); have x1 : w1.cell? ⟨p, 1, none⟩ = some (.slice ao len cap) := (hb1.cell (p := ⟨p, 1, none⟩) (by simp; omega)).trans (u1 _); have hblk : w1.heap[w.heap.size]? = some (.cells #[.string ⟨#[]⟩, .bool false, .int .i64 0, .int .i64 0, .int .i64 0] 39 (0, 0)) := (hb1.block w.heap.size (by simp)).trans (heap_alloc_new w _); have HB1 := hide (show Below w.heap.size w w1 from ((Below.refl _ w).alloc (Nat.le_refl _) _).trans (hb1.mono (by simp))); have x0' := (fun o => up x0 o); have x1' := (fun o => up x1 o); have HBlk := hide hblk; clear hb1 hblk))
  refine (HCount.out _ (HB1.out.alloc HB1.out.size _)).mono ?_
  rintro e w2 ⟨rfl, hb2⟩
  have HB2 := hide (show Below w.heap.size w w2 from (HB1.out.alloc HB1.out.size _).trans (hb2.mono (by have := HB1.out.size; simp; omega)))
  have hz1 : w.heap.size < w1.heap.size := (Array.getElem?_eq_some_iff.1 HBlk.out).1
  have hblk : w2.heap[w.heap.size]? = some (.cells #[.string ⟨#[]⟩, .bool false, .int .i64 0, .int .i64 0, .int .i64 0] 39 (0, 0)) := (hb2.block w.heap.size (by simp; omega)).trans ((Below.heap_alloc _ _ _ hz1).trans HBlk.out)
  have hout : w2.heap[w1.heap.size]? = some (.cells #[.string name, .bool false, .int .i64 0, .int .i64 0, .int .i64 0] 39 (0, 0)) := (hb2.block w1.heap.size (by simp)).trans (heap_alloc_new w1 _)
  obtain ⟨O, hO⟩ : ∃ O, O = w1.heap.size := ⟨_, rfl⟩
  have hne : w.heap.size ≠ O := by omega
  clear hb2
  rw [← hO] at hout ⊢
  have y0 : w2.cell? ⟨O, 0, none⟩ = some (.string name) := by simp [World.cell?, hout]
  have y1 : w2.cell? ⟨O, 1, none⟩ = some (.bool false) := by simp [World.cell?, hout]
  have y2 : w2.cell? ⟨O, 2, none⟩ = some (.int .i64 0) := by simp [World.cell?, hout]
  have y3 : w2.cell? ⟨O, 3, none⟩ = some (.int .i64 0) := by simp [World.cell?, hout]
  have y4 : w2.cell? ⟨O, 4, none⟩ = some (.int .i64 0) := by simp [World.cell?, hout]
  have yf : ∀ j, w2.frozen? ⟨O, j, none⟩ = false := fun j => by simp [World.frozen?, hout]
  have s0 : w2.cell? ⟨w.heap.size, 0, none⟩ = some (.string ⟨#[]⟩) := by simp [World.cell?, hblk]
  have s1 : w2.cell? ⟨w.heap.size, 1, none⟩ = some (.bool false) := by simp [World.cell?, hblk]
  have s2 : w2.cell? ⟨w.heap.size, 2, none⟩ = some (.int .i64 0) := by simp [World.cell?, hblk]
  have s3 : w2.cell? ⟨w.heap.size, 3, none⟩ = some (.int .i64 0) := by simp [World.cell?, hblk]
  have s4 : w2.cell? ⟨w.heap.size, 4, none⟩ = some (.int .i64 0) := by simp [World.cell?, hblk]
  have sf : ∀ j, w2.frozen? ⟨w.heap.size, j, none⟩ = false := fun j => by simp [World.frozen?, hblk]
  have HO := hide hO
  have ne1 : ¬ w.heap.size = O := hne
  have ne2 : ¬ O = w.heap.size := fun h => hne h.symm
  clear hout hblk hO hne
  go_wp2
  have ob : ∀ (j : Nat) (v : Value), w2.cell? ⟨w.heap.size, j, none⟩ = some v → ((w2.setCell ⟨O, 1, none⟩ (.bool true)).setCell ⟨O, 4, none⟩ (.int .i64 n)).cell? ⟨w.heap.size, j, none⟩ = some v := fun j v h =>
    (World.cell?_setCell_other _ ⟨O, 4, none⟩ ⟨w.heap.size, j, none⟩ _ (fun e => ne2 (congrArg Addr.block e))).trans ((World.cell?_setCell_other _ ⟨O, 1, none⟩ ⟨w.heap.size, j, none⟩ _ (fun e => ne2 (congrArg Addr.block e))).trans h)
  obtain ⟨q0, q1, q2, q3, q4⟩ := five ((w2.setCell ⟨O, 1, none⟩ (.bool true)).setCell ⟨O, 4, none⟩ (.int .i64 n)) w.heap.size _ _ _ _ _ (.string name) (.bool true) (.int .i64 0) (.int .i64 0) (.int .i64 n) (ob _ _ s0) (ob _ _ s1) (ob _ _ s2) (ob _ _ s3) (ob _ _ s4)
  refine bodyPost_ret (v := pStatV ⟨name, true, 0, 0, n⟩) (by simp [results, Tryz.results56, go_sem, q0, q1, q2, q3, q4, pStatV]) rfl ?_
  refine ⟨rfl, ?_⟩
  have hO1 : w.heap.size ≤ O := by have := HB1.out.size; rw [HO.out]; exact this
  exact ((((((HB2.out.setCell hO1 _).setCell hO1 _).setCell (Nat.le_refl _) _).setCell (Nat.le_refl _) _).setCell (Nat.le_refl _) _).setCell (Nat.le_refl _) _).setCell (Nat.le_refl _) _
end Go.Proofs.YtdmdgnghaceibaaGreat.P
/- The program's Stat. -/
namespace Go.Proofs.YtdmdgnghaceibaaGreat.P
open M Go.ChangeShapes Go.WideShapes Go.ChangeAt Go.RowKit
set_option linter.unusedVariables false

/-- How Stat ends. -/
def PEnds3 (w : World) (F : Nat → Prop) (s : Nat) (p : St × StatR × Int) (e : Ending) (w' : World) : Prop := e = .returned (.tuple #[pStatV p.2.1, .int .i64 p.2.2]) ∧ SrvIs w' (ext F w w') s p.1 ∧ Ext F w w'

abbrev zeroStat : Obj := .cells #[.string ⟨#[]⟩, .bool false, .int .i64 0, .int .i64 0, .int .i64 0] 39

/-- The place of a Stat, written full. -/
def putStat (W : World) (b : Nat) (r : StatR) : World := ((((W.setCell ⟨b, 0, none⟩ (.string r.name)).setCell ⟨b, 1, none⟩ (.bool r.dir)).setCell ⟨b, 2, none⟩ (.int .i64 r.size)).setCell ⟨b, 3, none⟩ (.int .i64 r.version)).setCell ⟨b, 4, none⟩ (.int .i64 r.row)

theorem putStat_other (W : World) (b : Nat) (r : StatR) (k : Nat) (h : k ≠ b) : (putStat W b r).heap[k]? = W.heap[k]? := by
  unfold putStat
  exact (Below.heap_setCell _ _ _ k h).trans ((Below.heap_setCell _ _ _ k h).trans ((Below.heap_setCell _ _ _ k h).trans ((Below.heap_setCell _ _ _ k h).trans (Below.heap_setCell _ _ _ k h))))

theorem stat_close {w W : World} {F G : Nat → Prop} {s t : Nat} {st' : St} {L : Lay} {bv : Nat → Value} (r : StatR) (hS : SrvHas W G s st' 1 t L bv) (hGB : ¬ G w.heap.size) (hG : ∀ k, G k → ext F w W k) (hx : Ext F w W) (hblk : W.heap[w.heap.size]? = some zeroStat) :
    Held (putStat W w.heap.size r) (ext F w (putStat W w.heap.size r)) s st' ∧ Ext F w (putStat W w.heap.size r) ∧
      (left (putStat W w.heap.size r) s).cell? ⟨w.heap.size, 0, none⟩ = some (.string r.name) ∧ (left (putStat W w.heap.size r) s).cell? ⟨w.heap.size, 1, none⟩ = some (.bool r.dir) ∧ (left (putStat W w.heap.size r) s).cell? ⟨w.heap.size, 2, none⟩ = some (.int .i64 r.size) ∧
      (left (putStat W w.heap.size r) s).cell? ⟨w.heap.size, 3, none⟩ = some (.int .i64 r.version) ∧ (left (putStat W w.heap.size r) s).cell? ⟨w.heap.size, 4, none⟩ = some (.int .i64 r.row) := by
  have hz : (putStat W w.heap.size r).heap.size = W.heap.size := by simp [putStat]
  have hne : s ≠ w.heap.size := fun e => hGB (e ▸ hS.blk.own)
  have hk : KeepX (fun _ => True) True G W (putStat W w.heap.size r) :=
    ⟨fun k _ _ hGk _ _ => putStat_other W _ r k (fun e => hGB (e ▸ hGk)), fun _ k _ _ hGk _ => putStat_other W _ r k (fun e => hGB (e ▸ hGk))⟩
  have s0 : W.cell? ⟨w.heap.size, 0, none⟩ = some (.string ⟨#[]⟩) := by simp [World.cell?, hblk]
  have s1 : W.cell? ⟨w.heap.size, 1, none⟩ = some (.bool false) := by simp [World.cell?, hblk]
  have s2 : W.cell? ⟨w.heap.size, 2, none⟩ = some (.int .i64 0) := by simp [World.cell?, hblk]
  have s3 : W.cell? ⟨w.heap.size, 3, none⟩ = some (.int .i64 0) := by simp [World.cell?, hblk]
  have s4 : W.cell? ⟨w.heap.size, 4, none⟩ = some (.int .i64 0) := by simp [World.cell?, hblk]
  have lf : ∀ (X : World) (j : Nat), (left X s).cell? ⟨w.heap.size, j, none⟩ = X.cell? ⟨w.heap.size, j, none⟩ := fun X j => World.cell?_setCell_other _ ⟨s, 3, none⟩ ⟨w.heap.size, j, none⟩ _ (fun e => hne (congrArg Addr.block e))
  refine ⟨⟨t, L, bv, (hS.kept hk).mono (fun k hk => ext_mono (by rw [hz]; exact Nat.le_refl _) k (hG k hk))⟩, ?_, ?_, ?_, ?_, ?_, ?_⟩
  · unfold putStat
    exact ((((hx.setCell (a := ⟨w.heap.size, 0, none⟩) (.inr (Nat.le_refl _)) _).setCell (a := ⟨w.heap.size, 1, none⟩) (.inr (Nat.le_refl _)) _).setCell (a := ⟨w.heap.size, 2, none⟩) (.inr (Nat.le_refl _)) _).setCell (a := ⟨w.heap.size, 3, none⟩) (.inr (Nat.le_refl _)) _).setCell (a := ⟨w.heap.size, 4, none⟩) (.inr (Nat.le_refl _)) _
  · rw [lf]
    unfold putStat
    rw [cell_other _ _ _ _ _ (by decide), cell_other _ _ _ _ _ (by decide), cell_other _ _ _ _ _ (by decide), cell_other _ _ _ _ _ (by decide)]
    exact cell_same _ _ _ _ _ s0
  · rw [lf]
    unfold putStat
    rw [cell_other _ _ _ _ _ (by decide), cell_other _ _ _ _ _ (by decide), cell_other _ _ _ _ _ (by decide)]
    exact cell_same _ _ _ _ _ ((cell_other _ _ _ _ _ (by decide)).trans s1)
  · rw [lf]
    unfold putStat
    rw [cell_other _ _ _ _ _ (by decide), cell_other _ _ _ _ _ (by decide)]
    exact cell_same _ _ _ _ _ ((cell_other _ _ _ _ _ (by decide)).trans ((cell_other _ _ _ _ _ (by decide)).trans s2))
  · rw [lf]
    unfold putStat
    rw [cell_other _ _ _ _ _ (by decide)]
    exact cell_same _ _ _ _ _ ((cell_other _ _ _ _ _ (by decide)).trans ((cell_other _ _ _ _ _ (by decide)).trans ((cell_other _ _ _ _ _ (by decide)).trans s3)))
  · rw [lf]
    unfold putStat
    exact cell_same _ _ _ _ _ ((cell_other _ _ _ _ _ (by decide)).trans ((cell_other _ _ _ _ _ (by decide)).trans ((cell_other _ _ _ _ _ (by decide)).trans ((cell_other _ _ _ _ _ (by decide)).trans s4))))

set_option maxRecDepth 20000 in
set_option maxHeartbeats 1000000 in
theorem stat_any {w : World} {F : Nat → Prop} {s : Nat} {st : St} (n : Int) (h : SrvIs w F s st) (ok : POk st) (hF : ∀ k, F k → k < w.heap.size) (hsz : ∀ x ∈ st.nodes, x.data.size ≤ 1000000) :
    Calls Tryz.prog 20 #[.pointer (some ⟨s, 0, none⟩), .int .i64 n] w fun e w' => PEnds3 w F s (mStat st n) e w' := by
  go_enter_defers Tryz.func20, Tryz.ntmps20
  go_wp2_with fail
  refine (enter_any (F := F) (st := st) (h.kept (KeepX.below ((Below.refl _ w).alloc (Nat.le_refl _) _)))).mono ?_
  rintro e w1 ⟨rfl, hH, hx⟩
  clear h
  obtain ⟨t, L, bv, hS⟩ := hH
  have hblk : w1.heap[w.heap.size]? = some (.cells #[.string ⟨#[]⟩, .bool false, .int .i64 0, .int .i64 0, .int .i64 0] 39 (0, 0)) := (hx.block w.heap.size (by simp) (fun h => by have := hF _ h; omega)).trans (heap_alloc_new w _)
  have s0 : w1.cell? ⟨w.heap.size, 0, none⟩ = some (.string ⟨#[]⟩) := by simp [World.cell?, hblk]
  have s1 : w1.cell? ⟨w.heap.size, 1, none⟩ = some (.bool false) := by simp [World.cell?, hblk]
  have s2 : w1.cell? ⟨w.heap.size, 2, none⟩ = some (.int .i64 0) := by simp [World.cell?, hblk]
  have s3 : w1.cell? ⟨w.heap.size, 3, none⟩ = some (.int .i64 0) := by simp [World.cell?, hblk]
  have s4 : w1.cell? ⟨w.heap.size, 4, none⟩ = some (.int .i64 0) := by simp [World.cell?, hblk]
  have sf : ∀ j, w1.frozen? ⟨w.heap.size, j, none⟩ = false := fun j => by simp [World.frozen?, hblk]
  have HBlk : Hid (w1.heap[w.heap.size]? = some zeroStat) := hide hblk
  have HGB := hide (show ¬ ext F (w.alloc zeroStat) w1 w.heap.size from fun h => by
    rcases h with h | h
    · have := hF _ h; omega
    · have := h.1; simp at this; omega)
  have HX := hide (show Ext F w w1 from ((Ext.refl F w).alloc _).trans' hx)
  have HG := hide (show ∀ k, ext F (w.alloc zeroStat) w1 k → ext F w w1 k from ext_le (by simp) (Nat.le_refl _))
  clear hblk hx
  rcases fid_cases hS ok.tick.fids n with ⟨hf, hno⟩ | ⟨k, i, f, p, rfl, hk, hf, hi, hn, ha, c7, c8, hp⟩
  · have H := hide (show mStat st n = (tick st, noStat, 2) by unfold mStat; rw [show find st n = none from hf])
    have hS := hide hS
    clear hf
    go_wp2_with (go_at_call 45; refine (standing_no hno).mono ?_; rintro e w' ⟨rfl, hw⟩; obtain rfl := hw.symm)
    have hcl := stat_close (r := noStat) (F := F) hS.out HGB.out HG.out HX.out HBlk.out
    obtain ⟨hD, hxW, q0, q1, q2, q3, q4⟩ := hcl
    show bodyPostD _ _ _ _ _ (putStat w1 w.heap.size noStat)
    refine leaves_cons (f := 43) (args := #[.pointer (some ⟨s, 0, none⟩)]) (by simp) (by simp [go_sem]) ?_
    refine (leave_deferred .returning hD).mono ?_
    rintro e u' w'' ⟨rfl, rfl, rfl⟩
    refine ⟨.tuple #[pStatV noStat, .int .i64 2], (by simp [results, Tryz.results20, go_sem, q0, q1, q2, q3, q4, pStatV]), ?_⟩
    obtain ⟨h1, h2⟩ := left_close (w1 := w) hD hxW
    exact ⟨by rw [H.out], by rw [H.out]; exact h1, h2⟩
  · obtain ⟨sp, hsp, d0, ⟨v, d1, hv⟩, hplt⟩ := place_last hp
    have hin := ((ok.way f (List.mem_of_getElem? hi)).2 sp (List.mem_of_getLast? hsp)).1
    have hrd := ((ok.way f (List.mem_of_getElem? hi)).2 sp (List.mem_of_getLast? hsp)).2
    obtain ⟨x, hxn⟩ := getElem?_of_lt hin
    have e0 : mStat st k = if x.gone then (tick st, noStat, 4) else if x.dir then (tick st, ⟨x.name, true, 0, 0, liveRow st sp.row⟩, 0) else (tick st, ⟨x.name, false, x.data.size, x.version, 0⟩, 0) := by
      unfold mStat
      rw [show find st k = some i from hf]
      simp only
      rw [show st.fids[i]? = some f from hi]
      simp only
      rw [hsp]
      simp only
      rw [hxn]
    have hg0 := hS.tree.gone (i := sp.n) hin
    have hgx : isGone (tick st) sp.n = x.gone := by show isGone st sp.n = x.gone; simp [isGone, hxn]
    rw [hgx] at hg0
    have hkind := hS.tree.kind sp.n x hxn
    have m1 := m_isGoneD
    have m2 := m_isGoneF
    cases hgv : x.gone with
    | true =>
      have H := hide (e0.trans (if_pos hgv))
      rw [hgv] at hg0
      have hS := hide hS
      clear hf hi ha hp hn e0 hkind hgx hv
      rcases nodeV_cases L sp.n with e | e
      all_goals
        rw [e] at d0
        go_wp2_with (first | (go_at_call 45; refine (standing_some s k p hk _ c7).mono ?_; rintro e w' ⟨rfl, hw⟩; obtain rfl := hw.symm) | (go_at_call 94; refine (isGone_any _ _ _ hg0).mono ?_; rintro e w' ⟨rfl, hw⟩; obtain rfl := hw.symm))
        have hcl := stat_close (r := noStat) (F := F) hS.out HGB.out HG.out HX.out HBlk.out
        obtain ⟨hD, hxW, q0, q1, q2, q3, q4⟩ := hcl
        show bodyPostD _ _ _ _ _ (putStat w1 w.heap.size noStat)
        refine leaves_cons (f := 43) (args := #[.pointer (some ⟨s, 0, none⟩)]) (by simp) (by simp [go_sem]) ?_
        refine (leave_deferred .returning hD).mono ?_
        rintro e u' w'' ⟨rfl, rfl, rfl⟩
        refine ⟨.tuple #[pStatV noStat, .int .i64 4], (by simp [results, Tryz.results20, go_sem, q0, q1, q2, q3, q4, pStatV]), ?_⟩
        obtain ⟨h1, h2⟩ := left_close (w1 := w) hD hxW
        exact ⟨by rw [H.out], by rw [H.out]; exact h1, h2⟩
    | false =>
      rw [hgv] at hg0
      have e1 := e0.trans (if_neg (by simp [hgv]))
      cases hdv : x.dir with
      | false =>
        have H := hide (e1.trans (if_neg (by simp [hdv])))
        have FI := hS.tree.file sp.n x hxn hdv
        obtain ⟨bao, bc, hbv⟩ := FI.data.form
        have hbl : (byteCells x.data).length = x.data.size := by unfold byteCells; rw [List.length_map, Array.length_toList]; rfl
        rw [hbl] at hbv
        have f3 := FI.c3
        rw [hbv] at f3
        have en : nodeV L sp.n = .iface 122 (.pointer (some ⟨L.nb sp.n, 0, none⟩)) := by rw [nodeV, hkind, hdv]; rfl
        rw [en] at d0
        have HStat := hide (stat_file (ok.names x (List.mem_of_getElem? hxn)) (hsz x (List.mem_of_getElem? hxn)) d0 FI.c0 f3 FI.c4)
        have hS := hide hS
        clear hf hi ha hp hn e0 e1 hkind hgx hv FI hbv f3
        go_wp2_with (first | (go_at_call 45; refine (standing_some s k p hk _ c7).mono ?_; rintro e w' ⟨rfl, hw⟩; obtain rfl := hw.symm) | (go_at_call 94; refine (isGone_any _ _ _ hg0).mono ?_; rintro e w' ⟨rfl, hw⟩; obtain rfl := hw.symm))
        refine HStat.out.mono ?_
        rintro e w2 ⟨rfl, hb2⟩
        unfold pStatV
        have hb1z : w.heap.size < w1.heap.size := (Array.getElem?_eq_some_iff.1 HBlk.out).1
        have hblk2 : w2.heap[w.heap.size]? = some zeroStat := (hb2.block w.heap.size hb1z).trans HBlk.out
        have HBlk2 := hide hblk2
        have HS2 := hide (hS.out.below hb2)
        have HX2 := hide (HX.out.trans' (Ext.below hb2))
        have HG2 := hide (show ∀ k, ext F (w.alloc zeroStat) w1 k → ext F w w2 k from fun k h => ext_mono hb2.size k (HG.out k h))
        have y0 : w2.cell? ⟨w.heap.size, 0, none⟩ = some (.string ⟨#[]⟩) := by simp [World.cell?, hblk2]
        have y1 : w2.cell? ⟨w.heap.size, 1, none⟩ = some (.bool false) := by simp [World.cell?, hblk2]
        have y2 : w2.cell? ⟨w.heap.size, 2, none⟩ = some (.int .i64 0) := by simp [World.cell?, hblk2]
        have y3 : w2.cell? ⟨w.heap.size, 3, none⟩ = some (.int .i64 0) := by simp [World.cell?, hblk2]
        have y4 : w2.cell? ⟨w.heap.size, 4, none⟩ = some (.int .i64 0) := by simp [World.cell?, hblk2]
        have yf : ∀ j, w2.frozen? ⟨w.heap.size, j, none⟩ = false := fun j => by simp [World.frozen?, hblk2]
        clear hblk2 hb2
        go_wp2
        have hcl := stat_close (r := ⟨x.name, false, x.data.size, x.version, 0⟩) (F := F) HS2.out HGB.out HG2.out HX2.out HBlk2.out
        obtain ⟨hD, hxW, q0, q1, q2, q3, q4⟩ := hcl
        show bodyPostD _ _ _ _ _ (putStat w2 w.heap.size ⟨x.name, false, x.data.size, x.version, 0⟩)
        refine leaves_cons (f := 43) (args := #[.pointer (some ⟨s, 0, none⟩)]) (by simp) (by simp [go_sem]) ?_
        refine (leave_deferred .returning hD).mono ?_
        rintro e u' w'' ⟨rfl, rfl, rfl⟩
        refine ⟨.tuple #[pStatV ⟨x.name, false, x.data.size, x.version, 0⟩, .int .i64 0], (by simp [results, Tryz.results20, go_sem, q0, q1, q2, q3, q4, pStatV]), ?_⟩
        obtain ⟨h1, h2⟩ := left_close (w1 := w) hD hxW
        exact ⟨by rw [H.out], by rw [H.out]; exact h1, h2⟩
      | true =>
        have H := hide (e1.trans (if_pos hdv))
        have DI := hS.tree.dir sp.n x hxn hdv
        obtain ⟨rao, rc, hvv⟩ := hv.form
        rw [List.length_map] at hvv
        subst hvv
        have en : nodeV L sp.n = .iface 87 (.pointer (some ⟨L.nb sp.n, 0, none⟩)) := by rw [nodeV, hkind, hdv]; rfl
        rw [en] at d0
        have HStat := hide (stat_dir (n := (liveRow st sp.row : Int)) (ok.names x (List.mem_of_getElem? hxn)) d0 d1 DI.c0 (fun W hW => count_any (st := tick st) sp.row _ (hS.tree.kept (KeepX.below hW)) (hv.kept (KeepX.below (T := fun _ => True) (M := True) hW) trivial) hrd.1 hrd.2))
        have hS := hide hS
        clear hf hi ha hp hn e0 e1 hkind hgx hv DI
        go_wp2_with (first | (go_at_call 45; refine (standing_some s k p hk _ c7).mono ?_; rintro e w' ⟨rfl, hw⟩; obtain rfl := hw.symm) | (go_at_call 94; refine (isGone_any _ _ _ hg0).mono ?_; rintro e w' ⟨rfl, hw⟩; obtain rfl := hw.symm))
        refine HStat.out.mono ?_
        rintro e w2 ⟨rfl, hb2⟩
        unfold pStatV
        have hb1z : w.heap.size < w1.heap.size := (Array.getElem?_eq_some_iff.1 HBlk.out).1
        have hblk2 : w2.heap[w.heap.size]? = some zeroStat := (hb2.block w.heap.size hb1z).trans HBlk.out
        have HBlk2 := hide hblk2
        have HS2 := hide (hS.out.below hb2)
        have HX2 := hide (HX.out.trans' (Ext.below hb2))
        have HG2 := hide (show ∀ k, ext F (w.alloc zeroStat) w1 k → ext F w w2 k from fun k h => ext_mono hb2.size k (HG.out k h))
        have y0 : w2.cell? ⟨w.heap.size, 0, none⟩ = some (.string ⟨#[]⟩) := by simp [World.cell?, hblk2]
        have y1 : w2.cell? ⟨w.heap.size, 1, none⟩ = some (.bool false) := by simp [World.cell?, hblk2]
        have y2 : w2.cell? ⟨w.heap.size, 2, none⟩ = some (.int .i64 0) := by simp [World.cell?, hblk2]
        have y3 : w2.cell? ⟨w.heap.size, 3, none⟩ = some (.int .i64 0) := by simp [World.cell?, hblk2]
        have y4 : w2.cell? ⟨w.heap.size, 4, none⟩ = some (.int .i64 0) := by simp [World.cell?, hblk2]
        have yf : ∀ j, w2.frozen? ⟨w.heap.size, j, none⟩ = false := fun j => by simp [World.frozen?, hblk2]
        clear hblk2 hb2
        go_wp2
        have hcl := stat_close (r := ⟨x.name, true, 0, 0, (liveRow st sp.row : Int)⟩) (F := F) HS2.out HGB.out HG2.out HX2.out HBlk2.out
        obtain ⟨hD, hxW, q0, q1, q2, q3, q4⟩ := hcl
        show bodyPostD _ _ _ _ _ (putStat w2 w.heap.size ⟨x.name, true, 0, 0, (liveRow st sp.row : Int)⟩)
        refine leaves_cons (f := 43) (args := #[.pointer (some ⟨s, 0, none⟩)]) (by simp) (by simp [go_sem]) ?_
        refine (leave_deferred .returning hD).mono ?_
        rintro e u' w'' ⟨rfl, rfl, rfl⟩
        refine ⟨.tuple #[pStatV ⟨x.name, true, 0, 0, (liveRow st sp.row : Int)⟩, .int .i64 0], (by simp [results, Tryz.results20, go_sem, q0, q1, q2, q3, q4, pStatV]), ?_⟩
        obtain ⟨h1, h2⟩ := left_close (w1 := w) hD hxW
        exact ⟨by rw [H.out], by rw [H.out]; exact h1, h2⟩
end Go.Proofs.YtdmdgnghaceibaaGreat.P
/- A directory's names in order: slices.Sorted(maps.Keys(m)), by the library's contracts. -/
namespace Go.Proofs.YtdmdgnghaceibaaGreat.P
open M Go.ChangeShapes Go.WideShapes Go.ChangeAt Go.RowKit
set_option linter.unusedVariables false

/-- The texts at which a map has something, in order. -/
structure Keys (f : ByteArray → Option Value) (l : List ByteArray) : Prop where
  order : l.Pairwise (fun a b => a.data.toList < b.data.toList)
  mem : ∀ s, s ∈ l ↔ s.size ≤ maxLen ∧ (f s).isSome = true

def strRows (l : List ByteArray) : List (List Value) := l.map fun s => [.string s]

theorem map_size_le {H : Type} {P : Program} {k : TypeId} {R : Value → Option (DataW H × List MemPlace)} {w : World} {b n : Nat} {D : DataW H} (h : w.ownsMap P k R b n D) : Go.Maps.size D ≤ n := by
  obtain ⟨es, clock, _, _, hs, rfl⟩ := h
  rw [Go.Maps.size_eq, (sorted_perm _).length_eq, List.length_map, Array.length_toList]
  exact hs

theorem lt_of_le_ne {a b : List UInt8} (h : a ≤ b) (hne : a ≠ b) : a < b := by
  by_cases hlt : a < b
  · exact hlt
  · exact absurd (List.le_antisymm h (List.not_lt.1 hlt)) hne

theorem keys_of_sorted {w : World} {b n : Nat} {f : ByteArray → Option Value} {D : DataW Value} (hown : w.ownsMap Tryz.prog 9 rawElem b n D)
    (hf : ∀ s : ByteArray, s.size ≤ maxLen → Go.Maps.has D (.string s.data.toList) = (f s).isSome ∧ ∀ v, f s = some v → ∀ z, D.atKey (.string s.data.toList) z = .held v) {ss : List (List UInt8)} (hp : ss.Perm (strKeys D)) :
    Keys f ((ss.mergeSort (fun x y => decide (x ≤ y))).map fun x => ⟨x.toArray⟩) := by
  have tr : ∀ a b c : List UInt8, decide (a ≤ b) = true → decide (b ≤ c) = true → decide (a ≤ c) = true := fun a b c h1 h2 => by simp only [decide_eq_true_eq] at *; exact List.le_trans h1 h2
  have tto : ∀ a b : List UInt8, (decide (a ≤ b) || decide (b ≤ a)) = true := fun a b => by simp only [Bool.or_eq_true, decide_eq_true_eq]; exact List.le_total a b
  have hle := strKeys_le hown Tryz.underlying9
  have hmem : ∀ x, x ∈ ss ↔ Go.Maps.has D (.string x) = true := fun x => by
    rw [hp.mem_iff]
    obtain ⟨es, rfl, hko⟩ := hown.keysOf
    rw [Go.Maps.has_eq, List.any_eq_true]
    show x ∈ es.map (fun p => strOf p.1) ↔ _
    rw [List.mem_map]
    constructor
    · rintro ⟨p, hp', rfl⟩
      obtain ⟨v, hv⟩ := hko p hp'
      obtain ⟨y, _, hy, _⟩ := Maps.keyOf_str Tryz.underlying9 hv
      exact ⟨p, hp', by rw [hy]; simp [Lit.sameKey, strOf]⟩
    · rintro ⟨p, hp', hs⟩
      obtain ⟨v, hv⟩ := hko p hp'
      obtain ⟨y, _, hy, _⟩ := Maps.keyOf_str Tryz.underlying9 hv
      rw [hy] at hs
      exact ⟨p, hp', by rw [hy]; simpa [Lit.sameKey, strOf] using hs⟩
  have hnd : ss.Nodup := by
    rw [hp.nodup_iff]
    obtain ⟨es, hD, hpw, _⟩ := hown.entries strKeyed
    obtain ⟨es', hD', hko⟩ := hown.keysOf
    obtain rfl : es = es' := by rw [hD] at hD'; simpa using hD'
    subst hD
    show (es.map fun p => strOf p.1).Nodup
    refine List.pairwise_map.2 (hpw.imp_of_mem fun {p q} hp' hq' hne e => hne ?_)
    obtain ⟨v, hv⟩ := hko p hp'
    obtain ⟨x, _, hx, _⟩ := Maps.keyOf_str Tryz.underlying9 hv
    obtain ⟨v', hv'⟩ := hko q hq'
    obtain ⟨y, _, hy, _⟩ := Maps.keyOf_str Tryz.underlying9 hv'
    rw [hx, hy] at e ⊢
    exact congrArg _ e
  have hnd' : (ss.mergeSort (fun x y => decide (x ≤ y))).Nodup := ((List.mergeSort_perm ss _).nodup_iff).2 hnd
  refine ⟨?_, fun s => ?_⟩
  · refine List.pairwise_map.2 ?_
    refine ((List.pairwise_mergeSort tr tto ss).and hnd').imp (fun {a b} h => ?_)
    have h1 : a ≤ b := by simpa using h.1
    simpa using lt_of_le_ne h1 h.2
  · rw [List.mem_map]
    constructor
    · rintro ⟨x, hx, rfl⟩
      have hx' : x ∈ ss := (List.mergeSort_perm ss _).mem_iff.1 hx
      have hl : x.length ≤ maxLen := hle x (hp.mem_iff.1 hx')
      have hs : (⟨x.toArray⟩ : ByteArray).size ≤ maxLen := by simpa [ByteArray.size] using hl
      refine ⟨hs, ?_⟩
      rw [← (hf ⟨x.toArray⟩ hs).1]
      simpa using (hmem x).1 hx'
    · rintro ⟨hs, hfs⟩
      rw [← (hf s hs).1] at hfs
      exact ⟨s.data.toList, (List.mergeSort_perm ss _).mem_iff.2 ((hmem _).2 hfs), by simp⟩

theorem keys_any (b : Nat) (w : World) : Calls Tryz.prog 96 #[.map (some b)] w fun e w' => e = .returned (.func (.func 131) #[] #[.pointer (some ⟨w.heap.size, 0, none⟩)]) ∧ w' = w.alloc (.cells #[.map (some b)] 166) :=
  callsIn_wide.1 (Tryz.maps_Keys_96 (some b) w)

/-- What 'slices.Sorted' gives for what 'maps.Keys' gave. -/
theorem sorted_any {w : World} {b n : Nat} {f : ByteArray → Option Value} (h : MapIs w b n f) (hn : n ≤ 1700000000000) :
    Calls Tryz.prog 95 #[.func (.func 131) #[] #[.pointer (some ⟨w.heap.size, 0, none⟩)]] (w.alloc (.cells #[.map (some b)] 166)) fun e w' => ∃ (v : Value) (l : List ByteArray), e = .returned v ∧ Keys f l ∧ l.length ≤ n ∧
      Own w' (fun k => w.heap.size + 1 ≤ k ∧ k < w'.heap.size) 9 1 v (strRows l) ∧ Below (w.heap.size + 1) (w.alloc (.cells #[.map (some b)] 166)) w' := by
  obtain ⟨D, hD, hf⟩ := h
  have hsz := map_size_le hD
  refine callsIn_wide.1 ((Tryz.slices_Sorted_keys_95_96 b n D rawElem w hD (by unfold maxLen; omega) (by omega)).mono ?_)
  rintro e w' ⟨v, ss, rfl, hp, hrow, hnil, hb⟩
  have hl : ss.length ≤ n := by
    rw [hp.length_eq]
    obtain ⟨es, rfl, _⟩ := hD.keysOf
    show (es.map fun p => strOf p.1).length ≤ n
    rw [List.length_map]
    exact hsz
  have hz : (w.alloc (.cells #[.map (some b)] 166)).heap.size = w.heap.size + 1 := by simp
  rw [hz] at hb hrow
  refine ⟨v, (ss.mergeSort (fun x y => decide (x ≤ y))).map fun x => ⟨x.toArray⟩, rfl, keys_of_sorted hD hf hp, by rw [List.length_map, List.length_mergeSort]; exact hl, ⟨?_, ?_, fun k hk => hrow.lt k hk⟩, hb⟩
  · have hlen : (strRows ((ss.mergeSort (fun x y => decide (x ≤ y))).map fun x => ⟨x.toArray⟩)).length = ss.length := by
      unfold strRows
      rw [List.length_map, List.length_map, List.length_mergeSort]
    have hfl : (strRows ((ss.mergeSort (fun x y => decide (x ≤ y))).map fun x => ⟨x.toArray⟩)).flatten = (ss.mergeSort (fun x y => decide (x ≤ y))).map encStr := by
      unfold strRows
      generalize ss.mergeSort (fun x y => decide (x ≤ y)) = l
      induction l with
      | nil => rfl
      | cons x l ih => simp only [List.map_cons, List.flatten_cons, ih]; rfl
    rw [hlen, hfl]
    obtain ⟨h1, h2⟩ := hrow
    refine ⟨h1, ?_⟩
    rcases h2 with h2 | ⟨g, cap, cur, e, _, r⟩
    · exact .inl h2
    · exact .inr ⟨g, cap, cur, e, Nat.zero_le _, r⟩
  · intro r hr
    unfold strRows at hr
    obtain ⟨s, _, rfl⟩ := List.mem_map.1 hr
    rfl
end Go.Proofs.YtdmdgnghaceibaaGreat.P
/- The program's row.list. -/
namespace Go.Proofs.YtdmdgnghaceibaaGreat.P
open M Go.ChangeShapes Go.WideShapes Go.ChangeAt Go.RowKit
set_option linter.unusedVariables false

theorem infoString : (Tryz.prog.info? 9).map (fun i => (i.zero, i.size, i.bytes)) = some (some (.string ⟨#[]⟩), 1, 16) := by kernel_rfl

/-- The blocks that were made between two worlds. -/
def nw (w w' : World) : Nat → Prop := fun k => w.heap.size ≤ k ∧ k < w'.heap.size

theorem len_strRows (l : List ByteArray) : (strRows l).length = l.length := by unfold strRows; rw [List.length_map]
theorem strRows_append (a b : List ByteArray) : strRows (a ++ b) = strRows a ++ strRows b := by unfold strRows; rw [List.map_append]
theorem strRows_one (s : ByteArray) : strRows [s] = [[.string s]] := rfl

theorem lies_isSome {st : St} {d : Nat} {s : ByteArray} : (lies st d s).isSome = true ↔ ∃ x ∈ st.nodes, x.inn = (d : Int) ∧ x.gone = false ∧ x.name = s := by
  unfold lies
  rw [List.findIdx?_isSome, List.any_eq_true]
  constructor
  · rintro ⟨x, hx, h⟩
    unfold liesHere at h
    simp only [Bool.and_eq_true, beq_iff_eq, decide_eq_true_eq, Bool.not_eq_true'] at h
    exact ⟨x, hx, h.1.1, h.2, bytes_eq (by rw [← toList_data, ← toList_data]; exact h.1.2)⟩
  · rintro ⟨x, hx, h1, h2, rfl⟩
    exact ⟨x, hx, by unfold liesHere; simp [h1, h2]⟩

theorem names_of_keys {st : St} {d : Nat} {L : Lay} {l : List ByteArray} (hn : ∀ x ∈ st.nodes, x.name.size ≤ 12) (h : Keys (fun s => (lies st d s).map (nodeV L)) l) : l = namesOf st d := by
  refine sorted_unique h.order (names_sorted st d) (fun a => ?_)
  have h2 : a ∈ namesOf st d ↔ _ := (fold_names d st.nodes [] List.Pairwise.nil).2 a
  rw [h.mem a, h2, Option.isSome_map, lies_isSome]
  constructor
  · rintro ⟨_, x, hx, r⟩
    exact .inr ⟨x, hx, r⟩
  · rintro (h | ⟨x, hx, r1, r2, r3⟩)
    · simp at h
    · exact ⟨by rw [← r3]; have := hn x hx; unfold maxLen; omega, x, hx, r1, r2, r3⟩

theorem names_small {st : St} {d : Nat} (hn : ∀ x ∈ st.nodes, x.name.size ≤ 12) {s : ByteArray} (h : s ∈ namesOf st d) : s.size ≤ 12 := by
  have h2 : s ∈ namesOf st d ↔ _ := (fold_names d st.nodes [] List.Pairwise.nil).2 s
  rcases h2.1 h with h | ⟨x, hx, _, _, rfl⟩
  · simp at h
  · exact hn x hx

theorem filter_take_succ {α : Type} (P : α → Bool) (l : List α) (q : Nat) (s : α) (h : l[q]? = some s) : (l.take (q + 1)).filter P = (l.take q).filter P ++ (if P s then [s] else []) := by
  have hlt := M.lt_of_getElem? h
  have e : l[q] = s := by rw [List.getElem?_eq_getElem hlt] at h; exact Option.some.inj h
  rw [List.take_succ_eq_append_getElem hlt, e, List.filter_append]
  cases hp : P s <;> simp [hp]

theorem listUpto_gone {st : St} {row : List Member} {k : Nat} {m : Member} (hm : row[k]? = some m) (hg : isGone st m.d = true) : listUpto st row (k + 1) = listUpto st row k := by
  show (match row[k]? with | none => _ | some m => _) = _
  rw [hm]
  simp [hg]
theorem listUpto_live {st : St} {row : List Member} {k : Nat} {m : Member} (hm : row[k]? = some m) (hg : isGone st m.d = false) : listUpto st row (k + 1) = listUpto st row k ++ (namesOf st m.d).filter (fun s => (seenIn st s (row.take k)).isNone) := by
  show (match row[k]? with | none => _ | some m => _) = _
  rw [hm]
  simp [hg]

/-- What List has told so far. -/
structure Told (w wr : World) (l : List ByteArray) (out : Value) : Prop where
  own : Own wr (nw w wr) 9 1 out (strRows l)
  form : ∃ ao c, out = .slice ao l.length c
  below : Below w.heap.size w wr

theorem Told.nil (w : World) : Told w w [] (.slice none 0 0) := ⟨Own.nil _ _ _ _, ⟨none, 0, rfl⟩, Below.refl _ _⟩
theorem Told.kept {w wr w' : World} {l : List ByteArray} {out : Value} (h : Told w wr l out) (hb : Below wr.heap.size wr w') : Told w w' l out :=
  ⟨(h.own.keptBlock (fun k hk => hb.block k (h.own.2.2 k hk).2)).mono (fun k hk => ⟨hk.1, Nat.lt_of_lt_of_le hk.2 hb.size⟩), h.form, ⟨hb.os.trans h.below.os, hb.tape.trans h.below.tape, hb.output.trans h.below.output, Nat.le_trans h.below.size hb.size, fun k hk => (hb.block k (Nat.lt_of_lt_of_le hk h.below.size)).trans (h.below.block k hk)⟩⟩

/-- Beside what was told, the names that are gone through. -/
structure Told2 (w wr : World) (base : List ByteArray) (out : Value) (l : List ByteArray) (sv : Value) : Prop where
  told : Told w wr base out
  own : Own wr (nw w wr) 9 1 sv (strRows l)
  apart : ∀ b, out.ownBlock = some b → sv.ownBlock ≠ some b

theorem Told2.kept {w wr w' : World} {base l : List ByteArray} {out sv : Value} (h : Told2 w wr base out l sv) (hb : Below wr.heap.size wr w') : Told2 w w' base out l sv :=
  ⟨h.told.kept hb, (h.own.keptBlock (fun k hk => hb.block k (h.own.2.2 k hk).2)).mono (fun k hk => ⟨hk.1, Nat.lt_of_lt_of_le hk.2 hb.size⟩), h.apart⟩

theorem Told2.push {w wX w' : World} {base l : List ByteArray} {out sv : Value} {s : ByteArray} {ao : Option Addr} {n c : Nat} (h : Told2 w wX base out l sv) (hn : n = base.length + 1)
    (ho : Own w' (ext (nw w wX) wX w') 9 1 (.slice ao n c) (strRows base ++ [[.string s]])) (hg : wX.grownBy w' out.ownBlock) (hb : ∀ b, (Value.slice ao n c).ownBlock = some b → out.ownBlock = some b ∨ wX.heap.size ≤ b) : Told2 w w' (base ++ [s]) (.slice ao n c) l sv := by
  have hz := hg.size
  have hw := h.told.below.size
  have hsub : ∀ k, ext (nw w wX) wX w' k → nw w w' k := fun k hk => by
    rcases hk with hk | hk
    · exact ⟨hk.1, Nat.lt_of_lt_of_le hk.2 hz⟩
    · exact ⟨Nat.le_trans hw hk.1, hk.2⟩
  refine ⟨⟨?_, ⟨ao, c, by rw [hn]; simp⟩, ?_⟩, ?_, fun b hb' => ?_⟩
  · rw [strRows_append, strRows_one]
    exact ho.mono hsub
  · refine ⟨hg.os.trans h.told.below.os, hg.tape.trans h.told.below.tape, hg.output.trans h.told.below.output, Nat.le_trans hw hz, fun k hk => (hg.block k (Nat.lt_of_lt_of_le hk hw) (fun e => ?_)).trans (h.told.below.block k hk)⟩
    have := (h.told.own.2.2 k e.symm).1
    omega
  · exact (h.own.keptBlock (fun k hk => hg.block k (h.own.2.2 k hk).2 (fun e => h.apart k e.symm hk))).mono (fun k hk => ⟨hk.1, Nat.lt_of_lt_of_le hk.2 hz⟩)
  · rcases hb b hb' with q | q
    · exact h.apart b q
    · intro e
      have := (h.own.2.2 b e).2
      omega

theorem row_take {w : World} {F : Nat → Prop} {L : Lay} {g n cap : Nat} {row : List Member} (h : PRow w F L (.slice (some ⟨g, 0, none⟩) n cap) row) (k : Nat) (hk : k ≤ n) : PRow w F L (.slice (some ⟨g, 0, none⟩) k cap) (row.take k) := by
  have := Own.take h k hk
  rw [← List.map_take] at this
  exact this

set_option maxRecDepth 20000 in
set_option maxHeartbeats 2000000 in
theorem list_any {w : World} {F : Nat → Prop} {t : Nat} {st : St} {L : Lay} {bv : Nat → Value} (row : List Member) (v : Value) (h : TreeIs w F t st L bv) (hv : PRow w F L v row) (hok : RowDirs st row) (hlen6 : row.length ≤ 6) (hnm : ∀ x ∈ st.nodes, x.name.size ≤ 12) (hnodes : st.nodes.length ≤ 1700000000000)
    (hsmall : ∀ k, k ≤ row.length → (listUpto st row k).length ≤ 1000000) :
    Calls Tryz.prog 55 #[v] w fun e w' => ∃ out, e = .returned out ∧ Told w w' (listUpto st row row.length) out := by
  rcases hv.opened with ⟨rfl, hn⟩ | ⟨g, cap, rfl, hcap, hmax, hF, hb, hcell, hfz⟩
  · have h0 : row = [] := List.map_eq_nil_iff.1 hn
    subst h0
    clear hv hn h hok
    go_enter Tryz.func55, Tryz.ntmps55
    go_wp2
    go_loop [3, 10] (fun o i => i = .int .i64 0 ∧ o = .slice none 0 0) (fun _ _ => 0)
    case atStart => exact ⟨rfl, rfl⟩
    case round =>
      obtain ⟨rfl, rfl⟩ := hrel
      go_wp2
      go_ret
      exact ⟨_, rfl, Told.nil w⟩
  · have hlen : (row.map (mCells L)).length = row.length := by simp
    rw [hlen] at hcap hv
    rw [hlen]
    have HT := hide h
    have Hc := hide hcell
    have hglt : g < w.heap.size := by obtain ⟨cur, hb⟩ := hb; exact (Array.getElem?_eq_some_iff.1 hb).1
    have Hok := hide hok
    have Hv := hide hv
    have Hsm := hide hsmall
    clear h hb hcell hfz hv hok hF hlen hmax hsmall
    go_enter Tryz.func55, Tryz.ntmps55
    go_wp2
    go_loopw [3, 10] (fun o i wr => ∃ k : Nat, k ≤ row.length ∧ i = .int .i64 k ∧ Told w wr (listUpto st row k) o) (fun _ i _ => row.length - (intOf i).toNat)
    case atStart => exact ⟨0, Nat.zero_le _, rfl, Told.nil w⟩
    case round =>
      obtain ⟨k, hk, rfl, hTo⟩ := hrel
      have hbel := hTo.below
      have Hbel := hide hbel
      obtain ⟨ao, co, rfl⟩ := hTo.form
      have HTo := hide hTo
      clear hTo
      by_cases hlt : k < row.length
      · obtain ⟨m, hm⟩ := M.getElem?_of_lt hlt
        have hmm := List.mem_of_getElem? hm
        obtain ⟨hd, hdir⟩ := Hok.out m hmm
        obtain ⟨x, hx, D, hg2, hnlt⟩ := HT.out.member hd hdir
        have hrow : (row.map (mCells L))[k]? = some (mCells L m) := by rw [List.getElem?_map, hm]; rfl
        have r0 : wr.cell? ⟨g, k * 2, none⟩ = some (dirPtr L m.d) := (hbel.cell (p := ⟨g, k * 2, none⟩) hglt).trans (Hc.out k _ 0 _ hrow rfl)
        have r1 : wr.cell? ⟨g, k * 2 + 1, none⟩ = some (.bool m.leave) := (hbel.cell (p := ⟨g, k * 2 + 1, none⟩) hglt).trans (Hc.out k _ 1 _ hrow rfl)
        have g2 : wr.cell? ⟨L.nb m.d, 2, none⟩ = some (.bool (isGone st m.d)) := (hbel.cell (p := ⟨L.nb m.d, 2, none⟩) hnlt).trans hg2
        have g3 : wr.cell? ⟨L.nb m.d, 3, none⟩ = some (.map (some (L.mb m.d))) := (hbel.cell (p := ⟨L.nb m.d, 3, none⟩) hnlt).trans D.c3
        have hMM := fun o => (D.map.kept (hbel.block _ D.map.lt)).kept (Below.heap_alloc wr o _ (Nat.lt_of_lt_of_le D.map.lt hbel.size))
        have HMM := hide hMM
        have Hm := hide hm
        unfold dirPtr at r0
        clear hm hx D hrow hbel hmm hg2 hMM
        have k0 : (0 : Int) ≤ (k : Int) := by omega
        have k1 : (k : Int) < (row.length : Int) := by omega
        have g2' := fun o => up g2 o
        have g3' := fun o => up g3 o
        cases hgv : isGone st m.d with
        | true =>
          rw [hgv] at g2'
          go_wp2_with (go_at_call 94; refine (isGone_any _ _ _ (g2' _)).mono ?_; rintro e w' ⟨rfl, hw⟩; obtain rfl := hw.symm)
          refine ⟨⟨k + 1, by omega, by go_num, ?_⟩, by simp [intOf]; omega⟩
          rw [listUpto_gone Hm.out hgv]
          exact HTo.out.kept ((Below.refl _ _).alloc (Nat.le_refl _) _)
        | false =>
          rw [hgv] at g2'
          have HG := hide hgv
          clear hgv
          go_wp2_with (first | (go_at_call 94; refine (isGone_any _ _ _ (g2' _)).mono ?_; rintro e w' ⟨rfl, hw⟩; obtain rfl := hw.symm))
          refine (keys_any _ _).mono ?_
          rintro e w2 ⟨rfl, rfl⟩
          go_wp2_with fail
          have hSo := sorted_any (HMM.out (.cells #[.pointer (some ⟨L.nb m.d, 0, none⟩), .bool m.leave] 165)) hnodes
          rw [show (wr.alloc (.cells #[.pointer (some ⟨L.nb m.d, 0, none⟩), .bool m.leave] 165)).heap.size = wr.heap.size + 1 by simp] at hSo
          refine hSo.mono ?_
          clear hSo
          rintro e w3 ⟨v3, l, rfl, hkeys, hll, hown3, hb3⟩
          obtain ⟨ao3, c3, rfl⟩ := hown3.form
          rw [len_strRows] at hown3 ⊢
          obtain rfl := names_of_keys hnm hkeys
          have h8 : ∀ (W : World) (o : Obj), (W.alloc o).heap.size = W.heap.size + 1 := fun W o => by simp
          have hbw : Below wr.heap.size wr w3 := ⟨hb3.os, hb3.tape, hb3.output, by have h9 := hb3.size; rw [h8, h8] at h9; omega, fun q hq => (hb3.block q (by omega)).trans ((Below.heap_alloc _ _ q (by rw [h8]; omega)).trans (Below.heap_alloc _ _ q hq))⟩
          have hT2 : Told2 w w3 (listUpto st row k) (.slice ao (listUpto st row k).length co) (namesOf st m.d) (.slice ao3 (namesOf st m.d).length c3) := by
            refine ⟨HTo.out.kept hbw, hown3.mono (fun q hq => ⟨?_, hq.2⟩), fun b hb e => ?_⟩
            · have := Hbel.out.size
              have := hq.1
              omega
            · have h1 := (HTo.out.own.2.2 b hb).2
              have h2 := (hown3.2.2 b e).1
              omega
          have HT2 := hide hT2
          have hnl : (namesOf st m.d).length ≤ 1700000000000 := by omega
          clear hkeys hll hown3 hb3 hbw hT2 h8
          go_wp2
          go_loopw [3, 28] (fun o j wr2 => ∃ q : Nat, q ≤ (namesOf st m.d).length ∧ j = .int .i64 q ∧ Told2 w wr2 (listUpto st row k ++ ((namesOf st m.d).take q).filter (fun s => (seenIn st s (row.take k)).isNone)) o (namesOf st m.d) (.slice ao3 (namesOf st m.d).length c3)) (fun _ j _ => (namesOf st m.d).length - (intOf j).toNat)
          case atStart => exact ⟨0, Nat.zero_le _, rfl, by simpa using HT2.out⟩
          case round =>
            obtain ⟨q, hq, rfl, h2⟩ := hrel
            have hsm : (listUpto st row k ++ ((namesOf st m.d).take q).filter (fun s => (seenIn st s (row.take k)).isNone)).length ≤ 1800000000000 := by
              rw [List.length_append]
              have h3 := Hsm.out k hk
              have h4 : (((namesOf st m.d).take q).filter (fun s => (seenIn st s (row.take k)).isNone)).length ≤ (namesOf st m.d).length := Nat.le_trans (List.length_filter_le _ _) (List.length_take_le' _ _)
              omega
            obtain ⟨B, hB⟩ : ∃ B, B = listUpto st row k ++ ((namesOf st m.d).take q).filter (fun s => (seenIn st s (row.take k)).isNone) := ⟨_, rfl⟩
            rw [← hB] at h2 hsm
            obtain ⟨ao2, co2, rfl⟩ := h2.told.form
            have HB := hide hB
            clear hB
            by_cases hql : q < (namesOf st m.d).length
            · obtain ⟨s, hs⟩ := M.getElem?_of_lt hql
              rcases h2.own.opened with ⟨e, _⟩ | ⟨g3, cap3, e, _, _, _, _, hc3, _⟩
              · injection e with _ e2 _
                omega
              · rw [len_strRows] at e
                simp only [Value.slice.injEq, true_and] at e
                obtain ⟨rfl, rfl⟩ := e
                have cs : wr.cell? ⟨g3, q, none⟩ = some (.string s) := by
                  have := hc3 q [.string s] 0 _ (by unfold strRows; rw [List.getElem?_map, hs]; rfl) rfl
                  simpa using this
                have hss : s.size ≤ 12 := names_small hnm (List.mem_of_getElem? hs)
                have hbw := h2.told.below
                have hFi := find_any (row.take k) s (.slice (some ⟨g, 0, none⟩) k cap) (HT.out.kept (KeepX.below hbw)) (row_take (Hv.out.kept (KeepX.below (T := fun _ => True) (M := True) hbw) trivial) k hk) (fun x hx => Hok.out x (List.mem_of_mem_take hx)) (by unfold maxLen; omega)
                have HFi := hide hFi
                have hcl := fun W => clone_any s W (by omega)
                have Hcl := hide hcl
                have H2 := hide h2
                have Hs := hide hs
                have Hsuc := hide (filter_take_succ (fun s => (seenIn st s (row.take k)).isNone) (namesOf st m.d) q s hs)
                clear h2 hc3 hs hFi hbw hcl
                have q1 : (q : Int) < ((namesOf st m.d).length : Int) := by omega
                have q0 : (0 : Int) ≤ (q : Int) := by omega
                have kc : ¬ cap < k := by omega
                cases hse : seenIn st s (row.take k) with
                | some j =>
                  have HSE := hide hse
                  rw [hse] at HFi
                  simp only [foundV, nodeV] at HFi
                  clear hse
                  go_wp2_with fail
                  refine HFi.out.mono ?_
                  rintro e w4 ⟨rfl, hb4⟩
                  have HB4 := hide hb4
                  clear hb4
                  go_wp2
                  refine ⟨⟨q + 1, by omega, by go_num, ?_⟩, by simp [intOf]; omega⟩
                  rw [Hsuc.out, HSE.out, if_neg (by simp), List.append_nil, ← HB.out]
                  exact H2.out.kept HB4.out
                | none =>
                  have HSE := hide hse
                  rw [hse] at HFi
                  simp only [foundV] at HFi
                  clear hse
                  go_wp2_with fail
                  refine HFi.out.mono ?_
                  rintro e w4 ⟨rfl, hb4⟩
                  have HB4 := hide hb4
                  clear hb4
                  go_wp2_with fail
                  refine (Hcl.out _).mono ?_
                  rintro e w5 ⟨rfl, hb5⟩
                  have HB5 := hide hb5
                  clear hb5
                  have hT5 := (H2.out.kept HB4.out).kept HB5.out
                  have hTX : ∀ o, Told2 w (w5.alloc o) _ _ _ _ := fun o => hT5.kept ((Below.refl _ _).alloc (Nat.le_refl _) o)
                  have HTX := hide hTX
                  clear hT5 hTX
                  go_wp2_with (at_builtin; refine wpList_append_Own _ rfl (.tmp 38) (.tmp 41) 35 rfl (nw w (w5.alloc (.cells #[.string s] 9))) 9 (.string ⟨#[]⟩) 1 16 Tryz.underlying35 infoString rfl (by decide) (.slice ao2 B.length co2) (strRows B) rfl (HTX.out _).told.own (.slice (some ⟨w5.heap.size, 0, none⟩) 1 1) [[.string s]] rfl (SrcIs.ofBlock (cs := #[.string s]) (heap_alloc_new w5 _) rfl (by simp [Value.oneCell'])) (B.length + 1) (by rw [len_strRows]; rfl) (by unfold maxLen; omega) (by omega) ?_; intro ao6 c6 w6 ho6 hg6 hb6; have HT6 := hide ((HTX.out _).push rfl ho6 hg6 hb6); clear ho6 hg6 hb6)
                  refine ⟨⟨q + 1, by omega, by go_num, ?_⟩, by simp [intOf]; omega⟩
                  rw [Hsuc.out, HSE.out, if_pos (by simp), ← List.append_assoc, ← HB.out]
                  exact HT6.out
            · have H2 := hide h2
              clear h2
              go_wp2
              refine ⟨⟨k + 1, by omega, by go_num, ?_⟩, by simp [intOf]; omega⟩
              rw [listUpto_live Hm.out HG.out]
              have e := HB.out
              rw [show (namesOf st m.d).take q = namesOf st m.d from List.take_of_length_le (by omega)] at e
              rw [← e]
              exact H2.out.told
      · go_wp2
        go_ret
        refine ⟨_, rfl, ?_⟩
        rw [show row.length = k by omega]
        exact HTo.out
end Go.Proofs.YtdmdgnghaceibaaGreat.P
/- The program's List. -/
namespace Go.Proofs.YtdmdgnghaceibaaGreat.P
open M Go.ChangeShapes Go.WideShapes Go.ChangeAt Go.RowKit
set_option linter.unusedVariables false

def TextsAt (w : World) (v : Value) (l : List ByteArray) : Prop := Own w (fun _ => True) 9 1 v (strRows l)

/-- How List ends: what comes out lies in a block of its own. -/
def PEnds6 (w : World) (F : Nat → Prop) (s : Nat) (p : St × List ByteArray × Int) (e : Ending) (w' : World) : Prop :=
  ∃ (v : Value) (F' : Nat → Prop), e = .returned (.tuple #[v, .int .i64 p.2.2]) ∧ TextsAt w' v p.2.1 ∧ (∀ k, v.ownBlock = some k → w.heap.size ≤ k ∧ k < w'.heap.size ∧ ¬ F' k) ∧ SrvIs w' F' s p.1 ∧ (∀ k, F' k → ext F w w' k) ∧ Ext F w w'

theorem PEnds6.err {w w1 : World} {F : Nat → Prop} {s : Nat} {p : St × List ByteArray × Int} {c : Int} {st' : St} (hp : p = (st', [], c)) (h : Held w1 (ext F w w1) s st') (hx : Ext F w w1) : PEnds6 w F s p (.returned (.tuple #[.slice none 0 0, .int .i64 c])) (left w1 s) := by
  subst hp
  obtain ⟨h1, h2⟩ := left_close (w1 := w) h hx
  exact ⟨_, _, rfl, Own.nil _ _ _ _, fun k hk => by simp [Value.ownBlock] at hk, h1, fun k hk => hk, h2⟩

theorem seenIn_same (st : St) (name : ByteArray) : ∀ row : List Member, seenIn (tick st) name row = seenIn st name row
  | [] => rfl
  | m :: r => by
    unfold seenIn
    rw [seenIn_same st name r]
    rfl
theorem listUpto_same (st : St) (row : List Member) : ∀ k, listUpto (tick st) row k = listUpto st row k
  | 0 => rfl
  | k + 1 => by
    unfold listUpto
    rw [listUpto_same st row k]
    simp only [seenIn_same]
    rfl

theorem mDirE_at {st : St} {n : Int} {i : Nat} {f : Fid} {sp : Spot} (hf : find st n = some i) (hi : st.fids[i]? = some f) (hsp : f.way.getLast? = some sp) (hin : sp.n < st.nodes.length) : mDirE st (find st n) = if f.op then notDirE st sp.n else 3 := by
  rw [hf]
  unfold mDirE notDirE
  simp only
  rw [hi]
  simp only
  rw [show nodeOf f = sp.n by simp [nodeOf, hsp]]

set_option maxRecDepth 20000 in
set_option maxHeartbeats 1000000 in
theorem slist_any {w : World} {F : Nat → Prop} {s : Nat} {st : St} (n : Int) (h : SrvIs w F s st) (ok : POk st) (hF : ∀ k, F k → k < w.heap.size) (hnodes : st.nodes.length ≤ 1700000000000) (hsmall : ∀ row k, row.length ≤ 6 → k ≤ row.length → (listUpto st row k).length ≤ 1000000) :
    Calls Tryz.prog 19 #[.pointer (some ⟨s, 0, none⟩), .int .i64 n] w fun e w' => PEnds6 w F s (mList st n) e w' := by
  go_enter_defers Tryz.func19, Tryz.ntmps19
  go_wp2_with fail
  refine (enter_any h).mono ?_
  rintro e w1 ⟨rfl, hH, hx⟩
  clear h
  obtain ⟨t, L, bv, hS⟩ := hH
  have hx := hide hx
  rcases fid_cases hS ok.tick.fids n with ⟨hf, hno⟩ | ⟨k, i, f, p, rfl, hk, hf, hi, hn, ha, c7, c8, hp⟩
  · have H := hide (show mList st n = (tick st, [], 2) by
      have e : mDirE st (find st n) = 2 := by rw [show find st n = none from hf]; rfl
      unfold mList
      rw [if_neg (by rw [e]; decide), e])
    have hS := hide hS
    clear hf
    go_wp2_with (go_at_call 53; refine (opened_none hno).mono ?_; rintro e w' ⟨rfl, hw⟩; obtain rfl := hw.symm)
    have hD : Held w1 (ext F w w1) s (tick st) := ⟨t, L, bv, hS.out⟩
    refine leaves_cons (f := 43) (args := #[.pointer (some ⟨s, 0, none⟩)]) (by simp) (by simp [go_sem]) ?_
    refine (leave_deferred .returning hD).mono ?_
    rintro e u' w'' ⟨rfl, rfl, rfl⟩
    refine ⟨_, results_tmp2 rfl _ _ _, ?_⟩
    exact PEnds6.err H.out hD hx.out
  · obtain ⟨sp, hsp, d0, ⟨vr, d1, hvr⟩, hplt⟩ := place_last hp
    have hm : f ∈ st.fids := List.mem_of_getElem? hi
    obtain ⟨hin, hdirs, hlen6⟩ := (ok.way f hm).2 sp (List.mem_of_getLast? hsp)
    have e2 := mDirE_at (st := st) hf hi hsp hin
    cases hop : f.op with
    | false =>
      rw [hop] at c8 e2
      have H := hide (show mList st k = (tick st, [], 3) by
        unfold mList
        rw [if_neg (by rw [e2]; simp), e2]
        rfl)
      have hS := hide hS
      clear hf hi hn ha hp e2
      go_wp2_with (go_at_call 53; refine (opened_shut hk c7 c8).mono ?_; rintro e w' ⟨rfl, hw⟩; obtain rfl := hw.symm)
      have hD : Held w1 (ext F w w1) s (tick st) := ⟨t, L, bv, hS.out⟩
      refine leaves_cons (f := 43) (args := #[.pointer (some ⟨s, 0, none⟩)]) (by simp) (by simp [go_sem]) ?_
      refine (leave_deferred .returning hD).mono ?_
      rintro e u' w'' ⟨rfl, rfl, rfl⟩
      refine ⟨_, results_tmp2 rfl _ _ _, ?_⟩
      exact PEnds6.err H.out hD hx.out
    | true =>
      rw [hop] at c8 e2
      have HC := hide (checkDirectory_any p sp.n hS.tree (show sp.n < (tick st).nodes.length from hin) d0)
      have en : notDirE (tick st) sp.n = notDirE st sp.n := rfl
      rw [en] at HC
      by_cases he : notDirE st sp.n = 0
      · have H := hide (show mList st k = (tick st, listUpto st sp.row sp.row.length, 0) by
          have er : fidRow f = sp.row := by simp [fidRow, hsp]
          unfold mList
          rw [if_pos (by rw [e2]; exact he), show find st k = some i from hf]
          simp only
          rw [show st.fids[i]? = some f from hi]
          simp only
          rw [er])
        have HLi := hide (list_any (st := tick st) sp.row vr hS.tree hvr hdirs hlen6 ok.names hnodes (fun q hq => by rw [listUpto_same]; exact hsmall sp.row q hlen6 hq))
        rw [listUpto_same] at HLi
        rw [he] at HC
        have hS := hide hS
        clear hf hi hn ha hp e2 he en
        go_wp2_with (first | (go_at_call 53; refine (opened_open hk c7 c8).mono ?_; rintro e w' ⟨rfl, hw⟩; obtain rfl := hw.symm) | (go_at_call 54; refine HC.out.mono ?_; rintro e w' ⟨rfl, hw⟩; obtain rfl := hw.symm) | (go_at_call 55; refine HLi.out.mono ?_; rintro e w2 ⟨out, rfl, ht⟩; have HTo := hide ht; clear ht))
        have hB := HTo.out.below
        have hS2 := hS.out.below hB
        have hx2 : Ext F w w2 := hx.out.trans' (Ext.below hB)
        have hD : Held w2 (ext F w w1) s (tick st) := ⟨t, L, bv, hS2⟩
        refine leaves_cons (f := 43) (args := #[.pointer (some ⟨s, 0, none⟩)]) (by simp) (by simp [go_sem]) ?_
        refine (leave_deferred .returning hD).mono ?_
        rintro e u' w'' ⟨rfl, rfl, rfl⟩
        refine ⟨_, results_tmp2 rfl _ _ _, ?_⟩
        unfold PEnds6
        rw [H.out]
        have hs1 : s < w1.heap.size := hS.out.blk.lt
        have hlz : (left w2 s).heap.size = w2.heap.size := by simp [left]
        have hz1 := hx.out.size
        have hz2 := hB.size
        refine ⟨_, ext F w w1, rfl, ?_, fun q hq => ?_, hD.left, fun q hq => ext_mono (by rw [hlz]; exact hz2) q hq, ?_⟩
        · refine (Own.keptBlock HTo.out.own (fun q hq => ?_)).mono (fun _ _ => trivial)
          have := (HTo.out.own.2.2 q hq).1
          exact Below.heap_setCell w2 ⟨s, 3, none⟩ _ q (by show q ≠ s; omega)
        · have h9 := HTo.out.own.2.2 q hq
          have h7 := h9.1
          have h6 := h9.2
          refine ⟨by omega, by rw [hlz]; exact h6, fun hq => ?_⟩
          rcases hq with hq | hq
          · have := hF _ hq
            omega
          · omega
        · exact hx2.setCell (a := ⟨s, 3, none⟩) (by rcases hS.out.blk.own with h | h; exact .inl h; exact .inr h.1) _
      · have H := hide (show mList st k = (tick st, [], notDirE st sp.n) by
          unfold mList
          rw [if_neg (by rw [e2]; exact he), e2]
          rfl)
        have q1 : (notDirE st sp.n != 0) = true := by simpa using he
        have q2 : (notDirE st sp.n == 0) = false := by simpa using he
        have hS := hide hS
        clear hf hi hn ha hp e2 he en
        go_wp2_with (first | (go_at_call 53; refine (opened_open hk c7 c8).mono ?_; rintro e w' ⟨rfl, hw⟩; obtain rfl := hw.symm) | (go_at_call 54; refine HC.out.mono ?_; rintro e w' ⟨rfl, hw⟩; obtain rfl := hw.symm))
        have hD : Held w1 (ext F w w1) s (tick st) := ⟨t, L, bv, hS.out⟩
        refine leaves_cons (f := 43) (args := #[.pointer (some ⟨s, 0, none⟩)]) (by simp) (by simp [go_sem]) ?_
        refine (leave_deferred .returning hD).mono ?_
        rintro e u' w'' ⟨rfl, rfl, rfl⟩
        refine ⟨_, results_tmp2 rfl _ _ _, ?_⟩
        exact PEnds6.err H.out hD hx.out
end Go.Proofs.YtdmdgnghaceibaaGreat.P
/- What the reference's names wants (its walk: still to do). -/
namespace Go.Proofs.YtdmdgnghaceibaaGreat.P
open M Go.ChangeShapes Go.WideShapes Go.ChangeAt Go.RowKit
set_option linter.unusedVariables false

theorem refNames_succ {nodes : List Nd} {k : Nat} {x : Nd} (d : Nat) (hx : nodes[k]? = some x) : refNames d (nodes.take (k + 1)) = refAdd d (refNames d (nodes.take k)) x := by
  have hlt := M.lt_of_getElem? hx
  have e : nodes[k] = x := by rw [List.getElem?_eq_getElem hlt] at hx; exact Option.some.inj hx
  unfold refNames
  rw [List.take_succ_eq_append_getElem hlt, e, List.foldl_append]
  rfl

theorem refIns_at {s : ByteArray} : ∀ {B : List ByteArray} {q : Nat}, q ≤ B.length → (∀ j y, j < q → B[j]? = some y → Op.bytesLess y.toList s.toList = true) → (∀ y, B[q]? = some y → Op.bytesLess y.toList s.toList = false) → refIns B s = B.take q ++ s :: B.drop q
  | [], q, hq, _, _ => by
    obtain rfl : q = 0 := by simpa using hq
    rfl
  | y :: B, 0, _, _, h2 => by
    have := h2 y rfl
    rw [Go.Proofs.bytesLess_eq, toList_data, toList_data] at this
    unfold refIns
    rw [List.takeWhile_cons_of_neg (by simpa [ltB] using this), List.dropWhile_cons_of_neg (by simpa [ltB] using this)]
    rfl
  | y :: B, q + 1, hq, h1, h2 => by
    have h0 := h1 0 y (by omega) rfl
    rw [Go.Proofs.bytesLess_eq, toList_data, toList_data] at h0
    have ih := refIns_at (s := s) (B := B) (q := q) (by simpa using hq) (fun j z hj hz => h1 (j + 1) z (by omega) (by simpa using hz)) (fun z hz => h2 z (by simpa using hz))
    unfold refIns at ih ⊢
    rw [List.takeWhile_cons_of_pos (by simpa [ltB] using h0), List.dropWhile_cons_of_pos (by simpa [ltB] using h0), List.take_succ_cons, List.drop_succ_cons, List.cons_append, List.cons_append, ih]
end Go.Proofs.YtdmdgnghaceibaaGreat.P
/- The reference's names. -/
namespace Go.Proofs.YtdmdgnghaceibaaGreat.P
open M Go.ChangeShapes Go.WideShapes Go.ChangeAt Go.RowKit
set_option linter.unusedVariables false

theorem told_append {w wa w' : World} {base more : List ByteArray} {out : Value} {ao : Option Addr} {n c : Nat} (h : Told w wa base out) (hn : n = base.length + more.length)
    (ho : Own w' (ext (nw w wa) wa w') 9 1 (.slice ao n c) (strRows base ++ strRows more)) (hg : wa.grownBy w' out.ownBlock) : Told w w' (base ++ more) (.slice ao n c) := by
  have hz := hg.size
  have hw := h.below.size
  refine ⟨?_, ⟨ao, c, by rw [hn]; simp⟩, ?_⟩
  · rw [strRows_append]
    refine ho.mono (fun k hk => ?_)
    rcases hk with hk | hk
    · exact ⟨hk.1, Nat.lt_of_lt_of_le hk.2 hz⟩
    · exact ⟨Nat.le_trans hw hk.1, hk.2⟩
  · refine ⟨hg.os.trans h.below.os, hg.tape.trans h.below.tape, hg.output.trans h.below.output, Nat.le_trans hw hz, fun k hk => (hg.block k (Nat.lt_of_lt_of_le hk hw) (fun e => ?_)).trans (h.below.block k hk)⟩
    have := (h.own.2.2 k e.symm).1
    omega

theorem Told.wide {w wX w' : World} {l : List ByteArray} {v : Value} (h : Told wX w' l v) (hb : Below w.heap.size w wX) : Told w w' l v :=
  ⟨h.own.mono (fun k hk => ⟨Nat.le_trans hb.size hk.1, hk.2⟩), h.form, ⟨h.below.os.trans hb.os, h.below.tape.trans hb.tape, h.below.output.trans hb.output, Nat.le_trans hb.size h.below.size, fun k hk => (h.below.block k (Nat.lt_of_lt_of_le hk hb.size)).trans (hb.block k hk)⟩⟩

theorem strRows_one' (l : List ByteArray) : (∀ r ∈ strRows l, r.length = 1) ∧ ∀ r ∈ strRows l, ∀ u ∈ r, u.oneCell' = true := by
  constructor
  · intro r hr
    unfold strRows at hr
    obtain ⟨s, _, rfl⟩ := List.mem_map.1 hr
    rfl
  · intro r hr u hu
    unfold strRows at hr
    obtain ⟨s, _, rfl⟩ := List.mem_map.1 hr
    simp at hu
    subst hu
    rfl

/-- A piece of a slice of texts, as a source. -/
theorem src_piece {w W : World} {F : Nat → Prop} {g n cap : Nat} {B : List ByteArray} (h : Own w F 9 1 (.slice (some ⟨g, 0, none⟩) n cap) (strRows B)) (hb : Below w.heap.size w W) (a m c : Nat) (ham : a + m ≤ B.length) : SrcIs W 1 (.slice (some ⟨g, a, none⟩) m c) (strRows ((B.drop a).take m)) := by
  have hl : (strRows ((B.drop a).take m)).length = m := by rw [len_strRows, List.length_take, List.length_drop]; omega
  refine ⟨(strRows_one' _).1, (strRows_one' _).2, .inr ⟨⟨g, a, none⟩, c, by rw [hl], fun j u hj => ?_⟩⟩
  rcases h.opened with ⟨e, _⟩ | ⟨g', cap', e, _, _, _, ⟨cur, hbk⟩, hcell, _⟩
  · cases e
  · injection e with e1 _ _
    simp only [Option.some.injEq, Addr.mk.injEq, and_true] at e1
    subst e1
    have hfl : (strRows ((B.drop a).take m)).flatten = ((B.drop a).take m).map Value.string := by
      unfold strRows
      generalize (B.drop a).take m = l
      induction l with
      | nil => rfl
      | cons x l ih => simp only [List.map_cons, List.flatten_cons, ih]; rfl
    rw [hfl, List.getElem?_map] at hj
    have hjm : j < m := by
      cases hq : ((B.drop a).take m)[j]? with
      | none => rw [hq] at hj; simp at hj
      | some s =>
        have := M.lt_of_getElem? hq
        rw [List.length_take] at this
        omega
    rw [List.getElem?_take, if_pos hjm, List.getElem?_drop] at hj
    cases hq : B[a + j]? with
    | none => rw [hq] at hj; simp at hj
    | some s =>
      rw [hq] at hj
      simp at hj
      subst hj
      have := hcell (a + j) [.string s] 0 _ (by unfold strRows; rw [List.getElem?_map, hq]; rfl) rfl
      rw [Addr.add_lit]
      rw [hb.cell (p := ⟨g, a + j, none⟩) (Array.getElem?_eq_some_iff.1 hbk).1]
      simpa using this
end Go.Proofs.YtdmdgnghaceibaaGreat.P
/- The reference's names, walked. -/
namespace Go.Proofs.YtdmdgnghaceibaaGreat.P
open M Go.ChangeShapes Go.WideShapes Go.ChangeAt Go.RowKit
set_option linter.unusedVariables false

theorem src_none (W : World) (ad : Addr) (c : Nat) : SrcIs W 1 (.slice (some ad) 0 c) (strRows []) := ⟨(strRows_one' _).1, (strRows_one' _).2, .inr ⟨ad, c, rfl, fun j u hj => by simp [strRows] at hj⟩⟩

set_option maxRecDepth 20000 in
set_option maxHeartbeats 2000000 in
theorem names_core (r g cap : Nat) (nodes : List Nd) (d : Nat) (w : World) (hl : nodes.length ≤ 1700000000000)
    (h0 : w.cell? ⟨r, 0, none⟩ = some (.slice (some ⟨g, 0, none⟩) nodes.length cap))
    (hc : ∀ i x, nodes[i]? = some x → w.cell? ⟨g, i * 6, none⟩ = some (.string x.name) ∧ w.cell? ⟨g, i * 6 + 2, none⟩ = some (.int .i64 x.inn) ∧ w.cell? ⟨g, i * 6 + 5, none⟩ = some (.bool x.gone)) :
    Calls Tryz.prog 151 #[.pointer (some ⟨r, 0, none⟩), .int .i64 d] w fun e w' => ∃ out, e = .returned out ∧ Told w w' (refNames d nodes) out := by
  have hrlt : r < w.heap.size := World.block_lt_of_cell? w _ h0
  have H0 := hide h0
  have Hc := hide hc
  clear h0 hc
  go_enter Tryz.func151, Tryz.ntmps151
  go_wp2
  go_loopw [5, 6] (fun o i wr => ∃ k : Nat, k ≤ nodes.length ∧ i = .int .i64 k ∧ (refNames d (nodes.take k)).length ≤ k ∧ Told w wr (refNames d (nodes.take k)) o) (fun _ i _ => nodes.length - (intOf i).toNat)
  case atStart => exact ⟨0, Nat.zero_le _, rfl, by simp [refNames], Told.nil w⟩
  case round =>
    obtain ⟨k, hk, rfl, hkl, hTo⟩ := hrel
    have hbel := hTo.below
    have c0 : wr.cell? ⟨r, 0, none⟩ = some (.slice (some ⟨g, 0, none⟩) nodes.length cap) := (hbel.cell (p := ⟨r, 0, none⟩) hrlt).trans H0.out
    obtain ⟨B, hB⟩ : ∃ B, B = refNames d (nodes.take k) := ⟨_, rfl⟩
    rw [← hB] at hTo hkl
    obtain ⟨ao, co, rfl⟩ := hTo.form
    have HB := hide hB
    have HTo := hide hTo
    by_cases hlt : k < nodes.length
    · obtain ⟨x, hx⟩ := getElem?_of_lt hlt
      obtain ⟨x0, x2, x5⟩ := Hc.out k x hx
      have hglt : g < w.heap.size := World.block_lt_of_cell? w _ x0
      have y0 := (hbel.cell (p := ⟨g, k * 6, none⟩) hglt).trans x0
      have y2 := (hbel.cell (p := ⟨g, k * 6 + 2, none⟩) hglt).trans x2
      have y5 := (hbel.cell (p := ⟨g, k * 6 + 5, none⟩) hglt).trans x5
      have Hx0 := hide x0
      have Hsu := hide (refNames_succ d hx)
      rw [← HB.out] at Hsu
      clear hx hTo hB hbel x0 x2 x5
      by_cases h1 : x.inn = (d : Int)
      · cases h3 : x.gone with
        | true =>
          rw [h3] at y5
          have Hn := hide (show refAdd d B x = B by unfold refAdd; rw [if_neg (by simp [h3])])
          go_wp2
          refine ⟨⟨k + 1, by omega, by go_num, ?_, ?_⟩, by simp [intOf]; omega⟩
          · rw [Hsu.out, Hn.out]; omega
          · rw [Hsu.out, Hn.out]; exact HTo.out
        | false =>
          rw [h3] at y5
          have Hn := hide (show refAdd d B x = refIns B x.name by unfold refAdd; rw [if_pos ⟨h1, h3⟩])
          rw [h1] at y2
          go_wp2
          go_loopw [7] (fun a wr2 => ∃ q : Nat, q ≤ B.length ∧ a = .int .i64 q ∧ (∀ j y, j < q → B[j]? = some y → Op.bytesLess y.toList x.name.toList = true) ∧ Told w wr2 B (.slice ao B.length co)) (fun a _ => B.length - (intOf a).toNat)
          case atStart => exact ⟨0, Nat.zero_le _, rfl, by omega, HTo.out⟩
          case round =>
            obtain ⟨q, hq, rfl, hall, hT⟩ := hrel
            have Hall := hide hall
            have hb2 := hT.below
            have d0 : wr.cell? ⟨r, 0, none⟩ = some (.slice (some ⟨g, 0, none⟩) nodes.length cap) := (hb2.cell (p := ⟨r, 0, none⟩) hrlt).trans H0.out
            have z0 : wr.cell? ⟨g, k * 6, none⟩ = some (.string x.name) := (hb2.cell (p := ⟨g, k * 6, none⟩) hglt).trans Hx0.out
            have HT := hide hT
            clear hall hT hb2
            have q0 : (0 : Int) ≤ (q : Int) := by omega
            by_cases hql : q < B.length
            · obtain ⟨y, hy⟩ := getElem?_of_lt hql
              rcases HT.out.own.opened with ⟨e, _⟩ | ⟨g5, cap5, e, hcap5, hmax5, _, _, hc5, _⟩
              · injection e with _ e2 _
                omega
              · rw [len_strRows] at e hcap5
                simp only [Value.slice.injEq, true_and] at e
                obtain ⟨rfl, rfl⟩ := e
                have cy : wr.cell? ⟨g5, q, none⟩ = some (.string y) := by
                  have := hc5 q [.string y] 0 _ (by unfold strRows; rw [List.getElem?_map, hy]; rfl) rfl
                  simpa using this
                have Hy := hide hy
                have hco : co ≤ 9223372036854775807 := by unfold maxLen at hmax5; omega
                clear hc5 hy hmax5
                have q1 : (q : Int) < (B.length : Int) := by omega
                cases hle : Op.bytesLess y.toList x.name.toList with
                | true =>
                  go_wp2
                  go_region
                  go_wp2
                  refine ⟨⟨q + 1, by omega, by go_num, fun j z hj hz => ?_, HT.out.kept (Below.refl _ _).drew⟩, by simp [intOf]; omega⟩
                  by_cases e : j = q
                  · subst e
                    rw [Hy.out] at hz
                    cases hz
                    exact hle
                  · exact Hall.out j z (by omega) hz
                | false =>
                  have HI := hide (refIns_at (s := x.name) hq Hall.out (fun z hz => by rw [Hy.out] at hz; cases hz; exact hle))
                  have hTX : Told w wr.drew B (.slice (some ⟨g5, 0, none⟩) B.length co) := HT.out.kept (Below.refl _ _).drew
                  have HTX := hide hTX
                  have qc : ¬ co = q := by omega
                  have ql : ¬ B.length < q := by omega
                  have qz : ¬ co < q := by omega
                  clear hTX
                  go_wp2
                  go_region
                  go_wp2_with (at_builtin; first
                    | (refine wpList_append_Own _ rfl (.tmp 59) (.tmp 62) 35 rfl (nw wr.drew wr.drew) 9 (.string ⟨#[]⟩) 1 16 Tryz.underlying35 infoString rfl (by decide) (.slice none 0 0) [] rfl (Own.nil _ _ _ _) (.slice (some ⟨g5, 0, none⟩) q co) (strRows ((B.drop 0).take q)) rfl (src_piece HTX.out.own (Below.refl _ _) 0 q co (by omega)) q (by rw [len_strRows, List.length_take]; simp; omega) (by unfold maxLen; omega) (by omega) ?_; intro ao1 c1 w1 ho1 hg1 hb1; have HA1 := hide (told_append (base := []) (more := (B.drop 0).take q) (Told.nil wr.drew) (by rw [List.length_take, List.drop_zero]; simp; omega) ho1 hg1); have e0 : w1.cell? ⟨r, 0, none⟩ = some (.slice (some ⟨g, 0, none⟩) nodes.length cap) := ((HTX.out.below.cell (p := ⟨r, 0, none⟩) hrlt).symm.trans (HA1.out.below.cell (p := ⟨r, 0, none⟩) (Nat.lt_of_lt_of_le hrlt HTX.out.below.size)).symm).symm.trans H0.out; have e1 : w1.cell? ⟨g, k * 6, none⟩ = some (.string x.name) := ((HTX.out.below.cell (p := ⟨g, k * 6, none⟩) hglt).symm.trans (HA1.out.below.cell (p := ⟨g, k * 6, none⟩) (Nat.lt_of_lt_of_le hglt HTX.out.below.size)).symm).symm.trans Hx0.out; clear ho1 hg1 hb1)
                    | (refine wpList_append_Own _ rfl (.tmp 64) (.tmp 73) 35 rfl (nw wr.drew (w1.alloc (.cells #[.string x.name] 9))) 9 (.string ⟨#[]⟩) 1 16 Tryz.underlying35 infoString rfl (by decide) (.slice ao1 q c1) (strRows ((B.drop 0).take q)) rfl (HA1.out.kept ((Below.refl _ _).alloc (Nat.le_refl _) _)).own (.slice (some ⟨w1.heap.size, 0, none⟩) 1 1) (strRows [x.name]) rfl (SrcIs.ofBlock (cs := #[.string x.name]) (heap_alloc_new w1 _) rfl (by simp [Value.oneCell'])) (q + 1) (by rw [len_strRows, List.length_take]; simp [strRows]; omega) (by unfold maxLen; omega) (by omega) ?_; intro ao2 c2 w2 ho2 hg2 hb2; have HA2 := hide (told_append (base := (B.drop 0).take q) (more := [x.name]) (HA1.out.kept ((Below.refl _ _).alloc (Nat.le_refl _) _)) (by rw [List.length_take, List.drop_zero]; simp; omega) ho2 hg2); clear ho2 hg2 hb2)
                    | (refine wpList_append_Own _ rfl (.tmp 75) (.tmp 78) 35 rfl (nw wr.drew w2) 9 (.string ⟨#[]⟩) 1 16 Tryz.underlying35 infoString rfl (by decide) (.slice ao2 (q + 1) c2) (strRows ((B.drop 0).take q ++ [x.name])) rfl HA2.out.own (.slice (some ⟨g5, q, none⟩) (B.length - q) (co - q)) (strRows ((B.drop q).take (B.length - q))) rfl (src_piece HTX.out.own HA2.out.below q (B.length - q) (co - q) (by omega)) (B.length + 1) (by rw [len_strRows, len_strRows, List.length_append, List.length_take, List.length_take, List.length_drop]; simp; omega) (by unfold maxLen; omega) (by omega) ?_; intro ao3 c3 w3 ho3 hg3 hb3; have HA3 := hide (told_append (base := (B.drop 0).take q ++ [x.name]) (more := (B.drop q).take (B.length - q)) HA2.out (by rw [List.length_append, List.length_take, List.length_take, List.length_drop]; simp; omega) ho3 hg3); clear ho3 hg3 hb3))
                  have eB : refNames d (nodes.take (k + 1)) = (B.drop 0).take q ++ [x.name] ++ (B.drop q).take (B.length - q) := by
                    rw [Hsu.out, Hn.out, HI.out, List.drop_zero, List.take_of_length_le (l := B.drop q) (by rw [List.length_drop]; omega)]
                    simp
                  refine ⟨⟨k + 1, by omega, by go_num, ?_, ?_⟩, by simp [intOf]; omega⟩
                  · rw [eB, List.length_append, List.length_append, List.length_take, List.length_take, List.length_drop]
                    simp
                    omega
                  · rw [eB]
                    exact HA3.out.wide HTX.out.below
            · obtain rfl : q = B.length := by omega
              have HI := hide (refIns_at (s := x.name) (Nat.le_refl _) Hall.out (fun z hz => by have := M.lt_of_getElem? hz; omega))
              have q1 : ¬ (B.length : Int) < (B.length : Int) := by omega
              rcases HT.out.own.opened with ⟨e, hnil⟩ | ⟨g5, cap5, e, hcap5, hmax5, _, _, _, _⟩
              · have hB0 : B = [] := by
                  have h9 := congrArg List.length hnil
                  rw [len_strRows] at h9
                  exact List.length_eq_zero_iff.1 h9
                subst hB0
                injection e with ea _ ec
                subst ea ec
                have hTX : Told w wr.drew [] (.slice none ([] : List ByteArray).length 0) := HT.out.kept (Below.refl _ _).drew
                have HTX := hide hTX
                clear hTX
                go_wp2
                go_region
                go_wp2_with (at_builtin; first
                    | (refine wpList_append_Own _ rfl (.tmp 59) (.tmp 62) 35 rfl (nw wr.drew wr.drew) 9 (.string ⟨#[]⟩) 1 16 Tryz.underlying35 infoString rfl (by decide) (.slice none 0 0) [] rfl (Own.nil _ _ _ _) (.slice none 0 0) (strRows (([] : List ByteArray))) rfl ⟨(strRows_one' _).1, (strRows_one' _).2, .inl ⟨rfl, rfl⟩⟩ 0 (by rw [len_strRows]; simp) (by unfold maxLen; omega) (by omega) ?_; intro ao1 c1 w1 ho1 hg1 hb1; have HA1 := hide (told_append (base := []) (more := ([] : List ByteArray)) (Told.nil wr.drew) (by simp) ho1 hg1); have e0 : w1.cell? ⟨r, 0, none⟩ = some (.slice (some ⟨g, 0, none⟩) nodes.length cap) := ((HTX.out.below.cell (p := ⟨r, 0, none⟩) hrlt).symm.trans (HA1.out.below.cell (p := ⟨r, 0, none⟩) (Nat.lt_of_lt_of_le hrlt HTX.out.below.size)).symm).symm.trans H0.out; have e1 : w1.cell? ⟨g, k * 6, none⟩ = some (.string x.name) := ((HTX.out.below.cell (p := ⟨g, k * 6, none⟩) hglt).symm.trans (HA1.out.below.cell (p := ⟨g, k * 6, none⟩) (Nat.lt_of_lt_of_le hglt HTX.out.below.size)).symm).symm.trans Hx0.out; clear ho1 hg1 hb1)
                    | (refine wpList_append_Own _ rfl (.tmp 64) (.tmp 73) 35 rfl (nw wr.drew (w1.alloc (.cells #[.string x.name] 9))) 9 (.string ⟨#[]⟩) 1 16 Tryz.underlying35 infoString rfl (by decide) (.slice ao1 0 c1) (strRows (([] : List ByteArray))) rfl (HA1.out.kept ((Below.refl _ _).alloc (Nat.le_refl _) _)).own (.slice (some ⟨w1.heap.size, 0, none⟩) 1 1) (strRows [x.name]) rfl (SrcIs.ofBlock (cs := #[.string x.name]) (heap_alloc_new w1 _) rfl (by simp [Value.oneCell'])) (0 + 1) (by rw [len_strRows]; simp [strRows]) (by unfold maxLen; omega) (by omega) ?_; intro ao2 c2 w2 ho2 hg2 hb2; have HA2 := hide (told_append (base := ([] : List ByteArray)) (more := [x.name]) (HA1.out.kept ((Below.refl _ _).alloc (Nat.le_refl _) _)) (by simp) ho2 hg2); clear ho2 hg2 hb2)
                    | (refine wpList_append_Own _ rfl (.tmp 75) (.tmp 78) 35 rfl (nw wr.drew w2) 9 (.string ⟨#[]⟩) 1 16 Tryz.underlying35 infoString rfl (by decide) (.slice ao2 (0 + 1) c2) (strRows (([] : List ByteArray) ++ [x.name])) rfl HA2.out.own (.slice none 0 0) (strRows []) rfl ⟨(strRows_one' _).1, (strRows_one' _).2, .inl ⟨rfl, rfl⟩⟩ (0 + 1) (by rw [len_strRows]; simp [strRows]) (by unfold maxLen; omega) (by omega) ?_; intro ao3 c3 w3 ho3 hg3 hb3; have HA3 := hide (told_append (base := ([] : List ByteArray) ++ [x.name]) (more := []) HA2.out (by simp) ho3 hg3); clear ho3 hg3 hb3))
                have eB : refNames d (nodes.take (k + 1)) = ([] : List ByteArray) ++ [x.name] ++ [] := by
                  rw [Hsu.out, Hn.out, HI.out]
                  simp
                refine ⟨⟨k + 1, by omega, by go_num, ?_, ?_⟩, by simp [intOf]; omega⟩
                · rw [eB]
                  simp at hkl ⊢ <;> omega
                · rw [eB]
                  exact HA3.out.wide HTX.out.below
              · rw [len_strRows] at e hcap5
                simp only [Value.slice.injEq, true_and] at e
                obtain ⟨rfl, rfl⟩ := e
                have hco : co ≤ 9223372036854775807 := by unfold maxLen at hmax5; omega
                have hTX : Told w wr.drew B (.slice (some ⟨g5, 0, none⟩) B.length co) := HT.out.kept (Below.refl _ _).drew
                have HTX := hide hTX
                clear hTX hmax5
                by_cases hcq : co = B.length
                · subst hcq
                  go_wp2
                  go_region
                  go_wp2_with (at_builtin; first
                    | (refine wpList_append_Own _ rfl (.tmp 59) (.tmp 62) 35 rfl (nw wr.drew wr.drew) 9 (.string ⟨#[]⟩) 1 16 Tryz.underlying35 infoString rfl (by decide) (.slice none 0 0) [] rfl (Own.nil _ _ _ _) (.slice (some ⟨g5, 0, none⟩) B.length B.length) (strRows (B)) rfl (by have := src_piece HTX.out.own (Below.refl _ _) 0 B.length B.length (by omega); rw [List.drop_zero, List.take_length] at this; exact this) B.length (by rw [len_strRows]; simp) (by unfold maxLen; omega) (by omega) ?_; intro ao1 c1 w1 ho1 hg1 hb1; have HA1 := hide (told_append (base := []) (more := B) (Told.nil wr.drew) (by simp) ho1 hg1); have e0 : w1.cell? ⟨r, 0, none⟩ = some (.slice (some ⟨g, 0, none⟩) nodes.length cap) := ((HTX.out.below.cell (p := ⟨r, 0, none⟩) hrlt).symm.trans (HA1.out.below.cell (p := ⟨r, 0, none⟩) (Nat.lt_of_lt_of_le hrlt HTX.out.below.size)).symm).symm.trans H0.out; have e1 : w1.cell? ⟨g, k * 6, none⟩ = some (.string x.name) := ((HTX.out.below.cell (p := ⟨g, k * 6, none⟩) hglt).symm.trans (HA1.out.below.cell (p := ⟨g, k * 6, none⟩) (Nat.lt_of_lt_of_le hglt HTX.out.below.size)).symm).symm.trans Hx0.out; clear ho1 hg1 hb1)
                    | (refine wpList_append_Own _ rfl (.tmp 64) (.tmp 73) 35 rfl (nw wr.drew (w1.alloc (.cells #[.string x.name] 9))) 9 (.string ⟨#[]⟩) 1 16 Tryz.underlying35 infoString rfl (by decide) (.slice ao1 B.length c1) (strRows (B)) rfl (HA1.out.kept ((Below.refl _ _).alloc (Nat.le_refl _) _)).own (.slice (some ⟨w1.heap.size, 0, none⟩) 1 1) (strRows [x.name]) rfl (SrcIs.ofBlock (cs := #[.string x.name]) (heap_alloc_new w1 _) rfl (by simp [Value.oneCell'])) (B.length + 1) (by rw [len_strRows]; simp [strRows]) (by unfold maxLen; omega) (by omega) ?_; intro ao2 c2 w2 ho2 hg2 hb2; have HA2 := hide (told_append (base := B) (more := [x.name]) (HA1.out.kept ((Below.refl _ _).alloc (Nat.le_refl _) _)) (by simp) ho2 hg2); clear ho2 hg2 hb2)
                    | (refine wpList_append_Own _ rfl (.tmp 75) (.tmp 78) 35 rfl (nw wr.drew w2) 9 (.string ⟨#[]⟩) 1 16 Tryz.underlying35 infoString rfl (by decide) (.slice ao2 (B.length + 1) c2) (strRows (B ++ [x.name])) rfl HA2.out.own (.slice _ 0 _) (strRows []) rfl (src_none _ _ _) (B.length + 1) (by rw [len_strRows]; simp [strRows]) (by unfold maxLen; omega) (by omega) ?_; intro ao3 c3 w3 ho3 hg3 hb3; have HA3 := hide (told_append (base := B ++ [x.name]) (more := []) HA2.out (by simp) ho3 hg3); clear ho3 hg3 hb3))
                  have eB : refNames d (nodes.take (k + 1)) = B ++ [x.name] ++ [] := by
                    rw [Hsu.out, Hn.out, HI.out]
                    simp
                  refine ⟨⟨k + 1, by omega, by go_num, ?_, ?_⟩, by simp [intOf]; omega⟩
                  · rw [eB]
                    simp at hkl ⊢ <;> omega
                  · rw [eB]
                    exact HA3.out.wide HTX.out.below
                · skip
                  go_wp2
                  go_region
                  go_wp2_with (at_builtin; first
                    | (refine wpList_append_Own _ rfl (.tmp 59) (.tmp 62) 35 rfl (nw wr.drew wr.drew) 9 (.string ⟨#[]⟩) 1 16 Tryz.underlying35 infoString rfl (by decide) (.slice none 0 0) [] rfl (Own.nil _ _ _ _) (.slice (some ⟨g5, 0, none⟩) B.length co) (strRows (B)) rfl (by have := src_piece HTX.out.own (Below.refl _ _) 0 B.length co (by omega); rw [List.drop_zero, List.take_length] at this; exact this) B.length (by rw [len_strRows]; simp) (by unfold maxLen; omega) (by omega) ?_; intro ao1 c1 w1 ho1 hg1 hb1; have HA1 := hide (told_append (base := []) (more := B) (Told.nil wr.drew) (by simp) ho1 hg1); have e0 : w1.cell? ⟨r, 0, none⟩ = some (.slice (some ⟨g, 0, none⟩) nodes.length cap) := ((HTX.out.below.cell (p := ⟨r, 0, none⟩) hrlt).symm.trans (HA1.out.below.cell (p := ⟨r, 0, none⟩) (Nat.lt_of_lt_of_le hrlt HTX.out.below.size)).symm).symm.trans H0.out; have e1 : w1.cell? ⟨g, k * 6, none⟩ = some (.string x.name) := ((HTX.out.below.cell (p := ⟨g, k * 6, none⟩) hglt).symm.trans (HA1.out.below.cell (p := ⟨g, k * 6, none⟩) (Nat.lt_of_lt_of_le hglt HTX.out.below.size)).symm).symm.trans Hx0.out; clear ho1 hg1 hb1)
                    | (refine wpList_append_Own _ rfl (.tmp 64) (.tmp 73) 35 rfl (nw wr.drew (w1.alloc (.cells #[.string x.name] 9))) 9 (.string ⟨#[]⟩) 1 16 Tryz.underlying35 infoString rfl (by decide) (.slice ao1 B.length c1) (strRows (B)) rfl (HA1.out.kept ((Below.refl _ _).alloc (Nat.le_refl _) _)).own (.slice (some ⟨w1.heap.size, 0, none⟩) 1 1) (strRows [x.name]) rfl (SrcIs.ofBlock (cs := #[.string x.name]) (heap_alloc_new w1 _) rfl (by simp [Value.oneCell'])) (B.length + 1) (by rw [len_strRows]; simp [strRows]) (by unfold maxLen; omega) (by omega) ?_; intro ao2 c2 w2 ho2 hg2 hb2; have HA2 := hide (told_append (base := B) (more := [x.name]) (HA1.out.kept ((Below.refl _ _).alloc (Nat.le_refl _) _)) (by simp) ho2 hg2); clear ho2 hg2 hb2)
                    | (refine wpList_append_Own _ rfl (.tmp 75) (.tmp 78) 35 rfl (nw wr.drew w2) 9 (.string ⟨#[]⟩) 1 16 Tryz.underlying35 infoString rfl (by decide) (.slice ao2 (B.length + 1) c2) (strRows (B ++ [x.name])) rfl HA2.out.own (.slice _ 0 _) (strRows []) rfl (src_none _ _ _) (B.length + 1) (by rw [len_strRows]; simp [strRows]) (by unfold maxLen; omega) (by omega) ?_; intro ao3 c3 w3 ho3 hg3 hb3; have HA3 := hide (told_append (base := B ++ [x.name]) (more := []) HA2.out (by simp) ho3 hg3); clear ho3 hg3 hb3))
                  have eB : refNames d (nodes.take (k + 1)) = B ++ [x.name] ++ [] := by
                    rw [Hsu.out, Hn.out, HI.out]
                    simp
                  refine ⟨⟨k + 1, by omega, by go_num, ?_, ?_⟩, by simp [intOf]; omega⟩
                  · rw [eB]
                    simp at hkl ⊢ <;> omega
                  · rw [eB]
                    exact HA3.out.wide HTX.out.below
      · have Hn := hide (show refAdd d B x = B by unfold refAdd; rw [if_neg (fun q => h1 q.1)])
        go_wp2
        refine ⟨⟨k + 1, by omega, by go_num, ?_, ?_⟩, by simp [intOf]; omega⟩
        · rw [Hsu.out, Hn.out]; omega
        · rw [Hsu.out, Hn.out]; exact HTo.out
    · go_wp2
      go_ret
      refine ⟨_, rfl, ?_⟩
      have e := HB.out
      rw [List.take_of_length_le (by omega)] at e
      rw [← e]
      exact HTo.out

/-- 'names': a directory's names, in order. -/
theorem refNames_any {w : World} {F : Nat → Prop} {r : Nat} {st : St} (d : Nat) (h0 : 0 < st.nodes.length) (hl : st.nodes.length ≤ 1700000000000) (hu : UniqL st.nodes) (h : RefIs w F r st) :
    Calls Tryz.prog 151 #[.pointer (some ⟨r, 0, none⟩), .int .i64 d] w fun e w' => ∃ out, e = .returned out ∧ Told w w' (namesOf st d) out := by
  obtain ⟨nv, lv, fv, h⟩ := h
  obtain ⟨g, cap, rfl, hmax, hF, hb, hcell, hfz⟩ := h.nodesAt h0
  rw [← refNames_eq hu d]
  exact names_core r g cap st.nodes d w hl h.c0 (fun i x hx => ⟨(hcell i x hx).1, (hcell i x hx).2.2.1, (hcell i x hx).2.2.2.2.2⟩)
end Go.Proofs.YtdmdgnghaceibaaGreat.P
