/- For all raw numbers the law 'Over' answers true: of directories laid over and under one, each name leads to the file of the first that has it; all names are listed, each once, those of the first ahead; when all is taken away it is as it was. No condition. -/
import Derived.Test.YtdmdgnghaceibaaGreatPart12
import Derived.ChangeSlices
import Derived.SizedLaws
import Derived.OpenShut
namespace Go.Proofs.YtdmdgnghaceibaaGreat.over
open Go.ChangeShapes Go.WideShapes Go.ChangeAt Go.RowKit P
set_option linter.unusedVariables false

theorem cellsInt : Tryz.prog.cellsOf 3 = 1 := by kernel_rfl
/-- Raw numbers that were read. -/
theorem open_raw {H : Type} {enc : TypeId × Value → H} {W : World} {ao : Option Addr} {len cap : Nat} {d : DataW H} {ps : List MemPlace} (h : DataW.Trod enc Tryz.prog W 0 (fun _ => true) true 58 (.slice ao len cap) d ps) :
    ∃ l : List Int, len = l.length ∧ IntsIn W ao l := by
  obtain ⟨fuel, h⟩ := h
  have hcs : (Value.slice ao len cap).cells.toList = [.slice ao len cap] := rfl
  rw [hcs] at h
  rcases open_ints Tryz.underlying58 Tryz.underlying3 cellsInt h with ⟨hc, _⟩ | ⟨a, len', cap', zs, hc, _, hl, hm, hz, _, hx, hw⟩
  · simp only [List.cons.injEq, Value.slice.injEq, and_true] at hc
    obtain ⟨rfl, rfl, rfl⟩ := hc
    exact ⟨[], rfl, by simp, fun i n hn => by simp at hn⟩
  · simp only [List.cons.injEq, Value.slice.injEq, and_true] at hc
    obtain ⟨rfl, rfl, rfl⟩ := hc
    have hlz : len ≤ zs.length := by rw [hz]; simp; omega
    refine ⟨zs.take len, by simp; omega, by unfold maxLen at hm; simp; omega, fun i n hn => ?_⟩
    have hi : i < len := by have := M.lt_of_getElem? hn; simp at this; omega
    have hz0 : zs[i]? = some n := by rw [List.getElem?_take_of_lt hi] at hn; exact hn
    have hc := hx i (by omega)
    have e : zs.getD i 0 = n := by rw [List.getD_eq_getElem?_getD, hz0]; rfl
    rw [e] at hc
    have hsp : a.spot = none := cell_spot (a := a) (by simpa [Addr.add] using hx 0 (by omega))
    obtain ⟨nb, no, sp⟩ := a
    have hsp : sp = none := hsp
    subst hsp
    rw [Addr.add_lit] at hc
    exact ⟨P.range_i64 (hw n (List.mem_of_getElem? hz0)), nb, no, rfl, World.block_lt_of_cell? W _ hc, hc⟩

set_option maxRecDepth 100000 in
theorem lifted (os : Os) (started : os.Started) (H : Type) (enc : TypeId × Value → H) (F : Stop.Interp) :
    ReturnsInLeavingWide Rows.overRow.assume Tryz.checked os 10 .any (Rows.overSpec.pre6 enc Tryz.prog Tryz.f10 Rows.overRow.domain false) ((OpenSpec.ofChange Rows.overSpec).postWith enc Tryz.prog Tryz.f10 F (outsideKept [.timePasses]) false true false) := by
  refine leaving_of_change (C := Tryz.checked) own started (by kernel_rfl) Tryz.func10
    (ChangeSpec.witness6c (enc := enc) (C := Tryz.checked) ⟨#[], #[.int .i64 0, .slice none 0 0, .slice none 0 0], []⟩ 8 (by kernel_rfl) (by kernel_rfl) (by kernel_rfl) (by kernel_rfl)) ?_
  intro W base args ds gs before hval0 hW hcnd hsz
  have hval : ∀ (j : Nat) t v, Tryz.f10.params[j]? = some t → args[j]? = some v → Value.okWide Tryz.prog W .any base t v := hval0
  have hW' := hW
  have hlt := hW.lt
  obtain ⟨p, q, hA0, hV, rfl, hfz, hnd⟩ := hW
  have hA : DataW.TrodAll enc Tryz.prog W 0 (fun _ => true) true Tryz.f10.params.toList args.toList ds p := hA0
  rw [Tryz.params10] at hA hval
  obtain ⟨v0, vs0, d0, ds0, p0, q0, hargs, rfl, rfl, h0, r0⟩ := trodAll_cons hA
  obtain ⟨v1, vs1, d1, ds1, p1, q1, hargs1, rfl, rfl, h1, r1⟩ := trodAll_cons r0
  obtain ⟨v2, vs2, d2, ds2, p2, q2, hargs2, rfl, rfl, h2, r2⟩ := trodAll_cons r1
  obtain ⟨rfl, rfl, rfl⟩ := trodAll_nil r2
  subst hargs2 hargs1
  obtain rfl : args = #[v0, v1, v2] := by cases args; simp_all
  obtain ⟨rfl, rfl⟩ := trodVars_none hV
  clear hA0 hval0
  simp only [List.append_nil] at hW' hlt hsz
  obtain ⟨n0, rfl, rfl, rfl, wf0⟩ := open_int Tryz.underlying3 (hval 0 3 _ rfl rfl) h0
  obtain ⟨ao1, len1, cap1, rfl⟩ := okWide_slice Tryz.underlying58 (hval 1 58 _ rfl rfl)
  obtain ⟨ao2, len2, cap2, rfl⟩ := okWide_slice Tryz.underlying58 (hval 2 58 _ rfl rfl)
  obtain ⟨l1, rfl, hl1⟩ := open_raw h1
  obtain ⟨l2, rfl, hl2⟩ := open_raw h2
  refine (kover_any n0 l1 l2 ao1 ao2 cap1 cap2 (P.range_i64 wf0) hl1 hl2).mono fun e W' ⟨he, hb⟩ => ?_
  subst he
  refine ⟨_, rfl, hb.os, [.lit (.int .i64 n0), d1, d2], [], p1 ++ p2, [], p1 ++ p2, [], hW', trodAll_cons_mk (shut_bool Tryz.underlying4 _) trodAll_mk0, ?_, rfl, hb.frame _, fun h => by cases h⟩
  have hargs : DataW.TrodAll enc Tryz.prog W' 0 (fun b => decide (b < W.heap.size)) true [3, 58, 58] [.int .i64 n0, .slice ao1 l1.length cap1, .slice ao2 l2.length cap2] [.lit (.int .i64 n0), d1, d2] ([] ++ (p1 ++ (p2 ++ []))) :=
    trodAll_cons_mk (shut_int Tryz.underlying3 wf0) (trodAll_cons_mk (Below.trod (by kernel_rfl) (by kernel_rfl) (of_decide_eq_true (by kernel_rfl)) h1 hb (fun x hx => hlt x (by simp [hx]))) (trodAll_cons_mk (Below.trod (by kernel_rfl) (by kernel_rfl) (of_decide_eq_true (by kernel_rfl)) h2 hb (fun x hx => hlt x (by simp [hx]))) trodAll_mk0))
  rw [List.append_nil] at hargs
  exact hargs

theorem over : Rows.overRow.holds Tryz.pinned (OpenSpec.ofChange Rows.overSpec) :=
  OpenClaim.holds_of_wide_leaving_time 10 Tryz.f10 rfl rfl rfl rfl rfl rfl rfl ⟨rfl, rfl, rfl, rfl, rfl⟩ rfl rfl rfl rfl rfl (by kernel_rfl) Tryz.func10 (by kernel_rfl)
    (of_decide_eq_true (by kernel_rfl)) (by unfold Func.isWrapper; first | (rw [if_pos (by decide +kernel)]; kernel_rfl) | (rw [if_neg (by decide +kernel)]; exact ⟨rfl, rfl⟩))
    (fun os started H enc _ F => lifted os started H enc F)
end Go.Proofs.YtdmdgnghaceibaaGreat.over

namespace Go.Proofs.YtdmdgnghaceibaaGreat
theorem over_holds : Rows.OverSaid := over.over
end Go.Proofs.YtdmdgnghaceibaaGreat
