/- For every raw number and every text the law 'Gone' answers true: a file that was removed is seen by nobody any more, whichever fid still stands there, its name may be made anew, and a directory with entries can't be removed. No condition. -/
import Derived.Test.YtdmdgnghaceibaaGreatPart10
import Derived.SizedLaws
import Derived.OpenShut
import Derived.ChangeMaps5
namespace Go.Proofs.YtdmdgnghaceibaaGreat.gone
open Go.ChangeShapes Go.WideShapes Go.ChangeAt Go.RowKit P
set_option linter.unusedVariables false

set_option maxRecDepth 100000 in
theorem lifted (os : Os) (started : os.Started) (H : Type) (enc : TypeId × Value → H) (F : Stop.Interp) :
    ReturnsInLeavingWide Rows.goneRow.assume Tryz.checked os 9 .any (Rows.goneSpec.pre6 enc Tryz.prog Tryz.f9 Rows.goneRow.domain false) ((OpenSpec.ofChange Rows.goneSpec).postWith enc Tryz.prog Tryz.f9 F (outsideKept [.timePasses]) false true false) := by
  refine leaving_of_change (C := Tryz.checked) own started (by kernel_rfl) Tryz.func9
    (ChangeSpec.witness6c (enc := enc) (C := Tryz.checked) ⟨#[], #[.int .i64 0, .string ⟨#[]⟩], []⟩ 8 (by kernel_rfl) (by kernel_rfl) (by kernel_rfl) (by kernel_rfl)) ?_
  intro W base args ds gs before hval0 hW hcnd hsz
  have hval : ∀ (j : Nat) t v, Tryz.f9.params[j]? = some t → args[j]? = some v → Value.okWide Tryz.prog W .any base t v := hval0
  have hW' := hW
  have hlt := hW.lt
  obtain ⟨p, q, hA0, hV, rfl, hfz, hnd⟩ := hW
  have hA : DataW.TrodAll enc Tryz.prog W 0 (fun _ => true) true Tryz.f9.params.toList args.toList ds p := hA0
  rw [Tryz.params9] at hA hval
  obtain ⟨v0, vs0, d0, ds0, p0, q0, hargs, rfl, rfl, h0, r0⟩ := trodAll_cons hA
  obtain ⟨v1, vs1, d1, ds1, p1, q1, hargs1, rfl, rfl, h1, r1⟩ := trodAll_cons r0
  obtain ⟨rfl, rfl, rfl⟩ := trodAll_nil r1
  subst hargs1
  obtain rfl : args = #[v0, v1] := by cases args; simp_all
  obtain ⟨rfl, rfl⟩ := trodVars_none hV
  clear hA0 hval0
  simp only [List.append_nil] at hW' hlt hsz
  obtain ⟨n0, rfl, rfl, rfl, wf0⟩ := open_int Tryz.underlying3 (hval 0 3 _ rfl rfl) h0
  obtain ⟨t1, rfl, rfl, rfl, ht1⟩ := Go.ChangeMaps.open_string Tryz.underlying9 (hval 1 9 _ rfl rfl) h1
  have htext : t1.size ≤ 140737488355328 := by
    have := sized_string hsz (j := 1) (t := 9) rfl rfl
    unfold reachBytes at this
    have e : t1.data.toList.length = t1.size := by rw [Array.length_toList]; rfl
    omega
  refine (kgone_any n0 t1 (P.range_i64 wf0) htext).mono fun e W' ⟨he, hb⟩ => ?_
  subst he
  refine ⟨_, rfl, hb.os, [.lit (.int .i64 n0), .lit (.string t1.data.toList)], [], [], [], [], [], hW', trodAll_cons_mk (shut_bool Tryz.underlying4 _) trodAll_mk0, ?_, rfl, hb.frame _, fun h => by cases h⟩
  exact trodAll_cons_mk (shut_int Tryz.underlying3 wf0) (trodAll_cons_mk (Go.ChangeMaps.shut_string Tryz.underlying9 ht1) trodAll_mk0)

theorem over : Rows.goneRow.holds Tryz.pinned (OpenSpec.ofChange Rows.goneSpec) :=
  OpenClaim.holds_of_wide_leaving_time 9 Tryz.f9 rfl rfl rfl rfl rfl rfl rfl ⟨rfl, rfl, rfl, rfl, rfl⟩ rfl rfl rfl rfl rfl (by kernel_rfl) Tryz.func9 (by kernel_rfl)
    (of_decide_eq_true (by kernel_rfl)) (by unfold Func.isWrapper; first | (rw [if_pos (by decide +kernel)]; kernel_rfl) | (rw [if_neg (by decide +kernel)]; exact ⟨rfl, rfl⟩))
    (fun os started H enc _ F => lifted os started H enc F)
end Go.Proofs.YtdmdgnghaceibaaGreat.gone

namespace Go.Proofs.YtdmdgnghaceibaaGreat
theorem gone_holds : Rows.GoneSaid := gone.over
end Go.Proofs.YtdmdgnghaceibaaGreat
