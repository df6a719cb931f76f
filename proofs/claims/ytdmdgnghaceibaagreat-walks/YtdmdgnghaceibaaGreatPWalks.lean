/- For every script the law 'Walks' answers true, and the script reads afterwards as it read before: every order of Attach, Clunk, Walk, Open and Create answers as the document's own answer does, and Calls at last counts alike. No condition. -/
import Derived.Test.YtdmdgnghaceibaaGreatPart07
import Derived.SizedLaws
import Derived.OpenShut
namespace Go.Proofs.YtdmdgnghaceibaaGreat.walks
open Go.ChangeShapes Go.WideShapes Go.ChangeAt Go.RowKit P
set_option linter.unusedVariables false

set_option maxRecDepth 20000 in
theorem walk {W : World} (ops : List MOp) (ao : Option Addr) (c : Nat) (hs : ScriptAt W ao ops) :
    Calls Tryz.prog 3 #[.slice ao ops.length c] W fun e w' => e = .returned (.bool true) ∧ Below W.heap.size W w' := by
  have HP := hide (play_any ops ao c hs)
  clear hs
  go_enter Tryz.func3, Tryz.ntmps3
  go_wp2_with (go_at_call 12; refine HP.out.mono ?_; rintro e w2 ⟨rfl, hb⟩; have HB := hide hb; clear hb)
  go_ret
  exact ⟨rfl, HB.out⟩

theorem bytesOp : Tryz.prog.bytesOf 57 = 88 := by kernel_rfl

set_option maxRecDepth 100000 in
theorem lifted (os : Os) (started : os.Started) (H : Type) (enc : TypeId × Value → H) (F : Stop.Interp) :
    ReturnsInLeavingWide Rows.walksRow.assume Tryz.checked os 3 .any (Rows.walksSpec.pre6 enc Tryz.prog Tryz.f3 Rows.walksRow.domain false) ((OpenSpec.ofChange Rows.walksSpec).postWith enc Tryz.prog Tryz.f3 F (outsideKept [.timePasses]) false true false) := by
  refine leaving_of_change (C := Tryz.checked) own started (by kernel_rfl) Tryz.func3
    (ChangeSpec.witness6c (enc := enc) (C := Tryz.checked) ⟨#[], #[.slice none 0 0], []⟩ 8 (by kernel_rfl) (by kernel_rfl) (by kernel_rfl) (by kernel_rfl)) ?_
  intro W base args ds gs before hval0 hW hcnd hsz
  have hval : ∀ (j : Nat) t v, Tryz.f3.params[j]? = some t → args[j]? = some v → Value.okWide Tryz.prog W .any base t v := hval0
  have hW' := hW
  have hlt := hW.lt
  obtain ⟨p, q, hA0, hV, rfl, hfz, hnd⟩ := hW
  have hA : DataW.TrodAll enc Tryz.prog W 0 (fun _ => true) true Tryz.f3.params.toList args.toList ds p := hA0
  rw [Tryz.params3] at hA hval
  obtain ⟨v0, vs0, d0, ds0, p0, q0, hargs, rfl, rfl, h0, r0⟩ := trodAll_cons hA
  obtain ⟨rfl, rfl, rfl⟩ := trodAll_nil r0
  obtain rfl : args = #[v0] := by cases args; simp_all
  obtain ⟨rfl, rfl⟩ := trodVars_none hV
  clear hA0 hval0
  simp only [List.append_nil] at hW' hlt hsz
  obtain ⟨ao, len, cap, rfl⟩ := okWide_slice Tryz.underlying22 (hval 0 22 _ rfl rfl)
  obtain ⟨ops, rfl, hd, hops⟩ := open_script h0
  have hlen : ops.length ≤ 1600000000000 := by
    rcases hd with h | ⟨elems, spare, hd, hel⟩
    · omega
    · have := sized_slice hsz (j := 0) (t := 22) (e := 57) rfl (congrArg some hd) Tryz.underlying22
      rw [show Tryz.checked.prog.bytesOf 57 = 88 from bytesOp] at this
      unfold reachBytes at this
      omega
  refine (walk ops ao cap ⟨hlen, hops⟩).mono fun e W' ⟨he, hb⟩ => ?_
  subst he
  refine ⟨_, rfl, hb.os, [d0], [], p0, [], p0, [], hW', trodAll_cons_mk (shut_bool Tryz.underlying4 _) trodAll_mk0, ?_, rfl, hb.frame _, fun h => by cases h⟩
  have hargs : DataW.TrodAll enc Tryz.prog W' 0 (fun b => decide (b < W.heap.size)) true [22] [.slice ao ops.length cap] [d0] (p0 ++ []) := trodAll_cons_mk (Below.trod (by kernel_rfl) (by kernel_rfl) (of_decide_eq_true (by kernel_rfl)) h0 hb hlt) trodAll_mk0
  rw [List.append_nil] at hargs
  exact hargs

theorem over : Rows.walksRow.holds Tryz.pinned (OpenSpec.ofChange Rows.walksSpec) :=
  OpenClaim.holds_of_wide_leaving_time 3 Tryz.f3 rfl rfl rfl rfl rfl rfl rfl ⟨rfl, rfl, rfl, rfl, rfl⟩ rfl rfl rfl rfl rfl (by kernel_rfl) Tryz.func3 (by kernel_rfl)
    (of_decide_eq_true (by kernel_rfl)) (by unfold Func.isWrapper; first | (rw [if_pos (by decide +kernel)]; kernel_rfl) | (rw [if_neg (by decide +kernel)]; exact ⟨rfl, rfl⟩))
    (fun os started H enc _ F => lifted os started H enc F)
end Go.Proofs.YtdmdgnghaceibaaGreat.walks

namespace Go.Proofs.YtdmdgnghaceibaaGreat
theorem walks_holds : Rows.WalksSaid := walks.over
end Go.Proofs.YtdmdgnghaceibaaGreat
