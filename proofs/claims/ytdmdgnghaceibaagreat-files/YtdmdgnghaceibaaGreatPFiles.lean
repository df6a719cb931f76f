/- For every script the law 'Files' answers true, and the script reads afterwards as it read before: every order of Attach, Clunk, Walk, Open, Create, Read, Write, List, Stat and Remove answers as the document's own answer does, and Calls at last counts alike. No condition. -/
import Derived.Test.YtdmdgnghaceibaaGreatPart12
import Derived.SizedLaws
import Derived.OpenShut
namespace Go.Proofs.YtdmdgnghaceibaaGreat.files
open Go.ChangeShapes Go.WideShapes Go.ChangeAt Go.RowKit P
set_option linter.unusedVariables false

set_option maxRecDepth 20000 in
theorem walk {W : World} (ops : List MOp) (ao : Option Addr) (c : Nat) (hs : ScriptAt W ao ops) :
    Calls Tryz.prog 4 #[.slice ao ops.length c] W fun e w' => e = .returned (.bool true) ∧ Below W.heap.size W w' := by
  have HP := hide (play_any ops ao c 10 (by decide) hs)
  clear hs
  go_enter Tryz.func4, Tryz.ntmps4
  go_wp2_with (go_at_call 12; refine HP.out.mono ?_; rintro e w2 ⟨rfl, hb⟩; have HB := hide hb; clear hb)
  go_ret
  exact ⟨rfl, HB.out⟩

theorem bytesOp : Tryz.prog.bytesOf 57 = 88 := by kernel_rfl

set_option maxRecDepth 100000 in
theorem lifted (os : Os) (started : os.Started) (H : Type) (enc : TypeId × Value → H) (F : Stop.Interp) :
    ReturnsInLeavingWide Rows.filesRow.assume Tryz.checked os 4 .any (Rows.filesSpec.pre6 enc Tryz.prog Tryz.f4 Rows.filesRow.domain false) ((OpenSpec.ofChange Rows.filesSpec).postWith enc Tryz.prog Tryz.f4 F (outsideKept [.timePasses]) false true false) := by
  refine leaving_of_change (C := Tryz.checked) own started (by kernel_rfl) Tryz.func4
    (ChangeSpec.witness6c (enc := enc) (C := Tryz.checked) ⟨#[], #[.slice none 0 0], []⟩ 8 (by kernel_rfl) (by kernel_rfl) (by kernel_rfl) (by kernel_rfl)) ?_
  intro W base args ds gs before hval0 hW hcnd hsz
  have hval : ∀ (j : Nat) t v, Tryz.f4.params[j]? = some t → args[j]? = some v → Value.okWide Tryz.prog W .any base t v := hval0
  have hW' := hW
  have hlt := hW.lt
  obtain ⟨p, q, hA0, hV, rfl, hfz, hnd⟩ := hW
  have hA : DataW.TrodAll enc Tryz.prog W 0 (fun _ => true) true Tryz.f4.params.toList args.toList ds p := hA0
  rw [Tryz.params4] at hA hval
  obtain ⟨v0, vs0, d0, ds0, p0, q0, hargs, rfl, rfl, h0, r0⟩ := trodAll_cons hA
  obtain ⟨rfl, rfl, rfl⟩ := trodAll_nil r0
  obtain rfl : args = #[v0] := by cases args; simp_all
  obtain ⟨rfl, rfl⟩ := trodVars_none hV
  clear hA0 hval0
  simp only [List.append_nil] at hW' hlt hsz
  obtain ⟨ao, len, cap, rfl⟩ := okWide_slice Tryz.underlying22 (hval 0 22 _ rfl rfl)
  obtain ⟨ops, rfl, hd, hops⟩ := open_script h0
  have hlen : ops.length ≤ 1600000000000 := by
    rcases hd with h | ⟨elems, spare, hd, hel⟩
    · omega
    · have := sized_slice hsz (j := 0) (t := 22) (e := 57) rfl (congrArg some hd) Tryz.underlying22
      rw [show Tryz.checked.prog.bytesOf 57 = 88 from bytesOp] at this
      unfold reachBytes at this
      omega
  have htext : ∀ (i : Nat) o, ops[i]? = some o → o.text.size ≤ 140737488355328 := fun i o ho => by
    have h1 := DataW.weights_mem_each (P := Tryz.prog) (ts := [22]) (ds := [d0]) (j := 0) rfl rfl _ (hops i o ho).1
    have h2 := List.all_eq_true.1 hsz _ h1
    simp only [decide_eq_true_eq] at h2
    unfold reachBytes at h2
    omega
  refine (walk ops ao cap ⟨hlen, fun i o ho => ⟨htext i o ho, (hops i o ho).2⟩⟩).mono fun e W' ⟨he, hb⟩ => ?_
  subst he
  refine ⟨_, rfl, hb.os, [d0], [], p0, [], p0, [], hW', trodAll_cons_mk (shut_bool Tryz.underlying4 _) trodAll_mk0, ?_, rfl, hb.frame _, fun h => by cases h⟩
  have hargs : DataW.TrodAll enc Tryz.prog W' 0 (fun b => decide (b < W.heap.size)) true [22] [.slice ao ops.length cap] [d0] (p0 ++ []) := trodAll_cons_mk (Below.trod (by kernel_rfl) (by kernel_rfl) (of_decide_eq_true (by kernel_rfl)) h0 hb hlt) trodAll_mk0
  rw [List.append_nil] at hargs
  exact hargs

theorem over : Rows.filesRow.holds Tryz.pinned (OpenSpec.ofChange Rows.filesSpec) :=
  OpenClaim.holds_of_wide_leaving_time 4 Tryz.f4 rfl rfl rfl rfl rfl rfl rfl ⟨rfl, rfl, rfl, rfl, rfl⟩ rfl rfl rfl rfl rfl (by kernel_rfl) Tryz.func4 (by kernel_rfl)
    (of_decide_eq_true (by kernel_rfl)) (by unfold Func.isWrapper; first | (rw [if_pos (by decide +kernel)]; kernel_rfl) | (rw [if_neg (by decide +kernel)]; exact ⟨rfl, rfl⟩))
    (fun os started H enc _ F => lifted os started H enc F)
end Go.Proofs.YtdmdgnghaceibaaGreat.files

namespace Go.Proofs.YtdmdgnghaceibaaGreat
theorem files_holds : Rows.FilesSaid := files.over
end Go.Proofs.YtdmdgnghaceibaaGreat
