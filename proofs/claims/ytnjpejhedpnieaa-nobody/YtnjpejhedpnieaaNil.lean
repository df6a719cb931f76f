/- Every call of the program on a nil Server, by itself: what it answers, and that it makes at most new memory. -/
import Derived.Test.YtnjpejhedpnieaaRows
import Derived.WalkKit
import Derived.ProofKit
import Derived.Defers
namespace Go.Proofs.Ytnjpejhedpnieaa
open Go.ChangeShapes Go.WideShapes Go.ChangeAt Go.RowKit

theorem attach_nil (x0 : Value) (w : World) :
    Calls Try.prog 4 #[.pointer none, x0] w fun e w' => e = .returned (.int .i64 13) ∧ w' = w := by
  go_enter_defers Try.func4, Try.ntmps4
  go_wp2
  exact ⟨_, results_tmp rfl _ _ _, rfl, rfl⟩

theorem open_nil (x0 : Value) (w : World) :
    Calls Try.prog 6 #[.pointer none, x0] w fun e w' => e = .returned (.int .i64 13) ∧ w' = w := by
  go_enter_defers Try.func6, Try.ntmps6
  go_wp2
  exact ⟨_, results_tmp rfl _ _ _, rfl, rfl⟩

theorem create_nil (x0 x1 x2 : Value) (w : World) :
    Calls Try.prog 7 #[.pointer none, x0, x1, x2] w fun e w' => e = .returned (.int .i64 13) ∧ w' = w := by
  go_enter_defers Try.func7, Try.ntmps7
  go_wp2
  exact ⟨_, results_tmp rfl _ _ _, rfl, rfl⟩

theorem clunk_nil (x0 : Value) (w : World) :
    Calls Try.prog 13 #[.pointer none, x0] w fun e w' => e = .returned (.int .i64 13) ∧ w' = w := by
  go_enter_defers Try.func13, Try.ntmps13
  go_wp2
  exact ⟨_, results_tmp rfl _ _ _, rfl, rfl⟩

theorem unbuilt_nil (x0 : Value) (w : World) :
    Calls Try.prog 27 #[.pointer none, x0] w fun e w' => e = .returned (.int .i64 13) ∧ w' = w := by
  go_enter_defers Try.func27, Try.ntmps27
  go_wp2
  exact ⟨_, results_tmp rfl _ _ _, rfl, rfl⟩

theorem walk_nil (x0 x1 x2 : Value) (w : World) :
    Calls Try.prog 5 #[.pointer none, x0, x1, x2] w fun e w' => e = .returned (.tuple #[.int .i64 0, .int .i64 13]) ∧ w' = w := by
  go_enter_defers Try.func5, Try.ntmps5
  go_wp2
  exact ⟨_, results_tmp2 rfl _ _ _, rfl, rfl⟩

theorem calls_nil (w : World) :
    Calls Try.prog 17 #[.pointer none] w fun e w' => e = .returned (.int .i64 0) ∧ w' = w := by
  go_enter Try.func17, Try.ntmps17
  go_wp2
  go_ret
  exact ⟨rfl, rfl⟩

theorem num_any (n : Int) (w : World) :
    Calls Try.prog 18 #[.int .i64 n] w fun e w' => e = .returned (.int .i64 n) ∧ w' = w := by
  go_enter Try.func18, Try.ntmps18
  go_wp2
  go_ret
  exact ⟨rfl, rfl⟩

theorem remove_nil (x0 : Int) (w : World) :
    Calls Try.prog 12 #[.pointer none, .int .i64 x0] w fun e w' => e = .returned (.int .i64 13) ∧ w' = w.alloc (.cells #[.int .i64 x0] 3) := by
  go_enter Try.func12, Try.ntmps12
  go_wp2_with (go_at_call 27; refine (unbuilt_nil _ _).mono ?_; rintro e w' ⟨rfl, rfl⟩)
  go_ret
  exact ⟨rfl, rfl⟩

theorem bind_nil (x0 x1 x2 : Int) (w : World) :
    Calls Try.prog 14 #[.pointer none, .int .i64 x0, .int .i64 x1, .int .i64 x2] w fun e w' => e = .returned (.int .i64 13) ∧ w' = w.alloc (.cells #[.int .i64 x0, .int .i64 x1] 3) := by
  go_enter Try.func14, Try.ntmps14
  go_wp2_with (go_at_call 27; refine (unbuilt_nil _ _).mono ?_; rintro e w' ⟨rfl, rfl⟩)
  go_ret
  exact ⟨rfl, rfl⟩

theorem unbind_nil (x0 : Int) (w : World) :
    Calls Try.prog 15 #[.pointer none, .int .i64 x0] w fun e w' => e = .returned (.int .i64 13) ∧ w' = w.alloc (.cells #[.int .i64 x0] 3) := by
  go_enter Try.func15, Try.ntmps15
  go_wp2_with (go_at_call 27; refine (unbuilt_nil _ _).mono ?_; rintro e w' ⟨rfl, rfl⟩)
  go_ret
  exact ⟨rfl, rfl⟩

theorem read_nil (x0 : Int) (x1 : Int) (x2 : Int) (w : World) :
    Calls Try.prog 8 #[.pointer none, .int .i64 x0, .int .i64 x1, .int .i64 x2] w fun e w' => e = .returned (.tuple #[.slice none 0 0, .int .i64 13]) ∧ w' = w.alloc (.cells #[.int .i64 x0] 3) := by
  go_enter Try.func8, Try.ntmps8
  go_wp2_with (go_at_call 27; refine (unbuilt_nil _ _).mono ?_; rintro e w' ⟨rfl, rfl⟩)
  go_ret2
  exact ⟨rfl, rfl⟩

theorem write_nil (x0 : Int) (x1 : Int) (x2 : Value) (w : World) :
    Calls Try.prog 9 #[.pointer none, .int .i64 x0, .int .i64 x1, x2] w fun e w' => e = .returned (.tuple #[.int .i64 0, .int .i64 13]) ∧ w' = w.alloc (.cells #[.int .i64 x0] 3) := by
  go_enter Try.func9, Try.ntmps9
  go_wp2_with (go_at_call 27; refine (unbuilt_nil _ _).mono ?_; rintro e w' ⟨rfl, rfl⟩)
  go_ret2
  exact ⟨rfl, rfl⟩

theorem list_nil (x0 : Int) (w : World) :
    Calls Try.prog 10 #[.pointer none, .int .i64 x0] w fun e w' => e = .returned (.tuple #[.slice none 0 0, .int .i64 13]) ∧ w' = w.alloc (.cells #[.int .i64 x0] 3) := by
  go_enter Try.func10, Try.ntmps10
  go_wp2_with (go_at_call 27; refine (unbuilt_nil _ _).mono ?_; rintro e w' ⟨rfl, rfl⟩)
  go_ret2
  exact ⟨rfl, rfl⟩

theorem used_nil (x0 : Int) (w : World) :
    Calls Try.prog 16 #[.pointer none, .int .i64 x0] w fun e w' => e = .returned (.tuple #[.int .i64 0, .int .i64 13]) ∧ w' = w.alloc (.cells #[.int .i64 x0] 3) := by
  go_enter Try.func16, Try.ntmps16
  go_wp2_with (go_at_call 27; refine (unbuilt_nil _ _).mono ?_; rintro e w' ⟨rfl, rfl⟩)
  go_ret2
  exact ⟨rfl, rfl⟩

theorem stat_nil (x0 : Int) (w : World) :
    Calls Try.prog 11 #[.pointer none, .int .i64 x0] w fun e w' => e = .returned (.tuple #[.agg #[.string ⟨#[]⟩, .bool false, .int .i64 0, .int .i64 0, .int .i64 0], .int .i64 13]) ∧ w' = (w.alloc (.cells #[.string ⟨#[]⟩, .bool false, .int .i64 0, .int .i64 0, .int .i64 0] 36)).alloc (.cells #[.int .i64 x0] 3) := by
  go_enter Try.func11, Try.ntmps11
  go_wp2_with (go_at_call 27; refine (unbuilt_nil _ _).mono ?_; rintro e w' ⟨rfl, rfl⟩)
  exact bodyPost_ret (v := .tuple #[.agg #[.string ⟨#[]⟩, .bool false, .int .i64 0, .int .i64 0, .int .i64 0], .int .i64 13]) (by simp [results, Try.results11, go_sem]) rfl ⟨rfl, rfl⟩
end Go.Proofs.Ytnjpejhedpnieaa
