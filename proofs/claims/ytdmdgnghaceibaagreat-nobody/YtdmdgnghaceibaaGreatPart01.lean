/- Every call of the program on a nil Server, by itself: what it answers, and that it makes at most new memory. -/
import Derived.Test.YtdmdgnghaceibaaGreatRows
import Derived.WalkKit
import Derived.ProofKit
import Derived.Defers
import Derived.Conc.HoldsTime
import Derived.Handed
import Derived.SizedLaws
import Derived.OpenShut
namespace Go.Proofs.YtdmdgnghaceibaaGreat.nobody
open Go.ChangeShapes Go.WideShapes Go.ChangeAt Go.RowKit
set_option linter.unusedVariables false

set_option maxRecDepth 20000 in
theorem attach_nil (x0 : Value) (w : World) :
    Calls Tryz.prog 13 #[.pointer none, x0] w fun e w' => e = .returned (.int .i64 13) ∧ w' = w := by
  go_enter_defers Tryz.func13, Tryz.ntmps13
  go_wp2
  exact ⟨_, results_tmp rfl _ _ _, rfl, rfl⟩

set_option maxRecDepth 20000 in
theorem open_nil (x0 : Value) (w : World) :
    Calls Tryz.prog 15 #[.pointer none, x0] w fun e w' => e = .returned (.int .i64 13) ∧ w' = w := by
  go_enter_defers Tryz.func15, Tryz.ntmps15
  go_wp2
  exact ⟨_, results_tmp rfl _ _ _, rfl, rfl⟩

set_option maxRecDepth 20000 in
theorem create_nil (x0 x1 x2 : Value) (w : World) :
    Calls Tryz.prog 16 #[.pointer none, x0, x1, x2] w fun e w' => e = .returned (.int .i64 13) ∧ w' = w := by
  go_enter_defers Tryz.func16, Tryz.ntmps16
  go_wp2
  exact ⟨_, results_tmp rfl _ _ _, rfl, rfl⟩

set_option maxRecDepth 20000 in
theorem clunk_nil (x0 : Value) (w : World) :
    Calls Tryz.prog 22 #[.pointer none, x0] w fun e w' => e = .returned (.int .i64 13) ∧ w' = w := by
  go_enter_defers Tryz.func22, Tryz.ntmps22
  go_wp2
  exact ⟨_, results_tmp rfl _ _ _, rfl, rfl⟩

set_option maxRecDepth 20000 in
theorem remove_nil (x0 : Value) (w : World) :
    Calls Tryz.prog 21 #[.pointer none, x0] w fun e w' => e = .returned (.int .i64 13) ∧ w' = w := by
  go_enter_defers Tryz.func21, Tryz.ntmps21
  go_wp2
  exact ⟨_, results_tmp rfl _ _ _, rfl, rfl⟩

set_option maxRecDepth 20000 in
theorem bind_nil (x0 x1 x2 : Value) (w : World) :
    Calls Tryz.prog 23 #[.pointer none, x0, x1, x2] w fun e w' => e = .returned (.int .i64 13) ∧ w' = w := by
  go_enter_defers Tryz.func23, Tryz.ntmps23
  go_wp2
  exact ⟨_, results_tmp rfl _ _ _, rfl, rfl⟩

set_option maxRecDepth 20000 in
theorem unbind_nil (x0 : Value) (w : World) :
    Calls Tryz.prog 24 #[.pointer none, x0] w fun e w' => e = .returned (.int .i64 13) ∧ w' = w := by
  go_enter_defers Tryz.func24, Tryz.ntmps24
  go_wp2
  exact ⟨_, results_tmp rfl _ _ _, rfl, rfl⟩

set_option maxRecDepth 20000 in
theorem walk_nil (x0 x1 x2 : Value) (w : World) :
    Calls Tryz.prog 14 #[.pointer none, x0, x1, x2] w fun e w' => e = .returned (.tuple #[.int .i64 0, .int .i64 13]) ∧ w' = w := by
  go_enter_defers Tryz.func14, Tryz.ntmps14
  go_wp2
  exact ⟨_, results_tmp2 rfl _ _ _, rfl, rfl⟩

set_option maxRecDepth 20000 in
theorem read_nil (x0 x1 x2 : Value) (w : World) :
    Calls Tryz.prog 17 #[.pointer none, x0, x1, x2] w fun e w' => e = .returned (.tuple #[.slice none 0 0, .int .i64 13]) ∧ w' = w := by
  go_enter_defers Tryz.func17, Tryz.ntmps17
  go_wp2
  exact ⟨_, results_tmp2 rfl _ _ _, rfl, rfl⟩

set_option maxRecDepth 20000 in
theorem write_nil (x0 x1 x2 : Value) (w : World) :
    Calls Tryz.prog 18 #[.pointer none, x0, x1, x2] w fun e w' => e = .returned (.tuple #[.int .i64 0, .int .i64 13]) ∧ w' = w := by
  go_enter_defers Tryz.func18, Tryz.ntmps18
  go_wp2
  exact ⟨_, results_tmp2 rfl _ _ _, rfl, rfl⟩

set_option maxRecDepth 20000 in
theorem list_nil (x0 : Value) (w : World) :
    Calls Tryz.prog 19 #[.pointer none, x0] w fun e w' => e = .returned (.tuple #[.slice none 0 0, .int .i64 13]) ∧ w' = w := by
  go_enter_defers Tryz.func19, Tryz.ntmps19
  go_wp2
  exact ⟨_, results_tmp2 rfl _ _ _, rfl, rfl⟩

set_option maxRecDepth 20000 in
theorem used_nil (x0 : Value) (w : World) :
    Calls Tryz.prog 25 #[.pointer none, x0] w fun e w' => e = .returned (.tuple #[.int .i64 0, .int .i64 13]) ∧ w' = w := by
  go_enter_defers Tryz.func25, Tryz.ntmps25
  go_wp2
  exact ⟨_, results_tmp2 rfl _ _ _, rfl, rfl⟩

set_option maxRecDepth 20000 in
theorem stat_nil (x0 : Value) (w : World) :
    Calls Tryz.prog 20 #[.pointer none, x0] w fun e w' => e = .returned (.tuple #[.agg #[.string ⟨#[]⟩, .bool false, .int .i64 0, .int .i64 0, .int .i64 0], .int .i64 13]) ∧ w' = w.alloc (.cells #[.string ⟨#[]⟩, .bool false, .int .i64 0, .int .i64 0, .int .i64 0] 39) := by
  go_enter_defers Tryz.func20, Tryz.ntmps20
  go_wp2
  exact ⟨.tuple #[.agg #[.string ⟨#[]⟩, .bool false, .int .i64 0, .int .i64 0, .int .i64 0], .int .i64 13], by simp [results, Tryz.results20, go_sem], rfl, rfl⟩

theorem calls_nil (w : World) :
    Calls Tryz.prog 26 #[.pointer none] w fun e w' => e = .returned (.int .i64 0) ∧ w' = w := by
  go_enter Tryz.func26, Tryz.ntmps26
  go_wp2
  go_ret
  exact ⟨rfl, rfl⟩

theorem num_any (n : Int) (w : World) :
    Calls Tryz.prog 27 #[.int .i64 n] w fun e w' => e = .returned (.int .i64 n) ∧ w' = w := by
  go_enter Tryz.func27, Tryz.ntmps27
  go_wp2
  go_ret
  exact ⟨rfl, rfl⟩
end Go.Proofs.YtdmdgnghaceibaaGreat.nobody
/- From a call of one goroutine to a row that says 'leaving' and that time passes. -/
namespace Go.Proofs.YtdmdgnghaceibaaGreat
open Go.ChangeShapes Go.WideShapes Go.ChangeAt Go.RowKit
set_option linter.unusedVariables false

theorem own : ownKnob Tryz.prog.godebug = none := by kernel_rfl

/-- Who is alone at the return has nobody that still leaves. -/
theorem onlyLeaving_of_quiet {P : Program} {m : Machine} (h : m.quiet) : m.OnlyLeaving P := by
  refine ⟨fun g hg => ⟨0, ?_⟩, h.2⟩
  have h1 := h.1
  unfold Machine.othersDone at h1
  simp only [List.all_eq_true] at h1
  have := h1 g hg
  show g.status = .finished
  cases hs : g.status with
  | finished => rfl
  | _ => rw [hs] at this; cases this

theorem leaving_of_handed {a : Assume} {C : Checked} {os : Os} {f : FuncId} {r : Reach} {Pre : World → Array Value → Prop} {Post : World → Array Value → Value → World → Prop}
    (h : ReturnsInHanded a C os f r Pre Post) : ReturnsInLeavingWide a C os f r Pre Post := fun enter =>
  ReturnsInOpen.mono (fun _ _ _ x => ⟨x.2.1, onlyLeaving_of_quiet x.1, x.2.2⟩) (fun _ x => x) (h enter)

section
variable {H : Type} {enc : TypeId × Value → H}

/-- A contract over one goroutine, as the row asks it. -/
theorem leaving_of_change {a : Assume} {C : Checked} {os : Os} {f : FuncId} {fn : Func} {s : ChangeSpec} {F : Stop.Interp} {conds : List PathCond} {apart fresh handsOn : Bool}
    (own : ownKnob C.prog.godebug = none) (started : os.Started) (noInit : C.prog.inits.idxOf? f = none) (hfn : C.prog.funcs[f]? = some fn)
    (witness : ∃ (w : World) (tape : Tape) (i : Input), w.os = os ∧ (w.forCall tape i).Shaped C.prog ∧ i.vars = [] ∧ Input.okWide C.prog (w.forCall tape i) .any w.heap.size f i ∧
      s.pre6 enc C.prog fn conds apart (w.forCall tape i).memory i.args ∧ a.holds C.prog (lone (Frame.enter C.prog f i.args .normal) [] (w.forCall tape i)))
    (contract : ∀ (W : World) (base : Nat) (args : Array Value) (ds gs : List (DataW H)) (before : List MemPlace),
      (∀ (j : Nat) t v, fn.params[j]? = some t → args[j]? = some v → Value.okWide C.prog W .any base t v) →
      DataW.Whole enc C.prog fn.params.toList s.vars apart W args.toList ds gs before →
      conds.all (PathCond.test C.prog ⟨fn.params.toList, ds, s.plain.varTypes C.prog, gs⟩) = true →
      (DataW.weightsEach C.prog (fn.params.toList ++ s.plain.varTypes C.prog) (ds ++ gs)).all (· ≤ reachBytes) = true →
      Calls C.prog f args W fun e W' => ∃ v, e = .returned v ∧ W'.os = W.os ∧ s.post enc C.prog fn apart fresh handsOn false W args v W') :
    ReturnsInLeavingWide a C os f .any (s.pre6 enc C.prog fn conds apart) ((OpenSpec.ofChange s).postWith enc C.prog fn F (outsideKept [.timePasses]) apart fresh handsOn) := by
  refine leaving_of_handed (returnsInHanded_of_calls own started noInit witness ?_)
  intro w tape i _ _ _ hok hpre hholds
  obtain ⟨_, _, _, fn', hfn', _, _, _, _, hval⟩ := hok
  have e : fn' = fn := Option.some.inj (hfn'.symm.trans hfn)
  subst e
  obtain ⟨⟨ds, gs, before, hw, hc⟩, hz⟩ := hpre
  have hw' := DataW.Whole.of_heap (w' := w.forCall tape i) (by rfl) hw
  refine (contract (w.forCall tape i) w.heap.size i.args ds gs before hval hw' hc (hz.weights hw)).mono fun e W' ⟨v, he, hos, hp⟩ => ?_
  subst he
  refine postWith_blind (postWith_of_post ?_ (by rw [hos]; exact Go.ConcM.OsLater.refl _))
  have e1 : ({ W' with os := (w.forCall tape i).os } : World) = W' := by rw [← hos]
  rw [e1]
  exact hp
end
end Go.Proofs.YtdmdgnghaceibaaGreat
