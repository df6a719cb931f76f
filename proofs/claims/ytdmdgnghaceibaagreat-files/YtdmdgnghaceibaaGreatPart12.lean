/- A script's steps, in the model; one step of a kind up to 10. -/
import Derived.Test.YtdmdgnghaceibaaGreatPart09
import Derived.Test.YtdmdgnghaceibaaGreatPart11
import Derived.Deep.QuietTactic
import Derived.Test.YtdmdgnghaceibaaGreatRows
import Derived.Conc.HoldsTime
import Derived.Handed
import Derived.SizedLaws
import Derived.OpenShut
namespace Go.Proofs.YtdmdgnghaceibaaGreat.P
open M Go.ChangeShapes Go.WideShapes Go.ChangeAt Go.RowKit
set_option linter.unusedVariables false

/-- What a step makes of a state. -/
def mStep (st : St) (o : MOp) : St :=
  if o.kind = 1 then (mAttach st o.fid).1 else if o.kind = 2 then (mClunk st o.fid).1 else if o.kind = 3 then (mWalk st o.fid o.b o.names).1 else if o.kind = 4 then (mOpen st o.fid).1
  else if o.kind = 5 then (mCreate st o.fid o.text o.yes).1 else if o.kind = 6 then tick st else if o.kind = 7 then (mWrite st o.fid o.a o.text).1 else if o.kind = 8 then tick st else if o.kind = 9 then tick st
  else if o.kind = 10 then (mRemove st o.fid).1 else if o.kind = 11 then (mBind st o.fid o.b o.a).1 else if o.kind = 12 then (mUnbind st o.fid).1 else if o.kind = 13 then tick st else st

section
variable (st : St) (k fid a b : Int) (text : ByteArray) (yes : Bool) (names : List ByteArray)
theorem mStep1 : mStep st ⟨1, k, fid, a, b, text, yes, names⟩ = (mAttach st fid).1 := rfl
theorem mStep2 : mStep st ⟨2, k, fid, a, b, text, yes, names⟩ = (mClunk st fid).1 := rfl
theorem mStep3 : mStep st ⟨3, k, fid, a, b, text, yes, names⟩ = (mWalk st fid b names).1 := rfl
theorem mStep4 : mStep st ⟨4, k, fid, a, b, text, yes, names⟩ = (mOpen st fid).1 := rfl
theorem mStep5 : mStep st ⟨5, k, fid, a, b, text, yes, names⟩ = (mCreate st fid text yes).1 := rfl
theorem mStep6 : mStep st ⟨6, k, fid, a, b, text, yes, names⟩ = tick st := rfl
theorem mStep7 : mStep st ⟨7, k, fid, a, b, text, yes, names⟩ = (mWrite st fid a text).1 := rfl
theorem mStep8 : mStep st ⟨8, k, fid, a, b, text, yes, names⟩ = tick st := rfl
theorem mStep9 : mStep st ⟨9, k, fid, a, b, text, yes, names⟩ = tick st := rfl
theorem mStep10 : mStep st ⟨10, k, fid, a, b, text, yes, names⟩ = (mRemove st fid).1 := rfl
theorem mStep11 : mStep st ⟨11, k, fid, a, b, text, yes, names⟩ = (mBind st fid b a).1 := rfl
theorem mStep12 : mStep st ⟨12, k, fid, a, b, text, yes, names⟩ = (mUnbind st fid).1 := rfl
theorem mStep13 : mStep st ⟨13, k, fid, a, b, text, yes, names⟩ = tick st := rfl
theorem mStep_no (kind : Int) (h : kind < 1 ∨ 13 < kind) : mStep st ⟨kind, k, fid, a, b, text, yes, names⟩ = st := by
  unfold mStep
  simp only
  rw [if_neg (by omega), if_neg (by omega), if_neg (by omega), if_neg (by omega), if_neg (by omega), if_neg (by omega), if_neg (by omega), if_neg (by omega), if_neg (by omega), if_neg (by omega), if_neg (by omega), if_neg (by omega), if_neg (by omega)]
end

theorem kinds10 {k : Int} (h : k ≤ 10) : (k < 1 ∨ 13 < k) ∨ k = 1 ∨ k = 2 ∨ k = 3 ∨ k = 4 ∨ k = 5 ∨ k = 6 ∨ k = 7 ∨ k = 8 ∨ k = 9 ∨ k = 10 := by omega

/-- What every state of a script keeps, where nothing is bound. -/
structure Inv (st : St) (n : Nat) : Prop where
  ok : POk st
  plain : Plain st
  tree : Treed st
  small : Small st
  len : st.nodes.length ≤ n

theorem Inv.long {st : St} {n : Nat} (h : Inv st n) : ∀ f ∈ st.fids, f.way.length ≤ n := fun f hf =>
  Nat.le_trans ((h.plain.way f hf).len (fun s hs => ((h.ok.way f hf).2 s hs).1)) h.len
theorem Inv.mono {st : St} {n m : Nat} (h : Inv st n) (hm : n ≤ m) : Inv st m := ⟨h.ok, h.plain, h.tree, h.small, Nat.le_trans h.len hm⟩
theorem Inv.start : Inv St0 1 := ⟨St0_ok, St0_plain, St0_treed, St0_small, by simp [St0]⟩
theorem Inv.tick {st : St} {n : Nat} (h : Inv st n) : Inv (tick st) n := ⟨h.ok.tick, h.plain.tick, h.tree.same rfl rfl, h.small.same rfl, h.len⟩

theorem Inv.step {st : St} {n : Nat} (h : Inv st n) (o : MOp) (hk : o.kind ≤ 10) : Inv (mStep st o) (n + 1) := by
  have hl := h.len
  obtain ⟨kind, k, fid, a, bb, text, yes, names⟩ := o
  rcases kinds10 hk with e | rfl | rfl | rfl | rfl | rfl | rfl | rfl | rfl | rfl | rfl
  · rw [mStep_no _ _ _ _ _ _ _ _ _ e]; exact h.mono (by omega)
  · exact ⟨mAttach_ok h.ok _, mAttach_plain h.plain _, h.tree.same (mAttach_len _ _) (mAttach_laid _ _), h.small.same (mAttach_len _ _), by rw [mStep1, mAttach_len]; omega⟩
  · exact ⟨mClunk_ok h.ok _, mClunk_plain h.plain _, h.tree.same (mClunk_len _ _) (mClunk_laid _ _), h.small.same (mClunk_len _ _), by rw [mStep2, mClunk_len]; omega⟩
  · exact ⟨mWalk_ok h.ok _ _ _, mWalk_plain h.plain _ _ _, h.tree.same (mWalk_len _ _ _ _) (mWalk_laid _ _ _ _), h.small.same (mWalk_len _ _ _ _), by rw [mStep3, mWalk_len]; omega⟩
  · exact ⟨mOpen_ok h.ok _, mOpen_plain h.plain _, h.tree.same (mOpen_len _ _) (mOpen_laid _ _), h.small.same (mOpen_len _ _), by rw [mStep4, mOpen_len]; omega⟩
  · exact ⟨mCreate_keeps h.ok _ _ _, mCreate_plain h.ok h.plain _ _ _, mCreate_treed h.ok h.tree _ _ _, mCreate_small h.ok h.small _ _ _, by have := mCreate_len h.ok fid text yes; rw [mStep5]; omega⟩
  · exact h.tick.mono (by omega)
  · exact ⟨mWrite_ok h.ok _ _ _, mWrite_plain h.plain _ _ _, mWrite_treed h.tree _ _ _, mWrite_small h.small _ _ _, by rw [mStep7, mWrite_len]; omega⟩
  · exact h.tick.mono (by omega)
  · exact h.tick.mono (by omega)
  · exact ⟨mRemove_ok h.ok _, mRemove_plain h.plain _, mRemove_treed h.tree _, mRemove_small h.small _, by rw [mStep10, mRemove_len]; omega⟩

/-- A step, as its value stands. -/
def opAgg (o : MOp) (ao : Option Addr) (nc : Nat) : Value := .agg #[.int .i64 o.kind, .int .i64 o.k, .int .i64 o.fid, .int .i64 o.a, .int .i64 o.b, .string o.text, .bool o.yes, .slice ao o.names.length nc]

/-- What is asked of a step that comes in. -/
structure OpOk (w : World) (X : Nat → Prop) (o : MOp) (ao : Option Addr) : Prop where
  text : o.text.size ≤ 140737488355328
  a : o.a ≤ 9223372036854775807
  names : NamesAt w ao o.names
  low : ∀ a, ao = some a → o.names ≠ [] → ¬ X a.block

/-- A step of a kind up to 10. -/
theorem bstep_any {w : World} {X : Nat → Prop} {b : Nat} {st : St} {n : Nat} (o : MOp) (ao : Option Addr) (nc : Nat) (h : BothIs w X b st) (hi : Inv st n) (hn : n ≤ 1700000000000) (hk : o.kind ≤ 10) (ho : OpOk w X o ao) :
    Calls Tryz.prog 29 #[.pointer (some ⟨b, 0, none⟩), .agg #[.int .i64 o.kind, .int .i64 o.k, .int .i64 o.fid, .int .i64 o.a, .int .i64 o.b, .string o.text, .bool o.yes, .slice ao o.names.length nc]] w fun e w' => e = .returned (.bool true) ∧ BothIs w' X b (mStep st o) ∧ Ext X w w' := by
  obtain ⟨h1, h2, h3, h4⟩ := ho
  obtain ⟨kind, k, fid, a, bb, text, yes, names⟩ := o
  simp only at hk h1 h2 h3 h4 ⊢
  have hlong : ∀ f ∈ st.fids, f.way.length ≤ 1700000000000 := fun f hf => Nat.le_trans (hi.long f hf) hn
  have hnod : st.nodes.length ≤ 1700000000000 := Nat.le_trans hi.len hn
  have htm : text.size ≤ maxLen := by unfold maxLen; omega
  rcases kinds10 hk with e | rfl | rfl | rfl | rfl | rfl | rfl | rfl | rfl | rfl | rfl
  · rw [mStep_no _ _ _ _ _ _ _ _ _ e]; exact step_none kind k fid a bb text yes ao names.length nc h (by omega)
  · exact step_attach k fid a bb text yes ao names.length nc h hi.ok
  · exact step_clunk k fid a bb text yes ao names.length nc h hi.ok
  · exact step_walk k fid a bb text yes names ao nc h hi.ok h3 h4 hlong
  · exact step_open k fid a bb text yes ao names.length nc h hi.ok
  · exact step_create k fid a bb text yes ao names.length nc h hi.ok htm hnod hlong
  · exact step_read k fid a bb text yes ao names.length nc h hi.ok hi.small
  · exact step_write k fid a bb text yes ao names.length nc h hi.ok hi.small h2 h1
  · exact step_list k fid a bb text yes ao names.length nc h hi.ok hi.tree.uniq hnod
  · exact step_stat k fid a bb text yes ao names.length nc h hi.ok hi.small
  · exact step_remove k fid a bb text yes ao names.length nc h hi.ok hi.tree hnod
end Go.Proofs.YtdmdgnghaceibaaGreat.P
/- A script is played. -/
namespace Go.Proofs.YtdmdgnghaceibaaGreat.P
open M Go.ChangeShapes Go.WideShapes Go.ChangeAt Go.RowKit
set_option linter.unusedVariables false

/-- What is asked of the steps of kinds up to the last: an invariant that each keeps. -/
structure Played (W : World) (ops : List MOp) (last : Int) (I : Nat → St → Prop) : Prop where
  first : I 0 (mAttach St0 1).1
  skip : ∀ k st, I k st → I (k + 1) st
  step : ∀ (w : World) (X : Nat → Prop) (b k : Nat) (st : St) (o : MOp) (ao : Option Addr) (nc : Nat), ops[k]? = some o → I k st → o.kind ≤ last → BothIs w X b st → OpOk w X o ao →
    I (k + 1) (mStep st o) ∧ Calls Tryz.prog 29 #[.pointer (some ⟨b, 0, none⟩), .agg #[.int .i64 o.kind, .int .i64 o.k, .int .i64 o.fid, .int .i64 o.a, .int .i64 o.b, .string o.text, .bool o.yes, .slice ao o.names.length nc]] w fun e w' => e = .returned (.bool true) ∧ BothIs w' X b (mStep st o) ∧ Ext X w w'

set_option maxRecDepth 20000 in
set_option maxHeartbeats 1000000 in
theorem play_gen {W : World} (ops : List MOp) (ao : Option Addr) (c : Nat) (last : Int) (I : Nat → St → Prop) (hs : ScriptAt W ao ops) (hp : Played W ops last I) :
    Calls Tryz.prog 12 #[.slice ao ops.length c, .int .i64 last] W fun e w' => e = .returned (.bool true) ∧ Below W.heap.size W w' := by
  have hlen := hs.1
  have HS := hide hs
  have HP := hide hp
  clear hs hp
  go_enter Tryz.func12, Tryz.ntmps12
  go_wp2_with (first | (go_at_call 28; refine (begun_any _ (X := fun k => W.heap.size ≤ k) (fun k hk => hk)).mono ?_; rintro e w1 ⟨rfl, hb1, hB1⟩; have H1 := hide hb1; have HB1 := hide (Ext.below (F := fun k => W.heap.size ≤ k) hB1); clear hb1 hB1) | (go_at_call 29; refine (step_attach 0 1 0 0 ⟨#[]⟩ false none 0 0 H1.out St0_ok).mono ?_; rintro e w2 ⟨rfl, hb2, hB2⟩; have H2 := hide hb2; have HB2 := hide (HB1.out.trans' hB2); clear hb2 hB2))
  go_loopw [6, 7] (fun okv i wr => ∃ (k : Nat) (st : St), k ≤ ops.length ∧ i = .int .i64 k ∧ okv = .bool true ∧ BothIs wr (fun k => W.heap.size ≤ k) (W.heap.size + 1 + 1 + 1) st ∧ I k st ∧ Ext (fun k => W.heap.size ≤ k) W wr) (fun _ i _ => ops.length - (intOf i).toNat)
  case atStart => exact ⟨0, (mAttach St0 1).1, Nat.zero_le _, rfl, rfl, H2.out, HP.out.first, HB2.out⟩
  case round =>
    obtain ⟨k, st, hk, rfl, rfl, hbo, hinv, hbel⟩ := hrel
    have Hbo := hide hbo
    have Hinv := hide hinv
    have Hbel := hide hbel
    clear hbo hinv hbel
    by_cases hlt : k < ops.length
    · obtain ⟨o, ho⟩ := M.getElem?_of_lt hlt
      obtain ⟨htx, sb, so, nao, nc, rfl, hop⟩ := HS.out.2 k o ho
      have hsb : sb < W.heap.size := World.block_lt_of_cell? W _ hop.c0
      have up : ∀ j v, W.cell? ⟨sb, j, none⟩ = some v → wr.cell? ⟨sb, j, none⟩ = some v := fun j v h => ext_cell Hbel.out (by omega) h
      have c0 := up _ _ hop.c0
      have c1 := up _ _ hop.c1
      have c2 := up _ _ hop.c2
      have c3 := up _ _ hop.c3
      have c4 := up _ _ hop.c4
      have c5 := up _ _ hop.c5
      have c6 := up _ _ hop.c6
      have c7 := up _ _ hop.c7
      have k0 : (0 : Int) ≤ (k : Int) := by omega
      have k1 : (k : Int) < (ops.length : Int) := by omega
      have Hop := hide hop
      have Ho := hide ho
      have Htx := hide htx
      clear hop up ho htx
      by_cases hkind : o.kind ≤ last
      · obtain ⟨hI, hC⟩ := HP.out.step wr _ _ k st o nao nc Ho.out Hinv.out hkind Hbo.out ⟨Htx.out, Hop.out.ra.2, Hop.out.names.ext Hbel.out (fun a ha hne => by have := Hop.out.low a ha hne; omega), fun a ha hne => by have := Hop.out.low a ha hne; omega⟩
        have HStep := hide hC
        have HI := hide hI
        clear hC hI
        go_wp2_with (go_at_call 29; refine HStep.out.mono ?_; rintro e w2 ⟨rfl, hb2, hB2⟩; have H3 := hide hb2; have HB3 := hide (Hbel.out.trans' hB2); clear hb2 hB2)
        refine ⟨⟨k + 1, mStep st o, by omega, by go_num, rfl, H3.out, HI.out, HB3.out⟩, by simp [intOf]; omega⟩
      · have hkind' : ¬ o.kind ≤ last := hkind
        go_wp2_with fail
        refine ⟨⟨k + 1, st, by omega, by go_num, rfl, Hbo.out, HP.out.skip k st Hinv.out, Hbel.out⟩, by simp [intOf]; omega⟩
    · obtain ⟨s, r, F, G, hT⟩ := Hbo.out
      have c0 := hT.c0
      have c1 := hT.c1
      have r3 := hT.r3
      have HT := hide hT
      clear hT
      have hq : (st.calls == st.calls) = true := by simp
      go_wp2
      go_quiet (first | (go_at_call 26; refine Calls.quiet_of_same (calls_any (F := F) (st := st) ?_); exact (HT.out.below (below_drewN (Below.refl _ wr) _)).srv))
      all_goals go_wp2
      all_goals go_ret
      all_goals exact ⟨rfl, below_drewN (Hbel.out.toBelow (Nat.le_refl _)) _⟩

/-- Steps of kinds up to 10. -/
theorem played10 {W : World} {ops : List MOp} {last : Int} (hl : last ≤ 10) (hlen : ops.length ≤ 1600000000000) : Played W ops last (fun k st => k ≤ ops.length → Inv st (k + 2)) := by
  refine ⟨fun _ => ?_, fun k st h hk => (h (by omega)).mono (by omega), fun w X b k st o ao nc ho h hk hb hok => ?_⟩
  · have := Inv.start.step ⟨1, 0, 1, 0, 0, ⟨#[]⟩, false, []⟩ (by decide)
    rwa [mStep1] at this
  · have hlt := M.lt_of_getElem? ho
    have hI := h (by omega)
    exact ⟨fun _ => hI.step o (by omega), bstep_any o ao nc hb hI (by omega) (by omega) hok⟩

theorem play_any {W : World} (ops : List MOp) (ao : Option Addr) (c : Nat) (last : Int) (hl : last ≤ 10) (hs : ScriptAt W ao ops) :
    Calls Tryz.prog 12 #[.slice ao ops.length c, .int .i64 last] W fun e w' => e = .returned (.bool true) ∧ Below W.heap.size W w' :=
  play_gen ops ao c last _ hs (played10 hl hs.1)
end Go.Proofs.YtdmdgnghaceibaaGreat.P
/- From a call of one goroutine to a row that says 'leaving' and that time passes. -/
namespace Go.Proofs.YtdmdgnghaceibaaGreat
open Go.ChangeShapes Go.WideShapes Go.ChangeAt Go.RowKit
set_option linter.unusedVariables false

theorem own : ownKnob Tryz.prog.godebug = none := by kernel_rfl

/-- Who is alone at the return has nobody that still leaves. -/
theorem onlyLeaving_of_quiet {P : Program} {m : Machine} (h : m.quiet) : m.OnlyLeaving P := by
  refine ⟨fun g hg => ⟨0, ?_⟩, h.2⟩
  have h1 := h.1
  unfold Machine.othersDone at h1
  simp only [List.all_eq_true] at h1
  have := h1 g hg
  show g.status = .finished
  cases hs : g.status with
  | finished => rfl
  | _ => rw [hs] at this; cases this

theorem leaving_of_handed {a : Assume} {C : Checked} {os : Os} {f : FuncId} {r : Reach} {Pre : World → Array Value → Prop} {Post : World → Array Value → Value → World → Prop}
    (h : ReturnsInHanded a C os f r Pre Post) : ReturnsInLeavingWide a C os f r Pre Post := fun enter =>
  ReturnsInOpen.mono (fun _ _ _ x => ⟨x.2.1, onlyLeaving_of_quiet x.1, x.2.2⟩) (fun _ x => x) (h enter)

section
variable {H : Type} {enc : TypeId × Value → H}

/-- A contract over one goroutine, as the row asks it. -/
theorem leaving_of_change {a : Assume} {C : Checked} {os : Os} {f : FuncId} {fn : Func} {s : ChangeSpec} {F : Stop.Interp} {conds : List PathCond} {apart fresh handsOn : Bool}
    (own : ownKnob C.prog.godebug = none) (started : os.Started) (noInit : C.prog.inits.idxOf? f = none) (hfn : C.prog.funcs[f]? = some fn)
    (witness : ∃ (w : World) (tape : Tape) (i : Input), w.os = os ∧ (w.forCall tape i).Shaped C.prog ∧ i.vars = [] ∧ Input.okWide C.prog (w.forCall tape i) .any w.heap.size f i ∧
      s.pre6 enc C.prog fn conds apart (w.forCall tape i).memory i.args ∧ a.holds C.prog (lone (Frame.enter C.prog f i.args .normal) [] (w.forCall tape i)))
    (contract : ∀ (W : World) (base : Nat) (args : Array Value) (ds gs : List (DataW H)) (before : List MemPlace),
      (∀ (j : Nat) t v, fn.params[j]? = some t → args[j]? = some v → Value.okWide C.prog W .any base t v) →
      DataW.Whole enc C.prog fn.params.toList s.vars apart W args.toList ds gs before →
      conds.all (PathCond.test C.prog ⟨fn.params.toList, ds, s.plain.varTypes C.prog, gs⟩) = true →
      (DataW.weightsEach C.prog (fn.params.toList ++ s.plain.varTypes C.prog) (ds ++ gs)).all (· ≤ reachBytes) = true →
      Calls C.prog f args W fun e W' => ∃ v, e = .returned v ∧ W'.os = W.os ∧ s.post enc C.prog fn apart fresh handsOn false W args v W') :
    ReturnsInLeavingWide a C os f .any (s.pre6 enc C.prog fn conds apart) ((OpenSpec.ofChange s).postWith enc C.prog fn F (outsideKept [.timePasses]) apart fresh handsOn) := by
  refine leaving_of_handed (returnsInHanded_of_calls own started noInit witness ?_)
  intro w tape i _ _ _ hok hpre hholds
  obtain ⟨_, _, _, fn', hfn', _, _, _, _, hval⟩ := hok
  have e : fn' = fn := Option.some.inj (hfn'.symm.trans hfn)
  subst e
  obtain ⟨⟨ds, gs, before, hw, hc⟩, hz⟩ := hpre
  have hw' := DataW.Whole.of_heap (w' := w.forCall tape i) (by rfl) hw
  refine (contract (w.forCall tape i) w.heap.size i.args ds gs before hval hw' hc (hz.weights hw)).mono fun e W' ⟨v, he, hos, hp⟩ => ?_
  subst he
  refine postWith_blind (postWith_of_post ?_ (by rw [hos]; exact Go.ConcM.OsLater.refl _))
  have e1 : ({ W' with os := (w.forCall tape i).os } : World) = W' := by rw [← hos]
  rw [e1]
  exact hp
end
end Go.Proofs.YtdmdgnghaceibaaGreat
