/- One step of a script, over both halves: kinds up to 5. -/
import Derived.Test.YtdmdgnghaceibaaGreatPart06
import Derived.Deep.QuietTactic
import Derived.Test.YtdmdgnghaceibaaGreatRows
import Derived.Conc.HoldsTime
import Derived.Handed
import Derived.SizedLaws
import Derived.OpenShut
namespace Go.Proofs.YtdmdgnghaceibaaGreat.P
open M Go.ChangeShapes Go.WideShapes Go.ChangeAt Go.RowKit
set_option linter.unusedVariables false

/-- What a step makes of a state (kinds up to 5). -/
def mStep (st : St) (o : MOp) : St :=
  if o.kind = 1 then (mAttach st o.fid).1 else if o.kind = 2 then (mClunk st o.fid).1 else if o.kind = 3 then (mWalk st o.fid o.b o.names).1 else if o.kind = 4 then (mOpen st o.fid).1 else if o.kind = 5 then (mCreate st o.fid o.text o.yes).1 else st

/-- What every state of a script of such steps keeps. -/
structure Inv (st : St) (n : Nat) : Prop where
  ok : POk st
  plain : Plain st
  len : st.nodes.length ≤ n

theorem Inv.long {st : St} {n : Nat} (h : Inv st n) : ∀ f ∈ st.fids, f.way.length ≤ n := fun f hf =>
  Nat.le_trans ((h.plain.way f hf).len (fun s hs => ((h.ok.way f hf).2 s hs).1)) h.len

theorem Inv.step {st : St} {n : Nat} (h : Inv st n) (o : MOp) : Inv (mStep st o) (n + 1) := by
  have hl := h.len
  unfold mStep
  split
  · exact ⟨mAttach_ok h.ok _, mAttach_plain h.plain _, by rw [mAttach_len]; omega⟩
  · split
    · exact ⟨mClunk_ok h.ok _, mClunk_plain h.plain _, by rw [mClunk_len]; omega⟩
    · split
      · exact ⟨mWalk_ok h.ok _ _ _, mWalk_plain h.plain _ _ _, by rw [mWalk_len]; omega⟩
      · split
        · exact ⟨mOpen_ok h.ok _, mOpen_plain h.plain _, by rw [mOpen_len]; omega⟩
        · split
          · exact ⟨mCreate_keeps h.ok _ _ _, mCreate_plain h.ok h.plain _ _ _, by have := mCreate_len h.ok o.fid o.text o.yes; omega⟩
          · exact ⟨h.ok, h.plain, by omega⟩

theorem BothIs.below {w w2 : World} {B b : Nat} {st : St} (h : BothIs w B b st) (hb : Below w.heap.size w w2) : BothIs w2 B b st := by
  obtain ⟨s, r, F, G, h⟩ := h
  exact ⟨s, r, F, G, h.below hb⟩
theorem BothIs.B_le {w : World} {B b : Nat} {st : St} (h : BothIs w B b st) : B ≤ w.heap.size := by
  obtain ⟨s, r, F, G, h⟩ := h
  exact h.B_le

set_option maxRecDepth 20000 in
set_option maxHeartbeats 1000000 in
theorem step_attach {w : World} {B b : Nat} {st : St} (k fid a bb : Int) (text : ByteArray) (yes : Bool) (ao : Option Addr) (nl nc : Nat) (h : BothIs w B b st) (ok : POk st) :
    Calls Tryz.prog 29 #[.pointer (some ⟨b, 0, none⟩), .agg #[.int .i64 1, .int .i64 k, .int .i64 fid, .int .i64 a, .int .i64 bb, .string text, .bool yes, .slice ao nl nc]] w fun e w' => e = .returned (.bool true) ∧ BothIs w' B b (mAttach st fid).1 ∧ Below B w w' := by
  have HC := hide (turned_attach k fid a bb text yes ao nl nc (h.below ((Below.refl _ w).alloc (Nat.le_refl _) (.cells #[.int .i64 1, .int .i64 k, .int .i64 fid, .int .i64 a, .int .i64 bb, .string text, .bool yes, .slice ao nl nc] 57))) ok)
  have hB := hide h.B_le
  clear h
  go_enter Tryz.func29, Tryz.ntmps29
  go_wp2_with (go_at_call 65; refine HC.out.mono ?_; rintro e w2 ⟨rfl, h2, hb2⟩; have H2 := hide h2; have HB2 := hide hb2; clear h2 hb2)
  go_ret
  exact ⟨rfl, H2.out, (((Below.refl _ w).alloc (Nat.le_refl _) _).mono hB.out).trans HB2.out⟩

set_option maxRecDepth 20000 in
set_option maxHeartbeats 1000000 in
theorem step_clunk {w : World} {B b : Nat} {st : St} (k fid a bb : Int) (text : ByteArray) (yes : Bool) (ao : Option Addr) (nl nc : Nat) (h : BothIs w B b st) (ok : POk st) :
    Calls Tryz.prog 29 #[.pointer (some ⟨b, 0, none⟩), .agg #[.int .i64 2, .int .i64 k, .int .i64 fid, .int .i64 a, .int .i64 bb, .string text, .bool yes, .slice ao nl nc]] w fun e w' => e = .returned (.bool true) ∧ BothIs w' B b (mClunk st fid).1 ∧ Below B w w' := by
  have HC := hide (turned_clunk k fid a bb text yes ao nl nc (h.below ((Below.refl _ w).alloc (Nat.le_refl _) (.cells #[.int .i64 2, .int .i64 k, .int .i64 fid, .int .i64 a, .int .i64 bb, .string text, .bool yes, .slice ao nl nc] 57))) ok)
  have hB := hide h.B_le
  clear h
  go_enter Tryz.func29, Tryz.ntmps29
  go_wp2_with (go_at_call 65; refine HC.out.mono ?_; rintro e w2 ⟨rfl, h2, hb2⟩; have H2 := hide h2; have HB2 := hide hb2; clear h2 hb2)
  go_ret
  exact ⟨rfl, H2.out, (((Below.refl _ w).alloc (Nat.le_refl _) _).mono hB.out).trans HB2.out⟩

set_option maxRecDepth 20000 in
set_option maxHeartbeats 1000000 in
theorem step_open {w : World} {B b : Nat} {st : St} (k fid a bb : Int) (text : ByteArray) (yes : Bool) (ao : Option Addr) (nl nc : Nat) (h : BothIs w B b st) (ok : POk st) :
    Calls Tryz.prog 29 #[.pointer (some ⟨b, 0, none⟩), .agg #[.int .i64 4, .int .i64 k, .int .i64 fid, .int .i64 a, .int .i64 bb, .string text, .bool yes, .slice ao nl nc]] w fun e w' => e = .returned (.bool true) ∧ BothIs w' B b (mOpen st fid).1 ∧ Below B w w' := by
  have HC := hide (turned_open k fid a bb text yes ao nl nc (h.below ((Below.refl _ w).alloc (Nat.le_refl _) (.cells #[.int .i64 4, .int .i64 k, .int .i64 fid, .int .i64 a, .int .i64 bb, .string text, .bool yes, .slice ao nl nc] 57))) ok)
  have hB := hide h.B_le
  clear h
  go_enter Tryz.func29, Tryz.ntmps29
  go_wp2_with (go_at_call 65; refine HC.out.mono ?_; rintro e w2 ⟨rfl, h2, hb2⟩; have H2 := hide h2; have HB2 := hide hb2; clear h2 hb2)
  go_ret
  exact ⟨rfl, H2.out, (((Below.refl _ w).alloc (Nat.le_refl _) _).mono hB.out).trans HB2.out⟩

set_option maxRecDepth 20000 in
set_option maxHeartbeats 1000000 in
theorem step_create {w : World} {B b : Nat} {st : St} (k fid a bb : Int) (text : ByteArray) (yes : Bool) (ao : Option Addr) (nl nc : Nat) (h : BothIs w B b st) (ok : POk st) (htext : text.size ≤ maxLen) (hnod : st.nodes.length ≤ 1700000000000) (hlong : ∀ f ∈ st.fids, f.way.length ≤ 1700000000000) :
    Calls Tryz.prog 29 #[.pointer (some ⟨b, 0, none⟩), .agg #[.int .i64 5, .int .i64 k, .int .i64 fid, .int .i64 a, .int .i64 bb, .string text, .bool yes, .slice ao nl nc]] w fun e w' => e = .returned (.bool true) ∧ BothIs w' B b (mCreate st fid text yes).1 ∧ Below B w w' := by
  have HC := hide (turned_create k fid a bb text yes ao nl nc (h.below ((Below.refl _ w).alloc (Nat.le_refl _) (.cells #[.int .i64 5, .int .i64 k, .int .i64 fid, .int .i64 a, .int .i64 bb, .string text, .bool yes, .slice ao nl nc] 57))) ok htext hnod hlong)
  have hB := hide h.B_le
  clear h
  go_enter Tryz.func29, Tryz.ntmps29
  go_wp2_with (go_at_call 65; refine HC.out.mono ?_; rintro e w2 ⟨rfl, h2, hb2⟩; have H2 := hide h2; have HB2 := hide hb2; clear h2 hb2)
  go_ret
  exact ⟨rfl, H2.out, (((Below.refl _ w).alloc (Nat.le_refl _) _).mono hB.out).trans HB2.out⟩

set_option maxRecDepth 20000 in
set_option maxHeartbeats 1000000 in
theorem step_walk {w : World} {B b : Nat} {st : St} (k fid a bb : Int) (text : ByteArray) (yes : Bool) (names : List ByteArray) (ao : Option Addr) (nc : Nat) (h : BothIs w B b st) (ok : POk st) (hn : NamesAt w ao names) (hnB : ∀ a, ao = some a → names ≠ [] → a.block < B) (hlong : ∀ f ∈ st.fids, f.way.length ≤ 1700000000000) :
    Calls Tryz.prog 29 #[.pointer (some ⟨b, 0, none⟩), .agg #[.int .i64 3, .int .i64 k, .int .i64 fid, .int .i64 a, .int .i64 bb, .string text, .bool yes, .slice ao names.length nc]] w fun e w' => e = .returned (.bool true) ∧ BothIs w' B b (mWalk st fid bb names).1 ∧ Below B w w' := by
  have HC := hide (walked_any k fid a bb text yes names ao nc (h.below ((Below.refl _ w).alloc (Nat.le_refl _) (.cells #[.int .i64 3, .int .i64 k, .int .i64 fid, .int .i64 a, .int .i64 bb, .string text, .bool yes, .slice ao names.length nc] 57))) ok (hn.below ((((Below.refl _ w).alloc (Nat.le_refl _) _)).mono h.B_le) hnB) hnB hlong)
  have hB := hide h.B_le
  clear h
  go_enter Tryz.func29, Tryz.ntmps29
  go_wp2_with (go_at_call 66; refine HC.out.mono ?_; rintro e w2 ⟨rfl, h2, hb2⟩; have H2 := hide h2; have HB2 := hide hb2; clear h2 hb2)
  go_ret
  exact ⟨rfl, H2.out, (((Below.refl _ w).alloc (Nat.le_refl _) _).mono hB.out).trans HB2.out⟩

set_option maxRecDepth 20000 in
set_option maxHeartbeats 1000000 in
theorem step_none {w : World} {B b : Nat} {st : St} (kind k fid a bb : Int) (text : ByteArray) (yes : Bool) (ao : Option Addr) (nl nc : Nat) (h : BothIs w B b st) (hk : kind < 1 ∨ 14 < kind) :
    Calls Tryz.prog 29 #[.pointer (some ⟨b, 0, none⟩), .agg #[.int .i64 kind, .int .i64 k, .int .i64 fid, .int .i64 a, .int .i64 bb, .string text, .bool yes, .slice ao nl nc]] w fun e w' => e = .returned (.bool true) ∧ BothIs w' B b st ∧ Below B w w' := by
  have e1 : (kind == 1) = false := beq_false_of_ne (by omega)
  have e2 : (kind == 2) = false := beq_false_of_ne (by omega)
  have e4 : (kind == 4) = false := beq_false_of_ne (by omega)
  have e5 : (kind == 5) = false := beq_false_of_ne (by omega)
  have e10 : (kind == 10) = false := beq_false_of_ne (by omega)
  have e11 : (kind == 11) = false := beq_false_of_ne (by omega)
  have e12 : (kind == 12) = false := beq_false_of_ne (by omega)
  have e3 : (kind == 3) = false := beq_false_of_ne (by omega)
  have e6 : (kind == 6) = false := beq_false_of_ne (by omega)
  have e7 : (kind == 7) = false := beq_false_of_ne (by omega)
  have e8 : (kind == 8) = false := beq_false_of_ne (by omega)
  have e9 : (kind == 9) = false := beq_false_of_ne (by omega)
  have e13 : (kind == 13) = false := beq_false_of_ne (by omega)
  have e14 : (kind == 14) = false := beq_false_of_ne (by omega)
  have H := hide h
  clear h hk
  go_enter Tryz.func29, Tryz.ntmps29
  go_wp2
  go_ret
  exact ⟨rfl, H.out.below ((Below.refl _ w).alloc (Nat.le_refl _) _), ((Below.refl _ w).alloc (Nat.le_refl _) _).mono H.out.B_le⟩

/-- A step of a kind up to 5. -/
theorem bstep_any {w : World} {B b : Nat} {st : St} {n : Nat} (o : MOp) (ao : Option Addr) (nc : Nat) (h : BothIs w B b st) (hi : Inv st n) (hn : n ≤ 1700000000000) (hk : o.kind ≤ 5) (htext : o.text.size ≤ maxLen) (hnm : NamesAt w ao o.names) (hnB : ∀ a, ao = some a → o.names ≠ [] → a.block < B) :
    Calls Tryz.prog 29 #[.pointer (some ⟨b, 0, none⟩), .agg #[.int .i64 o.kind, .int .i64 o.k, .int .i64 o.fid, .int .i64 o.a, .int .i64 o.b, .string o.text, .bool o.yes, .slice ao o.names.length nc]] w fun e w' => e = .returned (.bool true) ∧ BothIs w' B b (mStep st o) ∧ Below B w w' := by
  obtain ⟨kind, k, fid, a, bb, text, yes, names⟩ := o
  simp only at hk htext hnm hnB ⊢
  have hlong : ∀ f ∈ st.fids, f.way.length ≤ 1700000000000 := fun f hf => Nat.le_trans (hi.long f hf) hn
  have hnod : st.nodes.length ≤ 1700000000000 := Nat.le_trans hi.len hn
  by_cases e1 : kind = 1
  · subst e1
    exact step_attach k fid a bb text yes ao names.length nc h hi.ok
  · by_cases e2 : kind = 2
    · subst e2
      exact step_clunk k fid a bb text yes ao names.length nc h hi.ok
    · by_cases e3 : kind = 3
      · subst e3
        exact step_walk k fid a bb text yes names ao nc h hi.ok hnm hnB hlong
      · by_cases e4 : kind = 4
        · subst e4
          exact step_open k fid a bb text yes ao names.length nc h hi.ok
        · by_cases e5 : kind = 5
          · subst e5
            exact step_create k fid a bb text yes ao names.length nc h hi.ok htext hnod hlong
          · have e : mStep st ⟨kind, k, fid, a, bb, text, yes, names⟩ = st := by
              unfold mStep
              simp only
              rw [if_neg e1, if_neg e2, if_neg e3, if_neg e4, if_neg e5]
            rw [e]
            exact step_none kind k fid a bb text yes ao names.length nc h (.inl (by omega))
end Go.Proofs.YtdmdgnghaceibaaGreat.P
/- A script is played: kinds up to 5. -/
namespace Go.Proofs.YtdmdgnghaceibaaGreat.P
open M Go.ChangeShapes Go.WideShapes Go.ChangeAt Go.RowKit
set_option linter.unusedVariables false

theorem Inv.mono {st : St} {n m : Nat} (h : Inv st n) (hm : n ≤ m) : Inv st m := ⟨h.ok, h.plain, Nat.le_trans h.len hm⟩
theorem Inv.start : Inv St0 1 := ⟨St0_ok, St0_plain, by simp [St0]⟩

theorem mStep_attach (st : St) (n : Nat) (h : Inv st n) (fid : Int) : Inv (mAttach st fid).1 (n + 1) := by
  have := h.step ⟨1, 0, fid, 0, 0, ⟨#[]⟩, false, []⟩
  unfold mStep at this
  rwa [if_pos rfl] at this

set_option maxRecDepth 20000 in
set_option maxHeartbeats 1000000 in
theorem play_any {W : World} (ops : List MOp) (ao : Option Addr) (c : Nat) (hs : ScriptAt W ao ops) :
    Calls Tryz.prog 12 #[.slice ao ops.length c, .int .i64 5] W fun e w' => e = .returned (.bool true) ∧ Below W.heap.size W w' := by
  have hlen := hs.1
  have HS := hide hs
  clear hs
  go_enter Tryz.func12, Tryz.ntmps12
  go_wp2_with (first | (go_at_call 28; refine (begun_any _).mono ?_; rintro e w1 ⟨rfl, hb1, hB1⟩; have H1 := hide hb1; have HB1 := hide hB1; clear hb1 hB1) | (go_at_call 29; refine (step_attach 0 1 0 0 ⟨#[]⟩ false none 0 0 H1.out Inv.start.ok).mono ?_; rintro e w2 ⟨rfl, hb2, hB2⟩; have H2 := hide hb2; have HB2 := hide (HB1.out.trans hB2); clear hb2 hB2))
  go_loopw [6, 7] (fun okv i wr => ∃ (k : Nat) (st : St), k ≤ ops.length ∧ i = .int .i64 k ∧ okv = .bool true ∧ BothIs wr W.heap.size (W.heap.size + 1 + 1 + 1) st ∧ Inv st (k + 2) ∧ Below W.heap.size W wr) (fun _ i _ => ops.length - (intOf i).toNat)
  case atStart => exact ⟨0, (mAttach St0 1).1, Nat.zero_le _, rfl, rfl, H2.out, mStep_attach St0 1 Inv.start 1, HB2.out⟩
  case round =>
    obtain ⟨k, st, hk, rfl, rfl, hbo, hinv, hbel⟩ := hrel
    have Hbo := hide hbo
    have Hinv := hide hinv
    have Hbel := hide hbel
    clear hbo hinv hbel
    by_cases hlt : k < ops.length
    · obtain ⟨o, ho⟩ := M.getElem?_of_lt hlt
      obtain ⟨sb, so, nao, nc, rfl, hop⟩ := HS.out.2 k o ho
      have hsb : sb < W.heap.size := World.block_lt_of_cell? W _ hop.c0
      have up : ∀ j v, W.cell? ⟨sb, j, none⟩ = some v → wr.cell? ⟨sb, j, none⟩ = some v := fun j v h => (Hbel.out.cell (p := ⟨sb, j, none⟩) hsb).trans h
      have c0 := up _ _ hop.c0
      have c1 := up _ _ hop.c1
      have c2 := up _ _ hop.c2
      have c3 := up _ _ hop.c3
      have c4 := up _ _ hop.c4
      have c5 := up _ _ hop.c5
      have c6 := up _ _ hop.c6
      have c7 := up _ _ hop.c7
      have k0 : (0 : Int) ≤ (k : Int) := by omega
      have k1 : (k : Int) < (ops.length : Int) := by omega
      have Hop := hide hop
      clear hop up ho
      by_cases hkind : o.kind ≤ 5
      · have HStep := hide (bstep_any o nao nc Hbo.out Hinv.out (by omega) hkind Hop.out.text (Hop.out.names.below Hbel.out Hop.out.low) Hop.out.low)
        go_wp2_with (go_at_call 29; refine HStep.out.mono ?_; rintro e w2 ⟨rfl, hb2, hB2⟩; have H3 := hide hb2; have HB3 := hide (Hbel.out.trans hB2); clear hb2 hB2)
        refine ⟨⟨k + 1, mStep st o, by omega, by go_num, rfl, H3.out, Hinv.out.step o, HB3.out⟩, by simp [intOf]; omega⟩
      · have hkind' : ¬ o.kind ≤ 5 := hkind
        go_wp2_with fail
        refine ⟨⟨k + 1, st, by omega, by go_num, rfl, Hbo.out, Hinv.out.mono (by omega), Hbel.out⟩, by simp [intOf]; omega⟩
    · obtain ⟨s, r, F, G, hT⟩ := Hbo.out
      have c0 := hT.c0
      have c1 := hT.c1
      have r3 := hT.r3
      have HT := hide hT
      clear hT
      have hq : (st.calls == st.calls) = true := by simp
      go_wp2
      go_quiet (first | (go_at_call 26; refine Calls.quiet_of_same (calls_any (F := F) (st := st) ?_); exact (HT.out.below (below_drewN (Below.refl _ wr) _)).srv))
      all_goals go_wp2
      all_goals go_ret
      all_goals exact ⟨rfl, below_drewN Hbel.out _⟩
end Go.Proofs.YtdmdgnghaceibaaGreat.P
/- From a call of one goroutine to a row that says 'leaving' and that time passes. -/
namespace Go.Proofs.YtdmdgnghaceibaaGreat
open Go.ChangeShapes Go.WideShapes Go.ChangeAt Go.RowKit
set_option linter.unusedVariables false

theorem own : ownKnob Tryz.prog.godebug = none := by kernel_rfl

/-- Who is alone at the return has nobody that still leaves. -/
theorem onlyLeaving_of_quiet {P : Program} {m : Machine} (h : m.quiet) : m.OnlyLeaving P := by
  refine ⟨fun g hg => ⟨0, ?_⟩, h.2⟩
  have h1 := h.1
  unfold Machine.othersDone at h1
  simp only [List.all_eq_true] at h1
  have := h1 g hg
  show g.status = .finished
  cases hs : g.status with
  | finished => rfl
  | _ => rw [hs] at this; cases this

theorem leaving_of_handed {a : Assume} {C : Checked} {os : Os} {f : FuncId} {r : Reach} {Pre : World → Array Value → Prop} {Post : World → Array Value → Value → World → Prop}
    (h : ReturnsInHanded a C os f r Pre Post) : ReturnsInLeavingWide a C os f r Pre Post := fun enter =>
  ReturnsInOpen.mono (fun _ _ _ x => ⟨x.2.1, onlyLeaving_of_quiet x.1, x.2.2⟩) (fun _ x => x) (h enter)

section
variable {H : Type} {enc : TypeId × Value → H}

/-- A contract over one goroutine, as the row asks it. -/
theorem leaving_of_change {a : Assume} {C : Checked} {os : Os} {f : FuncId} {fn : Func} {s : ChangeSpec} {F : Stop.Interp} {conds : List PathCond} {apart fresh handsOn : Bool}
    (own : ownKnob C.prog.godebug = none) (started : os.Started) (noInit : C.prog.inits.idxOf? f = none) (hfn : C.prog.funcs[f]? = some fn)
    (witness : ∃ (w : World) (tape : Tape) (i : Input), w.os = os ∧ (w.forCall tape i).Shaped C.prog ∧ i.vars = [] ∧ Input.okWide C.prog (w.forCall tape i) .any w.heap.size f i ∧
      s.pre6 enc C.prog fn conds apart (w.forCall tape i).memory i.args ∧ a.holds C.prog (lone (Frame.enter C.prog f i.args .normal) [] (w.forCall tape i)))
    (contract : ∀ (W : World) (base : Nat) (args : Array Value) (ds gs : List (DataW H)) (before : List MemPlace),
      (∀ (j : Nat) t v, fn.params[j]? = some t → args[j]? = some v → Value.okWide C.prog W .any base t v) →
      DataW.Whole enc C.prog fn.params.toList s.vars apart W args.toList ds gs before →
      conds.all (PathCond.test C.prog ⟨fn.params.toList, ds, s.plain.varTypes C.prog, gs⟩) = true →
      (DataW.weightsEach C.prog (fn.params.toList ++ s.plain.varTypes C.prog) (ds ++ gs)).all (· ≤ reachBytes) = true →
      Calls C.prog f args W fun e W' => ∃ v, e = .returned v ∧ W'.os = W.os ∧ s.post enc C.prog fn apart fresh handsOn false W args v W') :
    ReturnsInLeavingWide a C os f .any (s.pre6 enc C.prog fn conds apart) ((OpenSpec.ofChange s).postWith enc C.prog fn F (outsideKept [.timePasses]) apart fresh handsOn) := by
  refine leaving_of_handed (returnsInHanded_of_calls own started noInit witness ?_)
  intro w tape i _ _ _ hok hpre hholds
  obtain ⟨_, _, _, fn', hfn', _, _, _, _, hval⟩ := hok
  have e : fn' = fn := Option.some.inj (hfn'.symm.trans hfn)
  subst e
  obtain ⟨⟨ds, gs, before, hw, hc⟩, hz⟩ := hpre
  have hw' := DataW.Whole.of_heap (w' := w.forCall tape i) (by rfl) hw
  refine (contract (w.forCall tape i) w.heap.size i.args ds gs before hval hw' hc (hz.weights hw)).mono fun e W' ⟨v, he, hos, hp⟩ => ?_
  subst he
  refine postWith_blind (postWith_of_post ?_ (by rw [hos]; exact Go.ConcM.OsLater.refl _))
  have e1 : ({ W' with os := (w.forCall tape i).os } : World) = W' := by rw [← hos]
  rw [e1]
  exact hp
end
end Go.Proofs.YtdmdgnghaceibaaGreat
