/- A script, and how it lies in memory. -/
import Derived.Test.YtdmdgnghaceibaaGreatRows
import Derived.Test.YtdmdgnghaceibaaGreatPart02
import Derived.Deep.Strs
import Derived.Carry
import Derived.SizedLaws
import Derived.Test.YtdmdgnghaceibaaGreatPart10
import Derived.Test.YtdmdgnghaceibaaGreatPart06
import Derived.Laws.Strings2
import Derived.Laws.Strings3
import Derived.Test.YtdmdgnghaceibaaGreatPart09
import Derived.Test.YtdmdgnghaceibaaGreatPart07
import Derived.Test.YtdmdgnghaceibaaGreatPart08
import Derived.Deep.RegionHeld3
namespace Go.Proofs.YtdmdgnghaceibaaGreat.P
open M Go.ChangeShapes Go.WideShapes Go.ChangeAt Go.RowKit Go.Deep
set_option linter.unusedVariables false

/-- A step of a script. -/
structure MOp where
  kind : Int
  k : Int
  fid : Int
  a : Int
  b : Int
  text : ByteArray
  yes : Bool
  names : List ByteArray
  deriving Inhabited

/-- A script that came in. -/
structure OpAt (W : World) (sb so i : Nat) (o : MOp) (nao : Option Addr) (nc : Nat) : Prop where
  c0 : W.cell? ⟨sb, so + i * 8, none⟩ = some (.int .i64 o.kind)
  c1 : W.cell? ⟨sb, so + i * 8 + 1, none⟩ = some (.int .i64 o.k)
  c2 : W.cell? ⟨sb, so + i * 8 + 2, none⟩ = some (.int .i64 o.fid)
  c3 : W.cell? ⟨sb, so + i * 8 + 3, none⟩ = some (.int .i64 o.a)
  c4 : W.cell? ⟨sb, so + i * 8 + 4, none⟩ = some (.int .i64 o.b)
  c5 : W.cell? ⟨sb, so + i * 8 + 5, none⟩ = some (.string o.text)
  c6 : W.cell? ⟨sb, so + i * 8 + 6, none⟩ = some (.bool o.yes)
  c7 : W.cell? ⟨sb, so + i * 8 + 7, none⟩ = some (.slice nao o.names.length nc)
  text : o.text.size ≤ maxLen
  ra : -9223372036854775808 ≤ o.a ∧ o.a ≤ 9223372036854775807
  names : NamesAt W nao o.names
  low : ∀ a, nao = some a → o.names ≠ [] → a.block < W.heap.size

def ScriptAt (W : World) (ao : Option Addr) (ops : List MOp) : Prop :=
  ops.length ≤ 1600000000000 ∧ ∀ (i : Nat) o, ops[i]? = some o → o.text.size ≤ 140737488355328 ∧ ∃ sb so nao nc, ao = some ⟨sb, so, none⟩ ∧ OpAt W sb so i o nao nc

theorem cellsOp : Tryz.prog.cellsOf 57 = 8 := by kernel_rfl
theorem cellsStr : Tryz.prog.cellsOf 9 = 1 := by kernel_rfl

theorem cell_spot {w : World} {a : Addr} {v : Value} (h : w.cell? a = some v) : a.spot = none := by
  unfold World.cell? at h
  split at h
  · cases hs : a.spot with
    | none => rfl
    | some q => rw [hs] at h; simp at h
  · cases h

section
variable {H : Type} {enc : TypeId × Value → H} {W : World}

/-- A list of texts that was read. -/
theorem open_names {fuel : Nat} {v : Value} {x : DataW H × List MemPlace} (h : DataW.trod enc Tryz.prog W 0 (fun _ => true) true fuel 35 [v] = some x) :
    ∃ (nao : Option Addr) (names : List ByteArray) (nc : Nat), v = .slice nao names.length nc ∧ NamesAt W nao names ∧ (∀ a, nao = some a → names ≠ [] → a.block < W.heap.size) := by
  rcases open_strs Tryz.underlying35 Tryz.underlying9 cellsStr h with ⟨hc, _⟩ | ⟨a, len, cap, m, Sx, hc, _, hl, hm, hmm, _, hx⟩
  · simp only [List.cons.injEq, and_true] at hc
    exact ⟨none, [], 0, hc, ⟨by simp [maxLen], fun i s hs => by simp at hs⟩, fun a h => by cases h⟩
  · simp only [List.cons.injEq, and_true] at hc
    have hlm : len ≤ m := by rw [hmm]; split <;> omega
    refine ⟨some a, (List.range len).map Sx, cap, by simpa using hc, ⟨by simp; omega, fun i s hs => ?_⟩, fun a' ha hne => ?_⟩
    · have hi : i < len := by have := M.lt_of_getElem? hs; simpa using this
      have hsp : a.spot = none := cell_spot (hx 0 (by omega)).1
      rw [List.getElem?_map, List.getElem?_range hi] at hs
      simp at hs
      subst hs
      obtain ⟨h1, h2⟩ := hx i (by omega)
      obtain ⟨nb, no, sp⟩ := a
      have hsp : sp = none := hsp
      subst hsp
      rw [Addr.add_lit] at h1
      exact ⟨h2, nb, no, rfl, h1⟩
    · cases ha
      have hlen : 0 < len := by
        cases len with
        | zero => simp at hne
        | succ n => omega
      exact World.block_lt_of_cell? W _ (hx 0 (by omega)).1

theorem list8 {α : Type} {l : List α} (h : l.length = 8) : ∃ a0 a1 a2 a3 a4 a5 a6 a7, l = [a0, a1, a2, a3, a4, a5, a6, a7] := by
  cases l with
  | nil => cases h
  | cons a0 l => cases l with
    | nil => cases h
    | cons a1 l => cases l with
      | nil => cases h
      | cons a2 l => cases l with
        | nil => cases h
        | cons a3 l => cases l with
          | nil => cases h
          | cons a4 l => cases l with
            | nil => cases h
            | cons a5 l => cases l with
              | nil => cases h
              | cons a6 l => cases l with
                | nil => cases h
                | cons a7 l => cases l with
                  | nil => exact ⟨a0, a1, a2, a3, a4, a5, a6, a7, rfl⟩
                  | cons b l => simp at h

theorem range_i64 {n : Int} (h : (Lit.int .i64 n).wf = true) : -9223372036854775808 ≤ n ∧ n ≤ 9223372036854775807 := by
  have e1 : IntKind.i64.min = -9223372036854775808 := by decide
  have e2 : IntKind.i64.max = 9223372036854775807 := by decide
  simp only [Lit.wf, e1, e2, Bool.and_eq_true, decide_eq_true_eq] at h
  exact h
theorem mem_weightsAll {P : Program} {e : TypeId} {n : Nat} : ∀ {l : List (DataW H)} {d : DataW H}, d ∈ l → n ∈ d.weights P e → n ∈ DataW.weightsAll P e l
  | x :: l, d, h, hn => by
    rw [DataW.weightsAll, List.mem_append]
    rcases List.mem_cons.1 h with rfl | h
    · exact .inl hn
    · exact .inr (mem_weightsAll h hn)

set_option maxRecDepth 20000 in
/-- A step that was read. -/
theorem open_op {fuel : Nat} {a : Addr} {i : Nat} {cs : List Value} {x : DataW H × List MemPlace} (hsp : a.spot = none) (hc : W.cells? 0 (a.add (i * 8)) 8 = some cs) (h : DataW.trod enc Tryz.prog W 0 (fun _ => true) true fuel 57 cs = some x) :
    ∃ (o : MOp) (nao : Option Addr) (nc : Nat), OpAt W a.block a.off i o nao nc ∧ o.text.size ∈ x.1.weights Tryz.prog 57 := by
  obtain ⟨_, hlen, hcell⟩ := World.cells?_some hc
  obtain ⟨xs, n, rfl, hx0, _, hxl, hf⟩ := DataW.trod_struct Tryz.underlying57 h
  obtain ⟨v0, v1, v2, v3, v4, v5, v6, v7, rfl⟩ := list8 hlen
  obtain ⟨y0, y1, y2, y3, y4, y5, y6, y7, rfl⟩ := list8 (hxl.trans (by kernel_rfl))
  have c3 : Tryz.prog.cellsOf 3 = 1 := by kernel_rfl
  have c9 : Tryz.prog.cellsOf 9 = 1 := by kernel_rfl
  have c4 : Tryz.prog.cellsOf 4 = 1 := by kernel_rfl
  have c35 : Tryz.prog.cellsOf 35 = 1 := by kernel_rfl
  have g0 : DataW.trod enc Tryz.prog W 0 (fun _ => true) true n 3 [v0] = some y0 := by
    have hh := hf 0 _ rfl
    simp [c3] at hh
    exact hh
  have g1 : DataW.trod enc Tryz.prog W 0 (fun _ => true) true n 3 [v1] = some y1 := by
    have hh := hf 1 _ rfl
    simp [c3] at hh
    exact hh
  have g2 : DataW.trod enc Tryz.prog W 0 (fun _ => true) true n 3 [v2] = some y2 := by
    have hh := hf 2 _ rfl
    simp [c3] at hh
    exact hh
  have g3 : DataW.trod enc Tryz.prog W 0 (fun _ => true) true n 3 [v3] = some y3 := by
    have hh := hf 3 _ rfl
    simp [c3] at hh
    exact hh
  have g4 : DataW.trod enc Tryz.prog W 0 (fun _ => true) true n 3 [v4] = some y4 := by
    have hh := hf 4 _ rfl
    simp [c3] at hh
    exact hh
  have g5 : DataW.trod enc Tryz.prog W 0 (fun _ => true) true n 9 [v5] = some y5 := by
    have hh := hf 5 _ rfl
    simp [c9] at hh
    exact hh
  have g6 : DataW.trod enc Tryz.prog W 0 (fun _ => true) true n 4 [v6] = some y6 := by
    have hh := hf 6 _ rfl
    simp [c4] at hh
    exact hh
  have g7 : DataW.trod enc Tryz.prog W 0 (fun _ => true) true n 35 [v7] = some y7 := by
    have hh := hf 7 _ rfl
    simp [c35] at hh
    exact hh
  clear hf
  obtain ⟨k0, e0, _, _⟩ := DataW.trod_int Tryz.underlying3 g0
  obtain ⟨k1, e1, _, _⟩ := DataW.trod_int Tryz.underlying3 g1
  obtain ⟨k2, e2, _, _⟩ := DataW.trod_int Tryz.underlying3 g2
  obtain ⟨k3, e3, _, r3⟩ := DataW.trod_int Tryz.underlying3 g3
  obtain ⟨k4, e4, _, _⟩ := DataW.trod_int Tryz.underlying3 g4
  obtain ⟨tx, e5, d5, htx⟩ := DataW.trod_string Tryz.underlying9 g5
  obtain ⟨ye, e6, _⟩ := DataW.trod_bool Tryz.underlying4 g6
  obtain ⟨nao, names, nc, e7, hnm, hlow⟩ := open_names g7
  simp only [List.cons.injEq, and_true] at e0 e1 e2 e3 e4 e5 e6
  subst e0 e1 e2 e3 e4 e5 e6 e7
  obtain ⟨sb, so, sp⟩ := a
  have hsp : sp = none := hsp
  subst hsp
  simp only [Addr.add_lit] at hcell
  have hw : tx.size ∈ (DataW.agg ([y0, y1, y2, y3, y4, y5, y6, y7].map (·.1)) : DataW H).weights Tryz.prog 57 := by
    rw [DataW.weights]
    rw [show Tryz.prog.underlying 57 = _ from Tryz.underlying57]
    refine DataW.weights_mem_each (j := 5) (t := 9) (d := y5.1) rfl rfl _ ?_
    rw [d5]
    simp [DataW.weights]
  exact ⟨⟨k0, k1, k2, k3, k4, tx, ye, names⟩, nao, nc, ⟨hcell 0 (by omega), hcell 1 (by omega), hcell 2 (by omega), hcell 3 (by omega), hcell 4 (by omega), hcell 5 (by omega), hcell 6 (by omega), hcell 7 (by omega), htx, range_i64 r3, hnm, hlow⟩, by rw [hx0]; exact hw⟩

/-- A script that was read. -/
theorem open_script {ao : Option Addr} {len cap : Nat} {d : DataW H} {ps : List MemPlace} (h : DataW.Trod enc Tryz.prog W 0 (fun _ => true) true 22 (.slice ao len cap) d ps) :
    ∃ ops : List MOp, len = ops.length ∧ (len = 0 ∨ ∃ elems spare, d = .slice elems spare ∧ elems.length = len) ∧ (∀ (i : Nat) o, ops[i]? = some o → o.text.size ∈ d.weights Tryz.prog 22 ∧ ∃ sb so nao nc, ao = some ⟨sb, so, none⟩ ∧ OpAt W sb so i o nao nc) := by
  obtain ⟨fuel, h⟩ := h
  have hcs : (Value.slice ao len cap).cells.toList = [.slice ao len cap] := rfl
  rw [hcs] at h
  rcases open_slice Tryz.underlying22 h with ⟨hc, _⟩ | ⟨a, len', cap', m, n, D, Pl, hc, _, hl, hm, hmm, hxd, hx⟩
  · simp only [List.cons.injEq, Value.slice.injEq, and_true] at hc
    obtain ⟨rfl, rfl, rfl⟩ := hc
    exact ⟨[], rfl, .inl rfl, fun i o ho => by simp at ho⟩
  · simp only [List.cons.injEq, Value.slice.injEq, and_true] at hc
    obtain ⟨rfl, rfl, rfl⟩ := hc
    have hlm : len ≤ m := by rw [hmm]; split <;> omega
    rw [cellsOp] at hx
    have each : ∀ i, i < len → ∃ q : MOp × Option Addr × Nat, a.spot = none ∧ OpAt W a.block a.off i q.1 q.2.1 q.2.2 ∧ q.1.text.size ∈ (D i).weights Tryz.prog 57 := fun i hi => by
      have hsp : a.spot = none := by
        obtain ⟨cs, h1, _⟩ := hx 0 (by omega)
        obtain ⟨_, hlen, hcell⟩ := World.cells?_some h1
        obtain ⟨v0, v1, v2, v3, v4, v5, v6, v7, rfl⟩ := list8 hlen
        have h0 := hcell 0 (by omega)
        rw [Nat.zero_mul] at h0
        exact cell_spot (a := a) h0
      obtain ⟨cs, h1, h2⟩ := hx i (by omega)
      obtain ⟨o, nao, nc, ho⟩ := open_op hsp h1 h2
      exact ⟨(o, nao, nc), hsp, ho⟩
    obtain ⟨q, hq⟩ := choose_lt each
    refine ⟨(List.range len).map (fun i => (q i).1), by simp, .inr ⟨_, _, (Prod.mk.inj hxd).1, by simp⟩, fun i o ho => ?_⟩
    have hi : i < len := by have := M.lt_of_getElem? ho; simpa using this
    rw [List.getElem?_map, List.getElem?_range hi] at ho
    simp at ho
    subst ho
    obtain ⟨hsp, ho, hw⟩ := hq i hi
    obtain ⟨sb, so, sp⟩ := a
    have hsp : sp = none := hsp
    subst hsp
    refine ⟨?_, sb, so, (q i).2.1, (q i).2.2, rfl, ho⟩
    rw [(Prod.mk.inj hxd).1, DataW.weights, Tryz.underlying22]
    refine List.mem_cons_of_mem _ (List.mem_append_left _ (mem_weightsAll (d := D i) ?_ hw))
    exact List.mem_map.2 ⟨i, List.mem_range.2 hi, rfl⟩
end
end Go.Proofs.YtdmdgnghaceibaaGreat.P
/- One step of a script, over both halves: kinds up to 5. -/
namespace Go.Proofs.YtdmdgnghaceibaaGreat.P
open M Go.ChangeShapes Go.WideShapes Go.ChangeAt Go.RowKit
set_option linter.unusedVariables false

theorem BothIs.below {w w2 : World} {X : Nat → Prop} {b : Nat} {st : St} (h : BothIs w X b st) (hb : Below w.heap.size w w2) : BothIs w2 X b st := by
  obtain ⟨s, r, F, G, h⟩ := h
  exact ⟨s, r, F, G, h.below hb⟩

set_option maxRecDepth 20000 in
set_option maxHeartbeats 1000000 in
theorem step_attach {w : World} {X : Nat → Prop} {b : Nat} {st : St} (k fid a bb : Int) (text : ByteArray) (yes : Bool) (ao : Option Addr) (nl nc : Nat) (h : BothIs w X b st) (ok : POk st) :
    Calls Tryz.prog 29 #[.pointer (some ⟨b, 0, none⟩), .agg #[.int .i64 1, .int .i64 k, .int .i64 fid, .int .i64 a, .int .i64 bb, .string text, .bool yes, .slice ao nl nc]] w fun e w' => e = .returned (.bool true) ∧ BothIs w' X b (mAttach st fid).1 ∧ Ext X w w' := by
  have HC := hide (turned_attach k fid a bb text yes ao nl nc (h.below ((Below.refl _ w).alloc (Nat.le_refl _) (.cells #[.int .i64 1, .int .i64 k, .int .i64 fid, .int .i64 a, .int .i64 bb, .string text, .bool yes, .slice ao nl nc] 57))) ok)
  clear h
  go_enter Tryz.func29, Tryz.ntmps29
  go_wp2_with (go_at_call 65; refine HC.out.mono ?_; rintro e w2 ⟨rfl, h2, hb2⟩; have H2 := hide h2; have HB2 := hide hb2; clear h2 hb2)
  go_ret
  exact ⟨rfl, H2.out, (Ext.below ((Below.refl _ w).alloc (Nat.le_refl _) _)).trans' HB2.out⟩

set_option maxRecDepth 20000 in
set_option maxHeartbeats 1000000 in
theorem step_clunk {w : World} {X : Nat → Prop} {b : Nat} {st : St} (k fid a bb : Int) (text : ByteArray) (yes : Bool) (ao : Option Addr) (nl nc : Nat) (h : BothIs w X b st) (ok : POk st) :
    Calls Tryz.prog 29 #[.pointer (some ⟨b, 0, none⟩), .agg #[.int .i64 2, .int .i64 k, .int .i64 fid, .int .i64 a, .int .i64 bb, .string text, .bool yes, .slice ao nl nc]] w fun e w' => e = .returned (.bool true) ∧ BothIs w' X b (mClunk st fid).1 ∧ Ext X w w' := by
  have HC := hide (turned_clunk k fid a bb text yes ao nl nc (h.below ((Below.refl _ w).alloc (Nat.le_refl _) (.cells #[.int .i64 2, .int .i64 k, .int .i64 fid, .int .i64 a, .int .i64 bb, .string text, .bool yes, .slice ao nl nc] 57))) ok)
  clear h
  go_enter Tryz.func29, Tryz.ntmps29
  go_wp2_with (go_at_call 65; refine HC.out.mono ?_; rintro e w2 ⟨rfl, h2, hb2⟩; have H2 := hide h2; have HB2 := hide hb2; clear h2 hb2)
  go_ret
  exact ⟨rfl, H2.out, (Ext.below ((Below.refl _ w).alloc (Nat.le_refl _) _)).trans' HB2.out⟩

set_option maxRecDepth 20000 in
set_option maxHeartbeats 1000000 in
theorem step_open {w : World} {X : Nat → Prop} {b : Nat} {st : St} (k fid a bb : Int) (text : ByteArray) (yes : Bool) (ao : Option Addr) (nl nc : Nat) (h : BothIs w X b st) (ok : POk st) :
    Calls Tryz.prog 29 #[.pointer (some ⟨b, 0, none⟩), .agg #[.int .i64 4, .int .i64 k, .int .i64 fid, .int .i64 a, .int .i64 bb, .string text, .bool yes, .slice ao nl nc]] w fun e w' => e = .returned (.bool true) ∧ BothIs w' X b (mOpen st fid).1 ∧ Ext X w w' := by
  have HC := hide (turned_open k fid a bb text yes ao nl nc (h.below ((Below.refl _ w).alloc (Nat.le_refl _) (.cells #[.int .i64 4, .int .i64 k, .int .i64 fid, .int .i64 a, .int .i64 bb, .string text, .bool yes, .slice ao nl nc] 57))) ok)
  clear h
  go_enter Tryz.func29, Tryz.ntmps29
  go_wp2_with (go_at_call 65; refine HC.out.mono ?_; rintro e w2 ⟨rfl, h2, hb2⟩; have H2 := hide h2; have HB2 := hide hb2; clear h2 hb2)
  go_ret
  exact ⟨rfl, H2.out, (Ext.below ((Below.refl _ w).alloc (Nat.le_refl _) _)).trans' HB2.out⟩

set_option maxRecDepth 20000 in
set_option maxHeartbeats 1000000 in
theorem step_create {w : World} {X : Nat → Prop} {b : Nat} {st : St} (k fid a bb : Int) (text : ByteArray) (yes : Bool) (ao : Option Addr) (nl nc : Nat) (h : BothIs w X b st) (ok : POk st) (htext : text.size ≤ maxLen) (hnod : st.nodes.length ≤ 1700000000000) (hlong : ∀ f ∈ st.fids, f.way.length ≤ 1700000000000) :
    Calls Tryz.prog 29 #[.pointer (some ⟨b, 0, none⟩), .agg #[.int .i64 5, .int .i64 k, .int .i64 fid, .int .i64 a, .int .i64 bb, .string text, .bool yes, .slice ao nl nc]] w fun e w' => e = .returned (.bool true) ∧ BothIs w' X b (mCreate st fid text yes).1 ∧ Ext X w w' := by
  have HC := hide (turned_create k fid a bb text yes ao nl nc (h.below ((Below.refl _ w).alloc (Nat.le_refl _) (.cells #[.int .i64 5, .int .i64 k, .int .i64 fid, .int .i64 a, .int .i64 bb, .string text, .bool yes, .slice ao nl nc] 57))) ok htext hnod hlong)
  clear h
  go_enter Tryz.func29, Tryz.ntmps29
  go_wp2_with (go_at_call 65; refine HC.out.mono ?_; rintro e w2 ⟨rfl, h2, hb2⟩; have H2 := hide h2; have HB2 := hide hb2; clear h2 hb2)
  go_ret
  exact ⟨rfl, H2.out, (Ext.below ((Below.refl _ w).alloc (Nat.le_refl _) _)).trans' HB2.out⟩

set_option maxRecDepth 20000 in
set_option maxHeartbeats 1000000 in
theorem step_walk {w : World} {X : Nat → Prop} {b : Nat} {st : St} (k fid a bb : Int) (text : ByteArray) (yes : Bool) (names : List ByteArray) (ao : Option Addr) (nc : Nat) (h : BothIs w X b st) (ok : POk st) (hn : NamesAt w ao names) (hnB : ∀ a, ao = some a → names ≠ [] → ¬ X a.block) (hlong : ∀ f ∈ st.fids, f.way.length ≤ 1700000000000) :
    Calls Tryz.prog 29 #[.pointer (some ⟨b, 0, none⟩), .agg #[.int .i64 3, .int .i64 k, .int .i64 fid, .int .i64 a, .int .i64 bb, .string text, .bool yes, .slice ao names.length nc]] w fun e w' => e = .returned (.bool true) ∧ BothIs w' X b (mWalk st fid bb names).1 ∧ Ext X w w' := by
  have HC := hide (walked_any k fid a bb text yes names ao nc (h.below ((Below.refl _ w).alloc (Nat.le_refl _) (.cells #[.int .i64 3, .int .i64 k, .int .i64 fid, .int .i64 a, .int .i64 bb, .string text, .bool yes, .slice ao names.length nc] 57))) ok (hn.ext (Ext.below (F := X) ((Below.refl _ w).alloc (Nat.le_refl _) _)) hnB) hnB hlong)
  clear h
  go_enter Tryz.func29, Tryz.ntmps29
  go_wp2_with (go_at_call 66; refine HC.out.mono ?_; rintro e w2 ⟨rfl, h2, hb2⟩; have H2 := hide h2; have HB2 := hide hb2; clear h2 hb2)
  go_ret
  exact ⟨rfl, H2.out, (Ext.below ((Below.refl _ w).alloc (Nat.le_refl _) _)).trans' HB2.out⟩

set_option maxRecDepth 20000 in
set_option maxHeartbeats 1000000 in
theorem step_none {w : World} {X : Nat → Prop} {b : Nat} {st : St} (kind k fid a bb : Int) (text : ByteArray) (yes : Bool) (ao : Option Addr) (nl nc : Nat) (h : BothIs w X b st) (hk : kind < 1 ∨ 14 < kind) :
    Calls Tryz.prog 29 #[.pointer (some ⟨b, 0, none⟩), .agg #[.int .i64 kind, .int .i64 k, .int .i64 fid, .int .i64 a, .int .i64 bb, .string text, .bool yes, .slice ao nl nc]] w fun e w' => e = .returned (.bool true) ∧ BothIs w' X b st ∧ Ext X w w' := by
  have e1 : (kind == 1) = false := beq_false_of_ne (by omega)
  have e2 : (kind == 2) = false := beq_false_of_ne (by omega)
  have e4 : (kind == 4) = false := beq_false_of_ne (by omega)
  have e5 : (kind == 5) = false := beq_false_of_ne (by omega)
  have e10 : (kind == 10) = false := beq_false_of_ne (by omega)
  have e11 : (kind == 11) = false := beq_false_of_ne (by omega)
  have e12 : (kind == 12) = false := beq_false_of_ne (by omega)
  have e3 : (kind == 3) = false := beq_false_of_ne (by omega)
  have e6 : (kind == 6) = false := beq_false_of_ne (by omega)
  have e7 : (kind == 7) = false := beq_false_of_ne (by omega)
  have e8 : (kind == 8) = false := beq_false_of_ne (by omega)
  have e9 : (kind == 9) = false := beq_false_of_ne (by omega)
  have e13 : (kind == 13) = false := beq_false_of_ne (by omega)
  have e14 : (kind == 14) = false := beq_false_of_ne (by omega)
  have H := hide h
  clear h hk
  go_enter Tryz.func29, Tryz.ntmps29
  go_wp2
  go_ret
  exact ⟨rfl, H.out.below ((Below.refl _ w).alloc (Nat.le_refl _) _), Ext.below ((Below.refl _ w).alloc (Nat.le_refl _) _)⟩

end Go.Proofs.YtdmdgnghaceibaaGreat.P
/- The reference's 'Write'. -/
namespace Go.Proofs.YtdmdgnghaceibaaGreat
open M Go.ChangeShapes Go.WideShapes Go.ChangeAt Go.RowKit
set_option linter.unusedVariables false

/-- One cell of one node is stored. -/
theorem RefHas.setNode {w : World} {F : Nat → Prop} {r g cap i k : Nat} {st : St} {lv fv v : Value} {x x' : Nd} (h : RefHas w F r st (.slice (some ⟨g, 0, none⟩) st.nodes.length cap) lv fv) (hx : st.nodes[i]? = some x) (hk : k < 6) (hc : (nodeCells x).set k v = nodeCells x') :
    RefHas (w.setCell ⟨g, i * 6 + k, none⟩ v) F r (M.setNode st i x') (.slice (some ⟨g, 0, none⟩) st.nodes.length cap) lv fv := by
  have hz : (st.nodes.map nodeCells)[i]? = some (nodeCells x) := by rw [List.getElem?_map, hx]; rfl
  rcases h.nodes.opened with ⟨hv, _⟩ | ⟨g', cap', hv, _, _, _, ⟨cur, hb⟩, _⟩
  · simp at hv
  simp at hv
  obtain ⟨rfl, _⟩ := hv
  have hkp : KeepT (fun e => e ≠ 184) F w (w.setCell ⟨g, i * 6 + k, none⟩ v) := (KeepT.refl _ _ _).setCell (a := ⟨g, i * 6 + k, none⟩) hb (by simp) _
  refine ⟨(hkp r _ _ h.own h.blk (by decide)).trans h.blk, h.own, ?_, h.laid.keepT hkp (by decide) (by decide), h.fids.keepT hkp (by decide) (by decide) (by decide)⟩
  have := h.nodes.set (k := k) hz hk v
  rw [hc] at this
  have e : (st.nodes.map nodeCells).set i (nodeCells x') = (M.setNode st i x').nodes.map nodeCells := by simp [M.setNode, List.map_set]
  rw [e] at this
  exact this

def Ends5 (w : World) (F : Nat → Prop) (r : Nat) (p : St × Int × Int) (e : Ending) (w' : World) : Prop := e = .returned (.tuple #[.int .i64 p.2.1, .int .i64 p.2.2]) ∧ RefIs w' (ext F w w') r p.1 ∧ Ext F w w'

theorem Ends5.same {w w1 w' : World} {F : Nat → Prop} {r : Nat} {st' : St} {c d : Int} {p : St × Int × Int} {e : Ending} (hp : p = (st', c, d)) (he : e = .returned (.tuple #[.int .i64 c, .int .i64 d])) (h1 : RefIs w1 F r st') (hx : Ext F w w1) (hb : Below w1.heap.size w1 w') : Ends5 w F r p e w' := by
  subst hp
  exact ⟨he, (h1.below hb).mono (fun k hk => .inl hk), hx.trans' (Ext.below hb)⟩

/-- A node's version and bytes are stored. -/
theorem write_close {w : World} {F : Nat → Prop} {r g cap i : Nat} {st : St} {lv fv : Value} {x : Nd} (h : RefHas w F r st (.slice (some ⟨g, 0, none⟩) st.nodes.length cap) lv fv) (hx : st.nodes[i]? = some x) (v : Int) (d : ByteArray) :
    RefIs ((w.setCell ⟨g, i * 6 + 4, none⟩ (.int .i64 v)).setCell ⟨g, i * 6 + 3, none⟩ (.string d)) F r (M.setNode st i { x with version := v, data := d }) := by
  have h1 := h.setNode (k := 4) (v := .int .i64 v) (x' := { x with version := v }) hx (by omega) rfl
  have hx1 : (M.setNode st i { x with version := v }).nodes[i]? = some { x with version := v } := by
    simp only [M.setNode]
    exact List.getElem?_set_self (M.lt_of_getElem? hx)
  have hl : (M.setNode st i { x with version := v }).nodes.length = st.nodes.length := by simp [M.setNode]
  have h2 := RefHas.setNode (st := M.setNode st i { x with version := v }) (k := 3) (v := .string d) (x' := { x with version := v, data := d }) (by rw [hl]; exact h1) hx1 (by omega) rfl
  have e : M.setNode (M.setNode st i { x with version := v }) i { x with version := v, data := d } = M.setNode st i { x with version := v, data := d } := by simp [M.setNode, List.set_set]
  rw [e] at h2
  exact ⟨_, _, _, h2⟩

def strSize : Value → Nat
  | .string s => s.size
  | _ => 0

set_option maxRecDepth 20000 in
set_option maxHeartbeats 2000000 in
theorem write_any {w : World} {F : Nat → Prop} {r : Nat} {st : St} (n a : Int) (t : ByteArray) (h : RefIs w F r st) (ok : StOk st) (hdat : ∀ x ∈ st.nodes, x.data.size ≤ 300) (ht : t.size ≤ 140737488355328) :
    Calls Tryz.prog 114 #[.pointer (some ⟨r, 0, none⟩), .int .i64 n, .int .i64 a, .string t] w fun e w' => Ends5 w F r (mWrite st n a t) e w' := by
  have hoi : ∀ i, find st n = some i → i < (tick st).fids.length := fun i hi => by
    obtain ⟨f, hfi, _⟩ := find_some hi
    exact M.lt_of_getElem? hfi
  have hdef : mWrite st n a t = if mFile st (find st n) = 0 then
    (if a < 0 then (tick st, 0, (1 : Int)) else if 300 < a ∨ 300 < a + t.size then (tick st, 0, 12) else match find st n with
      | none => (tick st, 0, 2)
      | some i => match st.fids[i]? with
        | none => (tick st, 0, 2)
        | some f => match st.nodes[nodeOf f]? with
          | none => (tick st, 0, 2)
          | some x => (M.setNode (tick st) (nodeOf f) (wroteNd x a.toNat t), (t.size : Int), 0))
  else (tick st, 0, mFile st (find st n)) := rfl
  have HD := hide hdef
  clear hdef
  go_enter Tryz.func114, Tryz.ntmps114
  go_wp2_with fail
  refine (call_any n h).mono ?_
  rintro e w1 ⟨rfl, h1, hx1, hsz1⟩
  have H1 := hide h1
  have Hx := hide hx1
  have Hfile := hide (file_any (st := tick st) (find st n) hoi h1 ⟨ok.pos, ok.way, ok.laid, ok.few⟩)
  rw [show mFile (tick st) (find st n) = mFile st (find st n) from rfl] at Hfile
  have Hoi := hide hoi
  clear h hx1 hsz1 h1 hoi
  generalize hfo : find st n = fo at *
  have Hfo := hide hfo
  clear hfo
  go_wp2_with fail
  refine Hfile.out.mono ?_
  rintro e w2 ⟨rfl, hb2⟩
  have HB2 := hide hb2
  clear hb2 Hfile
  by_cases hm : mFile st fo = 0
  · rw [if_pos hm] at HD
    have Hm := hide hm
    rw [hm]
    clear hm
    by_cases ha : a < 0
    · rw [if_pos ha] at HD
      go_wp2
      go_ret2
      exact Ends5.same HD.out rfl H1.out Hx.out HB2.out
    · rw [if_neg ha] at HD
      obtain ⟨an, rfl⟩ := Int.eq_ofNat_of_zero_le (show 0 ≤ a by omega)
      by_cases hbig : 300 < (an : Int) ∨ 300 < (an : Int) + t.size
      · rw [if_pos hbig] at HD
        by_cases hb1 : 300 < (an : Int)
        · clear hbig
          go_wp2
          go_ret2
          exact Ends5.same HD.out rfl H1.out Hx.out HB2.out
        · have hb2 : 300 < (an : Int) + (t.size : Int) := by omega
          clear hbig
          go_wp2
          go_ret2
          exact Ends5.same HD.out rfl H1.out Hx.out HB2.out
      · rw [if_neg hbig] at HD
        have b1 : ¬ 300 < (an : Int) := by omega
        have b2 : ¬ 300 < (an : Int) + (t.size : Int) := by omega
        have b3 : decide (300 < (an : Int)) = false := by simpa using b1
        clear hbig
        cases hfo2 : fo with
        | none => have := Hm.out; rw [hfo2] at this; simp [mFile] at this
        | some i =>
          rw [hfo2] at HD Hm Hoi
          obtain ⟨f, hfi⟩ := getElem?_of_lt (show i < st.fids.length from Hoi.out i rfl)
          obtain ⟨s, hs, hsn, _, hno⟩ := ok.last (List.mem_of_getElem? hfi)
          obtain ⟨x, hx⟩ := getElem?_of_lt hsn
          have hxs := hdat x (List.mem_of_getElem? hx)
          have HD2 := hide (show mWrite st n (an : Int) t = (M.setNode (tick st) s.n (wroteNd x an t), (t.size : Int), 0) by rw [HD.out]; simp [hfi, hno, hx])
          have Hnode := hide (node_any (st := tick st) i f s hfi hs hsn (H1.out.below HB2.out))
          obtain ⟨nv, lv, fv, hR⟩ := H1.out.below HB2.out
          obtain ⟨g, cap, rfl, _, hFg, _, hcell, hfz⟩ := hR.nodesAt ok.pos
          have hc0 : w2.cell? ⟨r, 0, none⟩ = some (.slice (some ⟨g, 0, none⟩) st.nodes.length cap) := hR.c0
          obtain ⟨_, _, _, x3, x4, _⟩ := hcell s.n x hx
          have f3 := hfz (s.n * 6 + 3)
          have f4 := hfz (s.n * 6 + 4)
          have HR := hide hR
          have HX := hide hx
          have HFg := hide hFg
          clear hR hcell HD hfo2 hx hfi hs Hoi hfz hFg
          simp only [idxV]
          go_wp2_with fail
          refine Hnode.out.mono ?_
          rintro e w3 ⟨g', cap', hcc, rfl, hb3⟩
          have hgg : g' = g := by rw [hc0] at hcc; simp at hcc; exact hcc.1.symm
          subst hgg
          have y3 : w3.cell? ⟨g', s.n * 6 + 3, none⟩ = some (.string x.data) := (hb3.cell (World.block_lt_of_cell? w2 _ x3)).trans x3
          have y4 : w3.cell? ⟨g', s.n * 6 + 4, none⟩ = some (.int .i64 x.version) := (hb3.cell (World.block_lt_of_cell? w2 _ x4)).trans x4
          have e3 : w3.frozen? ⟨g', s.n * 6 + 3, none⟩ = false := (hb3.frozen (World.block_lt_of_cell? w2 ⟨g', s.n * 6 + 3, none⟩ x3)).trans f3
          have e4 : w3.frozen? ⟨g', s.n * 6 + 4, none⟩ = false := (hb3.frozen (World.block_lt_of_cell? w2 ⟨g', s.n * 6 + 4, none⟩ x4)).trans f4
          have HR3 : Hid (RefHas w3 F r (tick st) (.slice (some ⟨g', 0, none⟩) (tick st).nodes.length cap) lv fv) := hide (by
            have hk : KeepT (fun _ => True) F w2 w3 := KeepT.below hb3
            have hR := HR.out
            exact ⟨(hk r _ _ hR.own hR.blk trivial).trans hR.blk, hR.own, hR.nodes.keepT hk trivial, hR.laid.keepT hk trivial trivial, hR.fids.keepT hk trivial trivial trivial⟩)
          have HX3 : Hid (Ext F w w3) := hide (Hx.out.trans' ((Ext.below HB2.out).trans' (Ext.below hb3)))
          clear hb3 hcc x3 x4 hc0 f3 f4
          by_cases hz : t.size = 0
          · have hz' : ((t.size : Int) == 0) = true := by simp [hz]
            have Hz := hide hz
            clear hz
            go_wp2
            go_ret2
            have hw : wroteNd x an t = { x with version := wrap64 (x.version + 1) } := by unfold wroteNd; rw [if_pos Hz.out]
            refine ⟨by rw [HD2.out]; simp [Hz.out], ?_, HX3.out.setCell (.inl HFg.out) _⟩
            rw [HD2.out, hw]
            exact ⟨_, _, _, (HR3.out.setNode (k := 4) (v := .int .i64 (wrap64 (x.version + 1))) HX.out (by omega) rfl)⟩ |> fun h => RefIs.mono h (fun k hk => .inl hk)
          · have hz' : ((t.size : Int) == 0) = false := by rw [beq_eq_false_iff_ne]; omega
            have Hz := hide hz
            clear hz
            go_wp2
            go_loop [13] (fun v => ∃ (k : Nat) (D : ByteArray), v = .string D ∧ D = x.data ++ zeros k ∧ k ≤ an - x.data.size) (fun v => an - strSize v)
            case atStart => exact ⟨0, x.data, rfl, (zeros_none _).symm, by omega⟩
            case round =>
              obtain ⟨k, D, rfl, hD, hk⟩ := hrel
              have hDs : D.size = x.data.size + k := by rw [hD, ByteArray.size_append, size_zeros]
              by_cases hlt : D.size < an
              · have hlt' : (D.size : Int) < (an : Int) := by omega
                have HD3 := hide hD
                have HDs := hide hDs
                clear hD hDs
                go_wp2
                go_round
                case rel => exact ⟨k + 1, _, rfl, by rw [HD3.out, zeros_more], by have := HDs.out; omega⟩
                case measure =>
                  show an - (D ++ ⟨#[0]⟩ : ByteArray).size < an - D.size
                  rw [ByteArray.size_append]
                  have h1 : (⟨#[0]⟩ : ByteArray).size = 1 := rfl
                  omega
              · have hlt' : ¬ (D.size : Int) < (an : Int) := by omega
                have HP := hide (show D = padded x.data an by rw [hD]; unfold padded; congr 2; omega)
                have hle : an ≤ D.size := by omega
                have hD3 : D.size ≤ 600 := by omega
                clear hD hDs
                by_cases hr : an + t.size < D.size
                · have hr' : (an : Int) + (t.size : Int) < (D.size : Int) := by omega
                  go_wp2
                  go_ret2
                  have hw : wroteNd x an t = { x with version := wrap64 (x.version + 1), data := D.extract 0 an ++ t ++ D.extract (an + t.size) D.size } := by
                    unfold wroteNd over
                    rw [if_neg Hz.out, ← HP.out, if_pos hr]
                  refine ⟨by rw [HD2.out]; rfl, ?_, (HX3.out.setCell (.inl HFg.out) _).setCell (.inl HFg.out) _⟩
                  rw [HD2.out, hw]
                  exact (write_close HR3.out HX.out _ _).mono (fun k hk => .inl hk)
                · have hr' : ¬ (an : Int) + (t.size : Int) < (D.size : Int) := by omega
                  go_wp2
                  go_ret2
                  have hw : wroteNd x an t = { x with version := wrap64 (x.version + 1), data := D.extract 0 an ++ t ++ ⟨#[]⟩ } := by
                    unfold wroteNd over
                    rw [if_neg Hz.out, ← HP.out, if_neg hr]
                  refine ⟨by rw [HD2.out]; rfl, ?_, (HX3.out.setCell (.inl HFg.out) _).setCell (.inl HFg.out) _⟩
                  rw [HD2.out, hw]
                  exact (write_close HR3.out HX.out _ _).mono (fun k hk => .inl hk)
  · rw [if_neg hm] at HD
    have hne : (mFile st fo != 0) = true := by simpa using hm
    clear hm
    generalize mFile st fo = al at *
    go_wp2
    go_ret2
    exact Ends5.same HD.out rfl H1.out Hx.out HB2.out
end Go.Proofs.YtdmdgnghaceibaaGreat
/- The reference's busy, Remove. -/
namespace Go.Proofs.YtdmdgnghaceibaaGreat.P
open M Go.ChangeShapes Go.WideShapes Go.ChangeAt Go.RowKit
set_option linter.unusedVariables false

theorem any_upto {α : Type} (p : α → Bool) (l : List α) (k : Nat) (x : α) (hx : l[k]? = some x) (h : (l.take k).any p = false) : (l.take (k + 1)).any p = p x := by
  have hlt := M.lt_of_getElem? hx
  have e : l[k] = x := by rw [List.getElem?_eq_getElem hlt] at hx; exact Option.some.inj hx
  rw [List.take_succ_eq_append_getElem hlt, e, List.any_append, h]
  simp
theorem any_at {α : Type} (p : α → Bool) (l : List α) (k : Nat) (x : α) (hx : l[k]? = some x) (h : p x = true) : l.any p = true := by
  rw [List.any_eq_true]
  exact ⟨x, List.mem_of_getElem? hx, h⟩

/-- How what is bound lies there. -/
theorem laids_at {w : World} {F : Nat → Prop} {v : Value} {laid : List Laid} (h : LaidsIs w F v laid) (i : Nat) (l : Laid) (hl : laid[i]? = some l) :
    ∃ (g cap : Nat) (rao : Option Addr) (rc : Nat), v = .slice (some ⟨g, 0, none⟩) laid.length cap ∧ laid.length ≤ maxLen ∧ w.cell? ⟨g, i * 2, none⟩ = some (.int .i64 l.onto) ∧ w.cell? ⟨g, i * 2 + 1, none⟩ = some (.slice rao l.row.length rc) ∧ l.row.length ≤ maxLen ∧
      ∀ k m, l.row[k]? = some m → ∃ rg, rao = some ⟨rg, 0, none⟩ ∧ w.cell? ⟨rg, k * 2, none⟩ = some (.int .i64 m.d) := by
  obtain ⟨vs, hE, hO⟩ := h
  have hlen : (List.zipWith laidCells vs laid).length = laid.length := by rw [List.length_zipWith, hE.1, Nat.min_self]
  obtain ⟨u, hu⟩ := M.getElem?_of_lt (show i < vs.length by rw [hE.1]; exact M.lt_of_getElem? hl)
  have hr := hE.2 i u l hu hl
  have hz : (List.zipWith laidCells vs laid)[i]? = some (laidCells u l) := by rw [List.getElem?_zipWith, hu, hl]
  rcases hO.opened with ⟨_, hn⟩ | ⟨g, cap, rfl, hcap, hmax, _, _, hc, _⟩
  · rw [hn] at hz
    simp at hz
  · rw [hlen] at hcap ⊢
    obtain ⟨rao, rc, rfl⟩ := hr.form
    have hrl : l.row.length ≤ maxLen := by
      rcases hr.opened with ⟨_, hn⟩ | ⟨rg, rcap, _, hrcap, hrmax, _⟩
      · have : l.row = [] := List.map_eq_nil_iff.1 hn
        rw [this]
        simp
      · rw [List.length_map] at hrcap
        omega
    refine ⟨g, cap, rao, rc, rfl, by omega, ?_, ?_, hrl, fun k m hm => ?_⟩
    · exact hc i _ 0 _ hz rfl
    · have := hc i _ 1 _ hz rfl
      rw [List.length_map] at this
      exact this
    · rcases hr.opened with ⟨_, hn⟩ | ⟨rg, rcap, e, _, _, _, _, hrc, _⟩
      · rw [List.map_eq_nil_iff.1 hn] at hm
        simp at hm
      · simp only [Value.slice.injEq] at e
        refine ⟨rg, e.1, ?_⟩
        exact hrc k (memberCells m) 0 _ (by rw [List.getElem?_map, hm]; rfl) rfl

set_option maxRecDepth 20000 in
set_option maxHeartbeats 2000000 in
theorem busy_any {w : World} {F : Nat → Prop} {r : Nat} {st : St} (d : Nat) (h : RefIs w F r st) (h0 : 0 < st.nodes.length) (hl : st.nodes.length ≤ 1700000000000) (hu : UniqL st.nodes) (hnl : (namesOf st d).length ≤ 100) :
    Calls Tryz.prog 145 #[.pointer (some ⟨r, 0, none⟩), .int .i64 d] w fun e w' => e = .returned (.bool (mBusy st d)) ∧ Below w.heap.size w w' := by
  have HN := hide (refNames_any d h0 hl hu h)
  have HR := hide h
  have He := hide (names_ne_nil (st := st) (d := d))
  go_enter Tryz.func145, Tryz.ntmps145
  go_wp2_with fail
  refine HN.out.mono ?_
  rintro e w1 ⟨v1, rfl, hT1⟩
  obtain ⟨ao, c, rfl⟩ := hT1.form
  have HB1 := hide hT1.below
  clear hT1
  by_cases hpos : 0 < (namesOf st d).length
  · have hp : (0 : Int) < ((namesOf st d).length : Int) := by omega
    have HB := hide (show mBusy st d = true by unfold mBusy; rw [He.out.2 hpos]; rfl)
    clear hpos h
    go_wp2
    go_ret
    exact ⟨by rw [HB.out]; rfl, HB1.out⟩
  · have hp : ¬ (0 : Int) < ((namesOf st d).length : Int) := by omega
    have HE := hide (show mBusy st d = st.laid.any (fun l => l.onto == d || rowHas l.row d) by
      unfold mBusy
      cases hh : hasEntry st d with
      | false => rfl
      | true => exact absurd (He.out.1 hh) hpos)
    obtain ⟨nv, lv, fv, hR⟩ := h
    have c1 : w1.cell? ⟨r, 1, none⟩ = some lv := (HB1.out.cell (World.block_lt_of_cell? w _ hR.c1)).trans hR.c1
    have hlaid := hR.laid.keepT (T := fun _ => True) (KeepT.below HB1.out) trivial trivial
    obtain ⟨lao, lc, rfl⟩ : ∃ lao lc, lv = .slice lao st.laid.length lc := by
      obtain ⟨vs, hE, hO⟩ := hR.laid
      obtain ⟨a, b, e⟩ := hO.form
      exact ⟨a, b, by rw [e, List.length_zipWith, hE.1, Nat.min_self]⟩
    have hll : st.laid.length ≤ maxLen := by
      cases hq : st.laid with
      | nil => simp
      | cons a t =>
        obtain ⟨_, _, _, _, _, hm, _⟩ := laids_at hlaid 0 a (by rw [hq]; rfl)
        rw [← hq]
        exact hm
    unfold maxLen at hll
    have HL := hide hlaid
    clear hpos hR hlaid HN
    go_wp2
    go_loop [5] (fun i => ∃ k : Nat, k ≤ st.laid.length ∧ i = .int .i64 k ∧ (st.laid.take k).any (fun l => l.onto == d || rowHas l.row d) = false) (fun i => st.laid.length - (intOf i).toNat)
    case atStart => exact ⟨0, Nat.zero_le _, rfl, by simp⟩
    case round =>
      obtain ⟨k, hk, rfl, hany⟩ := hrel
      have Hany := hide hany
      clear hany
      by_cases hlt : k < st.laid.length
      · obtain ⟨l, hl2⟩ := M.getElem?_of_lt hlt
        obtain ⟨g, cap, rao, rc, ev, _, k0, k1, hrl, hrow⟩ := laids_at HL.out k l hl2
        simp only [Value.slice.injEq, true_and] at ev
        obtain ⟨rfl, rfl⟩ := ev
        have Hl := hide hl2
        have Hrow := hide hrow
        have i0 : (0 : Int) ≤ (k : Int) := by omega
        have i1 : (k : Int) < (st.laid.length : Int) := by omega
        unfold maxLen at hrl
        clear hl2 hrow
        by_cases ho : l.onto = d
        · have hq : ((l.onto : Int) == (d : Int)) = true := by simp [ho]
          have HB := hide (show mBusy st d = true by rw [HE.out]; exact any_at _ _ k l Hl.out (by simp [ho]))
          clear ho
          go_wp2
          go_ret
          exact ⟨by rw [HB.out]; rfl, HB1.out⟩
        · have hq : ((l.onto : Int) == (d : Int)) = false := by simp; omega
          have Ho := hide ho
          clear ho
          go_wp2
          go_loop [6] (fun i => ∃ j : Nat, j ≤ l.row.length ∧ i = .int .i64 j ∧ (l.row.take j).any (fun m => m.d == d) = false) (fun i => l.row.length - (intOf i).toNat)
          case atStart => exact ⟨0, Nat.zero_le _, rfl, by simp⟩
          case round =>
            obtain ⟨j, hj, rfl, hanyj⟩ := hrel
            have Hanyj := hide hanyj
            clear hanyj
            by_cases hjlt : j < l.row.length
            · obtain ⟨m, hm⟩ := M.getElem?_of_lt hjlt
              obtain ⟨rg, rfl, cm⟩ := Hrow.out j m hm
              have Hm := hide hm
              have j0 : (0 : Int) ≤ (j : Int) := by omega
              have j1 : (j : Int) < (l.row.length : Int) := by omega
              clear hm
              by_cases hmd : m.d = d
              · have hq2 : ((m.d : Int) == (d : Int)) = true := by simp [hmd]
                have HB := hide (show mBusy st d = true by
                  rw [HE.out]
                  exact any_at _ _ k l Hl.out (by rw [show rowHas l.row d = true from any_at _ _ j m Hm.out (by simp [hmd])]; simp))
                clear hmd
                go_wp2
                go_ret
                exact ⟨by rw [HB.out]; rfl, HB1.out⟩
              · have hq2 : ((m.d : Int) == (d : Int)) = false := by simp; omega
                have Hmd := hide hmd
                clear hmd
                go_wp2
                go_round
                case rel => exact ⟨j + 1, by omega, by go_num, by rw [any_upto _ _ j m Hm.out Hanyj.out]; simpa using Hmd.out⟩
                case measure => simp [intOf]; omega
            · have Hno := hide (show rowHas l.row d = false by
                have e := Hanyj.out
                rw [List.take_of_length_le (by omega)] at e
                exact e)
              have HN := hide (show (st.laid.take (k + 1)).any (fun l => l.onto == d || rowHas l.row d) = false by rw [any_upto _ _ k l Hl.out Hany.out, Hno.out]; simpa using Ho.out)
              go_wp2
              go_round
              case rel => exact ⟨k + 1, by omega, by go_num, by have := HN.out; simpa using this⟩
              case measure => simp [intOf]; omega
      · have HB := hide (show mBusy st d = false by
          rw [HE.out]
          have e := Hany.out
          rw [List.take_of_length_le (by omega)] at e
          exact e)
        go_wp2
        go_ret
        exact ⟨by rw [HB.out]; rfl, HB1.out⟩
end Go.Proofs.YtdmdgnghaceibaaGreat.P
/- The reference's Remove. -/
namespace Go.Proofs.YtdmdgnghaceibaaGreat.P
open M Go.ChangeShapes Go.WideShapes Go.ChangeAt Go.RowKit
set_option linter.unusedVariables false

set_option maxRecDepth 20000 in
set_option maxHeartbeats 2000000 in
theorem rremove_any {w : World} {F : Nat → Prop} {r : Nat} {st : St} (n : Int) (h : RefIs w F r st) (pok : POk st) (hu : UniqL st.nodes) (hnod : st.nodes.length ≤ 1700000000000) :
    Calls Tryz.prog 109 #[.pointer (some ⟨r, 0, none⟩), .int .i64 n] w fun e w' => Ends w F r (mRemove st n) e w' := by
  have ok : StOk st := ⟨pok.pos, fun f hf => ⟨(pok.way f hf).1, fun s hs => ⟨((pok.way f hf).2 s hs).1, fun m hm => (((pok.way f hf).2 s hs).2.1 m hm).1⟩⟩, fun l hl m hm => ((pok.laid l hl).1 m hm).1, FidsOk.few pok.fids⟩
  cases hf : find st n with
  | none =>
    have H := hide (show mRemove st n = (tick st, 2) by simp [mRemove, hf])
    go_enter Tryz.func109, Tryz.ntmps109
    go_wp2_with fail
    refine (call_any n h).mono ?_
    rintro e w1 ⟨rfl, h1, hx, hsz⟩
    have H1 := hide h1
    have Hx := hide hx
    rw [hf]
    clear hf h h1 hx hsz
    simp only [idxV]
    go_wp2
    go_ret
    exact Ends.same H.out rfl H1.out Hx.out (Below.refl _ _)
  | some i =>
    obtain ⟨f, hfi, _⟩ := find_some hf
    have hi := M.lt_of_getElem? hfi
    have hmem := List.mem_of_getElem? hfi
    obtain ⟨s, hs, hsn, hrok, hno⟩ := ok.last hmem
    obtain ⟨x, hx⟩ := getElem?_of_lt hsn
    have HD := hide (mRemove_eq hf hfi (by rw [hno]; exact hx))
    rw [hno] at HD
    have i0 : (0 : Int) ≤ (i : Int) := by omega
    have i1 : (i : Int) < (st.fids.length : Int) := by omega
    have hfl : st.fids.length ≤ 100000 := by have := ok.few; omega
    go_enter Tryz.func109, Tryz.ntmps109
    go_wp2_with fail
    refine (call_any n h).mono ?_
    rintro e w1 ⟨rfl, h1, hx1, hsz⟩
    have H1 := hide h1
    have Hx := hide hx1
    have Hsz := hide hsz
    rw [hf]
    clear hf h hx1 hsz
    simp only [idxV]
    obtain ⟨nv, lv, fv, hR⟩ := h1
    obtain ⟨fg, fcap, wv, rfl, hfm, hFg, _, hway, _, cw, co, cfz⟩ := FidsIs.at (fids := st.fids) hR.fids i f hfi
    obtain ⟨gw, wcap, rao, rc, rfl, hwpos, hwmax, hrow, s0, s1⟩ := hway.last s hs
    have c2 := hR.c2
    have Hspot := hide (spot_core fg (i * 3) gw f.way.length wcap s.n rao s.row.length rc w1 hwpos hwmax cw s0 s1)
    have Hfi := hide hfi
    have HX := hide hx
    have Hpok := hide pok
    have Hu := hide hu
    have hfd : ∀ (u : Value) (W : World), (Instr.field 212 (.agg #[.int .i64 s.n, u]) 0).run Tryz.prog W = .ok (.int .i64 s.n) W := fun _ _ => by kernel_rfl
    unfold maxLen at hfm
    clear hR cfz hfi hs hFg hway hrow hx cw co s0 s1 pok hu hrok
    go_wp2_with fail
    refine Hspot.out.mono ?_
    rintro e w2 ⟨rfl, hb2⟩
    have HB2 := hide hb2
    have Hdrop := hide (drop_any (st := tick st) i hi (H1.out.below hb2) hfl)
    clear hb2 Hspot
    go_wp2_with fail
    refine Hdrop.out.mono ?_
    rintro e w3 ⟨rfl, h3, hx3, _⟩
    have H3 := hide h3
    have HX3 := hide (Hx.out.trans' ((Ext.below HB2.out).trans' hx3))
    have HF3 := hide (show ∀ k, ext F w2 w3 k → ext F w w3 k from fun k hk => by
      rcases hk with hk | hk
      · exact .inl hk
      · exact .inr ⟨by have := HB2.out.size; have := Hsz.out; omega, hk.2⟩)
    clear hx3 Hdrop
    obtain ⟨nv3, lv3, fv3, hR3⟩ := h3
    obtain ⟨g, cap, rfl, hmax, hFn, hb, hcell, hfz⟩ := hR3.nodesAt (show 0 < (mDrop (tick st) i).nodes.length from ok.pos)
    have hc0 : w3.cell? ⟨r, 0, none⟩ = some (.slice (some ⟨g, 0, none⟩) st.nodes.length cap) := hR3.c0
    obtain ⟨_, d1, _, _, _, d5⟩ := hcell s.n x HX.out
    have HR3 := hide hR3
    have HFn := hide hFn
    have b1 : (s.n : Int) < (st.nodes.length : Int) := by omega
    have b3 : (0 : Int) ≤ (s.n : Int) := by omega
    have hmax' : st.nodes.length ≤ maxLen := hmax
    unfold maxLen at hmax'
    have HBusy := hide (busy_any (F := ext F w2 w3) (r := r) (st := mDrop (tick st) i) s.n H3.out ok.pos hnod Hu.out (names_few (mDrop_ok Hpok.out.tick i) s.n))
    rw [show mBusy (mDrop (tick st) i) s.n = mBusy st s.n from rfl] at HBusy
    clear hR3 hcell hFn hb hmax
    cases hxg : x.gone with
    | true =>
      rw [hxg] at d5
      have HH := hide (show mRemove st n = (mDrop (tick st) i, 4) by rw [HD.out]; simp [removeE, hxg])
      clear hxg HD hfz
      go_wp2
      go_ret
      refine ⟨by rw [HH.out]; rfl, ?_, HX3.out⟩
      rw [HH.out]
      exact H3.out.mono HF3.out
    | false =>
      rw [hxg] at d5
      by_cases h0 : s.n = 0
      · have HH := hide (show mRemove st n = (mDrop (tick st) i, 9) by rw [HD.out]; simp [removeE, hxg, h0])
        have hq : ((s.n : Int) == 0) = true := by simp [h0]
        clear hxg HD hfz h0
        go_wp2
        go_ret
        refine ⟨by rw [HH.out]; rfl, ?_, HX3.out⟩
        rw [HH.out]
        exact H3.out.mono HF3.out
      · have hq : ((s.n : Int) == 0) = false := by simp; omega
        have H0 := hide h0
        clear h0
        go_wp2_with fail
        refine HBusy.out.mono ?_
        rintro e w4 ⟨rfl, hb4⟩
        have HB4 := hide hb4
        have e0 : w4.cell? ⟨r, 0, none⟩ = some (.slice (some ⟨g, 0, none⟩) st.nodes.length cap) := (hb4.cell (World.block_lt_of_cell? w3 _ hc0)).trans hc0
        have e1 : w4.cell? ⟨g, s.n * 6 + 1, none⟩ = some (.bool x.dir) := (hb4.cell (World.block_lt_of_cell? w3 _ d1)).trans d1
        have e5 : w4.cell? ⟨g, s.n * 6 + 5, none⟩ = some (.bool false) := (hb4.cell (World.block_lt_of_cell? w3 _ d5)).trans d5
        have z5 : w4.frozen? ⟨g, s.n * 6 + 5, none⟩ = false := (hb4.frozen (World.block_lt_of_cell? w3 ⟨g, s.n * 6 + 5, none⟩ d5)).trans (hfz _)
        have HX4 := hide (HX3.out.trans' (Ext.below hb4))
        have hz4 := hb4.size
        have HF4 := hide (show ∀ k, ext F w2 w3 k → ext F w w4 k from fun k hk => by
          rcases HF3.out k hk with hk | hk
          · exact .inl hk
          · exact .inr ⟨hk.1, by omega⟩)
        have HR4 : Hid (RefHas w4 (ext F w2 w3) r (mDrop (tick st) i) (.slice (some ⟨g, 0, none⟩) (mDrop (tick st) i).nodes.length cap) lv3 fv3) := hide (by
          have hk : KeepT (fun _ => True) (ext F w2 w3) w3 w4 := KeepT.below hb4
          have hR := HR3.out
          exact ⟨(hk r _ _ hR.own hR.blk trivial).trans hR.blk, hR.own, hR.nodes.keepT hk trivial, hR.laid.keepT hk trivial trivial, hR.fids.keepT hk trivial trivial trivial⟩)
        clear hb4 hz4 hfz hc0 d1 d5
        cases hxd : x.dir with
        | true =>
          rw [hxd] at e1
          cases hb : mBusy st s.n with
          | true =>
            have HH := hide (show mRemove st n = (mDrop (tick st) i, 10) by rw [HD.out]; simp [removeE, hxg, H0.out, hxd, hb])
            clear hxg HD hxd hb
            go_wp2
            go_ret
            refine ⟨by rw [HH.out]; rfl, ?_, HX4.out⟩
            rw [HH.out]
            exact (H3.out.below HB4.out).mono HF4.out
          | false =>
            have HH := hide (show mRemove st n = (setNode (mDrop (tick st) i) s.n (goneNd x), 0) by rw [HD.out]; simp [removeE, hxg, H0.out, hb])
            clear hxg HD hxd hb
            go_wp2
            go_ret
            refine ⟨by rw [HH.out]; rfl, ?_, HX4.out.setCell (by rcases HF4.out g HFn.out with q | q; exact .inl q; exact .inr q.1) _⟩
            rw [HH.out]
            exact RefIs.mono ⟨_, _, _, HR4.out.setNode (k := 5) (v := .bool true) (x' := goneNd x) HX.out (by omega) rfl⟩ (fun k hk => by rcases HF4.out k hk with q | q; exact .inl q; exact .inr ⟨q.1, by simpa using q.2⟩)
        | false =>
          rw [hxd] at e1
          have HH := hide (show mRemove st n = (setNode (mDrop (tick st) i) s.n (goneNd x), 0) by rw [HD.out]; simp [removeE, hxg, H0.out, hxd])
          generalize mBusy st s.n = bb
          clear hxg HD hxd
          go_wp2
          go_ret
          refine ⟨by rw [HH.out]; rfl, ?_, HX4.out.setCell (by rcases HF4.out g HFn.out with q | q; exact .inl q; exact .inr q.1) _⟩
          rw [HH.out]
          exact RefIs.mono ⟨_, _, _, HR4.out.setNode (k := 5) (v := .bool true) (x' := goneNd x) HX.out (by omega) rfl⟩ (fun k hk => by rcases HF4.out k hk with q | q; exact .inl q; exact .inr ⟨q.1, by simpa using q.2⟩)
end Go.Proofs.YtdmdgnghaceibaaGreat.P
/- Both halves: Remove. -/
namespace Go.Proofs.YtdmdgnghaceibaaGreat.P
open M Go.ChangeShapes Go.WideShapes Go.ChangeAt Go.RowKit
set_option linter.unusedVariables false

set_option maxRecDepth 20000 in
set_option maxHeartbeats 1000000 in
theorem turned_remove {w : World} {X : Nat → Prop} {b : Nat} {st : St} (k fid a bb : Int) (text : ByteArray) (yes : Bool) (ao : Option Addr) (nl nc : Nat) (h : BothIs w X b st) (ok : POk st) (T : Treed st) (hnod : st.nodes.length ≤ 1700000000000) :
    Calls Tryz.prog 65 #[.pointer (some ⟨b, 0, none⟩), .agg #[.int .i64 10, .int .i64 k, .int .i64 fid, .int .i64 a, .int .i64 bb, .string text, .bool yes, .slice ao nl nc]] w fun e w' => e = .returned (.bool true) ∧ BothIs w' X b (mRemove st fid).1 ∧ Ext X w w' := by
  obtain ⟨s, r, F, G, h⟩ := h
  have c0 := h.c0
  have c1 := h.c1
  have H := hide h
  have Hok := hide ok
  have HTr := hide T
  have HBox := hide (show ¬ F w.heap.size from fun hk => by have := (h.lo _ (.inl hk)).2; omega)
  have HbF := hide h.bF
  clear h ok T
  have u0 := fun o => up c0 o
  have u1 := fun o => up c1 o
  go_enter Tryz.func65, Tryz.ntmps65
  go_wp2
  go_cut [5] (fun s5 wc => s5 = .int .i64 (mRemove st fid).2 ∧ Ext X w wc ∧ (∃ F', TwoIs wc X b s r F' G (mRemove st fid).1 st) ∧ wc.cell? ⟨w.heap.size, 2, none⟩ = some (.int .i64 fid))
  case first =>
    go_region_with (go_at_call 21; refine (sremove_any (F := F) (st := st) fid ?_ Hok.out HTr.out).mono ?_; exact (H.out.below (((Below.refl _ w).alloc (Nat.le_refl _) _).drew)).srv; rintro e w2 ⟨rfl, hs2, hx2⟩; have HS2 := hide hs2; have HX := hide hx2; have q2 : w2.cell? ⟨w.heap.size, 2, none⟩ = some (.int .i64 fid) := ext_cell HX.out HBox.out (by simp); clear hs2 hx2)
    all_goals go_wp2
    all_goals go_meet
    all_goals
      have hT2 := (H.out.below (((Below.refl _ w).alloc (Nat.le_refl _) (.cells #[.int .i64 10, .int .i64 k, .int .i64 fid, .int .i64 a, .int .i64 bb, .string text, .bool yes, .slice ao nl nc] 57)).drew)).srvStep HS2.out HX.out
      have e1 : Ext X w ((w.alloc (.cells #[.int .i64 10, .int .i64 k, .int .i64 fid, .int .i64 a, .int .i64 bb, .string text, .bool yes, .slice ao nl nc] 57)).drew) := Ext.below (((Below.refl _ w).alloc (Nat.le_refl _) _).drew)
      have e2 := HX.out.weak (fun k hk => (H.out.lo k (.inl hk)).1)
      exact ⟨rfl, e1.trans' e2, ⟨_, hT2⟩, q2⟩
  case rest =>
    obtain ⟨rfl, hbc, ⟨F', hT⟩, q2⟩ := hcut
    have v1 := hT.c1
    have HT := hide hT
    have HBc := hide hbc
    clear hT hbc
    go_wp2
    go_region_with (go_at_call 109; refine (rremove_any (F := G) (st := st) fid ?_ Hok.out HTr.out.uniq hnod).mono ?_; exact HT.out.ref.drew; rintro e w3 ⟨rfl, hr3, hx3⟩; have HR3 := hide hr3; have HX3 := hide hx3; clear hr3 hx3)
    all_goals
      have hT3 := (HT.out.below ((Below.refl _ wc).drew)).refStep HR3.out HX3.out
      have e3 := HX3.out.weak (fun k hk => (HT.out.lo k (.inr hk)).1)
      have HT2 := hide hT3
      have HBd := hide (HBc.out.trans' (((Ext.refl X wc).drew).trans' e3))
      clear hT3 e3
      go_wp2_with (go_at_call 27; refine (num_any _ _).mono ?_; rintro e w' ⟨rfl, hw⟩; obtain rfl := hw.symm)
      go_ret
      exact ⟨by simp, ⟨s, r, _, _, HT2.out⟩, HBd.out⟩

end Go.Proofs.YtdmdgnghaceibaaGreat.P
/- The reference's 'Stat'. -/
namespace Go.Proofs.YtdmdgnghaceibaaGreat
open M Go.ChangeShapes Go.WideShapes Go.ChangeAt Go.RowKit
set_option linter.unusedVariables false

def statV (r : StatR) : Value := .agg #[.string r.name, .bool r.dir, .int .i64 r.size, .int .i64 r.version, .int .i64 r.row]

def Ends3 (w : World) (F : Nat → Prop) (r : Nat) (p : St × StatR × Int) (e : Ending) (w' : World) : Prop := e = .returned (.tuple #[statV p.2.1, .int .i64 p.2.2]) ∧ RefIs w' (ext F w w') r p.1 ∧ Ext F w w'

/-- Five cells of a block are stored one behind the other. -/
theorem five (W : World) (b : Nat) (x0 x1 x2 x3 x4 v0 v1 v2 v3 v4 : Value) (e0 : W.cell? ⟨b, 0, none⟩ = some x0) (e1 : W.cell? ⟨b, 1, none⟩ = some x1) (e2 : W.cell? ⟨b, 2, none⟩ = some x2) (e3 : W.cell? ⟨b, 3, none⟩ = some x3) (e4 : W.cell? ⟨b, 4, none⟩ = some x4) :
    (W.setCell ⟨b, 0, none⟩ v0).cell? ⟨b, 0, none⟩ = some v0 ∧ ((W.setCell ⟨b, 0, none⟩ v0).setCell ⟨b, 1, none⟩ v1).cell? ⟨b, 1, none⟩ = some v1 ∧ (((W.setCell ⟨b, 0, none⟩ v0).setCell ⟨b, 1, none⟩ v1).setCell ⟨b, 2, none⟩ v2).cell? ⟨b, 2, none⟩ = some v2 ∧
    ((((W.setCell ⟨b, 0, none⟩ v0).setCell ⟨b, 1, none⟩ v1).setCell ⟨b, 2, none⟩ v2).setCell ⟨b, 3, none⟩ v3).cell? ⟨b, 3, none⟩ = some v3 ∧ (((((W.setCell ⟨b, 0, none⟩ v0).setCell ⟨b, 1, none⟩ v1).setCell ⟨b, 2, none⟩ v2).setCell ⟨b, 3, none⟩ v3).setCell ⟨b, 4, none⟩ v4).cell? ⟨b, 4, none⟩ = some v4 := by
  have o : ∀ (X : World) (i j : Nat) (u : Value), i ≠ j → (X.setCell ⟨b, i, none⟩ u).cell? ⟨b, j, none⟩ = X.cell? ⟨b, j, none⟩ := fun X i j u h => World.cell?_setCell_other X ⟨b, i, none⟩ ⟨b, j, none⟩ u (fun e' => h (congrArg Addr.off e'))
  refine ⟨World.cell?_setCell_same W _ _ e0, World.cell?_setCell_same _ _ _ ((o _ 0 1 _ (by decide)).trans e1), World.cell?_setCell_same _ _ _ ((o _ 1 2 _ (by decide)).trans ((o _ 0 2 _ (by decide)).trans e2)),
    World.cell?_setCell_same _ _ _ ((o _ 2 3 _ (by decide)).trans ((o _ 1 3 _ (by decide)).trans ((o _ 0 3 _ (by decide)).trans e3))), World.cell?_setCell_same _ _ _ ((o _ 3 4 _ (by decide)).trans ((o _ 2 4 _ (by decide)).trans ((o _ 1 4 _ (by decide)).trans ((o _ 0 4 _ (by decide)).trans e4))))⟩

/-- The place of a Stat that was laid ahead of all, in a later world. -/
theorem stat_block {w w1 : World} {F : Nat → Prop} (hF : ∀ k, F k → k < w.heap.size) (hx : Ext F (w.alloc (.cells #[.string ⟨#[]⟩, .bool false, .int .i64 0, .int .i64 0, .int .i64 0] 39)) w1) :
    w1.heap[w.heap.size]? = some (.cells #[.string ⟨#[]⟩, .bool false, .int .i64 0, .int .i64 0, .int .i64 0] 39 (0, 0)) :=
  (hx.block w.heap.size (by simp) (fun h => by have := hF _ h; omega)).trans (heap_alloc_new w _)

theorem stat_end {w W : World} {F : Nat → Prop} {r : Nat} {st' : St} {w1 : World} (hx : Ext F w W) (hR : RefIs w1 F r st') (hb : Below w1.heap.size w1 W) (hz : w.heap.size < w1.heap.size) (hF : ∀ k, F k → k < w.heap.size) (v0 v1 v2 v3 v4 : Value) :
    RefIs (((((W.setCell ⟨w.heap.size, 0, none⟩ v0).setCell ⟨w.heap.size, 1, none⟩ v1).setCell ⟨w.heap.size, 2, none⟩ v2).setCell ⟨w.heap.size, 3, none⟩ v3).setCell ⟨w.heap.size, 4, none⟩ v4) (ext F w (((((W.setCell ⟨w.heap.size, 0, none⟩ v0).setCell ⟨w.heap.size, 1, none⟩ v1).setCell ⟨w.heap.size, 2, none⟩ v2).setCell ⟨w.heap.size, 3, none⟩ v3).setCell ⟨w.heap.size, 4, none⟩ v4)) r st' ∧
      Ext F w (((((W.setCell ⟨w.heap.size, 0, none⟩ v0).setCell ⟨w.heap.size, 1, none⟩ v1).setCell ⟨w.heap.size, 2, none⟩ v2).setCell ⟨w.heap.size, 3, none⟩ v3).setCell ⟨w.heap.size, 4, none⟩ v4) := by
  have hk : ∀ (X : World) (j : Nat) (u : Value), RefIs X F r st' → RefIs (X.setCell ⟨w.heap.size, j, none⟩ u) F r st' := fun X j u h => h.kept (fun k cur e hFk hb' _ => Below.heap_setCell X _ u k (fun e' => by have := hF k hFk; simp at e'; omega))
  refine ⟨RefIs.mono (hk _ 4 v4 (hk _ 3 v3 (hk _ 2 v2 (hk _ 1 v1 (hk _ 0 v0 (hR.below hb)))))) (fun k h => .inl h), ?_⟩
  exact ((((hx.setCell (.inr (Nat.le_refl _)) _).setCell (.inr (Nat.le_refl _)) _).setCell (.inr (Nat.le_refl _)) _).setCell (.inr (Nat.le_refl _)) _).setCell (.inr (Nat.le_refl _)) _

set_option maxRecDepth 20000 in
set_option maxHeartbeats 2000000 in
theorem stat_any {w : World} {F : Nat → Prop} {r : Nat} {st : St} (n : Int) (h : RefIs w F r st) (ok : StOk st) (hF : ∀ k, F k → k < w.heap.size) :
    Calls Tryz.prog 117 #[.pointer (some ⟨r, 0, none⟩), .int .i64 n] w fun e w' => Ends3 w F r (mStat st n) e w' := by
  cases hf : find st n with
  | none =>
    have H := hide (show mStat st n = (tick st, noStat, 2) by simp [mStat, hf])
    go_enter Tryz.func117, Tryz.ntmps117
    go_wp2_with fail
    refine (call_any n (h.alloc _)).mono ?_
    rintro e w1 ⟨rfl, h1, hx, hsz⟩
    have H1 := hide h1
    have Hx := hide hx
    have hblk := stat_block hF hx
    have s0 : w1.cell? ⟨w.heap.size, 0, none⟩ = some (.string ⟨#[]⟩) := by simp [World.cell?, hblk]
    have s1 : w1.cell? ⟨w.heap.size, 1, none⟩ = some (.bool false) := by simp [World.cell?, hblk]
    have s2 : w1.cell? ⟨w.heap.size, 2, none⟩ = some (.int .i64 0) := by simp [World.cell?, hblk]
    have s3 : w1.cell? ⟨w.heap.size, 3, none⟩ = some (.int .i64 0) := by simp [World.cell?, hblk]
    have s4 : w1.cell? ⟨w.heap.size, 4, none⟩ = some (.int .i64 0) := by simp [World.cell?, hblk]
    have sf : ∀ j, w1.frozen? ⟨w.heap.size, j, none⟩ = false := fun j => by simp [World.frozen?, hblk]
    have Hz : Hid (w.heap.size < w1.heap.size) := hide (by rw [hsz]; simp)
    rw [hf]
    clear hf h h1 hsz hx hblk
    simp only [idxV]
    go_wp2
    obtain ⟨q0, q1, q2, q3, q4⟩ := five w1 w.heap.size _ _ _ _ _ (.string ⟨#[]⟩) (.bool false) (.int .i64 0) (.int .i64 0) (.int .i64 0) s0 s1 s2 s3 s4
    have hend := stat_end (((Ext.refl F w).alloc _).trans' Hx.out) H1.out (Below.refl _ _) Hz.out hF (.string ⟨#[]⟩) (.bool false) (.int .i64 0) (.int .i64 0) (.int .i64 0)
    refine bodyPost_ret (v := .tuple #[statV noStat, .int .i64 2]) (by simp [results, Tryz.results117, go_sem, q0, q1, q2, q3, q4, statV, noStat]) rfl ?_
    unfold Ends3
    rw [H.out]
    exact ⟨rfl, hend⟩
  | some i =>
    obtain ⟨f, hfi, _⟩ := find_some hf
    have hi := M.lt_of_getElem? hfi
    obtain ⟨s, hs, hsn, hrok, hno⟩ := ok.last (List.mem_of_getElem? hfi)
    obtain ⟨x, hx⟩ := getElem?_of_lt hsn
    have H := hide (show mStat st n = if x.gone then (tick st, noStat, (4 : Int)) else if x.dir then (tick st, ⟨x.name, true, 0, 0, liveRow st s.row⟩, 0) else (tick st, ⟨x.name, false, x.data.size, x.version, 0⟩, 0) by simp only [mStat, hf, hfi, hs, hx])
    have i0 : (0 : Int) ≤ (i : Int) := by omega
    have i1 : (i : Int) < (st.fids.length : Int) := by omega
    go_enter Tryz.func117, Tryz.ntmps117
    go_wp2_with fail
    refine (call_any n (h.alloc _)).mono ?_
    rintro e w1 ⟨rfl, h1, hx1, hsz⟩
    have H1 := hide h1
    have Hx := hide hx1
    have hblk := stat_block hF hx1
    have Hblk := hide hblk
    have Hz : Hid (w.heap.size < w1.heap.size) := hide (by rw [hsz]; simp)
    rw [hf]
    clear hf h hsz hx1
    simp only [idxV]
    obtain ⟨nv, lv, fv, hR⟩ := h1
    obtain ⟨g, cap, rfl, hmax, _, _, hcell, hfz⟩ := hR.nodesAt ok.pos
    obtain ⟨fg, fcap, wv, rfl, hfm, _, _, hway, _, cw, co, _⟩ := FidsIs.at (fids := st.fids) hR.fids i f hfi
    obtain ⟨gw, wcap, rao, rc, rfl, hwpos, hwmax, hrow, t0, t1⟩ := hway.last s hs
    have c2 := hR.c2
    have hc0 : w1.cell? ⟨r, 0, none⟩ = some (.slice (some ⟨g, 0, none⟩) st.nodes.length cap) := hR.c0
    obtain ⟨x0, x1, _, x3, x4, x5⟩ := hcell s.n x hx
    have Hrow := hide hrow
    have Hnode := hide (node_any (st := tick st) i f s hfi hs hsn H1.out)
    have Hspot := hide (fun (W : World) (a1 : W.cell? ⟨fg, i * 3 + 1, none⟩ = some (.slice (some ⟨gw, 0, none⟩) f.way.length wcap)) (a2 : W.cell? ⟨gw, (f.way.length - 1) * 2, none⟩ = some (.int .i64 s.n)) (a3 : W.cell? ⟨gw, (f.way.length - 1) * 2 + 1, none⟩ = some (.slice rao s.row.length rc)) => spot_core fg (i * 3) gw f.way.length wcap s.n rao s.row.length rc W hwpos hwmax a1 a2 a3)
    have Hrok := hide hrok
    unfold maxLen at hmax hfm
    clear hR hcell hfz hx hfi hs hway hrow
    go_wp2_with fail
    refine Hnode.out.mono ?_
    rintro e w2 ⟨g', cap', hcc, rfl, hb2⟩
    have hgg : g' = g := by rw [hc0] at hcc; simp at hcc; exact hcc.1.symm
    subst hgg
    have HB2 := hide hb2
    have hblk2 := (hb2.block w.heap.size (by have := Hz.out; omega)).trans Hblk.out
    have s0 : w2.cell? ⟨w.heap.size, 0, none⟩ = some (.string ⟨#[]⟩) := (by simp [World.cell?, hblk2])
    have s1 : w2.cell? ⟨w.heap.size, 1, none⟩ = some (.bool false) := (by simp [World.cell?, hblk2])
    have s2 : w2.cell? ⟨w.heap.size, 2, none⟩ = some (.int .i64 0) := (by simp [World.cell?, hblk2])
    have s3 : w2.cell? ⟨w.heap.size, 3, none⟩ = some (.int .i64 0) := (by simp [World.cell?, hblk2])
    have s4 : w2.cell? ⟨w.heap.size, 4, none⟩ = some (.int .i64 0) := (by simp [World.cell?, hblk2])
    have sf : ∀ j, w2.frozen? ⟨w.heap.size, j, none⟩ = false := (fun j => by simp [World.frozen?, hblk2])
    have y0 : w2.cell? ⟨g', s.n * 6, none⟩ = some (.string x.name) := (hb2.cell (World.block_lt_of_cell? w1 _ x0)).trans x0
    have y1 : w2.cell? ⟨g', s.n * 6 + 1, none⟩ = some (.bool x.dir) := (hb2.cell (World.block_lt_of_cell? w1 _ x1)).trans x1
    have y3 : w2.cell? ⟨g', s.n * 6 + 3, none⟩ = some (.string x.data) := (hb2.cell (World.block_lt_of_cell? w1 _ x3)).trans x3
    have y4 : w2.cell? ⟨g', s.n * 6 + 4, none⟩ = some (.int .i64 x.version) := (hb2.cell (World.block_lt_of_cell? w1 _ x4)).trans x4
    have y5 : w2.cell? ⟨g', s.n * 6 + 5, none⟩ = some (.bool x.gone) := (hb2.cell (World.block_lt_of_cell? w1 _ x5)).trans x5
    have z2 : w2.cell? ⟨r, 2, none⟩ = some (.slice (some ⟨fg, 0, none⟩) st.fids.length fcap) := (hb2.cell (World.block_lt_of_cell? w1 _ c2)).trans c2
    have zw : w2.cell? ⟨fg, i * 3 + 1, none⟩ = some (.slice (some ⟨gw, 0, none⟩) f.way.length wcap) := (hb2.cell (World.block_lt_of_cell? w1 _ cw)).trans cw
    have zt0 : w2.cell? ⟨gw, (f.way.length - 1) * 2, none⟩ = some (.int .i64 s.n) := (hb2.cell (World.block_lt_of_cell? w1 _ t0)).trans t0
    have zt1 : w2.cell? ⟨gw, (f.way.length - 1) * 2 + 1, none⟩ = some (.slice rao s.row.length rc) := (hb2.cell (World.block_lt_of_cell? w1 _ t1)).trans t1
    clear hb2 hcc hblk hblk2 x0 x1 x3 x4 x5 cw co t0 t1 c2
    cases hxg : x.gone with
    | true =>
      rw [hxg] at y5 H
      go_wp2
      obtain ⟨q0, q1, q2, q3, q4⟩ := five w2 w.heap.size _ _ _ _ _ (.string ⟨#[]⟩) (.bool false) (.int .i64 0) (.int .i64 0) (.int .i64 0) s0 s1 s2 s3 s4
      have hend := stat_end ((((Ext.refl F w).alloc _).trans' Hx.out).trans' (Ext.below HB2.out)) H1.out HB2.out Hz.out hF (.string ⟨#[]⟩) (.bool false) (.int .i64 0) (.int .i64 0) (.int .i64 0)
      refine bodyPost_ret (v := .tuple #[statV noStat, .int .i64 4]) (by simp [results, Tryz.results117, go_sem, q0, q1, q2, q3, q4, statV, noStat]) rfl ?_
      unfold Ends3
      rw [H.out]
      exact ⟨rfl, hend⟩
    | false =>
      rw [hxg] at y5 H
      cases hxd : x.dir with
      | false =>
        rw [hxd] at y1 H
        go_wp2
        go_region
        go_wp2
        obtain ⟨q0, q1, q2, q3, q4⟩ := five w2 w.heap.size _ _ _ _ _ (.string x.name) (.bool false) (.int .i64 x.data.size) (.int .i64 x.version) (.int .i64 0) s0 s1 s2 s3 s4
        have hend := stat_end ((((Ext.refl F w).alloc _).trans' Hx.out).trans' (Ext.below HB2.out)) H1.out HB2.out Hz.out hF (.string x.name) (.bool false) (.int .i64 x.data.size) (.int .i64 x.version) (.int .i64 0)
        refine bodyPost_ret (v := .tuple #[statV ⟨x.name, false, x.data.size, x.version, 0⟩, .int .i64 0]) (by simp [results, Tryz.results117, go_sem, q0, q1, q2, q3, q4, statV]) rfl ?_
        unfold Ends3
        rw [H.out]
        exact ⟨rfl, hend.1.drew, hend.2.drew⟩
      | true =>
        rw [hxd] at y1 H
        have hfd : ∀ (W : World), (Instr.field 212 (.agg #[.int .i64 s.n, .slice rao s.row.length rc]) 1).run Tryz.prog W = .ok (.slice rao s.row.length rc) W := fun _ => by kernel_rfl
        have Hs0 := hide s0
        clear s0 s1 s2 s3 s4 sf
        go_wp2
        go_region_with (first
          | (go_at_call 142; refine (Hspot.out _ ?_ ?_ ?_).mono ?_; exact zw; exact zt0; exact zt1; rintro e w3 ⟨rfl, hb3⟩; have HB3 : Hid (Below w1.heap.size w1 w3) := hide (HB2.out.trans ((((Below.refl _ w2).drew).trans hb3).mono HB2.out.size)); have y03 : w3.cell? ⟨g', s.n * 6, none⟩ = some (.string x.name) := (hb3.cell (World.block_lt_of_cell? w2 _ y0)).trans y0; clear hb3)
          | (go_at_call 153; refine (live_any (F := F) (st := tick st) s.row (.slice rao s.row.length rc) ?_ ok.pos ?_ Hrok.out).mono ?_; exact H1.out.below HB3.out; exact Hrow.out.keepT (KeepT.below (T := fun _ => True) HB3.out) trivial; rintro e w4 ⟨rfl, hb4⟩; have HB4 : Hid (Below w1.heap.size w1 w4) := hide (HB3.out.trans (hb4.mono HB3.out.size)); have y04 : w4.cell? ⟨g', s.n * 6, none⟩ = some (.string x.name) := (hb4.cell (World.block_lt_of_cell? w3 _ y03)).trans y03; have hblk4 := (HB4.out.block w.heap.size Hz.out).trans Hblk.out; have s0 : w4.cell? ⟨w.heap.size, 0, none⟩ = some (.string ⟨#[]⟩) := (by simp [World.cell?, hblk4]); have s1 : w4.cell? ⟨w.heap.size, 1, none⟩ = some (.bool false) := (by simp [World.cell?, hblk4]); have s2 : w4.cell? ⟨w.heap.size, 2, none⟩ = some (.int .i64 0) := (by simp [World.cell?, hblk4]); have s3 : w4.cell? ⟨w.heap.size, 3, none⟩ = some (.int .i64 0) := (by simp [World.cell?, hblk4]); have s4 : w4.cell? ⟨w.heap.size, 4, none⟩ = some (.int .i64 0) := (by simp [World.cell?, hblk4]); have sf : ∀ j, w4.frozen? ⟨w.heap.size, j, none⟩ = false := (fun j => by simp [World.frozen?, hblk4]); clear hb4 hblk4))
        all_goals
          go_wp2
          obtain ⟨q0, q1, q2, q3, q4⟩ := five w4 w.heap.size _ _ _ _ _ (.string x.name) (.bool true) (.int .i64 0) (.int .i64 0) (.int .i64 (liveRow (tick st) s.row)) s0 s1 s2 s3 s4
          have hend := stat_end ((((Ext.refl F w).alloc _).trans' Hx.out).trans' (Ext.below HB4.out)) H1.out HB4.out Hz.out hF (.string x.name) (.bool true) (.int .i64 0) (.int .i64 0) (.int .i64 (liveRow (tick st) s.row))
          refine bodyPost_ret (v := .tuple #[statV ⟨x.name, true, 0, 0, liveRow (tick st) s.row⟩, .int .i64 0]) (by simp [results, Tryz.results117, go_sem, q0, q1, q2, q3, q4, statV]) rfl ?_
          unfold Ends3
          rw [H.out]
          exact ⟨rfl, hend⟩
end Go.Proofs.YtdmdgnghaceibaaGreat
/- Both halves: Stat. -/
namespace Go.Proofs.YtdmdgnghaceibaaGreat.P
open M Go.ChangeShapes Go.WideShapes Go.ChangeAt Go.RowKit
set_option linter.unusedVariables false

theorem mStat_tick (st : St) (n : Int) : (mStat st n).1 = tick st := by
  unfold mStat
  split
  · rfl
  · split
    · rfl
    · split
      · rfl
      · split
        · rfl
        · split
          · rfl
          · split <;> rfl

set_option maxRecDepth 20000 in
set_option maxHeartbeats 4000000 in
theorem stated_any {w : World} {X : Nat → Prop} {b : Nat} {st : St} (fid : Int) (h : BothIs w X b st) (ok : POk st) (hsm : ∀ x ∈ st.nodes, x.data.size ≤ 300) :
    Calls Tryz.prog 70 #[.pointer (some ⟨b, 0, none⟩), .int .i64 fid] w fun e w' => e = .returned (.bool true) ∧ BothIs w' X b (mStat st fid).1 ∧ Ext X w w' := by
  obtain ⟨s, r, F, G, h⟩ := h
  have c0 := h.c0
  have c1 := h.c1
  have H := hide h
  have Hok := hide ok
  have Hsm := hide hsm
  obtain ⟨⟨name, dir, size, ver, row⟩, hR⟩ : ∃ R, (mStat st fid).2.1 = R := ⟨_, rfl⟩
  obtain ⟨er, hE⟩ : ∃ er, (mStat st fid).2.2 = er := ⟨_, rfl⟩
  obtain ⟨st2, hS⟩ : ∃ st2, (mStat st fid).1 = st2 := ⟨_, rfl⟩
  have HM := hide (show mStat st fid = (st2, ⟨name, dir, size, ver, row⟩, er) by rw [← hR, ← hE, ← hS])
  rw [hS]
  clear h ok hsm hR hE hS
  go_enter Tryz.func70, Tryz.ntmps70
  go_wp2_with fail
  refine (stat_any (F := F) (st := st) fid H.out.srv Hok.out (fun k hk => (H.out.lo k (.inl hk)).2) (fun x hx => Nat.le_trans (Hsm.out x hx) (by decide))).mono ?_
  rintro e w2 he2
  rw [HM.out] at he2
  obtain ⟨rfl, hs2, hx2⟩ := he2
  have hT := H.out.srvStep hs2 hx2
  have v1 := fun o => up hT.c1 o
  have HT := hide hT
  have HBc := hide (hx2.weak (fun k hk => (H.out.lo k (.inl hk)).1))
  have HG := hide (show ¬ G w2.heap.size from fun hk => by have := (HT.out.lo _ (.inr hk)).2; omega)
  clear hs2 hx2 hT
  simp only [pStatV]
  go_wp2_with fail
  refine (Go.Proofs.YtdmdgnghaceibaaGreat.stat_any (F := G) (st := st) fid (HT.out.below ((Below.refl _ w2).alloc (Nat.le_refl _) _)).ref Hok.out.stOk (fun k hk => by have := (HT.out.lo k (.inr hk)).2; simp; omega)).mono ?_
  rintro e w3 he3
  rw [HM.out] at he3
  obtain ⟨rfl, hr3, hx3⟩ := he3
  have p0 := fun o => up (ext_cell hx3 HG.out (j := 0) (v := .string name) (by simp)) o
  have p1 := fun o => up (ext_cell hx3 HG.out (j := 1) (v := .bool dir) (by simp)) o
  have p2 := fun o => up (ext_cell hx3 HG.out (j := 2) (v := .int .i64 size) (by simp)) o
  have p3 := fun o => up (ext_cell hx3 HG.out (j := 3) (v := .int .i64 ver) (by simp)) o
  have p4 := fun o => up (ext_cell hx3 HG.out (j := 4) (v := .int .i64 row) (by simp)) o
  have HT2 := hide ((HT.out.below ((Below.refl _ w2).alloc (Nat.le_refl _) _)).refStep hr3 hx3)
  have HBd := hide (HBc.out.trans' ((Ext.below ((Below.refl _ w2).alloc (Nat.le_refl _) _)).trans' (hx3.weak (fun k hk => (HT.out.lo k (.inr hk)).1))))
  have q0 : (name.toList == name.toList) = true := by simp
  have q1 : (dir == dir) = true := by simp
  have q2 : (size == size) = true := by simp
  have q3 : (ver == ver) = true := by simp
  have q4 : (row == row) = true := by simp
  have q5 : (er == er) = true := by simp
  clear hr3 hx3
  simp only [statV]
  go_wp2_with (go_at_call 27; refine (num_any _ _).mono ?_; rintro e w' ⟨rfl, hw⟩; obtain rfl := hw.symm)
  go_ret
  exact ⟨by simp, ⟨s, r, _, _, HT2.out.below ((Below.refl _ w3).alloc (Nat.le_refl _) _)⟩, HBd.out.trans' (Ext.below ((Below.refl _ w3).alloc (Nat.le_refl _) _))⟩
end Go.Proofs.YtdmdgnghaceibaaGreat.P
/- Both halves: Write. -/
namespace Go.Proofs.YtdmdgnghaceibaaGreat.P
open M Go.ChangeShapes Go.WideShapes Go.ChangeAt Go.RowKit
set_option linter.unusedVariables false

theorem SrcIs.below {w w2 : World} {size : Nat} {v : Value} {news : List (List Value)} (h : SrcIs w size v news) (hb : Below w.heap.size w w2) : SrcIs w2 size v news := by
  obtain ⟨h1, h2, h3⟩ := h
  refine ⟨h1, h2, ?_⟩
  rcases h3 with h3 | ⟨ad, c, rfl, hc⟩
  · exact .inl h3
  · exact .inr ⟨ad, c, rfl, fun j u hj => (hb.cell (World.block_lt_of_cell? w _ (hc j u hj))).trans (hc j u hj)⟩

set_option maxRecDepth 20000 in
set_option maxHeartbeats 4000000 in
theorem written_any {w : World} {X : Nat → Prop} {b : Nat} {st : St} (k fid a bb : Int) (text : ByteArray) (yes : Bool) (ao : Option Addr) (nl nc : Nat) (ad : Option Addr) (cd : Nat) (h : BothIs w X b st) (ok : POk st) (hsm : ∀ x ∈ st.nodes, x.data.size ≤ 300) (ha : a ≤ 9223372036854775807) (ht : text.size ≤ 140737488355328)
    (hsrc : SrcIs w 1 (.slice ad text.size cd) (byteCells text)) (hap : ∀ q, ad = some q → 0 < text.size → ¬ X q.block) :
    Calls Tryz.prog 68 #[.pointer (some ⟨b, 0, none⟩), .agg #[.int .i64 7, .int .i64 k, .int .i64 fid, .int .i64 a, .int .i64 bb, .string text, .bool yes, .slice ao nl nc], .slice ad text.size cd] w fun e w' => e = .returned (.bool true) ∧ BothIs w' X b (mWrite st fid a text).1 ∧ Ext X w w' := by
  obtain ⟨s, r, F, G, h⟩ := h
  have c0 := h.c0
  have c1 := h.c1
  have H := hide h
  have Hok := hide ok
  have Hsm := hide hsm
  have Hsrc := hide hsrc
  have HbF := hide h.bF
  have HbG := hide h.bG
  have HBoxG := hide (show ¬ G w.heap.size from fun hk => by have := (h.lo _ (.inr hk)).2; omega)
  have HBox := hide (show ¬ F w.heap.size from fun hk => by have := (h.lo _ (.inl hk)).2; omega)
  obtain ⟨nr, hR⟩ : ∃ R, (mWrite st fid a text).2.1 = R := ⟨_, rfl⟩
  obtain ⟨er, hE⟩ : ∃ er, (mWrite st fid a text).2.2 = er := ⟨_, rfl⟩
  obtain ⟨st2, hS⟩ : ∃ st2, (mWrite st fid a text).1 = st2 := ⟨_, rfl⟩
  have HM := hide (show mWrite st fid a text = (st2, nr, er) by rw [← hR, ← hE, ← hS])
  rw [hS]
  clear h ok hsm hR hE hS hsrc
  have u0 := fun o => up c0 o
  have u1 := fun o => up c1 o
  obtain ⟨W0, hW0⟩ : ∃ W0, W0 = (w.alloc (.cells #[.int .i64 7, .int .i64 k, .int .i64 fid, .int .i64 a, .int .i64 bb, .string text, .bool yes, .slice ao nl nc] 57)) := ⟨_, rfl⟩
  have HW0 := hide hW0
  have HB0 := hide (show Below w.heap.size w W0 by rw [hW0]; exact (Below.refl _ w).alloc (Nat.le_refl _) _)
  have HZ0 := hide (show W0.heap.size = w.heap.size + 1 by rw [hW0]; simp)
  go_enter Tryz.func68, Tryz.ntmps68
  go_wp2
  rw [← HW0.out]
  have v0 : W0.cell? ⟨b, 0, none⟩ = some (.pointer (some ⟨s, 0, none⟩)) := by rw [hW0]; exact u0 _
  have v1 : W0.cell? ⟨b, 1, none⟩ = some (.pointer (some ⟨r, 0, none⟩)) := by rw [hW0]; exact u1 _
  have x2 : W0.cell? ⟨w.heap.size, 2, none⟩ = some (.int .i64 fid) := by rw [hW0]; simp
  have x3 : W0.cell? ⟨w.heap.size, 3, none⟩ = some (.int .i64 a) := by rw [hW0]; simp
  have x5 : W0.cell? ⟨w.heap.size, 5, none⟩ = some (.string text) := by rw [hW0]; simp
  have Hap : Hid (∀ ad' n c, Value.slice ad text.size cd = .slice (some ad') n c → 0 < n → ¬ F ad'.block) := hide (fun ad' n c e hn hF => by
    simp only [Value.slice.injEq] at e
    obtain ⟨e1, rfl, _⟩ := e
    exact hap ad' e1 hn (H.out.lo _ (.inl hF)).1)
  clear hW0 u0 u1 hap
  go_cut [7, 8] (fun s7 s8 wc => s7 = .int .i64 nr ∧ s8 = .int .i64 er ∧ Ext X w wc ∧ (∃ F', TwoIs wc X b s r F' G st2 st) ∧ wc.cell? ⟨w.heap.size, 2, none⟩ = some (.int .i64 fid) ∧ wc.cell? ⟨w.heap.size, 3, none⟩ = some (.int .i64 a) ∧ wc.cell? ⟨w.heap.size, 5, none⟩ = some (.string text))
  case first =>
    go_region_held3 (fun ww => ww.cell? ⟨b, 0, none⟩ = some (.pointer (some ⟨s, 0, none⟩)) ∧ ww.cell? ⟨w.heap.size, 2, none⟩ = some (.int .i64 fid) ∧ ww.cell? ⟨w.heap.size, 3, none⟩ = some (.int .i64 a) ∧ ww.cell? ⟨w.heap.size, 5, none⟩ = some (.string text)) (go_keep) (first | (go_at_call 18; refine (swrite_any (F := F) (st := st) fid a ha _ text ?_ Hok.out ?_ Hap.out ht ?_).mono ?_; exact (H.out.below HB0.out.drew).srv; exact SrcIs.below Hsrc.out HB0.out.drew; exact (fun x hx => Nat.le_trans (Hsm.out x hx) (by decide)); rintro e w2 he2; rw [HM.out] at he2; obtain ⟨rfl, hs2, hx2⟩ := he2; have HS2 := hide hs2; have HX := hide hx2; have q0 : w2.cell? ⟨b, 0, none⟩ = some (.pointer (some ⟨s, 0, none⟩)) := ext_cell HX.out HbF.out v0; have q2 : w2.cell? ⟨w.heap.size, 2, none⟩ = some (.int .i64 fid) := ext_cell HX.out HBox.out x2; have q3 : w2.cell? ⟨w.heap.size, 3, none⟩ = some (.int .i64 a) := ext_cell HX.out HBox.out x3; have q5 : w2.cell? ⟨w.heap.size, 5, none⟩ = some (.string text) := ext_cell HX.out HBox.out x5; clear hs2 hx2))
    all_goals go_wp2
    all_goals go_meet
    all_goals
      have hT2 := (H.out.below HB0.out.drew).srvStep HS2.out HX.out
      have e1 : Ext X w W0.drew := Ext.below HB0.out.drew
      have e2 := HX.out.weak (fun k hk => (H.out.lo k (.inl hk)).1)
      exact ⟨rfl, rfl, e1.trans' e2, ⟨_, hT2⟩, q2, q3, q5⟩
  case rest =>
    obtain ⟨rfl, rfl, hbc, ⟨F', hT⟩, q2, q3, q5⟩ := hcut
    have v1 := hT.c1
    have HT := hide hT
    have HBc := hide hbc
    clear hT hbc
    go_wp2
    go_cut [9, 10] (fun s9 s10 wd => s9 = .int .i64 nr ∧ s10 = .int .i64 er ∧ Ext X w wd ∧ ∃ F' G', TwoIs wd X b s r F' G' st2 st2)
    case first =>
      go_region_held3 (fun ww => ww.cell? ⟨b, 1, none⟩ = some (.pointer (some ⟨r, 0, none⟩)) ∧ ww.cell? ⟨w.heap.size, 2, none⟩ = some (.int .i64 fid) ∧ ww.cell? ⟨w.heap.size, 3, none⟩ = some (.int .i64 a) ∧ ww.cell? ⟨w.heap.size, 5, none⟩ = some (.string text)) (go_keep) (first | (go_at_call 114; refine (Go.Proofs.YtdmdgnghaceibaaGreat.write_any (F := G) (st := st) fid a text ?_ Hok.out.stOk Hsm.out ht).mono ?_; exact HT.out.ref.drew; rintro e w3 he3; rw [HM.out] at he3; obtain ⟨rfl, hr3, hx3⟩ := he3; have HR3 := hide hr3; have HX3 := hide hx3; have p1 : w3.cell? ⟨b, 1, none⟩ = some (.pointer (some ⟨r, 0, none⟩)) := ext_cell hx3 HbG.out v1; have p2 : w3.cell? ⟨w.heap.size, 2, none⟩ = some (.int .i64 fid) := ext_cell hx3 HBoxG.out q2; have p3 : w3.cell? ⟨w.heap.size, 3, none⟩ = some (.int .i64 a) := ext_cell hx3 HBoxG.out q3; have p5 : w3.cell? ⟨w.heap.size, 5, none⟩ = some (.string text) := ext_cell hx3 HBoxG.out q5; clear hr3 hx3))
      all_goals go_wp2
      all_goals go_meet
      all_goals
        have hT3 := (HT.out.below ((Below.refl _ wc).drew)).refStep HR3.out HX3.out
        have e3 := HX3.out.weak (fun k hk => (HT.out.lo k (.inr hk)).1)
        exact ⟨rfl, rfl, HBc.out.trans' (((Ext.refl X wc).drew).trans' e3), _, _, hT3⟩
    case rest =>
      obtain ⟨rfl, rfl, hbd, F2, G2, hT⟩ := hcut
      have HT2 := hide hT
      have HBd := hide hbd
      clear hT hbd
      go_wp2_with (go_at_call 27; refine (num_any _ _).mono ?_; rintro e w' ⟨rfl, hw⟩; obtain rfl := hw.symm)
      go_ret
      exact ⟨by simp, ⟨s, r, F2, G2, HT2.out⟩, HBd.out⟩
end Go.Proofs.YtdmdgnghaceibaaGreat.P
/- One step of a script, over both halves: Read, Write, List, Stat, Remove. -/
namespace Go.Proofs.YtdmdgnghaceibaaGreat.P
open M Go.ChangeShapes Go.WideShapes Go.ChangeAt Go.RowKit
set_option linter.unusedVariables false

theorem BothIs.more {w : World} {X Y : Nat → Prop} {b : Nat} {st : St} (h : BothIs w X b st) (hX : ∀ k, X k → Y k) : BothIs w Y b st := by
  obtain ⟨s, r, F, G, h⟩ := h
  exact ⟨s, r, F, G, h.less (fun k hk => hX k (h.lo k hk).1) (fun k hk => hX k (h.up k hk))⟩

set_option maxRecDepth 20000 in
set_option maxHeartbeats 1000000 in
theorem step_remove {w : World} {X : Nat → Prop} {b : Nat} {st : St} (k fid a bb : Int) (text : ByteArray) (yes : Bool) (ao : Option Addr) (nl nc : Nat) (h : BothIs w X b st) (ok : POk st) (T : Treed st) (hnod : st.nodes.length ≤ 1700000000000) :
    Calls Tryz.prog 29 #[.pointer (some ⟨b, 0, none⟩), .agg #[.int .i64 10, .int .i64 k, .int .i64 fid, .int .i64 a, .int .i64 bb, .string text, .bool yes, .slice ao nl nc]] w fun e w' => e = .returned (.bool true) ∧ BothIs w' X b (mRemove st fid).1 ∧ Ext X w w' := by
  have HC := hide (turned_remove k fid a bb text yes ao nl nc (h.below ((Below.refl _ w).alloc (Nat.le_refl _) (.cells #[.int .i64 10, .int .i64 k, .int .i64 fid, .int .i64 a, .int .i64 bb, .string text, .bool yes, .slice ao nl nc] 57))) ok T hnod)
  clear h T
  go_enter Tryz.func29, Tryz.ntmps29
  go_wp2_with (go_at_call 65; refine HC.out.mono ?_; rintro e w2 ⟨rfl, h2, hb2⟩; have H2 := hide h2; have HB2 := hide hb2; clear h2 hb2)
  go_ret
  exact ⟨rfl, H2.out, (Ext.below ((Below.refl _ w).alloc (Nat.le_refl _) _)).trans' HB2.out⟩

set_option maxRecDepth 20000 in
set_option maxHeartbeats 1000000 in
theorem step_stat {w : World} {X : Nat → Prop} {b : Nat} {st : St} (k fid a bb : Int) (text : ByteArray) (yes : Bool) (ao : Option Addr) (nl nc : Nat) (h : BothIs w X b st) (ok : POk st) (hsm : ∀ x ∈ st.nodes, x.data.size ≤ 300) :
    Calls Tryz.prog 29 #[.pointer (some ⟨b, 0, none⟩), .agg #[.int .i64 9, .int .i64 k, .int .i64 fid, .int .i64 a, .int .i64 bb, .string text, .bool yes, .slice ao nl nc]] w fun e w' => e = .returned (.bool true) ∧ BothIs w' X b (tick st) ∧ Ext X w w' := by
  have HC := hide (stated_any fid (h.below ((Below.refl _ w).alloc (Nat.le_refl _) (.cells #[.int .i64 9, .int .i64 k, .int .i64 fid, .int .i64 a, .int .i64 bb, .string text, .bool yes, .slice ao nl nc] 57))) ok hsm)
  rw [mStat_tick] at HC
  clear h hsm
  go_enter Tryz.func29, Tryz.ntmps29
  go_wp2_with (go_at_call 70; refine HC.out.mono ?_; rintro e w2 ⟨rfl, h2, hb2⟩; have H2 := hide h2; have HB2 := hide hb2; clear h2 hb2)
  go_ret
  exact ⟨rfl, H2.out, (Ext.below ((Below.refl _ w).alloc (Nat.le_refl _) _)).trans' HB2.out⟩

set_option maxRecDepth 20000 in
set_option maxHeartbeats 1000000 in
theorem step_read {w : World} {X : Nat → Prop} {b : Nat} {st : St} (k fid a bb : Int) (text : ByteArray) (yes : Bool) (ao : Option Addr) (nl nc : Nat) (h : BothIs w X b st) (ok : POk st) (hsm : ∀ x ∈ st.nodes, x.data.size ≤ 300) :
    Calls Tryz.prog 29 #[.pointer (some ⟨b, 0, none⟩), .agg #[.int .i64 6, .int .i64 k, .int .i64 fid, .int .i64 a, .int .i64 bb, .string text, .bool yes, .slice ao nl nc]] w fun e w' => e = .returned (.bool true) ∧ BothIs w' X b (tick st) ∧ Ext X w w' := by
  have HC := hide (bread_any k fid a bb text yes ao nl nc (h.below ((Below.refl _ w).alloc (Nat.le_refl _) (.cells #[.int .i64 6, .int .i64 k, .int .i64 fid, .int .i64 a, .int .i64 bb, .string text, .bool yes, .slice ao nl nc] 57))) ok hsm)
  rw [mRead_tick] at HC
  clear h hsm
  go_enter Tryz.func29, Tryz.ntmps29
  go_wp2_with (go_at_call 67; refine HC.out.mono ?_; rintro e w2 ⟨vo, vn, vc, rfl, _, _, h2, hb2⟩; have H2 := hide (h2.more (fun k hk => hk.1)); have HB2 := hide hb2; clear h2 hb2)
  go_ret
  exact ⟨rfl, H2.out, (Ext.below ((Below.refl _ w).alloc (Nat.le_refl _) _)).trans' HB2.out⟩

set_option maxRecDepth 20000 in
set_option maxHeartbeats 1000000 in
theorem step_list {w : World} {X : Nat → Prop} {b : Nat} {st : St} (k fid a bb : Int) (text : ByteArray) (yes : Bool) (ao : Option Addr) (nl nc : Nat) (h : BothIs w X b st) (ok : POk st) (hu : UniqL st.nodes) (hnod : st.nodes.length ≤ 1700000000000) :
    Calls Tryz.prog 29 #[.pointer (some ⟨b, 0, none⟩), .agg #[.int .i64 8, .int .i64 k, .int .i64 fid, .int .i64 a, .int .i64 bb, .string text, .bool yes, .slice ao nl nc]] w fun e w' => e = .returned (.bool true) ∧ BothIs w' X b (tick st) ∧ Ext X w w' := by
  have HC := hide (blist_any k fid a bb text yes ao nl nc (h.below ((Below.refl _ w).alloc (Nat.le_refl _) (.cells #[.int .i64 8, .int .i64 k, .int .i64 fid, .int .i64 a, .int .i64 bb, .string text, .bool yes, .slice ao nl nc] 57))) ok hu hnod)
  rw [mList_tick] at HC
  clear h hu
  go_enter Tryz.func29, Tryz.ntmps29
  go_wp2_with (go_at_call 69; refine HC.out.mono ?_; rintro e w2 ⟨vo, vc, rfl, _, _, h2, hb2⟩; have H2 := hide (h2.more (fun k hk => hk.1)); have HB2 := hide hb2; clear h2 hb2)
  go_ret
  exact ⟨rfl, H2.out, (Ext.below ((Below.refl _ w).alloc (Nat.le_refl _) _)).trans' HB2.out⟩

/-- '[]byte(s)' of a text. -/
theorem bytes_laid (w : World) (s : ByteArray) : ∃ c o, (convert 9 31 (.string s)).run Tryz.prog w = .ok (.slice (some ⟨w.heap.size, 0, none⟩) s.size c) (w.drew.alloc o) ∧ SrcIs (w.drew.alloc o) 1 (.slice (some ⟨w.heap.size, 0, none⟩) s.size c) (byteCells s) := by
  refine ⟨_, _, run_bytes_of_string w 9 31 5 s Tryz.underlying9 Tryz.underlying31 Tryz.underlying5, bytes_one s, ?_, .inr ⟨_, _, by rw [len_bytes], fun j u hj => ?_⟩⟩
  · intro r hr u hu
    unfold byteCells at hr
    obtain ⟨c, _, rfl⟩ := List.mem_map.1 hr
    simp at hu
    subst hu
    rfl
  · rw [Addr.add_lit]
    have hz : w.drew.heap.size = w.heap.size := rfl
    have hb := heap_alloc_new w.drew (.cells (bytesRow s (grownCap w s.size 0 5)) 5 ((bytesRow s (grownCap w s.size 0 5)).size, (bytesRow s (grownCap w s.size 0 5)).size + 1))
    rw [hz] at hb
    have hfl : (byteCells s).flatten = s.data.toList.map (fun b => Value.int .u8 b.toNat) := by
      unfold byteCells
      generalize s.data.toList = l
      induction l with
      | nil => rfl
      | cons c l ih => simp only [List.map_cons, List.flatten_cons, ih]; rfl
    rw [hfl] at hj
    have hjl : j < s.size := by have := M.lt_of_getElem? hj; simpa using this
    simp only [World.cell?, hb]
    have hbr : (bytesRow s (grownCap w s.size 0 5))[j]? = some u := by
      unfold bytesRow
      rw [Array.getElem?_append_left (by simpa using hjl)]
      rw [← Array.getElem?_toList, Array.toList_map]
      exact hj
    rw [Nat.zero_add]
    simp [hbr]

set_option maxRecDepth 20000 in
set_option maxHeartbeats 1000000 in
theorem step_write {w : World} {X : Nat → Prop} {b : Nat} {st : St} (k fid a bb : Int) (text : ByteArray) (yes : Bool) (ao : Option Addr) (nl nc : Nat) (h : BothIs w X b st) (ok : POk st) (hsm : ∀ x ∈ st.nodes, x.data.size ≤ 300) (ha : a ≤ 9223372036854775807) (ht : text.size ≤ 140737488355328) :
    Calls Tryz.prog 29 #[.pointer (some ⟨b, 0, none⟩), .agg #[.int .i64 7, .int .i64 k, .int .i64 fid, .int .i64 a, .int .i64 bb, .string text, .bool yes, .slice ao nl nc]] w fun e w' => e = .returned (.bool true) ∧ BothIs w' X b (mWrite st fid a text).1 ∧ Ext X w w' := by
  obtain ⟨W0, hW0⟩ : ∃ W0, W0 = (w.alloc (.cells #[.int .i64 7, .int .i64 k, .int .i64 fid, .int .i64 a, .int .i64 bb, .string text, .bool yes, .slice ao nl nc] 57)) := ⟨_, rfl⟩
  have HB0 := hide (show Below w.heap.size w W0 by rw [hW0]; exact (Below.refl _ w).alloc (Nat.le_refl _) _)
  have HZ0 := hide (show W0.heap.size = w.heap.size + 1 by rw [hW0]; simp)
  have x5 : W0.cell? ⟨w.heap.size, 5, none⟩ = some (.string text) := by rw [hW0]; simp
  obtain ⟨c, o, hrun, hsrc⟩ := bytes_laid W0 text
  obtain ⟨s, r, F, G, hT⟩ := h
  have HB1 := hide (show Below w.heap.size w (W0.drew.alloc o) from (HB0.out.drew).alloc (by have := HZ0.out; show w.heap.size ≤ W0.heap.size; omega) o)
  -- the bytes' own block is not of the halves
  have hY : BothIs (W0.drew.alloc o) (fun q => X q ∧ q ≠ W0.heap.size) b st := ⟨s, r, F, G, (hT.below HB1.out).less (fun q hq => ⟨(hT.lo q hq).1, fun e => by have := (hT.lo q hq).2; have := HZ0.out; omega⟩) (fun q hq => by
    have hz : W0.heap.size + 1 ≤ q := by simpa using hq
    exact ⟨hT.up q (by have := HZ0.out; omega), by omega⟩)⟩
  have HC := hide (written_any k fid a bb text yes ao nl nc (some ⟨W0.heap.size, 0, none⟩) c hY ok hsm ha ht hsrc (fun q hq _ hX => by cases hq; exact hX.2 rfl))
  rw [HZ0.out, show W0.drew.alloc o = (W0.alloc o).drew from rfl] at HC
  have hz0 := HZ0.out
  rw [hW0] at hrun x5 hz0
  rw [hz0] at hrun
  have HW0 := hide hW0
  clear hT hsrc hY hW0 hsm hz0
  go_enter Tryz.func29, Tryz.ntmps29
  go_wp2_with fail
  rw [← HW0.out]
  refine HC.out.mono ?_
  rintro e w2 ⟨rfl, h2, hb2⟩
  have H2 := hide (h2.more (fun k hk => hk.1))
  have HB2 := hide (hb2.weak (X := X) (fun k hk => hk.1))
  clear h2 hb2
  go_wp2
  go_ret
  exact ⟨rfl, H2.out, (Ext.below HB1.out).trans' HB2.out⟩
end Go.Proofs.YtdmdgnghaceibaaGreat.P
