/- A script, and how it lies in memory. -/
import Derived.Test.YtdmdgnghaceibaaGreatRows
import Derived.Test.YtdmdgnghaceibaaGreatPart02
import Derived.Deep.Strs
import Derived.Carry
import Derived.SizedLaws
import Derived.Test.YtdmdgnghaceibaaGreatPart09
import Derived.Test.YtdmdgnghaceibaaGreatPart08
import Derived.Test.YtdmdgnghaceibaaGreatPart07
import Derived.Test.YtdmdgnghaceibaaGreatPart03
import Derived.Sort.Walk0
import Derived.Laws.Strings2
import Derived.Laws.Strings3
import Derived.Test.YtdmdgnghaceibaaGreatPart06
namespace Go.Proofs.YtdmdgnghaceibaaGreat.P
open M Go.ChangeShapes Go.WideShapes Go.ChangeAt Go.RowKit Go.Deep
set_option linter.unusedVariables false

/-- A step of a script. -/
structure MOp where
  kind : Int
  k : Int
  fid : Int
  a : Int
  b : Int
  text : ByteArray
  yes : Bool
  names : List ByteArray
  deriving Inhabited

/-- A script that came in. -/
structure OpAt (W : World) (sb so i : Nat) (o : MOp) (nao : Option Addr) (nc : Nat) : Prop where
  c0 : W.cell? ⟨sb, so + i * 8, none⟩ = some (.int .i64 o.kind)
  c1 : W.cell? ⟨sb, so + i * 8 + 1, none⟩ = some (.int .i64 o.k)
  c2 : W.cell? ⟨sb, so + i * 8 + 2, none⟩ = some (.int .i64 o.fid)
  c3 : W.cell? ⟨sb, so + i * 8 + 3, none⟩ = some (.int .i64 o.a)
  c4 : W.cell? ⟨sb, so + i * 8 + 4, none⟩ = some (.int .i64 o.b)
  c5 : W.cell? ⟨sb, so + i * 8 + 5, none⟩ = some (.string o.text)
  c6 : W.cell? ⟨sb, so + i * 8 + 6, none⟩ = some (.bool o.yes)
  c7 : W.cell? ⟨sb, so + i * 8 + 7, none⟩ = some (.slice nao o.names.length nc)
  text : o.text.size ≤ maxLen
  ra : -9223372036854775808 ≤ o.a ∧ o.a ≤ 9223372036854775807
  names : NamesAt W nao o.names
  low : ∀ a, nao = some a → o.names ≠ [] → a.block < W.heap.size

def ScriptAt (W : World) (ao : Option Addr) (ops : List MOp) : Prop :=
  ops.length ≤ 1600000000000 ∧ ∀ (i : Nat) o, ops[i]? = some o → o.text.size ≤ 140737488355328 ∧ ∃ sb so nao nc, ao = some ⟨sb, so, none⟩ ∧ OpAt W sb so i o nao nc

theorem cellsOp : Tryz.prog.cellsOf 57 = 8 := by kernel_rfl
theorem cellsStr : Tryz.prog.cellsOf 9 = 1 := by kernel_rfl

theorem cell_spot {w : World} {a : Addr} {v : Value} (h : w.cell? a = some v) : a.spot = none := by
  unfold World.cell? at h
  split at h
  · cases hs : a.spot with
    | none => rfl
    | some q => rw [hs] at h; simp at h
  · cases h

section
variable {H : Type} {enc : TypeId × Value → H} {W : World}

/-- A list of texts that was read. -/
theorem open_names {fuel : Nat} {v : Value} {x : DataW H × List MemPlace} (h : DataW.trod enc Tryz.prog W 0 (fun _ => true) true fuel 35 [v] = some x) :
    ∃ (nao : Option Addr) (names : List ByteArray) (nc : Nat), v = .slice nao names.length nc ∧ NamesAt W nao names ∧ (∀ a, nao = some a → names ≠ [] → a.block < W.heap.size) := by
  rcases open_strs Tryz.underlying35 Tryz.underlying9 cellsStr h with ⟨hc, _⟩ | ⟨a, len, cap, m, Sx, hc, _, hl, hm, hmm, _, hx⟩
  · simp only [List.cons.injEq, and_true] at hc
    exact ⟨none, [], 0, hc, ⟨by simp [maxLen], fun i s hs => by simp at hs⟩, fun a h => by cases h⟩
  · simp only [List.cons.injEq, and_true] at hc
    have hlm : len ≤ m := by rw [hmm]; split <;> omega
    refine ⟨some a, (List.range len).map Sx, cap, by simpa using hc, ⟨by simp; omega, fun i s hs => ?_⟩, fun a' ha hne => ?_⟩
    · have hi : i < len := by have := M.lt_of_getElem? hs; simpa using this
      have hsp : a.spot = none := cell_spot (hx 0 (by omega)).1
      rw [List.getElem?_map, List.getElem?_range hi] at hs
      simp at hs
      subst hs
      obtain ⟨h1, h2⟩ := hx i (by omega)
      obtain ⟨nb, no, sp⟩ := a
      have hsp : sp = none := hsp
      subst hsp
      rw [Addr.add_lit] at h1
      exact ⟨h2, nb, no, rfl, h1⟩
    · cases ha
      have hlen : 0 < len := by
        cases len with
        | zero => simp at hne
        | succ n => omega
      exact World.block_lt_of_cell? W _ (hx 0 (by omega)).1

theorem list8 {α : Type} {l : List α} (h : l.length = 8) : ∃ a0 a1 a2 a3 a4 a5 a6 a7, l = [a0, a1, a2, a3, a4, a5, a6, a7] := by
  cases l with
  | nil => cases h
  | cons a0 l => cases l with
    | nil => cases h
    | cons a1 l => cases l with
      | nil => cases h
      | cons a2 l => cases l with
        | nil => cases h
        | cons a3 l => cases l with
          | nil => cases h
          | cons a4 l => cases l with
            | nil => cases h
            | cons a5 l => cases l with
              | nil => cases h
              | cons a6 l => cases l with
                | nil => cases h
                | cons a7 l => cases l with
                  | nil => exact ⟨a0, a1, a2, a3, a4, a5, a6, a7, rfl⟩
                  | cons b l => simp at h

theorem range_i64 {n : Int} (h : (Lit.int .i64 n).wf = true) : -9223372036854775808 ≤ n ∧ n ≤ 9223372036854775807 := by
  have e1 : IntKind.i64.min = -9223372036854775808 := by decide
  have e2 : IntKind.i64.max = 9223372036854775807 := by decide
  simp only [Lit.wf, e1, e2, Bool.and_eq_true, decide_eq_true_eq] at h
  exact h
theorem mem_weightsAll {P : Program} {e : TypeId} {n : Nat} : ∀ {l : List (DataW H)} {d : DataW H}, d ∈ l → n ∈ d.weights P e → n ∈ DataW.weightsAll P e l
  | x :: l, d, h, hn => by
    rw [DataW.weightsAll, List.mem_append]
    rcases List.mem_cons.1 h with rfl | h
    · exact .inl hn
    · exact .inr (mem_weightsAll h hn)

set_option maxRecDepth 20000 in
/-- A step that was read. -/
theorem open_op {fuel : Nat} {a : Addr} {i : Nat} {cs : List Value} {x : DataW H × List MemPlace} (hsp : a.spot = none) (hc : W.cells? 0 (a.add (i * 8)) 8 = some cs) (h : DataW.trod enc Tryz.prog W 0 (fun _ => true) true fuel 57 cs = some x) :
    ∃ (o : MOp) (nao : Option Addr) (nc : Nat), OpAt W a.block a.off i o nao nc ∧ o.text.size ∈ x.1.weights Tryz.prog 57 := by
  obtain ⟨_, hlen, hcell⟩ := World.cells?_some hc
  obtain ⟨xs, n, rfl, hx0, _, hxl, hf⟩ := DataW.trod_struct Tryz.underlying57 h
  obtain ⟨v0, v1, v2, v3, v4, v5, v6, v7, rfl⟩ := list8 hlen
  obtain ⟨y0, y1, y2, y3, y4, y5, y6, y7, rfl⟩ := list8 (hxl.trans (by kernel_rfl))
  have c3 : Tryz.prog.cellsOf 3 = 1 := by kernel_rfl
  have c9 : Tryz.prog.cellsOf 9 = 1 := by kernel_rfl
  have c4 : Tryz.prog.cellsOf 4 = 1 := by kernel_rfl
  have c35 : Tryz.prog.cellsOf 35 = 1 := by kernel_rfl
  have g0 : DataW.trod enc Tryz.prog W 0 (fun _ => true) true n 3 [v0] = some y0 := by
    have hh := hf 0 _ rfl
    simp [c3] at hh
    exact hh
  have g1 : DataW.trod enc Tryz.prog W 0 (fun _ => true) true n 3 [v1] = some y1 := by
    have hh := hf 1 _ rfl
    simp [c3] at hh
    exact hh
  have g2 : DataW.trod enc Tryz.prog W 0 (fun _ => true) true n 3 [v2] = some y2 := by
    have hh := hf 2 _ rfl
    simp [c3] at hh
    exact hh
  have g3 : DataW.trod enc Tryz.prog W 0 (fun _ => true) true n 3 [v3] = some y3 := by
    have hh := hf 3 _ rfl
    simp [c3] at hh
    exact hh
  have g4 : DataW.trod enc Tryz.prog W 0 (fun _ => true) true n 3 [v4] = some y4 := by
    have hh := hf 4 _ rfl
    simp [c3] at hh
    exact hh
  have g5 : DataW.trod enc Tryz.prog W 0 (fun _ => true) true n 9 [v5] = some y5 := by
    have hh := hf 5 _ rfl
    simp [c9] at hh
    exact hh
  have g6 : DataW.trod enc Tryz.prog W 0 (fun _ => true) true n 4 [v6] = some y6 := by
    have hh := hf 6 _ rfl
    simp [c4] at hh
    exact hh
  have g7 : DataW.trod enc Tryz.prog W 0 (fun _ => true) true n 35 [v7] = some y7 := by
    have hh := hf 7 _ rfl
    simp [c35] at hh
    exact hh
  clear hf
  obtain ⟨k0, e0, _, _⟩ := DataW.trod_int Tryz.underlying3 g0
  obtain ⟨k1, e1, _, _⟩ := DataW.trod_int Tryz.underlying3 g1
  obtain ⟨k2, e2, _, _⟩ := DataW.trod_int Tryz.underlying3 g2
  obtain ⟨k3, e3, _, r3⟩ := DataW.trod_int Tryz.underlying3 g3
  obtain ⟨k4, e4, _, _⟩ := DataW.trod_int Tryz.underlying3 g4
  obtain ⟨tx, e5, d5, htx⟩ := DataW.trod_string Tryz.underlying9 g5
  obtain ⟨ye, e6, _⟩ := DataW.trod_bool Tryz.underlying4 g6
  obtain ⟨nao, names, nc, e7, hnm, hlow⟩ := open_names g7
  simp only [List.cons.injEq, and_true] at e0 e1 e2 e3 e4 e5 e6
  subst e0 e1 e2 e3 e4 e5 e6 e7
  obtain ⟨sb, so, sp⟩ := a
  have hsp : sp = none := hsp
  subst hsp
  simp only [Addr.add_lit] at hcell
  have hw : tx.size ∈ (DataW.agg ([y0, y1, y2, y3, y4, y5, y6, y7].map (·.1)) : DataW H).weights Tryz.prog 57 := by
    rw [DataW.weights]
    rw [show Tryz.prog.underlying 57 = _ from Tryz.underlying57]
    refine DataW.weights_mem_each (j := 5) (t := 9) (d := y5.1) rfl rfl _ ?_
    rw [d5]
    simp [DataW.weights]
  exact ⟨⟨k0, k1, k2, k3, k4, tx, ye, names⟩, nao, nc, ⟨hcell 0 (by omega), hcell 1 (by omega), hcell 2 (by omega), hcell 3 (by omega), hcell 4 (by omega), hcell 5 (by omega), hcell 6 (by omega), hcell 7 (by omega), htx, range_i64 r3, hnm, hlow⟩, by rw [hx0]; exact hw⟩

/-- A script that was read. -/
theorem open_script {ao : Option Addr} {len cap : Nat} {d : DataW H} {ps : List MemPlace} (h : DataW.Trod enc Tryz.prog W 0 (fun _ => true) true 22 (.slice ao len cap) d ps) :
    ∃ ops : List MOp, len = ops.length ∧ (len = 0 ∨ ∃ elems spare, d = .slice elems spare ∧ elems.length = len) ∧ (∀ (i : Nat) o, ops[i]? = some o → o.text.size ∈ d.weights Tryz.prog 22 ∧ ∃ sb so nao nc, ao = some ⟨sb, so, none⟩ ∧ OpAt W sb so i o nao nc) := by
  obtain ⟨fuel, h⟩ := h
  have hcs : (Value.slice ao len cap).cells.toList = [.slice ao len cap] := rfl
  rw [hcs] at h
  rcases open_slice Tryz.underlying22 h with ⟨hc, _⟩ | ⟨a, len', cap', m, n, D, Pl, hc, _, hl, hm, hmm, hxd, hx⟩
  · simp only [List.cons.injEq, Value.slice.injEq, and_true] at hc
    obtain ⟨rfl, rfl, rfl⟩ := hc
    exact ⟨[], rfl, .inl rfl, fun i o ho => by simp at ho⟩
  · simp only [List.cons.injEq, Value.slice.injEq, and_true] at hc
    obtain ⟨rfl, rfl, rfl⟩ := hc
    have hlm : len ≤ m := by rw [hmm]; split <;> omega
    rw [cellsOp] at hx
    have each : ∀ i, i < len → ∃ q : MOp × Option Addr × Nat, a.spot = none ∧ OpAt W a.block a.off i q.1 q.2.1 q.2.2 ∧ q.1.text.size ∈ (D i).weights Tryz.prog 57 := fun i hi => by
      have hsp : a.spot = none := by
        obtain ⟨cs, h1, _⟩ := hx 0 (by omega)
        obtain ⟨_, hlen, hcell⟩ := World.cells?_some h1
        obtain ⟨v0, v1, v2, v3, v4, v5, v6, v7, rfl⟩ := list8 hlen
        have h0 := hcell 0 (by omega)
        rw [Nat.zero_mul] at h0
        exact cell_spot (a := a) h0
      obtain ⟨cs, h1, h2⟩ := hx i (by omega)
      obtain ⟨o, nao, nc, ho⟩ := open_op hsp h1 h2
      exact ⟨(o, nao, nc), hsp, ho⟩
    obtain ⟨q, hq⟩ := choose_lt each
    refine ⟨(List.range len).map (fun i => (q i).1), by simp, .inr ⟨_, _, (Prod.mk.inj hxd).1, by simp⟩, fun i o ho => ?_⟩
    have hi : i < len := by have := M.lt_of_getElem? ho; simpa using this
    rw [List.getElem?_map, List.getElem?_range hi] at ho
    simp at ho
    subst ho
    obtain ⟨hsp, ho, hw⟩ := hq i hi
    obtain ⟨sb, so, sp⟩ := a
    have hsp : sp = none := hsp
    subst hsp
    refine ⟨?_, sb, so, (q i).2.1, (q i).2.2, rfl, ho⟩
    rw [(Prod.mk.inj hxd).1, DataW.weights, Tryz.underlying22]
    refine List.mem_cons_of_mem _ (List.mem_append_left _ (mem_weightsAll (d := D i) ?_ hw))
    exact List.mem_map.2 ⟨i, List.mem_range.2 hi, rfl⟩
end
end Go.Proofs.YtdmdgnghaceibaaGreat.P
/- One step of a script, over both halves: kinds up to 5. -/
namespace Go.Proofs.YtdmdgnghaceibaaGreat.P
open M Go.ChangeShapes Go.WideShapes Go.ChangeAt Go.RowKit
set_option linter.unusedVariables false

theorem BothIs.below {w w2 : World} {X : Nat → Prop} {b : Nat} {st : St} (h : BothIs w X b st) (hb : Below w.heap.size w w2) : BothIs w2 X b st := by
  obtain ⟨s, r, F, G, h⟩ := h
  exact ⟨s, r, F, G, h.below hb⟩

set_option maxRecDepth 20000 in
set_option maxHeartbeats 1000000 in
theorem step_attach {w : World} {X : Nat → Prop} {b : Nat} {st : St} (k fid a bb : Int) (text : ByteArray) (yes : Bool) (ao : Option Addr) (nl nc : Nat) (h : BothIs w X b st) (ok : POk st) :
    Calls Tryz.prog 29 #[.pointer (some ⟨b, 0, none⟩), .agg #[.int .i64 1, .int .i64 k, .int .i64 fid, .int .i64 a, .int .i64 bb, .string text, .bool yes, .slice ao nl nc]] w fun e w' => e = .returned (.bool true) ∧ BothIs w' X b (mAttach st fid).1 ∧ Ext X w w' := by
  have HC := hide (turned_attach k fid a bb text yes ao nl nc (h.below ((Below.refl _ w).alloc (Nat.le_refl _) (.cells #[.int .i64 1, .int .i64 k, .int .i64 fid, .int .i64 a, .int .i64 bb, .string text, .bool yes, .slice ao nl nc] 57))) ok)
  clear h
  go_enter Tryz.func29, Tryz.ntmps29
  go_wp2_with (go_at_call 65; refine HC.out.mono ?_; rintro e w2 ⟨rfl, h2, hb2⟩; have H2 := hide h2; have HB2 := hide hb2; clear h2 hb2)
  go_ret
  exact ⟨rfl, H2.out, (Ext.below ((Below.refl _ w).alloc (Nat.le_refl _) _)).trans' HB2.out⟩

set_option maxRecDepth 20000 in
set_option maxHeartbeats 1000000 in
theorem step_clunk {w : World} {X : Nat → Prop} {b : Nat} {st : St} (k fid a bb : Int) (text : ByteArray) (yes : Bool) (ao : Option Addr) (nl nc : Nat) (h : BothIs w X b st) (ok : POk st) :
    Calls Tryz.prog 29 #[.pointer (some ⟨b, 0, none⟩), .agg #[.int .i64 2, .int .i64 k, .int .i64 fid, .int .i64 a, .int .i64 bb, .string text, .bool yes, .slice ao nl nc]] w fun e w' => e = .returned (.bool true) ∧ BothIs w' X b (mClunk st fid).1 ∧ Ext X w w' := by
  have HC := hide (turned_clunk k fid a bb text yes ao nl nc (h.below ((Below.refl _ w).alloc (Nat.le_refl _) (.cells #[.int .i64 2, .int .i64 k, .int .i64 fid, .int .i64 a, .int .i64 bb, .string text, .bool yes, .slice ao nl nc] 57))) ok)
  clear h
  go_enter Tryz.func29, Tryz.ntmps29
  go_wp2_with (go_at_call 65; refine HC.out.mono ?_; rintro e w2 ⟨rfl, h2, hb2⟩; have H2 := hide h2; have HB2 := hide hb2; clear h2 hb2)
  go_ret
  exact ⟨rfl, H2.out, (Ext.below ((Below.refl _ w).alloc (Nat.le_refl _) _)).trans' HB2.out⟩

set_option maxRecDepth 20000 in
set_option maxHeartbeats 1000000 in
theorem step_open {w : World} {X : Nat → Prop} {b : Nat} {st : St} (k fid a bb : Int) (text : ByteArray) (yes : Bool) (ao : Option Addr) (nl nc : Nat) (h : BothIs w X b st) (ok : POk st) :
    Calls Tryz.prog 29 #[.pointer (some ⟨b, 0, none⟩), .agg #[.int .i64 4, .int .i64 k, .int .i64 fid, .int .i64 a, .int .i64 bb, .string text, .bool yes, .slice ao nl nc]] w fun e w' => e = .returned (.bool true) ∧ BothIs w' X b (mOpen st fid).1 ∧ Ext X w w' := by
  have HC := hide (turned_open k fid a bb text yes ao nl nc (h.below ((Below.refl _ w).alloc (Nat.le_refl _) (.cells #[.int .i64 4, .int .i64 k, .int .i64 fid, .int .i64 a, .int .i64 bb, .string text, .bool yes, .slice ao nl nc] 57))) ok)
  clear h
  go_enter Tryz.func29, Tryz.ntmps29
  go_wp2_with (go_at_call 65; refine HC.out.mono ?_; rintro e w2 ⟨rfl, h2, hb2⟩; have H2 := hide h2; have HB2 := hide hb2; clear h2 hb2)
  go_ret
  exact ⟨rfl, H2.out, (Ext.below ((Below.refl _ w).alloc (Nat.le_refl _) _)).trans' HB2.out⟩

set_option maxRecDepth 20000 in
set_option maxHeartbeats 1000000 in
theorem step_create {w : World} {X : Nat → Prop} {b : Nat} {st : St} (k fid a bb : Int) (text : ByteArray) (yes : Bool) (ao : Option Addr) (nl nc : Nat) (h : BothIs w X b st) (ok : POk st) (htext : text.size ≤ maxLen) (hnod : st.nodes.length ≤ 1700000000000) (hlong : ∀ f ∈ st.fids, f.way.length ≤ 1700000000000) :
    Calls Tryz.prog 29 #[.pointer (some ⟨b, 0, none⟩), .agg #[.int .i64 5, .int .i64 k, .int .i64 fid, .int .i64 a, .int .i64 bb, .string text, .bool yes, .slice ao nl nc]] w fun e w' => e = .returned (.bool true) ∧ BothIs w' X b (mCreate st fid text yes).1 ∧ Ext X w w' := by
  have HC := hide (turned_create k fid a bb text yes ao nl nc (h.below ((Below.refl _ w).alloc (Nat.le_refl _) (.cells #[.int .i64 5, .int .i64 k, .int .i64 fid, .int .i64 a, .int .i64 bb, .string text, .bool yes, .slice ao nl nc] 57))) ok htext hnod hlong)
  clear h
  go_enter Tryz.func29, Tryz.ntmps29
  go_wp2_with (go_at_call 65; refine HC.out.mono ?_; rintro e w2 ⟨rfl, h2, hb2⟩; have H2 := hide h2; have HB2 := hide hb2; clear h2 hb2)
  go_ret
  exact ⟨rfl, H2.out, (Ext.below ((Below.refl _ w).alloc (Nat.le_refl _) _)).trans' HB2.out⟩

set_option maxRecDepth 20000 in
set_option maxHeartbeats 1000000 in
theorem step_walk {w : World} {X : Nat → Prop} {b : Nat} {st : St} (k fid a bb : Int) (text : ByteArray) (yes : Bool) (names : List ByteArray) (ao : Option Addr) (nc : Nat) (h : BothIs w X b st) (ok : POk st) (hn : NamesAt w ao names) (hnB : ∀ a, ao = some a → names ≠ [] → ¬ X a.block) (hlong : ∀ f ∈ st.fids, f.way.length ≤ 1700000000000) :
    Calls Tryz.prog 29 #[.pointer (some ⟨b, 0, none⟩), .agg #[.int .i64 3, .int .i64 k, .int .i64 fid, .int .i64 a, .int .i64 bb, .string text, .bool yes, .slice ao names.length nc]] w fun e w' => e = .returned (.bool true) ∧ BothIs w' X b (mWalk st fid bb names).1 ∧ Ext X w w' := by
  have HC := hide (walked_any k fid a bb text yes names ao nc (h.below ((Below.refl _ w).alloc (Nat.le_refl _) (.cells #[.int .i64 3, .int .i64 k, .int .i64 fid, .int .i64 a, .int .i64 bb, .string text, .bool yes, .slice ao names.length nc] 57))) ok (hn.ext (Ext.below (F := X) ((Below.refl _ w).alloc (Nat.le_refl _) _)) hnB) hnB hlong)
  clear h
  go_enter Tryz.func29, Tryz.ntmps29
  go_wp2_with (go_at_call 66; refine HC.out.mono ?_; rintro e w2 ⟨rfl, h2, hb2⟩; have H2 := hide h2; have HB2 := hide hb2; clear h2 hb2)
  go_ret
  exact ⟨rfl, H2.out, (Ext.below ((Below.refl _ w).alloc (Nat.le_refl _) _)).trans' HB2.out⟩

set_option maxRecDepth 20000 in
set_option maxHeartbeats 1000000 in
theorem step_none {w : World} {X : Nat → Prop} {b : Nat} {st : St} (kind k fid a bb : Int) (text : ByteArray) (yes : Bool) (ao : Option Addr) (nl nc : Nat) (h : BothIs w X b st) (hk : kind < 1 ∨ 14 < kind) :
    Calls Tryz.prog 29 #[.pointer (some ⟨b, 0, none⟩), .agg #[.int .i64 kind, .int .i64 k, .int .i64 fid, .int .i64 a, .int .i64 bb, .string text, .bool yes, .slice ao nl nc]] w fun e w' => e = .returned (.bool true) ∧ BothIs w' X b st ∧ Ext X w w' := by
  have e1 : (kind == 1) = false := beq_false_of_ne (by omega)
  have e2 : (kind == 2) = false := beq_false_of_ne (by omega)
  have e4 : (kind == 4) = false := beq_false_of_ne (by omega)
  have e5 : (kind == 5) = false := beq_false_of_ne (by omega)
  have e10 : (kind == 10) = false := beq_false_of_ne (by omega)
  have e11 : (kind == 11) = false := beq_false_of_ne (by omega)
  have e12 : (kind == 12) = false := beq_false_of_ne (by omega)
  have e3 : (kind == 3) = false := beq_false_of_ne (by omega)
  have e6 : (kind == 6) = false := beq_false_of_ne (by omega)
  have e7 : (kind == 7) = false := beq_false_of_ne (by omega)
  have e8 : (kind == 8) = false := beq_false_of_ne (by omega)
  have e9 : (kind == 9) = false := beq_false_of_ne (by omega)
  have e13 : (kind == 13) = false := beq_false_of_ne (by omega)
  have e14 : (kind == 14) = false := beq_false_of_ne (by omega)
  have H := hide h
  clear h hk
  go_enter Tryz.func29, Tryz.ntmps29
  go_wp2
  go_ret
  exact ⟨rfl, H.out.below ((Below.refl _ w).alloc (Nat.le_refl _) _), Ext.below ((Below.refl _ w).alloc (Nat.le_refl _) _)⟩

end Go.Proofs.YtdmdgnghaceibaaGreat.P
/- What the reference's names wants (its walk: still to do). -/
namespace Go.Proofs.YtdmdgnghaceibaaGreat.P
open M Go.ChangeShapes Go.WideShapes Go.ChangeAt Go.RowKit
set_option linter.unusedVariables false

theorem refNames_succ {nodes : List Nd} {k : Nat} {x : Nd} (d : Nat) (hx : nodes[k]? = some x) : refNames d (nodes.take (k + 1)) = refAdd d (refNames d (nodes.take k)) x := by
  have hlt := M.lt_of_getElem? hx
  have e : nodes[k] = x := by rw [List.getElem?_eq_getElem hlt] at hx; exact Option.some.inj hx
  unfold refNames
  rw [List.take_succ_eq_append_getElem hlt, e, List.foldl_append]
  rfl

theorem refIns_at {s : ByteArray} : ∀ {B : List ByteArray} {q : Nat}, q ≤ B.length → (∀ j y, j < q → B[j]? = some y → Op.bytesLess y.toList s.toList = true) → (∀ y, B[q]? = some y → Op.bytesLess y.toList s.toList = false) → refIns B s = B.take q ++ s :: B.drop q
  | [], q, hq, _, _ => by
    obtain rfl : q = 0 := by simpa using hq
    rfl
  | y :: B, 0, _, _, h2 => by
    have := h2 y rfl
    rw [Go.Proofs.bytesLess_eq, toList_data, toList_data] at this
    unfold refIns
    rw [List.takeWhile_cons_of_neg (by simpa [ltB] using this), List.dropWhile_cons_of_neg (by simpa [ltB] using this)]
    rfl
  | y :: B, q + 1, hq, h1, h2 => by
    have h0 := h1 0 y (by omega) rfl
    rw [Go.Proofs.bytesLess_eq, toList_data, toList_data] at h0
    have ih := refIns_at (s := s) (B := B) (q := q) (by simpa using hq) (fun j z hj hz => h1 (j + 1) z (by omega) (by simpa using hz)) (fun z hz => h2 z (by simpa using hz))
    unfold refIns at ih ⊢
    rw [List.takeWhile_cons_of_pos (by simpa [ltB] using h0), List.dropWhile_cons_of_pos (by simpa [ltB] using h0), List.take_succ_cons, List.drop_succ_cons, List.cons_append, List.cons_append, ih]
end Go.Proofs.YtdmdgnghaceibaaGreat.P
/- The reference's names. -/
namespace Go.Proofs.YtdmdgnghaceibaaGreat.P
open M Go.ChangeShapes Go.WideShapes Go.ChangeAt Go.RowKit
set_option linter.unusedVariables false

theorem told_append {w wa w' : World} {base more : List ByteArray} {out : Value} {ao : Option Addr} {n c : Nat} (h : Told w wa base out) (hn : n = base.length + more.length)
    (ho : Own w' (ext (nw w wa) wa w') 9 1 (.slice ao n c) (strRows base ++ strRows more)) (hg : wa.grownBy w' out.ownBlock) : Told w w' (base ++ more) (.slice ao n c) := by
  have hz := hg.size
  have hw := h.below.size
  refine ⟨?_, ⟨ao, c, by rw [hn]; simp⟩, ?_⟩
  · rw [strRows_append]
    refine ho.mono (fun k hk => ?_)
    rcases hk with hk | hk
    · exact ⟨hk.1, Nat.lt_of_lt_of_le hk.2 hz⟩
    · exact ⟨Nat.le_trans hw hk.1, hk.2⟩
  · refine ⟨hg.os.trans h.below.os, hg.tape.trans h.below.tape, hg.output.trans h.below.output, Nat.le_trans hw hz, fun k hk => (hg.block k (Nat.lt_of_lt_of_le hk hw) (fun e => ?_)).trans (h.below.block k hk)⟩
    have := (h.own.2.2 k e.symm).1
    omega

theorem Told.wide {w wX w' : World} {l : List ByteArray} {v : Value} (h : Told wX w' l v) (hb : Below w.heap.size w wX) : Told w w' l v :=
  ⟨h.own.mono (fun k hk => ⟨Nat.le_trans hb.size hk.1, hk.2⟩), h.form, ⟨h.below.os.trans hb.os, h.below.tape.trans hb.tape, h.below.output.trans hb.output, Nat.le_trans hb.size h.below.size, fun k hk => (h.below.block k (Nat.lt_of_lt_of_le hk hb.size)).trans (hb.block k hk)⟩⟩

theorem strRows_one' (l : List ByteArray) : (∀ r ∈ strRows l, r.length = 1) ∧ ∀ r ∈ strRows l, ∀ u ∈ r, u.oneCell' = true := by
  constructor
  · intro r hr
    unfold strRows at hr
    obtain ⟨s, _, rfl⟩ := List.mem_map.1 hr
    rfl
  · intro r hr u hu
    unfold strRows at hr
    obtain ⟨s, _, rfl⟩ := List.mem_map.1 hr
    simp at hu
    subst hu
    rfl

/-- A piece of a slice of texts, as a source. -/
theorem src_piece {w W : World} {F : Nat → Prop} {g n cap : Nat} {B : List ByteArray} (h : Own w F 9 1 (.slice (some ⟨g, 0, none⟩) n cap) (strRows B)) (hb : Below w.heap.size w W) (a m c : Nat) (ham : a + m ≤ B.length) : SrcIs W 1 (.slice (some ⟨g, a, none⟩) m c) (strRows ((B.drop a).take m)) := by
  have hl : (strRows ((B.drop a).take m)).length = m := by rw [len_strRows, List.length_take, List.length_drop]; omega
  refine ⟨(strRows_one' _).1, (strRows_one' _).2, .inr ⟨⟨g, a, none⟩, c, by rw [hl], fun j u hj => ?_⟩⟩
  rcases h.opened with ⟨e, _⟩ | ⟨g', cap', e, _, _, _, ⟨cur, hbk⟩, hcell, _⟩
  · cases e
  · injection e with e1 _ _
    simp only [Option.some.injEq, Addr.mk.injEq, and_true] at e1
    subst e1
    have hfl : (strRows ((B.drop a).take m)).flatten = ((B.drop a).take m).map Value.string := by
      unfold strRows
      generalize (B.drop a).take m = l
      induction l with
      | nil => rfl
      | cons x l ih => simp only [List.map_cons, List.flatten_cons, ih]; rfl
    rw [hfl, List.getElem?_map] at hj
    have hjm : j < m := by
      cases hq : ((B.drop a).take m)[j]? with
      | none => rw [hq] at hj; simp at hj
      | some s =>
        have := M.lt_of_getElem? hq
        rw [List.length_take] at this
        omega
    rw [List.getElem?_take, if_pos hjm, List.getElem?_drop] at hj
    cases hq : B[a + j]? with
    | none => rw [hq] at hj; simp at hj
    | some s =>
      rw [hq] at hj
      simp at hj
      subst hj
      have := hcell (a + j) [.string s] 0 _ (by unfold strRows; rw [List.getElem?_map, hq]; rfl) rfl
      rw [Addr.add_lit]
      rw [hb.cell (p := ⟨g, a + j, none⟩) (Array.getElem?_eq_some_iff.1 hbk).1]
      simpa using this
end Go.Proofs.YtdmdgnghaceibaaGreat.P
/- The reference's names, walked. -/
namespace Go.Proofs.YtdmdgnghaceibaaGreat.P
open M Go.ChangeShapes Go.WideShapes Go.ChangeAt Go.RowKit
set_option linter.unusedVariables false

theorem src_none (W : World) (ad : Addr) (c : Nat) : SrcIs W 1 (.slice (some ad) 0 c) (strRows []) := ⟨(strRows_one' _).1, (strRows_one' _).2, .inr ⟨ad, c, rfl, fun j u hj => by simp [strRows] at hj⟩⟩

set_option maxRecDepth 20000 in
set_option maxHeartbeats 2000000 in
theorem names_core (r g cap : Nat) (nodes : List Nd) (d : Nat) (w : World) (hl : nodes.length ≤ 1700000000000)
    (h0 : w.cell? ⟨r, 0, none⟩ = some (.slice (some ⟨g, 0, none⟩) nodes.length cap))
    (hc : ∀ i x, nodes[i]? = some x → w.cell? ⟨g, i * 6, none⟩ = some (.string x.name) ∧ w.cell? ⟨g, i * 6 + 2, none⟩ = some (.int .i64 x.inn) ∧ w.cell? ⟨g, i * 6 + 5, none⟩ = some (.bool x.gone)) :
    Calls Tryz.prog 151 #[.pointer (some ⟨r, 0, none⟩), .int .i64 d] w fun e w' => ∃ out, e = .returned out ∧ Told w w' (refNames d nodes) out := by
  have hrlt : r < w.heap.size := World.block_lt_of_cell? w _ h0
  have H0 := hide h0
  have Hc := hide hc
  clear h0 hc
  go_enter Tryz.func151, Tryz.ntmps151
  go_wp2
  go_loopw [5, 6] (fun o i wr => ∃ k : Nat, k ≤ nodes.length ∧ i = .int .i64 k ∧ (refNames d (nodes.take k)).length ≤ k ∧ Told w wr (refNames d (nodes.take k)) o) (fun _ i _ => nodes.length - (intOf i).toNat)
  case atStart => exact ⟨0, Nat.zero_le _, rfl, by simp [refNames], Told.nil w⟩
  case round =>
    obtain ⟨k, hk, rfl, hkl, hTo⟩ := hrel
    have hbel := hTo.below
    have c0 : wr.cell? ⟨r, 0, none⟩ = some (.slice (some ⟨g, 0, none⟩) nodes.length cap) := (hbel.cell (p := ⟨r, 0, none⟩) hrlt).trans H0.out
    obtain ⟨B, hB⟩ : ∃ B, B = refNames d (nodes.take k) := ⟨_, rfl⟩
    rw [← hB] at hTo hkl
    obtain ⟨ao, co, rfl⟩ := hTo.form
    have HB := hide hB
    have HTo := hide hTo
    by_cases hlt : k < nodes.length
    · obtain ⟨x, hx⟩ := getElem?_of_lt hlt
      obtain ⟨x0, x2, x5⟩ := Hc.out k x hx
      have hglt : g < w.heap.size := World.block_lt_of_cell? w _ x0
      have y0 := (hbel.cell (p := ⟨g, k * 6, none⟩) hglt).trans x0
      have y2 := (hbel.cell (p := ⟨g, k * 6 + 2, none⟩) hglt).trans x2
      have y5 := (hbel.cell (p := ⟨g, k * 6 + 5, none⟩) hglt).trans x5
      have Hx0 := hide x0
      have Hsu := hide (refNames_succ d hx)
      rw [← HB.out] at Hsu
      clear hx hTo hB hbel x0 x2 x5
      by_cases h1 : x.inn = (d : Int)
      · cases h3 : x.gone with
        | true =>
          rw [h3] at y5
          have Hn := hide (show refAdd d B x = B by unfold refAdd; rw [if_neg (by simp [h3])])
          go_wp2
          refine ⟨⟨k + 1, by omega, by go_num, ?_, ?_⟩, by simp [intOf]; omega⟩
          · rw [Hsu.out, Hn.out]; omega
          · rw [Hsu.out, Hn.out]; exact HTo.out
        | false =>
          rw [h3] at y5
          have Hn := hide (show refAdd d B x = refIns B x.name by unfold refAdd; rw [if_pos ⟨h1, h3⟩])
          rw [h1] at y2
          go_wp2
          go_loopw [7] (fun a wr2 => ∃ q : Nat, q ≤ B.length ∧ a = .int .i64 q ∧ (∀ j y, j < q → B[j]? = some y → Op.bytesLess y.toList x.name.toList = true) ∧ Told w wr2 B (.slice ao B.length co)) (fun a _ => B.length - (intOf a).toNat)
          case atStart => exact ⟨0, Nat.zero_le _, rfl, by omega, HTo.out⟩
          case round =>
            obtain ⟨q, hq, rfl, hall, hT⟩ := hrel
            have Hall := hide hall
            have hb2 := hT.below
            have d0 : wr.cell? ⟨r, 0, none⟩ = some (.slice (some ⟨g, 0, none⟩) nodes.length cap) := (hb2.cell (p := ⟨r, 0, none⟩) hrlt).trans H0.out
            have z0 : wr.cell? ⟨g, k * 6, none⟩ = some (.string x.name) := (hb2.cell (p := ⟨g, k * 6, none⟩) hglt).trans Hx0.out
            have HT := hide hT
            clear hall hT hb2
            have q0 : (0 : Int) ≤ (q : Int) := by omega
            by_cases hql : q < B.length
            · obtain ⟨y, hy⟩ := getElem?_of_lt hql
              rcases HT.out.own.opened with ⟨e, _⟩ | ⟨g5, cap5, e, hcap5, hmax5, _, _, hc5, _⟩
              · injection e with _ e2 _
                omega
              · rw [len_strRows] at e hcap5
                simp only [Value.slice.injEq, true_and] at e
                obtain ⟨rfl, rfl⟩ := e
                have cy : wr.cell? ⟨g5, q, none⟩ = some (.string y) := by
                  have := hc5 q [.string y] 0 _ (by unfold strRows; rw [List.getElem?_map, hy]; rfl) rfl
                  simpa using this
                have Hy := hide hy
                have hco : co ≤ 9223372036854775807 := by unfold maxLen at hmax5; omega
                clear hc5 hy hmax5
                have q1 : (q : Int) < (B.length : Int) := by omega
                cases hle : Op.bytesLess y.toList x.name.toList with
                | true =>
                  go_wp2
                  go_region
                  go_wp2
                  refine ⟨⟨q + 1, by omega, by go_num, fun j z hj hz => ?_, HT.out.kept (Below.refl _ _).drew⟩, by simp [intOf]; omega⟩
                  by_cases e : j = q
                  · subst e
                    rw [Hy.out] at hz
                    cases hz
                    exact hle
                  · exact Hall.out j z (by omega) hz
                | false =>
                  have HI := hide (refIns_at (s := x.name) hq Hall.out (fun z hz => by rw [Hy.out] at hz; cases hz; exact hle))
                  have hTX : Told w wr.drew B (.slice (some ⟨g5, 0, none⟩) B.length co) := HT.out.kept (Below.refl _ _).drew
                  have HTX := hide hTX
                  have qc : ¬ co = q := by omega
                  have ql : ¬ B.length < q := by omega
                  have qz : ¬ co < q := by omega
                  clear hTX
                  go_wp2
                  go_region
                  go_wp2_with (at_builtin; first
                    | (refine wpList_append_Own _ rfl (.tmp 59) (.tmp 62) 35 rfl (nw wr.drew wr.drew) 9 (.string ⟨#[]⟩) 1 16 Tryz.underlying35 infoString rfl (by decide) (.slice none 0 0) [] rfl (Own.nil _ _ _ _) (.slice (some ⟨g5, 0, none⟩) q co) (strRows ((B.drop 0).take q)) rfl (src_piece HTX.out.own (Below.refl _ _) 0 q co (by omega)) q (by rw [len_strRows, List.length_take]; simp; omega) (by unfold maxLen; omega) (by omega) ?_; intro ao1 c1 w1 ho1 hg1 hb1; have HA1 := hide (told_append (base := []) (more := (B.drop 0).take q) (Told.nil wr.drew) (by rw [List.length_take, List.drop_zero]; simp; omega) ho1 hg1); have e0 : w1.cell? ⟨r, 0, none⟩ = some (.slice (some ⟨g, 0, none⟩) nodes.length cap) := ((HTX.out.below.cell (p := ⟨r, 0, none⟩) hrlt).symm.trans (HA1.out.below.cell (p := ⟨r, 0, none⟩) (Nat.lt_of_lt_of_le hrlt HTX.out.below.size)).symm).symm.trans H0.out; have e1 : w1.cell? ⟨g, k * 6, none⟩ = some (.string x.name) := ((HTX.out.below.cell (p := ⟨g, k * 6, none⟩) hglt).symm.trans (HA1.out.below.cell (p := ⟨g, k * 6, none⟩) (Nat.lt_of_lt_of_le hglt HTX.out.below.size)).symm).symm.trans Hx0.out; clear ho1 hg1 hb1)
                    | (refine wpList_append_Own _ rfl (.tmp 64) (.tmp 73) 35 rfl (nw wr.drew (w1.alloc (.cells #[.string x.name] 9))) 9 (.string ⟨#[]⟩) 1 16 Tryz.underlying35 infoString rfl (by decide) (.slice ao1 q c1) (strRows ((B.drop 0).take q)) rfl (HA1.out.kept ((Below.refl _ _).alloc (Nat.le_refl _) _)).own (.slice (some ⟨w1.heap.size, 0, none⟩) 1 1) (strRows [x.name]) rfl (SrcIs.ofBlock (cs := #[.string x.name]) (heap_alloc_new w1 _) rfl (by simp [Value.oneCell'])) (q + 1) (by rw [len_strRows, List.length_take]; simp [strRows]; omega) (by unfold maxLen; omega) (by omega) ?_; intro ao2 c2 w2 ho2 hg2 hb2; have HA2 := hide (told_append (base := (B.drop 0).take q) (more := [x.name]) (HA1.out.kept ((Below.refl _ _).alloc (Nat.le_refl _) _)) (by rw [List.length_take, List.drop_zero]; simp; omega) ho2 hg2); clear ho2 hg2 hb2)
                    | (refine wpList_append_Own _ rfl (.tmp 75) (.tmp 78) 35 rfl (nw wr.drew w2) 9 (.string ⟨#[]⟩) 1 16 Tryz.underlying35 infoString rfl (by decide) (.slice ao2 (q + 1) c2) (strRows ((B.drop 0).take q ++ [x.name])) rfl HA2.out.own (.slice (some ⟨g5, q, none⟩) (B.length - q) (co - q)) (strRows ((B.drop q).take (B.length - q))) rfl (src_piece HTX.out.own HA2.out.below q (B.length - q) (co - q) (by omega)) (B.length + 1) (by rw [len_strRows, len_strRows, List.length_append, List.length_take, List.length_take, List.length_drop]; simp; omega) (by unfold maxLen; omega) (by omega) ?_; intro ao3 c3 w3 ho3 hg3 hb3; have HA3 := hide (told_append (base := (B.drop 0).take q ++ [x.name]) (more := (B.drop q).take (B.length - q)) HA2.out (by rw [List.length_append, List.length_take, List.length_take, List.length_drop]; simp; omega) ho3 hg3); clear ho3 hg3 hb3))
                  have eB : refNames d (nodes.take (k + 1)) = (B.drop 0).take q ++ [x.name] ++ (B.drop q).take (B.length - q) := by
                    rw [Hsu.out, Hn.out, HI.out, List.drop_zero, List.take_of_length_le (l := B.drop q) (by rw [List.length_drop]; omega)]
                    simp
                  refine ⟨⟨k + 1, by omega, by go_num, ?_, ?_⟩, by simp [intOf]; omega⟩
                  · rw [eB, List.length_append, List.length_append, List.length_take, List.length_take, List.length_drop]
                    simp
                    omega
                  · rw [eB]
                    exact HA3.out.wide HTX.out.below
            · obtain rfl : q = B.length := by omega
              have HI := hide (refIns_at (s := x.name) (Nat.le_refl _) Hall.out (fun z hz => by have := M.lt_of_getElem? hz; omega))
              have q1 : ¬ (B.length : Int) < (B.length : Int) := by omega
              rcases HT.out.own.opened with ⟨e, hnil⟩ | ⟨g5, cap5, e, hcap5, hmax5, _, _, _, _⟩
              · have hB0 : B = [] := by
                  have h9 := congrArg List.length hnil
                  rw [len_strRows] at h9
                  exact List.length_eq_zero_iff.1 h9
                subst hB0
                injection e with ea _ ec
                subst ea ec
                have hTX : Told w wr.drew [] (.slice none ([] : List ByteArray).length 0) := HT.out.kept (Below.refl _ _).drew
                have HTX := hide hTX
                clear hTX
                go_wp2
                go_region
                go_wp2_with (at_builtin; first
                    | (refine wpList_append_Own _ rfl (.tmp 59) (.tmp 62) 35 rfl (nw wr.drew wr.drew) 9 (.string ⟨#[]⟩) 1 16 Tryz.underlying35 infoString rfl (by decide) (.slice none 0 0) [] rfl (Own.nil _ _ _ _) (.slice none 0 0) (strRows (([] : List ByteArray))) rfl ⟨(strRows_one' _).1, (strRows_one' _).2, .inl ⟨rfl, rfl⟩⟩ 0 (by rw [len_strRows]; simp) (by unfold maxLen; omega) (by omega) ?_; intro ao1 c1 w1 ho1 hg1 hb1; have HA1 := hide (told_append (base := []) (more := ([] : List ByteArray)) (Told.nil wr.drew) (by simp) ho1 hg1); have e0 : w1.cell? ⟨r, 0, none⟩ = some (.slice (some ⟨g, 0, none⟩) nodes.length cap) := ((HTX.out.below.cell (p := ⟨r, 0, none⟩) hrlt).symm.trans (HA1.out.below.cell (p := ⟨r, 0, none⟩) (Nat.lt_of_lt_of_le hrlt HTX.out.below.size)).symm).symm.trans H0.out; have e1 : w1.cell? ⟨g, k * 6, none⟩ = some (.string x.name) := ((HTX.out.below.cell (p := ⟨g, k * 6, none⟩) hglt).symm.trans (HA1.out.below.cell (p := ⟨g, k * 6, none⟩) (Nat.lt_of_lt_of_le hglt HTX.out.below.size)).symm).symm.trans Hx0.out; clear ho1 hg1 hb1)
                    | (refine wpList_append_Own _ rfl (.tmp 64) (.tmp 73) 35 rfl (nw wr.drew (w1.alloc (.cells #[.string x.name] 9))) 9 (.string ⟨#[]⟩) 1 16 Tryz.underlying35 infoString rfl (by decide) (.slice ao1 0 c1) (strRows (([] : List ByteArray))) rfl (HA1.out.kept ((Below.refl _ _).alloc (Nat.le_refl _) _)).own (.slice (some ⟨w1.heap.size, 0, none⟩) 1 1) (strRows [x.name]) rfl (SrcIs.ofBlock (cs := #[.string x.name]) (heap_alloc_new w1 _) rfl (by simp [Value.oneCell'])) (0 + 1) (by rw [len_strRows]; simp [strRows]) (by unfold maxLen; omega) (by omega) ?_; intro ao2 c2 w2 ho2 hg2 hb2; have HA2 := hide (told_append (base := ([] : List ByteArray)) (more := [x.name]) (HA1.out.kept ((Below.refl _ _).alloc (Nat.le_refl _) _)) (by simp) ho2 hg2); clear ho2 hg2 hb2)
                    | (refine wpList_append_Own _ rfl (.tmp 75) (.tmp 78) 35 rfl (nw wr.drew w2) 9 (.string ⟨#[]⟩) 1 16 Tryz.underlying35 infoString rfl (by decide) (.slice ao2 (0 + 1) c2) (strRows (([] : List ByteArray) ++ [x.name])) rfl HA2.out.own (.slice none 0 0) (strRows []) rfl ⟨(strRows_one' _).1, (strRows_one' _).2, .inl ⟨rfl, rfl⟩⟩ (0 + 1) (by rw [len_strRows]; simp [strRows]) (by unfold maxLen; omega) (by omega) ?_; intro ao3 c3 w3 ho3 hg3 hb3; have HA3 := hide (told_append (base := ([] : List ByteArray) ++ [x.name]) (more := []) HA2.out (by simp) ho3 hg3); clear ho3 hg3 hb3))
                have eB : refNames d (nodes.take (k + 1)) = ([] : List ByteArray) ++ [x.name] ++ [] := by
                  rw [Hsu.out, Hn.out, HI.out]
                  simp
                refine ⟨⟨k + 1, by omega, by go_num, ?_, ?_⟩, by simp [intOf]; omega⟩
                · rw [eB]
                  simp at hkl ⊢ <;> omega
                · rw [eB]
                  exact HA3.out.wide HTX.out.below
              · rw [len_strRows] at e hcap5
                simp only [Value.slice.injEq, true_and] at e
                obtain ⟨rfl, rfl⟩ := e
                have hco : co ≤ 9223372036854775807 := by unfold maxLen at hmax5; omega
                have hTX : Told w wr.drew B (.slice (some ⟨g5, 0, none⟩) B.length co) := HT.out.kept (Below.refl _ _).drew
                have HTX := hide hTX
                clear hTX hmax5
                by_cases hcq : co = B.length
                · subst hcq
                  go_wp2
                  go_region
                  go_wp2_with (at_builtin; first
                    | (refine wpList_append_Own _ rfl (.tmp 59) (.tmp 62) 35 rfl (nw wr.drew wr.drew) 9 (.string ⟨#[]⟩) 1 16 Tryz.underlying35 infoString rfl (by decide) (.slice none 0 0) [] rfl (Own.nil _ _ _ _) (.slice (some ⟨g5, 0, none⟩) B.length B.length) (strRows (B)) rfl (by have := src_piece HTX.out.own (Below.refl _ _) 0 B.length B.length (by omega); rw [List.drop_zero, List.take_length] at this; exact this) B.length (by rw [len_strRows]; simp) (by unfold maxLen; omega) (by omega) ?_; intro ao1 c1 w1 ho1 hg1 hb1; have HA1 := hide (told_append (base := []) (more := B) (Told.nil wr.drew) (by simp) ho1 hg1); have e0 : w1.cell? ⟨r, 0, none⟩ = some (.slice (some ⟨g, 0, none⟩) nodes.length cap) := ((HTX.out.below.cell (p := ⟨r, 0, none⟩) hrlt).symm.trans (HA1.out.below.cell (p := ⟨r, 0, none⟩) (Nat.lt_of_lt_of_le hrlt HTX.out.below.size)).symm).symm.trans H0.out; have e1 : w1.cell? ⟨g, k * 6, none⟩ = some (.string x.name) := ((HTX.out.below.cell (p := ⟨g, k * 6, none⟩) hglt).symm.trans (HA1.out.below.cell (p := ⟨g, k * 6, none⟩) (Nat.lt_of_lt_of_le hglt HTX.out.below.size)).symm).symm.trans Hx0.out; clear ho1 hg1 hb1)
                    | (refine wpList_append_Own _ rfl (.tmp 64) (.tmp 73) 35 rfl (nw wr.drew (w1.alloc (.cells #[.string x.name] 9))) 9 (.string ⟨#[]⟩) 1 16 Tryz.underlying35 infoString rfl (by decide) (.slice ao1 B.length c1) (strRows (B)) rfl (HA1.out.kept ((Below.refl _ _).alloc (Nat.le_refl _) _)).own (.slice (some ⟨w1.heap.size, 0, none⟩) 1 1) (strRows [x.name]) rfl (SrcIs.ofBlock (cs := #[.string x.name]) (heap_alloc_new w1 _) rfl (by simp [Value.oneCell'])) (B.length + 1) (by rw [len_strRows]; simp [strRows]) (by unfold maxLen; omega) (by omega) ?_; intro ao2 c2 w2 ho2 hg2 hb2; have HA2 := hide (told_append (base := B) (more := [x.name]) (HA1.out.kept ((Below.refl _ _).alloc (Nat.le_refl _) _)) (by simp) ho2 hg2); clear ho2 hg2 hb2)
                    | (refine wpList_append_Own _ rfl (.tmp 75) (.tmp 78) 35 rfl (nw wr.drew w2) 9 (.string ⟨#[]⟩) 1 16 Tryz.underlying35 infoString rfl (by decide) (.slice ao2 (B.length + 1) c2) (strRows (B ++ [x.name])) rfl HA2.out.own (.slice _ 0 _) (strRows []) rfl (src_none _ _ _) (B.length + 1) (by rw [len_strRows]; simp [strRows]) (by unfold maxLen; omega) (by omega) ?_; intro ao3 c3 w3 ho3 hg3 hb3; have HA3 := hide (told_append (base := B ++ [x.name]) (more := []) HA2.out (by simp) ho3 hg3); clear ho3 hg3 hb3))
                  have eB : refNames d (nodes.take (k + 1)) = B ++ [x.name] ++ [] := by
                    rw [Hsu.out, Hn.out, HI.out]
                    simp
                  refine ⟨⟨k + 1, by omega, by go_num, ?_, ?_⟩, by simp [intOf]; omega⟩
                  · rw [eB]
                    simp at hkl ⊢ <;> omega
                  · rw [eB]
                    exact HA3.out.wide HTX.out.below
                · skip
                  go_wp2
                  go_region
                  go_wp2_with (at_builtin; first
                    | (refine wpList_append_Own _ rfl (.tmp 59) (.tmp 62) 35 rfl (nw wr.drew wr.drew) 9 (.string ⟨#[]⟩) 1 16 Tryz.underlying35 infoString rfl (by decide) (.slice none 0 0) [] rfl (Own.nil _ _ _ _) (.slice (some ⟨g5, 0, none⟩) B.length co) (strRows (B)) rfl (by have := src_piece HTX.out.own (Below.refl _ _) 0 B.length co (by omega); rw [List.drop_zero, List.take_length] at this; exact this) B.length (by rw [len_strRows]; simp) (by unfold maxLen; omega) (by omega) ?_; intro ao1 c1 w1 ho1 hg1 hb1; have HA1 := hide (told_append (base := []) (more := B) (Told.nil wr.drew) (by simp) ho1 hg1); have e0 : w1.cell? ⟨r, 0, none⟩ = some (.slice (some ⟨g, 0, none⟩) nodes.length cap) := ((HTX.out.below.cell (p := ⟨r, 0, none⟩) hrlt).symm.trans (HA1.out.below.cell (p := ⟨r, 0, none⟩) (Nat.lt_of_lt_of_le hrlt HTX.out.below.size)).symm).symm.trans H0.out; have e1 : w1.cell? ⟨g, k * 6, none⟩ = some (.string x.name) := ((HTX.out.below.cell (p := ⟨g, k * 6, none⟩) hglt).symm.trans (HA1.out.below.cell (p := ⟨g, k * 6, none⟩) (Nat.lt_of_lt_of_le hglt HTX.out.below.size)).symm).symm.trans Hx0.out; clear ho1 hg1 hb1)
                    | (refine wpList_append_Own _ rfl (.tmp 64) (.tmp 73) 35 rfl (nw wr.drew (w1.alloc (.cells #[.string x.name] 9))) 9 (.string ⟨#[]⟩) 1 16 Tryz.underlying35 infoString rfl (by decide) (.slice ao1 B.length c1) (strRows (B)) rfl (HA1.out.kept ((Below.refl _ _).alloc (Nat.le_refl _) _)).own (.slice (some ⟨w1.heap.size, 0, none⟩) 1 1) (strRows [x.name]) rfl (SrcIs.ofBlock (cs := #[.string x.name]) (heap_alloc_new w1 _) rfl (by simp [Value.oneCell'])) (B.length + 1) (by rw [len_strRows]; simp [strRows]) (by unfold maxLen; omega) (by omega) ?_; intro ao2 c2 w2 ho2 hg2 hb2; have HA2 := hide (told_append (base := B) (more := [x.name]) (HA1.out.kept ((Below.refl _ _).alloc (Nat.le_refl _) _)) (by simp) ho2 hg2); clear ho2 hg2 hb2)
                    | (refine wpList_append_Own _ rfl (.tmp 75) (.tmp 78) 35 rfl (nw wr.drew w2) 9 (.string ⟨#[]⟩) 1 16 Tryz.underlying35 infoString rfl (by decide) (.slice ao2 (B.length + 1) c2) (strRows (B ++ [x.name])) rfl HA2.out.own (.slice _ 0 _) (strRows []) rfl (src_none _ _ _) (B.length + 1) (by rw [len_strRows]; simp [strRows]) (by unfold maxLen; omega) (by omega) ?_; intro ao3 c3 w3 ho3 hg3 hb3; have HA3 := hide (told_append (base := B ++ [x.name]) (more := []) HA2.out (by simp) ho3 hg3); clear ho3 hg3 hb3))
                  have eB : refNames d (nodes.take (k + 1)) = B ++ [x.name] ++ [] := by
                    rw [Hsu.out, Hn.out, HI.out]
                    simp
                  refine ⟨⟨k + 1, by omega, by go_num, ?_, ?_⟩, by simp [intOf]; omega⟩
                  · rw [eB]
                    simp at hkl ⊢ <;> omega
                  · rw [eB]
                    exact HA3.out.wide HTX.out.below
      · have Hn := hide (show refAdd d B x = B by unfold refAdd; rw [if_neg (fun q => h1 q.1)])
        go_wp2
        refine ⟨⟨k + 1, by omega, by go_num, ?_, ?_⟩, by simp [intOf]; omega⟩
        · rw [Hsu.out, Hn.out]; omega
        · rw [Hsu.out, Hn.out]; exact HTo.out
    · go_wp2
      go_ret
      refine ⟨_, rfl, ?_⟩
      have e := HB.out
      rw [List.take_of_length_le (by omega)] at e
      rw [← e]
      exact HTo.out

/-- 'names': a directory's names, in order. -/
theorem refNames_any {w : World} {F : Nat → Prop} {r : Nat} {st : St} (d : Nat) (h0 : 0 < st.nodes.length) (hl : st.nodes.length ≤ 1700000000000) (hu : UniqL st.nodes) (h : RefIs w F r st) :
    Calls Tryz.prog 151 #[.pointer (some ⟨r, 0, none⟩), .int .i64 d] w fun e w' => ∃ out, e = .returned out ∧ Told w w' (namesOf st d) out := by
  obtain ⟨nv, lv, fv, h⟩ := h
  obtain ⟨g, cap, rfl, hmax, hF, hb, hcell, hfz⟩ := h.nodesAt h0
  rw [← refNames_eq hu d]
  exact names_core r g cap st.nodes d w hl h.c0 (fun i x hx => ⟨(hcell i x hx).1, (hcell i x hx).2.2.1, (hcell i x hx).2.2.2.2.2⟩)
end Go.Proofs.YtdmdgnghaceibaaGreat.P
/- The reference's 'Write'. -/
namespace Go.Proofs.YtdmdgnghaceibaaGreat
open M Go.ChangeShapes Go.WideShapes Go.ChangeAt Go.RowKit
set_option linter.unusedVariables false

/-- One cell of one node is stored. -/
theorem RefHas.setNode {w : World} {F : Nat → Prop} {r g cap i k : Nat} {st : St} {lv fv v : Value} {x x' : Nd} (h : RefHas w F r st (.slice (some ⟨g, 0, none⟩) st.nodes.length cap) lv fv) (hx : st.nodes[i]? = some x) (hk : k < 6) (hc : (nodeCells x).set k v = nodeCells x') :
    RefHas (w.setCell ⟨g, i * 6 + k, none⟩ v) F r (M.setNode st i x') (.slice (some ⟨g, 0, none⟩) st.nodes.length cap) lv fv := by
  have hz : (st.nodes.map nodeCells)[i]? = some (nodeCells x) := by rw [List.getElem?_map, hx]; rfl
  rcases h.nodes.opened with ⟨hv, _⟩ | ⟨g', cap', hv, _, _, _, ⟨cur, hb⟩, _⟩
  · simp at hv
  simp at hv
  obtain ⟨rfl, _⟩ := hv
  have hkp : KeepT (fun e => e ≠ 184) F w (w.setCell ⟨g, i * 6 + k, none⟩ v) := (KeepT.refl _ _ _).setCell (a := ⟨g, i * 6 + k, none⟩) hb (by simp) _
  refine ⟨(hkp r _ _ h.own h.blk (by decide)).trans h.blk, h.own, ?_, h.laid.keepT hkp (by decide) (by decide), h.fids.keepT hkp (by decide) (by decide) (by decide)⟩
  have := h.nodes.set (k := k) hz hk v
  rw [hc] at this
  have e : (st.nodes.map nodeCells).set i (nodeCells x') = (M.setNode st i x').nodes.map nodeCells := by simp [M.setNode, List.map_set]
  rw [e] at this
  exact this

def Ends5 (w : World) (F : Nat → Prop) (r : Nat) (p : St × Int × Int) (e : Ending) (w' : World) : Prop := e = .returned (.tuple #[.int .i64 p.2.1, .int .i64 p.2.2]) ∧ RefIs w' (ext F w w') r p.1 ∧ Ext F w w'

theorem Ends5.same {w w1 w' : World} {F : Nat → Prop} {r : Nat} {st' : St} {c d : Int} {p : St × Int × Int} {e : Ending} (hp : p = (st', c, d)) (he : e = .returned (.tuple #[.int .i64 c, .int .i64 d])) (h1 : RefIs w1 F r st') (hx : Ext F w w1) (hb : Below w1.heap.size w1 w') : Ends5 w F r p e w' := by
  subst hp
  exact ⟨he, (h1.below hb).mono (fun k hk => .inl hk), hx.trans' (Ext.below hb)⟩

/-- A node's version and bytes are stored. -/
theorem write_close {w : World} {F : Nat → Prop} {r g cap i : Nat} {st : St} {lv fv : Value} {x : Nd} (h : RefHas w F r st (.slice (some ⟨g, 0, none⟩) st.nodes.length cap) lv fv) (hx : st.nodes[i]? = some x) (v : Int) (d : ByteArray) :
    RefIs ((w.setCell ⟨g, i * 6 + 4, none⟩ (.int .i64 v)).setCell ⟨g, i * 6 + 3, none⟩ (.string d)) F r (M.setNode st i { x with version := v, data := d }) := by
  have h1 := h.setNode (k := 4) (v := .int .i64 v) (x' := { x with version := v }) hx (by omega) rfl
  have hx1 : (M.setNode st i { x with version := v }).nodes[i]? = some { x with version := v } := by
    simp only [M.setNode]
    exact List.getElem?_set_self (M.lt_of_getElem? hx)
  have hl : (M.setNode st i { x with version := v }).nodes.length = st.nodes.length := by simp [M.setNode]
  have h2 := RefHas.setNode (st := M.setNode st i { x with version := v }) (k := 3) (v := .string d) (x' := { x with version := v, data := d }) (by rw [hl]; exact h1) hx1 (by omega) rfl
  have e : M.setNode (M.setNode st i { x with version := v }) i { x with version := v, data := d } = M.setNode st i { x with version := v, data := d } := by simp [M.setNode, List.set_set]
  rw [e] at h2
  exact ⟨_, _, _, h2⟩

def strSize : Value → Nat
  | .string s => s.size
  | _ => 0

set_option maxRecDepth 20000 in
set_option maxHeartbeats 2000000 in
theorem write_any {w : World} {F : Nat → Prop} {r : Nat} {st : St} (n a : Int) (t : ByteArray) (h : RefIs w F r st) (ok : StOk st) (hdat : ∀ x ∈ st.nodes, x.data.size ≤ 300) (ht : t.size ≤ 140737488355328) :
    Calls Tryz.prog 114 #[.pointer (some ⟨r, 0, none⟩), .int .i64 n, .int .i64 a, .string t] w fun e w' => Ends5 w F r (mWrite st n a t) e w' := by
  have hoi : ∀ i, find st n = some i → i < (tick st).fids.length := fun i hi => by
    obtain ⟨f, hfi, _⟩ := find_some hi
    exact M.lt_of_getElem? hfi
  have hdef : mWrite st n a t = if mFile st (find st n) = 0 then
    (if a < 0 then (tick st, 0, (1 : Int)) else if 300 < a ∨ 300 < a + t.size then (tick st, 0, 12) else match find st n with
      | none => (tick st, 0, 2)
      | some i => match st.fids[i]? with
        | none => (tick st, 0, 2)
        | some f => match st.nodes[nodeOf f]? with
          | none => (tick st, 0, 2)
          | some x => (M.setNode (tick st) (nodeOf f) (wroteNd x a.toNat t), (t.size : Int), 0))
  else (tick st, 0, mFile st (find st n)) := rfl
  have HD := hide hdef
  clear hdef
  go_enter Tryz.func114, Tryz.ntmps114
  go_wp2_with fail
  refine (call_any n h).mono ?_
  rintro e w1 ⟨rfl, h1, hx1, hsz1⟩
  have H1 := hide h1
  have Hx := hide hx1
  have Hfile := hide (file_any (st := tick st) (find st n) hoi h1 ⟨ok.pos, ok.way, ok.laid, ok.few⟩)
  rw [show mFile (tick st) (find st n) = mFile st (find st n) from rfl] at Hfile
  have Hoi := hide hoi
  clear h hx1 hsz1 h1 hoi
  generalize hfo : find st n = fo at *
  have Hfo := hide hfo
  clear hfo
  go_wp2_with fail
  refine Hfile.out.mono ?_
  rintro e w2 ⟨rfl, hb2⟩
  have HB2 := hide hb2
  clear hb2 Hfile
  by_cases hm : mFile st fo = 0
  · rw [if_pos hm] at HD
    have Hm := hide hm
    rw [hm]
    clear hm
    by_cases ha : a < 0
    · rw [if_pos ha] at HD
      go_wp2
      go_ret2
      exact Ends5.same HD.out rfl H1.out Hx.out HB2.out
    · rw [if_neg ha] at HD
      obtain ⟨an, rfl⟩ := Int.eq_ofNat_of_zero_le (show 0 ≤ a by omega)
      by_cases hbig : 300 < (an : Int) ∨ 300 < (an : Int) + t.size
      · rw [if_pos hbig] at HD
        by_cases hb1 : 300 < (an : Int)
        · clear hbig
          go_wp2
          go_ret2
          exact Ends5.same HD.out rfl H1.out Hx.out HB2.out
        · have hb2 : 300 < (an : Int) + (t.size : Int) := by omega
          clear hbig
          go_wp2
          go_ret2
          exact Ends5.same HD.out rfl H1.out Hx.out HB2.out
      · rw [if_neg hbig] at HD
        have b1 : ¬ 300 < (an : Int) := by omega
        have b2 : ¬ 300 < (an : Int) + (t.size : Int) := by omega
        have b3 : decide (300 < (an : Int)) = false := by simpa using b1
        clear hbig
        cases hfo2 : fo with
        | none => have := Hm.out; rw [hfo2] at this; simp [mFile] at this
        | some i =>
          rw [hfo2] at HD Hm Hoi
          obtain ⟨f, hfi⟩ := getElem?_of_lt (show i < st.fids.length from Hoi.out i rfl)
          obtain ⟨s, hs, hsn, _, hno⟩ := ok.last (List.mem_of_getElem? hfi)
          obtain ⟨x, hx⟩ := getElem?_of_lt hsn
          have hxs := hdat x (List.mem_of_getElem? hx)
          have HD2 := hide (show mWrite st n (an : Int) t = (M.setNode (tick st) s.n (wroteNd x an t), (t.size : Int), 0) by rw [HD.out]; simp [hfi, hno, hx])
          have Hnode := hide (node_any (st := tick st) i f s hfi hs hsn (H1.out.below HB2.out))
          obtain ⟨nv, lv, fv, hR⟩ := H1.out.below HB2.out
          obtain ⟨g, cap, rfl, _, hFg, _, hcell, hfz⟩ := hR.nodesAt ok.pos
          have hc0 : w2.cell? ⟨r, 0, none⟩ = some (.slice (some ⟨g, 0, none⟩) st.nodes.length cap) := hR.c0
          obtain ⟨_, _, _, x3, x4, _⟩ := hcell s.n x hx
          have f3 := hfz (s.n * 6 + 3)
          have f4 := hfz (s.n * 6 + 4)
          have HR := hide hR
          have HX := hide hx
          have HFg := hide hFg
          clear hR hcell HD hfo2 hx hfi hs Hoi hfz hFg
          simp only [idxV]
          go_wp2_with fail
          refine Hnode.out.mono ?_
          rintro e w3 ⟨g', cap', hcc, rfl, hb3⟩
          have hgg : g' = g := by rw [hc0] at hcc; simp at hcc; exact hcc.1.symm
          subst hgg
          have y3 : w3.cell? ⟨g', s.n * 6 + 3, none⟩ = some (.string x.data) := (hb3.cell (World.block_lt_of_cell? w2 _ x3)).trans x3
          have y4 : w3.cell? ⟨g', s.n * 6 + 4, none⟩ = some (.int .i64 x.version) := (hb3.cell (World.block_lt_of_cell? w2 _ x4)).trans x4
          have e3 : w3.frozen? ⟨g', s.n * 6 + 3, none⟩ = false := (hb3.frozen (World.block_lt_of_cell? w2 ⟨g', s.n * 6 + 3, none⟩ x3)).trans f3
          have e4 : w3.frozen? ⟨g', s.n * 6 + 4, none⟩ = false := (hb3.frozen (World.block_lt_of_cell? w2 ⟨g', s.n * 6 + 4, none⟩ x4)).trans f4
          have HR3 : Hid (RefHas w3 F r (tick st) (.slice (some ⟨g', 0, none⟩) (tick st).nodes.length cap) lv fv) := hide (by
            have hk : KeepT (fun _ => True) F w2 w3 := KeepT.below hb3
            have hR := HR.out
            exact ⟨(hk r _ _ hR.own hR.blk trivial).trans hR.blk, hR.own, hR.nodes.keepT hk trivial, hR.laid.keepT hk trivial trivial, hR.fids.keepT hk trivial trivial trivial⟩)
          have HX3 : Hid (Ext F w w3) := hide (Hx.out.trans' ((Ext.below HB2.out).trans' (Ext.below hb3)))
          clear hb3 hcc x3 x4 hc0 f3 f4
          by_cases hz : t.size = 0
          · have hz' : ((t.size : Int) == 0) = true := by simp [hz]
            have Hz := hide hz
            clear hz
            go_wp2
            go_ret2
            have hw : wroteNd x an t = { x with version := wrap64 (x.version + 1) } := by unfold wroteNd; rw [if_pos Hz.out]
            refine ⟨by rw [HD2.out]; simp [Hz.out], ?_, HX3.out.setCell (.inl HFg.out) _⟩
            rw [HD2.out, hw]
            exact ⟨_, _, _, (HR3.out.setNode (k := 4) (v := .int .i64 (wrap64 (x.version + 1))) HX.out (by omega) rfl)⟩ |> fun h => RefIs.mono h (fun k hk => .inl hk)
          · have hz' : ((t.size : Int) == 0) = false := by rw [beq_eq_false_iff_ne]; omega
            have Hz := hide hz
            clear hz
            go_wp2
            go_loop [13] (fun v => ∃ (k : Nat) (D : ByteArray), v = .string D ∧ D = x.data ++ zeros k ∧ k ≤ an - x.data.size) (fun v => an - strSize v)
            case atStart => exact ⟨0, x.data, rfl, (zeros_none _).symm, by omega⟩
            case round =>
              obtain ⟨k, D, rfl, hD, hk⟩ := hrel
              have hDs : D.size = x.data.size + k := by rw [hD, ByteArray.size_append, size_zeros]
              by_cases hlt : D.size < an
              · have hlt' : (D.size : Int) < (an : Int) := by omega
                have HD3 := hide hD
                have HDs := hide hDs
                clear hD hDs
                go_wp2
                go_round
                case rel => exact ⟨k + 1, _, rfl, by rw [HD3.out, zeros_more], by have := HDs.out; omega⟩
                case measure =>
                  show an - (D ++ ⟨#[0]⟩ : ByteArray).size < an - D.size
                  rw [ByteArray.size_append]
                  have h1 : (⟨#[0]⟩ : ByteArray).size = 1 := rfl
                  omega
              · have hlt' : ¬ (D.size : Int) < (an : Int) := by omega
                have HP := hide (show D = padded x.data an by rw [hD]; unfold padded; congr 2; omega)
                have hle : an ≤ D.size := by omega
                have hD3 : D.size ≤ 600 := by omega
                clear hD hDs
                by_cases hr : an + t.size < D.size
                · have hr' : (an : Int) + (t.size : Int) < (D.size : Int) := by omega
                  go_wp2
                  go_ret2
                  have hw : wroteNd x an t = { x with version := wrap64 (x.version + 1), data := D.extract 0 an ++ t ++ D.extract (an + t.size) D.size } := by
                    unfold wroteNd over
                    rw [if_neg Hz.out, ← HP.out, if_pos hr]
                  refine ⟨by rw [HD2.out]; rfl, ?_, (HX3.out.setCell (.inl HFg.out) _).setCell (.inl HFg.out) _⟩
                  rw [HD2.out, hw]
                  exact (write_close HR3.out HX.out _ _).mono (fun k hk => .inl hk)
                · have hr' : ¬ (an : Int) + (t.size : Int) < (D.size : Int) := by omega
                  go_wp2
                  go_ret2
                  have hw : wroteNd x an t = { x with version := wrap64 (x.version + 1), data := D.extract 0 an ++ t ++ ⟨#[]⟩ } := by
                    unfold wroteNd over
                    rw [if_neg Hz.out, ← HP.out, if_neg hr]
                  refine ⟨by rw [HD2.out]; rfl, ?_, (HX3.out.setCell (.inl HFg.out) _).setCell (.inl HFg.out) _⟩
                  rw [HD2.out, hw]
                  exact (write_close HR3.out HX.out _ _).mono (fun k hk => .inl hk)
  · rw [if_neg hm] at HD
    have hne : (mFile st fo != 0) = true := by simpa using hm
    clear hm
    generalize mFile st fo = al at *
    go_wp2
    go_ret2
    exact Ends5.same HD.out rfl H1.out Hx.out HB2.out
end Go.Proofs.YtdmdgnghaceibaaGreat
/- The reference's busy, Remove. -/
namespace Go.Proofs.YtdmdgnghaceibaaGreat.P
open M Go.ChangeShapes Go.WideShapes Go.ChangeAt Go.RowKit
set_option linter.unusedVariables false

theorem any_upto {α : Type} (p : α → Bool) (l : List α) (k : Nat) (x : α) (hx : l[k]? = some x) (h : (l.take k).any p = false) : (l.take (k + 1)).any p = p x := by
  have hlt := M.lt_of_getElem? hx
  have e : l[k] = x := by rw [List.getElem?_eq_getElem hlt] at hx; exact Option.some.inj hx
  rw [List.take_succ_eq_append_getElem hlt, e, List.any_append, h]
  simp
theorem any_at {α : Type} (p : α → Bool) (l : List α) (k : Nat) (x : α) (hx : l[k]? = some x) (h : p x = true) : l.any p = true := by
  rw [List.any_eq_true]
  exact ⟨x, List.mem_of_getElem? hx, h⟩

/-- How what is bound lies there. -/
theorem laids_at {w : World} {F : Nat → Prop} {v : Value} {laid : List Laid} (h : LaidsIs w F v laid) (i : Nat) (l : Laid) (hl : laid[i]? = some l) :
    ∃ (g cap : Nat) (rao : Option Addr) (rc : Nat), v = .slice (some ⟨g, 0, none⟩) laid.length cap ∧ laid.length ≤ maxLen ∧ w.cell? ⟨g, i * 2, none⟩ = some (.int .i64 l.onto) ∧ w.cell? ⟨g, i * 2 + 1, none⟩ = some (.slice rao l.row.length rc) ∧ l.row.length ≤ maxLen ∧
      ∀ k m, l.row[k]? = some m → ∃ rg, rao = some ⟨rg, 0, none⟩ ∧ w.cell? ⟨rg, k * 2, none⟩ = some (.int .i64 m.d) := by
  obtain ⟨vs, hE, hO⟩ := h
  have hlen : (List.zipWith laidCells vs laid).length = laid.length := by rw [List.length_zipWith, hE.1, Nat.min_self]
  obtain ⟨u, hu⟩ := M.getElem?_of_lt (show i < vs.length by rw [hE.1]; exact M.lt_of_getElem? hl)
  have hr := hE.2 i u l hu hl
  have hz : (List.zipWith laidCells vs laid)[i]? = some (laidCells u l) := by rw [List.getElem?_zipWith, hu, hl]
  rcases hO.opened with ⟨_, hn⟩ | ⟨g, cap, rfl, hcap, hmax, _, _, hc, _⟩
  · rw [hn] at hz
    simp at hz
  · rw [hlen] at hcap ⊢
    obtain ⟨rao, rc, rfl⟩ := hr.form
    have hrl : l.row.length ≤ maxLen := by
      rcases hr.opened with ⟨_, hn⟩ | ⟨rg, rcap, _, hrcap, hrmax, _⟩
      · have : l.row = [] := List.map_eq_nil_iff.1 hn
        rw [this]
        simp
      · rw [List.length_map] at hrcap
        omega
    refine ⟨g, cap, rao, rc, rfl, by omega, ?_, ?_, hrl, fun k m hm => ?_⟩
    · exact hc i _ 0 _ hz rfl
    · have := hc i _ 1 _ hz rfl
      rw [List.length_map] at this
      exact this
    · rcases hr.opened with ⟨_, hn⟩ | ⟨rg, rcap, e, _, _, _, _, hrc, _⟩
      · rw [List.map_eq_nil_iff.1 hn] at hm
        simp at hm
      · simp only [Value.slice.injEq] at e
        refine ⟨rg, e.1, ?_⟩
        exact hrc k (memberCells m) 0 _ (by rw [List.getElem?_map, hm]; rfl) rfl

set_option maxRecDepth 20000 in
set_option maxHeartbeats 2000000 in
theorem busy_any {w : World} {F : Nat → Prop} {r : Nat} {st : St} (d : Nat) (h : RefIs w F r st) (h0 : 0 < st.nodes.length) (hl : st.nodes.length ≤ 1700000000000) (hu : UniqL st.nodes) (hnl : (namesOf st d).length ≤ 100) :
    Calls Tryz.prog 145 #[.pointer (some ⟨r, 0, none⟩), .int .i64 d] w fun e w' => e = .returned (.bool (mBusy st d)) ∧ Below w.heap.size w w' := by
  have HN := hide (refNames_any d h0 hl hu h)
  have HR := hide h
  have He := hide (names_ne_nil (st := st) (d := d))
  go_enter Tryz.func145, Tryz.ntmps145
  go_wp2_with fail
  refine HN.out.mono ?_
  rintro e w1 ⟨v1, rfl, hT1⟩
  obtain ⟨ao, c, rfl⟩ := hT1.form
  have HB1 := hide hT1.below
  clear hT1
  by_cases hpos : 0 < (namesOf st d).length
  · have hp : (0 : Int) < ((namesOf st d).length : Int) := by omega
    have HB := hide (show mBusy st d = true by unfold mBusy; rw [He.out.2 hpos]; rfl)
    clear hpos h
    go_wp2
    go_ret
    exact ⟨by rw [HB.out]; rfl, HB1.out⟩
  · have hp : ¬ (0 : Int) < ((namesOf st d).length : Int) := by omega
    have HE := hide (show mBusy st d = st.laid.any (fun l => l.onto == d || rowHas l.row d) by
      unfold mBusy
      cases hh : hasEntry st d with
      | false => rfl
      | true => exact absurd (He.out.1 hh) hpos)
    obtain ⟨nv, lv, fv, hR⟩ := h
    have c1 : w1.cell? ⟨r, 1, none⟩ = some lv := (HB1.out.cell (World.block_lt_of_cell? w _ hR.c1)).trans hR.c1
    have hlaid := hR.laid.keepT (T := fun _ => True) (KeepT.below HB1.out) trivial trivial
    obtain ⟨lao, lc, rfl⟩ : ∃ lao lc, lv = .slice lao st.laid.length lc := by
      obtain ⟨vs, hE, hO⟩ := hR.laid
      obtain ⟨a, b, e⟩ := hO.form
      exact ⟨a, b, by rw [e, List.length_zipWith, hE.1, Nat.min_self]⟩
    have hll : st.laid.length ≤ maxLen := by
      cases hq : st.laid with
      | nil => simp
      | cons a t =>
        obtain ⟨_, _, _, _, _, hm, _⟩ := laids_at hlaid 0 a (by rw [hq]; rfl)
        rw [← hq]
        exact hm
    unfold maxLen at hll
    have HL := hide hlaid
    clear hpos hR hlaid HN
    go_wp2
    go_loop [5] (fun i => ∃ k : Nat, k ≤ st.laid.length ∧ i = .int .i64 k ∧ (st.laid.take k).any (fun l => l.onto == d || rowHas l.row d) = false) (fun i => st.laid.length - (intOf i).toNat)
    case atStart => exact ⟨0, Nat.zero_le _, rfl, by simp⟩
    case round =>
      obtain ⟨k, hk, rfl, hany⟩ := hrel
      have Hany := hide hany
      clear hany
      by_cases hlt : k < st.laid.length
      · obtain ⟨l, hl2⟩ := M.getElem?_of_lt hlt
        obtain ⟨g, cap, rao, rc, ev, _, k0, k1, hrl, hrow⟩ := laids_at HL.out k l hl2
        simp only [Value.slice.injEq, true_and] at ev
        obtain ⟨rfl, rfl⟩ := ev
        have Hl := hide hl2
        have Hrow := hide hrow
        have i0 : (0 : Int) ≤ (k : Int) := by omega
        have i1 : (k : Int) < (st.laid.length : Int) := by omega
        unfold maxLen at hrl
        clear hl2 hrow
        by_cases ho : l.onto = d
        · have hq : ((l.onto : Int) == (d : Int)) = true := by simp [ho]
          have HB := hide (show mBusy st d = true by rw [HE.out]; exact any_at _ _ k l Hl.out (by simp [ho]))
          clear ho
          go_wp2
          go_ret
          exact ⟨by rw [HB.out]; rfl, HB1.out⟩
        · have hq : ((l.onto : Int) == (d : Int)) = false := by simp; omega
          have Ho := hide ho
          clear ho
          go_wp2
          go_loop [6] (fun i => ∃ j : Nat, j ≤ l.row.length ∧ i = .int .i64 j ∧ (l.row.take j).any (fun m => m.d == d) = false) (fun i => l.row.length - (intOf i).toNat)
          case atStart => exact ⟨0, Nat.zero_le _, rfl, by simp⟩
          case round =>
            obtain ⟨j, hj, rfl, hanyj⟩ := hrel
            have Hanyj := hide hanyj
            clear hanyj
            by_cases hjlt : j < l.row.length
            · obtain ⟨m, hm⟩ := M.getElem?_of_lt hjlt
              obtain ⟨rg, rfl, cm⟩ := Hrow.out j m hm
              have Hm := hide hm
              have j0 : (0 : Int) ≤ (j : Int) := by omega
              have j1 : (j : Int) < (l.row.length : Int) := by omega
              clear hm
              by_cases hmd : m.d = d
              · have hq2 : ((m.d : Int) == (d : Int)) = true := by simp [hmd]
                have HB := hide (show mBusy st d = true by
                  rw [HE.out]
                  exact any_at _ _ k l Hl.out (by rw [show rowHas l.row d = true from any_at _ _ j m Hm.out (by simp [hmd])]; simp))
                clear hmd
                go_wp2
                go_ret
                exact ⟨by rw [HB.out]; rfl, HB1.out⟩
              · have hq2 : ((m.d : Int) == (d : Int)) = false := by simp; omega
                have Hmd := hide hmd
                clear hmd
                go_wp2
                go_round
                case rel => exact ⟨j + 1, by omega, by go_num, by rw [any_upto _ _ j m Hm.out Hanyj.out]; simpa using Hmd.out⟩
                case measure => simp [intOf]; omega
            · have Hno := hide (show rowHas l.row d = false by
                have e := Hanyj.out
                rw [List.take_of_length_le (by omega)] at e
                exact e)
              have HN := hide (show (st.laid.take (k + 1)).any (fun l => l.onto == d || rowHas l.row d) = false by rw [any_upto _ _ k l Hl.out Hany.out, Hno.out]; simpa using Ho.out)
              go_wp2
              go_round
              case rel => exact ⟨k + 1, by omega, by go_num, by have := HN.out; simpa using this⟩
              case measure => simp [intOf]; omega
      · have HB := hide (show mBusy st d = false by
          rw [HE.out]
          have e := Hany.out
          rw [List.take_of_length_le (by omega)] at e
          exact e)
        go_wp2
        go_ret
        exact ⟨by rw [HB.out]; rfl, HB1.out⟩
end Go.Proofs.YtdmdgnghaceibaaGreat.P
/- The reference's Remove. -/
namespace Go.Proofs.YtdmdgnghaceibaaGreat.P
open M Go.ChangeShapes Go.WideShapes Go.ChangeAt Go.RowKit
set_option linter.unusedVariables false

set_option maxRecDepth 20000 in
set_option maxHeartbeats 2000000 in
theorem rremove_any {w : World} {F : Nat → Prop} {r : Nat} {st : St} (n : Int) (h : RefIs w F r st) (pok : POk st) (hu : UniqL st.nodes) (hnod : st.nodes.length ≤ 1700000000000) :
    Calls Tryz.prog 109 #[.pointer (some ⟨r, 0, none⟩), .int .i64 n] w fun e w' => Ends w F r (mRemove st n) e w' := by
  have ok : StOk st := ⟨pok.pos, fun f hf => ⟨(pok.way f hf).1, fun s hs => ⟨((pok.way f hf).2 s hs).1, fun m hm => (((pok.way f hf).2 s hs).2.1 m hm).1⟩⟩, fun l hl m hm => ((pok.laid l hl).1 m hm).1, FidsOk.few pok.fids⟩
  cases hf : find st n with
  | none =>
    have H := hide (show mRemove st n = (tick st, 2) by simp [mRemove, hf])
    go_enter Tryz.func109, Tryz.ntmps109
    go_wp2_with fail
    refine (call_any n h).mono ?_
    rintro e w1 ⟨rfl, h1, hx, hsz⟩
    have H1 := hide h1
    have Hx := hide hx
    rw [hf]
    clear hf h h1 hx hsz
    simp only [idxV]
    go_wp2
    go_ret
    exact Ends.same H.out rfl H1.out Hx.out (Below.refl _ _)
  | some i =>
    obtain ⟨f, hfi, _⟩ := find_some hf
    have hi := M.lt_of_getElem? hfi
    have hmem := List.mem_of_getElem? hfi
    obtain ⟨s, hs, hsn, hrok, hno⟩ := ok.last hmem
    obtain ⟨x, hx⟩ := getElem?_of_lt hsn
    have HD := hide (mRemove_eq hf hfi (by rw [hno]; exact hx))
    rw [hno] at HD
    have i0 : (0 : Int) ≤ (i : Int) := by omega
    have i1 : (i : Int) < (st.fids.length : Int) := by omega
    have hfl : st.fids.length ≤ 100000 := by have := ok.few; omega
    go_enter Tryz.func109, Tryz.ntmps109
    go_wp2_with fail
    refine (call_any n h).mono ?_
    rintro e w1 ⟨rfl, h1, hx1, hsz⟩
    have H1 := hide h1
    have Hx := hide hx1
    have Hsz := hide hsz
    rw [hf]
    clear hf h hx1 hsz
    simp only [idxV]
    obtain ⟨nv, lv, fv, hR⟩ := h1
    obtain ⟨fg, fcap, wv, rfl, hfm, hFg, _, hway, _, cw, co, cfz⟩ := FidsIs.at (fids := st.fids) hR.fids i f hfi
    obtain ⟨gw, wcap, rao, rc, rfl, hwpos, hwmax, hrow, s0, s1⟩ := hway.last s hs
    have c2 := hR.c2
    have Hspot := hide (spot_core fg (i * 3) gw f.way.length wcap s.n rao s.row.length rc w1 hwpos hwmax cw s0 s1)
    have Hfi := hide hfi
    have HX := hide hx
    have Hpok := hide pok
    have Hu := hide hu
    have hfd : ∀ (u : Value) (W : World), (Instr.field 212 (.agg #[.int .i64 s.n, u]) 0).run Tryz.prog W = .ok (.int .i64 s.n) W := fun _ _ => by kernel_rfl
    unfold maxLen at hfm
    clear hR cfz hfi hs hFg hway hrow hx cw co s0 s1 pok hu hrok
    go_wp2_with fail
    refine Hspot.out.mono ?_
    rintro e w2 ⟨rfl, hb2⟩
    have HB2 := hide hb2
    have Hdrop := hide (drop_any (st := tick st) i hi (H1.out.below hb2) hfl)
    clear hb2 Hspot
    go_wp2_with fail
    refine Hdrop.out.mono ?_
    rintro e w3 ⟨rfl, h3, hx3, _⟩
    have H3 := hide h3
    have HX3 := hide (Hx.out.trans' ((Ext.below HB2.out).trans' hx3))
    have HF3 := hide (show ∀ k, ext F w2 w3 k → ext F w w3 k from fun k hk => by
      rcases hk with hk | hk
      · exact .inl hk
      · exact .inr ⟨by have := HB2.out.size; have := Hsz.out; omega, hk.2⟩)
    clear hx3 Hdrop
    obtain ⟨nv3, lv3, fv3, hR3⟩ := h3
    obtain ⟨g, cap, rfl, hmax, hFn, hb, hcell, hfz⟩ := hR3.nodesAt (show 0 < (mDrop (tick st) i).nodes.length from ok.pos)
    have hc0 : w3.cell? ⟨r, 0, none⟩ = some (.slice (some ⟨g, 0, none⟩) st.nodes.length cap) := hR3.c0
    obtain ⟨_, d1, _, _, _, d5⟩ := hcell s.n x HX.out
    have HR3 := hide hR3
    have HFn := hide hFn
    have b1 : (s.n : Int) < (st.nodes.length : Int) := by omega
    have b3 : (0 : Int) ≤ (s.n : Int) := by omega
    have hmax' : st.nodes.length ≤ maxLen := hmax
    unfold maxLen at hmax'
    have HBusy := hide (busy_any (F := ext F w2 w3) (r := r) (st := mDrop (tick st) i) s.n H3.out ok.pos hnod Hu.out (names_few (mDrop_ok Hpok.out.tick i) s.n))
    rw [show mBusy (mDrop (tick st) i) s.n = mBusy st s.n from rfl] at HBusy
    clear hR3 hcell hFn hb hmax
    cases hxg : x.gone with
    | true =>
      rw [hxg] at d5
      have HH := hide (show mRemove st n = (mDrop (tick st) i, 4) by rw [HD.out]; simp [removeE, hxg])
      clear hxg HD hfz
      go_wp2
      go_ret
      refine ⟨by rw [HH.out]; rfl, ?_, HX3.out⟩
      rw [HH.out]
      exact H3.out.mono HF3.out
    | false =>
      rw [hxg] at d5
      by_cases h0 : s.n = 0
      · have HH := hide (show mRemove st n = (mDrop (tick st) i, 9) by rw [HD.out]; simp [removeE, hxg, h0])
        have hq : ((s.n : Int) == 0) = true := by simp [h0]
        clear hxg HD hfz h0
        go_wp2
        go_ret
        refine ⟨by rw [HH.out]; rfl, ?_, HX3.out⟩
        rw [HH.out]
        exact H3.out.mono HF3.out
      · have hq : ((s.n : Int) == 0) = false := by simp; omega
        have H0 := hide h0
        clear h0
        go_wp2_with fail
        refine HBusy.out.mono ?_
        rintro e w4 ⟨rfl, hb4⟩
        have HB4 := hide hb4
        have e0 : w4.cell? ⟨r, 0, none⟩ = some (.slice (some ⟨g, 0, none⟩) st.nodes.length cap) := (hb4.cell (World.block_lt_of_cell? w3 _ hc0)).trans hc0
        have e1 : w4.cell? ⟨g, s.n * 6 + 1, none⟩ = some (.bool x.dir) := (hb4.cell (World.block_lt_of_cell? w3 _ d1)).trans d1
        have e5 : w4.cell? ⟨g, s.n * 6 + 5, none⟩ = some (.bool false) := (hb4.cell (World.block_lt_of_cell? w3 _ d5)).trans d5
        have z5 : w4.frozen? ⟨g, s.n * 6 + 5, none⟩ = false := (hb4.frozen (World.block_lt_of_cell? w3 ⟨g, s.n * 6 + 5, none⟩ d5)).trans (hfz _)
        have HX4 := hide (HX3.out.trans' (Ext.below hb4))
        have hz4 := hb4.size
        have HF4 := hide (show ∀ k, ext F w2 w3 k → ext F w w4 k from fun k hk => by
          rcases HF3.out k hk with hk | hk
          · exact .inl hk
          · exact .inr ⟨hk.1, by omega⟩)
        have HR4 : Hid (RefHas w4 (ext F w2 w3) r (mDrop (tick st) i) (.slice (some ⟨g, 0, none⟩) (mDrop (tick st) i).nodes.length cap) lv3 fv3) := hide (by
          have hk : KeepT (fun _ => True) (ext F w2 w3) w3 w4 := KeepT.below hb4
          have hR := HR3.out
          exact ⟨(hk r _ _ hR.own hR.blk trivial).trans hR.blk, hR.own, hR.nodes.keepT hk trivial, hR.laid.keepT hk trivial trivial, hR.fids.keepT hk trivial trivial trivial⟩)
        clear hb4 hz4 hfz hc0 d1 d5
        cases hxd : x.dir with
        | true =>
          rw [hxd] at e1
          cases hb : mBusy st s.n with
          | true =>
            have HH := hide (show mRemove st n = (mDrop (tick st) i, 10) by rw [HD.out]; simp [removeE, hxg, H0.out, hxd, hb])
            clear hxg HD hxd hb
            go_wp2
            go_ret
            refine ⟨by rw [HH.out]; rfl, ?_, HX4.out⟩
            rw [HH.out]
            exact (H3.out.below HB4.out).mono HF4.out
          | false =>
            have HH := hide (show mRemove st n = (setNode (mDrop (tick st) i) s.n (goneNd x), 0) by rw [HD.out]; simp [removeE, hxg, H0.out, hb])
            clear hxg HD hxd hb
            go_wp2
            go_ret
            refine ⟨by rw [HH.out]; rfl, ?_, HX4.out.setCell (by rcases HF4.out g HFn.out with q | q; exact .inl q; exact .inr q.1) _⟩
            rw [HH.out]
            exact RefIs.mono ⟨_, _, _, HR4.out.setNode (k := 5) (v := .bool true) (x' := goneNd x) HX.out (by omega) rfl⟩ (fun k hk => by rcases HF4.out k hk with q | q; exact .inl q; exact .inr ⟨q.1, by simpa using q.2⟩)
        | false =>
          rw [hxd] at e1
          have HH := hide (show mRemove st n = (setNode (mDrop (tick st) i) s.n (goneNd x), 0) by rw [HD.out]; simp [removeE, hxg, H0.out, hxd])
          generalize mBusy st s.n = bb
          clear hxg HD hxd
          go_wp2
          go_ret
          refine ⟨by rw [HH.out]; rfl, ?_, HX4.out.setCell (by rcases HF4.out g HFn.out with q | q; exact .inl q; exact .inr q.1) _⟩
          rw [HH.out]
          exact RefIs.mono ⟨_, _, _, HR4.out.setNode (k := 5) (v := .bool true) (x' := goneNd x) HX.out (by omega) rfl⟩ (fun k hk => by rcases HF4.out k hk with q | q; exact .inl q; exact .inr ⟨q.1, by simpa using q.2⟩)
end Go.Proofs.YtdmdgnghaceibaaGreat.P
/- Both halves: Remove. -/
namespace Go.Proofs.YtdmdgnghaceibaaGreat.P
open M Go.ChangeShapes Go.WideShapes Go.ChangeAt Go.RowKit
set_option linter.unusedVariables false

set_option maxRecDepth 20000 in
set_option maxHeartbeats 1000000 in
theorem turned_remove {w : World} {X : Nat → Prop} {b : Nat} {st : St} (k fid a bb : Int) (text : ByteArray) (yes : Bool) (ao : Option Addr) (nl nc : Nat) (h : BothIs w X b st) (ok : POk st) (T : Treed st) (hnod : st.nodes.length ≤ 1700000000000) :
    Calls Tryz.prog 65 #[.pointer (some ⟨b, 0, none⟩), .agg #[.int .i64 10, .int .i64 k, .int .i64 fid, .int .i64 a, .int .i64 bb, .string text, .bool yes, .slice ao nl nc]] w fun e w' => e = .returned (.bool true) ∧ BothIs w' X b (mRemove st fid).1 ∧ Ext X w w' := by
  obtain ⟨s, r, F, G, h⟩ := h
  have c0 := h.c0
  have c1 := h.c1
  have H := hide h
  have Hok := hide ok
  have HTr := hide T
  have HBox := hide (show ¬ F w.heap.size from fun hk => by have := (h.lo _ (.inl hk)).2; omega)
  have HbF := hide h.bF
  clear h ok T
  have u0 := fun o => up c0 o
  have u1 := fun o => up c1 o
  go_enter Tryz.func65, Tryz.ntmps65
  go_wp2
  go_cut [5] (fun s5 wc => s5 = .int .i64 (mRemove st fid).2 ∧ Ext X w wc ∧ (∃ F', TwoIs wc X b s r F' G (mRemove st fid).1 st) ∧ wc.cell? ⟨w.heap.size, 2, none⟩ = some (.int .i64 fid))
  case first =>
    go_region_with (go_at_call 21; refine (sremove_any (F := F) (st := st) fid ?_ Hok.out HTr.out).mono ?_; exact (H.out.below (((Below.refl _ w).alloc (Nat.le_refl _) _).drew)).srv; rintro e w2 ⟨rfl, hs2, hx2⟩; have HS2 := hide hs2; have HX := hide hx2; have q2 : w2.cell? ⟨w.heap.size, 2, none⟩ = some (.int .i64 fid) := ext_cell HX.out HBox.out (by simp); clear hs2 hx2)
    all_goals go_wp2
    all_goals go_meet
    all_goals
      have hT2 := (H.out.below (((Below.refl _ w).alloc (Nat.le_refl _) (.cells #[.int .i64 10, .int .i64 k, .int .i64 fid, .int .i64 a, .int .i64 bb, .string text, .bool yes, .slice ao nl nc] 57)).drew)).srvStep HS2.out HX.out
      have e1 : Ext X w ((w.alloc (.cells #[.int .i64 10, .int .i64 k, .int .i64 fid, .int .i64 a, .int .i64 bb, .string text, .bool yes, .slice ao nl nc] 57)).drew) := Ext.below (((Below.refl _ w).alloc (Nat.le_refl _) _).drew)
      have e2 := HX.out.weak (fun k hk => (H.out.lo k (.inl hk)).1)
      exact ⟨rfl, e1.trans' e2, ⟨_, hT2⟩, q2⟩
  case rest =>
    obtain ⟨rfl, hbc, ⟨F', hT⟩, q2⟩ := hcut
    have v1 := hT.c1
    have HT := hide hT
    have HBc := hide hbc
    clear hT hbc
    go_wp2
    go_region_with (go_at_call 109; refine (rremove_any (F := G) (st := st) fid ?_ Hok.out HTr.out.uniq hnod).mono ?_; exact HT.out.ref.drew; rintro e w3 ⟨rfl, hr3, hx3⟩; have HR3 := hide hr3; have HX3 := hide hx3; clear hr3 hx3)
    all_goals
      have hT3 := (HT.out.below ((Below.refl _ wc).drew)).refStep HR3.out HX3.out
      have e3 := HX3.out.weak (fun k hk => (HT.out.lo k (.inr hk)).1)
      have HT2 := hide hT3
      have HBd := hide (HBc.out.trans' (((Ext.refl X wc).drew).trans' e3))
      clear hT3 e3
      go_wp2_with (go_at_call 27; refine (num_any _ _).mono ?_; rintro e w' ⟨rfl, hw⟩; obtain rfl := hw.symm)
      go_ret
      exact ⟨by simp, ⟨s, r, _, _, HT2.out⟩, HBd.out⟩

end Go.Proofs.YtdmdgnghaceibaaGreat.P
