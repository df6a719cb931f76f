/- A script, and how it lies in memory. -/
import Derived.Test.YtdmdgnghaceibaaGreatRows
import Derived.Test.YtdmdgnghaceibaaGreatPart02
import Derived.Deep.Strs
import Derived.Carry
import Derived.SizedLaws
namespace Go.Proofs.YtdmdgnghaceibaaGreat.P
open M Go.ChangeShapes Go.WideShapes Go.ChangeAt Go.RowKit Go.Deep
set_option linter.unusedVariables false

/-- A step of a script. -/
structure MOp where
  kind : Int
  k : Int
  fid : Int
  a : Int
  b : Int
  text : ByteArray
  yes : Bool
  names : List ByteArray
  deriving Inhabited

/-- A script that came in. -/
structure OpAt (W : World) (sb so i : Nat) (o : MOp) (nao : Option Addr) (nc : Nat) : Prop where
  c0 : W.cell? ⟨sb, so + i * 8, none⟩ = some (.int .i64 o.kind)
  c1 : W.cell? ⟨sb, so + i * 8 + 1, none⟩ = some (.int .i64 o.k)
  c2 : W.cell? ⟨sb, so + i * 8 + 2, none⟩ = some (.int .i64 o.fid)
  c3 : W.cell? ⟨sb, so + i * 8 + 3, none⟩ = some (.int .i64 o.a)
  c4 : W.cell? ⟨sb, so + i * 8 + 4, none⟩ = some (.int .i64 o.b)
  c5 : W.cell? ⟨sb, so + i * 8 + 5, none⟩ = some (.string o.text)
  c6 : W.cell? ⟨sb, so + i * 8 + 6, none⟩ = some (.bool o.yes)
  c7 : W.cell? ⟨sb, so + i * 8 + 7, none⟩ = some (.slice nao o.names.length nc)
  text : o.text.size ≤ maxLen
  ra : -9223372036854775808 ≤ o.a ∧ o.a ≤ 9223372036854775807
  names : NamesAt W nao o.names
  low : ∀ a, nao = some a → o.names ≠ [] → a.block < W.heap.size

def ScriptAt (W : World) (ao : Option Addr) (ops : List MOp) : Prop :=
  ops.length ≤ 1600000000000 ∧ ∀ (i : Nat) o, ops[i]? = some o → o.text.size ≤ 140737488355328 ∧ ∃ sb so nao nc, ao = some ⟨sb, so, none⟩ ∧ OpAt W sb so i o nao nc

theorem cellsOp : Tryz.prog.cellsOf 57 = 8 := by kernel_rfl
theorem cellsStr : Tryz.prog.cellsOf 9 = 1 := by kernel_rfl

theorem cell_spot {w : World} {a : Addr} {v : Value} (h : w.cell? a = some v) : a.spot = none := by
  unfold World.cell? at h
  split at h
  · cases hs : a.spot with
    | none => rfl
    | some q => rw [hs] at h; simp at h
  · cases h

section
variable {H : Type} {enc : TypeId × Value → H} {W : World}

/-- A list of texts that was read. -/
theorem open_names {fuel : Nat} {v : Value} {x : DataW H × List MemPlace} (h : DataW.trod enc Tryz.prog W 0 (fun _ => true) true fuel 35 [v] = some x) :
    ∃ (nao : Option Addr) (names : List ByteArray) (nc : Nat), v = .slice nao names.length nc ∧ NamesAt W nao names ∧ (∀ a, nao = some a → names ≠ [] → a.block < W.heap.size) := by
  rcases open_strs Tryz.underlying35 Tryz.underlying9 cellsStr h with ⟨hc, _⟩ | ⟨a, len, cap, m, Sx, hc, _, hl, hm, hmm, _, hx⟩
  · simp only [List.cons.injEq, and_true] at hc
    exact ⟨none, [], 0, hc, ⟨by simp [maxLen], fun i s hs => by simp at hs⟩, fun a h => by cases h⟩
  · simp only [List.cons.injEq, and_true] at hc
    have hlm : len ≤ m := by rw [hmm]; split <;> omega
    refine ⟨some a, (List.range len).map Sx, cap, by simpa using hc, ⟨by simp; omega, fun i s hs => ?_⟩, fun a' ha hne => ?_⟩
    · have hi : i < len := by have := M.lt_of_getElem? hs; simpa using this
      have hsp : a.spot = none := cell_spot (hx 0 (by omega)).1
      rw [List.getElem?_map, List.getElem?_range hi] at hs
      simp at hs
      subst hs
      obtain ⟨h1, h2⟩ := hx i (by omega)
      obtain ⟨nb, no, sp⟩ := a
      have hsp : sp = none := hsp
      subst hsp
      rw [Addr.add_lit] at h1
      exact ⟨h2, nb, no, rfl, h1⟩
    · cases ha
      have hlen : 0 < len := by
        cases len with
        | zero => simp at hne
        | succ n => omega
      exact World.block_lt_of_cell? W _ (hx 0 (by omega)).1

theorem list8 {α : Type} {l : List α} (h : l.length = 8) : ∃ a0 a1 a2 a3 a4 a5 a6 a7, l = [a0, a1, a2, a3, a4, a5, a6, a7] := by
  cases l with
  | nil => cases h
  | cons a0 l => cases l with
    | nil => cases h
    | cons a1 l => cases l with
      | nil => cases h
      | cons a2 l => cases l with
        | nil => cases h
        | cons a3 l => cases l with
          | nil => cases h
          | cons a4 l => cases l with
            | nil => cases h
            | cons a5 l => cases l with
              | nil => cases h
              | cons a6 l => cases l with
                | nil => cases h
                | cons a7 l => cases l with
                  | nil => exact ⟨a0, a1, a2, a3, a4, a5, a6, a7, rfl⟩
                  | cons b l => simp at h

theorem range_i64 {n : Int} (h : (Lit.int .i64 n).wf = true) : -9223372036854775808 ≤ n ∧ n ≤ 9223372036854775807 := by
  have e1 : IntKind.i64.min = -9223372036854775808 := by decide
  have e2 : IntKind.i64.max = 9223372036854775807 := by decide
  simp only [Lit.wf, e1, e2, Bool.and_eq_true, decide_eq_true_eq] at h
  exact h
theorem mem_weightsAll {P : Program} {e : TypeId} {n : Nat} : ∀ {l : List (DataW H)} {d : DataW H}, d ∈ l → n ∈ d.weights P e → n ∈ DataW.weightsAll P e l
  | x :: l, d, h, hn => by
    rw [DataW.weightsAll, List.mem_append]
    rcases List.mem_cons.1 h with rfl | h
    · exact .inl hn
    · exact .inr (mem_weightsAll h hn)

set_option maxRecDepth 20000 in
/-- A step that was read. -/
theorem open_op {fuel : Nat} {a : Addr} {i : Nat} {cs : List Value} {x : DataW H × List MemPlace} (hsp : a.spot = none) (hc : W.cells? 0 (a.add (i * 8)) 8 = some cs) (h : DataW.trod enc Tryz.prog W 0 (fun _ => true) true fuel 57 cs = some x) :
    ∃ (o : MOp) (nao : Option Addr) (nc : Nat), OpAt W a.block a.off i o nao nc ∧ o.text.size ∈ x.1.weights Tryz.prog 57 := by
  obtain ⟨_, hlen, hcell⟩ := World.cells?_some hc
  obtain ⟨xs, n, rfl, hx0, _, hxl, hf⟩ := DataW.trod_struct Tryz.underlying57 h
  obtain ⟨v0, v1, v2, v3, v4, v5, v6, v7, rfl⟩ := list8 hlen
  obtain ⟨y0, y1, y2, y3, y4, y5, y6, y7, rfl⟩ := list8 (hxl.trans (by kernel_rfl))
  have c3 : Tryz.prog.cellsOf 3 = 1 := by kernel_rfl
  have c9 : Tryz.prog.cellsOf 9 = 1 := by kernel_rfl
  have c4 : Tryz.prog.cellsOf 4 = 1 := by kernel_rfl
  have c35 : Tryz.prog.cellsOf 35 = 1 := by kernel_rfl
  have g0 : DataW.trod enc Tryz.prog W 0 (fun _ => true) true n 3 [v0] = some y0 := by
    have hh := hf 0 _ rfl
    simp [c3] at hh
    exact hh
  have g1 : DataW.trod enc Tryz.prog W 0 (fun _ => true) true n 3 [v1] = some y1 := by
    have hh := hf 1 _ rfl
    simp [c3] at hh
    exact hh
  have g2 : DataW.trod enc Tryz.prog W 0 (fun _ => true) true n 3 [v2] = some y2 := by
    have hh := hf 2 _ rfl
    simp [c3] at hh
    exact hh
  have g3 : DataW.trod enc Tryz.prog W 0 (fun _ => true) true n 3 [v3] = some y3 := by
    have hh := hf 3 _ rfl
    simp [c3] at hh
    exact hh
  have g4 : DataW.trod enc Tryz.prog W 0 (fun _ => true) true n 3 [v4] = some y4 := by
    have hh := hf 4 _ rfl
    simp [c3] at hh
    exact hh
  have g5 : DataW.trod enc Tryz.prog W 0 (fun _ => true) true n 9 [v5] = some y5 := by
    have hh := hf 5 _ rfl
    simp [c9] at hh
    exact hh
  have g6 : DataW.trod enc Tryz.prog W 0 (fun _ => true) true n 4 [v6] = some y6 := by
    have hh := hf 6 _ rfl
    simp [c4] at hh
    exact hh
  have g7 : DataW.trod enc Tryz.prog W 0 (fun _ => true) true n 35 [v7] = some y7 := by
    have hh := hf 7 _ rfl
    simp [c35] at hh
    exact hh
  clear hf
  obtain ⟨k0, e0, _, _⟩ := DataW.trod_int Tryz.underlying3 g0
  obtain ⟨k1, e1, _, _⟩ := DataW.trod_int Tryz.underlying3 g1
  obtain ⟨k2, e2, _, _⟩ := DataW.trod_int Tryz.underlying3 g2
  obtain ⟨k3, e3, _, r3⟩ := DataW.trod_int Tryz.underlying3 g3
  obtain ⟨k4, e4, _, _⟩ := DataW.trod_int Tryz.underlying3 g4
  obtain ⟨tx, e5, d5, htx⟩ := DataW.trod_string Tryz.underlying9 g5
  obtain ⟨ye, e6, _⟩ := DataW.trod_bool Tryz.underlying4 g6
  obtain ⟨nao, names, nc, e7, hnm, hlow⟩ := open_names g7
  simp only [List.cons.injEq, and_true] at e0 e1 e2 e3 e4 e5 e6
  subst e0 e1 e2 e3 e4 e5 e6 e7
  obtain ⟨sb, so, sp⟩ := a
  have hsp : sp = none := hsp
  subst hsp
  simp only [Addr.add_lit] at hcell
  have hw : tx.size ∈ (DataW.agg ([y0, y1, y2, y3, y4, y5, y6, y7].map (·.1)) : DataW H).weights Tryz.prog 57 := by
    rw [DataW.weights]
    rw [show Tryz.prog.underlying 57 = _ from Tryz.underlying57]
    refine DataW.weights_mem_each (j := 5) (t := 9) (d := y5.1) rfl rfl _ ?_
    rw [d5]
    simp [DataW.weights]
  exact ⟨⟨k0, k1, k2, k3, k4, tx, ye, names⟩, nao, nc, ⟨hcell 0 (by omega), hcell 1 (by omega), hcell 2 (by omega), hcell 3 (by omega), hcell 4 (by omega), hcell 5 (by omega), hcell 6 (by omega), hcell 7 (by omega), htx, range_i64 r3, hnm, hlow⟩, by rw [hx0]; exact hw⟩

/-- A script that was read. -/
theorem open_script {ao : Option Addr} {len cap : Nat} {d : DataW H} {ps : List MemPlace} (h : DataW.Trod enc Tryz.prog W 0 (fun _ => true) true 22 (.slice ao len cap) d ps) :
    ∃ ops : List MOp, len = ops.length ∧ (len = 0 ∨ ∃ elems spare, d = .slice elems spare ∧ elems.length = len) ∧ (∀ (i : Nat) o, ops[i]? = some o → o.text.size ∈ d.weights Tryz.prog 22 ∧ ∃ sb so nao nc, ao = some ⟨sb, so, none⟩ ∧ OpAt W sb so i o nao nc) := by
  obtain ⟨fuel, h⟩ := h
  have hcs : (Value.slice ao len cap).cells.toList = [.slice ao len cap] := rfl
  rw [hcs] at h
  rcases open_slice Tryz.underlying22 h with ⟨hc, _⟩ | ⟨a, len', cap', m, n, D, Pl, hc, _, hl, hm, hmm, hxd, hx⟩
  · simp only [List.cons.injEq, Value.slice.injEq, and_true] at hc
    obtain ⟨rfl, rfl, rfl⟩ := hc
    exact ⟨[], rfl, .inl rfl, fun i o ho => by simp at ho⟩
  · simp only [List.cons.injEq, Value.slice.injEq, and_true] at hc
    obtain ⟨rfl, rfl, rfl⟩ := hc
    have hlm : len ≤ m := by rw [hmm]; split <;> omega
    rw [cellsOp] at hx
    have each : ∀ i, i < len → ∃ q : MOp × Option Addr × Nat, a.spot = none ∧ OpAt W a.block a.off i q.1 q.2.1 q.2.2 ∧ q.1.text.size ∈ (D i).weights Tryz.prog 57 := fun i hi => by
      have hsp : a.spot = none := by
        obtain ⟨cs, h1, _⟩ := hx 0 (by omega)
        obtain ⟨_, hlen, hcell⟩ := World.cells?_some h1
        obtain ⟨v0, v1, v2, v3, v4, v5, v6, v7, rfl⟩ := list8 hlen
        have h0 := hcell 0 (by omega)
        rw [Nat.zero_mul] at h0
        exact cell_spot (a := a) h0
      obtain ⟨cs, h1, h2⟩ := hx i (by omega)
      obtain ⟨o, nao, nc, ho⟩ := open_op hsp h1 h2
      exact ⟨(o, nao, nc), hsp, ho⟩
    obtain ⟨q, hq⟩ := choose_lt each
    refine ⟨(List.range len).map (fun i => (q i).1), by simp, .inr ⟨_, _, (Prod.mk.inj hxd).1, by simp⟩, fun i o ho => ?_⟩
    have hi : i < len := by have := M.lt_of_getElem? ho; simpa using this
    rw [List.getElem?_map, List.getElem?_range hi] at ho
    simp at ho
    subst ho
    obtain ⟨hsp, ho, hw⟩ := hq i hi
    obtain ⟨sb, so, sp⟩ := a
    have hsp : sp = none := hsp
    subst hsp
    refine ⟨?_, sb, so, (q i).2.1, (q i).2.2, rfl, ho⟩
    rw [(Prod.mk.inj hxd).1, DataW.weights, Tryz.underlying22]
    refine List.mem_cons_of_mem _ (List.mem_append_left _ (mem_weightsAll (d := D i) ?_ hw))
    exact List.mem_map.2 ⟨i, List.mem_range.2 hi, rfl⟩
end
end Go.Proofs.YtdmdgnghaceibaaGreat.P
