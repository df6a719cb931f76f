/- The document's own answer as plain functions on lists: what the reference's calls compute (no Go, no program). -/
import Derived.RowKit
import Derived.WalkKit
import Derived.RegionTactic
import Derived.ProofKit
import Derived.Test.YtdmdgnghaceibaaGreatRows
import Derived.Maps.OwnSet
import Derived.Defers
import Derived.Laws.LoneSync
import Derived.RegionCalls
import Derived.Deep.RegionLaw
import Derived.Carry
import Derived.Test.YtdmdgnghaceibaaGreatProg
import Derived.Conc.MuLone
import Derived.KernelRfl
namespace Go.Proofs.YtdmdgnghaceibaaGreat.M

structure Nd where
  name : ByteArray
  dir : Bool
  inn : Int
  data : ByteArray
  version : Int
  gone : Bool

structure Member where
  d : Nat
  leave : Bool

structure Laid where
  onto : Nat
  row : List Member

structure Spot where
  n : Nat
  row : List Member

structure Fid where
  n : Int
  way : List Spot
  op : Bool

structure St where
  nodes : List Nd
  laid : List Laid
  fids : List Fid
  calls : Int

def idxV : Option Nat → Int
  | none => -1
  | some i => i

/-- One call more. -/
def tick (st : St) : St := { st with calls := Go.RowKit.wrap64 (st.calls + 1) }

/-- Where a fid is in the list. -/
def find (st : St) (n : Int) : Option Nat := st.fids.findIdx? (fun f => f.n == n)

/-- What is seen of a directory now. -/
def rowOf (st : St) (d : Nat) : List Member :=
  match st.laid.find? (fun l => l.onto == d) with
  | some l => l.row
  | none => [⟨d, true⟩]

def isDir (st : St) (n : Nat) : Bool := match st.nodes[n]? with | some x => x.dir | none => false
def isGone (st : St) (n : Nat) : Bool := match st.nodes[n]? with | some x => x.gone | none => false

def come (st : St) (n : Nat) : Spot := ⟨n, if isDir st n then rowOf st n else []⟩

def liesHere (d : Nat) (name : ByteArray) (x : Nd) : Bool := x.inn == (d : Int) && decide (x.name.toList = name.toList) && !x.gone
def lies (st : St) (d : Nat) (name : ByteArray) : Option Nat := st.nodes.findIdx? (liesHere d name)

def seenIn (st : St) (name : ByteArray) : List Member → Option Nat
  | [] => none
  | m :: r => if isGone st m.d then seenIn st name r else match lies st m.d name with | some n => some n | none => seenIn st name r

def fidOk (n : Int) : Bool := decide (0 ≤ n ∧ n ≤ 50)

def mAttach (st : St) (n : Int) : St × Int :=
  if fidOk n then match find st n with
    | some _ => (tick st, 2)
    | none => ({ tick st with fids := st.fids ++ [⟨n, [come st 0], false⟩] }, 0)
  else (tick st, 1)

def mDrop (st : St) (i : Nat) : St := { st with fids := st.fids.take i ++ st.fids.drop (i + 1) }

def mClunk (st : St) (n : Int) : St × Int :=
  match find st n with
  | none => (tick st, 2)
  | some i => (mDrop (tick st) i, 0)

/-- The node's number at which a fid stands. -/
def nodeOf (f : Fid) : Nat := match f.way.getLast? with | some s => s.n | none => 0
def setOpen (st : St) (i : Nat) (f : Fid) : St := { st with fids := st.fids.set i { f with op := true } }

def mOpen (st : St) (n : Int) : St × Int :=
  match find st n with
  | none => (tick st, 2)
  | some i => match st.fids[i]? with
    | none => (tick st, 2)
    | some f => if f.op then (tick st, 3) else if isGone st (nodeOf f) then (tick st, 4) else (setOpen (tick st) i f, 0)

/-- May these be a name's bytes? -/
def nameOk (c : UInt8) : Bool := decide (32 < c.toNat ∧ c.toNat < 127 ∧ c.toNat ≠ 47)
def badText (s : ByteArray) : Bool := decide (s.toList = [] ∨ s.toList = [46] ∨ s.toList = [46, 46] ∨ 12 < s.size)
def isName (s : ByteArray) : Bool := !badText s && s.data.toList.all nameOk

/-- A word of a walk that is neither a name nor '.' nor '..'. -/
def nameBad (s : ByteArray) : Bool := !isName s && decide (s.toList ≠ [46]) && decide (s.toList ≠ [46, 46])

/-- What is wrong ahead of a walk. -/
def mAllowed (st : St) (f : Fid) (tto : Int) (names : List ByteArray) : Int :=
  if f.op then 3 else if fidOk tto then (if tto ≠ f.n ∧ (find st tto).isSome = true then 2 else if 16 < names.length then 11 else if names.any nameBad then 6 else 0) else 1

/-- A search over a list by places, as a loop goes. -/
theorem findIdx?_some_of {α : Type} (p : α → Bool) (l : List α) (k : Nat) (x : α) (hk : l[k]? = some x) (hx : p x = true) (hno : ∀ j y, j < k → l[j]? = some y → p y = false) : l.findIdx? p = some k := by
  rw [List.findIdx?_eq_some_iff_getElem]
  obtain ⟨h, e⟩ := List.getElem?_eq_some_iff.1 hk
  refine ⟨h, by rw [e]; exact hx, fun j hj => ?_⟩
  have := hno j (l[j]'(by omega)) hj (List.getElem?_eq_getElem _)
  simp [this]

theorem findIdx?_none_of {α : Type} (p : α → Bool) (l : List α) (hno : ∀ (j : Nat) y, l[j]? = some y → p y = false) : l.findIdx? p = none := by
  rw [List.findIdx?_eq_none_iff]
  intro x hx
  obtain ⟨j, h, e⟩ := List.mem_iff_getElem.1 hx
  exact hno j x (by rw [List.getElem?_eq_getElem h, e])

theorem find?_some_of {α : Type} (p : α → Bool) : ∀ (l : List α) (k : Nat) (x : α), l[k]? = some x → p x = true → (∀ j y, j < k → l[j]? = some y → p y = false) → l.find? p = some x
  | a :: l, 0, x, hk, hx, _ => by simp at hk; subst hk; simp [List.find?, hx]
  | a :: l, k + 1, x, hk, hx, hno => by
    have h0 := hno 0 a (by omega) (by simp)
    simp only [List.find?, h0]
    exact find?_some_of p l k x (by simpa using hk) hx (fun j y hj hy => hno (j + 1) y (by omega) (by simpa using hy))
  | [], _, _, hk, _, _ => by simp at hk

theorem find?_none_of {α : Type} (p : α → Bool) (l : List α) (hno : ∀ (j : Nat) y, l[j]? = some y → p y = false) : l.find? p = none := by
  rw [List.find?_eq_none]
  intro x hx
  obtain ⟨j, h, e⟩ := List.mem_iff_getElem.1 hx
  simp [hno j x (by rw [List.getElem?_eq_getElem h, e])]

theorem lt_of_getElem? {α : Type} {l : List α} {k : Nat} {x : α} (h : l[k]? = some x) : k < l.length := (List.getElem?_eq_some_iff.1 h).1
theorem getElem?_of_lt {α : Type} {l : List α} {k : Nat} (h : k < l.length) : ∃ x, l[k]? = some x := ⟨_, List.getElem?_eq_getElem h⟩

end Go.Proofs.YtdmdgnghaceibaaGreat.M
/- Slices of structs that are owned; which blocks a call may have written. (No program.) -/
namespace Go.Proofs.YtdmdgnghaceibaaGreat
open M Go.ChangeShapes Go.WideShapes Go.ChangeAt Go.RowKit
set_option linter.unusedVariables false

theorem hide {p : Prop} (h : p) : Hid p := h

/-! ### Rows of cells, an element each -/

theorem flat_at (size : Nat) : ∀ (rows : List (List Value)) (i : Nat) (row : List Value) (k : Nat), (∀ r ∈ rows, r.length = size) → rows[i]? = some row → k < size → rows.flatten[i * size + k]? = row[k]?
  | r :: rs, 0, row, k, hl, hi, hk => by
    simp at hi
    subst hi
    simp only [List.flatten_cons, Nat.zero_mul, Nat.zero_add]
    rw [List.getElem?_append_left (by rw [hl r (by simp)]; exact hk)]
  | r :: rs, i + 1, row, k, hl, hi, hk => by
    have hr := hl r (by simp)
    simp only [List.flatten_cons]
    rw [List.getElem?_append_right (by rw [hr, Nat.succ_mul]; omega), hr, show (i + 1) * size + k - size = i * size + k by rw [Nat.succ_mul]; omega]
    exact flat_at size rs i row k (fun x hx => hl x (by simp [hx])) (by simpa using hi) hk
  | [], _, _, _, _, hi, _ => by simp at hi

theorem flat_length (size : Nat) : ∀ (rows : List (List Value)), (∀ r ∈ rows, r.length = size) → rows.flatten.length = rows.length * size
  | [], _ => by simp
  | r :: rs, hl => by
    rw [List.flatten_cons, List.length_append, hl r (by simp), flat_length size rs (fun x hx => hl x (by simp [hx])), List.length_cons, Nat.succ_mul]
    omega

theorem flat_set (size : Nat) : ∀ (rows : List (List Value)) (i : Nat) (row : List Value) (k : Nat) (x : Value), (∀ r ∈ rows, r.length = size) → rows[i]? = some row → k < size → rows.flatten.set (i * size + k) x = (rows.set i (row.set k x)).flatten
  | r :: rs, 0, row, k, x, hl, hi, hk => by
    simp at hi
    subst hi
    simp only [List.flatten_cons, Nat.zero_mul, Nat.zero_add, List.set_cons_zero]
    rw [List.set_append_left _ _ (by rw [hl r (by simp)]; exact hk)]
  | r :: rs, i + 1, row, k, x, hl, hi, hk => by
    have hr := hl r (by simp)
    simp only [List.flatten_cons, List.set_cons_succ]
    rw [List.set_append_right _ _ (by rw [hr, Nat.succ_mul]; omega), hr, show (i + 1) * size + k - size = i * size + k by rw [Nat.succ_mul]; omega,
      flat_set size rs i row k x (fun x hx => hl x (by simp [hx])) (by simpa using hi) hk]
  | [], _, _, _, _, _, hi, _ => by simp at hi

/-- The slice value v owns the elements 'rows' (of 'size' cells each), in a block of F. -/
def Own (w : World) (F : Nat → Prop) (e : TypeId) (size : Nat) (v : Value) (rows : List (List Value)) : Prop :=
  w.ownsRow 0 e size v rows.length rows.flatten ∧ (∀ r ∈ rows, r.length = size) ∧ (∀ k, v.ownBlock = some k → F k)

section
variable {w w' : World} {F F' : Nat → Prop} {e : TypeId} {size : Nat} {v : Value} {rows : List (List Value)}

theorem Own.nil (w : World) (F : Nat → Prop) (e : TypeId) (size : Nat) : Own w F e size (.slice none 0 0) [] :=
  ⟨World.ownsRow_nil _ _ _ _, by simp, by simp [Value.ownBlock]⟩

theorem Own.opened (h : Own w F e size v rows) : (v = .slice none 0 0 ∧ rows = []) ∨
    ∃ g cap, v = .slice (some ⟨g, 0, none⟩) rows.length cap ∧ rows.length ≤ cap ∧ cap ≤ maxLen ∧ F g ∧ (∃ cur, w.heap[g]? = some (.cells cur e (0, 0))) ∧
      (∀ i row k x, rows[i]? = some row → row[k]? = some x → w.cell? ⟨g, i * size + k, none⟩ = some x) ∧ (∀ j, w.frozen? ⟨g, j, none⟩ = false) := by
  obtain ⟨ho, hl, hF⟩ := h
  obtain ⟨hlen, ho'⟩ := ho
  rcases ho' with ⟨rfl, hn⟩ | ⟨g, cap, cur, rfl, _, hb, hcap, hmax, hsz, htake⟩
  · exact .inl ⟨rfl, List.length_eq_zero_iff.1 hn⟩
  · refine .inr ⟨g, cap, rfl, hcap, hmax, hF g rfl, ⟨cur, hb⟩, ?_, ?_⟩
    · intro i row k x hi hk
      have hks : k < size := by
        have := M.lt_of_getElem? hk
        rw [hl row (List.mem_of_getElem? hi)] at this
        exact this
      have hi' : i < rows.length := M.lt_of_getElem? hi
      have hlt : i * size + k < rows.length * size := by
        have := Nat.mul_le_mul_right size (show i + 1 ≤ rows.length by omega)
        rw [Nat.succ_mul] at this
        omega
      have hc := World.ownsRow.cellAt (w := w) (base := 0) (e := e) (size := size) (g := g) (n := rows.length) (cap := cap) (xs := rows.flatten) ⟨hlen, .inr ⟨g, cap, cur, rfl, Nat.zero_le _, hb, hcap, hmax, hsz, htake⟩⟩ (i * size + k) hlt
      rw [hc, flat_at size rows i row k hl hi hks, hk]
    · intro j
      simp [World.frozen?, hb]

theorem Own.form (h : Own w F e size v rows) : ∃ ao c, v = .slice ao rows.length c := by
  rcases h.opened with ⟨rfl, hn⟩ | ⟨g, cap, rfl, _⟩
  · exact ⟨none, 0, by rw [hn]; rfl⟩
  · exact ⟨_, cap, rfl⟩

theorem Own.mono (h : Own w F e size v rows) (hF : ∀ k, F k → F' k) : Own w F' e size v rows := ⟨h.1, h.2.1, fun k hk => hF k (h.2.2 k hk)⟩

/-- What was kept in the blocks of F keeps it. -/
theorem Own.kept (h : Own w F e size v rows) (hk : ∀ k, k < w.heap.size → F k → w'.heap[k]? = w.heap[k]?) : Own w' F e size v rows := by
  obtain ⟨⟨hlen, ho⟩, hl, hF⟩ := h
  refine ⟨⟨hlen, ?_⟩, hl, hF⟩
  rcases ho with hn | ⟨g, cap, cur, rfl, hb0, hb, rest⟩
  · exact .inl hn
  · refine .inr ⟨g, cap, cur, rfl, hb0, ?_, rest⟩
    rw [hk g (Array.getElem?_eq_some_iff.1 hb).1 (hF g rfl)]
    exact hb

theorem Own.keptBlock (h : Own w F e size v rows) (hk : ∀ k, v.ownBlock = some k → w'.heap[k]? = w.heap[k]?) : Own w' F e size v rows := by
  obtain ⟨⟨hlen, ho⟩, hl, hF⟩ := h
  refine ⟨⟨hlen, ?_⟩, hl, hF⟩
  rcases ho with hn | ⟨g, cap, cur, rfl, hb0, hb, rest⟩
  · exact .inl hn
  · refine .inr ⟨g, cap, cur, rfl, hb0, ?_, rest⟩
    rw [hk g rfl]
    exact hb

theorem Own.below {B : Nat} (h : Own w F e size v rows) (hb : Below B w w') (hF : ∀ k, F k → k < B) : Own w' F e size v rows :=
  h.keptBlock (fun k hk => hb.block k (hF k (h.2.2 k hk)))
end

/-! ### Worlds -/

/-- At most blocks of F were written, and new ones made. -/
structure Ext (F : Nat → Prop) (w w' : World) : Prop where
  os : w'.os = w.os
  tape : w'.tape = w.tape
  output : w'.output = w.output
  size : w.heap.size ≤ w'.heap.size
  block : ∀ k, k < w.heap.size → ¬ F k → w'.heap[k]? = w.heap[k]?

/-- F, and the blocks that were made between two worlds. -/
def ext (F : Nat → Prop) (w w' : World) : Nat → Prop := fun k => F k ∨ (w.heap.size ≤ k ∧ k < w'.heap.size)

section
variable {F : Nat → Prop} {w w1 w2 : World}
theorem Ext.refl (F : Nat → Prop) (w : World) : Ext F w w := ⟨rfl, rfl, rfl, Nat.le_refl _, fun _ _ _ => rfl⟩
theorem Ext.trans (h : Ext F w w1) (k : Ext (ext F w w1) w1 w2) : Ext F w w2 :=
  ⟨k.os.trans h.os, k.tape.trans h.tape, k.output.trans h.output, Nat.le_trans h.size k.size, fun b hb hF => (k.block b (Nat.lt_of_lt_of_le hb h.size) (fun hx => by rcases hx with hx | hx; exact hF hx; omega)).trans (h.block b hb hF)⟩
theorem Ext.trans' (h : Ext F w w1) (k : Ext F w1 w2) : Ext F w w2 :=
  ⟨k.os.trans h.os, k.tape.trans h.tape, k.output.trans h.output, Nat.le_trans h.size k.size, fun b hb hF => (k.block b (Nat.lt_of_lt_of_le hb h.size) hF).trans (h.block b hb hF)⟩
theorem Ext.below (h : Below w.heap.size w w1) : Ext F w w1 := ⟨h.os, h.tape, h.output, h.size, fun b hb _ => h.block b hb⟩
theorem Ext.drew (h : Ext F w w1) : Ext F w w1.drew := ⟨h.os, h.tape, h.output, h.size, h.block⟩
theorem Ext.alloc (h : Ext F w w1) (o : Obj) : Ext F w (w1.alloc o) :=
  ⟨h.os, h.tape, h.output, by have := h.size; simp; omega, fun b hb hF => (Below.heap_alloc w1 o b (Nat.lt_of_lt_of_le hb h.size)).trans (h.block b hb hF)⟩
theorem Ext.setCell (h : Ext F w w1) {a : Addr} (ha : F a.block ∨ w.heap.size ≤ a.block) (u : Value) : Ext F w (w1.setCell a u) :=
  ⟨h.os, h.tape, h.output, by have := h.size; simpa using this, fun b hb hF => (Below.heap_setCell w1 a u b (fun e => by subst e; rcases ha with ha | ha; exact hF ha; omega)).trans (h.block b hb hF)⟩
theorem ext_mono (h : w1.heap.size ≤ w2.heap.size) : ∀ k, ext F w w1 k → ext F w w2 k := fun k hk => by
  rcases hk with hk | hk
  · exact .inl hk
  · exact .inr ⟨hk.1, by omega⟩
theorem ext_trans (h : w.heap.size ≤ w1.heap.size) (h2 : w1.heap.size ≤ w2.heap.size) : ∀ k, ext (ext F w w1) w1 w2 k → ext F w w2 k := fun k hk => by
  rcases hk with (hk | hk) | hk
  · exact .inl hk
  · exact .inr ⟨hk.1, by omega⟩
  · exact .inr ⟨by omega, hk.2⟩
theorem ext_lt (h : w.heap.size ≤ w1.heap.size) (hF : ∀ k, F k → k < w.heap.size) : ∀ k, ext F w w1 k → k < w1.heap.size := fun k hk => by
  rcases hk with hk | hk
  · have := hF k hk; omega
  · exact hk.2
end

/-- Blocks of F that hold elements of a type of T are as they were. -/
def KeepT (T : TypeId → Prop) (F : Nat → Prop) (w w' : World) : Prop := ∀ k cur e, F k → w.heap[k]? = some (.cells cur e (0, 0)) → T e → w'.heap[k]? = w.heap[k]?

section
variable {T : TypeId → Prop} {F : Nat → Prop} {w w1 w2 : World}
theorem KeepT.refl (T : TypeId → Prop) (F : Nat → Prop) (w : World) : KeepT T F w w := fun _ _ _ _ _ _ => rfl
theorem KeepT.trans (h : KeepT T F w w1) (k : KeepT T F w1 w2) : KeepT T F w w2 := fun b cur e hF hb hT => by
  have h1 := h b cur e hF hb hT
  exact (k b cur e hF (h1.trans hb) hT).trans h1
theorem KeepT.drew (h : KeepT T F w w1) : KeepT T F w w1.drew := h
theorem KeepT.alloc (h : KeepT T F w w1) (o : Obj) : KeepT T F w (w1.alloc o) := fun b cur e hF hb hT => by
  have h1 := h b cur e hF hb hT
  have hlt : b < w1.heap.size := (Array.getElem?_eq_some_iff.1 (h1.trans hb)).1
  exact (Below.heap_alloc w1 o b hlt).trans h1
theorem KeepT.setCell (h : KeepT T F w w1) {a : Addr} {cur : Array Value} {e : TypeId} (ha : w1.heap[a.block]? = some (.cells cur e (0, 0))) (hT : ¬ T e) (u : Value) : KeepT T F w (w1.setCell a u) := fun b cur' e' hF hb hT' => by
  have h1 := h b cur' e' hF hb hT'
  refine (Below.heap_setCell w1 a u b (fun heq => ?_)).trans h1
  subst heq
  rw [h1.trans hb] at ha
  cases ha
  exact hT hT'
theorem KeepT.setNew (h : KeepT T F w w1) {a : Addr} (ha : w.heap.size ≤ a.block) (u : Value) : KeepT T F w (w1.setCell a u) := fun b cur' e' hF hb hT' => by
  have h1 := h b cur' e' hF hb hT'
  have hlt : b < w.heap.size := (Array.getElem?_eq_some_iff.1 hb).1
  exact (Below.heap_setCell w1 a u b (fun heq => by omega)).trans h1
theorem KeepT.below (hb : Below w.heap.size w w1) : KeepT T F w w1 := fun b _ _ _ h _ => hb.block b (Array.getElem?_eq_some_iff.1 h).1
theorem Own.keepT {e : TypeId} {size : Nat} {v : Value} {rows : List (List Value)} (h : Own w F e size v rows) (hk : KeepT T F w w1) (hT : T e) : Own w1 F e size v rows := by
  refine h.keptBlock (fun k hv => ?_)
  rcases h.opened with ⟨rfl, _⟩ | ⟨g, cap, rfl, _, _, hF, ⟨cur, hb⟩, _⟩
  · simp [Value.ownBlock] at hv
  · simp [Value.ownBlock] at hv
    subst hv
    exact hk g cur e hF hb hT
end

/-- A block of cells of a type. -/
def Ty (w : World) (k : Nat) (e : TypeId) : Prop := ∃ cur, w.heap[k]? = some (.cells cur e (0, 0))

section
variable {T : TypeId → Prop} {F : Nat → Prop} {w w1 w2 : World} {k : Nat} {e : TypeId}
theorem Ty.lt (h : Ty w k e) : k < w.heap.size := by obtain ⟨cur, h⟩ := h; exact (Array.getElem?_eq_some_iff.1 h).1
theorem Ty.new (w : World) (cs : Array Value) (e : TypeId) : Ty (w.alloc (.cells cs e)) w.heap.size e := ⟨cs, heap_alloc_new w _⟩
theorem Ty.alloc (h : Ty w k e) (o : Obj) : Ty (w.alloc o) k e := by
  have hlt := h.lt
  obtain ⟨cur, h⟩ := h
  exact ⟨cur, (Below.heap_alloc w o k hlt).trans h⟩
theorem Ty.setCell (h : Ty w k e) (a : Addr) (u : Value) : Ty (w.setCell a u) k e := by
  obtain ⟨cur, h⟩ := h
  by_cases hk : k = a.block
  · subst hk
    obtain ⟨b, j, s⟩ := a
    cases s with
    | none => exact ⟨_, heap_setCell_same w b j cur e u h⟩
    | some q =>
      refine ⟨cur, ?_⟩
      simp only [World.setCell, Array.getElem?_modify]
      simp [h]
  · exact ⟨cur, (Below.heap_setCell w a u k hk).trans h⟩
theorem Ty.drew (h : Ty w k e) : Ty w.drew k e := h
theorem Ty.below {B : Nat} (h : Ty w k e) (hb : Below B w w1) (hk : k < B) : Ty w1 k e := by
  obtain ⟨cur, h⟩ := h
  exact ⟨cur, (hb.block k hk).trans h⟩
theorem KeepT.setTy (h : KeepT T F w w1) {a : Addr} (ha : Ty w1 a.block e) (hT : ¬ T e) (u : Value) : KeepT T F w (w1.setCell a u) := by
  obtain ⟨cur, ha⟩ := ha
  exact h.setCell ha hT u
theorem ext_le {W : World} (h1 : w.heap.size ≤ W.heap.size) (h2 : w1.heap.size ≤ w2.heap.size) : ∀ k, ext F W w1 k → ext F w w2 k := fun k hk => by
  rcases hk with hk | hk
  · exact .inl hk
  · exact .inr ⟨by omega, by omega⟩
end

/-! ### Cells behind new blocks -/
section
variable {w : World} {a : Addr} {v : Value}
theorem up (h : w.cell? a = some v) (o : Obj) : (w.alloc o).cell? a = some v := by
  have hlt := World.block_lt_of_cell? w a h
  rw [World.cell?_of_block (w := w) (Below.heap_alloc w o a.block hlt)]
  exact h
theorem up2 (h : w.cell? a = some v) (o o2 : Obj) : ((w.alloc o).alloc o2).cell? a = some v := up (up h o) o2
theorem up3 (h : w.cell? a = some v) (o o2 o3 : Obj) : (((w.alloc o).alloc o2).alloc o3).cell? a = some v := up (up2 h o o2) o3
end

theorem bcell {W w1 : World} (hb : Below W.heap.size W w1) : (∀ b o, b < W.heap.size → w1.cell? ⟨b, o, none⟩ = W.cell? ⟨b, o, none⟩) ∧ (∀ b o, b < W.heap.size → w1.frozen? ⟨b, o, none⟩ = W.frozen? ⟨b, o, none⟩) :=
  ⟨fun b o h => hb.cell (p := ⟨b, o, none⟩) h, fun b o h => hb.frozen (p := ⟨b, o, none⟩) h⟩

/-- A store into an owned slice. -/
theorem Own.set {w : World} {F : Nat → Prop} {e : TypeId} {size g n cap : Nat} {rows : List (List Value)} (h : Own w F e size (.slice (some ⟨g, 0, none⟩) n cap) rows) {i k : Nat} {row : List Value} (hi : rows[i]? = some row) (hk : k < size) (x : Value) :
    Own (w.setCell ⟨g, i * size + k, none⟩ x) F e size (.slice (some ⟨g, 0, none⟩) n cap) (rows.set i (row.set k x)) := by
  have hn : n = rows.length := by
    rcases h.opened with ⟨hv, _⟩ | ⟨g', cap', hv, _⟩
    · simp at hv
    · simp at hv; exact hv.2.1
  subst hn
  refine ⟨?_, ?_, h.2.2⟩
  · have := (h.1.stored (i * size + k) x).1
    rw [flat_set size rows i row k x h.2.1 hi hk] at this
    rw [List.length_set]
    exact this
  · intro r hr
    rcases List.mem_or_eq_of_mem_set hr with hr | rfl
    · exact h.2.1 r hr
    · rw [List.length_set]; exact h.2.1 row (List.mem_of_getElem? hi)

/-- A slice of one element that was just laid. -/
theorem Own.lit (w : World) (cs : Array Value) (e : TypeId) (size : Nat) (hs : cs.size = size) : Own (w.alloc (.cells cs e)) (fun k => k = w.heap.size) e size (.slice (some ⟨w.heap.size, 0, none⟩) 1 1) [cs.toList] := by
  refine ⟨?_, by simp [hs], fun k hk => by simp [Value.ownBlock] at hk; exact hk.symm⟩
  have := World.ownsRow_lit (base := 0) (e := e) (size := size) w cs 1 (Nat.zero_le _) (by decide) (by omega)
  simpa using this

/-! ### Appending -/

/-- What is appended: a slice value that reads as these elements. -/
def SrcIs (w : World) (size : Nat) (xv : Value) (news : List (List Value)) : Prop :=
  (∀ r ∈ news, r.length = size) ∧ (∀ r ∈ news, ∀ u ∈ r, u.oneCell' = true) ∧
  ((xv = .slice none 0 0 ∧ news = []) ∨ ∃ ad c, xv = .slice (some ad) news.length c ∧ ∀ j u, news.flatten[j]? = some u → w.cell? (ad.add j) = some u)

theorem SrcIs.ofOwn {w : World} {F : Nat → Prop} {e : TypeId} {size : Nat} {v : Value} {rows : List (List Value)} (h : Own w F e size v rows) (h1 : ∀ r ∈ rows, ∀ u ∈ r, u.oneCell' = true) : SrcIs w size v rows := by
  refine ⟨h.2.1, h1, ?_⟩
  rcases h.opened with ⟨rfl, hn⟩ | ⟨g, cap, rfl, _, _, _, _, _, _⟩
  · exact .inl ⟨rfl, hn⟩
  · exact .inr ⟨⟨g, 0, none⟩, cap, rfl, World.ownsRow.cells h.1 rfl⟩

/-- One element that lies in a block of its own. -/
theorem SrcIs.ofBlock {w : World} {b c size : Nat} {cs : Array Value} {e : TypeId} {fr : Nat × Nat} (hb : w.heap[b]? = some (.cells cs e fr)) (hl : cs.size = size) (h1 : ∀ u ∈ cs.toList, u.oneCell' = true) : SrcIs w size (.slice (some ⟨b, 0, none⟩) 1 c) [cs.toList] := by
  refine ⟨by simp [hl], by simpa using h1, .inr ⟨⟨b, 0, none⟩, c, rfl, fun j u hj => ?_⟩⟩
  simp only [List.flatten_cons, List.flatten_nil, List.append_nil] at hj
  rw [Addr.add_lit]
  simp only [World.cell?, hb]
  simpa using hj

/-- A block of another type is not the one that a slice owns. -/
theorem Own.ne {w : World} {F : Nat → Prop} {e e' : TypeId} {size : Nat} {v : Value} {rows : List (List Value)} (h : Own w F e size v rows) {k : Nat} (hk : Ty w k e') (hne : e' ≠ e) : some k ≠ v.ownBlock := by
  intro heq
  rcases h.opened with ⟨rfl, _⟩ | ⟨g, cap, rfl, _, _, _, ⟨cur, hb⟩, _⟩
  · simp [Value.ownBlock] at heq
  · simp [Value.ownBlock] at heq
    subst heq
    obtain ⟨cur', hk⟩ := hk
    rw [hk] at hb
    cases hb
    exact hne rfl

section
variable {P : Program}

theorem run_append_Own (w : World) (F : Nat → Prop) (t ty e : TypeId) (i : TypeInfo) (z : Value) (size bytes : Nat) (ht : P.underlying t = some (.slice e)) (hi : P.info? e = some i) (hz : i.zero = some z)
    (hsize : i.size = size) (hby : i.bytes = bytes) (hzs : z.cells.size = size) (hsz : 0 < size) (v : Value) (rows : List (List Value)) (hown : Own w F e size v rows)
    (xv : Value) (news : List (List Value)) (hsrc : SrcIs w size xv news) (h63 : rows.length + news.length ≤ maxLen) (hbytes : (rows.length + news.length) * bytes ≤ 140737488355328) :
    ∃ v' w', (Builtin.append_ #[t, t] ty #[v, xv]).run P w = .ok v' w' ∧ Own w' (ext F w w') e size v' (rows ++ news) ∧ w.grownBy w' v.ownBlock ∧ (∀ k, v'.ownBlock = some k → v.ownBlock = some k ∨ w.heap.size ≤ k) := by
  obtain ⟨hlen, hone, hs⟩ := hsrc
  have hrows : ∀ r ∈ rows ++ news, r.length = size := fun r hr => by
    rcases List.mem_append.1 hr with hr | hr
    · exact hown.2.1 r hr
    · exact hlen r hr
  rcases hs with ⟨rfl, rfl⟩ | ⟨ad, c, rfl, hcells⟩
  · refine ⟨v, w, run_append_owned_none w 0 t ty e i size ht hi v rows.length rows.flatten hown.1, ?_, World.grownBy.refl w _, fun k hk => .inl hk⟩
    rw [List.append_nil]
    exact hown.mono (fun k hk => .inl hk)
  · have hl : news.flatten.length = news.length * size := flat_length size news hlen
    have h1 : ∀ u ∈ news.flatten, u.oneCell' = true := fun u hu => by
      obtain ⟨r, hr, hur⟩ := List.mem_flatten.1 hu
      exact hone r hr u hur
    obtain ⟨v', w', hrun, hown', hgr, _⟩ := run_append_own (P := P) w 0 t ty e i z size bytes ht hi hz hsize hby hzs hsz v rows.length rows.flatten hown.1 ad news.length c news.flatten hl hcells h1 h63 hbytes (Nat.zero_le _)
    have hblk : ∀ k, v'.ownBlock = some k → v.ownBlock = some k ∨ w.heap.size ≤ k := by
      intro k hk
      rcases hown.opened with ⟨rfl, hn⟩ | ⟨g, cap, rfl, hcap, hmax, _, _, _, _⟩
      · subst hn
        obtain ⟨v2, w2, hrun2, hown2, _, _⟩ := run_append_own (P := P) w w.heap.size t ty e i z size bytes ht hi hz hsize hby hzs hsz (.slice none 0 0) 0 [] (World.ownsRow_nil w w.heap.size e size) ad news.length c news.flatten hl hcells h1 (by simpa using h63) (by simpa using hbytes) (Nat.le_refl _)
        rw [hrun] at hrun2
        cases hrun2
        exact .inr (hown2.lt k hk).1
      · by_cases hroom : rows.length + news.length ≤ cap
        · obtain ⟨w2, hrun2, _, _⟩ := run_append_fits (P := P) w 0 t ty e i size ht hi hsize g rows.length cap rows.flatten hown.1 ad news.length c news.flatten hl hcells h1 hroom
          rw [hrun] at hrun2
          cases hrun2
          exact .inl hk
        · subst hsize
          have hr := run_append_grow (P := P) w t ty e i z ht hi hz ⟨g, 0, none⟩ rows.length cap rows.flatten hown.1.1 (hown.1.cells (g := g) rfl) ad news.length c news.flatten hl hcells (by omega) (by simp only [maxLen] at h63; omega) (growslice_fits (by omega) (by rw [hby]; exact hbytes))
          rw [hrun] at hr
          cases hr
          simp [Value.ownBlock] at hk
          exact .inr (by omega)
    refine ⟨v', w', hrun, ⟨?_, hrows, fun k hk => ?_⟩, hgr, hblk⟩
    · rw [List.length_append, List.flatten_append]
      exact hown'
    · rcases hblk k hk with h | h
      · exact .inl (hown.2.2 k h)
      · exact .inr ⟨h, (hown'.lt k hk).2⟩

theorem grown_ext {w w' : World} {F : Nat → Prop} {v : Value} {e : TypeId} {size : Nat} {rows : List (List Value)} (hown : Own w F e size v rows) (hg : w.grownBy w' v.ownBlock) : Ext F w w' :=
  ⟨hg.os, hg.tape, hg.output, hg.size, fun k hk hF => hg.block k hk (fun h => hF (hown.2.2 k h.symm))⟩

theorem grown_keepT {w w' : World} {F : Nat → Prop} {v : Value} {e : TypeId} {size : Nat} {rows : List (List Value)} (hown : Own w F e size v rows) (hg : w.grownBy w' v.ownBlock) (T : TypeId → Prop) (hT : ¬ T e) : KeepT T F w w' := fun k cur e' hF hb hT' => by
  refine hg.block k (Array.getElem?_eq_some_iff.1 hb).1 (fun h => ?_)
  rcases hown.opened with ⟨rfl, _⟩ | ⟨g, cap, rfl, _, _, _, ⟨cur', hb'⟩, _⟩
  · simp [Value.ownBlock] at h
  · simp [Value.ownBlock] at h
    subst h
    rw [hb] at hb'
    cases hb'
    exact hT hT'

/-- 'append' on an owned slice of structs, from whatever source. -/
theorem wp_append_Own (w : World) {o : Oper} {a : Act} {K : Act → World → Prop} {Q : Exit → Act → World → Prop} (s x : Operand) (t : TypeId)
    (ho : o.op = .call { callee := .builtin .append, args := #[s, x], argTypes := #[t, t] }) (F : Nat → Prop) (e : TypeId) (z : Value) (size bytes : Nat) (ht : P.underlying t = some (.slice e))
    (hinfo : (P.info? e).map (fun i => (i.zero, i.size, i.bytes)) = some (some z, size, bytes)) (hzs : z.cells.size = size) (hsz : 0 < size)
    (v : Value) (rows : List (List Value)) (hs : a.eval s = v) (hown : Own w F e size v rows) (xv : Value) (news : List (List Value)) (hx : a.eval x = xv) (hsrc : SrcIs w size xv news) (n : Nat) (hn : n = rows.length + news.length)
    (h63 : n ≤ maxLen) (hbytes : n * bytes ≤ 140737488355328)
    (h : ∀ ao c w', Own w' (ext F w w') e size (.slice ao n c) (rows ++ news) → w.grownBy w' v.ownBlock → (∀ k, (Value.slice ao n c).ownBlock = some k → v.ownBlock = some k ∨ w.heap.size ≤ k) → K (a.put o.dst (.slice ao n c)) w') : o.wp P a w K Q := by
  subst hn
  obtain ⟨i, hi, hz, hz1, hz2⟩ := info_parts hinfo
  obtain ⟨v', w', hr, h2, h3, h4⟩ := run_append_Own (P := P) w F t o.type e i z size bytes ht hi hz hz1 hz2 hzs hsz v rows hown xv news hsrc h63 hbytes
  obtain ⟨ao, c, rfl⟩ := h2.form
  rw [List.length_append] at hr h2 h4
  unfold Oper.wp execOp
  simp only [ho, resolve, invoke, builtin, Sem.run_bind, Sem.run_pure, Result.andThen_ok, List.map_toArray, List.map_cons, List.map_nil, hs, hx, hr]
  exact h ao c w' h2 h3 h4

theorem wpList_append_Own (w : World) {ops : Array Oper} {rest : List Oper} {o : Oper} {a : Act} {Q : Exit → Act → World → Prop} (hgd : o.guard = none) (s x : Operand) (t : TypeId)
    (ho : o.op = .call { callee := .builtin .append, args := #[s, x], argTypes := #[t, t] }) (F : Nat → Prop) (e : TypeId) (z : Value) (size bytes : Nat) (ht : P.underlying t = some (.slice e))
    (hinfo : (P.info? e).map (fun i => (i.zero, i.size, i.bytes)) = some (some z, size, bytes)) (hzs : z.cells.size = size) (hsz : 0 < size)
    (v : Value) (rows : List (List Value)) (hs : a.eval s = v) (hown : Own w F e size v rows) (xv : Value) (news : List (List Value)) (hx : a.eval x = xv) (hsrc : SrcIs w size xv news) (n : Nat) (hn : n = rows.length + news.length)
    (h63 : n ≤ maxLen) (hbytes : n * bytes ≤ 140737488355328)
    (h : ∀ ao c w', Own w' (ext F w w') e size (.slice ao n c) (rows ++ news) → w.grownBy w' v.ownBlock → (∀ k, (Value.slice ao n c).ownBlock = some k → v.ownBlock = some k ∨ w.heap.size ≤ k) → wpList P ops Q rest (a.put o.dst (.slice ao n c)) w') : wpList P ops Q (o :: rest) a w :=
  wpList_plain hgd fun K hK => wp_append_Own w s x t ho F e z size bytes ht hinfo hzs hsz v rows hs hown xv news hx hsrc n hn h63 hbytes (fun ao c w' h2 h3 h4 => hK _ _ (h ao c w' h2 h3 h4))

/-- The same as one step of a region that draws its order. -/
theorem step_append_Own (w : World) {ops : Array Oper} {o : Oper} {a : Act} {K : Act → World → Prop} {Q : Exit → Act → World → Prop} {E : Prop} (hgd : o.guard = none) (s x : Operand) (t : TypeId)
    (ho : o.op = .call { callee := .builtin .append, args := #[s, x], argTypes := #[t, t] }) (F : Nat → Prop) (e : TypeId) (z : Value) (size bytes : Nat) (ht : P.underlying t = some (.slice e))
    (hinfo : (P.info? e).map (fun i => (i.zero, i.size, i.bytes)) = some (some z, size, bytes)) (hzs : z.cells.size = size) (hsz : 0 < size)
    (v : Value) (rows : List (List Value)) (hs : a.eval s = v) (hown : Own w F e size v rows) (xv : Value) (news : List (List Value)) (hx : a.eval x = xv) (hsrc : SrcIs w size xv news) (n : Nat) (hn : n = rows.length + news.length)
    (h63 : n ≤ maxLen) (hbytes : n * bytes ≤ 140737488355328)
    (h : ∀ ao c w', Own w' (ext F w w') e size (.slice ao n c) (rows ++ news) → w.grownBy w' v.ownBlock → (∀ k, (Value.slice ao n c).ownBlock = some k → v.ownBlock = some k ∨ w.heap.size ≤ k) → K (a.put o.dst (.slice ao n c)) w') :
    if Region.wanted o (yielded ops a.tmps) = true then Oper.wp P o a w K Q else E := by
  have hw : Region.wanted o (yielded ops a.tmps) = true := by simp [Region.wanted, hgd]
  rw [if_pos hw]
  exact wp_append_Own w s x t ho F e z size bytes ht hinfo hzs hsz v rows hs hown xv news hx hsrc n hn h63 hbytes h
end
end Go.Proofs.YtdmdgnghaceibaaGreat
/- A map keyed by texts whose elements are whatever values: what it has at each text. -/
namespace Go.Proofs.YtdmdgnghaceibaaGreat.P
open M Go.ChangeShapes Go.WideShapes Go.ChangeAt Go.RowKit
set_option linter.unusedVariables false

def rawElem (v : Value) : Option (DataW Value × List MemPlace) := some (.held v, [])
theorem strKeyed : Go.Maps.Keyed Tryz.prog 9 := Go.Maps.string_keyed Tryz.underlying9

/-- Block b is a map of at most n entries; f tells what it has at each text. -/
def MapIs (w : World) (b n : Nat) (f : ByteArray → Option Value) : Prop :=
  ∃ D : DataW Value, w.ownsMap Tryz.prog 9 rawElem b n D ∧ ∀ s : ByteArray, s.size ≤ maxLen → Go.Maps.has D (.string s.data.toList) = (f s).isSome ∧ ∀ v, f s = some v → ∀ z, D.atKey (.string s.data.toList) z = .held v

theorem bytes_eq {s t : ByteArray} (h : s.data.toList = t.data.toList) : s = t := by
  cases s; cases t; simpa using h

section
variable {w w' : World} {b n : Nat} {f : ByteArray → Option Value}

theorem MapIs.blk (h : MapIs w b n f) : ∃ es c, w.heap[b]? = some (.map es c) := by
  obtain ⟨D, ⟨es, c, hb, _⟩, _⟩ := h
  exact ⟨es, c, hb⟩
theorem MapIs.lt (h : MapIs w b n f) : b < w.heap.size := by
  obtain ⟨es, c, hb⟩ := h.blk
  exact (Array.getElem?_eq_some_iff.1 hb).1
theorem MapIs.kept (h : MapIs w b n f) (hk : w'.heap[b]? = w.heap[b]?) : MapIs w' b n f := by
  obtain ⟨D, ⟨es, c, hb, r⟩, hf⟩ := h
  exact ⟨D, ⟨es, c, hk.trans hb, r⟩, hf⟩
theorem MapIs.mono (h : MapIs w b n f) {m : Nat} (hm : n ≤ m) : MapIs w b m f := by
  obtain ⟨D, hD, hf⟩ := h
  exact ⟨D, hD.mono hm, hf⟩
theorem MapIs.congr (h : MapIs w b n f) {g : ByteArray → Option Value} (hg : ∀ s : ByteArray, s.size ≤ maxLen → g s = f s) : MapIs w b n g := by
  obtain ⟨D, hD, hf⟩ := h
  exact ⟨D, hD, fun s hs => by rw [hg s hs]; exact hf s hs⟩
theorem MapIs.made (w : World) : MapIs (w.alloc (.map #[] 0)) w.heap.size 0 (fun _ => none) :=
  ⟨.map [], World.ownsMap_made w _ _ _, fun s _ => ⟨rfl, fun v hv => by simp at hv⟩⟩

/-- 'v, ok := m[s]'. -/
theorem MapIs.look (h : MapIs w b n f) (s : ByteArray) (hs : s.size ≤ maxLen) :
    (Instr.lookup 166 (.map (some b)) (.string s) true).run Tryz.prog w = .ok (.tuple #[(f s).getD .nilIface, .bool (f s).isSome]) w := by
  obtain ⟨D, hD, hf⟩ := h
  obtain ⟨h1, h2⟩ := hf s hs
  have hz : (zeroValue 115).run Tryz.prog w = .ok .nilIface w := by kernel_rfl
  obtain ⟨v, ps, hrun, hR⟩ := hD.look_ok strKeyed Tryz.underlying166 hz (zd := .held .nilIface) (zp := []) rfl (key := .string s) (Go.WideMaps.keyOf_string_mk Tryz.underlying9 hs)
  rw [hrun, h1]
  unfold rawElem at hR
  simp only [Option.some.injEq, Prod.mk.injEq] at hR
  cases hfs : f s with
  | none =>
    rw [hfs] at h1
    rw [Go.Maps.atKey_of_not_has h1] at hR
    have := hR.1
    simp at this
    simp [this]
  | some u =>
    rw [h2 u hfs] at hR
    have := hR.1
    simp at this
    simp [this]

/-- 'm[s] = v'. -/
theorem MapIs.store (h : MapIs w b n f) (s : ByteArray) (hs : s.size ≤ maxLen) (hn : n < maxLen) (v : Value) :
    ∃ w', (Instr.mapUpdate 166 (.map (some b)) (.string s) v).run Tryz.prog w = .ok () w' ∧ MapIs w' b (n + 1) (fun t => if t = s then some v else f t) ∧ w.mapTurned w' b := by
  obtain ⟨D, hD, hf⟩ := h
  obtain ⟨w', hrun, hD', ht⟩ := hD.store strKeyed Tryz.underlying166 hn (key := .string s) (val := v) (d := .held v) (ps := []) (Go.WideMaps.keyOf_string_mk Tryz.underlying9 hs) rfl
  refine ⟨w', hrun, ⟨_, hD', fun t htl => ?_⟩, ht⟩
  dsimp only
  by_cases e : t = s
  · subst e
    rw [if_pos rfl]
    have hkl : Go.WideAt.IsKeyLit (.string t.data.toList) := by simp [Go.WideAt.IsKeyLit]
    exact ⟨Go.Maps.has_put_same hD.isMap hkl _, fun u hu z => by rw [Go.Maps.atKey_put_same hD.isMap hkl]; simp at hu; rw [hu]⟩
  · rw [if_neg e]
    have hne : Lit.string t.data.toList ≠ Lit.string s.data.toList := fun h => e (bytes_eq (by simpa using h))
    rw [Go.Maps.has_put_other hne]
    exact ⟨(hf t htl).1, fun u hu z => by rw [Go.Maps.atKey_put_other hne]; exact (hf t htl).2 u hu z⟩

/-- 'delete(m, s)'. -/
theorem MapIs.drop (h : MapIs w b n f) (s : ByteArray) (hs : s.size ≤ maxLen) (ty : TypeId) :
    ∃ w', (Builtin.delete_ #[166, 9] ty #[.map (some b), .string s]).run Tryz.prog w = .ok (.tuple #[]) w' ∧ MapIs w' b n (fun t => if t = s then none else f t) ∧ w.mapTurned w' b := by
  obtain ⟨D, hD, hf⟩ := h
  obtain ⟨w', hrun, hD', ht⟩ := hD.drop strKeyed Tryz.underlying166 (key := .string s) (Go.WideMaps.keyOf_string_mk Tryz.underlying9 hs) ty
  refine ⟨w', hrun, ⟨_, hD', fun t htl => ?_⟩, ht⟩
  dsimp only
  by_cases e : t = s
  · subst e
    rw [if_pos rfl]
    exact ⟨Go.Maps.has_del_same, fun u hu => by simp at hu⟩
  · rw [if_neg e]
    have hne : Lit.string t.data.toList ≠ Lit.string s.data.toList := fun h => e (bytes_eq (by simpa using h))
    rw [Go.Maps.has_del_other hne]
    exact ⟨(hf t htl).1, fun u hu z => by rw [Go.Maps.atKey_del_other hne]; exact (hf t htl).2 u hu z⟩
end
end Go.Proofs.YtdmdgnghaceibaaGreat.P
/- The document's own answer, more: Walk. -/
namespace Go.Proofs.YtdmdgnghaceibaaGreat.M

/-- One word of a walk: the error, the way behind it. -/
def wayStep (st : St) (way : List Spot) (s : ByteArray) : Int × List Spot :=
  if s.toList = [46] then (0, way)
  else if s.toList = [46, 46] then (0, if 1 < way.length then way.take (way.length - 1) else way)
  else match way.getLast? with
    | none => (0, way)
    | some x => if isGone st x.n then (4, way) else if isDir st x.n then (match seenIn st s x.row with | none => (7, way) | some c => (0, way ++ [come st c])) else (5, way)

/-- Word by word: how many were gone, the error, the way. -/
def wayGo (st : St) : List ByteArray → List Spot → Nat × Int × List Spot
  | [], way => (0, 0, way)
  | s :: l, way => if (wayStep st way s).1 = 0 then ((wayGo st l (wayStep st way s).2).1 + 1, (wayGo st l (wayStep st way s).2).2) else (0, (wayStep st way s).1, way)

def mWalkTo (st : St) (i : Nat) (n tto : Int) (way : List Spot) : St :=
  if tto = n then { mDrop st i with fids := (mDrop st i).fids ++ [⟨tto, way, false⟩] } else { st with fids := st.fids ++ [⟨tto, way, false⟩] }

def mWalk (st : St) (n tto : Int) (names : List ByteArray) : St × Int × Int :=
  match find st n with
  | none => (tick st, 0, 2)
  | some i => match st.fids[i]? with
    | none => (tick st, 0, 2)
    | some f =>
      if mAllowed (tick st) f tto names = 0 then
        (if (wayGo st names f.way).2.1 = 0 then (mWalkTo (tick st) i n tto (wayGo st names f.way).2.2, (names.length : Int), 0)
         else (tick st, ((wayGo st names f.way).1 : Int), (wayGo st names f.way).2.1))
      else (tick st, 0, mAllowed (tick st) f tto names)

theorem wayGo_drop (st : St) (names : List ByteArray) (way : List Spot) (k : Nat) (s : ByteArray) (hs : names[k]? = some s) :
    wayGo st (names.drop k) way = if (wayStep st way s).1 = 0 then ((wayGo st (names.drop (k + 1)) (wayStep st way s).2).1 + 1, (wayGo st (names.drop (k + 1)) (wayStep st way s).2).2) else (0, (wayStep st way s).1, way) := by
  have hlt := lt_of_getElem? hs
  have e : names[k] = s := by rw [List.getElem?_eq_getElem hlt] at hs; exact Option.some.inj hs
  rw [List.drop_eq_getElem_cons hlt, e]
  rfl

/-- After k words the whole walk is what is left of it, k further on. -/
def WaySoFar (st : St) (names : List ByteArray) (way0 : List Spot) (k : Nat) (way : List Spot) : Prop :=
  wayGo st names way0 = ((wayGo st (names.drop k) way).1 + k, (wayGo st (names.drop k) way).2)

theorem WaySoFar.start (st : St) (names : List ByteArray) (way : List Spot) : WaySoFar st names way 0 way := by simp [WaySoFar]

theorem WaySoFar.step {st : St} {names : List ByteArray} {way0 way : List Spot} {k : Nat} {s : ByteArray} (h : WaySoFar st names way0 k way) (hs : names[k]? = some s) (h0 : (wayStep st way s).1 = 0) : WaySoFar st names way0 (k + 1) (wayStep st way s).2 := by
  unfold WaySoFar at h ⊢
  rw [h, wayGo_drop st names way k s hs, if_pos h0]
  simp only [Prod.mk.injEq, and_true]
  omega

theorem WaySoFar.stop {st : St} {names : List ByteArray} {way0 way : List Spot} {k : Nat} {s : ByteArray} (h : WaySoFar st names way0 k way) (hs : names[k]? = some s) (h0 : (wayStep st way s).1 ≠ 0) : wayGo st names way0 = (k, (wayStep st way s).1, way) := by
  unfold WaySoFar at h
  rw [h, wayGo_drop st names way k s hs, if_neg h0]
  simp

theorem WaySoFar.done {st : St} {names : List ByteArray} {way0 way : List Spot} {k : Nat} (h : WaySoFar st names way0 k way) (hk : names.length ≤ k) : wayGo st names way0 = (k, 0, way) := by
  unfold WaySoFar at h
  rw [h, List.drop_eq_nil_of_le hk]
  simp [wayGo]
end Go.Proofs.YtdmdgnghaceibaaGreat.M
/- The document's own answer, more: small functions of files, lists, rows. -/
namespace Go.Proofs.YtdmdgnghaceibaaGreat.M

/-- Is an open fid at a file? -/
def mFile (st : St) (o : Option Nat) : Int :=
  match o with
  | none => 2
  | some i => match st.fids[i]? with
    | none => 2
    | some f => if f.op then (if isGone st (nodeOf f) then 4 else if isDir st (nodeOf f) then 5 else 0) else 3

/-- Is a text in a list? -/
def hasText (l : List ByteArray) (s : ByteArray) : Bool := l.any (fun x => decide (x.toList = s.toList))

/-- How many of a row are not gone. -/
def liveRow (st : St) (row : List Member) : Nat := (row.filter fun m => !isGone st m.d).length

def innOf (st : St) (n : Nat) : Int := match st.nodes[n]? with | some x => x.inn | none => -1

/-- Does a node lie in a directory, however deep? -/
def inside (st : St) (d : Nat) : Nat → Int → Bool
  | 0, n => n == (d : Int)
  | k + 1, n => if 0 ≤ n ∧ n ≠ (d : Int) then inside st d k (innOf st n.toNat) else n == (d : Int)

/-- What a node lies in comes ahead of it. -/
def ParentOk (st : St) : Prop := ∀ (i : Nat) x, st.nodes[i]? = some x → -1 ≤ x.inn ∧ x.inn < (i : Int)

/-- More fuel than there is way up makes no difference. -/
theorem inside_fuel (st : St) (hp : ParentOk st) (d : Nat) : ∀ (k : Nat) (n : Int), -1 ≤ n → n < (k : Int) → inside st d k n = inside st d (n + 1).toNat n
  | 0, n, h1, h2 => by rw [show (n + 1).toNat = 0 by omega]
  | k + 1, n, h1, h2 => by
    by_cases hn : 0 ≤ n
    · obtain ⟨m, rfl⟩ := Int.eq_ofNat_of_zero_le hn
      rw [show ((m : Int) + 1).toNat = m + 1 by omega]
      simp only [inside]
      by_cases hd : (m : Int) = (d : Int)
      · rw [if_neg (fun a => a.2 hd), if_neg (fun a => a.2 hd)]
      · rw [if_pos ⟨hn, hd⟩, if_pos ⟨hn, hd⟩, Int.toNat_natCast]
        have hi : -1 ≤ innOf st m ∧ innOf st m < (m : Int) := by
          unfold innOf
          split
          · rename_i x hx
            exact hp m x hx
          · omega
        rw [inside_fuel st hp d k (innOf st m) hi.1 (by omega), inside_fuel st hp d m (innOf st m) hi.1 hi.2]
    · rw [show (n + 1).toNat = 0 by omega]
      simp only [inside]
      rw [if_neg (fun a => hn a.1)]

theorem liveRow_snoc (st : St) (row : List Member) (k : Nat) (m : Member) (hm : row[k]? = some m) : liveRow st (row.take (k + 1)) = liveRow st (row.take k) + (if isGone st m.d then 0 else 1) := by
  have hlt := lt_of_getElem? hm
  have e : row[k] = m := by rw [List.getElem?_eq_getElem hlt] at hm; exact Option.some.inj hm
  rw [List.take_succ_eq_append_getElem hlt, e]
  unfold liveRow
  rw [List.filter_append, List.length_append]
  cases h : isGone st m.d <;> simp [h]

theorem liveRow_le (st : St) (row : List Member) (k : Nat) : liveRow st (row.take k) ≤ k := by
  unfold liveRow
  exact Nat.le_trans (List.length_filter_le _ _) (List.length_take_le _ _)
end Go.Proofs.YtdmdgnghaceibaaGreat.M
/- The document's own answer, more: Create. -/
namespace Go.Proofs.YtdmdgnghaceibaaGreat.M

def newNd (name : ByteArray) (dir : Bool) (d : Nat) : Nd := ⟨name, dir, (d : Int), ⟨#[]⟩, 0, false⟩
def withNode (st : St) (x : Nd) : St := { st with nodes := st.nodes ++ [x] }
def liveNodes (l : List Nd) : Nat := (l.filter fun x => !x.gone).length

/-- The first member of a row in which entries may be made. -/
def makerOf (st : St) : List Member → Option Member
  | [] => none
  | m :: r => if isGone st m.d then makerOf st r else if m.leave then some m else makerOf st r

def setWay (st : St) (i : Nat) (f : Fid) (way : List Spot) : St := { st with fids := st.fids.set i { f with way := way } }
def mCreateAt (st : St) (i : Nat) (f : Fid) (x : Nd) : St :=
  let st1 := withNode st x
  let way := f.way ++ [come st1 st.nodes.length]
  setOpen (setWay st1 i f way) i { f with way := way }

def mCreate (st : St) (n : Int) (name : ByteArray) (dir : Bool) : St × Int :=
  match find st n with
  | none => (tick st, 2)
  | some i => match st.fids[i]? with
    | none => (tick st, 2)
    | some f => if f.op then (tick st, 3) else match f.way.getLast? with
      | none => (tick st, 2)
      | some s => if isGone st s.n then (tick st, 4) else if isDir st s.n then
          (if isName name then (match seenIn st name s.row with
            | some _ => (tick st, 8)
            | none => match makerOf st s.row with
              | none => (tick st, 9)
              | some m => if 100 ≤ liveNodes st.nodes then (tick st, 11) else (mCreateAt (tick st) i f (newNd name dir m.d), 0))
          else (tick st, 6))
        else (tick st, 5)

theorem makerOf_drop (st : St) (row : List Member) (k : Nat) (m : Member) (hm : row[k]? = some m) :
    makerOf st (row.drop k) = if isGone st m.d then makerOf st (row.drop (k + 1)) else if m.leave then some m else makerOf st (row.drop (k + 1)) := by
  have hlt := lt_of_getElem? hm
  have e : row[k] = m := by rw [List.getElem?_eq_getElem hlt] at hm; exact Option.some.inj hm
  rw [List.drop_eq_getElem_cons hlt, e]
  rfl
end Go.Proofs.YtdmdgnghaceibaaGreat.M
/- What the program's half asks of the plain model: fids by their numbers. (No program.) -/
namespace Go.Proofs.YtdmdgnghaceibaaGreat.M

/-- The fid of a number. -/
def fidAt (st : St) (n : Int) : Option Fid := st.fids.find? (fun f => f.n == n)

/-- Each number once, each a fid's. -/
structure FidsOk (st : St) : Prop where
  once : st.fids.Pairwise (fun f g => f.n ≠ g.n)
  small : ∀ f ∈ st.fids, 0 ≤ f.n ∧ f.n ≤ 50

/-- A Server that nobody called yet. -/
def root : Nd := ⟨⟨#[47]⟩, true, -1, ⟨#[]⟩, 0, false⟩
def St0 : St := ⟨[root], [], [], 0⟩

theorem fidAt_find {st : St} {n : Int} {i : Nat} (h : find st n = some i) : ∃ f, st.fids[i]? = some f ∧ f.n = n ∧ fidAt st n = some f := by
  unfold find at h
  rw [List.findIdx?_eq_some_iff_getElem] at h
  obtain ⟨hi, hp, hno⟩ := h
  refine ⟨st.fids[i], List.getElem?_eq_getElem hi, by simpa using hp, ?_⟩
  refine find?_some_of _ _ i _ (List.getElem?_eq_getElem hi) hp (fun j y hj hy => ?_)
  have hjl := lt_of_getElem? hy
  have := hno j hj
  rw [List.getElem?_eq_getElem hjl] at hy
  simp only [Option.some.injEq] at hy
  rw [hy] at this
  simpa using this

theorem fidAt_none {st : St} {n : Int} (h : find st n = none) : fidAt st n = none := by
  unfold find at h
  rw [List.findIdx?_eq_none_iff] at h
  unfold fidAt
  rw [List.find?_eq_none]
  intro x hx
  simpa using h x hx

theorem fidAt_big {st : St} (ok : FidsOk st) {n : Int} (h : fidOk n = false) : find st n = none := by
  unfold find
  rw [List.findIdx?_eq_none_iff]
  intro x hx
  have := ok.small x hx
  have h' := of_decide_eq_false h
  simp only [beq_eq_false_iff_ne, ne_eq]
  intro e
  rw [e] at this
  exact h' this

theorem find?_append {α : Type} (p : α → Bool) (l : List α) (x : α) : (l ++ [x]).find? p = (l.find? p).or (if p x then some x else none) := by
  rw [List.find?_append]
  cases h : p x <;> simp [List.find?, h]

/-- A fid more. -/
theorem fidAt_snoc (st : St) (f : Fid) (h : find st f.n = none) (m : Int) : (st.fids ++ [f]).find? (fun g => g.n == m) = if m = f.n then some f else fidAt st m := by
  rw [find?_append]
  by_cases e : m = f.n
  · subst e
    have := fidAt_none h
    unfold fidAt at this
    rw [this]
    simp
  · rw [if_neg e]
    have : (f.n == m) = false := by simpa using (fun h => e h.symm)
    rw [this]
    unfold fidAt
    simp

/-- A fid fewer. -/
theorem fidAt_drop {st : St} (ok : FidsOk st) {i : Nat} {f : Fid} (hf : st.fids[i]? = some f) (m : Int) : fidAt (mDrop st i) m = if m = f.n then none else fidAt st m := by
  have hi := lt_of_getElem? hf
  have e : st.fids[i] = f := by rw [List.getElem?_eq_getElem hi] at hf; exact Option.some.inj hf
  have hsplit : st.fids = st.fids.take i ++ f :: st.fids.drop (i + 1) := by
    conv => lhs; rw [← List.take_append_drop i st.fids, List.drop_eq_getElem_cons hi, e]
  have hp := ok.once
  rw [hsplit, List.pairwise_append] at hp
  obtain ⟨_, h2, h3⟩ := hp
  have h4 := (List.pairwise_cons.1 h2).1
  unfold fidAt mDrop
  simp only
  conv => rhs; rw [hsplit]
  rw [List.find?_append, List.find?_append]
  by_cases em : m = f.n
  · rw [if_pos em, em]
    have n1 : (st.fids.take i).find? (fun g => g.n == f.n) = none := by
      rw [List.find?_eq_none]
      intro x hx
      have := h3 x hx f (by simp)
      simpa using this
    have n2 : (st.fids.drop (i + 1)).find? (fun g => g.n == f.n) = none := by
      rw [List.find?_eq_none]
      intro x hx
      have := h4 x hx
      simpa using this.symm
    rw [n1, n2]
    rfl
  · rw [if_neg em]
    have : (f.n == m) = false := by simpa using (fun h => em h.symm)
    simp [List.find?, this]

/-- A fid is another one, of the same number. -/
theorem fidAt_set {st : St} (ok : FidsOk st) {i : Nat} {f g : Fid} (hf : st.fids[i]? = some f) (hg : g.n = f.n) (m : Int) : (st.fids.set i g).find? (fun x => x.n == m) = if m = f.n then some g else fidAt st m := by
  have hi := lt_of_getElem? hf
  have e : st.fids[i] = f := by rw [List.getElem?_eq_getElem hi] at hf; exact Option.some.inj hf
  have hsplit : st.fids = st.fids.take i ++ f :: st.fids.drop (i + 1) := by
    conv => lhs; rw [← List.take_append_drop i st.fids, List.drop_eq_getElem_cons hi, e]
  have hset : st.fids.set i g = st.fids.take i ++ g :: st.fids.drop (i + 1) := by rw [List.set_eq_take_append_cons_drop, if_pos hi]
  have hp := ok.once
  rw [hsplit, List.pairwise_append] at hp
  obtain ⟨_, h2, h3⟩ := hp
  rw [hset]
  unfold fidAt
  conv => rhs; rw [hsplit]
  rw [List.find?_append, List.find?_append]
  by_cases em : m = f.n
  · rw [if_pos em, em]
    have n1 : (st.fids.take i).find? (fun g => g.n == f.n) = none := by
      rw [List.find?_eq_none]
      intro x hx
      have := h3 x hx f (by simp)
      simpa using this
    rw [n1]
    simp [List.find?, hg]
  · rw [if_neg em]
    have n1 : (f.n == m) = false := by simpa using (fun h => em h.symm)
    have n2 : (g.n == m) = false := by rw [hg]; exact n1
    simp [List.find?, n1, n2]

/-! ### FidsOk is kept -/
theorem FidsOk.tick {st : St} (ok : FidsOk st) : FidsOk (tick st) := ⟨ok.once, ok.small⟩
theorem FidsOk.drop {st : St} (ok : FidsOk st) (i : Nat) : FidsOk (mDrop st i) := by
  have hs : (st.fids.take i ++ st.fids.drop (i + 1)).Sublist st.fids := by
    conv => rhs; rw [← List.take_append_drop i st.fids]
    exact List.Sublist.append (List.Sublist.refl _) (by rw [← List.drop_drop]; exact List.drop_sublist _ _)
  exact ⟨ok.once.sublist hs, fun f hf => ok.small f (hs.subset hf)⟩
theorem FidsOk.snoc {st : St} (ok : FidsOk st) (f : Fid) (h : find st f.n = none) (hf : 0 ≤ f.n ∧ f.n ≤ 50) : FidsOk { st with fids := st.fids ++ [f] } := by
  refine ⟨?_, fun g hg => ?_⟩
  · rw [List.pairwise_append]
    refine ⟨ok.once, by simp, fun a ha b hb => ?_⟩
    simp at hb
    subst hb
    unfold find at h
    rw [List.findIdx?_eq_none_iff] at h
    simpa using h a ha
  · rcases List.mem_append.1 hg with hg | hg
    · exact ok.small g hg
    · simp at hg; subst hg; exact hf
theorem FidsOk.set {st : St} (ok : FidsOk st) {i : Nat} {f g : Fid} (hf : st.fids[i]? = some f) (hg : g.n = f.n) : FidsOk { st with fids := st.fids.set i g } := by
  have hi := lt_of_getElem? hf
  have e : st.fids[i] = f := by rw [List.getElem?_eq_getElem hi] at hf; exact Option.some.inj hf
  have hm : (st.fids.set i g).map (·.n) = st.fids.map (·.n) := by
    rw [List.map_set, hg, ← e]
    have : (st.fids.map (·.n))[i]'(by simpa using hi) = st.fids[i].n := by simp
    rw [← this, List.set_getElem_self]
  refine ⟨?_, fun x hx => ?_⟩
  · have h1 := ok.once
    rw [show (fun f g : Fid => f.n ≠ g.n) = (fun f g : Fid => (fun a b : Int => a ≠ b) ((·.n) f) ((·.n) g)) from rfl, ← List.pairwise_map] at h1 ⊢
    rw [hm]
    exact h1
  · rcases List.mem_or_eq_of_mem_set hx with hx | rfl
    · exact ok.small x hx
    · rw [hg]; exact ok.small f (List.mem_of_getElem? hf)
end Go.Proofs.YtdmdgnghaceibaaGreat.M
/- How the program's Server lies in memory. -/
namespace Go.Proofs.YtdmdgnghaceibaaGreat.P
open M Go.ChangeShapes Go.WideShapes Go.ChangeAt Go.RowKit
set_option linter.unusedVariables false

/-- Where the nodes lie: their blocks, the directories' maps; which are directories. -/
structure Lay where
  nb : Nat → Nat
  mb : Nat → Nat
  dirs : Nat → Bool

def dirPtr (L : Lay) (i : Nat) : Value := .pointer (some ⟨L.nb i, 0, none⟩)
def nodeT (d : Bool) : TypeId := if d then 87 else 122
def nodeV (L : Lay) (i : Nat) : Value := .iface (nodeT (L.dirs i)) (.pointer (some ⟨L.nb i, 0, none⟩))
def inV (L : Lay) (i : Int) : Value := if i < 0 then .pointer none else .pointer (some ⟨L.nb i.toNat, 0, none⟩)
def mCells (L : Lay) (m : Member) : List Value := [dirPtr L m.d, .bool m.leave]
def PRow (w : World) (F : Nat → Prop) (L : Lay) (v : Value) (row : List Member) : Prop := Own w F 165 2 v (row.map (mCells L))

/-- What is seen of a block of cells. -/
structure Blk (w : World) (F : Nat → Prop) (b : Nat) (e : TypeId) : Prop where
  ty : Ty w b e
  own : F b

/-- A place: the spots by which it was come to, the last first. -/
def PlaceIs (w : World) (F : Nat → Prop) (L : Lay) (p : Nat) : List Spot → Prop
  | [] => False
  | s :: r => Blk w F p 119 ∧ w.cell? ⟨p, 0, none⟩ = some (nodeV L s.n) ∧ (∃ v, w.cell? ⟨p, 1, none⟩ = some v ∧ PRow w F L v s.row) ∧
      ∃ q, w.cell? ⟨p, 2, none⟩ = some (.pointer (some ⟨q, 0, none⟩)) ∧ match r with | [] => q = p | _ :: _ => PlaceIs w F L q r

/-- What a fid holds. -/
def StandIs (w : World) (F : Nat → Prop) (L : Lay) (s : Nat) (n : Nat) : Option Fid → Prop
  | none => w.cell? ⟨s, 7 + n * 2, none⟩ = some (.pointer none) ∧ w.cell? ⟨s, 7 + n * 2 + 1, none⟩ = some (.bool false)
  | some f => ∃ p, w.cell? ⟨s, 7 + n * 2, none⟩ = some (.pointer (some ⟨p, 0, none⟩)) ∧ w.cell? ⟨s, 7 + n * 2 + 1, none⟩ = some (.bool f.op) ∧ PlaceIs w F L p f.way.reverse

/-- What is bound onto a directory. -/
def BoundIs (w : World) (F : Nat → Prop) (L : Lay) (v : Value) : Option Laid → Prop
  | none => v = .slice none 0 0
  | some l => PRow w F L v l.row ∧ l.row ≠ []

structure DirIs (w : World) (F : Nat → Prop) (L : Lay) (st : St) (i : Nat) (x : Nd) : Prop where
  blk : Blk w F (L.nb i) 168
  c0 : w.cell? ⟨L.nb i, 0, none⟩ = some (.string x.name)
  c1 : w.cell? ⟨L.nb i, 1, none⟩ = some (inV L x.inn)
  c2 : w.cell? ⟨L.nb i, 2, none⟩ = some (.bool x.gone)
  c3 : w.cell? ⟨L.nb i, 3, none⟩ = some (.map (some (L.mb i)))
  mapF : F (L.mb i)
  map : MapIs w (L.mb i) st.nodes.length (fun s => (lies st i s).map (nodeV L))
  bound : ∃ v, w.cell? ⟨L.nb i, 4, none⟩ = some v ∧ BoundIs w F L v (st.laid.find? (fun l => l.onto == i))

def byteCells (t : ByteArray) : List (List Value) := t.data.toList.map (fun c => [.int .u8 c.toNat])

structure FileIs (w : World) (F : Nat → Prop) (L : Lay) (bv : Value) (i : Nat) (x : Nd) : Prop where
  blk : Blk w F (L.nb i) 162
  c0 : w.cell? ⟨L.nb i, 0, none⟩ = some (.string x.name)
  c1 : w.cell? ⟨L.nb i, 1, none⟩ = some (inV L x.inn)
  c2 : w.cell? ⟨L.nb i, 2, none⟩ = some (.bool x.gone)
  c3 : w.cell? ⟨L.nb i, 3, none⟩ = some bv
  c4 : w.cell? ⟨L.nb i, 4, none⟩ = some (.int .i64 x.version)
  data : Own w F 5 1 bv (byteCells x.data)

/-- The tree and its nodes. -/
structure TreeIs (w : World) (F : Nat → Prop) (t : Nat) (st : St) (L : Lay) (bv : Nat → Value) : Prop where
  blk : Blk w F t 89
  c0 : w.cell? ⟨t, 0, none⟩ = some (dirPtr L 0)
  c1 : w.cell? ⟨t, 1, none⟩ = some (.int .i64 (liveNodes st.nodes))
  kind : ∀ i x, st.nodes[i]? = some x → L.dirs i = x.dir
  dir : ∀ i x, st.nodes[i]? = some x → x.dir = true → DirIs w F L st i x
  file : ∀ i x, st.nodes[i]? = some x → x.dir = false → FileIs w F L (bv i) i x
  nbInj : ∀ i j, i < st.nodes.length → j < st.nodes.length → L.nb i = L.nb j → i = j
  mbInj : ∀ i j x y, st.nodes[i]? = some x → st.nodes[j]? = some y → x.dir = true → y.dir = true → L.mb i = L.mb j → i = j
  bvApart : ∀ i j x y k, st.nodes[i]? = some x → st.nodes[j]? = some y → x.dir = false → y.dir = false → i ≠ j → (bv i).ownBlock = some k → (bv j).ownBlock ≠ some k

/-- The Server, its lock's word lk, its tree made. -/
structure SrvHas (w : World) (F : Nat → Prop) (s : Nat) (st : St) (lk : Int) (t : Nat) (L : Lay) (bv : Nat → Value) : Prop where
  blk : Blk w F s 110
  k0 : w.cell? ⟨s, 0, none⟩ = some (.int .u32 1)
  k1 : w.cell? ⟨s, 1, none⟩ = some (.int .i32 0)
  k3 : w.cell? ⟨s, 3, none⟩ = some (.int .i32 lk)
  k5 : w.cell? ⟨s, 5, none⟩ = some (.int .i64 st.calls)
  k6 : w.cell? ⟨s, 6, none⟩ = some (.pointer (some ⟨t, 0, none⟩))
  fids : ∀ n : Nat, n < 51 → StandIs w F L s n (fidAt st n)
  tree : TreeIs w F t st L bv

/-- The Server while a call is in it. -/
def Held (w : World) (F : Nat → Prop) (s : Nat) (st : St) : Prop := ∃ t L bv, SrvHas w F s st 1 t L bv

/-- A Server that nobody called yet. -/
structure Fresh (w : World) (F : Nat → Prop) (s : Nat) : Prop where
  blk : Blk w F s 110
  k0 : w.cell? ⟨s, 0, none⟩ = some (.int .u32 0)
  k1 : w.cell? ⟨s, 1, none⟩ = some (.int .i32 0)
  k3 : w.cell? ⟨s, 3, none⟩ = some (.int .i32 0)
  k5 : w.cell? ⟨s, 5, none⟩ = some (.int .i64 0)
  k6 : w.cell? ⟨s, 6, none⟩ = some (.pointer none)
  fids : ∀ n : Nat, n < 51 → w.cell? ⟨s, 7 + n * 2, none⟩ = some (.pointer none) ∧ w.cell? ⟨s, 7 + n * 2 + 1, none⟩ = some (.bool false)

def SrvIs (w : World) (F : Nat → Prop) (s : Nat) (st : St) : Prop := (Fresh w F s ∧ st = St0) ∨ ∃ t L bv, SrvHas w F s st 0 t L bv

/-! ### What keeps it -/

/-- Of F, blocks of cells of these types, and maps (where M), are as they were. -/
structure KeepX (T : TypeId → Prop) (M : Prop) (F : Nat → Prop) (w w' : World) : Prop where
  cells : KeepT T F w w'
  maps : M → ∀ b es c, F b → w.heap[b]? = some (.map es c) → w'.heap[b]? = w.heap[b]?

section
variable {T : TypeId → Prop} {M : Prop} {F F' : Nat → Prop} {w w' w1 w2 : World} {L : Lay} {st : St}

theorem KeepX.refl (T : TypeId → Prop) (M : Prop) (F : Nat → Prop) (w : World) : KeepX T M F w w := ⟨KeepT.refl _ _ _, fun _ _ _ _ _ _ => rfl⟩
theorem KeepX.trans (h : KeepX T M F w w1) (k : KeepX T M F w1 w2) : KeepX T M F w w2 :=
  ⟨h.cells.trans k.cells, fun hM b es c hF hb => (k.maps hM b es c hF ((h.maps hM b es c hF hb).trans hb)).trans (h.maps hM b es c hF hb)⟩
theorem KeepX.below (hb : Below w.heap.size w w') : KeepX T M F w w' := ⟨KeepT.below hb, fun _ b _ _ _ h => hb.block b (Array.getElem?_eq_some_iff.1 h).1⟩
theorem KeepX.alloc (h : KeepX T M F w w1) (o : Obj) : KeepX T M F w (w1.alloc o) :=
  ⟨h.cells.alloc o, fun hM b es c hF hb => by
    have e := h.maps hM b es c hF hb
    exact (Below.heap_alloc w1 o b (Array.getElem?_eq_some_iff.1 (e.trans hb)).1).trans e⟩
theorem KeepX.drew (h : KeepX T M F w w1) : KeepX T M F w w1.drew := ⟨h.cells.drew, h.maps⟩
theorem KeepX.setTy (h : KeepX T M F w w1) {a : Addr} {e : TypeId} (ha : Ty w1 a.block e) (hT : ¬ T e) (u : Value) : KeepX T M F w (w1.setCell a u) :=
  ⟨h.cells.setTy ha hT u, fun hM b es c hF hb => by
    have e1 := h.maps hM b es c hF hb
    refine (Below.heap_setCell w1 a u b (fun heq => ?_)).trans e1
    subst heq
    obtain ⟨cur, hc⟩ := ha
    rw [e1, hb] at hc
    cases hc⟩
/-- A cell of a new block is written. -/
theorem KeepX.setNew (h : KeepX T M F w w1) {a : Addr} (ha : w.heap.size ≤ a.block) (u : Value) : KeepX T M F w (w1.setCell a u) :=
  ⟨fun b cur e hF hb hT => (Below.heap_setCell w1 a u b (by have := (Array.getElem?_eq_some_iff.1 hb).1; omega)).trans (h.cells b cur e hF hb hT),
   fun hM b es c hF hb => (Below.heap_setCell w1 a u b (by have := (Array.getElem?_eq_some_iff.1 hb).1; omega)).trans (h.maps hM b es c hF hb)⟩
theorem KeepX.weak {T' : TypeId → Prop} {M' : Prop} (h : KeepX T M F w w1) (hT : ∀ e, T' e → T e) (hM : M' → M) : KeepX T' M' F w w1 :=
  ⟨fun b cur e hF hb he => h.cells b cur e hF hb (hT e he), fun m => h.maps (hM m)⟩
theorem KeepX.ofExt {G : Nat → Prop} (h : Ext F w w') (hd : ∀ k, G k → ¬ F k) : KeepX T M G w w' :=
  ⟨fun k _ _ hG hb _ => h.block k (Array.getElem?_eq_some_iff.1 hb).1 (hd k hG), fun _ k _ _ hG hb => h.block k (Array.getElem?_eq_some_iff.1 hb).1 (hd k hG)⟩

theorem Blk.lt {b : Nat} {e : TypeId} (h : Blk w F b e) : b < w.heap.size := h.ty.lt
theorem Blk.keep {b : Nat} {e : TypeId} (h : Blk w F b e) (hk : KeepX T M F w w') (hT : T e) : w'.heap[b]? = w.heap[b]? := by
  obtain ⟨⟨cur, hb⟩, hF⟩ := h
  exact hk.cells b cur e hF hb hT
theorem Blk.kept {b : Nat} {e : TypeId} (h : Blk w F b e) (hk : KeepX T M F w w') (hT : T e) : Blk w' F b e := by
  have e1 := h.keep hk hT
  obtain ⟨⟨cur, hb⟩, hF⟩ := h
  exact ⟨⟨cur, e1.trans hb⟩, hF⟩
theorem Blk.mono {b : Nat} {e : TypeId} (h : Blk w F b e) (hF : ∀ k, F k → F' k) : Blk w F' b e := ⟨h.ty, hF _ h.own⟩
theorem Blk.cell {b : Nat} {e : TypeId} (h : Blk w F b e) (hk : KeepX T M F w w') (hT : T e) (j : Nat) : w'.cell? ⟨b, j, none⟩ = w.cell? ⟨b, j, none⟩ :=
  World.cell?_of_block (h.keep hk hT)
theorem Blk.fz {b : Nat} {e : TypeId} (h : Blk w F b e) (j : Nat) : w.frozen? ⟨b, j, none⟩ = false := by
  obtain ⟨⟨cur, hb⟩, _⟩ := h
  simp [World.frozen?, hb]
theorem Blk.setCell {b : Nat} {e : TypeId} (h : Blk w F b e) (a : Addr) (u : Value) : Blk (w.setCell a u) F b e := ⟨h.ty.setCell a u, h.own⟩

theorem PRow.kept {v : Value} {row : List Member} (h : PRow w F L v row) (hk : KeepX T M F w w') (hT : T 165) : PRow w' F L v row := Own.keepT h hk.cells hT
theorem PRow.mono {v : Value} {row : List Member} (h : PRow w F L v row) (hF : ∀ k, F k → F' k) : PRow w F' L v row := Own.mono h hF

theorem PlaceIs.kept (hk : KeepX T M F w w') (h1 : T 119) (h2 : T 165) : ∀ {p : Nat} {way : List Spot}, PlaceIs w F L p way → PlaceIs w' F L p way
  | p, [], h => h
  | p, s :: r, h => by
    obtain ⟨hb, c0, ⟨v, c1, hv⟩, q, c2, hr⟩ := h
    refine ⟨hb.kept hk h1, (hb.cell hk h1 0).trans c0, ⟨v, (hb.cell hk h1 1).trans c1, hv.kept hk h2⟩, q, (hb.cell hk h1 2).trans c2, ?_⟩
    cases r with
    | nil => exact hr
    | cons x r => exact PlaceIs.kept hk h1 h2 hr
theorem PlaceIs.mono (hF : ∀ k, F k → F' k) : ∀ {p : Nat} {way : List Spot}, PlaceIs w F L p way → PlaceIs w F' L p way
  | p, [], h => h
  | p, s :: r, h => by
    obtain ⟨hb, c0, ⟨v, c1, hv⟩, q, c2, hr⟩ := h
    refine ⟨hb.mono hF, c0, ⟨v, c1, hv.mono hF⟩, q, c2, ?_⟩
    cases r with
    | nil => exact hr
    | cons x r => exact PlaceIs.mono hF hr

theorem BoundIs.kept {v : Value} {o : Option Laid} (h : BoundIs w F L v o) (hk : KeepX T M F w w') (hT : T 165) : BoundIs w' F L v o := by
  cases o with
  | none => exact h
  | some l => exact ⟨h.1.kept hk hT, h.2⟩
theorem BoundIs.mono {v : Value} {o : Option Laid} (h : BoundIs w F L v o) (hF : ∀ k, F k → F' k) : BoundIs w F' L v o := by
  cases o with
  | none => exact h
  | some l => exact ⟨h.1.mono hF, h.2⟩

theorem DirIs.kept {i : Nat} {x : Nd} (h : DirIs w F L st i x) (hk : KeepX T M F w w') (hM : M) (h1 : T 168) (h2 : T 165) : DirIs w' F L st i x := by
  have c := h.blk.cell hk h1
  obtain ⟨es, cl, hmb⟩ := h.map.blk
  obtain ⟨v, c4, hv⟩ := h.bound
  exact ⟨h.blk.kept hk h1, (c 0).trans h.c0, (c 1).trans h.c1, (c 2).trans h.c2, (c 3).trans h.c3, h.mapF, h.map.kept (hk.maps hM _ es cl h.mapF hmb), v, (c 4).trans c4, hv.kept hk h2⟩
theorem DirIs.mono {i : Nat} {x : Nd} (h : DirIs w F L st i x) (hF : ∀ k, F k → F' k) : DirIs w F' L st i x := by
  obtain ⟨v, c4, hv⟩ := h.bound
  exact ⟨h.blk.mono hF, h.c0, h.c1, h.c2, h.c3, hF _ h.mapF, h.map, v, c4, hv.mono hF⟩
theorem FileIs.kept {bv : Value} {i : Nat} {x : Nd} (h : FileIs w F L bv i x) (hk : KeepX T M F w w') (h1 : T 162) (h2 : T 5) : FileIs w' F L bv i x := by
  have c := h.blk.cell hk h1
  exact ⟨h.blk.kept hk h1, (c 0).trans h.c0, (c 1).trans h.c1, (c 2).trans h.c2, (c 3).trans h.c3, (c 4).trans h.c4, h.data.keepT hk.cells h2⟩
theorem FileIs.mono {bv : Value} {i : Nat} {x : Nd} (h : FileIs w F L bv i x) (hF : ∀ k, F k → F' k) : FileIs w F' L bv i x :=
  ⟨h.blk.mono hF, h.c0, h.c1, h.c2, h.c3, h.c4, h.data.mono hF⟩

/-- The types that a tree's blocks have. -/
def treeT : TypeId → Prop := fun e => e = 89 ∨ e = 168 ∨ e = 162 ∨ e = 165 ∨ e = 5
def placeT : TypeId → Prop := fun e => e = 119 ∨ e = 165
def inT : TypeId → Prop := fun e => treeT e ∨ placeT e

theorem TreeIs.kept {t : Nat} {bv : Nat → Value} (h : TreeIs w F t st L bv) (hk : KeepX treeT True F w w') : TreeIs w' F t st L bv := by
  have c := h.blk.cell hk (by simp [treeT])
  exact ⟨h.blk.kept hk (by simp [treeT]), (c 0).trans h.c0, (c 1).trans h.c1, h.kind, fun i x hx hd => (h.dir i x hx hd).kept hk trivial (by simp [treeT]) (by simp [treeT]), fun i x hx hd => (h.file i x hx hd).kept hk (by simp [treeT]) (by simp [treeT]), h.nbInj, h.mbInj, h.bvApart⟩
theorem TreeIs.mono {t : Nat} {bv : Nat → Value} (h : TreeIs w F t st L bv) (hF : ∀ k, F k → F' k) : TreeIs w F' t st L bv :=
  ⟨h.blk.mono hF, h.c0, h.c1, h.kind, fun i x hx hd => (h.dir i x hx hd).mono hF, fun i x hx hd => (h.file i x hx hd).mono hF, h.nbInj, h.mbInj, h.bvApart⟩
/-- The tree asks nothing of the fids and of the count. -/
theorem TreeIs.same {t : Nat} {bv : Nat → Value} (h : TreeIs w F t st L bv) {st' : St} (h1 : st'.nodes = st.nodes) (h2 : st'.laid = st.laid) : TreeIs w F t st' L bv := by
  obtain ⟨n', l', f', c'⟩ := st'
  obtain ⟨n, l, f, c⟩ := st
  simp only at h1 h2
  subst h1 h2
  exact ⟨h.blk, h.c0, h.c1, h.kind, fun i x hx hd => let d := h.dir i x hx hd; ⟨d.blk, d.c0, d.c1, d.c2, d.c3, d.mapF, d.map, d.bound⟩, h.file, h.nbInj, h.mbInj, h.bvApart⟩

theorem StandIs.kept {s n : Nat} {o : Option Fid} (h : StandIs w F L s n o) (hk : KeepX T M F w w') (h1 : T 119) (h2 : T 165)
    (e7 : w'.cell? ⟨s, 7 + n * 2, none⟩ = w.cell? ⟨s, 7 + n * 2, none⟩) (e8 : w'.cell? ⟨s, 7 + n * 2 + 1, none⟩ = w.cell? ⟨s, 7 + n * 2 + 1, none⟩) : StandIs w' F L s n o := by
  cases o with
  | none => exact ⟨e7.trans h.1, e8.trans h.2⟩
  | some f =>
    obtain ⟨p, c7, c8, hp⟩ := h
    exact ⟨p, e7.trans c7, e8.trans c8, hp.kept hk h1 h2⟩
theorem StandIs.mono {s n : Nat} {o : Option Fid} (h : StandIs w F L s n o) (hF : ∀ k, F k → F' k) : StandIs w F' L s n o := by
  cases o with
  | none => exact h
  | some f =>
    obtain ⟨p, c7, c8, hp⟩ := h
    exact ⟨p, c7, c8, hp.mono hF⟩

theorem SrvHas.mono {s t : Nat} {lk : Int} {bv : Nat → Value} (h : SrvHas w F s st lk t L bv) (hF : ∀ k, F k → F' k) : SrvHas w F' s st lk t L bv :=
  ⟨h.blk.mono hF, h.k0, h.k1, h.k3, h.k5, h.k6, fun n hn => (h.fids n hn).mono hF, h.tree.mono hF⟩
theorem SrvHas.kept {s t : Nat} {lk : Int} {bv : Nat → Value} (h : SrvHas w F s st lk t L bv) (hk : KeepX (fun _ => True) True F w w') : SrvHas w' F s st lk t L bv := by
  have c := h.blk.cell hk trivial
  exact ⟨h.blk.kept hk trivial, (c 0).trans h.k0, (c 1).trans h.k1, (c 3).trans h.k3, (c 5).trans h.k5, (c 6).trans h.k6, fun n hn => (h.fids n hn).kept hk trivial trivial (c _) (c _), h.tree.kept (hk.weak (fun _ _ => trivial) (fun h => h))⟩
theorem SrvHas.below {s t : Nat} {lk : Int} {bv : Nat → Value} (h : SrvHas w F s st lk t L bv) (hb : Below w.heap.size w w') : SrvHas w' F s st lk t L bv := h.kept (KeepX.below hb)

theorem Fresh.kept {s : Nat} (h : Fresh w F s) (hk : KeepX (fun _ => True) True F w w') : Fresh w' F s := by
  have c := h.blk.cell hk trivial
  exact ⟨h.blk.kept hk trivial, (c 0).trans h.k0, (c 1).trans h.k1, (c 3).trans h.k3, (c 5).trans h.k5, (c 6).trans h.k6, fun n hn => ⟨(c _).trans (h.fids n hn).1, (c _).trans (h.fids n hn).2⟩⟩
theorem SrvIs.kept {s : Nat} (h : SrvIs w F s st) (hk : KeepX (fun _ => True) True F w w') : SrvIs w' F s st := by
  rcases h with ⟨h, e⟩ | ⟨t, L, bv, h⟩
  · exact .inl ⟨h.kept hk, e⟩
  · exact .inr ⟨t, L, bv, h.kept hk⟩
theorem SrvIs.mono {s : Nat} (h : SrvIs w F s st) (hF : ∀ k, F k → F' k) : SrvIs w F' s st := by
  rcases h with ⟨h, e⟩ | ⟨t, L, bv, h⟩
  · exact .inl ⟨⟨h.blk.mono hF, h.k0, h.k1, h.k3, h.k5, h.k6, h.fids⟩, e⟩
  · exact .inr ⟨t, L, bv, h.mono hF⟩
end
end Go.Proofs.YtdmdgnghaceibaaGreat.P
/- The program's makers of nodes and trees. -/
namespace Go.Proofs.YtdmdgnghaceibaaGreat.P
open M Go.ChangeShapes Go.WideShapes Go.ChangeAt Go.RowKit
set_option linter.unusedVariables false

def dirObj (name : ByteArray) (inp : Value) (m : Nat) : Obj := .cells #[.string name, inp, .bool false, .map (some m), .slice none 0 0] 168
def fileObj (name : ByteArray) (inp : Value) : Obj := .cells #[.string name, inp, .bool false, .slice none 0 0, .int .i64 0] 162
def treeObj (d : Nat) : Obj := .cells #[.pointer (some ⟨d, 0, none⟩), .int .i64 1] 89

set_option maxRecDepth 20000 in
theorem newDir_any (name : ByteArray) (q : Option Addr) (w : World) :
    Calls Tryz.prog 127 #[.string name, .pointer q] w fun e w' => e = .returned (.pointer (some ⟨w.heap.size + 1, 0, none⟩)) ∧ w' = (w.alloc (.map #[] 0)).alloc (dirObj name (.pointer q) w.heap.size) := by
  have hmm := @run_makeMap Tryz.prog
  go_enter Tryz.func127, Tryz.ntmps127
  go_wp2
  go_ret
  exact ⟨rfl, rfl⟩

set_option maxRecDepth 20000 in
theorem newFile_any (name : ByteArray) (q : Option Addr) (w : World) :
    Calls Tryz.prog 128 #[.string name, .pointer q] w fun e w' => e = .returned (.pointer (some ⟨w.heap.size, 0, none⟩)) ∧ w' = w.alloc (fileObj name (.pointer q)) := by
  go_enter Tryz.func128, Tryz.ntmps128
  go_wp2
  go_ret
  exact ⟨rfl, rfl⟩

set_option maxRecDepth 20000 in
theorem newTree_any (w : World) :
    Calls Tryz.prog 123 #[] w fun e w' => e = .returned (.pointer (some ⟨w.heap.size + 2, 0, none⟩)) ∧ w' = ((w.alloc (.map #[] 0)).alloc (dirObj ⟨#[47]⟩ (.pointer none) w.heap.size)).alloc (treeObj (w.heap.size + 1)) := by
  go_enter Tryz.func123, Tryz.ntmps123
  go_wp2_with (go_at_call 127; refine (newDir_any _ none _).mono ?_; rintro e w' ⟨rfl, rfl⟩)
  go_ret
  exact ⟨rfl, rfl⟩
end Go.Proofs.YtdmdgnghaceibaaGreat.P
/- Under which numbers this program holds sync.Mutex. -/
namespace Go.Proofs.YtdmdgnghaceibaaGreat
abbrev muLink : Go.Conc.Locks.MuLink := { lock := 81, unlock := 83, ilock := 124, iunlock := 126, lockSlow := 161, unlockSlow := 164, disable := 157, enable := 159, acquire := 160, relMerge := 162, cas32 := 158, add32 := 163, tIMutex := 97, tMutex := 99, tPMutex := 200, tPIMutex := 236, tPI32 := 238, tUP := 240, tNoCopy := 91, tU32 := 93 }
theorem muLib : Go.Conc.Locks.MuLib Tryz.prog muLink :=
  ⟨Tryz.func81, Tryz.func83, Tryz.func124, Tryz.func126, Tryz.func157, Tryz.func159, Tryz.func160, Tryz.func162, Tryz.func158, Tryz.func163, Tryz.underlying97, Tryz.runUnderlying97, Tryz.sizeOf97, Tryz.isAgg97, Tryz.zeroValue97, Tryz.underlying99, Tryz.runUnderlying99, Tryz.sizeOf99, Tryz.isAgg99, Tryz.zeroValue99, Tryz.underlying200, Tryz.runUnderlying200, Tryz.sizeOf200, Tryz.isAgg200, Tryz.zeroValue200, Tryz.underlying236, Tryz.runUnderlying236, Tryz.sizeOf236, Tryz.isAgg236, Tryz.zeroValue236, Tryz.underlying238, Tryz.runUnderlying238, Tryz.sizeOf238, Tryz.isAgg238, Tryz.zeroValue238, Tryz.underlying240, Tryz.runUnderlying240, Tryz.sizeOf240, Tryz.isAgg240, Tryz.zeroValue240, Tryz.underlying91, Tryz.runUnderlying91, Tryz.sizeOf91, Tryz.isAgg91, Tryz.zeroValue91, Tryz.underlying21, Tryz.runUnderlying21, Tryz.sizeOf21, Tryz.isAgg21, Tryz.zeroValue21, (by kernel_rfl)⟩
end Go.Proofs.YtdmdgnghaceibaaGreat
/- The program's Once, its lock, its counter. -/
namespace Go.Proofs.YtdmdgnghaceibaaGreat.P
open M Go.ChangeShapes Go.WideShapes Go.ChangeAt Go.RowKit
set_option linter.unusedVariables false

theorem store_deferred (a : Addr) (x : Value) (u : FrameMode) (w : World) (hc : w.cell? a = some x) (hz : w.frozen? a = false) :
    CallsD Tryz.prog 156 #[.pointer (some a), .bool true] u w fun e u' w' => u' = u ∧ (e = .returned (.tuple #[]) ∧ w' = w.drew.setCell a (.int .u32 1)) := by
  have hc' : w.drew.cell? a = some x := by go_simp
  have hz' : w.drew.frozen? a = false := by go_simp
  have hst := run_call_store (P := Tryz.prog) Tryz.func175 (by kernel_rfl) (by kernel_rfl) (by kernel_rfl) (by kernel_rfl) (k := .u32) (y := 1) hc' hz'
  go_enter_d Tryz.func156, Tryz.ntmps156
  go_wp2
  go_region_calls
  all_goals (go_end0; exact ⟨rfl, rfl⟩)

/-- What 'plant' lays. -/
def planted (w : World) (s : Nat) : World := (((w.alloc (.map #[] 0)).alloc (dirObj ⟨#[47]⟩ (.pointer none) w.heap.size)).alloc (treeObj (w.heap.size + 1))).setCell ⟨s, 6, none⟩ (.pointer (some ⟨w.heap.size + 2, 0, none⟩))

theorem upz {w : World} {a : Addr} {v : Value} (h : w.cell? a = some v) (o : Obj) (hz : w.frozen? a = false) : (w.alloc o).frozen? a = false := by
  have hlt := World.block_lt_of_cell? w a h
  rw [World.frozen?_of_block (w := w) (Below.heap_alloc w o a.block hlt)]
  exact hz

theorem upz3 {w : World} {a : Addr} {v : Value} (h : w.cell? a = some v) (hz : w.frozen? a = false) (o o2 o3 : Obj) : (((w.alloc o).alloc o2).alloc o3).frozen? a = false :=
  upz (up2 h o o2) o3 (upz (up h o) o2 (upz h o hz))

set_option maxRecDepth 20000 in
set_option maxHeartbeats 800000 in
theorem plant_any (s : Nat) (x : Value) (w : World) (h6 : w.cell? ⟨s, 6, none⟩ = some x) (f6 : w.frozen? ⟨s, 6, none⟩ = false) :
    Calls Tryz.prog 80 #[.pointer (some ⟨s, 0, none⟩)] w fun e w' => e = .returned (.tuple #[]) ∧ w' = planted w s := by
  have g6 := up3 h6 (.map #[] 0) (dirObj ⟨#[47]⟩ (.pointer none) w.heap.size) (treeObj (w.heap.size + 1))
  have z6 := upz3 h6 f6 (.map #[] 0) (dirObj ⟨#[47]⟩ (.pointer none) w.heap.size) (treeObj (w.heap.size + 1))
  go_enter Tryz.func80, Tryz.ntmps80
  go_wp2_with (go_at_call 123; refine (newTree_any _).mono ?_; rintro e w' ⟨rfl, rfl⟩)
  go_end0
  exact ⟨rfl, rfl⟩

theorem plant_cell (w : World) (s : Nat) (j : Nat) (hj : j ≠ 6) (hs : s < w.heap.size) : (planted w s).cell? ⟨s, j, none⟩ = w.cell? ⟨s, j, none⟩ := by
  unfold planted
  rw [World.cell?_setCell_other _ ⟨s, 6, none⟩ ⟨s, j, none⟩ _ (fun e => hj (congrArg Addr.off e).symm)]
  have e : ∀ (W : World) (o : Obj), s < W.heap.size → (W.alloc o).cell? ⟨s, j, none⟩ = W.cell? ⟨s, j, none⟩ := fun W o h => World.cell?_of_block (Below.heap_alloc W o s h)
  rw [e _ _ (by simp; omega), e _ _ (by simp; omega), e _ _ hs]

theorem plant_fz (w : World) (s : Nat) (j : Nat) (hs : s < w.heap.size) : (planted w s).frozen? ⟨s, j, none⟩ = w.frozen? ⟨s, j, none⟩ := by
  unfold planted
  rw [World.frozen?_setCell]
  have e : ∀ (W : World) (o : Obj), s < W.heap.size → (W.alloc o).frozen? ⟨s, j, none⟩ = W.frozen? ⟨s, j, none⟩ := fun W o h => World.frozen?_of_block (Below.heap_alloc W o s h)
  rw [e _ _ (by simp; omega), e _ _ (by simp; omega), e _ _ hs]

def onced (w : World) (s : Nat) : World := ((planted (w.setCell ⟨s, 1, none⟩ (.int .i32 1)) s).drew.setCell ⟨s, 0, none⟩ (.int .u32 1)).setCell ⟨s, 1, none⟩ (.int .i32 0)

set_option maxRecDepth 100000 in
set_option maxHeartbeats 1600000 in
theorem slow_first (s : Nat) (x6 : Value) (w : World) (h0 : w.cell? ⟨s, 0, none⟩ = some (.int .u32 0)) (h1 : w.cell? ⟨s, 1, none⟩ = some (.int .i32 0)) (h6 : w.cell? ⟨s, 6, none⟩ = some x6) (fz : ∀ j, w.frozen? ⟨s, j, none⟩ = false) :
    Calls Tryz.prog 122 #[.pointer (some ⟨s, 0, none⟩), .func (.func 80) #[.pointer (some ⟨s, 0, none⟩)] #[]] w fun e w' => e = .returned (.tuple #[]) ∧ w' = onced w s := by
  have hs : s < w.heap.size := World.block_lt_of_cell? w _ h0
  have hs1 : s < (w.setCell ⟨s, 1, none⟩ (.int .i32 1)).heap.size := by simpa using hs
  have a0 : (w.setCell ⟨s, 1, none⟩ (.int .i32 1)).cell? ⟨s, 0, none⟩ = some (.int .u32 0) := (World.cell?_setCell_other _ ⟨s, 1, none⟩ ⟨s, 0, none⟩ _ (by simp)).trans h0
  have a1 : (w.setCell ⟨s, 1, none⟩ (.int .i32 1)).cell? ⟨s, 1, none⟩ = some (.int .i32 1) := World.cell?_setCell_same w _ _ h1
  have a6 : (w.setCell ⟨s, 1, none⟩ (.int .i32 1)).cell? ⟨s, 6, none⟩ = some x6 := (World.cell?_setCell_other _ ⟨s, 1, none⟩ ⟨s, 6, none⟩ _ (by simp)).trans h6
  have az : ∀ j, (w.setCell ⟨s, 1, none⟩ (.int .i32 1)).frozen? ⟨s, j, none⟩ = false := fun j => by rw [World.frozen?_setCell]; exact fz j
  have hl := run_call_load (P := Tryz.prog) Tryz.func155 (by kernel_rfl) (by kernel_rfl) (by kernel_rfl) .u32 (by kernel_rfl) a0
  have hnot : ∀ (x : Bool) (w : World), (Op.unary .not (.bool x)).run Tryz.prog w = .ok (.bool (!x)) w := fun _ _ => rfl
  go_enter_defers Tryz.func122, Tryz.ntmps122
  go_wp2_with (first | (go_at_call 81; refine (Go.MuLone.lock_free muLib ⟨s, 1, none⟩ _ h1 (fz 1)).mono ?_; rintro e w' ⟨rfl, rfl⟩) | (go_at_call 80; refine (plant_any s x6 _ a6 (az 6)).mono ?_; rintro e w' ⟨rfl, rfl⟩) | (go_at_call 121; go_in))
  generalize hW : w.setCell ⟨s, 1, none⟩ (.int .i32 1) = W at *
  have p0 : (planted W s).cell? ⟨s, 0, none⟩ = some (.int .u32 0) := (plant_cell W s 0 (by decide) hs1).trans a0
  have p1 : (planted W s).cell? ⟨s, 1, none⟩ = some (.int .i32 1) := (plant_cell W s 1 (by decide) hs1).trans a1
  have pz : ∀ j, (planted W s).frozen? ⟨s, j, none⟩ = false := fun j => (plant_fz W s j hs1).trans (az j)
  refine leaves_cons (f := 156) (args := #[.pointer (some ⟨s, 0, none⟩), .bool true]) (by simp) (by simp [go_sem]) ?_
  refine (store_deferred ⟨s, 0, none⟩ (.int .u32 0) .returning _ p0 (pz 0)).mono ?_
  rintro e u' w'' ⟨rfl, rfl, rfl⟩
  refine leaves_cons (f := 83) (args := #[.pointer (some ⟨s, 1, none⟩)]) (by simp [settle]) (by simp [go_sem]) ?_
  refine (Go.MuLone.unlock_deferred muLib ⟨s, 1, none⟩ _ _ ?_ (by simp [pz 1])).mono ?_
  · refine (World.cell?_setCell_other _ ⟨s, 0, none⟩ ⟨s, 1, none⟩ _ (by simp)).trans ?_
    rw [World.cell?_drew]
    exact p1
  rintro e u' w'' ⟨rfl, rfl, rfl⟩
  subst hW
  simp [Leaves, settle, results, Tryz.results122, onced]

set_option maxRecDepth 100000 in
set_option maxHeartbeats 1600000 in
theorem do_first (s : Nat) (x6 : Value) (w : World) (h0 : w.cell? ⟨s, 0, none⟩ = some (.int .u32 0)) (h1 : w.cell? ⟨s, 1, none⟩ = some (.int .i32 0)) (h6 : w.cell? ⟨s, 6, none⟩ = some x6) (fz : ∀ j, w.frozen? ⟨s, j, none⟩ = false) :
    Calls Tryz.prog 79 #[.pointer (some ⟨s, 0, none⟩), .func (.func 80) #[.pointer (some ⟨s, 0, none⟩)] #[]] w fun e w' => e = .returned (.tuple #[]) ∧ w' = onced w s := by
  have hl := run_call_load (P := Tryz.prog) Tryz.func155 (by kernel_rfl) (by kernel_rfl) (by kernel_rfl) .u32 (by kernel_rfl) h0
  have hnot : ∀ (x : Bool) (w : World), (Op.unary .not (.bool x)).run Tryz.prog w = .ok (.bool (!x)) w := fun _ _ => rfl
  go_enter Tryz.func79, Tryz.ntmps79
  go_wp2_with (first | (go_at_call 122; refine (slow_first s x6 _ h0 h1 h6 fz).mono ?_; rintro e w' ⟨rfl, rfl⟩) | (go_at_call 121; go_in))
  go_end0
  exact ⟨rfl, rfl⟩

theorem do_done (a : Addr) (d : Int) (hd : ¬ d = 0) (fv : Value) (w : World) (h0 : w.cell? a = some (.int .u32 d)) :
    Calls Tryz.prog 79 #[.pointer (some a), fv] w fun e w' => e = .returned (.tuple #[]) ∧ w' = w := by
  have hl := run_call_load (P := Tryz.prog) Tryz.func155 (by kernel_rfl) (by kernel_rfl) (by kernel_rfl) .u32 (by kernel_rfl) h0
  have hnot : ∀ (x : Bool) (w : World), (Op.unary .not (.bool x)).run Tryz.prog w = .ok (.bool (!x)) w := fun _ _ => rfl
  have hd' : (d != 0) = true := by simp [hd]
  go_enter Tryz.func79, Tryz.ntmps79
  go_wp2
  go_end0
  exact ⟨rfl, rfl⟩

theorem add_any (a : Addr) (c : Int) (w : World) (h0 : w.cell? a = some (.int .i64 c)) (hz : w.frozen? a = false) :
    Calls Tryz.prog 82 #[.pointer (some a), .int .i64 1] w fun e w' => e = .returned (.int .i64 (wrap64 (c + 1))) ∧ w' = w.setCell a (.int .i64 (wrap64 (c + 1))) := by
  have hadd := run_call_add (P := Tryz.prog) Tryz.func125 (by kernel_rfl) (by kernel_rfl) (by kernel_rfl) .i64 (by kernel_rfl) (y := 1) (s := wrap64 (c + 1)) h0 hz (by simp [go_sem, wrap64, IntKind.wrap_i64])
  go_enter Tryz.func82, Tryz.ntmps82
  go_wp2
  go_ret
  exact ⟨rfl, rfl⟩

theorem load_any (a : Addr) (c : Int) (w : World) (h0 : w.cell? a = some (.int .i64 c)) :
    Calls Tryz.prog 63 #[.pointer (some a)] w fun e w' => e = .returned (.int .i64 c) ∧ w' = w := by
  have hl := run_call_load (P := Tryz.prog) Tryz.func104 (by kernel_rfl) (by kernel_rfl) (by kernel_rfl) .i64 (by kernel_rfl) h0
  go_enter Tryz.func63, Tryz.ntmps63
  go_wp2
  go_ret
  exact ⟨rfl, rfl⟩
end Go.Proofs.YtdmdgnghaceibaaGreat.P
