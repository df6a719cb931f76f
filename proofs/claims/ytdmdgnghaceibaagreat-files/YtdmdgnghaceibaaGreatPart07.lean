/- One step of a script, over both halves: kinds up to 5. -/
import Derived.Test.YtdmdgnghaceibaaGreatPart06
import Derived.Test.YtdmdgnghaceibaaGreatIter
import Derived.Test.YtdmdgnghaceibaaGreatPart01
import Derived.Test.YtdmdgnghaceibaaGreatPart02
import Derived.Test.YtdmdgnghaceibaaGreatPart05
import Derived.Laws.Strings
import Derived.Test.YtdmdgnghaceibaaGreatPart04
import Derived.Sort.Walk0
namespace Go.Proofs.YtdmdgnghaceibaaGreat.P
open M Go.ChangeShapes Go.WideShapes Go.ChangeAt Go.RowKit
set_option linter.unusedVariables false

theorem BothIs.below {w w2 : World} {X : Nat → Prop} {b : Nat} {st : St} (h : BothIs w X b st) (hb : Below w.heap.size w w2) : BothIs w2 X b st := by
  obtain ⟨s, r, F, G, h⟩ := h
  exact ⟨s, r, F, G, h.below hb⟩

set_option maxRecDepth 20000 in
set_option maxHeartbeats 1000000 in
theorem step_attach {w : World} {X : Nat → Prop} {b : Nat} {st : St} (k fid a bb : Int) (text : ByteArray) (yes : Bool) (ao : Option Addr) (nl nc : Nat) (h : BothIs w X b st) (ok : POk st) :
    Calls Tryz.prog 29 #[.pointer (some ⟨b, 0, none⟩), .agg #[.int .i64 1, .int .i64 k, .int .i64 fid, .int .i64 a, .int .i64 bb, .string text, .bool yes, .slice ao nl nc]] w fun e w' => e = .returned (.bool true) ∧ BothIs w' X b (mAttach st fid).1 ∧ Ext X w w' := by
  have HC := hide (turned_attach k fid a bb text yes ao nl nc (h.below ((Below.refl _ w).alloc (Nat.le_refl _) (.cells #[.int .i64 1, .int .i64 k, .int .i64 fid, .int .i64 a, .int .i64 bb, .string text, .bool yes, .slice ao nl nc] 57))) ok)
  clear h
  go_enter Tryz.func29, Tryz.ntmps29
  go_wp2_with (go_at_call 65; refine HC.out.mono ?_; rintro e w2 ⟨rfl, h2, hb2⟩; have H2 := hide h2; have HB2 := hide hb2; clear h2 hb2)
  go_ret
  exact ⟨rfl, H2.out, (Ext.below ((Below.refl _ w).alloc (Nat.le_refl _) _)).trans' HB2.out⟩

set_option maxRecDepth 20000 in
set_option maxHeartbeats 1000000 in
theorem step_clunk {w : World} {X : Nat → Prop} {b : Nat} {st : St} (k fid a bb : Int) (text : ByteArray) (yes : Bool) (ao : Option Addr) (nl nc : Nat) (h : BothIs w X b st) (ok : POk st) :
    Calls Tryz.prog 29 #[.pointer (some ⟨b, 0, none⟩), .agg #[.int .i64 2, .int .i64 k, .int .i64 fid, .int .i64 a, .int .i64 bb, .string text, .bool yes, .slice ao nl nc]] w fun e w' => e = .returned (.bool true) ∧ BothIs w' X b (mClunk st fid).1 ∧ Ext X w w' := by
  have HC := hide (turned_clunk k fid a bb text yes ao nl nc (h.below ((Below.refl _ w).alloc (Nat.le_refl _) (.cells #[.int .i64 2, .int .i64 k, .int .i64 fid, .int .i64 a, .int .i64 bb, .string text, .bool yes, .slice ao nl nc] 57))) ok)
  clear h
  go_enter Tryz.func29, Tryz.ntmps29
  go_wp2_with (go_at_call 65; refine HC.out.mono ?_; rintro e w2 ⟨rfl, h2, hb2⟩; have H2 := hide h2; have HB2 := hide hb2; clear h2 hb2)
  go_ret
  exact ⟨rfl, H2.out, (Ext.below ((Below.refl _ w).alloc (Nat.le_refl _) _)).trans' HB2.out⟩

set_option maxRecDepth 20000 in
set_option maxHeartbeats 1000000 in
theorem step_open {w : World} {X : Nat → Prop} {b : Nat} {st : St} (k fid a bb : Int) (text : ByteArray) (yes : Bool) (ao : Option Addr) (nl nc : Nat) (h : BothIs w X b st) (ok : POk st) :
    Calls Tryz.prog 29 #[.pointer (some ⟨b, 0, none⟩), .agg #[.int .i64 4, .int .i64 k, .int .i64 fid, .int .i64 a, .int .i64 bb, .string text, .bool yes, .slice ao nl nc]] w fun e w' => e = .returned (.bool true) ∧ BothIs w' X b (mOpen st fid).1 ∧ Ext X w w' := by
  have HC := hide (turned_open k fid a bb text yes ao nl nc (h.below ((Below.refl _ w).alloc (Nat.le_refl _) (.cells #[.int .i64 4, .int .i64 k, .int .i64 fid, .int .i64 a, .int .i64 bb, .string text, .bool yes, .slice ao nl nc] 57))) ok)
  clear h
  go_enter Tryz.func29, Tryz.ntmps29
  go_wp2_with (go_at_call 65; refine HC.out.mono ?_; rintro e w2 ⟨rfl, h2, hb2⟩; have H2 := hide h2; have HB2 := hide hb2; clear h2 hb2)
  go_ret
  exact ⟨rfl, H2.out, (Ext.below ((Below.refl _ w).alloc (Nat.le_refl _) _)).trans' HB2.out⟩

set_option maxRecDepth 20000 in
set_option maxHeartbeats 1000000 in
theorem step_create {w : World} {X : Nat → Prop} {b : Nat} {st : St} (k fid a bb : Int) (text : ByteArray) (yes : Bool) (ao : Option Addr) (nl nc : Nat) (h : BothIs w X b st) (ok : POk st) (htext : text.size ≤ maxLen) (hnod : st.nodes.length ≤ 1700000000000) (hlong : ∀ f ∈ st.fids, f.way.length ≤ 1700000000000) :
    Calls Tryz.prog 29 #[.pointer (some ⟨b, 0, none⟩), .agg #[.int .i64 5, .int .i64 k, .int .i64 fid, .int .i64 a, .int .i64 bb, .string text, .bool yes, .slice ao nl nc]] w fun e w' => e = .returned (.bool true) ∧ BothIs w' X b (mCreate st fid text yes).1 ∧ Ext X w w' := by
  have HC := hide (turned_create k fid a bb text yes ao nl nc (h.below ((Below.refl _ w).alloc (Nat.le_refl _) (.cells #[.int .i64 5, .int .i64 k, .int .i64 fid, .int .i64 a, .int .i64 bb, .string text, .bool yes, .slice ao nl nc] 57))) ok htext hnod hlong)
  clear h
  go_enter Tryz.func29, Tryz.ntmps29
  go_wp2_with (go_at_call 65; refine HC.out.mono ?_; rintro e w2 ⟨rfl, h2, hb2⟩; have H2 := hide h2; have HB2 := hide hb2; clear h2 hb2)
  go_ret
  exact ⟨rfl, H2.out, (Ext.below ((Below.refl _ w).alloc (Nat.le_refl _) _)).trans' HB2.out⟩

set_option maxRecDepth 20000 in
set_option maxHeartbeats 1000000 in
theorem step_walk {w : World} {X : Nat → Prop} {b : Nat} {st : St} (k fid a bb : Int) (text : ByteArray) (yes : Bool) (names : List ByteArray) (ao : Option Addr) (nc : Nat) (h : BothIs w X b st) (ok : POk st) (hn : NamesAt w ao names) (hnB : ∀ a, ao = some a → names ≠ [] → ¬ X a.block) (hlong : ∀ f ∈ st.fids, f.way.length ≤ 1700000000000) :
    Calls Tryz.prog 29 #[.pointer (some ⟨b, 0, none⟩), .agg #[.int .i64 3, .int .i64 k, .int .i64 fid, .int .i64 a, .int .i64 bb, .string text, .bool yes, .slice ao names.length nc]] w fun e w' => e = .returned (.bool true) ∧ BothIs w' X b (mWalk st fid bb names).1 ∧ Ext X w w' := by
  have HC := hide (walked_any k fid a bb text yes names ao nc (h.below ((Below.refl _ w).alloc (Nat.le_refl _) (.cells #[.int .i64 3, .int .i64 k, .int .i64 fid, .int .i64 a, .int .i64 bb, .string text, .bool yes, .slice ao names.length nc] 57))) ok (hn.ext (Ext.below (F := X) ((Below.refl _ w).alloc (Nat.le_refl _) _)) hnB) hnB hlong)
  clear h
  go_enter Tryz.func29, Tryz.ntmps29
  go_wp2_with (go_at_call 66; refine HC.out.mono ?_; rintro e w2 ⟨rfl, h2, hb2⟩; have H2 := hide h2; have HB2 := hide hb2; clear h2 hb2)
  go_ret
  exact ⟨rfl, H2.out, (Ext.below ((Below.refl _ w).alloc (Nat.le_refl _) _)).trans' HB2.out⟩

set_option maxRecDepth 20000 in
set_option maxHeartbeats 1000000 in
theorem step_none {w : World} {X : Nat → Prop} {b : Nat} {st : St} (kind k fid a bb : Int) (text : ByteArray) (yes : Bool) (ao : Option Addr) (nl nc : Nat) (h : BothIs w X b st) (hk : kind < 1 ∨ 14 < kind) :
    Calls Tryz.prog 29 #[.pointer (some ⟨b, 0, none⟩), .agg #[.int .i64 kind, .int .i64 k, .int .i64 fid, .int .i64 a, .int .i64 bb, .string text, .bool yes, .slice ao nl nc]] w fun e w' => e = .returned (.bool true) ∧ BothIs w' X b st ∧ Ext X w w' := by
  have e1 : (kind == 1) = false := beq_false_of_ne (by omega)
  have e2 : (kind == 2) = false := beq_false_of_ne (by omega)
  have e4 : (kind == 4) = false := beq_false_of_ne (by omega)
  have e5 : (kind == 5) = false := beq_false_of_ne (by omega)
  have e10 : (kind == 10) = false := beq_false_of_ne (by omega)
  have e11 : (kind == 11) = false := beq_false_of_ne (by omega)
  have e12 : (kind == 12) = false := beq_false_of_ne (by omega)
  have e3 : (kind == 3) = false := beq_false_of_ne (by omega)
  have e6 : (kind == 6) = false := beq_false_of_ne (by omega)
  have e7 : (kind == 7) = false := beq_false_of_ne (by omega)
  have e8 : (kind == 8) = false := beq_false_of_ne (by omega)
  have e9 : (kind == 9) = false := beq_false_of_ne (by omega)
  have e13 : (kind == 13) = false := beq_false_of_ne (by omega)
  have e14 : (kind == 14) = false := beq_false_of_ne (by omega)
  have H := hide h
  clear h hk
  go_enter Tryz.func29, Tryz.ntmps29
  go_wp2
  go_ret
  exact ⟨rfl, H.out.below ((Below.refl _ w).alloc (Nat.le_refl _) _), Ext.below ((Below.refl _ w).alloc (Nat.le_refl _) _)⟩

end Go.Proofs.YtdmdgnghaceibaaGreat.P
/- A directory's names in order: slices.Sorted(maps.Keys(m)), by the library's contracts. -/
namespace Go.Proofs.YtdmdgnghaceibaaGreat.P
open M Go.ChangeShapes Go.WideShapes Go.ChangeAt Go.RowKit
set_option linter.unusedVariables false

/-- The texts at which a map has something, in order. -/
structure Keys (f : ByteArray → Option Value) (l : List ByteArray) : Prop where
  order : l.Pairwise (fun a b => a.data.toList < b.data.toList)
  mem : ∀ s, s ∈ l ↔ s.size ≤ maxLen ∧ (f s).isSome = true

def strRows (l : List ByteArray) : List (List Value) := l.map fun s => [.string s]

theorem map_size_le {H : Type} {P : Program} {k : TypeId} {R : Value → Option (DataW H × List MemPlace)} {w : World} {b n : Nat} {D : DataW H} (h : w.ownsMap P k R b n D) : Go.Maps.size D ≤ n := by
  obtain ⟨es, clock, _, _, hs, rfl⟩ := h
  rw [Go.Maps.size_eq, (sorted_perm _).length_eq, List.length_map, Array.length_toList]
  exact hs

theorem lt_of_le_ne {a b : List UInt8} (h : a ≤ b) (hne : a ≠ b) : a < b := by
  by_cases hlt : a < b
  · exact hlt
  · exact absurd (List.le_antisymm h (List.not_lt.1 hlt)) hne

theorem keys_of_sorted {w : World} {b n : Nat} {f : ByteArray → Option Value} {D : DataW Value} (hown : w.ownsMap Tryz.prog 9 rawElem b n D)
    (hf : ∀ s : ByteArray, s.size ≤ maxLen → Go.Maps.has D (.string s.data.toList) = (f s).isSome ∧ ∀ v, f s = some v → ∀ z, D.atKey (.string s.data.toList) z = .held v) {ss : List (List UInt8)} (hp : ss.Perm (strKeys D)) :
    Keys f ((ss.mergeSort (fun x y => decide (x ≤ y))).map fun x => ⟨x.toArray⟩) := by
  have tr : ∀ a b c : List UInt8, decide (a ≤ b) = true → decide (b ≤ c) = true → decide (a ≤ c) = true := fun a b c h1 h2 => by simp only [decide_eq_true_eq] at *; exact List.le_trans h1 h2
  have tto : ∀ a b : List UInt8, (decide (a ≤ b) || decide (b ≤ a)) = true := fun a b => by simp only [Bool.or_eq_true, decide_eq_true_eq]; exact List.le_total a b
  have hle := strKeys_le hown Tryz.underlying9
  have hmem : ∀ x, x ∈ ss ↔ Go.Maps.has D (.string x) = true := fun x => by
    rw [hp.mem_iff]
    obtain ⟨es, rfl, hko⟩ := hown.keysOf
    rw [Go.Maps.has_eq, List.any_eq_true]
    show x ∈ es.map (fun p => strOf p.1) ↔ _
    rw [List.mem_map]
    constructor
    · rintro ⟨p, hp', rfl⟩
      obtain ⟨v, hv⟩ := hko p hp'
      obtain ⟨y, _, hy, _⟩ := Maps.keyOf_str Tryz.underlying9 hv
      exact ⟨p, hp', by rw [hy]; simp [Lit.sameKey, strOf]⟩
    · rintro ⟨p, hp', hs⟩
      obtain ⟨v, hv⟩ := hko p hp'
      obtain ⟨y, _, hy, _⟩ := Maps.keyOf_str Tryz.underlying9 hv
      rw [hy] at hs
      exact ⟨p, hp', by rw [hy]; simpa [Lit.sameKey, strOf] using hs⟩
  have hnd : ss.Nodup := by
    rw [hp.nodup_iff]
    obtain ⟨es, hD, hpw, _⟩ := hown.entries strKeyed
    obtain ⟨es', hD', hko⟩ := hown.keysOf
    obtain rfl : es = es' := by rw [hD] at hD'; simpa using hD'
    subst hD
    show (es.map fun p => strOf p.1).Nodup
    refine List.pairwise_map.2 (hpw.imp_of_mem fun {p q} hp' hq' hne e => hne ?_)
    obtain ⟨v, hv⟩ := hko p hp'
    obtain ⟨x, _, hx, _⟩ := Maps.keyOf_str Tryz.underlying9 hv
    obtain ⟨v', hv'⟩ := hko q hq'
    obtain ⟨y, _, hy, _⟩ := Maps.keyOf_str Tryz.underlying9 hv'
    rw [hx, hy] at e ⊢
    exact congrArg _ e
  have hnd' : (ss.mergeSort (fun x y => decide (x ≤ y))).Nodup := ((List.mergeSort_perm ss _).nodup_iff).2 hnd
  refine ⟨?_, fun s => ?_⟩
  · refine List.pairwise_map.2 ?_
    refine ((List.pairwise_mergeSort tr tto ss).and hnd').imp (fun {a b} h => ?_)
    have h1 : a ≤ b := by simpa using h.1
    simpa using lt_of_le_ne h1 h.2
  · rw [List.mem_map]
    constructor
    · rintro ⟨x, hx, rfl⟩
      have hx' : x ∈ ss := (List.mergeSort_perm ss _).mem_iff.1 hx
      have hl : x.length ≤ maxLen := hle x (hp.mem_iff.1 hx')
      have hs : (⟨x.toArray⟩ : ByteArray).size ≤ maxLen := by simpa [ByteArray.size] using hl
      refine ⟨hs, ?_⟩
      rw [← (hf ⟨x.toArray⟩ hs).1]
      simpa using (hmem x).1 hx'
    · rintro ⟨hs, hfs⟩
      rw [← (hf s hs).1] at hfs
      exact ⟨s.data.toList, (List.mergeSort_perm ss _).mem_iff.2 ((hmem _).2 hfs), by simp⟩

theorem keys_any (b : Nat) (w : World) : Calls Tryz.prog 96 #[.map (some b)] w fun e w' => e = .returned (.func (.func 131) #[] #[.pointer (some ⟨w.heap.size, 0, none⟩)]) ∧ w' = w.alloc (.cells #[.map (some b)] 166) :=
  callsIn_wide.1 (Tryz.maps_Keys_96 (some b) w)

/-- What 'slices.Sorted' gives for what 'maps.Keys' gave. -/
theorem sorted_any {w : World} {b n : Nat} {f : ByteArray → Option Value} (h : MapIs w b n f) (hn : n ≤ 1700000000000) :
    Calls Tryz.prog 95 #[.func (.func 131) #[] #[.pointer (some ⟨w.heap.size, 0, none⟩)]] (w.alloc (.cells #[.map (some b)] 166)) fun e w' => ∃ (v : Value) (l : List ByteArray), e = .returned v ∧ Keys f l ∧ l.length ≤ n ∧
      Own w' (fun k => w.heap.size + 1 ≤ k ∧ k < w'.heap.size) 9 1 v (strRows l) ∧ Below (w.heap.size + 1) (w.alloc (.cells #[.map (some b)] 166)) w' := by
  obtain ⟨D, hD, hf⟩ := h
  have hsz := map_size_le hD
  refine callsIn_wide.1 ((Tryz.slices_Sorted_keys_95_96 b n D rawElem w hD (by unfold maxLen; omega) (by omega)).mono ?_)
  rintro e w' ⟨v, ss, rfl, hp, hrow, hnil, hb⟩
  have hl : ss.length ≤ n := by
    rw [hp.length_eq]
    obtain ⟨es, rfl, _⟩ := hD.keysOf
    show (es.map fun p => strOf p.1).length ≤ n
    rw [List.length_map]
    exact hsz
  have hz : (w.alloc (.cells #[.map (some b)] 166)).heap.size = w.heap.size + 1 := by simp
  rw [hz] at hb hrow
  refine ⟨v, (ss.mergeSort (fun x y => decide (x ≤ y))).map fun x => ⟨x.toArray⟩, rfl, keys_of_sorted hD hf hp, by rw [List.length_map, List.length_mergeSort]; exact hl, ⟨?_, ?_, fun k hk => hrow.lt k hk⟩, hb⟩
  · have hlen : (strRows ((ss.mergeSort (fun x y => decide (x ≤ y))).map fun x => ⟨x.toArray⟩)).length = ss.length := by
      unfold strRows
      rw [List.length_map, List.length_map, List.length_mergeSort]
    have hfl : (strRows ((ss.mergeSort (fun x y => decide (x ≤ y))).map fun x => ⟨x.toArray⟩)).flatten = (ss.mergeSort (fun x y => decide (x ≤ y))).map encStr := by
      unfold strRows
      generalize ss.mergeSort (fun x y => decide (x ≤ y)) = l
      induction l with
      | nil => rfl
      | cons x l ih => simp only [List.map_cons, List.flatten_cons, ih]; rfl
    rw [hlen, hfl]
    obtain ⟨h1, h2⟩ := hrow
    refine ⟨h1, ?_⟩
    rcases h2 with h2 | ⟨g, cap, cur, e, _, r⟩
    · exact .inl h2
    · exact .inr ⟨g, cap, cur, e, Nat.zero_le _, r⟩
  · intro r hr
    unfold strRows at hr
    obtain ⟨s, _, rfl⟩ := List.mem_map.1 hr
    rfl
end Go.Proofs.YtdmdgnghaceibaaGreat.P
/- The document's own answer, more: Stat. -/
namespace Go.Proofs.YtdmdgnghaceibaaGreat.M

structure StatR where
  name : ByteArray
  dir : Bool
  size : Int
  version : Int
  row : Int

def noStat : StatR := ⟨⟨#[]⟩, false, 0, 0, 0⟩

def mStat (st : St) (n : Int) : St × StatR × Int :=
  match find st n with
  | none => (tick st, noStat, 2)
  | some i => match st.fids[i]? with
    | none => (tick st, noStat, 2)
    | some f => match f.way.getLast? with
      | none => (tick st, noStat, 2)
      | some s => match st.nodes[s.n]? with
        | none => (tick st, noStat, 2)
        | some x => if x.gone then (tick st, noStat, 4) else if x.dir then (tick st, ⟨x.name, true, 0, 0, liveRow st s.row⟩, 0) else (tick st, ⟨x.name, false, x.data.size, x.version, 0⟩, 0)
end Go.Proofs.YtdmdgnghaceibaaGreat.M
/- The document's own answer, more: Read. -/
namespace Go.Proofs.YtdmdgnghaceibaaGreat.M

/-- The bytes from a place on, so many at most. -/
def textAt (d : ByteArray) (a c : Nat) : ByteArray := if a < d.size then d.extract a (min (a + c) d.size) else ⟨#[]⟩

def dataOf (st : St) (f : Fid) : ByteArray := match st.nodes[nodeOf f]? with | some x => x.data | none => ⟨#[]⟩

def mRead (st : St) (n a c : Int) : St × ByteArray × Int :=
  if mFile st (find st n) = 0 then
    (if a < 0 ∨ c < 0 then (tick st, ⟨#[]⟩, 1) else match find st n with
      | none => (tick st, ⟨#[]⟩, 2)
      | some i => match st.fids[i]? with
        | none => (tick st, ⟨#[]⟩, 2)
        | some f => (tick st, textAt (dataOf st f) a.toNat c.toNat, 0))
  else (tick st, ⟨#[]⟩, mFile st (find st n))

theorem textAt_stop {d : ByteArray} {a c k : Nat} (h1 : a ≤ k) (h2 : k ≤ d.size) (h3 : k - a ≤ c) (h4 : d.size ≤ k ∨ c ≤ k - a) (ha : a < d.size) : textAt d a c = d.extract a k := by
  unfold textAt
  rw [if_pos ha, show min (a + c) d.size = k by omega]

theorem extract_more (d : ByteArray) (a k : Nat) (h : a ≤ k) : d.extract a k ++ d.extract k (k + 1) = d.extract a (k + 1) :=
  (ByteArray.extract_eq_extract_append_extract k h (by omega)).symm
end Go.Proofs.YtdmdgnghaceibaaGreat.M
/- The document's own answer, more: Write. -/
namespace Go.Proofs.YtdmdgnghaceibaaGreat.M

def zeros (k : Nat) : ByteArray := ⟨Array.replicate k 0⟩
def padded (d : ByteArray) (a : Nat) : ByteArray := d ++ zeros (a - d.size)
/-- What a file holds behind a Write. -/
def over (d : ByteArray) (a : Nat) (t : ByteArray) : ByteArray :=
  (padded d a).extract 0 a ++ t ++ (if a + t.size < (padded d a).size then (padded d a).extract (a + t.size) (padded d a).size else ⟨#[]⟩)

def wroteNd (x : Nd) (a : Nat) (t : ByteArray) : Nd :=
  if t.size = 0 then { x with version := Go.RowKit.wrap64 (x.version + 1) } else { x with version := Go.RowKit.wrap64 (x.version + 1), data := over x.data a t }

def setNode (st : St) (i : Nat) (x : Nd) : St := { st with nodes := st.nodes.set i x }

def mWrite (st : St) (n a : Int) (t : ByteArray) : St × Int × Int :=
  if mFile st (find st n) = 0 then
    (if a < 0 then (tick st, 0, 1) else if 300 < a ∨ 300 < a + t.size then (tick st, 0, 12) else match find st n with
      | none => (tick st, 0, 2)
      | some i => match st.fids[i]? with
        | none => (tick st, 0, 2)
        | some f => match st.nodes[nodeOf f]? with
          | none => (tick st, 0, 2)
          | some x => (setNode (tick st) (nodeOf f) (wroteNd x a.toNat t), (t.size : Int), 0))
  else (tick st, 0, mFile st (find st n))

theorem size_zeros (k : Nat) : (zeros k).size = k := by simp [zeros, ByteArray.size]
theorem zeros_more (d : ByteArray) (k : Nat) : d ++ zeros k ++ ⟨#[0]⟩ = d ++ zeros (k + 1) := by
  apply ByteArray.ext
  simp [zeros, ByteArray.data_append, Array.replicate_succ]
theorem zeros_none (d : ByteArray) : d ++ zeros 0 = d := by
  apply ByteArray.ext
  simp [zeros, ByteArray.data_append]
theorem size_padded (d : ByteArray) (a : Nat) : (padded d a).size = max d.size a := by
  unfold padded
  rw [ByteArray.size_append, size_zeros]
  omega
end Go.Proofs.YtdmdgnghaceibaaGreat.M
/- The document's own answer, more: the names in a directory, List. -/
namespace Go.Proofs.YtdmdgnghaceibaaGreat.M

def ltB (a b : ByteArray) : Prop := a.data.toList < b.data.toList
instance (a b : ByteArray) : Decidable (ltB a b) := by unfold ltB; infer_instance

theorem ltB_irrefl (a : ByteArray) : ¬ ltB a a := List.lt_irrefl _
theorem ltB_trans {a b c : ByteArray} (h : ltB a b) (k : ltB b c) : ltB a c := List.lt_trans h k
theorem ltB_or {a b : ByteArray} (h : ¬ ltB a b) (hne : a ≠ b) : ltB b a := by
  unfold ltB at *
  by_cases k : b.data.toList < a.data.toList
  · exact k
  · refine absurd ?_ hne
    have e := List.le_antisymm (List.not_lt.1 h) (List.not_lt.1 k)
    cases a; cases b
    simp only [ByteArray.mk.injEq]
    exact Array.toList_inj.1 e.symm

/-- A name more, in its place. -/
def insName : List ByteArray → ByteArray → List ByteArray
  | [], s => [s]
  | x :: l, s => if ltB x s then x :: insName l s else if x = s then x :: l else s :: x :: l

theorem mem_insName {a s : ByteArray} : ∀ {l : List ByteArray}, a ∈ insName l s ↔ a = s ∨ a ∈ l
  | [] => by simp [insName]
  | x :: l => by
    unfold insName
    split
    · rw [List.mem_cons, mem_insName, List.mem_cons]
      constructor
      · rintro (h | h | h)
        · exact .inr (.inl h)
        · exact .inl h
        · exact .inr (.inr h)
      · rintro (h | h | h)
        · exact .inr (.inl h)
        · exact .inl h
        · exact .inr (.inr h)
    · split
      · rename_i e
        subst e
        simp
      · simp

theorem sorted_insName {s : ByteArray} : ∀ {l : List ByteArray}, l.Pairwise ltB → (insName l s).Pairwise ltB
  | [], _ => by simp [insName]
  | x :: l, h => by
    obtain ⟨h1, h2⟩ := List.pairwise_cons.1 h
    unfold insName
    split
    · rename_i hx
      refine List.pairwise_cons.2 ⟨fun a ha => ?_, sorted_insName h2⟩
      rcases mem_insName.1 ha with rfl | ha
      · exact hx
      · exact h1 a ha
    · rename_i hx
      split
      · exact h
      · rename_i hne
        refine List.pairwise_cons.2 ⟨fun a ha => ?_, h⟩
        have hs := ltB_or hx hne
        rcases List.mem_cons.1 ha with rfl | ha
        · exact hs
        · exact ltB_trans hs (h1 a ha)

def addName (d : Nat) (l : List ByteArray) (x : Nd) : List ByteArray := if x.inn = (d : Int) ∧ x.gone = false then insName l x.name else l
def namesIn (d : Nat) (nodes : List Nd) : List ByteArray := nodes.foldl (addName d) []
/-- The names of a directory's entries, in order. -/
def namesOf (st : St) (d : Nat) : List ByteArray := namesIn d st.nodes

theorem fold_names (d : Nat) : ∀ (nodes : List Nd) (l : List ByteArray), l.Pairwise ltB → (nodes.foldl (addName d) l).Pairwise ltB ∧ ∀ a, a ∈ nodes.foldl (addName d) l ↔ a ∈ l ∨ ∃ x ∈ nodes, x.inn = (d : Int) ∧ x.gone = false ∧ x.name = a
  | [], l, h => ⟨h, fun a => by simp⟩
  | x :: nodes, l, h => by
    rw [List.foldl_cons]
    unfold addName
    by_cases hc : x.inn = (d : Int) ∧ x.gone = false
    · obtain ⟨h1, h2⟩ := fold_names d nodes (insName l x.name) (sorted_insName h)
      simp only [if_pos hc]
      refine ⟨h1, fun a => (h2 a).trans ?_⟩
      rw [mem_insName]
      constructor
      · rintro ((rfl | h) | ⟨y, hy, r⟩)
        · exact .inr ⟨x, by simp, hc.1, hc.2, rfl⟩
        · exact .inl h
        · exact .inr ⟨y, by simp [hy], r⟩
      · rintro (h | ⟨y, hy, r1, r2, r3⟩)
        · exact .inl (.inr h)
        · rcases List.mem_cons.1 hy with rfl | hy
          · exact .inl (.inl r3.symm)
          · exact .inr ⟨y, hy, r1, r2, r3⟩
    · obtain ⟨h1, h2⟩ := fold_names d nodes l h
      simp only [if_neg hc]
      refine ⟨h1, fun a => (h2 a).trans ?_⟩
      constructor
      · rintro (h | ⟨y, hy, r⟩)
        · exact .inl h
        · exact .inr ⟨y, by simp [hy], r⟩
      · rintro (h | ⟨y, hy, r1, r2, r3⟩)
        · exact .inl h
        · rcases List.mem_cons.1 hy with rfl | hy
          · exact absurd ⟨r1, r2⟩ hc
          · exact .inr ⟨y, hy, r1, r2, r3⟩

theorem names_sorted (st : St) (d : Nat) : (namesOf st d).Pairwise ltB := (fold_names d st.nodes [] List.Pairwise.nil).1

theorem sorted_unique {l k : List ByteArray} (hl : l.Pairwise ltB) (hk : k.Pairwise ltB) (h : ∀ a, a ∈ l ↔ a ∈ k) : l = k := by
  have nd : ∀ {m : List ByteArray}, m.Pairwise ltB → m.Nodup := fun {m} hm => List.Pairwise.imp (fun {a b} (hab : ltB a b) (e : a = b) => by subst e; exact ltB_irrefl a hab) hm
  exact List.Perm.eq_of_pairwise (le := ltB) (fun a b _ _ h1 h2 => absurd (ltB_trans h1 h2) (ltB_irrefl a)) hl hk ((List.perm_ext_iff_of_nodup (nd hl) (nd hk)).2 h)

/-- What List tells of the first k members of a row. -/
def listUpto (st : St) (row : List Member) : Nat → List ByteArray
  | 0 => []
  | k + 1 => match row[k]? with
    | none => listUpto st row k
    | some m => if isGone st m.d then listUpto st row k else listUpto st row k ++ (namesOf st m.d).filter (fun s => (seenIn st s (row.take k)).isNone)

def mDirE (st : St) (o : Option Nat) : Int :=
  match o with
  | none => 2
  | some i => match st.fids[i]? with
    | none => 2
    | some f => if f.op then (if isGone st (nodeOf f) then 4 else if isDir st (nodeOf f) then 0 else 5) else 3

def fidRow (f : Fid) : List Member := match f.way.getLast? with | some s => s.row | none => []

def mList (st : St) (n : Int) : St × List ByteArray × Int :=
  if mDirE st (find st n) = 0 then match find st n with
    | none => (tick st, [], 2)
    | some i => match st.fids[i]? with
      | none => (tick st, [], 2)
      | some f => (tick st, listUpto st (fidRow f) (fidRow f).length, 0)
  else (tick st, [], mDirE st (find st n))
end Go.Proofs.YtdmdgnghaceibaaGreat.M
/- The program's row.list. -/
namespace Go.Proofs.YtdmdgnghaceibaaGreat.P
open M Go.ChangeShapes Go.WideShapes Go.ChangeAt Go.RowKit
set_option linter.unusedVariables false

theorem infoString : (Tryz.prog.info? 9).map (fun i => (i.zero, i.size, i.bytes)) = some (some (.string ⟨#[]⟩), 1, 16) := by kernel_rfl

/-- The blocks that were made between two worlds. -/
def nw (w w' : World) : Nat → Prop := fun k => w.heap.size ≤ k ∧ k < w'.heap.size

theorem len_strRows (l : List ByteArray) : (strRows l).length = l.length := by unfold strRows; rw [List.length_map]
theorem strRows_append (a b : List ByteArray) : strRows (a ++ b) = strRows a ++ strRows b := by unfold strRows; rw [List.map_append]
theorem strRows_one (s : ByteArray) : strRows [s] = [[.string s]] := rfl

theorem lies_isSome {st : St} {d : Nat} {s : ByteArray} : (lies st d s).isSome = true ↔ ∃ x ∈ st.nodes, x.inn = (d : Int) ∧ x.gone = false ∧ x.name = s := by
  unfold lies
  rw [List.findIdx?_isSome, List.any_eq_true]
  constructor
  · rintro ⟨x, hx, h⟩
    unfold liesHere at h
    simp only [Bool.and_eq_true, beq_iff_eq, decide_eq_true_eq, Bool.not_eq_true'] at h
    exact ⟨x, hx, h.1.1, h.2, bytes_eq (by rw [← toList_data, ← toList_data]; exact h.1.2)⟩
  · rintro ⟨x, hx, h1, h2, rfl⟩
    exact ⟨x, hx, by unfold liesHere; simp [h1, h2]⟩

theorem names_of_keys {st : St} {d : Nat} {L : Lay} {l : List ByteArray} (hn : ∀ x ∈ st.nodes, x.name.size ≤ 12) (h : Keys (fun s => (lies st d s).map (nodeV L)) l) : l = namesOf st d := by
  refine sorted_unique h.order (names_sorted st d) (fun a => ?_)
  have h2 : a ∈ namesOf st d ↔ _ := (fold_names d st.nodes [] List.Pairwise.nil).2 a
  rw [h.mem a, h2, Option.isSome_map, lies_isSome]
  constructor
  · rintro ⟨_, x, hx, r⟩
    exact .inr ⟨x, hx, r⟩
  · rintro (h | ⟨x, hx, r1, r2, r3⟩)
    · simp at h
    · exact ⟨by rw [← r3]; have := hn x hx; unfold maxLen; omega, x, hx, r1, r2, r3⟩

theorem names_small {st : St} {d : Nat} (hn : ∀ x ∈ st.nodes, x.name.size ≤ 12) {s : ByteArray} (h : s ∈ namesOf st d) : s.size ≤ 12 := by
  have h2 : s ∈ namesOf st d ↔ _ := (fold_names d st.nodes [] List.Pairwise.nil).2 s
  rcases h2.1 h with h | ⟨x, hx, _, _, rfl⟩
  · simp at h
  · exact hn x hx

theorem filter_take_succ {α : Type} (P : α → Bool) (l : List α) (q : Nat) (s : α) (h : l[q]? = some s) : (l.take (q + 1)).filter P = (l.take q).filter P ++ (if P s then [s] else []) := by
  have hlt := M.lt_of_getElem? h
  have e : l[q] = s := by rw [List.getElem?_eq_getElem hlt] at h; exact Option.some.inj h
  rw [List.take_succ_eq_append_getElem hlt, e, List.filter_append]
  cases hp : P s <;> simp [hp]

theorem listUpto_gone {st : St} {row : List Member} {k : Nat} {m : Member} (hm : row[k]? = some m) (hg : isGone st m.d = true) : listUpto st row (k + 1) = listUpto st row k := by
  show (match row[k]? with | none => _ | some m => _) = _
  rw [hm]
  simp [hg]
theorem listUpto_live {st : St} {row : List Member} {k : Nat} {m : Member} (hm : row[k]? = some m) (hg : isGone st m.d = false) : listUpto st row (k + 1) = listUpto st row k ++ (namesOf st m.d).filter (fun s => (seenIn st s (row.take k)).isNone) := by
  show (match row[k]? with | none => _ | some m => _) = _
  rw [hm]
  simp [hg]

/-- What List has told so far. -/
structure Told (w wr : World) (l : List ByteArray) (out : Value) : Prop where
  own : Own wr (nw w wr) 9 1 out (strRows l)
  form : ∃ ao c, out = .slice ao l.length c
  below : Below w.heap.size w wr

theorem Told.nil (w : World) : Told w w [] (.slice none 0 0) := ⟨Own.nil _ _ _ _, ⟨none, 0, rfl⟩, Below.refl _ _⟩
theorem Told.kept {w wr w' : World} {l : List ByteArray} {out : Value} (h : Told w wr l out) (hb : Below wr.heap.size wr w') : Told w w' l out :=
  ⟨(h.own.keptBlock (fun k hk => hb.block k (h.own.2.2 k hk).2)).mono (fun k hk => ⟨hk.1, Nat.lt_of_lt_of_le hk.2 hb.size⟩), h.form, ⟨hb.os.trans h.below.os, hb.tape.trans h.below.tape, hb.output.trans h.below.output, Nat.le_trans h.below.size hb.size, fun k hk => (hb.block k (Nat.lt_of_lt_of_le hk h.below.size)).trans (h.below.block k hk)⟩⟩

/-- Beside what was told, the names that are gone through. -/
structure Told2 (w wr : World) (base : List ByteArray) (out : Value) (l : List ByteArray) (sv : Value) : Prop where
  told : Told w wr base out
  own : Own wr (nw w wr) 9 1 sv (strRows l)
  apart : ∀ b, out.ownBlock = some b → sv.ownBlock ≠ some b

theorem Told2.kept {w wr w' : World} {base l : List ByteArray} {out sv : Value} (h : Told2 w wr base out l sv) (hb : Below wr.heap.size wr w') : Told2 w w' base out l sv :=
  ⟨h.told.kept hb, (h.own.keptBlock (fun k hk => hb.block k (h.own.2.2 k hk).2)).mono (fun k hk => ⟨hk.1, Nat.lt_of_lt_of_le hk.2 hb.size⟩), h.apart⟩

theorem Told2.push {w wX w' : World} {base l : List ByteArray} {out sv : Value} {s : ByteArray} {ao : Option Addr} {n c : Nat} (h : Told2 w wX base out l sv) (hn : n = base.length + 1)
    (ho : Own w' (ext (nw w wX) wX w') 9 1 (.slice ao n c) (strRows base ++ [[.string s]])) (hg : wX.grownBy w' out.ownBlock) (hb : ∀ b, (Value.slice ao n c).ownBlock = some b → out.ownBlock = some b ∨ wX.heap.size ≤ b) : Told2 w w' (base ++ [s]) (.slice ao n c) l sv := by
  have hz := hg.size
  have hw := h.told.below.size
  have hsub : ∀ k, ext (nw w wX) wX w' k → nw w w' k := fun k hk => by
    rcases hk with hk | hk
    · exact ⟨hk.1, Nat.lt_of_lt_of_le hk.2 hz⟩
    · exact ⟨Nat.le_trans hw hk.1, hk.2⟩
  refine ⟨⟨?_, ⟨ao, c, by rw [hn]; simp⟩, ?_⟩, ?_, fun b hb' => ?_⟩
  · rw [strRows_append, strRows_one]
    exact ho.mono hsub
  · refine ⟨hg.os.trans h.told.below.os, hg.tape.trans h.told.below.tape, hg.output.trans h.told.below.output, Nat.le_trans hw hz, fun k hk => (hg.block k (Nat.lt_of_lt_of_le hk hw) (fun e => ?_)).trans (h.told.below.block k hk)⟩
    have := (h.told.own.2.2 k e.symm).1
    omega
  · exact (h.own.keptBlock (fun k hk => hg.block k (h.own.2.2 k hk).2 (fun e => h.apart k e.symm hk))).mono (fun k hk => ⟨hk.1, Nat.lt_of_lt_of_le hk.2 hz⟩)
  · rcases hb b hb' with q | q
    · exact h.apart b q
    · intro e
      have := (h.own.2.2 b e).2
      omega

theorem row_take {w : World} {F : Nat → Prop} {L : Lay} {g n cap : Nat} {row : List Member} (h : PRow w F L (.slice (some ⟨g, 0, none⟩) n cap) row) (k : Nat) (hk : k ≤ n) : PRow w F L (.slice (some ⟨g, 0, none⟩) k cap) (row.take k) := by
  have := Own.take h k hk
  rw [← List.map_take] at this
  exact this

set_option maxRecDepth 20000 in
set_option maxHeartbeats 2000000 in
theorem list_any {w : World} {F : Nat → Prop} {t : Nat} {st : St} {L : Lay} {bv : Nat → Value} (row : List Member) (v : Value) (h : TreeIs w F t st L bv) (hv : PRow w F L v row) (hok : RowDirs st row) (hlen6 : row.length ≤ 6) (hnm : ∀ x ∈ st.nodes, x.name.size ≤ 12) (hnodes : st.nodes.length ≤ 1700000000000)
    (hsmall : ∀ k, k ≤ row.length → (listUpto st row k).length ≤ 1000000) :
    Calls Tryz.prog 55 #[v] w fun e w' => ∃ out, e = .returned out ∧ Told w w' (listUpto st row row.length) out := by
  rcases hv.opened with ⟨rfl, hn⟩ | ⟨g, cap, rfl, hcap, hmax, hF, hb, hcell, hfz⟩
  · have h0 : row = [] := List.map_eq_nil_iff.1 hn
    subst h0
    clear hv hn h hok
    go_enter Tryz.func55, Tryz.ntmps55
    go_wp2
    go_loop [3, 10] (fun o i => i = .int .i64 0 ∧ o = .slice none 0 0) (fun _ _ => 0)
    case atStart => exact ⟨rfl, rfl⟩
    case round =>
      obtain ⟨rfl, rfl⟩ := hrel
      go_wp2
      go_ret
      exact ⟨_, rfl, Told.nil w⟩
  · have hlen : (row.map (mCells L)).length = row.length := by simp
    rw [hlen] at hcap hv
    rw [hlen]
    have HT := hide h
    have Hc := hide hcell
    have hglt : g < w.heap.size := by obtain ⟨cur, hb⟩ := hb; exact (Array.getElem?_eq_some_iff.1 hb).1
    have Hok := hide hok
    have Hv := hide hv
    have Hsm := hide hsmall
    clear h hb hcell hfz hv hok hF hlen hmax hsmall
    go_enter Tryz.func55, Tryz.ntmps55
    go_wp2
    go_loopw [3, 10] (fun o i wr => ∃ k : Nat, k ≤ row.length ∧ i = .int .i64 k ∧ Told w wr (listUpto st row k) o) (fun _ i _ => row.length - (intOf i).toNat)
    case atStart => exact ⟨0, Nat.zero_le _, rfl, Told.nil w⟩
    case round =>
      obtain ⟨k, hk, rfl, hTo⟩ := hrel
      have hbel := hTo.below
      have Hbel := hide hbel
      obtain ⟨ao, co, rfl⟩ := hTo.form
      have HTo := hide hTo
      clear hTo
      by_cases hlt : k < row.length
      · obtain ⟨m, hm⟩ := M.getElem?_of_lt hlt
        have hmm := List.mem_of_getElem? hm
        obtain ⟨hd, hdir⟩ := Hok.out m hmm
        obtain ⟨x, hx, D, hg2, hnlt⟩ := HT.out.member hd hdir
        have hrow : (row.map (mCells L))[k]? = some (mCells L m) := by rw [List.getElem?_map, hm]; rfl
        have r0 : wr.cell? ⟨g, k * 2, none⟩ = some (dirPtr L m.d) := (hbel.cell (p := ⟨g, k * 2, none⟩) hglt).trans (Hc.out k _ 0 _ hrow rfl)
        have r1 : wr.cell? ⟨g, k * 2 + 1, none⟩ = some (.bool m.leave) := (hbel.cell (p := ⟨g, k * 2 + 1, none⟩) hglt).trans (Hc.out k _ 1 _ hrow rfl)
        have g2 : wr.cell? ⟨L.nb m.d, 2, none⟩ = some (.bool (isGone st m.d)) := (hbel.cell (p := ⟨L.nb m.d, 2, none⟩) hnlt).trans hg2
        have g3 : wr.cell? ⟨L.nb m.d, 3, none⟩ = some (.map (some (L.mb m.d))) := (hbel.cell (p := ⟨L.nb m.d, 3, none⟩) hnlt).trans D.c3
        have hMM := fun o => (D.map.kept (hbel.block _ D.map.lt)).kept (Below.heap_alloc wr o _ (Nat.lt_of_lt_of_le D.map.lt hbel.size))
        have HMM := hide hMM
        have Hm := hide hm
        unfold dirPtr at r0
        clear hm hx D hrow hbel hmm hg2 hMM
        have k0 : (0 : Int) ≤ (k : Int) := by omega
        have k1 : (k : Int) < (row.length : Int) := by omega
        have g2' := fun o => up g2 o
        have g3' := fun o => up g3 o
        cases hgv : isGone st m.d with
        | true =>
          rw [hgv] at g2'
          go_wp2_with (go_at_call 94; refine (isGone_any _ _ _ (g2' _)).mono ?_; rintro e w' ⟨rfl, hw⟩; obtain rfl := hw.symm)
          refine ⟨⟨k + 1, by omega, by go_num, ?_⟩, by simp [intOf]; omega⟩
          rw [listUpto_gone Hm.out hgv]
          exact HTo.out.kept ((Below.refl _ _).alloc (Nat.le_refl _) _)
        | false =>
          rw [hgv] at g2'
          have HG := hide hgv
          clear hgv
          go_wp2_with (first | (go_at_call 94; refine (isGone_any _ _ _ (g2' _)).mono ?_; rintro e w' ⟨rfl, hw⟩; obtain rfl := hw.symm))
          refine (keys_any _ _).mono ?_
          rintro e w2 ⟨rfl, rfl⟩
          go_wp2_with fail
          have hSo := sorted_any (HMM.out (.cells #[.pointer (some ⟨L.nb m.d, 0, none⟩), .bool m.leave] 165)) hnodes
          rw [show (wr.alloc (.cells #[.pointer (some ⟨L.nb m.d, 0, none⟩), .bool m.leave] 165)).heap.size = wr.heap.size + 1 by simp] at hSo
          refine hSo.mono ?_
          clear hSo
          rintro e w3 ⟨v3, l, rfl, hkeys, hll, hown3, hb3⟩
          obtain ⟨ao3, c3, rfl⟩ := hown3.form
          rw [len_strRows] at hown3 ⊢
          obtain rfl := names_of_keys hnm hkeys
          have h8 : ∀ (W : World) (o : Obj), (W.alloc o).heap.size = W.heap.size + 1 := fun W o => by simp
          have hbw : Below wr.heap.size wr w3 := ⟨hb3.os, hb3.tape, hb3.output, by have h9 := hb3.size; rw [h8, h8] at h9; omega, fun q hq => (hb3.block q (by omega)).trans ((Below.heap_alloc _ _ q (by rw [h8]; omega)).trans (Below.heap_alloc _ _ q hq))⟩
          have hT2 : Told2 w w3 (listUpto st row k) (.slice ao (listUpto st row k).length co) (namesOf st m.d) (.slice ao3 (namesOf st m.d).length c3) := by
            refine ⟨HTo.out.kept hbw, hown3.mono (fun q hq => ⟨?_, hq.2⟩), fun b hb e => ?_⟩
            · have := Hbel.out.size
              have := hq.1
              omega
            · have h1 := (HTo.out.own.2.2 b hb).2
              have h2 := (hown3.2.2 b e).1
              omega
          have HT2 := hide hT2
          have hnl : (namesOf st m.d).length ≤ 1700000000000 := by omega
          clear hkeys hll hown3 hb3 hbw hT2 h8
          go_wp2
          go_loopw [3, 28] (fun o j wr2 => ∃ q : Nat, q ≤ (namesOf st m.d).length ∧ j = .int .i64 q ∧ Told2 w wr2 (listUpto st row k ++ ((namesOf st m.d).take q).filter (fun s => (seenIn st s (row.take k)).isNone)) o (namesOf st m.d) (.slice ao3 (namesOf st m.d).length c3)) (fun _ j _ => (namesOf st m.d).length - (intOf j).toNat)
          case atStart => exact ⟨0, Nat.zero_le _, rfl, by simpa using HT2.out⟩
          case round =>
            obtain ⟨q, hq, rfl, h2⟩ := hrel
            have hsm : (listUpto st row k ++ ((namesOf st m.d).take q).filter (fun s => (seenIn st s (row.take k)).isNone)).length ≤ 1800000000000 := by
              rw [List.length_append]
              have h3 := Hsm.out k hk
              have h4 : (((namesOf st m.d).take q).filter (fun s => (seenIn st s (row.take k)).isNone)).length ≤ (namesOf st m.d).length := Nat.le_trans (List.length_filter_le _ _) (List.length_take_le' _ _)
              omega
            obtain ⟨B, hB⟩ : ∃ B, B = listUpto st row k ++ ((namesOf st m.d).take q).filter (fun s => (seenIn st s (row.take k)).isNone) := ⟨_, rfl⟩
            rw [← hB] at h2 hsm
            obtain ⟨ao2, co2, rfl⟩ := h2.told.form
            have HB := hide hB
            clear hB
            by_cases hql : q < (namesOf st m.d).length
            · obtain ⟨s, hs⟩ := M.getElem?_of_lt hql
              rcases h2.own.opened with ⟨e, _⟩ | ⟨g3, cap3, e, _, _, _, _, hc3, _⟩
              · injection e with _ e2 _
                omega
              · rw [len_strRows] at e
                simp only [Value.slice.injEq, true_and] at e
                obtain ⟨rfl, rfl⟩ := e
                have cs : wr.cell? ⟨g3, q, none⟩ = some (.string s) := by
                  have := hc3 q [.string s] 0 _ (by unfold strRows; rw [List.getElem?_map, hs]; rfl) rfl
                  simpa using this
                have hss : s.size ≤ 12 := names_small hnm (List.mem_of_getElem? hs)
                have hbw := h2.told.below
                have hFi := find_any (row.take k) s (.slice (some ⟨g, 0, none⟩) k cap) (HT.out.kept (KeepX.below hbw)) (row_take (Hv.out.kept (KeepX.below (T := fun _ => True) (M := True) hbw) trivial) k hk) (fun x hx => Hok.out x (List.mem_of_mem_take hx)) (by unfold maxLen; omega)
                have HFi := hide hFi
                have hcl := fun W => clone_any s W (by omega)
                have Hcl := hide hcl
                have H2 := hide h2
                have Hs := hide hs
                have Hsuc := hide (filter_take_succ (fun s => (seenIn st s (row.take k)).isNone) (namesOf st m.d) q s hs)
                clear h2 hc3 hs hFi hbw hcl
                have q1 : (q : Int) < ((namesOf st m.d).length : Int) := by omega
                have q0 : (0 : Int) ≤ (q : Int) := by omega
                have kc : ¬ cap < k := by omega
                cases hse : seenIn st s (row.take k) with
                | some j =>
                  have HSE := hide hse
                  rw [hse] at HFi
                  simp only [foundV, nodeV] at HFi
                  clear hse
                  go_wp2_with fail
                  refine HFi.out.mono ?_
                  rintro e w4 ⟨rfl, hb4⟩
                  have HB4 := hide hb4
                  clear hb4
                  go_wp2
                  refine ⟨⟨q + 1, by omega, by go_num, ?_⟩, by simp [intOf]; omega⟩
                  rw [Hsuc.out, HSE.out, if_neg (by simp), List.append_nil, ← HB.out]
                  exact H2.out.kept HB4.out
                | none =>
                  have HSE := hide hse
                  rw [hse] at HFi
                  simp only [foundV] at HFi
                  clear hse
                  go_wp2_with fail
                  refine HFi.out.mono ?_
                  rintro e w4 ⟨rfl, hb4⟩
                  have HB4 := hide hb4
                  clear hb4
                  go_wp2_with fail
                  refine (Hcl.out _).mono ?_
                  rintro e w5 ⟨rfl, hb5⟩
                  have HB5 := hide hb5
                  clear hb5
                  have hT5 := (H2.out.kept HB4.out).kept HB5.out
                  have hTX : ∀ o, Told2 w (w5.alloc o) _ _ _ _ := fun o => hT5.kept ((Below.refl _ _).alloc (Nat.le_refl _) o)
                  have HTX := hide hTX
                  clear hT5 hTX
                  go_wp2_with (at_builtin; refine wpList_append_Own _ rfl (.tmp 38) (.tmp 41) 35 rfl (nw w (w5.alloc (.cells #[.string s] 9))) 9 (.string ⟨#[]⟩) 1 16 Tryz.underlying35 infoString rfl (by decide) (.slice ao2 B.length co2) (strRows B) rfl (HTX.out _).told.own (.slice (some ⟨w5.heap.size, 0, none⟩) 1 1) [[.string s]] rfl (SrcIs.ofBlock (cs := #[.string s]) (heap_alloc_new w5 _) rfl (by simp [Value.oneCell'])) (B.length + 1) (by rw [len_strRows]; rfl) (by unfold maxLen; omega) (by omega) ?_; intro ao6 c6 w6 ho6 hg6 hb6; have HT6 := hide ((HTX.out _).push rfl ho6 hg6 hb6); clear ho6 hg6 hb6)
                  refine ⟨⟨q + 1, by omega, by go_num, ?_⟩, by simp [intOf]; omega⟩
                  rw [Hsuc.out, HSE.out, if_pos (by simp), ← List.append_assoc, ← HB.out]
                  exact HT6.out
            · have H2 := hide h2
              clear h2
              go_wp2
              refine ⟨⟨k + 1, by omega, by go_num, ?_⟩, by simp [intOf]; omega⟩
              rw [listUpto_live Hm.out HG.out]
              have e := HB.out
              rw [show (namesOf st m.d).take q = namesOf st m.d from List.take_of_length_le (by omega)] at e
              rw [← e]
              exact H2.out.told
      · go_wp2
        go_ret
        refine ⟨_, rfl, ?_⟩
        rw [show row.length = k by omega]
        exact HTo.out
end Go.Proofs.YtdmdgnghaceibaaGreat.P
/- The document's own answer, more: List as the reference goes about it. -/
namespace Go.Proofs.YtdmdgnghaceibaaGreat.M

/-- A name more, ahead of the first that is not less. -/
def refIns (l : List ByteArray) (s : ByteArray) : List ByteArray := l.takeWhile (fun x => decide (ltB x s)) ++ s :: l.dropWhile (fun x => decide (ltB x s))

theorem refIns_eq {s : ByteArray} : ∀ {l : List ByteArray}, s ∉ l → refIns l s = insName l s
  | [], _ => rfl
  | x :: l, h => by
    have hx : x ≠ s := fun e => h (by simp [e])
    have hl : s ∉ l := fun e => h (by simp [e])
    have ih := refIns_eq hl
    unfold refIns at ih ⊢
    unfold insName
    by_cases hlt : ltB x s
    · rw [if_pos hlt, List.takeWhile_cons_of_pos (by simpa using hlt), List.dropWhile_cons_of_pos (by simpa using hlt), List.cons_append, ih]
    · rw [if_neg hlt, if_neg hx, List.takeWhile_cons_of_neg (by simpa using hlt), List.dropWhile_cons_of_neg (by simpa using hlt), List.nil_append]

def refAdd (d : Nat) (l : List ByteArray) (x : Nd) : List ByteArray := if x.inn = (d : Int) ∧ x.gone = false then refIns l x.name else l
def refNames (d : Nat) (nodes : List Nd) : List ByteArray := nodes.foldl (refAdd d) []

/-- The names of a directory's entries differ. -/
def UniqL (nodes : List Nd) : Prop := ∀ (i j : Nat) (x y : Nd), nodes[i]? = some x → nodes[j]? = some y → x.gone = false → y.gone = false → x.inn = y.inn → x.name = y.name → i = j

theorem refNames_take {nodes : List Nd} (hu : UniqL nodes) (d : Nat) : ∀ k, k ≤ nodes.length → refNames d (nodes.take k) = namesIn d (nodes.take k)
  | 0, _ => by simp [refNames, namesIn]
  | k + 1, hk => by
    have hlt : k < nodes.length := by omega
    have ih := refNames_take hu d k (by omega)
    obtain ⟨x, hx⟩ := getElem?_of_lt hlt
    have e : nodes[k] = x := by rw [List.getElem?_eq_getElem hlt] at hx; exact Option.some.inj hx
    rw [List.take_succ_eq_append_getElem hlt, e]
    unfold refNames namesIn at ih ⊢
    rw [List.foldl_append, List.foldl_append, ih]
    simp only [List.foldl_cons, List.foldl_nil]
    unfold refAdd addName
    by_cases hc : x.inn = (d : Int) ∧ x.gone = false
    · rw [if_pos hc, if_pos hc]
      refine refIns_eq (fun hm => ?_)
      rcases ((fold_names d (nodes.take k) [] List.Pairwise.nil).2 x.name).1 hm with h | ⟨y, hy, r1, r2, r3⟩
      · simp at h
      · obtain ⟨j, hj⟩ := List.mem_iff_getElem?.1 hy
        have hjk : j < k := by
          have := lt_of_getElem? hj
          rw [List.length_take] at this
          omega
        rw [List.getElem?_take, if_pos hjk] at hj
        have := hu j k y x hj hx r2 hc.2 (r1.trans hc.1.symm) r3
        omega
    · rw [if_neg hc, if_neg hc]

theorem refNames_eq {st : St} (hu : UniqL st.nodes) (d : Nat) : refNames d st.nodes = namesOf st d := by
  have := refNames_take hu d st.nodes.length (Nat.le_refl _)
  rwa [List.take_length] at this

theorem upto_gone {st : St} {row : List Member} {k : Nat} {m : Member} (hm : row[k]? = some m) (hg : isGone st m.d = true) : listUpto st row (k + 1) = listUpto st row k := by
  show (match row[k]? with | none => _ | some m => _) = _
  rw [hm]
  simp [hg]
theorem upto_live {st : St} {row : List Member} {k : Nat} {m : Member} (hm : row[k]? = some m) (hg : isGone st m.d = false) : listUpto st row (k + 1) = listUpto st row k ++ (namesOf st m.d).filter (fun s => (seenIn st s (row.take k)).isNone) := by
  show (match row[k]? with | none => _ | some m => _) = _
  rw [hm]
  simp [hg]
theorem bytes_same {a b : ByteArray} (h : a.toList = b.toList) : a = b := by
  rw [ByteArray.toList_eq, ByteArray.toList_eq] at h
  cases a; cases b
  simp only [ByteArray.mk.injEq]
  exact Array.toList_inj.1 h

/-- One more name, where it wasn't told yet. -/
def tell (out : List ByteArray) (s : ByteArray) : List ByteArray := if hasText out s then out else out ++ [s]

theorem hasText_iff {l : List ByteArray} {s : ByteArray} : hasText l s = true ↔ s ∈ l := by
  unfold hasText
  rw [List.any_eq_true]
  constructor
  · rintro ⟨x, hx, h⟩
    have e : x.toList = s.toList := by simpa using h
    exact bytes_same e ▸ hx
  · intro h
    exact ⟨s, h, by simp⟩

theorem seenIn_snoc (st : St) (s : ByteArray) (m : Member) : ∀ row : List Member, (seenIn st s (row ++ [m])).isSome = true ↔ (seenIn st s row).isSome = true ∨ (isGone st m.d = false ∧ (lies st m.d s).isSome = true)
  | [] => by
    simp only [List.nil_append, seenIn]
    cases hg : isGone st m.d with
    | true => simp
    | false => cases lies st m.d s <;> simp
  | a :: row => by
    rw [List.cons_append]
    unfold seenIn
    cases hg : isGone st a.d with
    | true => simpa using seenIn_snoc st s m row
    | false =>
      cases hl : lies st a.d s with
      | some n => simp
      | none => simpa using seenIn_snoc st s m row

theorem mem_names {st : St} {d : Nat} {s : ByteArray} : s ∈ namesOf st d ↔ (lies st d s).isSome = true := by
  have h9 : s ∈ namesOf st d ↔ _ := (fold_names d st.nodes [] List.Pairwise.nil).2 s
  rw [h9]
  unfold lies
  rw [List.findIdx?_isSome, List.any_eq_true]
  constructor
  · rintro (h | ⟨x, hx, h1, h2, rfl⟩)
    · simp at h
    · exact ⟨x, hx, by unfold liesHere; simp [h1, h2]⟩
  · rintro ⟨x, hx, h⟩
    unfold liesHere at h
    simp only [Bool.and_eq_true, beq_iff_eq, decide_eq_true_eq, Bool.not_eq_true'] at h
    exact .inr ⟨x, hx, h.1.1, h.2, bytes_same h.1.2⟩

theorem mem_listUpto (st : St) (row : List Member) (s : ByteArray) : ∀ k, k ≤ row.length → (s ∈ listUpto st row k ↔ (seenIn st s (row.take k)).isSome = true)
  | 0, _ => by simp [listUpto, seenIn]
  | k + 1, hk => by
    have hlt : k < row.length := by omega
    have ih := mem_listUpto st row s k (by omega)
    obtain ⟨m, hm⟩ := getElem?_of_lt hlt
    have e : row[k] = m := by rw [List.getElem?_eq_getElem hlt] at hm; exact Option.some.inj hm
    rw [List.take_succ_eq_append_getElem hlt, e, seenIn_snoc, ← ih]
    cases hg : isGone st m.d with
    | true => rw [upto_gone hm hg]; simp
    | false =>
      rw [upto_live hm hg]
      simp only [List.mem_append, List.mem_filter, mem_names, true_and]
      rw [Option.isNone_iff_eq_none]
      constructor
      · rintro (h | ⟨h, _⟩)
        · exact .inl h
        · exact .inr h
      · rintro (h | h)
        · exact .inl h
        · by_cases hin : s ∈ listUpto st row k
          · exact .inl hin
          · refine .inr ⟨h, ?_⟩
            cases hs : seenIn st s (row.take k) with
            | none => rfl
            | some n => exact absurd (ih.2 (by rw [hs]; rfl)) hin

theorem tell_fold {p : ByteArray → Bool} (base : List ByteArray) : ∀ (l : List ByteArray) (done : List ByteArray), (done ++ l).Nodup → (∀ s, s ∈ done ++ l → (p s = true ↔ s ∉ base)) → l.foldl tell (base ++ done.filter p) = base ++ (done ++ l).filter p
  | [], done, _, _ => by simp
  | s :: l, done, hn, hp => by
    rw [List.foldl_cons]
    have hsd : s ∉ done := fun h => by
      have := (List.nodup_append.1 hn).2.2 s h s (by simp)
      exact this rfl
    have e : tell (base ++ done.filter p) s = base ++ (done ++ [s]).filter p := by
      unfold tell
      have hps := hp s (by simp)
      by_cases hb : s ∈ base
      · have hf : p s = false := by
          cases h : p s with
          | false => rfl
          | true => exact absurd hb (hps.1 h)
        rw [if_pos (hasText_iff.2 (by simp [hb])), List.filter_append]
        simp [hf]
      · have ht : p s = true := hps.2 hb
        rw [if_neg (fun h => by
          have := hasText_iff.1 h
          rcases List.mem_append.1 this with h | h
          · exact hb h
          · exact hsd (List.mem_filter.1 h).1), List.filter_append]
        simp [ht]
    rw [e, tell_fold base l (done ++ [s]) (by simpa using hn) (fun t ht => hp t (by simpa using ht))]
    simp

/-- The reference's way through a row is the same list. -/
theorem list_told (st : St) (row : List Member) (k : Nat) (hk : k < row.length) (m : Member) (hm : row[k]? = some m) (hg : isGone st m.d = false) : (namesOf st m.d).foldl tell (listUpto st row k) = listUpto st row (k + 1) := by
  have hnd : (namesOf st m.d).Nodup := List.Pairwise.imp (fun {a b} (hab : ltB a b) (e : a = b) => by subst e; exact ltB_irrefl a hab) (names_sorted st m.d)
  have h := tell_fold (p := fun s => (seenIn st s (row.take k)).isNone) (listUpto st row k) (namesOf st m.d) [] (by simpa using hnd) (fun s _ => by
    rw [mem_listUpto st row s k (by omega)]
    cases seenIn st s (row.take k) <;> simp)
  simp only [List.filter_nil, List.append_nil, List.nil_append] at h
  rw [h, upto_live hm hg]
end Go.Proofs.YtdmdgnghaceibaaGreat.M
/- What the reference's names wants (its walk: still to do). -/
namespace Go.Proofs.YtdmdgnghaceibaaGreat.P
open M Go.ChangeShapes Go.WideShapes Go.ChangeAt Go.RowKit
set_option linter.unusedVariables false

theorem refNames_succ {nodes : List Nd} {k : Nat} {x : Nd} (d : Nat) (hx : nodes[k]? = some x) : refNames d (nodes.take (k + 1)) = refAdd d (refNames d (nodes.take k)) x := by
  have hlt := M.lt_of_getElem? hx
  have e : nodes[k] = x := by rw [List.getElem?_eq_getElem hlt] at hx; exact Option.some.inj hx
  unfold refNames
  rw [List.take_succ_eq_append_getElem hlt, e, List.foldl_append]
  rfl

theorem refIns_at {s : ByteArray} : ∀ {B : List ByteArray} {q : Nat}, q ≤ B.length → (∀ j y, j < q → B[j]? = some y → Op.bytesLess y.toList s.toList = true) → (∀ y, B[q]? = some y → Op.bytesLess y.toList s.toList = false) → refIns B s = B.take q ++ s :: B.drop q
  | [], q, hq, _, _ => by
    obtain rfl : q = 0 := by simpa using hq
    rfl
  | y :: B, 0, _, _, h2 => by
    have := h2 y rfl
    rw [Go.Proofs.bytesLess_eq, toList_data, toList_data] at this
    unfold refIns
    rw [List.takeWhile_cons_of_neg (by simpa [ltB] using this), List.dropWhile_cons_of_neg (by simpa [ltB] using this)]
    rfl
  | y :: B, q + 1, hq, h1, h2 => by
    have h0 := h1 0 y (by omega) rfl
    rw [Go.Proofs.bytesLess_eq, toList_data, toList_data] at h0
    have ih := refIns_at (s := s) (B := B) (q := q) (by simpa using hq) (fun j z hj hz => h1 (j + 1) z (by omega) (by simpa using hz)) (fun z hz => h2 z (by simpa using hz))
    unfold refIns at ih ⊢
    rw [List.takeWhile_cons_of_pos (by simpa [ltB] using h0), List.dropWhile_cons_of_pos (by simpa [ltB] using h0), List.take_succ_cons, List.drop_succ_cons, List.cons_append, List.cons_append, ih]
end Go.Proofs.YtdmdgnghaceibaaGreat.P
/- The reference's names. -/
namespace Go.Proofs.YtdmdgnghaceibaaGreat.P
open M Go.ChangeShapes Go.WideShapes Go.ChangeAt Go.RowKit
set_option linter.unusedVariables false

theorem told_append {w wa w' : World} {base more : List ByteArray} {out : Value} {ao : Option Addr} {n c : Nat} (h : Told w wa base out) (hn : n = base.length + more.length)
    (ho : Own w' (ext (nw w wa) wa w') 9 1 (.slice ao n c) (strRows base ++ strRows more)) (hg : wa.grownBy w' out.ownBlock) : Told w w' (base ++ more) (.slice ao n c) := by
  have hz := hg.size
  have hw := h.below.size
  refine ⟨?_, ⟨ao, c, by rw [hn]; simp⟩, ?_⟩
  · rw [strRows_append]
    refine ho.mono (fun k hk => ?_)
    rcases hk with hk | hk
    · exact ⟨hk.1, Nat.lt_of_lt_of_le hk.2 hz⟩
    · exact ⟨Nat.le_trans hw hk.1, hk.2⟩
  · refine ⟨hg.os.trans h.below.os, hg.tape.trans h.below.tape, hg.output.trans h.below.output, Nat.le_trans hw hz, fun k hk => (hg.block k (Nat.lt_of_lt_of_le hk hw) (fun e => ?_)).trans (h.below.block k hk)⟩
    have := (h.own.2.2 k e.symm).1
    omega

theorem Told.wide {w wX w' : World} {l : List ByteArray} {v : Value} (h : Told wX w' l v) (hb : Below w.heap.size w wX) : Told w w' l v :=
  ⟨h.own.mono (fun k hk => ⟨Nat.le_trans hb.size hk.1, hk.2⟩), h.form, ⟨h.below.os.trans hb.os, h.below.tape.trans hb.tape, h.below.output.trans hb.output, Nat.le_trans hb.size h.below.size, fun k hk => (h.below.block k (Nat.lt_of_lt_of_le hk hb.size)).trans (hb.block k hk)⟩⟩

theorem strRows_one' (l : List ByteArray) : (∀ r ∈ strRows l, r.length = 1) ∧ ∀ r ∈ strRows l, ∀ u ∈ r, u.oneCell' = true := by
  constructor
  · intro r hr
    unfold strRows at hr
    obtain ⟨s, _, rfl⟩ := List.mem_map.1 hr
    rfl
  · intro r hr u hu
    unfold strRows at hr
    obtain ⟨s, _, rfl⟩ := List.mem_map.1 hr
    simp at hu
    subst hu
    rfl

/-- A piece of a slice of texts, as a source. -/
theorem src_piece {w W : World} {F : Nat → Prop} {g n cap : Nat} {B : List ByteArray} (h : Own w F 9 1 (.slice (some ⟨g, 0, none⟩) n cap) (strRows B)) (hb : Below w.heap.size w W) (a m c : Nat) (ham : a + m ≤ B.length) : SrcIs W 1 (.slice (some ⟨g, a, none⟩) m c) (strRows ((B.drop a).take m)) := by
  have hl : (strRows ((B.drop a).take m)).length = m := by rw [len_strRows, List.length_take, List.length_drop]; omega
  refine ⟨(strRows_one' _).1, (strRows_one' _).2, .inr ⟨⟨g, a, none⟩, c, by rw [hl], fun j u hj => ?_⟩⟩
  rcases h.opened with ⟨e, _⟩ | ⟨g', cap', e, _, _, _, ⟨cur, hbk⟩, hcell, _⟩
  · cases e
  · injection e with e1 _ _
    simp only [Option.some.injEq, Addr.mk.injEq, and_true] at e1
    subst e1
    have hfl : (strRows ((B.drop a).take m)).flatten = ((B.drop a).take m).map Value.string := by
      unfold strRows
      generalize (B.drop a).take m = l
      induction l with
      | nil => rfl
      | cons x l ih => simp only [List.map_cons, List.flatten_cons, ih]; rfl
    rw [hfl, List.getElem?_map] at hj
    have hjm : j < m := by
      cases hq : ((B.drop a).take m)[j]? with
      | none => rw [hq] at hj; simp at hj
      | some s =>
        have := M.lt_of_getElem? hq
        rw [List.length_take] at this
        omega
    rw [List.getElem?_take, if_pos hjm, List.getElem?_drop] at hj
    cases hq : B[a + j]? with
    | none => rw [hq] at hj; simp at hj
    | some s =>
      rw [hq] at hj
      simp at hj
      subst hj
      have := hcell (a + j) [.string s] 0 _ (by unfold strRows; rw [List.getElem?_map, hq]; rfl) rfl
      rw [Addr.add_lit]
      rw [hb.cell (p := ⟨g, a + j, none⟩) (Array.getElem?_eq_some_iff.1 hbk).1]
      simpa using this
end Go.Proofs.YtdmdgnghaceibaaGreat.P
/- The reference's names, walked. -/
namespace Go.Proofs.YtdmdgnghaceibaaGreat.P
open M Go.ChangeShapes Go.WideShapes Go.ChangeAt Go.RowKit
set_option linter.unusedVariables false

theorem src_none (W : World) (ad : Addr) (c : Nat) : SrcIs W 1 (.slice (some ad) 0 c) (strRows []) := ⟨(strRows_one' _).1, (strRows_one' _).2, .inr ⟨ad, c, rfl, fun j u hj => by simp [strRows] at hj⟩⟩

set_option maxRecDepth 20000 in
set_option maxHeartbeats 2000000 in
theorem names_core (r g cap : Nat) (nodes : List Nd) (d : Nat) (w : World) (hl : nodes.length ≤ 1700000000000)
    (h0 : w.cell? ⟨r, 0, none⟩ = some (.slice (some ⟨g, 0, none⟩) nodes.length cap))
    (hc : ∀ i x, nodes[i]? = some x → w.cell? ⟨g, i * 6, none⟩ = some (.string x.name) ∧ w.cell? ⟨g, i * 6 + 2, none⟩ = some (.int .i64 x.inn) ∧ w.cell? ⟨g, i * 6 + 5, none⟩ = some (.bool x.gone)) :
    Calls Tryz.prog 151 #[.pointer (some ⟨r, 0, none⟩), .int .i64 d] w fun e w' => ∃ out, e = .returned out ∧ Told w w' (refNames d nodes) out := by
  have hrlt : r < w.heap.size := World.block_lt_of_cell? w _ h0
  have H0 := hide h0
  have Hc := hide hc
  clear h0 hc
  go_enter Tryz.func151, Tryz.ntmps151
  go_wp2
  go_loopw [5, 6] (fun o i wr => ∃ k : Nat, k ≤ nodes.length ∧ i = .int .i64 k ∧ (refNames d (nodes.take k)).length ≤ k ∧ Told w wr (refNames d (nodes.take k)) o) (fun _ i _ => nodes.length - (intOf i).toNat)
  case atStart => exact ⟨0, Nat.zero_le _, rfl, by simp [refNames], Told.nil w⟩
  case round =>
    obtain ⟨k, hk, rfl, hkl, hTo⟩ := hrel
    have hbel := hTo.below
    have c0 : wr.cell? ⟨r, 0, none⟩ = some (.slice (some ⟨g, 0, none⟩) nodes.length cap) := (hbel.cell (p := ⟨r, 0, none⟩) hrlt).trans H0.out
    obtain ⟨B, hB⟩ : ∃ B, B = refNames d (nodes.take k) := ⟨_, rfl⟩
    rw [← hB] at hTo hkl
    obtain ⟨ao, co, rfl⟩ := hTo.form
    have HB := hide hB
    have HTo := hide hTo
    by_cases hlt : k < nodes.length
    · obtain ⟨x, hx⟩ := getElem?_of_lt hlt
      obtain ⟨x0, x2, x5⟩ := Hc.out k x hx
      have hglt : g < w.heap.size := World.block_lt_of_cell? w _ x0
      have y0 := (hbel.cell (p := ⟨g, k * 6, none⟩) hglt).trans x0
      have y2 := (hbel.cell (p := ⟨g, k * 6 + 2, none⟩) hglt).trans x2
      have y5 := (hbel.cell (p := ⟨g, k * 6 + 5, none⟩) hglt).trans x5
      have Hx0 := hide x0
      have Hsu := hide (refNames_succ d hx)
      rw [← HB.out] at Hsu
      clear hx hTo hB hbel x0 x2 x5
      by_cases h1 : x.inn = (d : Int)
      · cases h3 : x.gone with
        | true =>
          rw [h3] at y5
          have Hn := hide (show refAdd d B x = B by unfold refAdd; rw [if_neg (by simp [h3])])
          go_wp2
          refine ⟨⟨k + 1, by omega, by go_num, ?_, ?_⟩, by simp [intOf]; omega⟩
          · rw [Hsu.out, Hn.out]; omega
          · rw [Hsu.out, Hn.out]; exact HTo.out
        | false =>
          rw [h3] at y5
          have Hn := hide (show refAdd d B x = refIns B x.name by unfold refAdd; rw [if_pos ⟨h1, h3⟩])
          rw [h1] at y2
          go_wp2
          go_loopw [7] (fun a wr2 => ∃ q : Nat, q ≤ B.length ∧ a = .int .i64 q ∧ (∀ j y, j < q → B[j]? = some y → Op.bytesLess y.toList x.name.toList = true) ∧ Told w wr2 B (.slice ao B.length co)) (fun a _ => B.length - (intOf a).toNat)
          case atStart => exact ⟨0, Nat.zero_le _, rfl, by omega, HTo.out⟩
          case round =>
            obtain ⟨q, hq, rfl, hall, hT⟩ := hrel
            have Hall := hide hall
            have hb2 := hT.below
            have d0 : wr.cell? ⟨r, 0, none⟩ = some (.slice (some ⟨g, 0, none⟩) nodes.length cap) := (hb2.cell (p := ⟨r, 0, none⟩) hrlt).trans H0.out
            have z0 : wr.cell? ⟨g, k * 6, none⟩ = some (.string x.name) := (hb2.cell (p := ⟨g, k * 6, none⟩) hglt).trans Hx0.out
            have HT := hide hT
            clear hall hT hb2
            have q0 : (0 : Int) ≤ (q : Int) := by omega
            by_cases hql : q < B.length
            · obtain ⟨y, hy⟩ := getElem?_of_lt hql
              rcases HT.out.own.opened with ⟨e, _⟩ | ⟨g5, cap5, e, hcap5, hmax5, _, _, hc5, _⟩
              · injection e with _ e2 _
                omega
              · rw [len_strRows] at e hcap5
                simp only [Value.slice.injEq, true_and] at e
                obtain ⟨rfl, rfl⟩ := e
                have cy : wr.cell? ⟨g5, q, none⟩ = some (.string y) := by
                  have := hc5 q [.string y] 0 _ (by unfold strRows; rw [List.getElem?_map, hy]; rfl) rfl
                  simpa using this
                have Hy := hide hy
                have hco : co ≤ 9223372036854775807 := by unfold maxLen at hmax5; omega
                clear hc5 hy hmax5
                have q1 : (q : Int) < (B.length : Int) := by omega
                cases hle : Op.bytesLess y.toList x.name.toList with
                | true =>
                  go_wp2
                  go_region
                  go_wp2
                  refine ⟨⟨q + 1, by omega, by go_num, fun j z hj hz => ?_, HT.out.kept (Below.refl _ _).drew⟩, by simp [intOf]; omega⟩
                  by_cases e : j = q
                  · subst e
                    rw [Hy.out] at hz
                    cases hz
                    exact hle
                  · exact Hall.out j z (by omega) hz
                | false =>
                  have HI := hide (refIns_at (s := x.name) hq Hall.out (fun z hz => by rw [Hy.out] at hz; cases hz; exact hle))
                  have hTX : Told w wr.drew B (.slice (some ⟨g5, 0, none⟩) B.length co) := HT.out.kept (Below.refl _ _).drew
                  have HTX := hide hTX
                  have qc : ¬ co = q := by omega
                  have ql : ¬ B.length < q := by omega
                  have qz : ¬ co < q := by omega
                  clear hTX
                  go_wp2
                  go_region
                  go_wp2_with (at_builtin; first
                    | (refine wpList_append_Own _ rfl (.tmp 59) (.tmp 62) 35 rfl (nw wr.drew wr.drew) 9 (.string ⟨#[]⟩) 1 16 Tryz.underlying35 infoString rfl (by decide) (.slice none 0 0) [] rfl (Own.nil _ _ _ _) (.slice (some ⟨g5, 0, none⟩) q co) (strRows ((B.drop 0).take q)) rfl (src_piece HTX.out.own (Below.refl _ _) 0 q co (by omega)) q (by rw [len_strRows, List.length_take]; simp; omega) (by unfold maxLen; omega) (by omega) ?_; intro ao1 c1 w1 ho1 hg1 hb1; have HA1 := hide (told_append (base := []) (more := (B.drop 0).take q) (Told.nil wr.drew) (by rw [List.length_take, List.drop_zero]; simp; omega) ho1 hg1); have e0 : w1.cell? ⟨r, 0, none⟩ = some (.slice (some ⟨g, 0, none⟩) nodes.length cap) := ((HTX.out.below.cell (p := ⟨r, 0, none⟩) hrlt).symm.trans (HA1.out.below.cell (p := ⟨r, 0, none⟩) (Nat.lt_of_lt_of_le hrlt HTX.out.below.size)).symm).symm.trans H0.out; have e1 : w1.cell? ⟨g, k * 6, none⟩ = some (.string x.name) := ((HTX.out.below.cell (p := ⟨g, k * 6, none⟩) hglt).symm.trans (HA1.out.below.cell (p := ⟨g, k * 6, none⟩) (Nat.lt_of_lt_of_le hglt HTX.out.below.size)).symm).symm.trans Hx0.out; clear ho1 hg1 hb1)
                    | (refine wpList_append_Own _ rfl (.tmp 64) (.tmp 73) 35 rfl (nw wr.drew (w1.alloc (.cells #[.string x.name] 9))) 9 (.string ⟨#[]⟩) 1 16 Tryz.underlying35 infoString rfl (by decide) (.slice ao1 q c1) (strRows ((B.drop 0).take q)) rfl (HA1.out.kept ((Below.refl _ _).alloc (Nat.le_refl _) _)).own (.slice (some ⟨w1.heap.size, 0, none⟩) 1 1) (strRows [x.name]) rfl (SrcIs.ofBlock (cs := #[.string x.name]) (heap_alloc_new w1 _) rfl (by simp [Value.oneCell'])) (q + 1) (by rw [len_strRows, List.length_take]; simp [strRows]; omega) (by unfold maxLen; omega) (by omega) ?_; intro ao2 c2 w2 ho2 hg2 hb2; have HA2 := hide (told_append (base := (B.drop 0).take q) (more := [x.name]) (HA1.out.kept ((Below.refl _ _).alloc (Nat.le_refl _) _)) (by rw [List.length_take, List.drop_zero]; simp; omega) ho2 hg2); clear ho2 hg2 hb2)
                    | (refine wpList_append_Own _ rfl (.tmp 75) (.tmp 78) 35 rfl (nw wr.drew w2) 9 (.string ⟨#[]⟩) 1 16 Tryz.underlying35 infoString rfl (by decide) (.slice ao2 (q + 1) c2) (strRows ((B.drop 0).take q ++ [x.name])) rfl HA2.out.own (.slice (some ⟨g5, q, none⟩) (B.length - q) (co - q)) (strRows ((B.drop q).take (B.length - q))) rfl (src_piece HTX.out.own HA2.out.below q (B.length - q) (co - q) (by omega)) (B.length + 1) (by rw [len_strRows, len_strRows, List.length_append, List.length_take, List.length_take, List.length_drop]; simp; omega) (by unfold maxLen; omega) (by omega) ?_; intro ao3 c3 w3 ho3 hg3 hb3; have HA3 := hide (told_append (base := (B.drop 0).take q ++ [x.name]) (more := (B.drop q).take (B.length - q)) HA2.out (by rw [List.length_append, List.length_take, List.length_take, List.length_drop]; simp; omega) ho3 hg3); clear ho3 hg3 hb3))
                  have eB : refNames d (nodes.take (k + 1)) = (B.drop 0).take q ++ [x.name] ++ (B.drop q).take (B.length - q) := by
                    rw [Hsu.out, Hn.out, HI.out, List.drop_zero, List.take_of_length_le (l := B.drop q) (by rw [List.length_drop]; omega)]
                    simp
                  refine ⟨⟨k + 1, by omega, by go_num, ?_, ?_⟩, by simp [intOf]; omega⟩
                  · rw [eB, List.length_append, List.length_append, List.length_take, List.length_take, List.length_drop]
                    simp
                    omega
                  · rw [eB]
                    exact HA3.out.wide HTX.out.below
            · obtain rfl : q = B.length := by omega
              have HI := hide (refIns_at (s := x.name) (Nat.le_refl _) Hall.out (fun z hz => by have := M.lt_of_getElem? hz; omega))
              have q1 : ¬ (B.length : Int) < (B.length : Int) := by omega
              rcases HT.out.own.opened with ⟨e, hnil⟩ | ⟨g5, cap5, e, hcap5, hmax5, _, _, _, _⟩
              · have hB0 : B = [] := by
                  have h9 := congrArg List.length hnil
                  rw [len_strRows] at h9
                  exact List.length_eq_zero_iff.1 h9
                subst hB0
                injection e with ea _ ec
                subst ea ec
                have hTX : Told w wr.drew [] (.slice none ([] : List ByteArray).length 0) := HT.out.kept (Below.refl _ _).drew
                have HTX := hide hTX
                clear hTX
                go_wp2
                go_region
                go_wp2_with (at_builtin; first
                    | (refine wpList_append_Own _ rfl (.tmp 59) (.tmp 62) 35 rfl (nw wr.drew wr.drew) 9 (.string ⟨#[]⟩) 1 16 Tryz.underlying35 infoString rfl (by decide) (.slice none 0 0) [] rfl (Own.nil _ _ _ _) (.slice none 0 0) (strRows (([] : List ByteArray))) rfl ⟨(strRows_one' _).1, (strRows_one' _).2, .inl ⟨rfl, rfl⟩⟩ 0 (by rw [len_strRows]; simp) (by unfold maxLen; omega) (by omega) ?_; intro ao1 c1 w1 ho1 hg1 hb1; have HA1 := hide (told_append (base := []) (more := ([] : List ByteArray)) (Told.nil wr.drew) (by simp) ho1 hg1); have e0 : w1.cell? ⟨r, 0, none⟩ = some (.slice (some ⟨g, 0, none⟩) nodes.length cap) := ((HTX.out.below.cell (p := ⟨r, 0, none⟩) hrlt).symm.trans (HA1.out.below.cell (p := ⟨r, 0, none⟩) (Nat.lt_of_lt_of_le hrlt HTX.out.below.size)).symm).symm.trans H0.out; have e1 : w1.cell? ⟨g, k * 6, none⟩ = some (.string x.name) := ((HTX.out.below.cell (p := ⟨g, k * 6, none⟩) hglt).symm.trans (HA1.out.below.cell (p := ⟨g, k * 6, none⟩) (Nat.lt_of_lt_of_le hglt HTX.out.below.size)).symm).symm.trans Hx0.out; clear ho1 hg1 hb1)
                    | (refine wpList_append_Own _ rfl (.tmp 64) (.tmp 73) 35 rfl (nw wr.drew (w1.alloc (.cells #[.string x.name] 9))) 9 (.string ⟨#[]⟩) 1 16 Tryz.underlying35 infoString rfl (by decide) (.slice ao1 0 c1) (strRows (([] : List ByteArray))) rfl (HA1.out.kept ((Below.refl _ _).alloc (Nat.le_refl _) _)).own (.slice (some ⟨w1.heap.size, 0, none⟩) 1 1) (strRows [x.name]) rfl (SrcIs.ofBlock (cs := #[.string x.name]) (heap_alloc_new w1 _) rfl (by simp [Value.oneCell'])) (0 + 1) (by rw [len_strRows]; simp [strRows]) (by unfold maxLen; omega) (by omega) ?_; intro ao2 c2 w2 ho2 hg2 hb2; have HA2 := hide (told_append (base := ([] : List ByteArray)) (more := [x.name]) (HA1.out.kept ((Below.refl _ _).alloc (Nat.le_refl _) _)) (by simp) ho2 hg2); clear ho2 hg2 hb2)
                    | (refine wpList_append_Own _ rfl (.tmp 75) (.tmp 78) 35 rfl (nw wr.drew w2) 9 (.string ⟨#[]⟩) 1 16 Tryz.underlying35 infoString rfl (by decide) (.slice ao2 (0 + 1) c2) (strRows (([] : List ByteArray) ++ [x.name])) rfl HA2.out.own (.slice none 0 0) (strRows []) rfl ⟨(strRows_one' _).1, (strRows_one' _).2, .inl ⟨rfl, rfl⟩⟩ (0 + 1) (by rw [len_strRows]; simp [strRows]) (by unfold maxLen; omega) (by omega) ?_; intro ao3 c3 w3 ho3 hg3 hb3; have HA3 := hide (told_append (base := ([] : List ByteArray) ++ [x.name]) (more := []) HA2.out (by simp) ho3 hg3); clear ho3 hg3 hb3))
                have eB : refNames d (nodes.take (k + 1)) = ([] : List ByteArray) ++ [x.name] ++ [] := by
                  rw [Hsu.out, Hn.out, HI.out]
                  simp
                refine ⟨⟨k + 1, by omega, by go_num, ?_, ?_⟩, by simp [intOf]; omega⟩
                · rw [eB]
                  simp at hkl ⊢ <;> omega
                · rw [eB]
                  exact HA3.out.wide HTX.out.below
              · rw [len_strRows] at e hcap5
                simp only [Value.slice.injEq, true_and] at e
                obtain ⟨rfl, rfl⟩ := e
                have hco : co ≤ 9223372036854775807 := by unfold maxLen at hmax5; omega
                have hTX : Told w wr.drew B (.slice (some ⟨g5, 0, none⟩) B.length co) := HT.out.kept (Below.refl _ _).drew
                have HTX := hide hTX
                clear hTX hmax5
                by_cases hcq : co = B.length
                · subst hcq
                  go_wp2
                  go_region
                  go_wp2_with (at_builtin; first
                    | (refine wpList_append_Own _ rfl (.tmp 59) (.tmp 62) 35 rfl (nw wr.drew wr.drew) 9 (.string ⟨#[]⟩) 1 16 Tryz.underlying35 infoString rfl (by decide) (.slice none 0 0) [] rfl (Own.nil _ _ _ _) (.slice (some ⟨g5, 0, none⟩) B.length B.length) (strRows (B)) rfl (by have := src_piece HTX.out.own (Below.refl _ _) 0 B.length B.length (by omega); rw [List.drop_zero, List.take_length] at this; exact this) B.length (by rw [len_strRows]; simp) (by unfold maxLen; omega) (by omega) ?_; intro ao1 c1 w1 ho1 hg1 hb1; have HA1 := hide (told_append (base := []) (more := B) (Told.nil wr.drew) (by simp) ho1 hg1); have e0 : w1.cell? ⟨r, 0, none⟩ = some (.slice (some ⟨g, 0, none⟩) nodes.length cap) := ((HTX.out.below.cell (p := ⟨r, 0, none⟩) hrlt).symm.trans (HA1.out.below.cell (p := ⟨r, 0, none⟩) (Nat.lt_of_lt_of_le hrlt HTX.out.below.size)).symm).symm.trans H0.out; have e1 : w1.cell? ⟨g, k * 6, none⟩ = some (.string x.name) := ((HTX.out.below.cell (p := ⟨g, k * 6, none⟩) hglt).symm.trans (HA1.out.below.cell (p := ⟨g, k * 6, none⟩) (Nat.lt_of_lt_of_le hglt HTX.out.below.size)).symm).symm.trans Hx0.out; clear ho1 hg1 hb1)
                    | (refine wpList_append_Own _ rfl (.tmp 64) (.tmp 73) 35 rfl (nw wr.drew (w1.alloc (.cells #[.string x.name] 9))) 9 (.string ⟨#[]⟩) 1 16 Tryz.underlying35 infoString rfl (by decide) (.slice ao1 B.length c1) (strRows (B)) rfl (HA1.out.kept ((Below.refl _ _).alloc (Nat.le_refl _) _)).own (.slice (some ⟨w1.heap.size, 0, none⟩) 1 1) (strRows [x.name]) rfl (SrcIs.ofBlock (cs := #[.string x.name]) (heap_alloc_new w1 _) rfl (by simp [Value.oneCell'])) (B.length + 1) (by rw [len_strRows]; simp [strRows]) (by unfold maxLen; omega) (by omega) ?_; intro ao2 c2 w2 ho2 hg2 hb2; have HA2 := hide (told_append (base := B) (more := [x.name]) (HA1.out.kept ((Below.refl _ _).alloc (Nat.le_refl _) _)) (by simp) ho2 hg2); clear ho2 hg2 hb2)
                    | (refine wpList_append_Own _ rfl (.tmp 75) (.tmp 78) 35 rfl (nw wr.drew w2) 9 (.string ⟨#[]⟩) 1 16 Tryz.underlying35 infoString rfl (by decide) (.slice ao2 (B.length + 1) c2) (strRows (B ++ [x.name])) rfl HA2.out.own (.slice _ 0 _) (strRows []) rfl (src_none _ _ _) (B.length + 1) (by rw [len_strRows]; simp [strRows]) (by unfold maxLen; omega) (by omega) ?_; intro ao3 c3 w3 ho3 hg3 hb3; have HA3 := hide (told_append (base := B ++ [x.name]) (more := []) HA2.out (by simp) ho3 hg3); clear ho3 hg3 hb3))
                  have eB : refNames d (nodes.take (k + 1)) = B ++ [x.name] ++ [] := by
                    rw [Hsu.out, Hn.out, HI.out]
                    simp
                  refine ⟨⟨k + 1, by omega, by go_num, ?_, ?_⟩, by simp [intOf]; omega⟩
                  · rw [eB]
                    simp at hkl ⊢ <;> omega
                  · rw [eB]
                    exact HA3.out.wide HTX.out.below
                · skip
                  go_wp2
                  go_region
                  go_wp2_with (at_builtin; first
                    | (refine wpList_append_Own _ rfl (.tmp 59) (.tmp 62) 35 rfl (nw wr.drew wr.drew) 9 (.string ⟨#[]⟩) 1 16 Tryz.underlying35 infoString rfl (by decide) (.slice none 0 0) [] rfl (Own.nil _ _ _ _) (.slice (some ⟨g5, 0, none⟩) B.length co) (strRows (B)) rfl (by have := src_piece HTX.out.own (Below.refl _ _) 0 B.length co (by omega); rw [List.drop_zero, List.take_length] at this; exact this) B.length (by rw [len_strRows]; simp) (by unfold maxLen; omega) (by omega) ?_; intro ao1 c1 w1 ho1 hg1 hb1; have HA1 := hide (told_append (base := []) (more := B) (Told.nil wr.drew) (by simp) ho1 hg1); have e0 : w1.cell? ⟨r, 0, none⟩ = some (.slice (some ⟨g, 0, none⟩) nodes.length cap) := ((HTX.out.below.cell (p := ⟨r, 0, none⟩) hrlt).symm.trans (HA1.out.below.cell (p := ⟨r, 0, none⟩) (Nat.lt_of_lt_of_le hrlt HTX.out.below.size)).symm).symm.trans H0.out; have e1 : w1.cell? ⟨g, k * 6, none⟩ = some (.string x.name) := ((HTX.out.below.cell (p := ⟨g, k * 6, none⟩) hglt).symm.trans (HA1.out.below.cell (p := ⟨g, k * 6, none⟩) (Nat.lt_of_lt_of_le hglt HTX.out.below.size)).symm).symm.trans Hx0.out; clear ho1 hg1 hb1)
                    | (refine wpList_append_Own _ rfl (.tmp 64) (.tmp 73) 35 rfl (nw wr.drew (w1.alloc (.cells #[.string x.name] 9))) 9 (.string ⟨#[]⟩) 1 16 Tryz.underlying35 infoString rfl (by decide) (.slice ao1 B.length c1) (strRows (B)) rfl (HA1.out.kept ((Below.refl _ _).alloc (Nat.le_refl _) _)).own (.slice (some ⟨w1.heap.size, 0, none⟩) 1 1) (strRows [x.name]) rfl (SrcIs.ofBlock (cs := #[.string x.name]) (heap_alloc_new w1 _) rfl (by simp [Value.oneCell'])) (B.length + 1) (by rw [len_strRows]; simp [strRows]) (by unfold maxLen; omega) (by omega) ?_; intro ao2 c2 w2 ho2 hg2 hb2; have HA2 := hide (told_append (base := B) (more := [x.name]) (HA1.out.kept ((Below.refl _ _).alloc (Nat.le_refl _) _)) (by simp) ho2 hg2); clear ho2 hg2 hb2)
                    | (refine wpList_append_Own _ rfl (.tmp 75) (.tmp 78) 35 rfl (nw wr.drew w2) 9 (.string ⟨#[]⟩) 1 16 Tryz.underlying35 infoString rfl (by decide) (.slice ao2 (B.length + 1) c2) (strRows (B ++ [x.name])) rfl HA2.out.own (.slice _ 0 _) (strRows []) rfl (src_none _ _ _) (B.length + 1) (by rw [len_strRows]; simp [strRows]) (by unfold maxLen; omega) (by omega) ?_; intro ao3 c3 w3 ho3 hg3 hb3; have HA3 := hide (told_append (base := B ++ [x.name]) (more := []) HA2.out (by simp) ho3 hg3); clear ho3 hg3 hb3))
                  have eB : refNames d (nodes.take (k + 1)) = B ++ [x.name] ++ [] := by
                    rw [Hsu.out, Hn.out, HI.out]
                    simp
                  refine ⟨⟨k + 1, by omega, by go_num, ?_, ?_⟩, by simp [intOf]; omega⟩
                  · rw [eB]
                    simp at hkl ⊢ <;> omega
                  · rw [eB]
                    exact HA3.out.wide HTX.out.below
      · have Hn := hide (show refAdd d B x = B by unfold refAdd; rw [if_neg (fun q => h1 q.1)])
        go_wp2
        refine ⟨⟨k + 1, by omega, by go_num, ?_, ?_⟩, by simp [intOf]; omega⟩
        · rw [Hsu.out, Hn.out]; omega
        · rw [Hsu.out, Hn.out]; exact HTo.out
    · go_wp2
      go_ret
      refine ⟨_, rfl, ?_⟩
      have e := HB.out
      rw [List.take_of_length_le (by omega)] at e
      rw [← e]
      exact HTo.out

/-- 'names': a directory's names, in order. -/
theorem refNames_any {w : World} {F : Nat → Prop} {r : Nat} {st : St} (d : Nat) (h0 : 0 < st.nodes.length) (hl : st.nodes.length ≤ 1700000000000) (hu : UniqL st.nodes) (h : RefIs w F r st) :
    Calls Tryz.prog 151 #[.pointer (some ⟨r, 0, none⟩), .int .i64 d] w fun e w' => ∃ out, e = .returned out ∧ Told w w' (namesOf st d) out := by
  obtain ⟨nv, lv, fv, h⟩ := h
  obtain ⟨g, cap, rfl, hmax, hF, hb, hcell, hfz⟩ := h.nodesAt h0
  rw [← refNames_eq hu d]
  exact names_core r g cap st.nodes d w hl h.c0 (fun i x hx => ⟨(hcell i x hx).1, (hcell i x hx).2.2.1, (hcell i x hx).2.2.2.2.2⟩)
end Go.Proofs.YtdmdgnghaceibaaGreat.P
