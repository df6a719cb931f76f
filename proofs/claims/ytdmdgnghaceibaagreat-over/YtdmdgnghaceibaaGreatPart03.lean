/- The document's own answer, more: List as the reference goes about it. -/
import Derived.Test.YtdmdgnghaceibaaGreatPart02
import Derived.Laws.Strings
import Derived.LaidEqlPtr
import Derived.Shelf.LaysM
import Derived.Shelf.Strconv.Clone
namespace Go.Proofs.YtdmdgnghaceibaaGreat.M

/-- A name more, ahead of the first that is not less. -/
def refIns (l : List ByteArray) (s : ByteArray) : List ByteArray := l.takeWhile (fun x => decide (ltB x s)) ++ s :: l.dropWhile (fun x => decide (ltB x s))

theorem refIns_eq {s : ByteArray} : ∀ {l : List ByteArray}, s ∉ l → refIns l s = insName l s
  | [], _ => rfl
  | x :: l, h => by
    have hx : x ≠ s := fun e => h (by simp [e])
    have hl : s ∉ l := fun e => h (by simp [e])
    have ih := refIns_eq hl
    unfold refIns at ih ⊢
    unfold insName
    by_cases hlt : ltB x s
    · rw [if_pos hlt, List.takeWhile_cons_of_pos (by simpa using hlt), List.dropWhile_cons_of_pos (by simpa using hlt), List.cons_append, ih]
    · rw [if_neg hlt, if_neg hx, List.takeWhile_cons_of_neg (by simpa using hlt), List.dropWhile_cons_of_neg (by simpa using hlt), List.nil_append]

def refAdd (d : Nat) (l : List ByteArray) (x : Nd) : List ByteArray := if x.inn = (d : Int) ∧ x.gone = false then refIns l x.name else l
def refNames (d : Nat) (nodes : List Nd) : List ByteArray := nodes.foldl (refAdd d) []

/-- The names of a directory's entries differ. -/
def UniqL (nodes : List Nd) : Prop := ∀ (i j : Nat) (x y : Nd), nodes[i]? = some x → nodes[j]? = some y → x.gone = false → y.gone = false → x.inn = y.inn → x.name = y.name → i = j

theorem refNames_take {nodes : List Nd} (hu : UniqL nodes) (d : Nat) : ∀ k, k ≤ nodes.length → refNames d (nodes.take k) = namesIn d (nodes.take k)
  | 0, _ => by simp [refNames, namesIn]
  | k + 1, hk => by
    have hlt : k < nodes.length := by omega
    have ih := refNames_take hu d k (by omega)
    obtain ⟨x, hx⟩ := getElem?_of_lt hlt
    have e : nodes[k] = x := by rw [List.getElem?_eq_getElem hlt] at hx; exact Option.some.inj hx
    rw [List.take_succ_eq_append_getElem hlt, e]
    unfold refNames namesIn at ih ⊢
    rw [List.foldl_append, List.foldl_append, ih]
    simp only [List.foldl_cons, List.foldl_nil]
    unfold refAdd addName
    by_cases hc : x.inn = (d : Int) ∧ x.gone = false
    · rw [if_pos hc, if_pos hc]
      refine refIns_eq (fun hm => ?_)
      rcases ((fold_names d (nodes.take k) [] List.Pairwise.nil).2 x.name).1 hm with h | ⟨y, hy, r1, r2, r3⟩
      · simp at h
      · obtain ⟨j, hj⟩ := List.mem_iff_getElem?.1 hy
        have hjk : j < k := by
          have := lt_of_getElem? hj
          rw [List.length_take] at this
          omega
        rw [List.getElem?_take, if_pos hjk] at hj
        have := hu j k y x hj hx r2 hc.2 (r1.trans hc.1.symm) r3
        omega
    · rw [if_neg hc, if_neg hc]

theorem refNames_eq {st : St} (hu : UniqL st.nodes) (d : Nat) : refNames d st.nodes = namesOf st d := by
  have := refNames_take hu d st.nodes.length (Nat.le_refl _)
  rwa [List.take_length] at this

theorem upto_gone {st : St} {row : List Member} {k : Nat} {m : Member} (hm : row[k]? = some m) (hg : isGone st m.d = true) : listUpto st row (k + 1) = listUpto st row k := by
  show (match row[k]? with | none => _ | some m => _) = _
  rw [hm]
  simp [hg]
theorem upto_live {st : St} {row : List Member} {k : Nat} {m : Member} (hm : row[k]? = some m) (hg : isGone st m.d = false) : listUpto st row (k + 1) = listUpto st row k ++ (namesOf st m.d).filter (fun s => (seenIn st s (row.take k)).isNone) := by
  show (match row[k]? with | none => _ | some m => _) = _
  rw [hm]
  simp [hg]
theorem bytes_same {a b : ByteArray} (h : a.toList = b.toList) : a = b := by
  rw [ByteArray.toList_eq, ByteArray.toList_eq] at h
  cases a; cases b
  simp only [ByteArray.mk.injEq]
  exact Array.toList_inj.1 h

/-- One more name, where it wasn't told yet. -/
def tell (out : List ByteArray) (s : ByteArray) : List ByteArray := if hasText out s then out else out ++ [s]

theorem hasText_iff {l : List ByteArray} {s : ByteArray} : hasText l s = true ↔ s ∈ l := by
  unfold hasText
  rw [List.any_eq_true]
  constructor
  · rintro ⟨x, hx, h⟩
    have e : x.toList = s.toList := by simpa using h
    exact bytes_same e ▸ hx
  · intro h
    exact ⟨s, h, by simp⟩

theorem seenIn_snoc (st : St) (s : ByteArray) (m : Member) : ∀ row : List Member, (seenIn st s (row ++ [m])).isSome = true ↔ (seenIn st s row).isSome = true ∨ (isGone st m.d = false ∧ (lies st m.d s).isSome = true)
  | [] => by
    simp only [List.nil_append, seenIn]
    cases hg : isGone st m.d with
    | true => simp
    | false => cases lies st m.d s <;> simp
  | a :: row => by
    rw [List.cons_append]
    unfold seenIn
    cases hg : isGone st a.d with
    | true => simpa using seenIn_snoc st s m row
    | false =>
      cases hl : lies st a.d s with
      | some n => simp
      | none => simpa using seenIn_snoc st s m row

theorem mem_names {st : St} {d : Nat} {s : ByteArray} : s ∈ namesOf st d ↔ (lies st d s).isSome = true := by
  have h9 : s ∈ namesOf st d ↔ _ := (fold_names d st.nodes [] List.Pairwise.nil).2 s
  rw [h9]
  unfold lies
  rw [List.findIdx?_isSome, List.any_eq_true]
  constructor
  · rintro (h | ⟨x, hx, h1, h2, rfl⟩)
    · simp at h
    · exact ⟨x, hx, by unfold liesHere; simp [h1, h2]⟩
  · rintro ⟨x, hx, h⟩
    unfold liesHere at h
    simp only [Bool.and_eq_true, beq_iff_eq, decide_eq_true_eq, Bool.not_eq_true'] at h
    exact .inr ⟨x, hx, h.1.1, h.2, bytes_same h.1.2⟩

theorem mem_listUpto (st : St) (row : List Member) (s : ByteArray) : ∀ k, k ≤ row.length → (s ∈ listUpto st row k ↔ (seenIn st s (row.take k)).isSome = true)
  | 0, _ => by simp [listUpto, seenIn]
  | k + 1, hk => by
    have hlt : k < row.length := by omega
    have ih := mem_listUpto st row s k (by omega)
    obtain ⟨m, hm⟩ := getElem?_of_lt hlt
    have e : row[k] = m := by rw [List.getElem?_eq_getElem hlt] at hm; exact Option.some.inj hm
    rw [List.take_succ_eq_append_getElem hlt, e, seenIn_snoc, ← ih]
    cases hg : isGone st m.d with
    | true => rw [upto_gone hm hg]; simp
    | false =>
      rw [upto_live hm hg]
      simp only [List.mem_append, List.mem_filter, mem_names, true_and]
      rw [Option.isNone_iff_eq_none]
      constructor
      · rintro (h | ⟨h, _⟩)
        · exact .inl h
        · exact .inr h
      · rintro (h | h)
        · exact .inl h
        · by_cases hin : s ∈ listUpto st row k
          · exact .inl hin
          · refine .inr ⟨h, ?_⟩
            cases hs : seenIn st s (row.take k) with
            | none => rfl
            | some n => exact absurd (ih.2 (by rw [hs]; rfl)) hin

theorem tell_fold {p : ByteArray → Bool} (base : List ByteArray) : ∀ (l : List ByteArray) (done : List ByteArray), (done ++ l).Nodup → (∀ s, s ∈ done ++ l → (p s = true ↔ s ∉ base)) → l.foldl tell (base ++ done.filter p) = base ++ (done ++ l).filter p
  | [], done, _, _ => by simp
  | s :: l, done, hn, hp => by
    rw [List.foldl_cons]
    have hsd : s ∉ done := fun h => by
      have := (List.nodup_append.1 hn).2.2 s h s (by simp)
      exact this rfl
    have e : tell (base ++ done.filter p) s = base ++ (done ++ [s]).filter p := by
      unfold tell
      have hps := hp s (by simp)
      by_cases hb : s ∈ base
      · have hf : p s = false := by
          cases h : p s with
          | false => rfl
          | true => exact absurd hb (hps.1 h)
        rw [if_pos (hasText_iff.2 (by simp [hb])), List.filter_append]
        simp [hf]
      · have ht : p s = true := hps.2 hb
        rw [if_neg (fun h => by
          have := hasText_iff.1 h
          rcases List.mem_append.1 this with h | h
          · exact hb h
          · exact hsd (List.mem_filter.1 h).1), List.filter_append]
        simp [ht]
    rw [e, tell_fold base l (done ++ [s]) (by simpa using hn) (fun t ht => hp t (by simpa using ht))]
    simp

/-- The reference's way through a row is the same list. -/
theorem list_told (st : St) (row : List Member) (k : Nat) (hk : k < row.length) (m : Member) (hm : row[k]? = some m) (hg : isGone st m.d = false) : (namesOf st m.d).foldl tell (listUpto st row k) = listUpto st row (k + 1) := by
  have hnd : (namesOf st m.d).Nodup := List.Pairwise.imp (fun {a b} (hab : ltB a b) (e : a = b) => by subst e; exact ltB_irrefl a hab) (names_sorted st m.d)
  have h := tell_fold (p := fun s => (seenIn st s (row.take k)).isNone) (listUpto st row k) (namesOf st m.d) [] (by simpa using hnd) (fun s _ => by
    rw [mem_listUpto st row s k (by omega)]
    cases seenIn st s (row.take k) <;> simp)
  simp only [List.filter_nil, List.append_nil, List.nil_append] at h
  rw [h, upto_live hm hg]
end Go.Proofs.YtdmdgnghaceibaaGreat.M
/- The document's own answer, more: Remove; what of a tree is always so. -/
namespace Go.Proofs.YtdmdgnghaceibaaGreat.M

def goneNd (x : Nd) : Nd := { x with gone := true }

def rowHas (row : List Member) (d : Nat) : Bool := row.any fun m => m.d == d
/-- Is a directory laid onto some directory? -/
def carried (st : St) (d : Nat) : Bool := st.laid.any fun l => rowHas l.row d
def isEntry (d : Nat) (x : Nd) : Bool := x.inn == (d : Int) && !x.gone
def hasEntry (st : St) (d : Nat) : Bool := st.nodes.any (isEntry d)
def mBusy (st : St) (d : Nat) : Bool := hasEntry st d || st.laid.any fun l => l.onto == d || rowHas l.row d

def mRemove (st : St) (n : Int) : St × Int :=
  match find st n with
  | none => (tick st, 2)
  | some i => match st.fids[i]? with
    | none => (tick st, 2)
    | some f => match st.nodes[nodeOf f]? with
      | none => (tick st, 2)
      | some x => if x.gone then (mDrop (tick st) i, 4) else if nodeOf f = 0 then (mDrop (tick st) i, 9) else if x.dir && mBusy st (nodeOf f) then (mDrop (tick st) i, 10) else (setNode (mDrop (tick st) i) (nodeOf f) (goneNd x), 0)

/-- What of a tree is always so. -/
structure Treed (st : St) : Prop where
  root : ∃ x, st.nodes[0]? = some x ∧ x.dir = true ∧ x.gone = false ∧ x.inn = -1
  inn : ∀ (i : Nat) x, st.nodes[i]? = some x → 0 < i → ∃ p : Nat, x.inn = (p : Int) ∧ p < i ∧ isDir st p = true ∧ (x.gone = false → isGone st p = false)
  uniq : UniqL st.nodes
  laid : ∀ l ∈ st.laid, l.onto < st.nodes.length ∧ isGone st l.onto = false ∧ isDir st l.onto = true ∧ l.row ≠ []
  one : st.laid.Pairwise (fun a b => a.onto ≠ b.onto)

/-- A directory that lies in another one, however deep, or is it. -/
inductive Under (st : St) : Nat → Nat → Prop
  | here (i : Nat) : Under st i i
  | down {i j c : Nat} {x : Nd} (hx : st.nodes[c]? = some x) (hi : x.inn = (i : Int)) (hg : x.gone = false) (hd : x.dir = true) (h : Under st c j) : Under st i j

theorem Under.snoc {st : St} {i j c : Nat} {x : Nd} (h : Under st i j) (hx : st.nodes[c]? = some x) (hi : x.inn = (j : Int)) (hg : x.gone = false) (hd : x.dir = true) : Under st i c := by
  induction h with
  | here i => exact .down hx hi hg hd (.here c)
  | down hy hj hgy hdy _ ih => exact .down hy hj hgy hdy (ih hi)

theorem Treed.under {st : St} (T : Treed st) : ∀ (k i : Nat) x, i ≤ k → st.nodes[i]? = some x → x.dir = true → x.gone = false → Under st 0 i
  | 0, i, x, hk, _, _, _ => by
    obtain rfl : i = 0 := by omega
    exact .here 0
  | k + 1, i, x, hk, hx, hd, hg => by
    rcases Nat.eq_zero_or_pos i with rfl | h0
    · exact .here 0
    · obtain ⟨p, hp, hpi, hpd, hpg⟩ := T.inn i x hx h0
      obtain ⟨y, hy⟩ := getElem?_of_lt (show p < st.nodes.length by have := lt_of_getElem? hx; omega)
      have hyd : y.dir = true := by simpa [isDir, hy] using hpd
      have hyg : y.gone = false := by have := hpg hg; simpa [isGone, hy] using this
      exact (Treed.under T k p y (by omega) hy hyd hyg).snoc hx hp hg hd

theorem find_one {laid : List Laid} (h : laid.Pairwise (fun a b => a.onto ≠ b.onto)) {l : Laid} (hl : l ∈ laid) : laid.find? (fun z => z.onto == l.onto) = some l := by
  induction laid with
  | nil => simp at hl
  | cons a r ih =>
    obtain ⟨h1, h2⟩ := List.pairwise_cons.1 h
    rcases List.mem_cons.1 hl with rfl | hl
    · simp [List.find?]
    · have hne : (a.onto == l.onto) = false := by simpa using h1 l hl
      simp only [List.find?, hne]
      exact ih h2 hl

/-- A directory is carried where something of the tree carries it. -/
theorem Treed.carries {st : St} (T : Treed st) (d : Nat) : carried st d = true ↔ ∃ j l, Under st 0 j ∧ st.laid.find? (fun z => z.onto == j) = some l ∧ rowHas l.row d = true := by
  unfold carried
  rw [List.any_eq_true]
  constructor
  · rintro ⟨l, hl, hr⟩
    obtain ⟨h1, h2, h3, _⟩ := T.laid l hl
    obtain ⟨x, hx⟩ := getElem?_of_lt h1
    exact ⟨l.onto, l, T.under _ _ x (Nat.le_refl _) hx (by simpa [isDir, hx] using h3) (by simpa [isGone, hx] using h2), find_one T.one hl, hr⟩
  · rintro ⟨j, l, _, hf, hr⟩
    exact ⟨l, List.mem_of_find?_eq_some hf, hr⟩

theorem busy_split (st : St) (d : Nat) : mBusy st d = (hasEntry st d || ((st.laid.find? (fun l => l.onto == d)).isSome || carried st d)) := by
  unfold mBusy carried
  congr 1
  generalize st.laid = l
  rw [Bool.eq_iff_iff]
  simp only [List.any_eq_true, Bool.or_eq_true, List.find?_isSome]
  constructor
  · rintro ⟨x, hx, h | h⟩
    · exact .inl ⟨x, hx, h⟩
    · exact .inr ⟨x, hx, h⟩
  · rintro (⟨x, hx, h⟩ | ⟨x, hx, h⟩)
    · exact ⟨x, hx, .inl h⟩
    · exact ⟨x, hx, .inr h⟩

theorem hasEntry_iff {st : St} {d : Nat} : hasEntry st d = true ↔ ∃ s, (lies st d s).isSome = true := by
  unfold hasEntry
  rw [List.any_eq_true]
  constructor
  · rintro ⟨x, hx, h⟩
    unfold isEntry at h
    simp only [Bool.and_eq_true, beq_iff_eq, Bool.not_eq_true'] at h
    refine ⟨x.name, ?_⟩
    rw [← mem_names]
    exact ((fold_names d st.nodes [] List.Pairwise.nil).2 x.name).2 (.inr ⟨x, hx, h.1, h.2, rfl⟩)
  · rintro ⟨s, hs⟩
    rw [← mem_names] at hs
    rcases ((fold_names d st.nodes [] List.Pairwise.nil).2 s).1 hs with h | ⟨x, hx, h1, h2, _⟩
    · simp at h
    · exact ⟨x, hx, by simp [isEntry, h1, h2]⟩
theorem names_ne_nil {st : St} {d : Nat} : hasEntry st d = true ↔ 0 < (namesOf st d).length := by
  rw [hasEntry_iff]
  constructor
  · rintro ⟨s, hs⟩
    rw [← mem_names] at hs
    exact List.length_pos_of_mem hs
  · intro h
    obtain ⟨s, hs⟩ := List.exists_mem_of_length_pos h
    exact ⟨s, mem_names.1 hs⟩
end Go.Proofs.YtdmdgnghaceibaaGreat.M
/- The program's row.has. -/
namespace Go.Proofs.YtdmdgnghaceibaaGreat.P
open M Go.ChangeShapes Go.WideShapes Go.ChangeAt Go.RowKit
set_option linter.unusedVariables false

theorem infoDir : ∃ j, Tryz.prog.info? 168 = some j ∧ j.size ≠ 0 := by
  have h : ((Tryz.prog.info? 168).map fun j => j.size != 0) = some true := by kernel_rfl
  cases hj : Tryz.prog.info? 168 with
  | none => rw [hj] at h; cases h
  | some j => rw [hj] at h; exact ⟨j, rfl, by simpa using h⟩

theorem eq_dir (x : Nat) (W : World) : (binOp .eql 87 (.pointer (some ⟨x, 0, none⟩)) (.pointer (some ⟨x, 0, none⟩))).run Tryz.prog W = .ok (.bool true) W := by
  obtain ⟨j, hj, _⟩ := infoDir
  exact run_eql_ptr_same W _ Tryz.underlying87 hj
theorem ne_dir {x y : Nat} {W : World} {e1 e2 : TypeId} (h : x ≠ y) (hx : Ty W x e1) (hy : Ty W y e2) : (binOp .eql 87 (.pointer (some ⟨x, 0, none⟩)) (.pointer (some ⟨y, 0, none⟩))).run Tryz.prog W = .ok (.bool false) W := by
  obtain ⟨j, hj, hz⟩ := infoDir
  obtain ⟨cx, hx⟩ := hx
  obtain ⟨cy, hy⟩ := hy
  exact run_eql_ptr_other W Tryz.underlying87 hj hz (fun e => h (congrArg Addr.block e)) hx hy

set_option maxRecDepth 20000 in
/-- The closure: is a member that directory? -/
theorem has1_any (x y b : Nat) (l : Bool) (w : World) {e1 e2 : TypeId} (hx : Ty w x e1) (hy : Ty w y e2) (hb : w.cell? ⟨b, 0, none⟩ = some (.pointer (some ⟨y, 0, none⟩))) :
    Calls Tryz.prog 196 #[.agg #[.pointer (some ⟨x, 0, none⟩), .bool l], .pointer (some ⟨b, 0, none⟩)] w fun e w' => e = .returned (.bool (decide (x = y))) ∧ w' = w.alloc (.cells #[.pointer (some ⟨x, 0, none⟩), .bool l] 165) := by
  have u := up hb (.cells #[.pointer (some ⟨x, 0, none⟩), .bool l] 165)
  by_cases e : x = y
  · subst e
    have q := eq_dir x
    clear hx hy
    go_enter Tryz.func196, Tryz.ntmps196
    go_wp2
    go_ret
    exact ⟨by simp, rfl⟩
  · have hbel : Below w.heap.size w (w.alloc (.cells #[.pointer (some ⟨x, 0, none⟩), .bool l] 165)) := (Below.refl _ w).alloc (Nat.le_refl _) _
    have q := ne_dir e (hx.below hbel hx.lt) (hy.below hbel hy.lt)
    clear hx hy hbel
    go_enter Tryz.func196, Tryz.ntmps196
    go_wp2
    go_ret
    exact ⟨by simp [e], rfl⟩

/-- The first place at which a row has a directory. -/
def hasAt (row : List Member) (d : Nat) : Option Nat := row.findIdx? (fun m => m.d == d)

set_option maxRecDepth 20000 in
set_option maxHeartbeats 1000000 in
theorem index_any {w : World} {F : Nat → Prop} {t : Nat} {st : St} {L : Lay} {bv : Nat → Value} (row : List Member) (v : Value) (d b : Nat) (h : TreeIs w F t st L bv) (hv : PRow w F L v row) (hok : RowDirs st row) (hd : d < st.nodes.length) (hdd : M.isDir st d = true) (hb0 : w.cell? ⟨b, 0, none⟩ = some (dirPtr L d)) :
    Calls Tryz.prog 216 #[v, .func (.func 196) #[] #[.pointer (some ⟨b, 0, none⟩)]] w fun e w' => e = .returned (.int .i64 (idxV (hasAt row d))) ∧ Below w.heap.size w w' := by
  rcases hv.opened with ⟨rfl, hn⟩ | ⟨g, cap, rfl, hcap, hmax, hF, hb, hcell, hfz⟩
  · have h0 : row = [] := List.map_eq_nil_iff.1 hn
    subst h0
    clear hv hn h hok
    go_enter Tryz.func216, Tryz.ntmps216
    go_wp2
    go_loop [8] (fun i => i = .int .i64 0) (fun _ => 0)
    case atStart => rfl
    case round =>
      subst hrel
      go_wp2
      go_ret
      exact ⟨rfl, Below.refl _ _⟩
  · have hlen : (row.map (mCells L)).length = row.length := by simp
    rw [hlen] at hcap hv
    rw [hlen]
    unfold maxLen at hmax
    have HT := hide h
    have Hc := hide hcell
    have hglt : g < w.heap.size := by obtain ⟨cur, hb⟩ := hb; exact (Array.getElem?_eq_some_iff.1 hb).1
    have hblt : b < w.heap.size := World.block_lt_of_cell? w _ hb0
    have Hok := hide hok
    obtain ⟨xd, hxd, Dd, _, _⟩ := h.member hd hdd
    have Hty := hide Dd.blk.ty
    unfold dirPtr at hb0
    clear h hb hcell hfz hv hok hF hlen Dd hxd hdd
    go_enter Tryz.func216, Tryz.ntmps216
    go_wp2
    go_loopw [8] (fun i wr => ∃ k : Nat, k ≤ row.length ∧ i = .int .i64 k ∧ Below w.heap.size w wr ∧ ∀ j m, j < k → row[j]? = some m → (m.d == d) = false) (fun i _ => row.length - (intOf i).toNat)
    case atStart => exact ⟨0, Nat.zero_le _, rfl, Below.refl _ _, fun j m hj => by omega⟩
    case round =>
      obtain ⟨k, hk, rfl, hbel, hsee⟩ := hrel
      have Hbel := hide hbel
      have Hsee := hide hsee
      by_cases hlt : k < row.length
      · obtain ⟨m, hm⟩ := M.getElem?_of_lt hlt
        have hmm := List.mem_of_getElem? hm
        have hmd := (Hok.out m hmm).1
        obtain ⟨xm, hxm, Dm, _, _⟩ := HT.out.member hmd (Hok.out m hmm).2
        have tx := Dm.blk.ty.below (hbel.mono (Nat.le_refl _)) Dm.blk.ty.lt
        have ty := Hty.out.below hbel Hty.out.lt
        have hrow : (row.map (mCells L))[k]? = some (mCells L m) := by rw [List.getElem?_map, hm]; rfl
        have r0 : wr.cell? ⟨g, k * 2, none⟩ = some (dirPtr L m.d) := (hbel.cell (p := ⟨g, k * 2, none⟩) hglt).trans (Hc.out k _ 0 _ hrow rfl)
        have r1 : wr.cell? ⟨g, k * 2 + 1, none⟩ = some (.bool m.leave) := (hbel.cell (p := ⟨g, k * 2 + 1, none⟩) hglt).trans (Hc.out k _ 1 _ hrow rfl)
        have q0 : wr.cell? ⟨b, 0, none⟩ = some (.pointer (some ⟨L.nb d, 0, none⟩)) := (hbel.cell (p := ⟨b, 0, none⟩) hblt).trans hb0
        have Hm := hide hm
        unfold dirPtr at r0
        have k0 : (0 : Int) ≤ (k : Int) := by omega
        have k1 : (k : Int) < (row.length : Int) := by omega
        have Hinj := hide (fun e => HT.out.nbInj m.d d hmd hd e)
        have HC := hide (has1_any (L.nb m.d) (L.nb d) b m.leave wr tx ty q0)
        clear hm hrow hbel hsee hmm hmd Dm hxm tx ty
        by_cases hmd2 : m.d = d
        · rw [hmd2, show decide (L.nb d = L.nb d) = true by simp] at HC
          go_wp2_with (go_at_call 196; refine HC.out.mono ?_; rintro e w' ⟨rfl, hw⟩; subst hw)
          go_ret
          have e : hasAt row d = some k := findIdx?_some_of _ _ k m Hm.out (by simp [hmd2]) Hsee.out
          exact ⟨by rw [e]; rfl, Hbel.out.alloc Hbel.out.size _⟩
        · rw [show decide (L.nb m.d = L.nb d) = false from decide_eq_false (fun e => hmd2 (Hinj.out e))] at HC
          go_wp2_with (go_at_call 196; refine HC.out.mono ?_; rintro e w' ⟨rfl, hw⟩; subst hw)
          refine ⟨⟨k + 1, by omega, by go_num, Hbel.out.alloc Hbel.out.size _, fun j m' hj hm' => ?_⟩, by simp [intOf]; omega⟩
          by_cases e : j = k
          · subst e
            rw [Hm.out] at hm'
            cases hm'
            simpa using hmd2
          · exact Hsee.out j m' (by omega) hm'
      · go_wp2
        go_ret
        have e : hasAt row d = none := findIdx?_none_of _ _ (fun j m hm => Hsee.out j m (by have := M.lt_of_getElem? hm; omega) hm)
        exact ⟨by rw [e]; rfl, Hbel.out⟩

theorem hasAt_some (row : List Member) (d : Nat) : (hasAt row d).isSome = rowHas row d := by
  unfold hasAt rowHas
  rw [List.findIdx?_isSome]

set_option maxRecDepth 20000 in
theorem contains_any {w : World} {F : Nat → Prop} {t : Nat} {st : St} {L : Lay} {bv : Nat → Value} (row : List Member) (v : Value) (d b : Nat) (h : TreeIs w F t st L bv) (hv : PRow w F L v row) (hok : RowDirs st row) (hd : d < st.nodes.length) (hdd : M.isDir st d = true) (hb0 : w.cell? ⟨b, 0, none⟩ = some (dirPtr L d)) :
    Calls Tryz.prog 195 #[v, .func (.func 196) #[] #[.pointer (some ⟨b, 0, none⟩)]] w fun e w' => e = .returned (.bool (rowHas row d)) ∧ Below w.heap.size w w' := by
  have HC := hide (index_any row v d b h hv hok hd hdd hb0)
  have Hs := hide (hasAt_some row d)
  clear h hv hok hd hdd hb0
  cases ho : hasAt row d with
  | none =>
    rw [ho] at HC Hs
    simp only [idxV] at HC
    go_enter Tryz.func195, Tryz.ntmps195
    go_wp2_with (go_at_call 216; refine HC.out.mono ?_; rintro e w2 ⟨rfl, hb2⟩; have HB2 := hide hb2; clear hb2)
    go_ret
    exact ⟨by rw [← Hs.out]; rfl, HB2.out⟩
  | some k =>
    rw [ho] at HC Hs
    simp only [idxV] at HC
    have k0 : (0 : Int) ≤ (k : Int) := by omega
    go_enter Tryz.func195, Tryz.ntmps195
    go_wp2_with (go_at_call 216; refine HC.out.mono ?_; rintro e w2 ⟨rfl, hb2⟩; have HB2 := hide hb2; clear hb2)
    go_ret
    exact ⟨by rw [← Hs.out]; rfl, HB2.out⟩

set_option maxRecDepth 20000 in
theorem has_any {w : World} {F : Nat → Prop} {t : Nat} {st : St} {L : Lay} {bv : Nat → Value} (row : List Member) (v : Value) (d : Nat) (h : TreeIs w F t st L bv) (hv : PRow w F L v row) (hok : RowDirs st row) (hd : d < st.nodes.length) (hdd : M.isDir st d = true) :
    Calls Tryz.prog 168 #[v, dirPtr L d] w fun e w' => e = .returned (.bool (rowHas row d)) ∧ Below w.heap.size w w' := by
  have hbel : Below w.heap.size w (w.alloc (.cells #[dirPtr L d] 87)) := (Below.refl _ w).alloc (Nat.le_refl _) _
  have hc : (w.alloc (.cells #[dirPtr L d] 87)).cell? ⟨w.heap.size, 0, none⟩ = some (dirPtr L d) := by
    have e := heap_alloc_new w (.cells #[dirPtr L d] 87)
    simp only [World.cell?, e]
    rfl
  have HC := hide (contains_any row v d w.heap.size (h.kept (KeepX.below hbel)) (hv.kept (T := fun _ => True) (M := True) (KeepX.below hbel) trivial) hok hd hdd hc)
  have HB := hide hbel
  clear h hv hok hd hdd hc hbel
  unfold dirPtr at HC HB ⊢
  go_enter Tryz.func168, Tryz.ntmps168
  go_wp2_with (go_at_call 195; refine HC.out.mono ?_; rintro e w2 ⟨rfl, hb2⟩; have HB2 := hide hb2; clear hb2)
  go_ret
  exact ⟨rfl, HB.out.trans (HB2.out.mono (by simp))⟩
end Go.Proofs.YtdmdgnghaceibaaGreat.P
/- strings.Clone, by the library's contract. -/
namespace Go.Proofs.YtdmdgnghaceibaaGreat.P
open M Go.ChangeShapes Go.WideShapes Go.ChangeAt Go.RowKit
set_option linter.unusedVariables false

def cloneRen : Go.Shelf.Ren := ⟨fun | 316 => 132 | n => n, fun | 0 => 0 | 3 => 3 | 4 => 4 | 9 => 9 | 37 => 31 | 127 => 247 | 5 => 5 | n => n, fun | n => n⟩
theorem cloneLays : Go.Proofs.LaysM.n316 Tryz.prog cloneRen := {
  mixed := by kernel_rfl
  f316 := Tryz.func132.trans (congrArg some (by kernel_rfl))
  t0 := Tryz.underlying0
  a0 := Tryz.isAgg0
  z0 := Tryz.sizeOf0
  v0 := Tryz.zeroValue0
  t3 := Tryz.underlying3
  a3 := Tryz.isAgg3
  z3 := Tryz.sizeOf3
  v3 := Tryz.zeroValue3
  t4 := Tryz.underlying4
  a4 := Tryz.isAgg4
  z4 := Tryz.sizeOf4
  v4 := Tryz.zeroValue4
  t9 := Tryz.underlying9
  a9 := Tryz.isAgg9
  z9 := Tryz.sizeOf9
  v9 := Tryz.zeroValue9
  t37 := Tryz.underlying31
  a37 := Tryz.isAgg31
  z37 := Tryz.sizeOf31
  v37 := Tryz.zeroValue31
  t127 := Tryz.underlying247
  a127 := Tryz.isAgg247
  z127 := Tryz.sizeOf247
  v127 := Tryz.zeroValue247
  t5 := Tryz.underlying5
  a5 := Tryz.isAgg5
  z5 := Tryz.sizeOf5
  v5 := Tryz.zeroValue5
  i0 := by kernel_rfl
  i3 := by kernel_rfl
  i4 := by kernel_rfl
  i9 := by kernel_rfl
  i37 := by kernel_rfl
  i127 := by kernel_rfl
  i5 := by kernel_rfl }

theorem clone_any (s : ByteArray) (w : World) (hlim : s.size ≤ 281474976710656) :
    Calls Tryz.prog 97 #[.string s] w fun e w' => e = .returned (.string s) ∧ Below w.heap.size w w' := by
  go_enter Tryz.func97, Tryz.ntmps97
  go_wp2_with (go_at_call 132; refine (Any.stringslite_Clone cloneLays s _ hlim).mono ?_; rintro e w' ⟨rfl, hb⟩)
  go_ret
  exact ⟨rfl, hb⟩
end Go.Proofs.YtdmdgnghaceibaaGreat.P
/- The program's maker, newNode, add. -/
namespace Go.Proofs.YtdmdgnghaceibaaGreat.P
open M Go.ChangeShapes Go.WideShapes Go.ChangeAt Go.RowKit
set_option linter.unusedVariables false

def makerV (L : Lay) : Option Member → Value
  | none => .pointer none
  | some m => dirPtr L m.d

set_option maxRecDepth 20000 in
set_option maxHeartbeats 1000000 in
theorem maker_any {w : World} {F : Nat → Prop} {t : Nat} {st : St} {L : Lay} {bv : Nat → Value} (row : List Member) (v : Value) (h : TreeIs w F t st L bv) (hv : PRow w F L v row) (hok : RowDirs st row) :
    Calls Tryz.prog 89 #[v] w fun e w' => e = .returned (makerV L (makerOf st row)) ∧ Below w.heap.size w w' := by
  have hnot : ∀ (x : Bool) (w : World), (Op.unary .not (.bool x)).run Tryz.prog w = .ok (.bool (!x)) w := fun _ _ => rfl
  rcases hv.opened with ⟨rfl, hn⟩ | ⟨g, cap, rfl, hcap, hmax, hF, hb, hcell, hfz⟩
  · have h0 : row = [] := List.map_eq_nil_iff.1 hn
    subst h0
    clear hv hn h hok
    go_enter Tryz.func89, Tryz.ntmps89
    go_wp2
    go_loop [7] (fun i => i = .int .i64 0) (fun _ => 0)
    case atStart => rfl
    case round =>
      subst hrel
      go_wp2
      go_ret
      exact ⟨rfl, Below.refl _ _⟩
  · have hlen : (row.map (mCells L)).length = row.length := by simp
    rw [hlen] at hcap hv
    rw [hlen]
    unfold maxLen at hmax
    have HT := hide h
    have Hc := hide hcell
    have hglt : g < w.heap.size := by obtain ⟨cur, hb⟩ := hb; exact (Array.getElem?_eq_some_iff.1 hb).1
    have Hok := hide hok
    clear h hb hcell hfz hv hok hF hlen
    go_enter Tryz.func89, Tryz.ntmps89
    go_wp2
    go_loopw [7] (fun i wr => ∃ k : Nat, k ≤ row.length ∧ i = .int .i64 k ∧ Below w.heap.size w wr ∧ makerOf st row = makerOf st (row.drop k)) (fun i _ => row.length - (intOf i).toNat)
    case atStart => exact ⟨0, Nat.zero_le _, rfl, Below.refl _ _, by simp⟩
    case round =>
      obtain ⟨k, hk, rfl, hbel, hsee⟩ := hrel
      have Hbel := hide hbel
      have Hsee := hide hsee
      by_cases hlt : k < row.length
      · obtain ⟨m, hm⟩ := M.getElem?_of_lt hlt
        have hmm := List.mem_of_getElem? hm
        obtain ⟨hd, hdir⟩ := Hok.out m hmm
        obtain ⟨x, hx, D, hg2, hnlt⟩ := HT.out.member hd hdir
        have hrow : (row.map (mCells L))[k]? = some (mCells L m) := by rw [List.getElem?_map, hm]; rfl
        have r0 : wr.cell? ⟨g, k * 2, none⟩ = some (dirPtr L m.d) := (hbel.cell (p := ⟨g, k * 2, none⟩) hglt).trans (Hc.out k _ 0 _ hrow rfl)
        have r1 : wr.cell? ⟨g, k * 2 + 1, none⟩ = some (.bool m.leave) := (hbel.cell (p := ⟨g, k * 2 + 1, none⟩) hglt).trans (Hc.out k _ 1 _ hrow rfl)
        have g2 : wr.cell? ⟨L.nb m.d, 2, none⟩ = some (.bool (isGone st m.d)) := (hbel.cell (p := ⟨L.nb m.d, 2, none⟩) hnlt).trans hg2
        have Hm := hide hm
        unfold dirPtr at r0
        clear hm hx D hrow hbel hsee hmm hg2
        have k0 : (0 : Int) ≤ (k : Int) := by omega
        have k1 : (k : Int) < (row.length : Int) := by omega
        have g2' := fun o => up g2 o
        have Hd := hide (makerOf_drop st row k m Hm.out)
        cases hl : m.leave with
        | false =>
          rw [hl] at r1
          go_wp2_with fail
          refine ⟨⟨k + 1, by omega, by go_num, Hbel.out.alloc Hbel.out.size _, ?_⟩, by simp [intOf]; omega⟩
          rw [Hsee.out, Hd.out, hl]
          cases isGone st m.d <;> rfl
        | true =>
          rw [hl] at r1
          cases hgv : isGone st m.d with
          | true =>
            rw [hgv] at g2'
            go_wp2_with (go_at_call 94; refine (isGone_any _ _ _ (g2' _)).mono ?_; rintro e w' ⟨rfl, hw⟩; obtain rfl := hw.symm)
            refine ⟨⟨k + 1, by omega, by go_num, Hbel.out.alloc Hbel.out.size _, ?_⟩, by simp [intOf]; omega⟩
            rw [Hsee.out, Hd.out, hgv]
            rfl
          | false =>
            rw [hgv] at g2'
            go_wp2_with (go_at_call 94; refine (isGone_any _ _ _ (g2' _)).mono ?_; rintro e w' ⟨rfl, hw⟩; obtain rfl := hw.symm)
            go_ret
            refine ⟨?_, Hbel.out.alloc Hbel.out.size _⟩
            rw [Hsee.out, Hd.out, hgv, hl]
            rfl
      · go_wp2
        go_ret
        refine ⟨?_, Hbel.out⟩
        rw [Hsee.out, List.drop_eq_nil_of_le (by omega)]
        rfl

set_option maxRecDepth 20000 in
/-- What 'newNode' lays. -/
theorem newNode_dir (name : ByteArray) (b : Nat) (w : World) (hlim : name.size ≤ 281474976710656) :
    Calls Tryz.prog 90 #[.string name, .pointer (some ⟨b, 0, none⟩), .bool true] w fun e w' => ∃ w1, Below w.heap.size w w1 ∧ e = .returned (dirI (w1.heap.size + 1)) ∧ w' = (w1.alloc (.map #[] 0)).alloc (dirObj name (.pointer (some ⟨b, 0, none⟩)) w1.heap.size) := by
  go_enter Tryz.func90, Tryz.ntmps90
  go_wp2_with (first | (go_at_call 97; refine (clone_any name _ hlim).mono ?_; rintro e w1 ⟨rfl, hb⟩; have HB := hide hb; clear hb) | (go_at_call 127; refine (newDir_any _ (some ⟨b, 0, none⟩) _).mono ?_; rintro e w' ⟨rfl, rfl⟩))
  go_ret
  exact ⟨w1, HB.out, rfl, rfl⟩

set_option maxRecDepth 20000 in
theorem newNode_file (name : ByteArray) (b : Nat) (w : World) (hlim : name.size ≤ 281474976710656) :
    Calls Tryz.prog 90 #[.string name, .pointer (some ⟨b, 0, none⟩), .bool false] w fun e w' => ∃ w1, Below w.heap.size w w1 ∧ e = .returned (fileI w1.heap.size) ∧ w' = w1.alloc (fileObj name (.pointer (some ⟨b, 0, none⟩))) := by
  go_enter Tryz.func90, Tryz.ntmps90
  go_wp2_with (first | (go_at_call 97; refine (clone_any name _ hlim).mono ?_; rintro e w1 ⟨rfl, hb⟩; have HB := hide hb; clear hb) | (go_at_call 128; refine (newFile_any _ (some ⟨b, 0, none⟩) _).mono ?_; rintro e w' ⟨rfl, rfl⟩))
  go_ret
  exact ⟨w1, HB.out, rfl, rfl⟩
end Go.Proofs.YtdmdgnghaceibaaGreat.P
/- The program's 'add'. -/
namespace Go.Proofs.YtdmdgnghaceibaaGreat.P
open M Go.ChangeShapes Go.WideShapes Go.ChangeAt Go.RowKit
set_option linter.unusedVariables false

/-- What 'add' leaves: a map has one entry more, the tree counts one more. -/
def Added (w : World) (t mb n : Nat) (f : ByteArray → Option Value) (name : ByteArray) (nv : Value) (c : Int) (e : Ending) (w' : World) : Prop :=
  ∃ w3, e = .returned (.tuple #[]) ∧ MapIs w3 mb (n + 1) (fun s => if s = name then some nv else f s) ∧ w.drew.mapTurned w3 mb ∧ w' = w3.setCell ⟨t, 1, none⟩ (.int .i64 c)

theorem turned_cell {w w3 : World} {mb : Nat} (h : w.mapTurned w3 mb) (a : Addr) : w3.cell? a = w.cell? a := by
  obtain ⟨es, c, es', c', hb, rfl⟩ := h
  by_cases e : a.block = mb
  · simp only [World.cell?, e]
    rw [Go.ChangeMaps.heap_setBlock_same hb, hb]
  · exact World.cell?_of_block (Go.ChangeMaps.heap_setBlock_other hb _ e)

set_option maxRecDepth 20000 in
set_option maxHeartbeats 1000000 in
theorem add_dir {w : World} {t mb n b d : Nat} {f : ByteArray → Option Value} {name : ByteArray} {c : Int} (hname : name.size ≤ maxLen) (hn : n < maxLen) (hc : 0 ≤ c ∧ c < 1000)
    (b0 : w.cell? ⟨b, 0, none⟩ = some (.string name)) (b1 : w.cell? ⟨b, 1, none⟩ = some (.pointer (some ⟨d, 0, none⟩))) (d3 : w.cell? ⟨d, 3, none⟩ = some (.map (some mb))) (t1 : w.cell? ⟨t, 1, none⟩ = some (.int .i64 c)) (tz : w.frozen? ⟨t, 1, none⟩ = false) (hm : MapIs w mb n f) :
    Calls Tryz.prog 91 #[.pointer (some ⟨t, 0, none⟩), .iface 87 (.pointer (some ⟨b, 0, none⟩))] w fun e w' => Added w t mb n f name (.iface 87 (.pointer (some ⟨b, 0, none⟩))) (c + 1) e w' := by
  have hm' : MapIs w.drew mb n f := hm
  obtain ⟨w3, hst, hm3, ht⟩ := hm'.store name hname hn (.iface 87 (.pointer (some ⟨b, 0, none⟩)))
  have m1 := m_liesInD
  have m2 := m_calledD
  have t1' : w3.cell? ⟨t, 1, none⟩ = some (.int .i64 c) := (turned_cell ht _).trans t1
  have tz' : w3.frozen? ⟨t, 1, none⟩ = false := (ht.frozen _).trans tz
  have hwr : IntKind.i64.wrap (c + 1) = c + 1 := by simp only [IntKind.wrap_i64]; omega
  have Hm3 := hide hm3
  have Ht := hide ht
  clear hm hm' hm3 ht
  go_enter Tryz.func91, Tryz.ntmps91
  go_wp2
  go_region_with (first | (go_at_call 247; refine (liesIn_any b (some ⟨d, 0, none⟩) w.drew b1).mono ?_; rintro e w' ⟨rfl, hw⟩; obtain rfl := hw.symm) | (go_at_call 245; refine (called_any b name w.drew b0).mono ?_; rintro e w' ⟨rfl, hw⟩; obtain rfl := hw.symm))
  all_goals (go_wp2; go_end0; exact ⟨w3, rfl, Hm3.out, Ht.out, rfl⟩)

set_option maxRecDepth 20000 in
set_option maxHeartbeats 1000000 in
theorem add_file {w : World} {t mb n b d : Nat} {f : ByteArray → Option Value} {name : ByteArray} {c : Int} (hname : name.size ≤ maxLen) (hn : n < maxLen) (hc : 0 ≤ c ∧ c < 1000)
    (b0 : w.cell? ⟨b, 0, none⟩ = some (.string name)) (b1 : w.cell? ⟨b, 1, none⟩ = some (.pointer (some ⟨d, 0, none⟩))) (d3 : w.cell? ⟨d, 3, none⟩ = some (.map (some mb))) (t1 : w.cell? ⟨t, 1, none⟩ = some (.int .i64 c)) (tz : w.frozen? ⟨t, 1, none⟩ = false) (hm : MapIs w mb n f) :
    Calls Tryz.prog 91 #[.pointer (some ⟨t, 0, none⟩), .iface 122 (.pointer (some ⟨b, 0, none⟩))] w fun e w' => Added w t mb n f name (.iface 122 (.pointer (some ⟨b, 0, none⟩))) (c + 1) e w' := by
  have hm' : MapIs w.drew mb n f := hm
  obtain ⟨w3, hst, hm3, ht⟩ := hm'.store name hname hn (.iface 122 (.pointer (some ⟨b, 0, none⟩)))
  have m1 := m_liesInF
  have m2 := m_calledF
  have t1' : w3.cell? ⟨t, 1, none⟩ = some (.int .i64 c) := (turned_cell ht _).trans t1
  have tz' : w3.frozen? ⟨t, 1, none⟩ = false := (ht.frozen _).trans tz
  have hwr : IntKind.i64.wrap (c + 1) = c + 1 := by simp only [IntKind.wrap_i64]; omega
  have Hm3 := hide hm3
  have Ht := hide ht
  clear hm hm' hm3 ht
  go_enter Tryz.func91, Tryz.ntmps91
  go_wp2
  go_region_with (first | (go_at_call 247; refine (liesIn_any b (some ⟨d, 0, none⟩) w.drew b1).mono ?_; rintro e w' ⟨rfl, hw⟩; obtain rfl := hw.symm) | (go_at_call 245; refine (called_any b name w.drew b0).mono ?_; rintro e w' ⟨rfl, hw⟩; obtain rfl := hw.symm))
  all_goals (go_wp2; go_end0; exact ⟨w3, rfl, Hm3.out, Ht.out, rfl⟩)

/-! ### The tree with a node more -/

theorem lies_withNode (st : St) (x : Nd) (d : Nat) (s : ByteArray) : lies (withNode st x) d s = (lies st d s).or (if liesHere d s x then some st.nodes.length else none) := by
  unfold lies withNode
  simp only
  rw [List.findIdx?_append]
  cases h : liesHere d s x <;> simp [List.findIdx?_cons, h]

theorem get_withNode (st : St) (x : Nd) (i : Nat) : (withNode st x).nodes[i]? = if i = st.nodes.length then some x else st.nodes[i]? := by
  unfold withNode
  simp only
  by_cases h : i < st.nodes.length
  · rw [List.getElem?_append_left h, if_neg (by omega)]
  · rw [List.getElem?_append_right (by omega)]
    by_cases e : i = st.nodes.length
    · subst e; simp
    · rw [if_neg e, List.getElem?_eq_none (by simp; omega), List.getElem?_eq_none (by omega)]

theorem live_withNode (st : St) (x : Nd) (h : x.gone = false) : liveNodes (withNode st x).nodes = liveNodes st.nodes + 1 := by
  unfold liveNodes withNode
  simp [List.filter_append, h]

/-- The new node is node number n. -/
def Lay.put (L : Lay) (n nb mb : Nat) (d : Bool) : Lay := ⟨fun i => if i = n then nb else L.nb i, fun i => if i = n then mb else L.mb i, fun i => if i = n then d else L.dirs i⟩

section
variable {w : World} {F : Nat → Prop} {L : Lay} {n nb mb : Nat} {d : Bool}
theorem Lay.nb_lt {i : Nat} (h : i < n) : (L.put n nb mb d).nb i = L.nb i := by simp [Lay.put]; omega
theorem Lay.mb_lt {i : Nat} (h : i < n) : (L.put n nb mb d).mb i = L.mb i := by simp [Lay.put]; omega
theorem Lay.dirs_lt {i : Nat} (h : i < n) : (L.put n nb mb d).dirs i = L.dirs i := by simp [Lay.put]; omega
theorem Lay.nodeV_lt {i : Nat} (h : i < n) : nodeV (L.put n nb mb d) i = nodeV L i := by unfold nodeV; rw [Lay.nb_lt h, Lay.dirs_lt h]
theorem Lay.row_lt {row : List Member} (h : ∀ m ∈ row, m.d < n) : row.map (mCells (L.put n nb mb d)) = row.map (mCells L) := by
  apply List.map_congr_left
  intro m hm
  unfold mCells dirPtr
  rw [Lay.nb_lt (h m hm)]
theorem PRow.put {v : Value} {row : List Member} (h : PRow w F L v row) (hr : ∀ m ∈ row, m.d < n) : PRow w F (L.put n nb mb d) v row := by
  unfold PRow
  rw [Lay.row_lt hr]
  exact h
theorem PlaceIs.put : ∀ {p : Nat} {way : List Spot}, PlaceIs w F L p way → (∀ s ∈ way, s.n < n ∧ ∀ m ∈ s.row, m.d < n) → PlaceIs w F (L.put n nb mb d) p way
  | p, [], h, _ => h
  | p, s :: r, h, hw => by
    obtain ⟨hb, c0, ⟨v, c1, hv⟩, q, c2, hr⟩ := h
    refine ⟨hb, by rw [Lay.nodeV_lt (hw s (by simp)).1]; exact c0, ⟨v, c1, hv.put (hw s (by simp)).2⟩, q, c2, ?_⟩
    cases r with
    | nil => exact hr
    | cons x r => exact PlaceIs.put hr (fun s hs => hw s (by simp [hs]))
end
end Go.Proofs.YtdmdgnghaceibaaGreat.P
/- The tree with a node more. -/
namespace Go.Proofs.YtdmdgnghaceibaaGreat.P
open M Go.ChangeShapes Go.WideShapes Go.ChangeAt Go.RowKit
set_option linter.unusedVariables false

theorem inV_lt {L : Lay} {n nb mb : Nat} {d : Bool} {i : Int} (h : i < (n : Int)) : inV (L.put n nb mb d) i = inV L i := by
  unfold inV
  split
  · rfl
  · rw [Lay.nb_lt (by omega)]

theorem lies_lt' {st : St} {d : Nat} {name : ByteArray} {j : Nat} (h : lies st d name = some j) : j < st.nodes.length := by
  unfold lies at h
  rw [List.findIdx?_eq_some_iff_getElem] at h
  exact h.1

theorem Ty.ne_map {w : World} {b k : Nat} {e : TypeId} (h : Ty w b e) {es : Array MapEntry} {c : Nat} (hk : w.heap[k]? = some (.map es c)) : b ≠ k := by
  intro heq
  subst heq
  obtain ⟨cur, hb⟩ := h
  rw [hb] at hk
  cases hk
theorem Ty.ne_ty {w : World} {b k : Nat} {e e' : TypeId} (h : Ty w b e) (hk : Ty w k e') (hne : e ≠ e') : b ≠ k := by
  intro heq
  subst heq
  obtain ⟨cur, hb⟩ := h
  obtain ⟨cur', hk⟩ := hk
  rw [hb] at hk
  cases hk
  exact hne rfl

theorem liesHere_new (name : ByteArray) (dir : Bool) (d i : Nat) (s : ByteArray) : liesHere i s (newNd name dir d) = decide (i = d ∧ s = name) := by
  unfold liesHere newNd
  simp only [Bool.not_false, Bool.and_true]
  by_cases e : i = d
  · subst e
    simp only [beq_self_eq_true, Bool.true_and, true_and]
    by_cases e2 : s = name
    · simp [e2]
    · have : ¬ name.toList = s.toList := fun h => e2 (bytes_eq (by rw [toList_data, toList_data] at h; exact h.symm))
      simp [this, e2]
  · have : ((d : Int) == (i : Int)) = false := beq_false_of_ne (by omega)
    simp [this, e]

theorem lies_none_of_inn {st : St} (h : ∀ x ∈ st.nodes, x.inn < (st.nodes.length : Int)) (s : ByteArray) : lies st st.nodes.length s = none := by
  unfold lies
  rw [List.findIdx?_eq_none_iff]
  intro x hx
  have := h x hx
  unfold liesHere
  have : (x.inn == (st.nodes.length : Int)) = false := by simpa using (by omega : ¬ x.inn = (st.nodes.length : Int))
  simp [this]

/-- The blocks of a new node. -/
def NewIs (w : World) (F : Nat → Prop) (nb mb : Nat) (name : ByteArray) (dir : Bool) (q : Nat) : Prop :=
  F nb ∧ F mb ∧ if dir then w.heap[nb]? = some (dirObj name (.pointer (some ⟨q, 0, none⟩)) mb) ∧ w.heap[mb]? = some (.map #[] 0) else w.heap[nb]? = some (fileObj name (.pointer (some ⟨q, 0, none⟩)))

theorem TreeIs.grow {w W : World} {F F' : Nat → Prop} {t : Nat} {st : St} {L : Lay} {bv : Nat → Value} (h : TreeIs w F t st L bv) (ok : POk st) {name : ByteArray} {dir : Bool} {d nb mb : Nat} (hd : d < st.nodes.length) (hdir : M.isDir st d = true) (hl : lies st d name = none)
    (hF : ∀ k, F k → F' k) (kept : ∀ b, F b → b ≠ t → b ≠ L.mb d → b < w.heap.size → W.heap[b]? = w.heap[b]?)
    (tT : Ty W t 89) (t0 : W.cell? ⟨t, 0, none⟩ = w.cell? ⟨t, 0, none⟩) (t1 : W.cell? ⟨t, 1, none⟩ = some (.int .i64 ((liveNodes st.nodes : Int) + 1)))
    (hm : MapIs W (L.mb d) (st.nodes.length + 1) (fun s => if s = name then some (nodeV (L.put st.nodes.length nb mb dir) st.nodes.length) else (lies st d s).map (nodeV L)))
    (hnb : w.heap.size ≤ nb) (hmb : w.heap.size ≤ mb) (hnew : NewIs W F' nb mb name dir (L.nb d)) :
    TreeIs W F' t (withNode st (newNd name dir d)) (L.put st.nodes.length nb mb dir) (fun i => if i = st.nodes.length then .slice none 0 0 else bv i) := by
  obtain ⟨xd, hxd⟩ := getElem?_of_lt hd
  have hxdd : xd.dir = true := by simpa [M.isDir, hxd] using hdir
  have Dd := h.dir d xd hxd hxdd
  obtain ⟨esd, cd, hmd⟩ := Dd.map.blk
  have hlen : (withNode st (newNd name dir d)).nodes.length = st.nodes.length + 1 := by simp [withNode]
  have keepBlk : ∀ {b : Nat} {e : TypeId}, Blk w F b e → e ≠ 89 → W.heap[b]? = w.heap[b]? := fun {b e} hb he =>
    kept b hb.own (Ty.ne_ty hb.ty h.blk.ty he) (Ty.ne_map hb.ty hmd) hb.lt
  have keepOwn : ∀ {e : TypeId} {size : Nat} {v : Value} {rows : List (List Value)}, Own w F e size v rows → e ≠ 89 → Own W F e size v rows := fun {e size v rows} ho he =>
    ho.keptBlock (fun k hk => by
      rcases ho.opened with ⟨rfl, _⟩ | ⟨g, cap, rfl, _, _, hg, ⟨cur, hb⟩, _⟩
      · simp [Value.ownBlock] at hk
      · simp [Value.ownBlock] at hk
        subst hk
        exact keepBlk (e := e) ⟨⟨cur, hb⟩, hg⟩ he)
  have kb : ∀ {b : Nat} {e : TypeId}, Blk w F b e → e ≠ 89 → Blk W F' b e := fun {b e} hb he => by
    have e1 := keepBlk hb he
    obtain ⟨⟨cur, hc⟩, hF0⟩ := hb
    exact ⟨⟨cur, e1.trans hc⟩, hF _ hF0⟩
  have old : ∀ {i : Nat} {x : Nd}, (withNode st (newNd name dir d)).nodes[i]? = some x → i ≠ st.nodes.length → st.nodes[i]? = some x ∧ i < st.nodes.length := fun {i x} hx hi => by
    rw [get_withNode, if_neg hi] at hx
    exact ⟨hx, M.lt_of_getElem? hx⟩
  have new : ∀ {x : Nd}, (withNode st (newNd name dir d)).nodes[st.nodes.length]? = some x → x = newNd name dir d := fun {x} hx => by
    rw [get_withNode, if_pos rfl] at hx
    exact (Option.some.inj hx).symm
  have inDir : inV (L.put st.nodes.length nb mb dir) (newNd name dir d).inn = .pointer (some ⟨L.nb d, 0, none⟩) := by
    rw [inV_lt (show (newNd name dir d).inn < (st.nodes.length : Int) by simp [newNd]; omega)]
    unfold inV newNd
    simp only
    rw [if_neg (by omega), Int.toNat_natCast]
  have nbN : (L.put st.nodes.length nb mb dir).nb st.nodes.length = nb := by simp [Lay.put]
  have mbN : (L.put st.nodes.length nb mb dir).mb st.nodes.length = mb := by simp [Lay.put]
  have nbL : ∀ i, i < st.nodes.length → L.nb i < w.heap.size := fun i hi => by
    obtain ⟨x, hx⟩ := getElem?_of_lt hi
    cases hxd : x.dir with
    | true => exact (h.dir i x hx hxd).blk.lt
    | false => exact (h.file i x hx hxd).blk.lt
  refine ⟨⟨tT, hF _ h.blk.own⟩, ?_, ?_, fun i x hx => ?_, fun i x hx hdx => ?_, fun i x hx hdx => ?_, fun i j hi hj hij => ?_, fun i j x y hx hy hdx hdy hij => ?_, fun i j x y k hx hy hdx hdy hne hk => ?_⟩
  · rw [t0, h.c0]
    unfold dirPtr
    rw [Lay.nb_lt ok.pos]
  · rw [t1, live_withNode _ _ rfl]
    simp
  · by_cases e : i = st.nodes.length
    · subst e
      rw [new hx]
      simp [Lay.put, newNd]
    · obtain ⟨hx, hi⟩ := old hx e
      rw [Lay.dirs_lt hi]
      exact h.kind i x hx
  · by_cases e : i = st.nodes.length
    · subst e
      rw [new hx] at hdx ⊢
      have hdt : dir = true := hdx
      obtain ⟨f1, f2, hn⟩ := hnew
      rw [if_pos hdt] at hn
      obtain ⟨hb, hmn⟩ := hn
      refine ⟨⟨⟨_, by rw [nbN]; exact hb⟩, by rw [nbN]; exact f1⟩, ?_, ?_, ?_, ?_, ?_, ?_, ?_⟩
      · rw [nbN]; simp [World.cell?, hb, dirObj, newNd]
      · rw [nbN, inDir]; simp [World.cell?, hb, dirObj]
      · rw [nbN]; simp [World.cell?, hb, dirObj, newNd]
      · rw [nbN, mbN]; simp [World.cell?, hb, dirObj]
      · rw [mbN]; exact f2
      · rw [mbN]
        have h0 : MapIs W mb 0 (fun _ => none) := by
          have := MapIs.made (w := ⟨(Array.replicate mb (.map #[] 0)), W.tape, W.drawn, W.os, W.output⟩)
          have hz : (⟨(Array.replicate mb (.map #[] 0)), W.tape, W.drawn, W.os, W.output⟩ : World).heap.size = mb := by simp
          rw [hz] at this
          refine this.kept ?_
          rw [hmn]
          have := heap_alloc_new (⟨(Array.replicate mb (.map #[] 0)), W.tape, W.drawn, W.os, W.output⟩ : World) (.map #[] 0)
          rw [hz] at this
          exact this.symm
        refine (h0.mono (Nat.zero_le _)).congr (fun s _ => ?_)
        rw [lies_withNode, lies_none_of_inn ok.inn s, liesHere_new]
        simp
        omega
      · refine ⟨.slice none 0 0, by rw [nbN]; simp [World.cell?, hb, dirObj], ?_⟩
        have : (withNode st (newNd name dir d)).laid.find? (fun l => l.onto == st.nodes.length) = none := by
          rw [List.find?_eq_none]
          intro l hl
          have := (ok.laid l hl).2.2
          simp
          omega
        rw [this]
        rfl
    · obtain ⟨hx, hi⟩ := old hx e
      have D := h.dir i x hx hdx
      have hblk := keepBlk D.blk (by decide)
      have c : ∀ j, W.cell? ⟨L.nb i, j, none⟩ = w.cell? ⟨L.nb i, j, none⟩ := fun j => World.cell?_of_block hblk
      obtain ⟨v, c4, hv⟩ := D.bound
      refine ⟨by rw [Lay.nb_lt hi]; exact kb D.blk (by decide), ?_, ?_, ?_, ?_, ?_, ?_, v, ?_, ?_⟩
      · rw [Lay.nb_lt hi, c]; exact D.c0
      · rw [Lay.nb_lt hi, c, inV_lt (ok.inn x (List.mem_of_getElem? hx))]; exact D.c1
      · rw [Lay.nb_lt hi, c]; exact D.c2
      · rw [Lay.nb_lt hi, Lay.mb_lt hi, c]; exact D.c3
      · rw [Lay.mb_lt hi]; exact hF _ D.mapF
      · rw [Lay.mb_lt hi, hlen]
        by_cases ed : i = d
        · subst ed
          refine hm.congr (fun s _ => ?_)
          rw [lies_withNode, liesHere_new]
          by_cases es : s = name
          · subst es
            rw [hl]
            simp
          · simp only [es, and_false, decide_false]
            cases hls : lies st i s with
            | none => simp
            | some j =>
              simp [Lay.nodeV_lt (lies_lt' hls)]
        · obtain ⟨es, cl, hmi⟩ := D.map.blk
          have hk : W.heap[L.mb i]? = w.heap[L.mb i]? := kept _ D.mapF (Ne.symm (Ty.ne_map h.blk.ty hmi)) (fun heq => ed (h.mbInj i d x xd hx hxd hdx hxdd heq)) D.map.lt
          refine ((D.map.kept hk).mono (Nat.le_succ _)).congr (fun s _ => ?_)
          rw [lies_withNode, liesHere_new]
          simp only [ed, false_and, decide_false]
          cases hls : lies st i s with
          | none => simp
          | some j => simp [Lay.nodeV_lt (lies_lt' hls)]
      · rw [Lay.nb_lt hi, c]; exact c4
      · have e1 : (withNode st (newNd name dir d)).laid = st.laid := rfl
        rw [e1]
        cases hlf : st.laid.find? (fun l => l.onto == i) with
        | none => rw [hlf] at hv; exact hv
        | some l =>
          rw [hlf] at hv
          have hlm := List.mem_of_find?_eq_some hlf
          have hp : PRow W F' L v l.row := Own.mono (keepOwn hv.1 (by decide)) hF
          exact ⟨PRow.put hp (fun m hm => ((ok.laid l hlm).1 m hm).1), hv.2⟩
  · by_cases e : i = st.nodes.length
    · subst e
      rw [new hx] at hdx ⊢
      have hdf : dir = false := hdx
      obtain ⟨f1, f2, hn⟩ := hnew
      rw [if_neg (by simp [hdf])] at hn
      refine ⟨⟨⟨_, by rw [nbN]; exact hn⟩, by rw [nbN]; exact f1⟩, ?_, ?_, ?_, ?_, ?_, ?_⟩
      · rw [nbN]; simp [World.cell?, hn, fileObj, newNd]
      · rw [nbN, inDir]; simp [World.cell?, hn, fileObj]
      · rw [nbN]; simp [World.cell?, hn, fileObj, newNd]
      · rw [nbN, if_pos rfl]; simp [World.cell?, hn, fileObj]
      · rw [nbN]; simp [World.cell?, hn, fileObj, newNd]
      · rw [if_pos rfl]
        exact Own.nil _ _ _ _
    · obtain ⟨hx, hi⟩ := old hx e
      have D := h.file i x hx hdx
      have hblk := keepBlk D.blk (by decide)
      have c : ∀ j, W.cell? ⟨L.nb i, j, none⟩ = w.cell? ⟨L.nb i, j, none⟩ := fun j => World.cell?_of_block hblk
      rw [if_neg e]
      refine ⟨by rw [Lay.nb_lt hi]; exact kb D.blk (by decide), ?_, ?_, ?_, ?_, ?_, Own.mono (keepOwn D.data (by decide)) hF⟩
      · rw [Lay.nb_lt hi, c]; exact D.c0
      · rw [Lay.nb_lt hi, c, inV_lt (ok.inn x (List.mem_of_getElem? hx))]; exact D.c1
      · rw [Lay.nb_lt hi, c]; exact D.c2
      · rw [Lay.nb_lt hi, c]; exact D.c3
      · rw [Lay.nb_lt hi, c]; exact D.c4
  · rw [hlen] at hi hj
    by_cases ei : i = st.nodes.length
    · by_cases ej : j = st.nodes.length
      · omega
      · rw [ei, nbN, Lay.nb_lt (by omega)] at hij
        have := nbL j (by omega)
        omega
    · by_cases ej : j = st.nodes.length
      · rw [ej, nbN, Lay.nb_lt (by omega)] at hij
        have := nbL i (by omega)
        omega
      · rw [Lay.nb_lt (by omega), Lay.nb_lt (by omega)] at hij
        exact h.nbInj i j (by omega) (by omega) hij
  · by_cases ei : i = st.nodes.length
    · by_cases ej : j = st.nodes.length
      · omega
      · obtain ⟨hy, hj⟩ := old hy ej
        rw [ei, mbN, Lay.mb_lt hj] at hij
        have := (h.dir j y hy hdy).map.lt
        omega
    · obtain ⟨hx, hi⟩ := old hx ei
      by_cases ej : j = st.nodes.length
      · rw [ej, mbN, Lay.mb_lt hi] at hij
        have := (h.dir i x hx hdx).map.lt
        omega
      · obtain ⟨hy, hj⟩ := old hy ej
        rw [Lay.mb_lt hi, Lay.mb_lt hj] at hij
        exact h.mbInj i j x y hx hy hdx hdy hij
  · by_cases ei : i = st.nodes.length
    · simp [ei, Value.ownBlock] at hk
    · obtain ⟨hx, hi⟩ := old hx ei
      rw [if_neg ei] at hk
      by_cases ej : j = st.nodes.length
      · simp [ej, Value.ownBlock]
      · obtain ⟨hy, hj⟩ := old hy ej
        rw [if_neg ej]
        exact h.bvApart i j x y k hx hy hdx hdy hne hk
end Go.Proofs.YtdmdgnghaceibaaGreat.P
/- The program's step, walk. -/
namespace Go.Proofs.YtdmdgnghaceibaaGreat.P
open M Go.ChangeShapes Go.WideShapes Go.ChangeAt Go.RowKit
set_option linter.unusedVariables false

theorem ifNilD (b : Nat) (w : World) : (binOp .eql 115 (.iface 87 (.pointer (some ⟨b, 0, none⟩))) .nilIface).run Tryz.prog w = .ok (.bool false) w := by kernel_rfl
theorem ifNilF (b : Nat) (w : World) : (binOp .eql 115 (.iface 122 (.pointer (some ⟨b, 0, none⟩))) .nilIface).run Tryz.prog w = .ok (.bool false) w := by kernel_rfl
theorem ifNilN (w : World) : (binOp .eql 115 .nilIface .nilIface).run Tryz.prog w = .ok (.bool true) w := by kernel_rfl

theorem lies_lt {st : St} {d : Nat} {name : ByteArray} {j : Nat} (h : lies st d name = some j) : j < st.nodes.length := by
  unfold lies at h
  rw [List.findIdx?_eq_some_iff_getElem] at h
  exact h.1
theorem seenIn_lt {st : St} {name : ByteArray} : ∀ {row : List Member} {j : Nat}, seenIn st name row = some j → j < st.nodes.length
  | [], j, h => by simp [seenIn] at h
  | m :: r, j, h => by
    unfold seenIn at h
    split at h
    · exact seenIn_lt h
    · split at h
      · rename_i n hn
        cases h
        exact lies_lt hn
      · exact seenIn_lt h

/-- How a step ends. -/
def Stepped (w : World) (F : Nat → Prop) (L : Lay) (x : Int × List Spot) (e : Ending) (w' : World) : Prop :=
  ∃ pv, e = .returned (.tuple #[pv, .int .i64 x.1]) ∧ Below w.heap.size w w' ∧ ((x.1 ≠ 0 ∧ pv = .pointer none) ∨ (x.1 = 0 ∧ ∃ p', pv = .pointer (some ⟨p', 0, none⟩) ∧ PlaceIs w' (ext F w w') L p' x.2.reverse))

theorem ext_refl {F : Nat → Prop} {w : World} : ∀ k, F k → ext F w w k := fun k h => .inl h

set_option maxRecDepth 20000 in
set_option maxHeartbeats 1000000 in
theorem step_any {w : World} {F : Nat → Prop} {t : Nat} {st : St} {L : Lay} {bv : Nat → Value} (p : Nat) (way : List Spot) (name : ByteArray) (h : TreeIs w F t st L bv) (hp : PlaceIs w F L p way.reverse) (hok : ∀ s ∈ way, s.n < st.nodes.length ∧ RowDirs st s.row) (hname : name.size ≤ maxLen) :
    Calls Tryz.prog 86 #[.pointer (some ⟨p, 0, none⟩), .string name] w fun e w' => Stepped w F L (wayStep st way name) e w' := by
  by_cases e1 : name.toList = [46]
  · have H := hide (show wayStep st way name = (0, way) by simp [wayStep, e1])
    have HP := hide hp
    clear hp h hok
    go_enter Tryz.func86, Tryz.ntmps86
    go_wp2
    go_ret2
    rw [H.out]
    exact ⟨_, rfl, Below.refl _ _, .inr ⟨rfl, p, rfl, HP.out.mono ext_refl⟩⟩
  · have f1 : (name.toList == [46]) = false := by simpa using e1
    obtain ⟨sp, hsp, c0, ⟨v, c1, hv⟩, hplt⟩ := place_last hp
    have hmem := List.mem_of_getLast? hsp
    by_cases e2 : name.toList = [46, 46]
    · have H := hide (show wayStep st way name = (0, if 1 < way.length then way.take (way.length - 1) else way) by unfold wayStep; rw [if_neg e1, if_pos e2])
      have HP := hide hp
      cases hw : way.reverse with
      | nil => rw [hw] at hp; exact absurd hp (by simp [PlaceIs])
      | cons s0 r =>
        rw [hw] at hp
        obtain ⟨hb, _, _, q, c2, hr⟩ := hp
        have hway : way = r.reverse ++ [s0] := by have := congrArg List.reverse hw; simpa using this
        have HR := hide (show PlaceIs w F L q (wayStep st way name).2.reverse by
          rw [H.out]
          simp only
          cases r with
          | nil =>
            have hr : q = p := hr
            rw [if_neg (by rw [hway]; simp), hr]
            exact HP.out
          | cons x r =>
            rw [if_pos (by rw [hway]; simp)]
            have : way.take (way.length - 1) = (x :: r).reverse := by
              rw [hway, List.length_append, List.length_singleton, Nat.add_sub_cancel]
              exact List.take_left
            rw [this, List.reverse_reverse]
            exact hr)
        have H0 := hide (show (wayStep st way name).1 = 0 by rw [H.out])
        clear hb hr h hok hv c0 c1 hsp hmem hw hway
        go_enter Tryz.func86, Tryz.ntmps86
        go_wp2
        go_ret2
        refine ⟨_, ?_, Below.refl _ _, .inr ⟨H0.out, q, rfl, HR.out.mono ext_refl⟩⟩
        rw [H0.out]
        rfl
    · have f2 : (name.toList == [46, 46]) = false := by simpa using e2
      obtain ⟨hin, hrd⟩ := hok sp hmem
      have e0 : wayStep st way name = (if isGone st sp.n then (4, way) else if M.isDir st sp.n then (match seenIn st name sp.row with | none => (7, way) | some c => (0, way ++ [M.come st c])) else (5, way) : Int × List Spot) := by
        unfold wayStep
        rw [if_neg e1, if_neg e2, hsp]
        rfl
      have HT := hide h
      have HP := hide hp
      have HV := hide hv
      clear hp h hok hv
      cases hg : isGone st sp.n with
      | true =>
        have H := hide (e0.trans (by rw [if_pos hg]))
        have hE : notDirE st sp.n = 4 := by simp [notDirE, hg]
        clear e0 hg
        go_enter Tryz.func86, Tryz.ntmps86
        go_wp2_with (go_at_call 54; refine (checkDirectory_any p sp.n HT.out hin c0).mono ?_; rintro e w' ⟨rfl, hw⟩; obtain rfl := hw.symm; rw [hE])
        go_ret2
        rw [H.out]
        exact ⟨_, rfl, Below.refl _ _, .inl ⟨by simp, rfl⟩⟩
      | false =>
        cases hd : isDir st sp.n with
        | false =>
          have H := hide (e0.trans (by rw [if_neg (by simp [hg]), if_neg (by simp [hd])]))
          have hE : notDirE st sp.n = 5 := by simp [notDirE, hg, hd]
          clear e0 hg hd
          go_enter Tryz.func86, Tryz.ntmps86
          go_wp2_with (go_at_call 54; refine (checkDirectory_any p sp.n HT.out hin c0).mono ?_; rintro e w' ⟨rfl, hw⟩; obtain rfl := hw.symm; rw [hE])
          go_ret2
          rw [H.out]
          exact ⟨_, rfl, Below.refl _ _, .inl ⟨by simp, rfl⟩⟩
        | true =>
          have hE : notDirE st sp.n = 0 := by simp [notDirE, hg, hd]
          have H1 := hide (e0.trans (by rw [if_neg (by simp [hg]), if_pos hd]))
          clear e0 hg hd
          obtain ⟨ao, vc, hvv⟩ := HV.out.form
          rw [List.length_map] at hvv
          subst hvv
          cases hs : seenIn st name sp.row with
          | none =>
            have H := hide (H1.out.trans (by rw [hs]))
            have q := ifNilN
            clear H1
            go_enter Tryz.func86, Tryz.ntmps86
            go_wp2_with (first | (go_at_call 54; refine (checkDirectory_any p sp.n HT.out hin c0).mono ?_; rintro e w' ⟨rfl, hw⟩; obtain rfl := hw.symm; rw [hE]) | (go_at_call 88; refine (find_any sp.row name _ HT.out HV.out hrd hname).mono ?_; rintro e w2 ⟨rfl, hb⟩; rw [hs]; unfold foundV; have HB := hide hb; clear hb))
            go_ret2
            rw [H.out]
            exact ⟨_, rfl, HB.out, .inl ⟨by simp, rfl⟩⟩
          | some j =>
            have H := hide (H1.out.trans (by rw [hs]))
            have hj := seenIn_lt hs
            have q1 := ifNilD
            have q2 := ifNilF
            clear H1
            have HC := hide (show ∀ (W : World), Below w.heap.size w W → Calls Tryz.prog 46 #[nodeV L j, .pointer (some ⟨p, 0, none⟩)] W (fun e w' => Came W F L (come st j) (some p) e w') from
              fun W hW => come_any (HT.out.kept (KeepX.below hW)) j hj (some p))
            rcases nodeV_cases L j with e | e
            all_goals
              rw [e] at HC
              go_enter Tryz.func86, Tryz.ntmps86
              go_wp2_with (first | (go_at_call 54; refine (checkDirectory_any p sp.n HT.out hin c0).mono ?_; rintro e w' ⟨rfl, hw⟩; obtain rfl := hw.symm; rw [hE]) | (go_at_call 88; refine (find_any sp.row name _ HT.out HV.out hrd hname).mono ?_; rintro e' w2 ⟨rfl, hb⟩; rw [hs]; unfold foundV; simp only [e]; have HB := hide hb; clear hb) | (go_at_call 46; refine (HC.out _ HB.out).mono ?_; rintro e' w3 hc; have HCm := hide hc; obtain ⟨v', rfl, hc⟩ := hc; clear hc))
              go_ret2
              rw [H.out]
              have hCm := HCm.out
              have hpl := hCm.place (r := way.reverse) (HP.out.kept (KeepX.below (T := fun _ => True) (M := True) HB.out) trivial trivial)
              obtain ⟨v', _, hb3, _⟩ := hCm
              refine ⟨_, rfl, HB.out.trans (hb3.mono HB.out.size), .inr ⟨rfl, _, rfl, ?_⟩⟩
              rw [List.reverse_append]
              exact PlaceIs.mono (ext_le HB.out.size (Nat.le_refl _)) hpl
end Go.Proofs.YtdmdgnghaceibaaGreat.P
/- The program's tree.create. -/
namespace Go.Proofs.YtdmdgnghaceibaaGreat.P
open M Go.ChangeShapes Go.WideShapes Go.ChangeAt Go.RowKit
set_option linter.unusedVariables false

theorem ifNotD (b : Nat) (w : World) : (binOp .neq 115 (.iface 87 (.pointer (some ⟨b, 0, none⟩))) .nilIface).run Tryz.prog w = .ok (.bool true) w := by kernel_rfl
theorem ifNotF (b : Nat) (w : World) : (binOp .neq 115 (.iface 122 (.pointer (some ⟨b, 0, none⟩))) .nilIface).run Tryz.prog w = .ok (.bool true) w := by kernel_rfl
theorem ifNotN (w : World) : (binOp .neq 115 .nilIface .nilIface).run Tryz.prog w = .ok (.bool false) w := by kernel_rfl

/-- What keeps an entry from being made at a spot. -/
def createE (st : St) (sp : Spot) (name : ByteArray) : Int :=
  if isGone st sp.n then 4 else if isDir st sp.n then
    (if isName name then (match seenIn st name sp.row with
      | some _ => 8
      | none => match makerOf st sp.row with
        | none => 9
        | some _ => if 100 ≤ liveNodes st.nodes then 11 else 0) else 6) else 5

section
variable {w : World} {F : Nat → Prop} {t : Nat} {st : St} {L : Lay} {bv : Nat → Value}

set_option maxRecDepth 20000 in
set_option maxHeartbeats 1000000 in
theorem create_err (p : Nat) (way : List Spot) (sp : Spot) (hsp : way.getLast? = some sp) (name : ByteArray) (dir : Bool) (h : TreeIs w F t st L bv) (hp : PlaceIs w F L p way.reverse) (hok : sp.n < st.nodes.length ∧ RowDirs st sp.row) (hname : name.size ≤ maxLen) (hlive : liveNodes st.nodes ≤ 1000000000) (he : createE st sp name ≠ 0) :
    Calls Tryz.prog 49 #[.pointer (some ⟨t, 0, none⟩), .pointer (some ⟨p, 0, none⟩), .string name, .bool dir] w fun e w' => e = .returned (.tuple #[.pointer none, .int .i64 (createE st sp name)]) ∧ Below w.heap.size w w' := by
  have hnot : ∀ (x : Bool) (w : World), (Op.unary .not (.bool x)).run Tryz.prog w = .ok (.bool (!x)) w := fun _ _ => rfl
  obtain ⟨sp', hsp', c0, ⟨v, c1, hv⟩, hplt⟩ := place_last hp
  rw [hsp] at hsp'
  cases hsp'
  obtain ⟨ao, vc, hvv⟩ := hv.form
  rw [List.length_map] at hvv
  subst hvv
  obtain ⟨hin, hrd⟩ := hok
  have HT := hide h
  have HV := hide hv
  have HE := hide he
  have htlt := h.blk.lt
  clear hv h hp he hsp
  cases hg : isGone st sp.n with
  | true =>
    have H := hide (show createE st sp name = 4 by simp [createE, hg])
    have hE : notDirE st sp.n = 4 := by simp [notDirE, hg]
    clear hg
    go_enter Tryz.func49, Tryz.ntmps49
    go_wp2_with (go_at_call 54; refine (checkDirectory_any p sp.n HT.out hin c0).mono ?_; rintro e w' ⟨rfl, hw⟩; obtain rfl := hw.symm; rw [hE])
    go_ret2
    exact ⟨by rw [H.out]; rfl, Below.refl _ _⟩
  | false =>
    cases hd : isDir st sp.n with
    | false =>
      have H := hide (show createE st sp name = 5 by simp [createE, hg, hd])
      have hE : notDirE st sp.n = 5 := by simp [notDirE, hg, hd]
      clear hg hd
      go_enter Tryz.func49, Tryz.ntmps49
      go_wp2_with (go_at_call 54; refine (checkDirectory_any p sp.n HT.out hin c0).mono ?_; rintro e w' ⟨rfl, hw⟩; obtain rfl := hw.symm; rw [hE])
      go_ret2
      exact ⟨by rw [H.out]; rfl, Below.refl _ _⟩
    | true =>
      have hE : notDirE st sp.n = 0 := by simp [notDirE, hg, hd]
      cases hnm : isName name with
      | false =>
        have H := hide (show createE st sp name = 6 by simp [createE, hg, hd, hnm])
        clear hg hd
        go_enter Tryz.func49, Tryz.ntmps49
        go_wp2_with (first | (go_at_call 54; refine (checkDirectory_any p sp.n HT.out hin c0).mono ?_; rintro e w' ⟨rfl, hw⟩; obtain rfl := hw.symm; rw [hE]) | (go_at_call 87; refine (isName_any name _ hname).mono ?_; rintro e w' ⟨rfl, hw⟩; obtain rfl := hw.symm; rw [hnm]))
        go_ret2
        exact ⟨by rw [H.out]; rfl, Below.refl _ _⟩
      | true =>
        cases hs : seenIn st name sp.row with
        | some j =>
          have H := hide (show createE st sp name = 8 by simp [createE, hg, hd, hnm, hs])
          have q1 := ifNotD
          have q2 := ifNotF
          clear hg hd
          rcases nodeV_cases L j with e | e
          all_goals
            go_enter Tryz.func49, Tryz.ntmps49
            go_wp2_with (first | (go_at_call 54; refine (checkDirectory_any p sp.n HT.out hin c0).mono ?_; rintro e w' ⟨rfl, hw⟩; obtain rfl := hw.symm; rw [hE]) | (go_at_call 87; refine (isName_any name _ hname).mono ?_; rintro e w' ⟨rfl, hw⟩; obtain rfl := hw.symm; rw [hnm]) | (go_at_call 88; refine (find_any sp.row name _ HT.out HV.out hrd hname).mono ?_; rintro e' w2 ⟨rfl, hb⟩; rw [hs]; unfold foundV; simp only [e]; have HB := hide hb; clear hb))
            go_ret2
            exact ⟨by rw [H.out]; rfl, HB.out⟩
        | none =>
          have q3 := ifNotN
          cases hmk : makerOf st sp.row with
          | none =>
            have H := hide (show createE st sp name = 9 by simp [createE, hg, hd, hnm, hs, hmk])
            clear hg hd
            go_enter Tryz.func49, Tryz.ntmps49
            go_wp2_with (first | (go_at_call 54; refine (checkDirectory_any p sp.n HT.out hin c0).mono ?_; rintro e w' ⟨rfl, hw⟩; obtain rfl := hw.symm; rw [hE]) | (go_at_call 87; refine (isName_any name _ hname).mono ?_; rintro e w' ⟨rfl, hw⟩; obtain rfl := hw.symm; rw [hnm]) | (go_at_call 88; refine (find_any sp.row name _ HT.out HV.out hrd hname).mono ?_; rintro e' w2 ⟨rfl, hb⟩; rw [hs]; unfold foundV; have c1' := (hb.cell (p := ⟨p, 1, none⟩) hplt).trans c1; have HB := hide hb; clear hb) | (go_at_call 89; refine (maker_any sp.row _ (HT.out.kept (KeepX.below HB.out)) (HV.out.kept (KeepX.below (T := fun _ => True) (M := True) HB.out) trivial) hrd).mono ?_; rintro e' w3 ⟨rfl, hb3⟩; rw [hmk]; unfold makerV; have HB3 := hide hb3; clear hb3))
            go_ret2
            exact ⟨by rw [H.out]; rfl, HB.out.trans (HB3.out.mono HB.out.size)⟩
          | some m =>
            have h100 : 100 ≤ liveNodes st.nodes := by
              cases Nat.lt_or_ge (liveNodes st.nodes) 100 with
              | inr h => exact h
              | inl h => exact absurd (by simp [createE, hg, hd, hnm, hs, hmk]; omega) HE.out
            have H := hide (show createE st sp name = 11 by simp [createE, hg, hd, hnm, hs, hmk, h100])
            have h100' : (100 : Int) ≤ (liveNodes st.nodes : Int) := by omega
            have t1 := HT.out.c1
            clear hg hd h100
            go_enter Tryz.func49, Tryz.ntmps49
            go_wp2_with (first | (go_at_call 54; refine (checkDirectory_any p sp.n HT.out hin c0).mono ?_; rintro e w' ⟨rfl, hw⟩; obtain rfl := hw.symm; rw [hE]) | (go_at_call 87; refine (isName_any name _ hname).mono ?_; rintro e w' ⟨rfl, hw⟩; obtain rfl := hw.symm; rw [hnm]) | (go_at_call 88; refine (find_any sp.row name _ HT.out HV.out hrd hname).mono ?_; rintro e' w2 ⟨rfl, hb⟩; rw [hs]; unfold foundV; have c1' := (hb.cell (p := ⟨p, 1, none⟩) hplt).trans c1; have HB := hide hb; clear hb) | (go_at_call 89; refine (maker_any sp.row _ (HT.out.kept (KeepX.below HB.out)) (HV.out.kept (KeepX.below (T := fun _ => True) (M := True) HB.out) trivial) hrd).mono ?_; rintro e' w3 ⟨rfl, hb3⟩; rw [hmk]; unfold makerV dirPtr; have t1' : w3.cell? ⟨t, 1, none⟩ = some (.int .i64 (liveNodes st.nodes)) := ((HB.out.trans (hb3.mono HB.out.size)).cell (p := ⟨t, 1, none⟩) htlt).trans t1; have HB3 := hide hb3; clear hb3))
            go_ret2
            exact ⟨by rw [H.out]; rfl, HB.out.trans (HB3.out.mono HB.out.size)⟩
end
end Go.Proofs.YtdmdgnghaceibaaGreat.P
/- The program's tree.create, where an entry is made. -/
namespace Go.Proofs.YtdmdgnghaceibaaGreat.P
open M Go.ChangeShapes Go.WideShapes Go.ChangeAt Go.RowKit
set_option linter.unusedVariables false

theorem createE_zero {st : St} {sp : Spot} {name : ByteArray} (h : createE st sp name = 0) : isGone st sp.n = false ∧ isDir st sp.n = true ∧ isName name = true ∧ seenIn st name sp.row = none ∧ (∃ m, makerOf st sp.row = some m) ∧ liveNodes st.nodes < 100 := by
  unfold createE at h
  split at h
  · exact absurd h (by decide)
  · rename_i hg
    split at h
    · rename_i hd
      split at h
      · rename_i hn
        split at h
        · exact absurd h (by decide)
        · rename_i hs
          split at h
          · exact absurd h (by decide)
          · rename_i m hm
            split at h
            · exact absurd h (by decide)
            · rename_i hl
              exact ⟨by simpa using hg, hd, hn, hs, ⟨m, hm⟩, by omega⟩
      · exact absurd h (by decide)
    · exact absurd h (by decide)

theorem makerOf_mem {st : St} : ∀ {row : List Member} {m : Member}, makerOf st row = some m → m ∈ row ∧ isGone st m.d = false
  | [], m, h => by simp [makerOf] at h
  | a :: r, m, h => by
    unfold makerOf at h
    split at h
    · obtain ⟨h1, h2⟩ := makerOf_mem h
      exact ⟨by simp [h1], h2⟩
    · rename_i hg
      split at h
      · cases h
        exact ⟨by simp, by simpa using hg⟩
      · obtain ⟨h1, h2⟩ := makerOf_mem h
        exact ⟨by simp [h1], h2⟩

theorem seenIn_none {st : St} {name : ByteArray} : ∀ {row : List Member}, seenIn st name row = none → ∀ m ∈ row, isGone st m.d = false → lies st m.d name = none
  | [], _, m, hm, _ => by simp at hm
  | a :: r, h, m, hm, hg => by
    unfold seenIn at h
    split at h
    · rename_i ha
      rcases List.mem_cons.1 hm with rfl | hm
      · rw [hg] at ha; exact absurd ha (by simp)
      · exact seenIn_none h m hm hg
    · split at h
      · exact absurd h (by simp)
      · rename_i hl
        rcases List.mem_cons.1 hm with rfl | hm
        · exact hl
        · exact seenIn_none h m hm hg

/-- The numbers of a way's spots and rows are nodes'. -/
def WayLt (st : St) (way : List Spot) : Prop := ∀ s ∈ way, s.n < st.nodes.length ∧ ∀ m ∈ s.row, m.d < st.nodes.length

/-- How 'create' ends where it makes an entry: the tree has a node more, all that is no tree's block is as it was, the place of the new node. -/
def Created (w : World) (F : Nat → Prop) (t : Nat) (st : St) (L : Lay) (way : List Spot) (name : ByteArray) (dir : Bool) (d : Nat) (e : Ending) (w' : World) : Prop :=
  ∃ nb mb p' bv', e = .returned (.tuple #[.pointer (some ⟨p', 0, none⟩), .int .i64 0]) ∧ TreeIs w' (ext F w w') t (withNode st (newNd name dir d)) (L.put st.nodes.length nb mb dir) bv' ∧ KeepX (fun e => e ≠ 89) False F w w' ∧ Ext F w w' ∧
    PlaceIs w' (ext F w w') (L.put st.nodes.length nb mb dir) p' (come (withNode st (newNd name dir d)) st.nodes.length :: way.reverse)

theorem turned_keep {T : TypeId → Prop} {F : Nat → Prop} {w w1 w2 : World} {mb : Nat} (h : KeepX T False F w w1) (ht : w1.mapTurned w2 mb) : KeepX T False F w w2 :=
  ⟨fun b cur e hF hb hT => by
    have e1 := h.cells b cur e hF hb hT
    obtain ⟨es, c, es', c', hm, rfl⟩ := ht
    by_cases heq : b = mb
    · subst heq
      rw [e1, hb] at hm
      cases hm
    · exact (Go.ChangeMaps.heap_setBlock_other hm _ heq).trans e1, fun h => h.elim⟩

theorem turned_ext {F : Nat → Prop} {w w1 w2 : World} {mb : Nat} (h : Ext F w w1) (ht : w1.mapTurned w2 mb) (hmb : F mb) : Ext F w w2 := by
  obtain ⟨es, c, es', c', hm, rfl⟩ := ht
  exact ⟨h.os, h.tape, h.output, by simpa [Go.ChangeMaps.setBlock] using h.size, fun k hk hF => (Go.ChangeMaps.heap_setBlock_other hm _ (fun e => hF (by rw [e]; exact hmb))).trans (h.block k hk hF)⟩

theorem turned_ty {w w2 : World} {mb b : Nat} {e : TypeId} (h : Ty w b e) (ht : w.mapTurned w2 mb) : Ty w2 b e := by
  obtain ⟨es, c, es', c', hm, rfl⟩ := ht
  have hne := Ty.ne_map h hm
  obtain ⟨cur, hb⟩ := h
  exact ⟨cur, (Go.ChangeMaps.heap_setBlock_other hm _ hne).trans hb⟩

theorem turned_heap {w w2 : World} {mb b : Nat} (ht : w.mapTurned w2 mb) (hb : b ≠ mb) : w2.heap[b]? = w.heap[b]? := by
  obtain ⟨es, c, es', c', hm, rfl⟩ := ht
  exact Go.ChangeMaps.heap_setBlock_other hm _ hb

theorem turned_size {w w2 : World} {mb : Nat} (ht : w.mapTurned w2 mb) : w2.heap.size = w.heap.size := by
  obtain ⟨es, c, es', c', hm, rfl⟩ := ht
  simp [Go.ChangeMaps.setBlock]

theorem KeepX.below' {T : TypeId → Prop} {F : Nat → Prop} {w w1 w2 : World} (hs : w.heap.size ≤ w1.heap.size) (hb : Below w1.heap.size w1 w2) : KeepX T False F w1 w2 := KeepX.below hb

section
variable {w : World} {F : Nat → Prop} {t : Nat} {st : St} {L : Lay} {bv : Nat → Value}

/-- All that 'create' did ahead of the new place: the tree is the tree with a node more. -/
theorem grown_close {w2 w3 w4' : World} {way : List Spot} {p nb mb : Nat} {name : ByteArray} {dir : Bool} {m : Member} (h : TreeIs w F t st L bv) (ok : POk st) (hd : m.d < st.nodes.length) (hdir : M.isDir st m.d = true) (hl : lies st m.d name = none) (hp : PlaceIs w F L p way.reverse) (hway : WayLt st way)
    (hb : Below w.heap.size w w2) (h23 : Below w2.heap.size w2 w3) (hnb : w.heap.size ≤ nb) (hmb : w.heap.size ≤ mb) (hnbl : nb < w3.heap.size) (hmbl : mb < w3.heap.size) (hnew : NewIs w3 (fun _ => True) nb mb name dir (L.nb m.d))
    (hm4 : MapIs w4' (L.mb m.d) (st.nodes.length + 1) (fun s => if s = name then some (nodeV (L.put st.nodes.length nb mb dir) st.nodes.length) else (lies st m.d s).map (nodeV L))) (ht4 : w3.drew.mapTurned w4' (L.mb m.d)) :
    let w4 := w4'.setCell ⟨t, 1, none⟩ (.int .i64 ((liveNodes st.nodes : Int) + 1))
    TreeIs w4 (ext F w w4) t (withNode st (newNd name dir m.d)) (L.put st.nodes.length nb mb dir) (fun i => if i = st.nodes.length then .slice none 0 0 else bv i) ∧
      KeepX (fun e => e ≠ 89) False F w w4 ∧ Ext F w w4 ∧ PlaceIs w4 (ext F w w4) (L.put st.nodes.length nb mb dir) p way.reverse := by
  intro w4
  obtain ⟨x, hx, D, _, _⟩ := h.member hd hdir
  have hB : Below w.heap.size w w3 := hb.trans (h23.mono hb.size)
  have hBd : Below w.heap.size w w3.drew := hB.drew
  have k3 : KeepX (fun e => e ≠ 89) False F w w3.drew := KeepX.below hBd
  have k4' := turned_keep k3 ht4
  have x3 : Ext F w w3.drew := Ext.below hBd
  have x4' := turned_ext x3 ht4 D.mapF
  have tT3 : Ty w3.drew t 89 := h.blk.ty.below hBd h.blk.lt
  have tT4 := turned_ty tT3 ht4
  have k4 : KeepX (fun e => e ≠ 89) False F w w4 := k4'.setTy (a := ⟨t, 1, none⟩) tT4 (by simp) _
  have x4 : Ext F w w4 := x4'.setCell (a := ⟨t, 1, none⟩) (.inl h.blk.own) _
  have z4' : w4'.heap.size = w3.heap.size := (turned_size ht4 : w4'.heap.size = w3.drew.heap.size)
  have z4 : w4.heap.size = w3.heap.size := by simp [w4, z4']
  have cellt : ∀ j, w4'.cell? ⟨t, j, none⟩ = w.cell? ⟨t, j, none⟩ := fun j => (turned_cell ht4 _).trans (hBd.cell (p := ⟨t, j, none⟩) h.blk.lt)
  have hnbm : nb ≠ L.mb m.d := by have := D.map.lt; omega
  have hmbm : mb ≠ L.mb m.d := by have := D.map.lt; omega
  have htl := h.blk.lt
  have new4 : ∀ b, w.heap.size ≤ b → b ≠ L.mb m.d → w4.heap[b]? = w3.heap[b]? := fun b hb hne => by
    refine (Below.heap_setCell w4' ⟨t, 1, none⟩ _ b (by show b ≠ t; omega)).trans ?_
    exact (turned_heap ht4 hne : w4'.heap[b]? = w3.drew.heap[b]?)
  refine ⟨?_, k4, x4, ?_⟩
  · refine h.grow ok hd hdir hl (fun k hk => .inl hk) (fun b hF hbt hbm hbl => ?_) (tT4.setCell _ _) ?_ ?_ ?_ hnb hmb ?_
    · refine (Below.heap_setCell w4' ⟨t, 1, none⟩ _ b hbt).trans ?_
      exact (turned_heap ht4 hbm).trans (hBd.block b hbl)
    · exact (cell_other _ _ _ _ _ (by decide)).trans (cellt 0)
    · exact cell_same _ _ _ _ _ ((cellt 1).trans h.c1)
    · refine hm4.kept ?_
      refine Below.heap_setCell w4' ⟨t, 1, none⟩ _ _ ?_
      obtain ⟨es, cl, hmm⟩ := D.map.blk
      exact Ne.symm (Ty.ne_map h.blk.ty hmm)
    · obtain ⟨_, _, hn⟩ := hnew
      refine ⟨.inr ⟨hnb, by omega⟩, .inr ⟨hmb, by omega⟩, ?_⟩
      split
      · rename_i hdr
        rw [if_pos hdr] at hn
        exact ⟨(new4 nb hnb hnbm).trans hn.1, (new4 mb hmb hmbm).trans hn.2⟩
      · rename_i hdr
        rw [if_neg hdr] at hn
        exact (new4 nb hnb hnbm).trans hn
  · refine PlaceIs.put ?_ (fun s hs => hway s (by simpa using hs))
    exact PlaceIs.mono (fun k hk => .inl hk) (hp.kept k4 (by decide) (by decide))

set_option maxRecDepth 20000 in
set_option maxHeartbeats 2000000 in
theorem create_ok (p : Nat) (way : List Spot) (sp : Spot) (hsp : way.getLast? = some sp) (name : ByteArray) (dir : Bool) (m : Member) (h : TreeIs w F t st L bv) (ok : POk st) (hp : PlaceIs w F L p way.reverse) (hok : sp.n < st.nodes.length ∧ RowDirs st sp.row) (hway : WayLt st way) (hname : name.size ≤ maxLen) (hnod : st.nodes.length < maxLen) (he : createE st sp name = 0) (hmk : makerOf st sp.row = some m) :
    Calls Tryz.prog 49 #[.pointer (some ⟨t, 0, none⟩), .pointer (some ⟨p, 0, none⟩), .string name, .bool dir] w fun e w' => Created w F t st L way name dir m.d e w' := by
  have hnot : ∀ (x : Bool) (w : World), (Op.unary .not (.bool x)).run Tryz.prog w = .ok (.bool (!x)) w := fun _ _ => rfl
  obtain ⟨hg, hd, hnm, hs, _, hlive⟩ := createE_zero he
  obtain ⟨sp', hsp', c0, ⟨v, c1, hv⟩, hplt⟩ := place_last hp
  rw [hsp] at hsp'
  cases hsp'
  obtain ⟨ao, vc, hvv⟩ := hv.form
  rw [List.length_map] at hvv
  subst hvv
  obtain ⟨hin, hrd⟩ := hok
  obtain ⟨hmem, hmg⟩ := makerOf_mem hmk
  obtain ⟨hmd, hmdir⟩ := hrd m hmem
  have hlies := seenIn_none hs m hmem hmg
  have hE : notDirE st sp.n = 0 := by simp [notDirE, hg, hd]
  obtain ⟨xd, hxd, D, _, hdlt⟩ := h.member hmd hmdir
  have t1 := h.c1
  have htlt := h.blk.lt
  have tfz := h.blk.fz 1
  have d3 := D.c3
  have hlim : name.size ≤ 281474976710656 := by
    have : ¬ badText name = true := by
      intro hb
      simp [isName, hb] at hnm
    simp only [badText, decide_eq_true_eq, not_or] at this
    omega
  have h100 : ¬ (100 : Int) ≤ (liveNodes st.nodes : Int) := by omega
  have h100' : decide ((100 : Int) ≤ (liveNodes st.nodes : Int)) = false := by simpa using h100
  have q3 := ifNotN
  have HT := hide h
  have HV := hide hv
  have HP := hide hp
  have HD := hide D
  have Hok := hide ok
  have Hl := hide hlies
  have Hw := hide hway
  have Hmk := hide hmk
  have Hs := hide hs
  clear hv h hp he hsp hg hd D ok hlies hway hxd hmem hmg
  go_enter Tryz.func49, Tryz.ntmps49
  go_wp2_with (first | (go_at_call 54; refine (checkDirectory_any p sp.n HT.out hin c0).mono ?_; rintro e w' ⟨rfl, hw⟩; obtain rfl := hw.symm; rw [hE]) | (go_at_call 87; refine (isName_any name _ hname).mono ?_; rintro e w' ⟨rfl, hw⟩; obtain rfl := hw.symm; rw [hnm]) | (go_at_call 88; refine (find_any sp.row name _ HT.out HV.out hrd hname).mono ?_; rintro e' w2 ⟨rfl, hb⟩; rw [Hs.out]; unfold foundV; have c1' := (hb.cell (p := ⟨p, 1, none⟩) hplt).trans c1; have HB := hide hb; clear hb) | (go_at_call 89; refine (maker_any sp.row _ (HT.out.kept (KeepX.below HB.out)) (HV.out.kept (KeepX.below (T := fun _ => True) (M := True) HB.out) trivial) hrd).mono ?_; rintro e' w3 ⟨rfl, hb3⟩; rw [Hmk.out]; unfold makerV dirPtr; have t1' : w3.cell? ⟨t, 1, none⟩ = some (.int .i64 (liveNodes st.nodes)) := ((HB.out.trans (hb3.mono HB.out.size)).cell (p := ⟨t, 1, none⟩) htlt).trans t1; have HB3 := hide (HB.out.trans (hb3.mono HB.out.size)); clear hb3))
  cases dir with
  | true =>
    refine (newNode_dir name (L.nb m.d) w3 hlim).mono ?_
    rintro e w' ⟨w5, hb5, rfl, hw'⟩
    unfold dirI
    obtain ⟨W, hW⟩ : ∃ W, W = (w5.alloc (.map #[] 0)).alloc (dirObj name (.pointer (some ⟨L.nb m.d, 0, none⟩)) w5.heap.size) := ⟨_, rfl⟩
    rw [← hW] at hw'
    obtain rfl := hw'.symm
    have hb3W : Below w3.heap.size w3 W := by rw [hW]; exact (hb5.alloc hb5.size _).alloc (by have := hb5.size; simp; omega) _
    have hbW : Below w.heap.size w W := HB3.out.trans (hb3W.mono HB3.out.size)
    have hblk : W.heap[w5.heap.size + 1]? = some (dirObj name (.pointer (some ⟨L.nb m.d, 0, none⟩)) w5.heap.size) := by
      have := heap_alloc_new (w5.alloc (.map #[] 0)) (dirObj name (.pointer (some ⟨L.nb m.d, 0, none⟩)) w5.heap.size)
      rw [show (w5.alloc (.map #[] 0)).heap.size = w5.heap.size + 1 by simp] at this
      rw [hW]
      exact this
    have hmblk : W.heap[w5.heap.size]? = some (.map #[] 0) := by
      rw [hW]
      exact (Below.heap_alloc _ _ _ (by simp)).trans (heap_alloc_new w5 _)
    have hWz : W.heap.size = w5.heap.size + 2 := by rw [hW]; simp
    have z3 := HB3.out.size
    have z5 := hb5.size
    have b0 : W.cell? ⟨(w5.heap.size + 1), 0, none⟩ = some (.string name) := by simp [World.cell?, hblk, dirObj]
    have b1 : W.cell? ⟨(w5.heap.size + 1), 1, none⟩ = some (.pointer (some ⟨L.nb m.d, 0, none⟩)) := by simp [World.cell?, hblk, dirObj]
    have d3W : W.cell? ⟨L.nb m.d, 3, none⟩ = some (.map (some (L.mb m.d))) := (hbW.cell (p := ⟨L.nb m.d, 3, none⟩) hdlt).trans d3
    have t1W : W.cell? ⟨t, 1, none⟩ = some (.int .i64 (liveNodes st.nodes)) := (hbW.cell (p := ⟨t, 1, none⟩) htlt).trans t1
    have tzW : W.frozen? ⟨t, 1, none⟩ = false := (hbW.frozen (p := ⟨t, 1, none⟩) htlt).trans tfz
    have hmW : MapIs W (L.mb m.d) st.nodes.length (fun s => (lies st m.d s).map (nodeV L)) := HD.out.map.kept (hbW.block _ HD.out.map.lt)
    have HAdd := hide (add_dir (b := (w5.heap.size + 1)) hname hnod (show 0 ≤ (liveNodes st.nodes : Int) ∧ (liveNodes st.nodes : Int) < 1000 by omega) b0 b1 d3W t1W tzW hmW)
    have HC := hide (show ∀ w4', MapIs w4' (L.mb m.d) (st.nodes.length + 1) (fun s => if s = name then some (.iface 87 (.pointer (some ⟨(w5.heap.size + 1), 0, none⟩))) else (lies st m.d s).map (nodeV L)) → W.drew.mapTurned w4' (L.mb m.d) → _ from fun w4' hm4 ht4 =>
      grown_close (nb := (w5.heap.size + 1)) (mb := w5.heap.size) (dir := true) HT.out Hok.out hmd hmdir Hl.out HP.out Hw.out HB3.out hb3W (by omega) (by omega) (by omega) (by omega) ⟨trivial, trivial, by rw [if_pos rfl]; exact ⟨hblk, hmblk⟩⟩ (by
        have e : nodeV (L.put st.nodes.length (w5.heap.size + 1) w5.heap.size true) st.nodes.length = .iface 87 (.pointer (some ⟨(w5.heap.size + 1), 0, none⟩)) := by simp [nodeV, Lay.put, nodeT]
        rw [e]
        exact hm4) ht4)
    clear b0 b1 d3W t1W tzW hmW hbW hb3W hblk hW
    go_wp2_with fail
    refine HAdd.out.mono ?_
    rintro e w4 ⟨w4', rfl, hm4, ht4, hw4⟩
    have hcl := HC.out w4' hm4 ht4
    rw [← hw4] at hcl
    have Hcl := hide hcl
    have HCome := hide (show Calls Tryz.prog 46 #[.iface 87 (.pointer (some ⟨(w5.heap.size + 1), 0, none⟩)), .pointer (some ⟨p, 0, none⟩)] w4 (fun e w' => Came w4 (ext F w w4) (L.put st.nodes.length (w5.heap.size + 1) w5.heap.size true) (come (withNode st (newNd name true m.d)) st.nodes.length) (some p) e w') from by
      have := come_any Hcl.out.1 st.nodes.length (by simp [withNode]) (some p)
      have e : nodeV (L.put st.nodes.length (w5.heap.size + 1) w5.heap.size true) st.nodes.length = .iface 87 (.pointer (some ⟨(w5.heap.size + 1), 0, none⟩)) := by simp [nodeV, Lay.put, nodeT]
      rw [e] at this
      exact this)
    clear hcl hm4 ht4 hw4
    go_wp2_with fail
    refine HCome.out.mono ?_
    rintro e w6 hc
    have HCm := hide hc
    obtain ⟨v', rfl, hc⟩ := hc
    clear hc
    go_wp2
    go_ret2
    obtain ⟨hT4, k4, x4, hp4⟩ := Hcl.out
    have hpl := HCm.out.place (r := way.reverse) hp4
    obtain ⟨v', _, hb6, _⟩ := HCm.out
    have hE6 : ∀ j, ext (ext F w w4) w4 w6 j → ext F w w6 j := ext_trans x4.size hb6.size
    refine ⟨(w5.heap.size + 1), w5.heap.size, w4.heap.size, _, rfl, (hT4.kept (KeepX.below hb6)).mono (fun j hj => hE6 j (.inl hj)), k4.trans (KeepX.below' x4.size hb6), x4.trans' (Ext.below hb6), PlaceIs.mono hE6 hpl⟩
  | false =>
    refine (newNode_file name (L.nb m.d) w3 hlim).mono ?_
    rintro e w' ⟨w5, hb5, rfl, hw'⟩
    unfold fileI
    obtain ⟨W, hW⟩ : ∃ W, W = w5.alloc (fileObj name (.pointer (some ⟨L.nb m.d, 0, none⟩))) := ⟨_, rfl⟩
    rw [← hW] at hw'
    obtain rfl := hw'.symm
    have hb3W : Below w3.heap.size w3 W := by rw [hW]; exact hb5.alloc hb5.size _
    have hbW : Below w.heap.size w W := HB3.out.trans (hb3W.mono HB3.out.size)
    have hblk : W.heap[w5.heap.size]? = some (fileObj name (.pointer (some ⟨L.nb m.d, 0, none⟩))) := by
      rw [hW]
      exact heap_alloc_new w5 _
    have hWz : W.heap.size = w5.heap.size + 1 := by rw [hW]; simp
    have z3 := HB3.out.size
    have z5 := hb5.size
    have b0 : W.cell? ⟨w5.heap.size, 0, none⟩ = some (.string name) := by simp [World.cell?, hblk, fileObj]
    have b1 : W.cell? ⟨w5.heap.size, 1, none⟩ = some (.pointer (some ⟨L.nb m.d, 0, none⟩)) := by simp [World.cell?, hblk, fileObj]
    have d3W : W.cell? ⟨L.nb m.d, 3, none⟩ = some (.map (some (L.mb m.d))) := (hbW.cell (p := ⟨L.nb m.d, 3, none⟩) hdlt).trans d3
    have t1W : W.cell? ⟨t, 1, none⟩ = some (.int .i64 (liveNodes st.nodes)) := (hbW.cell (p := ⟨t, 1, none⟩) htlt).trans t1
    have tzW : W.frozen? ⟨t, 1, none⟩ = false := (hbW.frozen (p := ⟨t, 1, none⟩) htlt).trans tfz
    have hmW : MapIs W (L.mb m.d) st.nodes.length (fun s => (lies st m.d s).map (nodeV L)) := HD.out.map.kept (hbW.block _ HD.out.map.lt)
    have HAdd := hide (add_file (b := w5.heap.size) hname hnod (show 0 ≤ (liveNodes st.nodes : Int) ∧ (liveNodes st.nodes : Int) < 1000 by omega) b0 b1 d3W t1W tzW hmW)
    have HC := hide (show ∀ w4', MapIs w4' (L.mb m.d) (st.nodes.length + 1) (fun s => if s = name then some (.iface 122 (.pointer (some ⟨w5.heap.size, 0, none⟩))) else (lies st m.d s).map (nodeV L)) → W.drew.mapTurned w4' (L.mb m.d) → _ from fun w4' hm4 ht4 =>
      grown_close (nb := w5.heap.size) (mb := w5.heap.size) (dir := false) HT.out Hok.out hmd hmdir Hl.out HP.out Hw.out HB3.out hb3W (by omega) (by omega) (by omega) (by omega) ⟨trivial, trivial, by rw [if_neg (by simp)]; exact hblk⟩ (by
        have e : nodeV (L.put st.nodes.length w5.heap.size w5.heap.size false) st.nodes.length = .iface 122 (.pointer (some ⟨w5.heap.size, 0, none⟩)) := by simp [nodeV, Lay.put, nodeT]
        rw [e]
        exact hm4) ht4)
    clear b0 b1 d3W t1W tzW hmW hbW hb3W hblk hW
    go_wp2_with fail
    refine HAdd.out.mono ?_
    rintro e w4 ⟨w4', rfl, hm4, ht4, hw4⟩
    have hcl := HC.out w4' hm4 ht4
    rw [← hw4] at hcl
    have Hcl := hide hcl
    have HCome := hide (show Calls Tryz.prog 46 #[.iface 122 (.pointer (some ⟨w5.heap.size, 0, none⟩)), .pointer (some ⟨p, 0, none⟩)] w4 (fun e w' => Came w4 (ext F w w4) (L.put st.nodes.length w5.heap.size w5.heap.size false) (come (withNode st (newNd name false m.d)) st.nodes.length) (some p) e w') from by
      have := come_any Hcl.out.1 st.nodes.length (by simp [withNode]) (some p)
      have e : nodeV (L.put st.nodes.length w5.heap.size w5.heap.size false) st.nodes.length = .iface 122 (.pointer (some ⟨w5.heap.size, 0, none⟩)) := by simp [nodeV, Lay.put, nodeT]
      rw [e] at this
      exact this)
    clear hcl hm4 ht4 hw4
    go_wp2_with fail
    refine HCome.out.mono ?_
    rintro e w6 hc
    have HCm := hide hc
    obtain ⟨v', rfl, hc⟩ := hc
    clear hc
    go_wp2
    go_ret2
    obtain ⟨hT4, k4, x4, hp4⟩ := Hcl.out
    have hpl := HCm.out.place (r := way.reverse) hp4
    obtain ⟨v', _, hb6, _⟩ := HCm.out
    have hE6 : ∀ j, ext (ext F w w4) w4 w6 j → ext F w w6 j := ext_trans x4.size hb6.size
    refine ⟨w5.heap.size, w5.heap.size, w4.heap.size, _, rfl, (hT4.kept (KeepX.below hb6)).mono (fun j hj => hE6 j (.inl hj)), k4.trans (KeepX.below' x4.size hb6), x4.trans' (Ext.below hb6), PlaceIs.mono hE6 hpl⟩
end
end Go.Proofs.YtdmdgnghaceibaaGreat.P
