/- The model, as the laws without the document's answer go about it: a directory that is filled. (No program.) -/
import Derived.Test.YtdmdgnghaceibaaGreatPart09
import Derived.Lib.Strings
import Derived.Test.YtdmdgnghaceibaaGreatPart05
import Derived.Test.YtdmdgnghaceibaaGreatPart02
import Derived.Laws.Entries
import Derived.RowKit
import Derived.KernelRfl
import Derived.Laws.BitsLemmas
namespace Go.Proofs.YtdmdgnghaceibaaGreat.P
open M
set_option linter.unusedVariables false

/-- Which of eight names: the bits of a number. -/
def bit (m k : Nat) : Bool := (m >>> k) % 2 == 1
def lettersTo (m j : Nat) : List ByteArray := ((List.range j).filter (bit m)).map letterB

theorem lettersTo_succ (m j : Nat) : lettersTo m (j + 1) = lettersTo m j ++ (if bit m j then [letterB j] else []) := by
  unfold lettersTo
  rw [List.range_succ, List.filter_append, List.map_append]
  congr 1
  cases h : bit m j <;> simp [h]

theorem letter_lt {i j : Nat} (h : i < j) (hj : j < 8) : ltB (letterB i) (letterB j) := by
  have : ∀ i j : Fin 8, i.val < j.val → ltB (letterB i.val) (letterB j.val) := by decide +kernel
  exact this ⟨i, by omega⟩ ⟨j, hj⟩ h
theorem letter_inj {i j : Nat} (hi : i < 8) (hj : j < 8) (h : letterB i = letterB j) : i = j := by
  rcases Nat.lt_trichotomy i j with q | q | q
  · exact absurd (h ▸ letter_lt q hj) (ltB_irrefl _)
  · exact q
  · exact absurd (h ▸ letter_lt q hi) (ltB_irrefl _)

theorem ins_last {s : ByteArray} : ∀ {l : List ByteArray}, (∀ x ∈ l, ltB x s) → insName l s = l ++ [s]
  | [], _ => rfl
  | x :: l, h => by
    unfold insName
    rw [if_pos (h x (by simp)), ins_last (fun y hy => h y (by simp [hy]))]
    rfl
theorem mem_letters {m j : Nat} {s : ByteArray} (h : s ∈ lettersTo m j) : ∃ k, k < j ∧ bit m k = true ∧ s = letterB k := by
  unfold lettersTo at h
  obtain ⟨k, hk, rfl⟩ := List.mem_map.1 h
  obtain ⟨h1, h2⟩ := List.mem_filter.1 hk
  exact ⟨k, List.mem_range.1 h1, h2, rfl⟩
theorem letters_mem {m j k : Nat} (hk : k < j) (hb : bit m k = true) : letterB k ∈ lettersTo m j :=
  List.mem_map.2 ⟨k, List.mem_filter.2 ⟨List.mem_range.2 hk, hb⟩, rfl⟩

/-! ### A node more -/
theorem lies_more (st : St) (x : Nd) (c : Int) (d : Nat) (s : ByteArray) : lies (made st x c) d s = (lies st d s).or (if liesHere d s x then some st.nodes.length else none) := by
  unfold lies made
  simp only
  rw [List.findIdx?_append]
  cases h : liesHere d s x with
  | true => simp [List.findIdx?_cons, h]
  | false => simp [List.findIdx?_cons, h]
theorem names_more (st : St) (x : Nd) (c : Int) (d : Nat) : namesOf (made st x c) d = if x.inn = (d : Int) ∧ x.gone = false then insName (namesOf st d) x.name else namesOf st d := by
  unfold namesOf namesIn made
  simp only
  rw [List.foldl_append]
  simp only [List.foldl_cons, List.foldl_nil]
  rfl
theorem live_more (l : List Nd) (x : Nd) (h : x.gone = false) : liveNodes (l ++ [x]) = liveNodes l + 1 := by
  unfold liveNodes
  rw [List.filter_append, List.length_append]
  simp [h]

/-- Files more in one directory. -/
structure Grew (st st' : St) (d : Nat) (n : Nat) : Prop where
  nodes : ∃ l : List Nd, st'.nodes = st.nodes ++ l ∧ (∀ x ∈ l, x.inn = (d : Int) ∧ x.gone = false) ∧ l.length ≤ n
  laid : st'.laid = st.laid
  fids : st'.fids = st.fids

theorem Grew.refl (st : St) (d n : Nat) : Grew st st d n := ⟨⟨[], by simp, by simp, Nat.zero_le _⟩, rfl, rfl⟩
theorem Grew.more {st st' : St} {d n : Nat} (h : Grew st st' d n) (x : Nd) (c : Int) (hi : x.inn = (d : Int)) (hg : x.gone = false) : Grew st (made st' x c) d (n + 1) := by
  obtain ⟨⟨l, e, hl, hn⟩, h2, h3⟩ := h
  refine ⟨⟨l ++ [x], by simp only [made]; rw [e, List.append_assoc], fun y hy => ?_, by simp; omega⟩, h2, h3⟩
  rcases List.mem_append.1 hy with hy | hy
  · exact hl y hy
  · simp at hy; subst hy; exact ⟨hi, hg⟩
theorem Grew.mono {st st' : St} {d n m : Nat} (h : Grew st st' d n) (hm : n ≤ m) : Grew st st' d m := by
  obtain ⟨⟨l, e, hl, hn⟩, h2, h3⟩ := h
  exact ⟨⟨l, e, hl, by omega⟩, h2, h3⟩
theorem Grew.node {st st' : St} {d n : Nat} (h : Grew st st' d n) {i : Nat} {x : Nd} (hx : st.nodes[i]? = some x) : st'.nodes[i]? = some x := by
  obtain ⟨⟨l, e, _⟩, _⟩ := h
  rw [e, List.getElem?_append_left (M.lt_of_getElem? hx)]
  exact hx
theorem Grew.len {st st' : St} {d n : Nat} (h : Grew st st' d n) : st'.nodes.length ≤ st.nodes.length + n ∧ st.nodes.length ≤ st'.nodes.length := by
  obtain ⟨⟨l, e, _, hn⟩, _⟩ := h
  rw [e, List.length_append]
  omega
theorem Grew.live {st st' : St} {d n : Nat} (h : Grew st st' d n) : liveNodes st'.nodes ≤ liveNodes st.nodes + n := by
  obtain ⟨⟨l, e, _, hn⟩, _⟩ := h
  rw [e]
  unfold liveNodes
  rw [List.filter_append, List.length_append]
  have := List.length_filter_le (fun x : Nd => !x.gone) l
  omega
theorem Grew.lies {st st' : St} {d n : Nat} (h : Grew st st' d n) {i : Nat} (hi : i ≠ d) (s : ByteArray) : lies st' i s = lies st i s := by
  obtain ⟨⟨l, e, hl, _⟩, _⟩ := h
  unfold M.lies
  rw [e, List.findIdx?_append]
  have : l.findIdx? (liesHere i s) = none := by
    rw [List.findIdx?_eq_none_iff]
    intro x hx
    unfold liesHere
    rw [(hl x hx).1]
    have : ((d : Int) == (i : Int)) = false := by simp; omega
    simp [this]
  rw [this]
  simp
theorem Grew.names {st st' : St} {d n : Nat} (h : Grew st st' d n) {i : Nat} (hi : i ≠ d) : namesOf st' i = namesOf st i := by
  obtain ⟨⟨l, e, hl, hn⟩, _⟩ := h
  unfold namesOf namesIn
  rw [e, List.foldl_append]
  generalize List.foldl (addName i) [] st.nodes = acc
  clear e hn
  induction l generalizing acc with
  | nil => rfl
  | cons x l ih =>
    rw [List.foldl_cons]
    have : addName i acc x = acc := by
      unfold addName
      rw [if_neg (fun q => by have := (hl x (by simp)).1; rw [this] at q; have := q.1; omega)]
    rw [this]
    exact ih (fun y hy => hl y (by simp [hy])) acc
theorem Grew.isDir {st st' : St} {d n : Nat} (h : Grew st st' d n) {i : Nat} (hi : isDir st i = true) : isDir st' i = true := by
  unfold M.isDir at hi ⊢
  split at hi
  · rename_i x hx
    rw [h.node hx]
    exact hi
  · cases hi

/-- A directory has these files, the first j of eight. -/
structure Filled (st : St) (nm : ByteArray) (d m j : Nat) : Prop where
  names : namesOf st d = lettersTo m j
  there : ∀ k, k < j → bit m k = true → ∃ c x, lies st d (letterB k) = some c ∧ st.nodes[c]? = some x ∧ x.dir = false ∧ x.gone = false ∧ x.data = nm ++ letterB k

theorem Filled.none {st : St} {nm : ByteArray} {d m j : Nat} (h : Filled st nm d m j) {k : Nat} (hk : k < 8) (hj : j ≤ 8) (hb : bit m k = false ∨ j ≤ k) : lies st d (letterB k) = none := by
  cases hl : lies st d (letterB k) with
  | none => rfl
  | some c =>
    have := (mem_names (st := st) (d := d)).2 (by rw [hl]; rfl)
    rw [h.names] at this
    obtain ⟨i, hi, hbi, e⟩ := mem_letters this
    have := letter_inj hk (by omega) e
    subst this
    rcases hb with hb | hb
    · rw [hbi] at hb; cases hb
    · omega
theorem Filled.skip {st : St} {nm : ByteArray} {d m j : Nat} (h : Filled st nm d m j) (hb : bit m j = false) : Filled st nm d m (j + 1) := by
  refine ⟨by rw [lettersTo_succ, hb]; simpa using h.names, fun k hk hbk => h.there k ?_ hbk⟩
  rcases Nat.lt_or_ge k j with q | q
  · exact q
  · obtain rfl : k = j := by omega
    rw [hb] at hbk; cases hbk
theorem Filled.put {st : St} {nm : ByteArray} {d m j : Nat} (h : Filled st nm d m j) (hj : j < 8) (hb : bit m j = true) (c : Int) : Filled (made st ⟨letterB j, false, (d : Int), nm ++ letterB j, 1, false⟩ c) nm d m (j + 1) := by
  refine ⟨?_, fun k hk hbk => ?_⟩
  · rw [names_more, if_pos ⟨rfl, rfl⟩, h.names, ins_last (fun x hx => by
      obtain ⟨i, hi, _, rfl⟩ := mem_letters hx
      exact letter_lt hi hj), lettersTo_succ, hb]
    rfl
  · by_cases e : k = j
    · subst e
      refine ⟨st.nodes.length, _, ?_, by simp only [made]; simp; rfl, rfl, rfl, rfl⟩
      rw [lies_more, h.none hj (by omega) (.inr (Nat.le_refl _))]
      simp [liesHere]
    · obtain ⟨cc, x, h1, h2, h3⟩ := h.there k (by omega) hbk
      refine ⟨cc, x, by rw [lies_more, h1]; rfl, ?_, h3⟩
      simp only [made]
      rw [List.getElem?_append_left (M.lt_of_getElem? h2)]
      exact h2
theorem Filled.grew {st st' : St} {nm : ByteArray} {d m j e n : Nat} (h : Filled st nm d m j) (g : Grew st st' e n) (hne : d ≠ e) : Filled st' nm d m j := by
  refine ⟨by rw [g.names hne]; exact h.names, fun k hk hb => ?_⟩
  obtain ⟨c, x, h1, h2, h3⟩ := h.there k hk hb
  exact ⟨c, x, by rw [g.lies hne]; exact h1, g.node h2, h3⟩
end Go.Proofs.YtdmdgnghaceibaaGreat.P
/- 'fill' of the laws without the document's answer. -/
namespace Go.Proofs.YtdmdgnghaceibaaGreat.P
open M Go.ChangeShapes Go.WideShapes Go.ChangeAt Go.RowKit
set_option linter.unusedVariables false

theorem letter_of {w : World} (j : Nat) (hj : j < 8) : Calls Tryz.prog 34 #[.int .i64 j] w fun e w' => e = .returned (.string (letterB j)) ∧ Below w.heap.size w w' := by
  have h := kletter_any (j : Int) w (by omega)
  have e : mPick (j : Int) 8 = j := by
    unfold mPick
    rw [if_neg (by omega)]
    simp
    omega
  rw [e] at h
  exact h

/-- How 'fill' ends. -/
def FillEnds (w : World) (X : Nat → Prop) (s : Nat) (st : St) (nm : ByteArray) (d m : Nat) (e : Ending) (w' : World) : Prop :=
  e = .returned (.bool true) ∧ ∃ st', KSrv w' X s st' ∧ KOk st' ∧ Grew st st' d 8 ∧ Filled st' nm d m 8 ∧ Ext X w w'

theorem DirAt.grew {st st' : St} {nm : ByteArray} {d e n : Nat} (h : DirAt st nm d) (g : Grew st st' e n) (he : e ≠ 0) : DirAt st' nm d :=
  ⟨h.nm, by rw [g.lies (fun q => he q.symm)]; exact h.lies, g.isDir h.dir, by have := h.row; unfold rowOf at this ⊢; rw [g.laid]; exact this⟩

theorem bit_shift (m k : Nat) : ((m : Int) / 2 ^ k).tmod 2 = if bit m k then 1 else 0 := by
  have e : (m : Int) / 2 ^ k = ((m >>> k : Nat) : Int) := by rw [Nat.shiftRight_eq_div_pow]; simp
  rw [e]
  unfold bit
  generalize m >>> k = q
  rw [Int.tmod_eq_emod_of_nonneg (by omega)]
  by_cases h : q % 2 = 1
  · rw [if_pos (by simpa using h)]; omega
  · rw [if_neg (by simpa using h)]; omega

set_option maxRecDepth 20000 in
set_option maxHeartbeats 2000000 in
theorem kfill_any {w : World} {X : Nat → Prop} {s : Nat} {st : St} (nm : ByteArray) (d : Nat) (c : Int) (hc : -9223372036854775808 ≤ c ∧ c ≤ 9223372036854775807) (h : KSrv w X s st) (k : KOk st) (z : Zero st) (hd : DirAt st nm d) (h0 : d ≠ 0) (hn : namesOf st d = []) (hlive : liveNodes st.nodes + 8 < 100) (hlen : st.nodes.length + 8 < 100000) :
    Calls Tryz.prog 39 #[.pointer (some ⟨s, 0, none⟩), .string nm, .int .i64 c] w fun e w' => FillEnds w X s st nm d (mPick c 256) e w' := by
  have HP := hide (fun w1 => kpick_any c 256 w1 hc (by omega))
  obtain ⟨m, hm⟩ : ∃ m, mPick c 256 = m := ⟨_, rfl⟩
  have hm256 : m < 256 := by rw [← hm]; exact mPick_lt c (by omega)
  rw [hm] at HP ⊢
  have H := hide h
  have K := hide k
  have Z := hide z
  have HD := hide hd
  have Hn := hide hn
  clear h k z hd hn hm hc
  go_enter Tryz.func39, Tryz.ntmps39
  go_wp2
  go_loopw [7] (fun i wr => ∃ (j : Nat) (st' : St), j ≤ 8 ∧ i = .int .i64 j ∧ KSrv wr X s st' ∧ KOk st' ∧ Grew st st' d j ∧ Filled st' nm d m j ∧ Ext X w wr) (fun i _ => 8 - (intOf i).toNat)
  case atStart => exact ⟨0, st, by omega, rfl, H.out, K.out, Grew.refl _ _ _, ⟨Hn.out, fun k hk => by omega⟩, Ext.refl _ _⟩
  case round =>
    obtain ⟨j, st', hj, rfl, hs, hk, hg, hf, hx⟩ := hrel
    have HS := hide hs
    have HK := hide hk
    have HG := hide hg
    have HF := hide hf
    have HX := hide hx
    clear hs hk hg hf hx
    by_cases hlt : j < 8
    · have hlt' : (j : Int) < 8 := by omega
      have j0 : ¬ (j : Int) < 0 := by omega
      go_wp2_with fail
      refine (HP.out wr).mono ?_
      rintro e w' ⟨rfl, hw⟩
      obtain rfl := hw.symm
      have hsh := bit_shift m j
      cases hb : bit m j with
      | false =>
        rw [hb] at hsh
        have hsh' : ((m : Int) / 2 ^ j).tmod 2 = 0 := hsh
        have Hb := hide hb
        clear hsh hb
        go_wp2_with fail
        exact ⟨⟨j + 1, st', by omega, by go_num, HS.out, HK.out, HG.out.mono (by omega), HF.out.skip Hb.out, HX.out⟩, by simp [intOf]; omega⟩
      | true =>
        rw [hb] at hsh
        have hsh' : ((m : Int) / 2 ^ j).tmod 2 = 1 := hsh
        have Hb := hide hb
        have hnsz : nm.size ≤ 12 := isName_size HD.out.nm
        have hlsz : (letterB j).size = 1 := rfl
        have hcat : (nm ++ letterB j).size = nm.size + 1 := by rw [ByteArray.size_append]; rfl
        have HCat := hide hcat
        have hsum : nm.size + (letterB j).size ≤ 9223372036854775807 := by omega
        have hsum' : (nm.size : Int) + ((letterB j).size : Int) ≤ 9223372036854775807 := by omega
        clear hsh hb hcat hlsz
        go_wp2_with fail
        refine (letter_of j hlt).mono ?_
        rintro e w1 ⟨rfl, hb1⟩
        have HS1 := hide (HS.out.below hb1)
        have HX1 := hide (HX.out.trans' (Ext.below hb1))
        clear hb1
        go_wp2_with fail
        refine (letter_of j hlt).mono ?_
        rintro e w2 ⟨rfl, hb2⟩
        have HS2 := hide (HS1.out.below hb2)
        have HX2 := hide (HX1.out.trans' (Ext.below hb2))
        clear hb2
        go_wp2_with fail
        refine (kfile_any nm (letterB j) (nm ++ letterB j) d HS2.out HK.out (Z.out.same HG.out.fids) (HD.out.grew HG.out h0) (isName_letter hlt) (HF.out.none hlt (by omega) (.inr (Nat.le_refl _))) (by have := HG.out.live; omega) (by have := HG.out.len.1; omega) (by rw [HCat.out]; omega)).mono ?_
        rintro e w3 ⟨rfl, cc, h3, k3, hx3⟩
        have HS3 := hide h3
        have HK3 := hide k3
        have HX3 := hide (HX2.out.trans' hx3)
        clear h3 k3 hx3
        go_wp2_with fail
        exact ⟨⟨j + 1, _, by omega, by go_num, HS3.out, HK3.out, HG.out.more _ cc rfl rfl, HF.out.put hlt Hb.out cc, HX3.out⟩, by simp [intOf]; omega⟩
    · go_wp2
      go_ret
      obtain rfl : j = 8 := by omega
      exact ⟨rfl, st', HS.out, HK.out, HG.out, HF.out, HX.out⟩
end Go.Proofs.YtdmdgnghaceibaaGreat.P
/- slices.Grow and slices.Concat of rows. -/
namespace Go.Proofs.YtdmdgnghaceibaaGreat.P
open M Go.ChangeShapes Go.WideShapes Go.ChangeAt Go.RowKit
set_option linter.unusedVariables false

theorem infoMember : (Tryz.prog.info? 165).map (fun i => (i.zero, i.size, i.bytes)) = some (some (.agg #[.pointer none, .bool false]), 2, 16) := by kernel_rfl

/-- How Grow of the nil row ends. -/
def GrowEnds (w : World) (e : Ending) (w' : World) : Prop := ∃ g c, e = .returned (.slice (some ⟨g, 0, none⟩) 0 c) ∧ Own w' (fun k => w.heap.size ≤ k ∧ k < w'.heap.size) 165 2 (.slice (some ⟨g, 0, none⟩) 0 c) [] ∧ Below w.heap.size w w'

set_option maxRecDepth 20000 in
set_option maxHeartbeats 1000000 in
theorem grow_any (n : Nat) (hn : 0 < n ∧ n ≤ 1000) (w : World) :
    Calls Tryz.prog 135 #[.slice none 0 0, .int .i64 n] w fun e w' => GrowEnds w e w' := by
  obtain ⟨hn1, hn2⟩ := hn
  obtain ⟨i0, hi, hz0, hz1, hz2⟩ := info_parts infoMember
  have hint : Tryz.prog.underlying 3 = some (.int .i64) := by kernel_rfl
  have hr := Lib.run_append_nil_zeros (P := Tryz.prog) w 117 3 117 165 i0 (.agg #[.pointer none, .bool false]) .i64 .i64 Tryz.underlying117 hint hi hz0 n hn1 (by rw [hz1]; omega) (by omega) (by rw [hz2]; omega)
  have hge := grownCap_ge w n 0 165
  have hcm : grownCap w n 0 165 ≤ maxLen := grownCap_le_maxLen w n 0 _ (by unfold maxLen; omega)
  obtain ⟨c, hc⟩ : ∃ c, grownCap w n 0 165 = c := ⟨_, rfl⟩
  rw [hc] at hr hge hcm
  obtain ⟨C, hC⟩ : ∃ C, Builtin.zeroCells (Value.agg #[.pointer none, .bool false]).cells n ++ Builtin.zeroCells (Value.agg #[.pointer none, .bool false]).cells (c - n) = C := ⟨_, rfl⟩
  have hCs : C.size = c * 2 := by
    rw [← hC, Array.size_append]
    simp [Builtin.zeroCells, Value.cells]
    omega
  rw [hC] at hr
  have HC := hide hCs
  have Hcm := hide hcm
  have hcm' : c ≤ 9223372036854775807 := by unfold maxLen at hcm; omega
  have hn0 : (0 : Int) < (n : Int) := by omega
  clear hi hz0 hz1 hz2 hint hC hCs hc hcm
  go_enter Tryz.func135, Tryz.ntmps135
  go_wp2_with (at_builtin; refine Lib.wpList_append_run _ rfl _ _ _ _ rfl _ _ rfl (by first | rfl | (trace_state; fail)) _ _ hr ?_)
  go_ret
  refine ⟨w.heap.size, c, rfl, ⟨⟨rfl, .inr ⟨w.heap.size, c, C, rfl, Nat.zero_le _, heap_alloc_new w _, Nat.zero_le _, Hcm.out, by rw [HC.out], by simp⟩⟩, by simp, fun k hk => ?_⟩, ((Below.refl _ w).alloc (Nat.le_refl _) _).drew⟩
  simp [Value.ownBlock] at hk
  subst hk
  exact ⟨Nat.le_refl _, by simp⟩

/-- How Concat ends: a new row. -/
def ConcatEnds (w : World) (L : Lay) (n : Nat) (r : List Member) (e : Ending) (w' : World) : Prop := ∃ ao c, e = .returned (.slice ao n c) ∧ PRow w' (fun k => w.heap.size ≤ k ∧ k < w'.heap.size) L (.slice ao n c) r ∧ Below w.heap.size w w'

theorem row_src {w : World} {F : Nat → Prop} {L : Lay} {v : Value} {r : List Member} (h : PRow w F L v r) : SrcIs w 2 v (r.map (mCells L)) :=
  SrcIs.ofOwn h (fun x hx u hu => by
    obtain ⟨m, _, rfl⟩ := List.mem_map.1 hx
    simp [mCells] at hu
    rcases hu with rfl | rfl
    · rfl
    · rfl)

/-- A row of one's own, longer. -/
theorem row_pushed {w wr w' : World} {L : Lay} {v v' : Value} {r news : List Member} (hbel : Below w.heap.size w wr) (hown : PRow wr (fun k => w.heap.size ≤ k ∧ k < wr.heap.size) L v r)
    (ho : Own w' (ext (fun k => w.heap.size ≤ k ∧ k < wr.heap.size) wr w') 165 2 v' (r.map (mCells L) ++ news.map (mCells L))) (hg : wr.grownBy w' v.ownBlock) :
    Below w.heap.size w w' ∧ PRow w' (fun k => w.heap.size ≤ k ∧ k < w'.heap.size) L v' (r ++ news) := by
  have hz := hg.size
  have hz0 := hbel.size
  refine ⟨⟨hg.os.trans hbel.os, hg.tape.trans hbel.tape, hg.output.trans hbel.output, by omega, fun k hk => (hg.block k (by omega) (fun e => ?_)).trans (hbel.block k hk)⟩, ?_⟩
  · have := (hown.2.2 k e.symm).1
    omega
  · unfold PRow
    rw [List.map_append]
    exact ho.mono (fun k hk => by rcases hk with hk | hk; exact ⟨hk.1, by omega⟩; exact ⟨by omega, hk.2⟩)

set_option maxRecDepth 20000 in
set_option maxHeartbeats 1000000 in
theorem concat_any {w : World} {L : Lay} (r1 r2 : List Member) (a1 a2 : Option Addr) (c1 c2 sb : Nat) (h1 : PRow w (fun _ => True) L (.slice a1 r1.length c1) r1) (h2 : PRow w (fun _ => True) L (.slice a2 r2.length c2) r2) (hl : 0 < r1.length + r2.length ∧ r1.length + r2.length ≤ 1000)
    (s0 : w.cell? ⟨sb, 0, none⟩ = some (.slice a1 r1.length c1)) (s1 : w.cell? ⟨sb, 1, none⟩ = some (.slice a2 r2.length c2)) :
    Calls Tryz.prog 102 #[.slice (some ⟨sb, 0, none⟩) 2 2] w fun e w' => ConcatEnds w L (r1.length + r2.length) (r1 ++ r2) e w' := by
  obtain ⟨hl1, hl2⟩ := hl
  have H1 := hide h1
  have H2 := hide h2
  have HG := hide (fun W => grow_any (r1.length + r2.length) ⟨hl1, hl2⟩ W)
  have ec : ((r1.length : Int) + (r2.length : Int)) = ((r1.length + r2.length : Nat) : Int) := by omega
  have Hec := hide ec
  have hsb : sb < w.heap.size := World.block_lt_of_cell? w _ s0
  clear h1 h2 ec
  go_enter Tryz.func102, Tryz.ntmps102
  go_wp2
  go_loop [3, 11] (fun sz i => (i = .int .i64 0 ∧ sz = .int .i64 0) ∨ (i = .int .i64 1 ∧ sz = .int .i64 (r1.length : Int)) ∨ (i = .int .i64 2 ∧ sz = .int .i64 ((r1.length : Int) + (r2.length : Int)))) (fun _ i => 2 - (intOf i).toNat)
  case atStart => exact .inl ⟨rfl, rfl⟩
  case round =>
    rcases hrel with ⟨rfl, rfl⟩ | ⟨rfl, rfl⟩ | ⟨rfl, rfl⟩
    · have n0 : ¬ (r1.length : Int) < 0 := by omega
      go_wp2
      go_round
      case rel => exact .inr (.inl ⟨rfl, rfl⟩)
      case measure => simp [intOf]
    · have n0 : ¬ (r1.length : Int) + (r2.length : Int) < 0 := by omega
      go_wp2
      go_round
      case rel => exact .inr (.inr ⟨rfl, rfl⟩)
      case measure => simp [intOf]
    · rw [Hec.out]
      go_wp2_with (go_at_call 135; refine (HG.out _).mono ?_; rintro e wg ⟨g, gc, rfl, hog, hbg⟩; have HOg := hide hog; have HBg := hide hbg; clear hog hbg)
      have hO0 : PRow wg (fun k => w.heap.size ≤ k ∧ k < wg.heap.size) L (.slice (some ⟨g, 0, none⟩) 0 gc) [] := HOg.out
      have HO0 := hide hO0
      clear hO0
      go_loopw [6, 27] (fun ns i wr => Below w.heap.size w wr ∧ ((i = .int .i64 0 ∧ ∃ ao c, ns = .slice ao 0 c ∧ PRow wr (fun k => w.heap.size ≤ k ∧ k < wr.heap.size) L (.slice ao 0 c) []) ∨ (i = .int .i64 1 ∧ ∃ ao c, ns = .slice ao r1.length c ∧ PRow wr (fun k => w.heap.size ≤ k ∧ k < wr.heap.size) L (.slice ao r1.length c) r1) ∨ (i = .int .i64 2 ∧ ∃ ao c, ns = .slice ao (r1.length + r2.length) c ∧ PRow wr (fun k => w.heap.size ≤ k ∧ k < wr.heap.size) L (.slice ao (r1.length + r2.length) c) (r1 ++ r2)))) (fun _ i _ => 2 - (intOf i).toNat)
      case atStart => exact ⟨HBg.out, .inl ⟨rfl, _, _, rfl, HO0.out⟩⟩
      case round =>
        obtain ⟨hbel, hr⟩ := hrel
        have Hbel := hide hbel
        have q0 : wr.cell? ⟨sb, 0, none⟩ = some (.slice a1 r1.length c1) := (hbel.cell (p := ⟨sb, 0, none⟩) hsb).trans s0
        have q1 : wr.cell? ⟨sb, 1, none⟩ = some (.slice a2 r2.length c2) := (hbel.cell (p := ⟨sb, 1, none⟩) hsb).trans s1
        have hsr1 : SrcIs wr 2 (.slice a1 r1.length c1) (r1.map (mCells L)) := SrcIs.below (row_src H1.out) hbel
        have hsr2 : SrcIs wr 2 (.slice a2 r2.length c2) (r2.map (mCells L)) := SrcIs.below (row_src H2.out) hbel
        have HS1 := hide hsr1
        have HS2 := hide hsr2
        clear hbel hsr1 hsr2
        rcases hr with ⟨rfl, ao, c, rfl, hown⟩ | ⟨rfl, ao, c, rfl, hown⟩ | ⟨rfl, ao, c, rfl, hown⟩
        · have Hown := hide hown
          clear hown
          go_wp2_with (at_builtin; refine wpList_append_Own _ rfl (.tmp 31) (.tmp 32) 117 rfl (fun k => w.heap.size ≤ k ∧ k < wr.heap.size) 165 (.agg #[.pointer none, .bool false]) 2 16 Tryz.underlying117 infoMember rfl (by decide) (.slice ao 0 c) ([].map (mCells L)) rfl Hown.out (.slice a1 r1.length c1) (r1.map (mCells L)) rfl HS1.out r1.length (by simp) (by unfold maxLen; omega) (by omega) ?_; intro ao6 c6 w6 ho6 hg6 hb6; have HP6 := hide (row_pushed Hbel.out Hown.out ho6 hg6); clear ho6 hg6 hb6)
          go_roundw
          case rel => exact ⟨HP6.out.1, .inr (.inl ⟨rfl, ao6, c6, rfl, HP6.out.2⟩)⟩
          case measure => simp [intOf]
        · have Hown := hide hown
          clear hown
          go_wp2_with (at_builtin; refine wpList_append_Own _ rfl (.tmp 31) (.tmp 32) 117 rfl (fun k => w.heap.size ≤ k ∧ k < wr.heap.size) 165 (.agg #[.pointer none, .bool false]) 2 16 Tryz.underlying117 infoMember rfl (by decide) (.slice ao r1.length c) (r1.map (mCells L)) rfl Hown.out (.slice a2 r2.length c2) (r2.map (mCells L)) rfl HS2.out (r1.length + r2.length) (by simp) (by unfold maxLen; omega) (by omega) ?_; intro ao6 c6 w6 ho6 hg6 hb6; have HP6 := hide (row_pushed Hbel.out Hown.out ho6 hg6); clear ho6 hg6 hb6)
          go_roundw
          case rel => exact ⟨HP6.out.1, .inr (.inr ⟨rfl, ao6, c6, rfl, HP6.out.2⟩)⟩
          case measure => simp [intOf]
        · have Hown := hide hown
          clear hown
          go_wp2
          go_ret
          exact ⟨ao, c, rfl, Hown.out, Hbel.out⟩
end Go.Proofs.YtdmdgnghaceibaaGreat.P
/- The document's own answer, more: what lies over a directory. -/
namespace Go.Proofs.YtdmdgnghaceibaaGreat.M

def others (d : Nat) (l : List Laid) : List Laid := l.filter (fun x => !(x.onto == d))
def mLay (st : St) (d : Nat) (row : List Member) : St := { st with laid := others d st.laid ++ (if 0 < row.length then [⟨d, row⟩] else []) }

theorem others_snoc (d : Nat) (l : List Laid) (k : Nat) (x : Laid) (hx : l[k]? = some x) : others d (l.take (k + 1)) = others d (l.take k) ++ (if x.onto == d then [] else [x]) := by
  have hlt := lt_of_getElem? hx
  have e : l[k] = x := by rw [List.getElem?_eq_getElem hlt] at hx; exact Option.some.inj hx
  rw [List.take_succ_eq_append_getElem hlt, e]
  unfold others
  rw [List.filter_append]
  cases h : (x.onto == d) <;> simp [h]

theorem others_le (d : Nat) (l : List Laid) (k : Nat) : (others d (l.take k)).length ≤ k := by
  unfold others
  exact Nat.le_trans (List.length_filter_le _ _) (List.length_take_le _ _)
end Go.Proofs.YtdmdgnghaceibaaGreat.M
/- The document's own answer, more: Bind, Unbind. -/
namespace Go.Proofs.YtdmdgnghaceibaaGreat.M

def mUnbind (st : St) (n : Int) : St × Int :=
  match find st n with
  | none => (tick st, 2)
  | some i => match st.fids[i]? with
    | none => (tick st, 2)
    | some f => if isGone st (nodeOf f) then (tick st, 4) else if isDir st (nodeOf f) then
        (if st.laid.any (fun l => l.onto == nodeOf f) then (mLay (tick st) (nodeOf f) [], 0) else (tick st, 7))
      else (tick st, 5)

theorem any_laid_snoc {l : List Laid} {k : Nat} {x : Laid} (p : Laid → Bool) (hs : l[k]? = some x) (ha : (l.take k).any p = false) (hp : p x = false) : (l.take (k + 1)).any p = false := by
  have hlt := lt_of_getElem? hs
  have e : l[k] = x := by rw [List.getElem?_eq_getElem hlt] at hs; exact Option.some.inj hs
  rw [List.take_succ_eq_append_getElem hlt, List.any_append, ha, e]
  simp [hp]
theorem any_laid_hit {l : List Laid} {k : Nat} {x : Laid} (p : Laid → Bool) (hs : l[k]? = some x) (hp : p x = true) : l.any p = true :=
  List.any_eq_true.2 ⟨x, List.mem_of_getElem? hs, hp⟩
end Go.Proofs.YtdmdgnghaceibaaGreat.M
/- The document's own answer, more: Bind. -/
namespace Go.Proofs.YtdmdgnghaceibaaGreat.M

/-- The row that a Bind would make. -/
def boundRow (st : St) (a b : Nat) (how : Int) : List Member :=
  if how = 0 ∨ how = 4 then [⟨a, decide (4 ≤ how)⟩] else if how = 1 ∨ how = 5 then ⟨a, decide (4 ≤ how)⟩ :: rowOf st b else rowOf st b ++ [⟨a, decide (4 ≤ how)⟩]

def howOk (how : Int) : Bool := decide (how = 0 ∨ how = 1 ∨ how = 2 ∨ how = 4 ∨ how = 5 ∨ how = 6)

def mBind (st : St) (n onto how : Int) : St × Int :=
  match find st n, find st onto with
  | some i, some k => match st.fids[i]?, st.fids[k]? with
    | some f, some g =>
      if isGone st (nodeOf f) || isGone st (nodeOf g) then (tick st, 4)
      else if !isDir st (nodeOf f) || !isDir st (nodeOf g) then (tick st, 5)
      else if howOk how then (if 6 < (boundRow st (nodeOf f) (nodeOf g) how).length then (tick st, 11) else (mLay (tick st) (nodeOf g) (boundRow st (nodeOf f) (nodeOf g) how), 0))
      else (tick st, 1)
    | _, _ => (tick st, 2)
  | _, _ => (tick st, 2)
end Go.Proofs.YtdmdgnghaceibaaGreat.M
/- How a directory is bound: the bits of a number. (No program.) -/
namespace Go.Proofs.YtdmdgnghaceibaaGreat.P
open M Go.RowKit
set_option linter.unusedVariables false

theorem split4 (a : BitVec 64) : a = (a &&& ~~~4#64) ||| (a &&& 4#64) := by
  apply BitVec.eq_of_getLsbD_eq
  intro i hi
  simp only [BitVec.getLsbD_or, BitVec.getLsbD_and, BitVec.getLsbD_not]
  cases a.getLsbD i <;> cases (4#64).getLsbD i <;> simp [hi]
theorem and4 (a : BitVec 64) : a &&& 4#64 = 0#64 ∨ a &&& 4#64 = 4#64 := by
  have h := BitVec.and_twoPow a 2
  rw [show BitVec.twoPow 64 2 = 4#64 from by decide] at h
  rw [h]
  split
  · exact .inr rfl
  · exact .inl rfl
theorem toNat_case (a : BitVec 64) (k : Nat) (hk : k ≤ 2) (h : (a &&& ~~~4#64).toNat = k) : a.toNat = k ∨ a.toNat = k + 4 := by
  have e1 : a &&& ~~~4#64 = BitVec.ofNat 64 k := by
    apply BitVec.eq_of_toNat_eq
    rw [h, BitVec.toNat_ofNat]
    omega
  have e2 := split4 a
  rw [e1] at e2
  have hk3 : k = 0 ∨ k = 1 ∨ k = 2 := by omega
  rcases and4 a with h4 | h4 <;> rw [h4] at e2 <;> rcases hk3 with rfl | rfl | rfl <;> rw [e2] <;> decide
theorem andNot4 {x : Int} (hx : -9223372036854775808 ≤ x ∧ x ≤ 9223372036854775807) (k : Nat) (hk : k ≤ 2) (h : bits .andNot .i64 x 4 = (k : Int)) : x = (k : Int) ∨ x = (k : Int) + 4 := by
  obtain ⟨h1, h2⟩ := hx
  have ha : (BitVec.ofInt 64 x).toInt = x := by
    rw [BitVec.toInt_ofInt]
    unfold Int.bmod
    simp only
    omega
  have hlt := (BitVec.ofInt 64 x &&& ~~~BitVec.ofInt 64 4).isLt
  have hw : ((BitVec.ofInt 64 x &&& ~~~BitVec.ofInt 64 4).toNat : Int) = (k : Int) := by
    have h' : IntKind.i64.wrap ((BitVec.ofInt 64 x &&& ~~~BitVec.ofInt 64 4).toNat : Int) = (k : Int) := h
    rw [IntKind.wrap_i64] at h'
    omega
  have ht := toNat_case (BitVec.ofInt 64 x) k hk (by exact_mod_cast hw)
  have hti : (BitVec.ofInt 64 x).toInt = if 2 * (BitVec.ofInt 64 x).toNat < 2 ^ 64 then ((BitVec.ofInt 64 x).toNat : Int) else ((BitVec.ofInt 64 x).toNat : Int) - 2 ^ 64 := by
    rw [BitVec.toInt_eq_toNat_cond]
    rfl
  rw [ha] at hti
  rcases ht with ht | ht
  · rw [ht, if_pos (by omega)] at hti
    exact .inl hti
  · rw [ht, if_pos (by omega)] at hti
    exact .inr (by rw [hti]; omega)

/-- What is no way to bind. -/
theorem how_bad {x : Int} (hx : -9223372036854775808 ≤ x ∧ x ≤ 9223372036854775807) (h : howOk x = false) : (bits .andNot .i64 x 4 == 0) = false ∧ (bits .andNot .i64 x 4 == 1) = false ∧ (bits .andNot .i64 x 4 == 2) = false := by
  have hn := of_decide_eq_false h
  refine ⟨beq_false_of_ne (fun e => hn ?_), beq_false_of_ne (fun e => hn ?_), beq_false_of_ne (fun e => hn ?_)⟩
  · rcases andNot4 hx 0 (by omega) e with r | r <;> omega
  · rcases andNot4 hx 1 (by omega) e with r | r <;> omega
  · rcases andNot4 hx 2 (by omega) e with r | r <;> omega
theorem how_good {x : Int} (h : howOk x = true) : x = 0 ∨ x = 1 ∨ x = 2 ∨ x = 4 ∨ x = 5 ∨ x = 6 := of_decide_eq_true h
theorem bitsA : bits .andNot .i64 0 4 = 0 ∧ bits .andNot .i64 4 4 = 0 ∧ bits .andNot .i64 1 4 = 1 ∧ bits .andNot .i64 5 4 = 1 ∧ bits .andNot .i64 2 4 = 2 ∧ bits .andNot .i64 6 4 = 2 := by
  refine ⟨?_, ?_, ?_, ?_, ?_, ?_⟩ <;> kernel_rfl
theorem bitsB : bits .and .i64 0 4 = 0 ∧ bits .and .i64 4 4 = 4 ∧ bits .and .i64 1 4 = 0 ∧ bits .and .i64 5 4 = 4 ∧ bits .and .i64 2 4 = 0 ∧ bits .and .i64 6 4 = 4 := by
  refine ⟨?_, ?_, ?_, ?_, ?_, ?_⟩ <;> kernel_rfl
end Go.Proofs.YtdmdgnghaceibaaGreat.P
/- The program's directory.bind, directory.unbind; the tree with another row laid. -/
namespace Go.Proofs.YtdmdgnghaceibaaGreat.P
open M Go.ChangeShapes Go.WideShapes Go.ChangeAt Go.RowKit
set_option linter.unusedVariables false

/-! ### What is laid -/
theorem find_others (d i : Nat) (l : List Laid) (h : i ≠ d) : (others d l).find? (fun z => z.onto == i) = l.find? (fun z => z.onto == i) := by
  unfold others
  induction l with
  | nil => rfl
  | cons a r ih =>
    rw [List.filter_cons]
    by_cases ha : a.onto = d
    · rw [if_neg (by simp [ha])]
      have : (a.onto == i) = false := by simp [ha]; exact fun e => h e.symm
      simp only [List.find?, this]
      exact ih
    · rw [if_pos (by simp [ha])]
      simp only [List.find?]
      rw [ih]
theorem find_others_self (d : Nat) (l : List Laid) : (others d l).find? (fun z => z.onto == d) = none := by
  rw [List.find?_eq_none]
  intro x hx
  unfold others at hx
  have := (List.mem_filter.1 hx).2
  simpa using this
theorem find_lay {st : St} (d i : Nat) (row : List Member) : (mLay st d row).laid.find? (fun z => z.onto == i) = if i = d then (if 0 < row.length then some ⟨d, row⟩ else none) else st.laid.find? (fun z => z.onto == i) := by
  unfold mLay
  simp only
  rw [List.find?_append]
  by_cases h : i = d
  · subst h
    rw [find_others_self, if_pos rfl]
    by_cases h0 : 0 < row.length
    · rw [if_pos h0, if_pos h0]
      simp [List.find?]
    · rw [if_neg h0, if_neg h0]
      rfl
  · rw [find_others d i st.laid h, if_neg h]
    have : (List.find? (fun z => z.onto == i) (if 0 < row.length then [(⟨d, row⟩ : Laid)] else [])) = none := by
      split
      · have : (d == i) = false := by simpa using (fun e => h e.symm)
        simp [List.find?, this]
      · rfl
    rw [this]
    cases st.laid.find? (fun z => z.onto == i) <;> rfl

/-- The tree, a row more or fewer laid onto a directory. -/
theorem TreeIs.lay {w : World} {F : Nat → Prop} {t : Nat} {st : St} {L : Lay} {bv : Nat → Value} (h : TreeIs w F t st L bv) {d : Nat} {x : Nd} (hx : st.nodes[d]? = some x) (hd : x.dir = true) {v : Value} {row : List Member} (hv : (row = [] ∧ v = .slice none 0 0) ∨ (row ≠ [] ∧ PRow w F L v row)) :
    TreeIs (w.setCell ⟨L.nb d, 4, none⟩ v) F t (mLay st d row) L bv := by
  have D := h.dir d x hx hd
  have hk : KeepX (fun e => e ≠ 168) True F w (w.setCell ⟨L.nb d, 4, none⟩ v) := (KeepX.refl _ _ _ _).setTy (a := ⟨L.nb d, 4, none⟩) D.blk.ty (by simp) v
  have ct := h.blk.cell hk (by decide)
  have hdl := M.lt_of_getElem? hx
  refine ⟨h.blk.kept hk (by decide), (ct 0).trans h.c0, (ct 1).trans h.c1, h.kind, fun i y hy hyd => ?_, fun i y hy hyd => (h.file i y hy hyd).kept hk (by decide) (by decide), h.nbInj, h.mbInj, h.bvApart⟩
  have Di := h.dir i y hy hyd
  obtain ⟨es, cl, hmb⟩ := Di.map.blk
  have hmap := Di.map.kept (hk.maps trivial _ es cl Di.mapF hmb)
  obtain ⟨u, c4, hu⟩ := Di.bound
  by_cases hi : i = d
  · subst hi
    have e : ∀ j, j ≠ 4 → (w.setCell ⟨L.nb i, 4, none⟩ v).cell? ⟨L.nb i, j, none⟩ = w.cell? ⟨L.nb i, j, none⟩ := fun j hj => cell_other _ _ _ _ _ (fun q => hj q.symm)
    refine ⟨Di.blk.setCell _ _, (e 0 (by decide)).trans Di.c0, (e 1 (by decide)).trans Di.c1, (e 2 (by decide)).trans Di.c2, (e 3 (by decide)).trans Di.c3, Di.mapF, hmap, v, cell_same _ _ _ _ _ c4, ?_⟩
    rw [find_lay, if_pos rfl]
    rcases hv with ⟨rfl, rfl⟩ | ⟨hne, hv⟩
    · rfl
    · rw [if_pos (by cases row with | nil => exact absurd rfl hne | cons a r => simp)]
      exact ⟨hv.kept hk (by decide), hne⟩
  · have hnb : L.nb i ≠ L.nb d := fun q => hi (h.nbInj i d (M.lt_of_getElem? hy) hdl q)
    have e : ∀ j, (w.setCell ⟨L.nb d, 4, none⟩ v).cell? ⟨L.nb i, j, none⟩ = w.cell? ⟨L.nb i, j, none⟩ := fun j => World.cell?_of_block (Below.heap_setCell _ _ _ _ hnb)
    refine ⟨Di.blk.setCell _ _, (e 0).trans Di.c0, (e 1).trans Di.c1, (e 2).trans Di.c2, (e 3).trans Di.c3, Di.mapF, hmap, u, (e 4).trans c4, ?_⟩
    rw [find_lay, if_neg hi]
    exact hu.kept hk (by decide)

/-- The Server, a row more or fewer laid. -/
theorem SrvHas.lay {w : World} {F : Nat → Prop} {s t : Nat} {st : St} {lk : Int} {L : Lay} {bv : Nat → Value} (h : SrvHas w F s st lk t L bv) {d : Nat} {x : Nd} (hx : st.nodes[d]? = some x) (hd : x.dir = true) {v : Value} {row : List Member} (hv : (row = [] ∧ v = .slice none 0 0) ∨ (row ≠ [] ∧ PRow w F L v row)) :
    SrvHas (w.setCell ⟨L.nb d, 4, none⟩ v) F s (mLay st d row) lk t L bv := by
  have D := h.tree.dir d x hx hd
  have hk : KeepX (fun e => e ≠ 168) True F w (w.setCell ⟨L.nb d, 4, none⟩ v) := (KeepX.refl _ _ _ _).setTy (a := ⟨L.nb d, 4, none⟩) D.blk.ty (by simp) v
  have c := h.blk.cell hk (by decide)
  exact ⟨h.blk.kept hk (by decide), (c 0).trans h.k0, (c 1).trans h.k1, (c 3).trans h.k3, (c 5).trans h.k5, (c 6).trans h.k6, fun n hn => (h.fids n hn).kept hk (by decide) (by decide) (c _) (c _), h.tree.lay hx hd hv⟩

/-! ### What is seen of a directory now -/
def RowEnds (w : World) (L : Lay) (row : List Member) (e : Ending) (w' : World) : Prop := ∃ ao c, e = .returned (.slice ao row.length c) ∧ PRow w' (fun _ => True) L (.slice ao row.length c) row ∧ Below w.heap.size w w'
theorem rowNow_any {w : World} {F : Nat → Prop} {t : Nat} {st : St} {L : Lay} {bv : Nat → Value} (h : TreeIs w F t st L bv) {d : Nat} {x : Nd} (hx : st.nodes[d]? = some x) (hd : x.dir = true) :
    Calls Tryz.prog 84 #[.pointer (some ⟨L.nb d, 0, none⟩)] w fun e w' => RowEnds w L (rowOf st d) e w' := by
  obtain ⟨v, c4, hv⟩ := (h.dir d x hx hd).bound
  cases hf : st.laid.find? (fun l => l.onto == d) with
  | none =>
    rw [hf] at hv
    have hv : v = .slice none 0 0 := hv
    subst hv
    refine (row_own (L.nb d) w c4).mono ?_
    rintro e w' ⟨rfl, rfl⟩
    have hr : rowOf st d = [⟨d, true⟩] := by unfold rowOf; rw [hf]
    rw [hr]
    refine ⟨_, 1, rfl, ?_, (Below.refl _ w).alloc (Nat.le_refl _) _⟩
    exact (Own.lit w #[.pointer (some ⟨L.nb d, 0, none⟩), .bool true] 165 2 rfl).mono (fun _ _ => trivial)
  | some l =>
    rw [hf] at hv
    obtain ⟨hp, hne⟩ := hv
    rcases hp.opened with ⟨rfl, hn⟩ | ⟨g, cap, rfl, _⟩
    · exact absurd (List.map_eq_nil_iff.1 hn) hne
    · have hr : rowOf st d = l.row := by unfold rowOf; rw [hf]
      have hlen : (l.row.map (mCells L)).length = l.row.length := by simp
      rw [hlen] at c4 hp
      refine (row_bound (L.nb d) _ _ _ w c4).mono ?_
      rintro e w' ⟨rfl, rfl⟩
      rw [hr]
      exact ⟨_, _, rfl, hp.mono (fun _ _ => trivial), Below.refl _ _⟩

/-- How bind ends. -/
def BindEnds (w : World) (L : Lay) (b : Nat) (row : List Member) (good : Bool) (e : Ending) (w' : World) : Prop :=
  (good = false ∧ e = .returned (.int .i64 1) ∧ Below w.heap.size w w') ∨
  (good = true ∧ 6 < row.length ∧ e = .returned (.int .i64 11) ∧ Below w.heap.size w w') ∨
  (good = true ∧ ¬ 6 < row.length ∧ e = .returned (.int .i64 0) ∧ ∃ w2 v, w' = w2.setCell ⟨L.nb b, 4, none⟩ v ∧ Below w.heap.size w w2 ∧ PRow w2 (fun k => w.heap.size ≤ k ∧ k < w2.heap.size) L v row)

section
variable {w : World} {F : Nat → Prop} {t : Nat} {st : St} {L : Lay} {bv : Nat → Value}

set_option maxRecDepth 20000 in
set_option maxHeartbeats 1000000 in
theorem bind_bad (b a : Nat) (how : Int) (hr : -9223372036854775808 ≤ how ∧ how ≤ 9223372036854775807) (hb : howOk how = false) (w : World) :
    Calls Tryz.prog 60 #[.pointer (some ⟨b, 0, none⟩), .pointer (some ⟨a, 0, none⟩), .int .i64 how] w fun e w' => e = .returned (.int .i64 1) ∧ Below w.heap.size w w' := by
  obtain ⟨e0, e1, e2⟩ := how_bad hr hb
  clear hr hb
  go_enter Tryz.func60, Tryz.ntmps60
  go_wp2
  go_ret
  exact ⟨rfl, (Below.refl _ w).alloc (Nat.le_refl _) _⟩

/-- The row of the one that is bound. -/
theorem one_row (w : World) (a : Nat) (l : Bool) : PRow (w.alloc (.cells #[.pointer (some ⟨L.nb a, 0, none⟩), .bool l] 165)) (fun k => k = w.heap.size) L (.slice (some ⟨w.heap.size, 0, none⟩) 1 1) [⟨a, l⟩] :=
  Own.lit w #[.pointer (some ⟨L.nb a, 0, none⟩), .bool l] 165 2 rfl

set_option maxRecDepth 20000 in
set_option maxHeartbeats 1000000 in
theorem bind_replace (h : TreeIs w F t st L bv) {b a : Nat} {x : Nd} (hx : st.nodes[b]? = some x) (hd : x.dir = true) (how : Int) (hh : how = 0 ∨ how = 4) :
    Calls Tryz.prog 60 #[.pointer (some ⟨L.nb b, 0, none⟩), .pointer (some ⟨L.nb a, 0, none⟩), .int .i64 how] w fun e w' => BindEnds w L b [⟨a, decide (4 ≤ how)⟩] true e w' := by
  obtain ⟨u, c4, _⟩ := (h.dir b x hx hd).bound
  have f4 := (h.dir b x hx hd).blk.fz 4
  have hlt := (h.dir b x hx hd).blk.lt
  have d4 := fun o => up c4 o
  have g4 : ∀ o, (w.alloc o).frozen? ⟨L.nb b, 4, none⟩ = false := fun o => by
    have := ((Below.refl w.heap.size w).alloc (Nat.le_refl _) o).frozen (p := ⟨L.nb b, 4, none⟩) hlt
    exact this.trans f4
  clear h hx hd
  obtain ⟨b1, b2, _⟩ := bitsA
  obtain ⟨q1, q2, _⟩ := bitsB
  rcases hh with rfl | rfl
  all_goals
    go_enter Tryz.func60, Tryz.ntmps60
    go_wp2
    go_ret
    refine .inr (.inr ⟨rfl, by simp, rfl, w.alloc _, .slice (some ⟨w.heap.size, 0, none⟩) 1 1, (World.setCell_alloc_past _ (L.nb b) 4 _ hlt).symm, (Below.refl _ w).alloc (Nat.le_refl _) _, ?_⟩)
    exact (one_row w a _).mono (fun k hk => by subst hk; simp)

set_option maxRecDepth 20000 in
set_option maxHeartbeats 1000000 in
theorem bind_before (h : TreeIs w F t st L bv) {b a : Nat} {x : Nd} (hx : st.nodes[b]? = some x) (hd : x.dir = true) (hl : (rowOf st b).length ≤ 6) (how : Int) (hh : how = 1 ∨ how = 5) :
    Calls Tryz.prog 60 #[.pointer (some ⟨L.nb b, 0, none⟩), .pointer (some ⟨L.nb a, 0, none⟩), .int .i64 how] w fun e w' => BindEnds w L b (⟨a, decide (4 ≤ how)⟩ :: rowOf st b) true e w' := by
  obtain ⟨u, c4, _⟩ := (h.dir b x hx hd).bound
  have f4 := (h.dir b x hx hd).blk.fz 4
  have hlt := (h.dir b x hx hd).blk.lt
  have HT := hide h
  have Hx := hide hx
  obtain ⟨R, hR⟩ : ∃ R, rowOf st b = R := ⟨_, rfl⟩
  have HRow := hide (fun (l : Bool) => rowNow_any (h.kept (KeepX.below ((Below.refl _ w).alloc (Nat.le_refl _) (.cells #[.pointer (some ⟨L.nb a, 0, none⟩), .bool l] 165)))) hx hd)
  rw [hR] at HRow hl ⊢
  clear h hx hR
  obtain ⟨_, _, b1, b2, _⟩ := bitsA
  obtain ⟨_, _, q1, q2, _⟩ := bitsB
  rcases hh with rfl | rfl
  · go_enter Tryz.func60, Tryz.ntmps60
    go_wp2_with fail
    refine (HRow.out false).mono ?_
    rintro e w1 ⟨ao, c, rfl, hp1, hb1⟩
    have hbw : Below w.heap.size w w1 := ((Below.refl _ w).alloc (Nat.le_refl _) _).trans (hb1.mono (by simp))
    have hz1 : w.heap.size < w1.heap.size := by have := hb1.size; simp at this; omega
    have hbA : Below w1.heap.size w1 (w1.alloc (.cells #[.slice (some ⟨w.heap.size, 0, none⟩) 1 1, .slice ao R.length c] 117)) := (Below.refl _ w1).alloc (Nat.le_refl _) _
    have ho1 : PRow (w1.alloc (.cells #[.slice (some ⟨w.heap.size, 0, none⟩) 1 1, .slice ao R.length c] 117)) (fun _ => True) L (.slice (some ⟨w.heap.size, 0, none⟩) 1 1) [⟨a, false⟩] := Own.keptBlock ((one_row (L := L) w a false).mono (F' := fun _ => True) (fun _ _ => trivial)) (fun k hk => by
      simp [Value.ownBlock] at hk
      subst hk
      exact (hbA.block _ hz1).trans (hb1.block _ (by simp)))
    have hr1 : PRow (w1.alloc (.cells #[.slice (some ⟨w.heap.size, 0, none⟩) 1 1, .slice ao R.length c] 117)) (fun _ => True) L (.slice ao R.length c) R := PRow.kept (T := fun _ => True) (M := True) hp1 (KeepX.below hbA) trivial
    have hnew := heap_alloc_new w1 (.cells #[.slice (some ⟨w.heap.size, 0, none⟩) 1 1, .slice ao R.length c] 117)
    have HCc := hide (concat_any [⟨a, false⟩] R (some ⟨w.heap.size, 0, none⟩) ao 1 c w1.heap.size ho1 hr1 (by simp; omega) (by simp only [World.cell?, hnew]; rfl) (by simp only [World.cell?, hnew]; rfl))
    rw [show ConcatEnds (w1.alloc (.cells #[.slice (some ⟨w.heap.size, 0, none⟩) 1 1, .slice ao R.length c] 117)) L (List.length [(⟨a, false⟩ : Member)] + R.length) ([⟨a, false⟩] ++ R) = ConcatEnds (w1.alloc (.cells #[.slice (some ⟨w.heap.size, 0, none⟩) 1 1, .slice ao R.length c] 117)) L (1 + R.length) ([⟨a, false⟩] ++ R) from rfl] at HCc
    have HBw := hide (hbw.trans ((hbA.mono (by omega)) : Below w.heap.size w1 _))
    have HzA := hide hz1
    clear hp1 hb1 hbw hbA ho1 hr1 hnew hz1
    go_wp2_with fail
    refine HCc.out.mono ?_
    rintro e w2 ⟨ao2, c2, rfl, hp2, hb2⟩
    have hb3 : Below w.heap.size w w2 := HBw.out.trans (hb2.mono (by have := HBw.out.size; exact this))
    have q4 : w2.cell? ⟨L.nb b, 4, none⟩ = some u := (hb3.cell (p := ⟨L.nb b, 4, none⟩) hlt).trans c4
    have z4 : w2.frozen? ⟨L.nb b, 4, none⟩ = false := (hb3.frozen (p := ⟨L.nb b, 4, none⟩) hlt).trans f4
    have HB3 := hide hb3
    have HP2 := hide (PRow.mono hp2 (F' := fun k => w.heap.size ≤ k ∧ k < w2.heap.size) (fun k hk => ⟨by have := HBw.out.size; omega, hk.2⟩))
    clear hp2 hb2 hb3
    by_cases hbig : 6 < 1 + R.length
    · have hbig' : (6 : Int) < ((1 + R.length : Nat) : Int) := by omega
      have hbig2 : (6 : Int) < 1 + (R.length : Int) := by omega
      go_wp2
      go_ret
      exact .inr (.inl ⟨rfl, by simp; omega, rfl, HB3.out⟩)
    · have hbig' : ¬ (6 : Int) < ((1 + R.length : Nat) : Int) := by omega
      have hbig2 : ¬ (6 : Int) < 1 + (R.length : Int) := by omega
      go_wp2
      go_ret
      exact .inr (.inr ⟨rfl, by simp; omega, rfl, w2, _, rfl, HB3.out, HP2.out⟩)
  · go_enter Tryz.func60, Tryz.ntmps60
    go_wp2_with fail
    refine (HRow.out true).mono ?_
    rintro e w1 ⟨ao, c, rfl, hp1, hb1⟩
    have hbw : Below w.heap.size w w1 := ((Below.refl _ w).alloc (Nat.le_refl _) _).trans (hb1.mono (by simp))
    have hz1 : w.heap.size < w1.heap.size := by have := hb1.size; simp at this; omega
    have hbA : Below w1.heap.size w1 (w1.alloc (.cells #[.slice (some ⟨w.heap.size, 0, none⟩) 1 1, .slice ao R.length c] 117)) := (Below.refl _ w1).alloc (Nat.le_refl _) _
    have ho1 : PRow (w1.alloc (.cells #[.slice (some ⟨w.heap.size, 0, none⟩) 1 1, .slice ao R.length c] 117)) (fun _ => True) L (.slice (some ⟨w.heap.size, 0, none⟩) 1 1) [⟨a, true⟩] := Own.keptBlock ((one_row (L := L) w a true).mono (F' := fun _ => True) (fun _ _ => trivial)) (fun k hk => by
      simp [Value.ownBlock] at hk
      subst hk
      exact (hbA.block _ hz1).trans (hb1.block _ (by simp)))
    have hr1 : PRow (w1.alloc (.cells #[.slice (some ⟨w.heap.size, 0, none⟩) 1 1, .slice ao R.length c] 117)) (fun _ => True) L (.slice ao R.length c) R := PRow.kept (T := fun _ => True) (M := True) hp1 (KeepX.below hbA) trivial
    have hnew := heap_alloc_new w1 (.cells #[.slice (some ⟨w.heap.size, 0, none⟩) 1 1, .slice ao R.length c] 117)
    have HCc := hide (concat_any [⟨a, true⟩] R (some ⟨w.heap.size, 0, none⟩) ao 1 c w1.heap.size ho1 hr1 (by simp; omega) (by simp only [World.cell?, hnew]; rfl) (by simp only [World.cell?, hnew]; rfl))
    rw [show ConcatEnds (w1.alloc (.cells #[.slice (some ⟨w.heap.size, 0, none⟩) 1 1, .slice ao R.length c] 117)) L (List.length [(⟨a, true⟩ : Member)] + R.length) ([⟨a, true⟩] ++ R) = ConcatEnds (w1.alloc (.cells #[.slice (some ⟨w.heap.size, 0, none⟩) 1 1, .slice ao R.length c] 117)) L (1 + R.length) ([⟨a, true⟩] ++ R) from rfl] at HCc
    have HBw := hide (hbw.trans ((hbA.mono (by omega)) : Below w.heap.size w1 _))
    have HzA := hide hz1
    clear hp1 hb1 hbw hbA ho1 hr1 hnew hz1
    go_wp2_with fail
    refine HCc.out.mono ?_
    rintro e w2 ⟨ao2, c2, rfl, hp2, hb2⟩
    have hb3 : Below w.heap.size w w2 := HBw.out.trans (hb2.mono (by have := HBw.out.size; exact this))
    have q4 : w2.cell? ⟨L.nb b, 4, none⟩ = some u := (hb3.cell (p := ⟨L.nb b, 4, none⟩) hlt).trans c4
    have z4 : w2.frozen? ⟨L.nb b, 4, none⟩ = false := (hb3.frozen (p := ⟨L.nb b, 4, none⟩) hlt).trans f4
    have HB3 := hide hb3
    have HP2 := hide (PRow.mono hp2 (F' := fun k => w.heap.size ≤ k ∧ k < w2.heap.size) (fun k hk => ⟨by have := HBw.out.size; omega, hk.2⟩))
    clear hp2 hb2 hb3
    by_cases hbig : 6 < 1 + R.length
    · have hbig' : (6 : Int) < ((1 + R.length : Nat) : Int) := by omega
      have hbig2 : (6 : Int) < 1 + (R.length : Int) := by omega
      go_wp2
      go_ret
      exact .inr (.inl ⟨rfl, by simp; omega, rfl, HB3.out⟩)
    · have hbig' : ¬ (6 : Int) < ((1 + R.length : Nat) : Int) := by omega
      have hbig2 : ¬ (6 : Int) < 1 + (R.length : Int) := by omega
      go_wp2
      go_ret
      exact .inr (.inr ⟨rfl, by simp; omega, rfl, w2, _, rfl, HB3.out, HP2.out⟩)

set_option maxRecDepth 20000 in
set_option maxHeartbeats 1000000 in
theorem bind_after (h : TreeIs w F t st L bv) {b a : Nat} {x : Nd} (hx : st.nodes[b]? = some x) (hd : x.dir = true) (hl : (rowOf st b).length ≤ 6) (how : Int) (hh : how = 2 ∨ how = 6) :
    Calls Tryz.prog 60 #[.pointer (some ⟨L.nb b, 0, none⟩), .pointer (some ⟨L.nb a, 0, none⟩), .int .i64 how] w fun e w' => BindEnds w L b (rowOf st b ++ [⟨a, decide (4 ≤ how)⟩]) true e w' := by
  obtain ⟨u, c4, _⟩ := (h.dir b x hx hd).bound
  have f4 := (h.dir b x hx hd).blk.fz 4
  have hlt := (h.dir b x hx hd).blk.lt
  have HT := hide h
  have Hx := hide hx
  obtain ⟨R, hR⟩ : ∃ R, rowOf st b = R := ⟨_, rfl⟩
  have HRow := hide (fun (l : Bool) => rowNow_any (h.kept (KeepX.below ((Below.refl _ w).alloc (Nat.le_refl _) (.cells #[.pointer (some ⟨L.nb a, 0, none⟩), .bool l] 165)))) hx hd)
  rw [hR] at HRow hl ⊢
  clear h hx hR
  obtain ⟨_, _, _, _, b1, b2⟩ := bitsA
  obtain ⟨_, _, _, _, q1, q2⟩ := bitsB
  rcases hh with rfl | rfl
  · go_enter Tryz.func60, Tryz.ntmps60
    go_wp2_with fail
    refine (HRow.out false).mono ?_
    rintro e w1 ⟨ao, c, rfl, hp1, hb1⟩
    have hbw : Below w.heap.size w w1 := ((Below.refl _ w).alloc (Nat.le_refl _) _).trans (hb1.mono (by simp))
    have hz1 : w.heap.size < w1.heap.size := by have := hb1.size; simp at this; omega
    have hbA : Below w1.heap.size w1 (w1.alloc (.cells #[.slice ao R.length c, .slice (some ⟨w.heap.size, 0, none⟩) 1 1] 117)) := (Below.refl _ w1).alloc (Nat.le_refl _) _
    have ho1 : PRow (w1.alloc (.cells #[.slice ao R.length c, .slice (some ⟨w.heap.size, 0, none⟩) 1 1] 117)) (fun _ => True) L (.slice (some ⟨w.heap.size, 0, none⟩) 1 1) [⟨a, false⟩] := Own.keptBlock ((one_row (L := L) w a false).mono (F' := fun _ => True) (fun _ _ => trivial)) (fun k hk => by
      simp [Value.ownBlock] at hk
      subst hk
      exact (hbA.block _ hz1).trans (hb1.block _ (by simp)))
    have hr1 : PRow (w1.alloc (.cells #[.slice ao R.length c, .slice (some ⟨w.heap.size, 0, none⟩) 1 1] 117)) (fun _ => True) L (.slice ao R.length c) R := PRow.kept (T := fun _ => True) (M := True) hp1 (KeepX.below hbA) trivial
    have hnew := heap_alloc_new w1 (.cells #[.slice ao R.length c, .slice (some ⟨w.heap.size, 0, none⟩) 1 1] 117)
    have HCc := hide (concat_any R [⟨a, false⟩] ao (some ⟨w.heap.size, 0, none⟩) c 1 w1.heap.size hr1 ho1 (by simp; omega) (by simp only [World.cell?, hnew]; rfl) (by simp only [World.cell?, hnew]; rfl))
    rw [show ConcatEnds (w1.alloc (.cells #[.slice ao R.length c, .slice (some ⟨w.heap.size, 0, none⟩) 1 1] 117)) L (R.length + List.length [(⟨a, false⟩ : Member)]) (R ++ [⟨a, false⟩]) = ConcatEnds (w1.alloc (.cells #[.slice ao R.length c, .slice (some ⟨w.heap.size, 0, none⟩) 1 1] 117)) L (R.length + 1) (R ++ [⟨a, false⟩]) from rfl] at HCc
    have HBw := hide (hbw.trans ((hbA.mono (by omega)) : Below w.heap.size w1 _))
    have HzA := hide hz1
    clear hp1 hb1 hbw hbA ho1 hr1 hnew hz1
    go_wp2_with fail
    refine HCc.out.mono ?_
    rintro e w2 ⟨ao2, c2, rfl, hp2, hb2⟩
    have hb3 : Below w.heap.size w w2 := HBw.out.trans (hb2.mono (by have := HBw.out.size; exact this))
    have q4 : w2.cell? ⟨L.nb b, 4, none⟩ = some u := (hb3.cell (p := ⟨L.nb b, 4, none⟩) hlt).trans c4
    have z4 : w2.frozen? ⟨L.nb b, 4, none⟩ = false := (hb3.frozen (p := ⟨L.nb b, 4, none⟩) hlt).trans f4
    have HB3 := hide hb3
    have HP2 := hide (PRow.mono hp2 (F' := fun k => w.heap.size ≤ k ∧ k < w2.heap.size) (fun k hk => ⟨by have := HBw.out.size; omega, hk.2⟩))
    clear hp2 hb2 hb3
    by_cases hbig : 6 < R.length + 1
    · have hbig' : (6 : Int) < ((R.length + 1 : Nat) : Int) := by omega
      have hbig2 : (6 : Int) < (R.length : Int) + 1 := by omega
      go_wp2
      go_ret
      exact .inr (.inl ⟨rfl, by simp; omega, rfl, HB3.out⟩)
    · have hbig' : ¬ (6 : Int) < ((R.length + 1 : Nat) : Int) := by omega
      have hbig2 : ¬ (6 : Int) < (R.length : Int) + 1 := by omega
      go_wp2
      go_ret
      exact .inr (.inr ⟨rfl, by simp; omega, rfl, w2, _, rfl, HB3.out, HP2.out⟩)
  · go_enter Tryz.func60, Tryz.ntmps60
    go_wp2_with fail
    refine (HRow.out true).mono ?_
    rintro e w1 ⟨ao, c, rfl, hp1, hb1⟩
    have hbw : Below w.heap.size w w1 := ((Below.refl _ w).alloc (Nat.le_refl _) _).trans (hb1.mono (by simp))
    have hz1 : w.heap.size < w1.heap.size := by have := hb1.size; simp at this; omega
    have hbA : Below w1.heap.size w1 (w1.alloc (.cells #[.slice ao R.length c, .slice (some ⟨w.heap.size, 0, none⟩) 1 1] 117)) := (Below.refl _ w1).alloc (Nat.le_refl _) _
    have ho1 : PRow (w1.alloc (.cells #[.slice ao R.length c, .slice (some ⟨w.heap.size, 0, none⟩) 1 1] 117)) (fun _ => True) L (.slice (some ⟨w.heap.size, 0, none⟩) 1 1) [⟨a, true⟩] := Own.keptBlock ((one_row (L := L) w a true).mono (F' := fun _ => True) (fun _ _ => trivial)) (fun k hk => by
      simp [Value.ownBlock] at hk
      subst hk
      exact (hbA.block _ hz1).trans (hb1.block _ (by simp)))
    have hr1 : PRow (w1.alloc (.cells #[.slice ao R.length c, .slice (some ⟨w.heap.size, 0, none⟩) 1 1] 117)) (fun _ => True) L (.slice ao R.length c) R := PRow.kept (T := fun _ => True) (M := True) hp1 (KeepX.below hbA) trivial
    have hnew := heap_alloc_new w1 (.cells #[.slice ao R.length c, .slice (some ⟨w.heap.size, 0, none⟩) 1 1] 117)
    have HCc := hide (concat_any R [⟨a, true⟩] ao (some ⟨w.heap.size, 0, none⟩) c 1 w1.heap.size hr1 ho1 (by simp; omega) (by simp only [World.cell?, hnew]; rfl) (by simp only [World.cell?, hnew]; rfl))
    rw [show ConcatEnds (w1.alloc (.cells #[.slice ao R.length c, .slice (some ⟨w.heap.size, 0, none⟩) 1 1] 117)) L (R.length + List.length [(⟨a, true⟩ : Member)]) (R ++ [⟨a, true⟩]) = ConcatEnds (w1.alloc (.cells #[.slice ao R.length c, .slice (some ⟨w.heap.size, 0, none⟩) 1 1] 117)) L (R.length + 1) (R ++ [⟨a, true⟩]) from rfl] at HCc
    have HBw := hide (hbw.trans ((hbA.mono (by omega)) : Below w.heap.size w1 _))
    have HzA := hide hz1
    clear hp1 hb1 hbw hbA ho1 hr1 hnew hz1
    go_wp2_with fail
    refine HCc.out.mono ?_
    rintro e w2 ⟨ao2, c2, rfl, hp2, hb2⟩
    have hb3 : Below w.heap.size w w2 := HBw.out.trans (hb2.mono (by have := HBw.out.size; exact this))
    have q4 : w2.cell? ⟨L.nb b, 4, none⟩ = some u := (hb3.cell (p := ⟨L.nb b, 4, none⟩) hlt).trans c4
    have z4 : w2.frozen? ⟨L.nb b, 4, none⟩ = false := (hb3.frozen (p := ⟨L.nb b, 4, none⟩) hlt).trans f4
    have HB3 := hide hb3
    have HP2 := hide (PRow.mono hp2 (F' := fun k => w.heap.size ≤ k ∧ k < w2.heap.size) (fun k hk => ⟨by have := HBw.out.size; omega, hk.2⟩))
    clear hp2 hb2 hb3
    by_cases hbig : 6 < R.length + 1
    · have hbig' : (6 : Int) < ((R.length + 1 : Nat) : Int) := by omega
      have hbig2 : (6 : Int) < (R.length : Int) + 1 := by omega
      go_wp2
      go_ret
      exact .inr (.inl ⟨rfl, by simp; omega, rfl, HB3.out⟩)
    · have hbig' : ¬ (6 : Int) < ((R.length + 1 : Nat) : Int) := by omega
      have hbig2 : ¬ (6 : Int) < (R.length : Int) + 1 := by omega
      go_wp2
      go_ret
      exact .inr (.inr ⟨rfl, by simp; omega, rfl, w2, _, rfl, HB3.out, HP2.out⟩)
end
end Go.Proofs.YtdmdgnghaceibaaGreat.P
/- The program's 'directories'. -/
namespace Go.Proofs.YtdmdgnghaceibaaGreat.P
open M Go.ChangeShapes Go.WideShapes Go.ChangeAt Go.RowKit
set_option linter.unusedVariables false

/-- A slice of nodes. -/
def NodesAt (w : World) (L : Lay) (v : Value) (is : List Nat) : Prop := Own w (fun _ => True) 115 1 v (is.map (fun i => [nodeV L i]))
def goneAt (st : St) (is : List Nat) : Option Nat := is.findIdx? (fun i => isGone st i)
abbrev isGoneFn : Value := .func (.methodOf 115 "warren/warren.isGone") #[] #[]

set_option maxRecDepth 20000 in
set_option maxHeartbeats 1000000 in
theorem gindex_any {w : World} {F : Nat → Prop} {t : Nat} {st : St} {L : Lay} {bv : Nat → Value} (is : List Nat) (v : Value) (h : TreeIs w F t st L bv) (hv : NodesAt w L v is) (hi : ∀ i ∈ is, i < st.nodes.length) (hne : is ≠ []) :
    Calls Tryz.prog 134 #[v, isGoneFn] w fun e w' => e = .returned (.int .i64 (idxV (goneAt st is))) ∧ w' = w := by
  rcases hv.opened with ⟨rfl, hn⟩ | ⟨g, cap, rfl, hcap, hmax, hF, hb, hcell, hfz⟩
  · exact absurd (List.map_eq_nil_iff.1 hn) hne
  · have hlen : (is.map (fun i => [nodeV L i])).length = is.length := by simp
    rw [hlen] at hcap
    rw [hlen]
    unfold maxLen at hmax
    have HT := hide h
    have Hc := hide hcell
    have Hi := hide hi
    have m1 := m_isGoneD
    have m2 := m_isGoneF
    clear h hb hcell hfz hv hi hF hlen hne
    go_enter Tryz.func134, Tryz.ntmps134
    go_wp2
    go_loop [8] (fun i => ∃ k : Nat, k ≤ is.length ∧ i = .int .i64 k ∧ ∀ j m, j < k → is[j]? = some m → isGone st m = false) (fun i => is.length - (intOf i).toNat)
    case atStart => exact ⟨0, Nat.zero_le _, rfl, fun j m hj => by omega⟩
    case round =>
      obtain ⟨k, hk, rfl, hsee⟩ := hrel
      have Hsee := hide hsee
      clear hsee
      by_cases hlt : k < is.length
      · obtain ⟨i, hii⟩ := M.getElem?_of_lt hlt
        have hil := Hi.out i (List.mem_of_getElem? hii)
        have hg := HT.out.gone hil
        have r0 : w.cell? ⟨g, k, none⟩ = some (nodeV L i) := by
          have := Hc.out k [nodeV L i] 0 _ (by rw [List.getElem?_map, hii]; rfl) rfl
          simpa using this
        have Hii := hide hii
        have k0 : (0 : Int) ≤ (k : Int) := by omega
        have k1 : (k : Int) < (is.length : Int) := by omega
        clear hii
        cases hgv : isGone st i with
        | true =>
          rw [hgv] at hg
          have Hgv := hide hgv
          clear hgv
          rcases nodeV_cases L i with e | e
          all_goals
            rw [e] at r0
            clear e
            go_wp2_with (go_at_call 94; refine (isGone_any _ _ _ hg).mono ?_; rintro e w' ⟨rfl, hw⟩; obtain rfl := hw.symm)
            go_ret
            have e : goneAt st is = some k := findIdx?_some_of _ _ k i Hii.out Hgv.out Hsee.out
            exact ⟨by rw [e]; rfl, rfl⟩
        | false =>
          rw [hgv] at hg
          have Hgv := hide hgv
          clear hgv
          rcases nodeV_cases L i with e | e
          all_goals
            rw [e] at r0
            clear e
            go_wp2_with (go_at_call 94; refine (isGone_any _ _ _ hg).mono ?_; rintro e w' ⟨rfl, hw⟩; obtain rfl := hw.symm)
            go_round
            case rel =>
              refine ⟨k + 1, by omega, by go_num, fun j m' hj hm' => ?_⟩
              by_cases e : j = k
              · subst e
                rw [Hii.out] at hm'
                cases hm'
                exact Hgv.out
              · exact Hsee.out j m' (by omega) hm'
            case measure => simp [intOf]; omega
      · go_wp2
        go_ret
        have e : goneAt st is = none := findIdx?_none_of _ _ (fun j m hm => Hsee.out j m (by have := M.lt_of_getElem? hm; omega) hm)
        exact ⟨by rw [e]; rfl, rfl⟩

theorem goneAt_some (st : St) (is : List Nat) : (goneAt st is).isSome = is.any (fun i => isGone st i) := by
  unfold goneAt
  rw [List.findIdx?_isSome]

set_option maxRecDepth 20000 in
theorem gcontains_any {w : World} {F : Nat → Prop} {t : Nat} {st : St} {L : Lay} {bv : Nat → Value} (is : List Nat) (v : Value) (h : TreeIs w F t st L bv) (hv : NodesAt w L v is) (hi : ∀ i ∈ is, i < st.nodes.length) (hne : is ≠ []) :
    Calls Tryz.prog 101 #[v, isGoneFn] w fun e w' => e = .returned (.bool (is.any (fun i => isGone st i))) ∧ w' = w := by
  have HC := hide (gindex_any is v h hv hi hne)
  have Hs := hide (goneAt_some st is)
  clear h hv hi hne
  cases ho : goneAt st is with
  | none =>
    rw [ho] at HC Hs
    simp only [idxV] at HC
    go_enter Tryz.func101, Tryz.ntmps101
    go_wp2_with (go_at_call 134; refine HC.out.mono ?_; rintro e w2 ⟨rfl, hw⟩; obtain rfl := hw.symm)
    go_ret
    exact ⟨by rw [← Hs.out]; rfl, rfl⟩
  | some k =>
    rw [ho] at HC Hs
    simp only [idxV] at HC
    have k0 : (0 : Int) ≤ (k : Int) := by omega
    go_enter Tryz.func101, Tryz.ntmps101
    go_wp2_with (go_at_call 134; refine HC.out.mono ?_; rintro e w2 ⟨rfl, hw⟩; obtain rfl := hw.symm)
    go_ret
    exact ⟨by rw [← Hs.out]; rfl, rfl⟩

/-! ### Slices that were made -/
theorem infoNode : (Tryz.prog.info? 115).map (fun i => (i.zero, i.size, i.bytes)) = some (some .nilIface, 1, 16) := by kernel_rfl
theorem infoDirPtr : (Tryz.prog.info? 87).map (fun i => (i.zero, i.size, i.bytes)) = some (some (.pointer none), 1, 8) := by kernel_rfl
theorem make_nodes (m : Nat) (hm : m ≤ 1000) : ∃ M : Array Value, M.size = m ∧ ∀ W : World, (Instr.makeSlice 176 (.int .i64 (m : Int)) (.int .i64 (m : Int))).run Tryz.prog W = .ok (.slice (some ⟨W.heap.size, 0, none⟩) m m) (W.alloc (.cells M 115)) := by
  obtain ⟨i0, hi, hz0, hz1, hz2⟩ := info_parts infoNode
  refine ⟨madeCells (Value.cells .nilIface) (((m : Nat) : Int).toNat * i0.size), by rw [size_madeCells, hz1]; simp, fun W => ?_⟩
  have h := run_make (P := Tryz.prog) W 176 115 i0 .nilIface Tryz.underlying176 hi hz0 .i64 .i64 (m : Int) (m : Int) (by omega) (by omega) (by rw [hz2]; omega) (by omega)
  simpa using h
theorem make_dirs (m : Nat) (hm : m ≤ 1000) : ∃ M : Array Value, M.size = m ∧ ∀ W : World, (Instr.makeSlice 132 (.int .i64 (m : Int)) (.int .i64 (m : Int))).run Tryz.prog W = .ok (.slice (some ⟨W.heap.size, 0, none⟩) m m) (W.alloc (.cells M 87)) := by
  obtain ⟨i0, hi, hz0, hz1, hz2⟩ := info_parts infoDirPtr
  refine ⟨madeCells (Value.cells (.pointer none)) (((m : Nat) : Int).toNat * i0.size), by rw [size_madeCells, hz1]; simp, fun W => ?_⟩
  have h := run_make (P := Tryz.prog) W 132 87 i0 (.pointer none) Tryz.underlying132 hi hz0 .i64 .i64 (m : Int) (m : Int) (by omega) (by omega) (by rw [hz2]; omega) (by omega)
  simpa using h
theorem own_made (W : World) (M : Array Value) (e : TypeId) (m : Nat) (hm : M.size = m) (hl : m ≤ maxLen) : Own (W.alloc (.cells M e)) (fun _ => True) e 1 (.slice (some ⟨W.heap.size, 0, none⟩) m m) (M.toList.map (fun x => [x])) := by
  have hf : (M.toList.map (fun x => [x])).flatten = M.toList := by
    generalize M.toList = l
    induction l with
    | nil => rfl
    | cons x l ih => simp only [List.map_cons, List.flatten_cons, ih]; rfl
  have hlen : (M.toList.map (fun x => [x])).length = m := by simp [hm]
  refine ⟨⟨by rw [hf, hlen]; simp [hm], .inr ⟨W.heap.size, m, M, by rw [hlen], Nat.zero_le _, heap_alloc_new W _, by rw [hlen]; omega, hl, by omega, ?_⟩⟩, by simp, fun _ _ => trivial⟩
  rw [hf, hlen, List.take_of_length_le (by simp; omega)]
end Go.Proofs.YtdmdgnghaceibaaGreat.P
/- The program's 'directories', walked. -/
namespace Go.Proofs.YtdmdgnghaceibaaGreat.P
open M Go.ChangeShapes Go.WideShapes Go.ChangeAt Go.RowKit
set_option linter.unusedVariables false

/-- The node's number at which a fid stands. -/
def nodeAt (st : St) (n : Int) : Nat := match fidAt st n with | some f => nodeOf f | none => 0
def nodesAt (st : St) (fs : List Int) : List Nat := fs.map (nodeAt st)
def dirsE (st : St) (fs : List Int) : Int :=
  if fs.any (fun n => (find st n).isNone) then 2 else if (nodesAt st fs).any (fun i => isGone st i) then 4 else if (nodesAt st fs).any (fun i => !isDir st i) then 5 else 0

/-- How 'directories' ends. -/
def DirsEnds (w : World) (L : Lay) (st : St) (fs : List Int) (e : Ending) (w' : World) : Prop :=
  (dirsE st fs ≠ 0 ∧ e = .returned (.tuple #[.slice none 0 0, .int .i64 (dirsE st fs)]) ∧ Below w.heap.size w w') ∨
  (dirsE st fs = 0 ∧ ∃ g, e = .returned (.tuple #[.slice (some ⟨g, 0, none⟩) fs.length fs.length, .int .i64 0]) ∧ Own w' (fun _ => True) 87 1 (.slice (some ⟨g, 0, none⟩) fs.length fs.length) ((nodesAt st fs).map (fun i => [dirPtr L i])) ∧ Below w.heap.size w w')

/-- A fid that stands: what is seen of it. -/
theorem stand_at {w : World} {F : Nat → Prop} {s t : Nat} {st : St} {lk : Int} {L : Lay} {bv : Nat → Value} (hS : SrvHas w F s st lk t L bv) (ok : POk st) (n : Int) (hn : (find st n).isNone = false) :
    ∃ k p : Nat, n = (k : Int) ∧ k < 51 ∧ w.cell? ⟨s, 7 + k * 2, none⟩ = some (.pointer (some ⟨p, 0, none⟩)) ∧ w.cell? ⟨p, 0, none⟩ = some (nodeV L (nodeAt st n)) ∧ nodeAt st n < st.nodes.length := by
  rcases fid_cases hS ok.fids n with ⟨hf, _⟩ | ⟨k, i, f, p, rfl, hk, hf, hi, hfn, ha, c7, c8, hp⟩
  · rw [hf] at hn; simp at hn
  · obtain ⟨sp, hsp, d0, _, _⟩ := place_last hp
    have hno : nodeAt st (k : Int) = sp.n := by simp [nodeAt, ha, nodeOf, hsp]
    exact ⟨k, p, rfl, hk, c7, by rw [hno]; exact d0, by rw [hno]; exact ((ok.way f (List.mem_of_getElem? hi)).2 sp (List.mem_of_getLast? hsp)).1⟩
theorem stand_no {w : World} {F : Nat → Prop} {s t : Nat} {st : St} {lk : Int} {L : Lay} {bv : Nat → Value} (hS : SrvHas w F s st lk t L bv) (ok : POk st) (n : Int) (hn : (find st n).isNone = true) :
    (fidOk n = false) ∨ ∃ k : Nat, n = k ∧ k < 51 ∧ w.cell? ⟨s, 7 + k * 2, none⟩ = some (.pointer none) ∧ w.cell? ⟨s, 7 + k * 2 + 1, none⟩ = some (.bool false) := by
  rcases fid_cases hS ok.fids n with ⟨hf, h⟩ | ⟨k, i, f, p, rfl, hk, hf, _⟩
  · exact h
  · rw [hf] at hn; simp at hn

/-- Row by row. -/
theorem rows_eq {is : List Nat} {rows : List (List Value)} {g : Nat → Value} (hl : rows.length = is.length) (h : ∀ j i, j < is.length → is[j]? = some i → rows[j]? = some [g i]) : rows = is.map (fun i => [g i]) := by
  apply List.ext_getElem?
  intro j
  by_cases hj : j < is.length
  · obtain ⟨i, hi⟩ := M.getElem?_of_lt hj
    rw [h j i hj hi, List.getElem?_map, hi]
    rfl
  · rw [List.getElem?_eq_none (by omega), List.getElem?_eq_none (by simp; omega)]

set_option maxRecDepth 20000 in
set_option maxHeartbeats 2000000 in
theorem dirs_any {w : World} {F : Nat → Prop} {s t : Nat} {st : St} {lk : Int} {L : Lay} {bv : Nat → Value} (hS : SrvHas w F s st lk t L bv) (ok : POk st) (fs : List Int) (fb c : Nat) (hl : fs.length ≤ 100) (hne : fs ≠ []) (hfs : ∀ (j : Nat) n, fs[j]? = some n → w.cell? ⟨fb, j, none⟩ = some (.int .i64 n)) :
    Calls Tryz.prog 59 #[.pointer (some ⟨s, 0, none⟩), .slice (some ⟨fb, 0, none⟩) fs.length c] w fun e w' => DirsEnds w L st fs e w' := by
  have hfb : fb < w.heap.size := by
    cases fs with
    | nil => exact absurd rfl hne
    | cons a r => exact World.block_lt_of_cell? w _ (hfs 0 a rfl)
  obtain ⟨M1, hM1, hmk1⟩ := make_nodes fs.length (by omega)
  obtain ⟨M2, hM2, hmk2⟩ := make_dirs fs.length (by omega)
  have hml : fs.length ≤ maxLen := by unfold maxLen; omega
  have hpos : 0 < fs.length := by cases fs with | nil => exact absurd rfl hne | cons a r => simp
  have HO1 := hide (own_made w M1 115 fs.length hM1 hml)
  have HO2 := hide (fun W => own_made W M2 87 fs.length hM2 hml)
  have HM := hide (And.intro hM1 hM2)
  have HS := hide hS
  have Hok := hide ok
  have Hfs := hide hfs
  have Hne := hide hne
  have a1 := asDir
  have a2 := notDir
  have hnot : ∀ (x : Bool) (w : World), (Op.unary .not (.bool x)).run Tryz.prog w = .ok (.bool (!x)) w := fun _ _ => rfl
  have hmf : ∀ (fn : Fn) (first cap : Array Value) (w : World), (Instr.makeFunc fn first cap).run Tryz.prog w = .ok (.func fn first cap) w := fun _ _ _ _ => rfl
  have hslt := hS.blk.lt
  clear hS ok hfs hM1 hM2 hml hne
  go_enter Tryz.func59, Tryz.ntmps59
  go_wp2
  go_loopw [20] (fun i wr => ∃ (k : Nat) (rows : List (List Value)), k ≤ fs.length ∧ i = .int .i64 k ∧ Below w.heap.size w wr ∧ Own wr (fun _ => True) 115 1 (.slice (some ⟨w.heap.size, 0, none⟩) fs.length fs.length) rows ∧ rows.length = fs.length ∧ (∀ j n, j < k → fs[j]? = some n → (find st n).isNone = false ∧ rows[j]? = some [nodeV L (nodeAt st n)])) (fun i _ => fs.length - (intOf i).toNat)
  case atStart => exact ⟨0, _, Nat.zero_le _, rfl, (Below.refl _ w).alloc (Nat.le_refl _) _, HO1.out, by simp [HM.out.1], fun j n hj => by omega⟩
  case round =>
    obtain ⟨k, rows, hk, rfl, hbel, hown, hrl, hsee⟩ := hrel
    have Hbel := hide hbel
    have Hown := hide hown
    have Hsee := hide hsee
    have hSr := HS.out.below hbel
    by_cases hlt : k < fs.length
    · obtain ⟨n, hn⟩ := M.getElem?_of_lt hlt
      have hcn : wr.cell? ⟨fb, k, none⟩ = some (.int .i64 n) := (hbel.cell (p := ⟨fb, k, none⟩) hfb).trans (Hfs.out k n hn)
      have k0 : (0 : Int) ≤ (k : Int) := by omega
      have k1 : (k : Int) < (fs.length : Int) := by omega
      have Hn := hide hn
      cases hst : (find st n).isNone with
      | true =>
        have HStd := hide (standing_no (stand_no hSr Hok.out n hst))
        have HE := hide (show dirsE st fs = 2 by
          unfold dirsE
          rw [if_pos (List.any_eq_true.2 ⟨n, List.mem_of_getElem? hn, hst⟩)])
        clear hbel hown hsee hSr hst hn hrl
        go_wp2_with (go_at_call 45; refine HStd.out.mono ?_; rintro e w' ⟨rfl, hw⟩; obtain rfl := hw.symm)
        go_ret2
        exact .inl ⟨by rw [HE.out]; decide, by rw [HE.out]; rfl, Hbel.out⟩
      | false =>
        obtain ⟨q, p, rfl, hq, c7, d0, hnl⟩ := stand_at hSr Hok.out n hst
        have HStd := hide (standing_some s q p hq wr c7)
        obtain ⟨row, hrow⟩ := M.getElem?_of_lt (show k < rows.length by omega)
        obtain ⟨x, hx⟩ : ∃ x, row = [x] := by
          have := hown.2.1 row (List.mem_of_getElem? hrow)
          cases row with
          | nil => cases this
          | cons a r => cases r with
            | nil => exact ⟨a, rfl⟩
            | cons b r => simp at this
        subst hx
        rcases hown.opened with ⟨hv, _⟩ | ⟨g, cap, hv, hcap, _, _, _, hcell, hfz⟩
        · cases hv
        · simp only [Value.slice.injEq, Option.some.injEq, Addr.mk.injEq, and_true] at hv
          obtain ⟨rfl, hlr, rfl⟩ := hv
          clear hlr
          have cx : wr.cell? ⟨w.heap.size, k, none⟩ = some x := by have := hcell k [x] 0 x hrow rfl; simpa using this
          have fx := hfz k
          have Hst := hide hst
          have Hrow := hide hrow
          have Hset := hide (hown.set (k := 0) hrow (by omega) (nodeV L (nodeAt st (q : Int))))
          have Hrl := hide hrl
          clear hbel hown hsee hSr hst hn hrow hcell hfz hcap hrl
          have Hq := hide hnl
          rcases nodeV_cases L (nodeAt st (q : Int)) with e | e
          all_goals
            rw [e] at d0 Hset
            have HeN := hide e
            clear e
            go_wp2_with (go_at_call 45; refine HStd.out.mono ?_; rintro e w' ⟨rfl, hw⟩; obtain rfl := hw.symm)
            have hS1 := Hset.out
            simp only [Nat.mul_one, Nat.add_zero, List.set_cons_zero] at hS1
            go_roundw
            case rel =>
              refine ⟨k + 1, _, by omega, by go_num, ?_, hS1, by rw [List.length_set]; exact Hrl.out, fun j n hj hn => ?_⟩
              · exact ⟨Hbel.out.os, Hbel.out.tape, Hbel.out.output, by simpa using Hbel.out.size, fun b hb => (Below.heap_setCell _ _ _ b (by show b ≠ w.heap.size; omega)).trans (Hbel.out.block b hb)⟩
              · by_cases ej : j = k
                · subst ej
                  rw [Hn.out] at hn
                  cases hn
                  refine ⟨Hst.out, ?_⟩
                  rw [List.getElem?_set_self (M.lt_of_getElem? Hrow.out), HeN.out]
                · obtain ⟨r1, r2⟩ := Hsee.out j n (by omega) hn
                  exact ⟨r1, by rw [List.getElem?_set_ne (fun q => ej q.symm)]; exact r2⟩
            case measure => simp [intOf]; omega
    · have hkk : k = fs.length := by omega
      subst hkk
      -- all of them stand
      have hall : fs.any (fun n => (find st n).isNone) = false := by
        rw [List.any_eq_false]
        intro n hn
        obtain ⟨j, hj⟩ := List.mem_iff_getElem?.1 hn
        have := (hsee j n (M.lt_of_getElem? hj) hj).1
        simp [this]
      have hnl : ∀ i ∈ nodesAt st fs, i < st.nodes.length := fun i hi => by
        unfold nodesAt at hi
        obtain ⟨n, hn, rfl⟩ := List.mem_map.1 hi
        obtain ⟨j, hj⟩ := List.mem_iff_getElem?.1 hn
        obtain ⟨_, _, _, _, _, _, h⟩ := stand_at hSr Hok.out n (hsee j n (M.lt_of_getElem? hj) hj).1
        exact h
      have hlis : (nodesAt st fs).length = fs.length := by simp [nodesAt]
      have hrows : rows = (nodesAt st fs).map (fun i => [nodeV L i]) := rows_eq (by rw [hrl, hlis]) (fun j i hj hi => by
        unfold nodesAt at hi
        rw [List.getElem?_map] at hi
        cases hq : fs[j]? with
        | none => rw [hq] at hi; cases hi
        | some n =>
          rw [hq] at hi
          simp at hi
          subst hi
          exact (hsee j n (by omega) hq).2)
      rw [hrows] at hown
      have hN : NodesAt wr L (.slice (some ⟨w.heap.size, 0, none⟩) fs.length fs.length) (nodesAt st fs) := hown
      have hisne : nodesAt st fs ≠ [] := by
        intro e
        rw [e] at hlis
        simp at hlis
        omega
      have HC := hide (gcontains_any (nodesAt st fs) _ hSr.tree hN hnl hisne)
      have Hown := hide hown
      have Hall := hide hall
      have Hnl := hide hnl
      have Hlis := hide hlis
      clear hrows hown hsee hN hisne hrl hall hnl hlis
      cases hg : (nodesAt st fs).any (fun i => isGone st i) with
      | true =>
        rw [hg] at HC
        have HE := hide (show dirsE st fs = 4 by unfold dirsE; rw [if_neg (by rw [Hall.out]; decide), if_pos hg])
        clear hg hSr hbel
        go_wp2_with (go_at_call 101; refine HC.out.mono ?_; rintro e w' ⟨rfl, hw⟩; obtain rfl := hw.symm)
        go_ret2
        exact .inl ⟨by rw [HE.out]; decide, by rw [HE.out]; rfl, Hbel.out⟩
      | false =>
        rw [hg] at HC
        have Hg := hide hg
        have hO2 := hide (HO2.out wr)
        have hbW : Below w.heap.size w (wr.alloc (.cells M2 87)) := hbel.alloc hbel.size _
        have HbW := hide hbW
        have Hz := hide (show w.heap.size < wr.heap.size by
          have := hbel.size
          rcases Hown.out.opened with ⟨hv, _⟩ | ⟨g, cap, hv, _, _, _, ⟨cur, hb⟩, _⟩
          · cases hv
          · simp only [Value.slice.injEq, Option.some.injEq, Addr.mk.injEq, and_true] at hv
            obtain ⟨rfl, _⟩ := hv
            exact (Array.getElem?_eq_some_iff.1 hb).1)
        clear hg hSr hbel hbW
        go_wp2_with (go_at_call 101; refine HC.out.mono ?_; rintro e w' ⟨rfl, hw⟩; obtain rfl := hw.symm)
        have HownA := hide (Own.keptBlock (w' := wr.alloc (.cells M2 87)) Hown.out (fun b hb => Below.heap_alloc wr _ b (by simp [Value.ownBlock] at hb; have := Hz.out; omega)))
        obtain ⟨B2, hB2⟩ : ∃ B2, wr.heap.size = B2 := ⟨_, rfl⟩
        have hO2b := hO2.out
        have Hzb := Hz.out
        rw [hB2] at hO2b Hzb ⊢
        have hO2 := hide hO2b
        have Hz := hide Hzb
        clear hB2 hO2b Hzb
        go_loopw [49] (fun i wr => ∃ (k : Nat) (rows : List (List Value)), k ≤ fs.length ∧ i = .int .i64 k ∧ Below w.heap.size w wr ∧ Own wr (fun _ => True) 115 1 (.slice (some ⟨w.heap.size, 0, none⟩) fs.length fs.length) ((nodesAt st fs).map (fun i => [nodeV L i])) ∧ Own wr (fun _ => True) 87 1 (.slice (some ⟨B2, 0, none⟩) fs.length fs.length) rows ∧ rows.length = fs.length ∧ (∀ j n, j < k → (nodesAt st fs)[j]? = some n → isDir st n = true ∧ rows[j]? = some [dirPtr L n])) (fun i _ => fs.length - (intOf i).toNat)
        case atStart => exact ⟨0, _, Nat.zero_le _, rfl, HbW.out, HownA.out, hO2.out, by simp [HM.out.2], fun j n hj => by omega⟩
        case round =>
          obtain ⟨k, rows, hk, rfl, hbel, hnods, hown, hrl, hsee⟩ := hrel
          have Hbelx := hide hbel
          have Hnods := hide hnods
          have Hownx := hide hown
          have Hsee := hide hsee
          have Hrl := hide hrl
          by_cases hlt : k < fs.length
          · obtain ⟨n, hn⟩ := M.getElem?_of_lt (show k < (nodesAt st fs).length by rw [Hlis.out]; exact hlt)
            have hnl := Hnl.out n (List.mem_of_getElem? hn)
            have hkd := HS.out.tree.isDir hnl
            have k0 : (0 : Int) ≤ (k : Int) := by omega
            have k1 : (k : Int) < (fs.length : Int) := by omega
            have cn : wr.cell? ⟨w.heap.size, k, none⟩ = some (nodeV L n) := by
              rcases hnods.opened with ⟨hv, _⟩ | ⟨g, cap, hv, _, _, _, _, hcell, _⟩
              · cases hv
              · simp only [Value.slice.injEq, Option.some.injEq, Addr.mk.injEq, and_true] at hv
                obtain ⟨rfl, _⟩ := hv
                have := hcell k [nodeV L n] 0 _ (by rw [List.getElem?_map, hn]; rfl) rfl
                simpa using this
            obtain ⟨row, hrow⟩ := M.getElem?_of_lt (show k < rows.length by omega)
            obtain ⟨x, hx⟩ : ∃ x, row = [x] := by
              have := hown.2.1 row (List.mem_of_getElem? hrow)
              cases row with
              | nil => cases this
              | cons a r => cases r with
                | nil => exact ⟨a, rfl⟩
                | cons b r => simp at this
            subst hx
            obtain ⟨cx, fx⟩ : wr.cell? ⟨B2, k, none⟩ = some x ∧ wr.frozen? ⟨B2, k, none⟩ = false := by
              rcases hown.opened with ⟨hv, _⟩ | ⟨g, cap, hv, _, _, _, _, hcell, hfz⟩
              · cases hv
              · simp only [Value.slice.injEq, Option.some.injEq, Addr.mk.injEq, and_true] at hv
                obtain ⟨rfl, _⟩ := hv
                have := hcell k [x] 0 x hrow rfl
                exact ⟨by simpa using this, hfz k⟩
            have Hset := hide (hown.set (k := 0) hrow (by omega) (dirPtr L n))
            have Hn := hide hn
            have Hrow := hide hrow
            clear hbel hnods hown hrl hsee hn hrow hnl
            cases hdv : isDir st n with
            | false =>
              have HE := hide (show dirsE st fs = 5 by
                unfold dirsE
                rw [if_neg (by rw [Hall.out]; decide), if_neg (by rw [Hg.out]; decide), if_pos (List.any_eq_true.2 ⟨n, List.mem_of_getElem? Hn.out, by simp [hdv]⟩)])
              have e : nodeV L n = .iface 122 (.pointer (some ⟨L.nb n, 0, none⟩)) := by rw [nodeV, hkd, hdv]; rfl
              rw [e] at cn
              clear e hkd hdv
              go_wp2
              go_ret2
              exact .inl ⟨by rw [HE.out]; decide, by rw [HE.out]; rfl, Hbelx.out⟩
            | true =>
              have e : nodeV L n = .iface 87 (.pointer (some ⟨L.nb n, 0, none⟩)) := by rw [nodeV, hkd, hdv]; rfl
              rw [e] at cn
              have Hdv := hide hdv
              unfold dirPtr at Hset
              clear e hkd hdv
              go_wp2
              have hS1 := Hset.out
              simp only [Nat.mul_one, Nat.add_zero, List.set_cons_zero] at hS1
              go_roundw
              case rel =>
                refine ⟨k + 1, _, by omega, by go_num, ?_, ?_, hS1, by rw [List.length_set]; exact Hrl.out, fun j m hj hm => ?_⟩
                · have hz := Hz.out
                  exact ⟨Hbelx.out.os, Hbelx.out.tape, Hbelx.out.output, by simpa using Hbelx.out.size, fun b hb => (Below.heap_setCell _ _ _ b (by show b ≠ B2; omega)).trans (Hbelx.out.block b hb)⟩
                · refine Own.keptBlock Hnods.out (fun b hb => Below.heap_setCell _ _ _ b ?_)
                  simp [Value.ownBlock] at hb
                  have hz := Hz.out
                  show b ≠ B2
                  omega
                · by_cases ej : j = k
                  · subst ej
                    rw [Hn.out] at hm
                    cases hm
                    refine ⟨Hdv.out, ?_⟩
                    rw [List.getElem?_set_self (M.lt_of_getElem? Hrow.out)]
                    rfl
                  · obtain ⟨r1, r2⟩ := Hsee.out j m (by omega) hm
                    exact ⟨r1, by rw [List.getElem?_set_ne (fun q => ej q.symm)]; exact r2⟩
              case measure => simp [intOf]; omega
          · have hkk : k = fs.length := by omega
            subst hkk
            have hE : dirsE st fs = 0 := by
              unfold dirsE
              rw [if_neg (by rw [Hall.out]; decide), if_neg (by rw [Hg.out]; decide), if_neg (fun h => by
                obtain ⟨n, hn, hd⟩ := List.any_eq_true.1 h
                obtain ⟨j, hj⟩ := List.mem_iff_getElem?.1 hn
                have := (Hsee.out j n (by rw [← Hlis.out]; exact M.lt_of_getElem? hj) hj).1
                simp [this] at hd)]
            have HE := hide hE
            have hrows : rows = (nodesAt st fs).map (fun i => [dirPtr L i]) := rows_eq (by rw [Hrl.out, Hlis.out]) (fun j i hj hi => (Hsee.out j i (by rw [← Hlis.out]; exact hj) hi).2)
            have HR := hide hrows
            clear hbel hnods hown hrl hsee hE hrows
            go_wp2
            go_ret2
            exact .inr ⟨HE.out, B2, rfl, by rw [← HR.out]; exact Hownx.out, Hbelx.out⟩
end Go.Proofs.YtdmdgnghaceibaaGreat.P
