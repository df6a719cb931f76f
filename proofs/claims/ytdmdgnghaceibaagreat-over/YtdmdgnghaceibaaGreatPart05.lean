/- The program's Read. -/
import Derived.Test.YtdmdgnghaceibaaGreatPart04
import Derived.Lib.AppendZerosOnto
import Derived.Test.YtdmdgnghaceibaaGreatPart03
namespace Go.Proofs.YtdmdgnghaceibaaGreat.P
open M Go.ChangeShapes Go.WideShapes Go.ChangeAt Go.RowKit
set_option linter.unusedVariables false

/-- A slice that reads as bytes. -/
def BytesAt (w : World) (v : Value) (t : ByteArray) : Prop := Own w (fun _ => True) 5 1 v (byteCells t)

/-- How Read ends: what comes out lies in a block of its own. -/
def PEnds4 (w : World) (F : Nat → Prop) (s : Nat) (p : St × ByteArray × Int) (e : Ending) (w' : World) : Prop :=
  ∃ (v : Value) (F' : Nat → Prop), e = .returned (.tuple #[v, .int .i64 p.2.2]) ∧ BytesAt w' v p.2.1 ∧ (∀ k, v.ownBlock = some k → w.heap.size ≤ k ∧ k < w'.heap.size ∧ ¬ F' k) ∧ SrvIs w' F' s p.1 ∧ (∀ k, F' k → ext F w w' k) ∧ Ext F w w'

theorem bytes_none (w : World) : BytesAt w (.slice none 0 0) ⟨#[]⟩ := Own.nil _ _ _ _

theorem PEnds4.err {w w1 : World} {F : Nat → Prop} {s : Nat} {p : St × ByteArray × Int} {c : Int} {st' : St} (hp : p = (st', ⟨#[]⟩, c)) (h : Held w1 (ext F w w1) s st') (hx : Ext F w w1) : PEnds4 w F s p (.returned (.tuple #[.slice none 0 0, .int .i64 c])) (left w1 s) := by
  subst hp
  obtain ⟨h1, h2⟩ := left_close (w1 := w) h hx
  exact ⟨_, _, rfl, bytes_none _, fun k hk => by simp [Value.ownBlock] at hk, h1, fun k hk => hk, h2⟩

/-- The bytes of a file from a place on, so many of them. -/
theorem text_cells (d : ByteArray) (a m : Nat) (hm : a + m ≤ d.size) : byteCells (d.extract a (a + m)) = ((d.data.toList.drop a).take m).map (fun c => [.int .u8 c.toNat]) := by
  unfold byteCells
  congr 1
  rw [ByteArray.data_extract, Array.toList_extract]
  simp [List.extract_eq_take_drop]

theorem out_bytes {w' : World} {b : Nat} {cs : List Value} {t : ByteArray} (hb : w'.heap[b]? = some (.cells cs.toArray 5 (0, 0))) (hcs : cs = (byteCells t).flatten) (hl : cs.length ≤ maxLen) : BytesAt w' (.slice (some ⟨b, 0, none⟩) (byteCells t).length (byteCells t).length) t := by
  have h1 : ∀ r ∈ byteCells t, r.length = 1 := fun r hr => by
    unfold byteCells at hr
    obtain ⟨c, _, rfl⟩ := List.mem_map.1 hr
    rfl
  have hlen : (byteCells t).flatten.length = (byteCells t).length := by rw [flat_length 1 _ h1]; omega
  refine ⟨⟨by rw [hlen]; omega, .inr ⟨b, (byteCells t).length, cs.toArray, rfl, Nat.zero_le _, hb, Nat.le_refl _, by rw [← hlen, ← hcs]; exact hl, ?_, ?_⟩⟩, h1, fun k _ => trivial⟩
  · rw [List.size_toArray, hcs, hlen]; omega
  · rw [hcs, List.take_of_length_le (by simp only; omega)]

/-- What 'read' lays: the bytes that are asked. -/
theorem read_any {w : World} {F : Nat → Prop} {L : Lay} {bvv : Value} {i : Nat} {x : Nd} (FI : FileIs w F L bvv i x) (a n : Nat) (hsz : x.data.size ≤ 1000000) :
    Calls Tryz.prog 51 #[.pointer (some ⟨L.nb i, 0, none⟩), .int .i64 a, .int .i64 n] w fun e w' => ∃ m, e = .returned (.slice (some ⟨w.heap.size, 0, none⟩) m m) ∧ BytesAt w' (.slice (some ⟨w.heap.size, 0, none⟩) m m) (textAt x.data a n) ∧ w'.heap.size = w.heap.size + 1 ∧ Below w.heap.size w w' := by
  have hbl : (byteCells x.data).length = x.data.size := by unfold byteCells; rw [List.length_map, Array.length_toList]; rfl
  have empty : ∀ w' : World, w'.heap[w.heap.size]? = some (.cells #[] 5 (0, 0)) → BytesAt w' (.slice (some ⟨w.heap.size, 0, none⟩) 0 0) ⟨#[]⟩ := fun w' hb => out_bytes (cs := []) (t := ⟨#[]⟩) hb rfl (by simp [maxLen])
  rcases FI.data.opened with ⟨hv, hrows⟩ | ⟨g, cap, hv, hlc, hmax, hF, hb, hcell, hfz⟩
  · have hd0 : x.data.size = 0 := by rw [← hbl, hrows]; rfl
    have b3 := FI.c3
    rw [hv] at b3
    refine (read_nil a n b3).mono ?_
    rintro e w' ⟨rfl, hb', hz, hB⟩
    refine ⟨0, rfl, ?_, hz, hB⟩
    unfold textAt
    rw [if_neg (by omega)]
    exact empty w' hb'
  · rw [hbl] at hv hlc
    have hc9 : cap ≤ 9223372036854775807 := by unfold maxLen at hmax; omega
    have b3 := FI.c3
    rw [hv] at b3
    by_cases hlt : a < x.data.size
    · obtain ⟨m, hm, hmm⟩ : ∃ m, ((m = n ∧ n ≤ x.data.size - a) ∨ (m = x.data.size - a ∧ x.data.size - a < n)) ∧ min (a + n) x.data.size = a + m := by
        by_cases h : n ≤ x.data.size - a
        · exact ⟨n, .inl ⟨rfl, h⟩, by omega⟩
        · exact ⟨x.data.size - a, .inr ⟨rfl, by omega⟩, by omega⟩
      have hms : a + m ≤ x.data.size := by omega
      have htext : textAt x.data a n = x.data.extract a (a + m) := by
        unfold textAt
        rw [if_pos hlt, hmm]
      have hcells := text_cells x.data a m hms
      obtain ⟨cs, hcs⟩ : ∃ cs, cs = ((x.data.data.toList.drop a).take m).map (fun c => Value.int .u8 (c.toNat : Int)) := ⟨_, rfl⟩
      have hflat : (byteCells (x.data.extract a (a + m))).flatten = cs := by
        rw [hcells, hcs]
        generalize (x.data.data.toList.drop a).take m = l
        induction l with
        | nil => rfl
        | cons c l ih => simp only [List.map_cons, List.flatten_cons, ih]; rfl
      have hdl : x.data.data.toList.length = x.data.size := by rw [Array.length_toList]; rfl
      have hlen : cs.length = m := by rw [hcs, List.length_map, List.length_take, List.length_drop, hdl]; omega
      refine (read_mid a n m cs hlt hlc hc9 hsz hm b3 hlen (fun j v hj => ?_) (fun v hv => ?_)).mono ?_
      · have hj' : j < m := by have := M.lt_of_getElem? hj; omega
        rw [hcs, List.getElem?_map, List.getElem?_take, if_pos hj', List.getElem?_drop] at hj
        cases hq : x.data.data.toList[a + j]? with
        | none => rw [hq] at hj; simp at hj
        | some c =>
          rw [hq] at hj
          simp at hj
          subst hj
          have := hcell (a + j) [.int .u8 c.toNat] 0 _ (by unfold byteCells; rw [List.getElem?_map, hq]; rfl) rfl
          simpa using this
      · rw [hcs] at hv
        obtain ⟨c, _, rfl⟩ := List.mem_map.1 hv
        rfl
      · rintro e w' ⟨rfl, hb', hz, hB⟩
        have hbm : (byteCells (x.data.extract a (a + m))).length = m := by rw [hcells, List.length_map, List.length_take, List.length_drop, hdl]; omega
        have ho := out_bytes (t := x.data.extract a (a + m)) hb' hflat.symm (by unfold maxLen; omega)
        rw [hbm] at ho
        exact ⟨m, rfl, by rw [htext]; exact ho, hz, hB⟩
    · refine (read_end a n (by omega) hlc hc9 b3).mono ?_
      rintro e w' ⟨rfl, hb', hz, hB⟩
      refine ⟨0, rfl, ?_, hz, hB⟩
      unfold textAt
      rw [if_neg hlt]
      exact empty w' hb'

theorem mRead_bad {st : St} {n a c : Int} (h : mFile st (find st n) ≠ 0) : mRead st n a c = (tick st, ⟨#[]⟩, mFile st (find st n)) := by unfold mRead; rw [if_neg h]
theorem mRead_arg {st : St} {n a c : Int} (h : mFile st (find st n) = 0) (hac : a < 0 ∨ c < 0) : mRead st n a c = (tick st, ⟨#[]⟩, 1) := by unfold mRead; rw [if_pos h, if_pos hac]
theorem mFile_zero {st : St} {n : Int} (h : mFile st (find st n) = 0) : ∃ i f, find st n = some i ∧ st.fids[i]? = some f ∧ f.op = true ∧ isGone st (nodeOf f) = false ∧ isDir st (nodeOf f) = false := by
  cases hf : find st n with
  | none => rw [hf] at h; simp [mFile] at h
  | some i =>
    obtain ⟨f, hi, _, _⟩ := fidAt_find hf
    rw [hf] at h
    unfold mFile at h
    simp only [hi] at h
    cases ho : f.op with
    | false => simp [ho] at h
    | true =>
      cases hg : isGone st (nodeOf f) with
      | true => simp [ho, hg] at h
      | false =>
        cases hd : isDir st (nodeOf f) with
        | true => simp [ho, hg, hd] at h
        | false => exact ⟨i, f, rfl, hi, ho, hg, hd⟩

set_option maxRecDepth 20000 in
set_option maxHeartbeats 1000000 in
theorem sread_any {w : World} {F : Nat → Prop} {s : Nat} {st : St} (n a c : Int) (h : SrvIs w F s st) (ok : POk st) (hF : ∀ k, F k → k < w.heap.size) (hsz : ∀ x ∈ st.nodes, x.data.size ≤ 1000000) :
    Calls Tryz.prog 17 #[.pointer (some ⟨s, 0, none⟩), .int .i64 n, .int .i64 a, .int .i64 c] w fun e w' => PEnds4 w F s (mRead st n a c) e w' := by
  go_enter_defers Tryz.func17, Tryz.ntmps17
  go_wp2_with fail
  refine (enter_any h).mono ?_
  rintro e w1 ⟨rfl, hH, hx⟩
  clear h
  obtain ⟨t, L, bv, hS⟩ := hH
  have hx := hide hx
  have HO := hide (openedFile_any n hS ok.tick)
  have em : mFile (tick st) (find (tick st) n) = mFile st (find st n) := rfl
  rw [em] at HO
  by_cases he : mFile st (find st n) = 0
  · obtain ⟨i, f, hf, hi, hop, hg, hd⟩ := mFile_zero he
    have hm := List.mem_of_getElem? hi
    have hne := (ok.way f hm).1
    have hsp : f.way.getLast? = some (f.way.getLast hne) := List.getLast?_eq_some_getLast hne
    generalize f.way.getLast hne = sp at hsp
    have hno : nodeOf f = sp.n := by simp [nodeOf, hsp]
    have hin := ((ok.way f hm).2 sp (List.mem_of_getLast? hsp)).1
    obtain ⟨x, hxn⟩ := getElem?_of_lt hin
    have hxd : x.dir = false := by rw [hno] at hd; simpa [isDir, hxn] using hd
    have ev : openFileV (tick st) L n = .pointer (some ⟨L.nb sp.n, 0, none⟩) := by
      unfold openFileV
      rw [show find (tick st) n = some i from hf]
      simp only
      rw [show (tick st).fids[i]? = some f from hi]
      simp only
      rw [if_pos (by rw [hf] at he; exact he), hno]
    rw [he, ev] at HO
    by_cases hac : a < 0 ∨ c < 0
    · have H := hide (mRead_arg he hac)
      have hS := hide hS
      clear he hf hi hm hne hsp hxn ev em
      by_cases ha : a < 0
      · go_wp2_with (go_at_call 50; refine HO.out.mono ?_; rintro e w' ⟨rfl, hw⟩; obtain rfl := hw.symm)
        have hD : Held w1 (ext F w w1) s (tick st) := ⟨t, L, bv, hS.out⟩
        refine leaves_cons (f := 43) (args := #[.pointer (some ⟨s, 0, none⟩)]) (by simp) (by simp [go_sem]) ?_
        refine (leave_deferred .returning hD).mono ?_
        rintro e u' w'' ⟨rfl, rfl, rfl⟩
        refine ⟨_, results_tmp2 rfl _ _ _, ?_⟩
        exact PEnds4.err H.out hD hx.out
      · have hc : c < 0 := by omega
        go_wp2_with (go_at_call 50; refine HO.out.mono ?_; rintro e w' ⟨rfl, hw⟩; obtain rfl := hw.symm)
        have hD : Held w1 (ext F w w1) s (tick st) := ⟨t, L, bv, hS.out⟩
        refine leaves_cons (f := 43) (args := #[.pointer (some ⟨s, 0, none⟩)]) (by simp) (by simp [go_sem]) ?_
        refine (leave_deferred .returning hD).mono ?_
        rintro e u' w'' ⟨rfl, rfl, rfl⟩
        refine ⟨_, results_tmp2 rfl _ _ _, ?_⟩
        exact PEnds4.err H.out hD hx.out
    · have ha0 : 0 ≤ a := by omega
      have hc0 : 0 ≤ c := by omega
      obtain ⟨a', rfl⟩ := Int.eq_ofNat_of_zero_le ha0
      obtain ⟨c', rfl⟩ := Int.eq_ofNat_of_zero_le hc0
      have H := hide (show mRead st n (a' : Int) (c' : Int) = (tick st, textAt x.data a' c', 0) by
        unfold mRead
        rw [if_pos he, if_neg hac, hf]
        simp only
        rw [hi]
        simp only
        rw [show dataOf st f = x.data by simp [dataOf, hno, hxn], Int.toNat_natCast, Int.toNat_natCast])
      have HR := hide (read_any (hS.tree.file sp.n x hxn hxd) a' c' (hsz x (List.mem_of_getElem? hxn)))
      have hS := hide hS
      have na : ¬ (a' : Int) < 0 := by omega
      have ncc : ¬ (c' : Int) < 0 := by omega
      clear he hf hi hm hne hsp hxn ev em hac
      go_wp2_with (first | (go_at_call 50; refine HO.out.mono ?_; rintro e w' ⟨rfl, hw⟩; obtain rfl := hw.symm) | (go_at_call 51; refine HR.out.mono ?_; rintro e w2 ⟨m, rfl, ho, hz, hb⟩; have HOut := hide ho; have HZ := hide hz; have HB := hide hb; clear ho hz hb))
      have hS2 := hS.out.below HB.out
      have hx2 : Ext F w w2 := hx.out.trans' (Ext.below HB.out)
      have hD : Held w2 (ext F w w1) s (tick st) := ⟨t, L, bv, hS2⟩
      refine leaves_cons (f := 43) (args := #[.pointer (some ⟨s, 0, none⟩)]) (by simp) (by simp [go_sem]) ?_
      refine (leave_deferred .returning hD).mono ?_
      rintro e u' w'' ⟨rfl, rfl, rfl⟩
      refine ⟨_, results_tmp2 rfl _ _ _, ?_⟩
      unfold PEnds4
      rw [H.out]
      have hs1 : s < w1.heap.size := hS.out.blk.lt
      have hlz : (left w2 s).heap.size = w2.heap.size := by simp [left]
      refine ⟨_, ext F w w1, rfl, ?_, fun k hk => ?_, hD.left, fun k hk => ext_mono (by rw [hlz, HZ.out]; omega) k hk, ?_⟩
      · refine Own.keptBlock HOut.out (fun k hk => ?_)
        simp [Value.ownBlock] at hk
        exact Below.heap_setCell w2 ⟨s, 3, none⟩ _ k (by show k ≠ s; omega)
      · simp [Value.ownBlock] at hk
        subst hk
        have := hx.out.size
        refine ⟨this, by rw [hlz, HZ.out]; omega, fun hk => ?_⟩
        rcases hk with hk | hk
        · have := hF _ hk
          omega
        · omega
      · exact hx2.setCell (a := ⟨s, 3, none⟩) (by rcases hS.out.blk.own with h | h; exact .inl h; exact .inr h.1) _
  · have H := hide (mRead_bad (a := a) (c := c) he)
    have q1 : (mFile st (find st n) != 0) = true := by simpa using he
    have q2 : (mFile st (find st n) == 0) = false := by simpa using he
    have hS := hide hS
    clear he em
    go_wp2_with (go_at_call 50; refine HO.out.mono ?_; rintro e w' ⟨rfl, hw⟩; obtain rfl := hw.symm)
    have hD : Held w1 (ext F w w1) s (tick st) := ⟨t, L, bv, hS.out⟩
    refine leaves_cons (f := 43) (args := #[.pointer (some ⟨s, 0, none⟩)]) (by simp) (by simp [go_sem]) ?_
    refine (leave_deferred .returning hD).mono ?_
    rintro e u' w'' ⟨rfl, rfl, rfl⟩
    refine ⟨_, results_tmp2 rfl _ _ _, ?_⟩
    exact PEnds4.err H.out hD hx.out
end Go.Proofs.YtdmdgnghaceibaaGreat.P
/- The program's file.reach. -/
namespace Go.Proofs.YtdmdgnghaceibaaGreat.P
open M Go.ChangeShapes Go.WideShapes Go.ChangeAt Go.RowKit
set_option linter.unusedVariables false

theorem zero_cells (k : Nat) : Builtin.zeroCells (Value.int .u8 0).cells k = (List.replicate k (Value.int .u8 0)).toArray := by
  unfold Builtin.zeroCells
  apply Array.ext
  · simp [Value.cells]
  · intro i h1 h2
    have : i % 1 = 0 := Nat.mod_one i
    simp [Value.cells, this]

def zeroRows (k : Nat) : List (List Value) := List.replicate k [.int .u8 0]
theorem zeroRows_flat (k : Nat) : (zeroRows k).flatten = List.replicate k (.int .u8 0) := by
  unfold zeroRows
  induction k with
  | zero => rfl
  | succ k ih => rw [List.replicate_succ, List.flatten_cons, ih, List.replicate_succ]; rfl
theorem bytes_padded (d : ByteArray) (a : Nat) : byteCells (padded d a) = byteCells d ++ zeroRows (a - d.size) := by
  unfold byteCells padded zeros zeroRows
  rw [ByteArray.data_append, Array.toList_append, List.map_append]
  simp
theorem len_bytes (d : ByteArray) : (byteCells d).length = d.size := by unfold byteCells; rw [List.length_map, Array.length_toList]; rfl

/-- An append of zeros. -/
theorem zeros_append {w : World} {F : Nat → Prop} {v : Value} {rows : List (List Value)} (ty : TypeId) (hown : Own w F 5 1 v rows) (k : Nat) (hk : 0 < k) (hle : rows.length + k ≤ 1000000) :
    ∃ ao c w', (Builtin.append_ #[31, 3] ty #[v, .int .i64 (k : Int)]).run Tryz.prog w = .ok (.slice ao (rows.length + k) c) w' ∧ Own w' (ext F w w') 5 1 (.slice ao (rows.length + k) c) (rows ++ zeroRows k) ∧ w.grownBy w' v.ownBlock ∧
      (∀ b, (Value.slice ao (rows.length + k) c).ownBlock = some b → v.ownBlock = some b ∨ w.heap.size ≤ b) := by
  obtain ⟨i0, hi, hz0, hz1, hz2⟩ := info_parts infoByte
  have hint : Tryz.prog.underlying 3 = some (.int .i64) := by kernel_rfl
  have hrows : ∀ r ∈ rows ++ zeroRows k, r.length = 1 := fun r hr => by
    rcases List.mem_append.1 hr with hr | hr
    · exact hown.2.1 r hr
    · rw [(List.mem_replicate.1 hr).2]; rfl
  have hfl : (rows ++ zeroRows k).flatten = rows.flatten ++ List.replicate k (.int .u8 0) := by rw [List.flatten_append, zeroRows_flat]
  have hlr : rows.flatten.length = rows.length := by rw [flat_length 1 _ hown.2.1]; omega
  have hlen : (rows ++ zeroRows k).length = rows.length + k := by simp [zeroRows]
  have grown : ∀ (old : Nat), old < rows.length + k → ∀ (row : Option Nat),
      Own (w.drew.alloc (.cells (rows.flatten.toArray ++ Builtin.zeroCells (Value.int .u8 0).cells k ++ Builtin.zeroCells (Value.int .u8 0).cells (grownCap w (rows.length + k) old 5 - (rows.length + k))) 5))
        (ext F w (w.drew.alloc (.cells (rows.flatten.toArray ++ Builtin.zeroCells (Value.int .u8 0).cells k ++ Builtin.zeroCells (Value.int .u8 0).cells (grownCap w (rows.length + k) old 5 - (rows.length + k))) 5))) 5 1
        (.slice (some ⟨w.heap.size, 0, none⟩) (rows.length + k) (grownCap w (rows.length + k) old 5)) (rows ++ zeroRows k) ∧
      w.grownBy (w.drew.alloc (.cells (rows.flatten.toArray ++ Builtin.zeroCells (Value.int .u8 0).cells k ++ Builtin.zeroCells (Value.int .u8 0).cells (grownCap w (rows.length + k) old 5 - (rows.length + k))) 5)) row := by
    intro old ho row
    have hge := grownCap_ge w (rows.length + k) old 5
    have hcm : grownCap w (rows.length + k) old 5 ≤ maxLen := grownCap_le_maxLen w (rows.length + k) old _ (by unfold maxLen; omega)
    refine ⟨⟨⟨?_, .inr ⟨w.heap.size, grownCap w (rows.length + k) old 5, _, ?_, Nat.zero_le _, heap_alloc_new w.drew _, ?_, hcm, ?_, ?_⟩⟩, hrows, fun b hb => ?_⟩, ⟨rfl, rfl, rfl, by simp, fun b hb _ => Below.heap_alloc w.drew _ b hb⟩⟩
    · rw [flat_length 1 _ hrows]
    · rw [hlen]
    · rw [hlen]; exact hge
    · simp only [zero_cells, Array.size_append, List.size_toArray, List.length_replicate, hlr]
      omega
    · simp only [zero_cells, Array.toList_append]
      rw [hlen, hfl, Nat.mul_one]
      rw [show rows.length + k = (rows.flatten ++ List.replicate k (Value.int .u8 0)).length by rw [List.length_append, hlr, List.length_replicate]]
      exact List.take_left
    · simp [Value.ownBlock] at hb
      subst hb
      exact .inr ⟨Nat.le_refl _, by simp⟩
  rcases hown.1.2 with ⟨rfl, h0⟩ | ⟨g, cap, cur, rfl, hbg, hg, hnc, hcm, hcs, htake⟩
  · have hr0 : rows = [] := List.length_eq_zero_iff.1 h0
    subst hr0
    have hr := Lib.run_append_nil_zeros (P := Tryz.prog) w 31 3 ty 5 i0 (.int .u8 0) .i64 .i64 Tryz.underlying31 hint hi hz0 k hk (by rw [hz1]; omega) (by simp at hle; omega) (by rw [hz2]; simp at hle; omega)
    have hgr := grown 0 (by simp; omega) (Value.ownBlock (.slice none 0 0))
    simp only [List.length_nil, Nat.zero_add, List.nil_append, List.flatten_nil, Array.empty_append] at hgr ⊢
    exact ⟨_, _, _, hr, hgr.1, hgr.2, fun b hb => by simp [Value.ownBlock] at hb; exact .inr (by omega)⟩
  · by_cases hroom : rows.length + k ≤ cap
    · have hst := run_storeCells_at Tryz.prog g (rows.length) 5 (List.replicate k (.int .u8 0)) 0 cur w hg (by simp; omega) (fun u hu => by rw [(List.mem_replicate.1 hu).2]; rfl)
      simp only [Nat.add_zero, List.length_replicate] at hst
      have hw : IntKind.i64.wrap (k : Int) = k := by rw [IntKind.wrap_i64]; omega
      have hneg : ¬ ((k : Int) < 0) := by omega
      have h48i : ¬ (281474976710656 < (k : Int)) := by omega
      have hk0 : k ≠ 0 := by omega
      refine ⟨some ⟨g, 0, none⟩, cap, w.setRow g (cur.toList.take rows.length ++ List.replicate k (Value.int .u8 0) ++ cur.toList.drop (rows.length + k)).toArray, ?_, ⟨⟨?_, .inr ⟨g, cap, _, ?_, hbg, setRow_heap w g cur _ 5 _ hg, ?_, hcm, ?_, ?_⟩⟩, hrows, fun b hb => ?_⟩, ⟨rfl, rfl, rfl, by simp, fun b _ hb => setRow_other w g b _ (fun e => hb (by simp [Value.ownBlock, e]))⟩, fun b hb => .inl hb⟩
      · simp [Builtin.append_, run_underlying Tryz.underlying31, run_underlying hint, sizeOf, typeInfo, zeroValue, hi, hz0, hz1, hz2, asInt, asIntOf, hw, hneg, h48i, hk0, hroom, zero_cells, Addr.add_lit, hst]
      · rw [flat_length 1 _ hrows]
      · rw [hlen]
      · rw [hlen]; exact hroom
      · simp only [List.size_toArray, List.length_append, List.length_take, List.length_drop, List.length_replicate, Array.length_toList]
        omega
      · rw [hlen, hfl, Nat.mul_one]
        have ht : cur.toList.take rows.length = rows.flatten := by rw [Nat.mul_one] at htake; exact htake
        rw [ht, show rows.length + k = (rows.flatten ++ List.replicate k (Value.int .u8 0)).length by rw [List.length_append, hlr, List.length_replicate]]
        exact List.take_left
      · exact .inl (hown.2.2 b hb)
    · have hold := run_firstCells_some (P := Tryz.prog) w.drew i0.size rows.length ⟨g, 0, none⟩ rows.length cap rows.flatten (by rw [hz1, hlr]; omega) (fun j u hu => hown.1.cells (g := g) rfl j u hu)
      have hr := Lib.run_append_grow_zeros (P := Tryz.prog) w 31 3 ty 5 i0 (.int .u8 0) .i64 .i64 Tryz.underlying31 hint hi hz0 (some ⟨g, 0, none⟩) rows.length cap rows.flatten hold k hk (by rw [hz1]; omega) (by omega) (by omega) (by rw [hz2]; omega) (growslice_fits (by omega) (by rw [hz2]; omega))
      have hgr := grown cap (by omega) (Value.ownBlock (.slice (some ⟨g, 0, none⟩) rows.length cap))
      exact ⟨_, _, _, hr, hgr.1, hgr.2, fun b hb => by simp [Value.ownBlock] at hb; exact .inr (by omega)⟩
end Go.Proofs.YtdmdgnghaceibaaGreat.P
/- The program's file.reach, called. -/
namespace Go.Proofs.YtdmdgnghaceibaaGreat.P
open M Go.ChangeShapes Go.WideShapes Go.ChangeAt Go.RowKit
set_option linter.unusedVariables false

/-- What a write of a file changes: its block, its bytes' block, new blocks. -/
structure Wrote (nb : Nat) (v v' : Value) (w w' : World) : Prop where
  os : w'.os = w.os
  tape : w'.tape = w.tape
  output : w'.output = w.output
  size : w.heap.size ≤ w'.heap.size
  block : ∀ k, k < w.heap.size → k ≠ nb → v.ownBlock ≠ some k → w'.heap[k]? = w.heap[k]?
  own : ∀ k, v'.ownBlock = some k → v.ownBlock = some k ∨ w.heap.size ≤ k

theorem Wrote.refl (nb : Nat) (v : Value) (w : World) : Wrote nb v v w w := ⟨rfl, rfl, rfl, Nat.le_refl _, fun _ _ _ _ => rfl, fun _ h => .inl h⟩
theorem Wrote.trans {nb : Nat} {v1 v2 v3 : Value} {w1 w2 w3 : World} (h : Wrote nb v1 v2 w1 w2) (k : Wrote nb v2 v3 w2 w3) : Wrote nb v1 v3 w1 w3 :=
  ⟨k.os.trans h.os, k.tape.trans h.tape, k.output.trans h.output, Nat.le_trans h.size k.size,
   fun b hb hn hv => (k.block b (Nat.lt_of_lt_of_le hb h.size) hn (fun e => by rcases h.own b e with q | q; exact hv q; omega)).trans (h.block b hb hn hv),
   fun b hb => by
    rcases k.own b hb with q | q
    · exact h.own b q
    · exact .inr (Nat.le_trans h.size q)⟩

set_option maxRecDepth 20000 in
set_option maxHeartbeats 1000000 in
theorem reach_any {w : World} {F : Nat → Prop} {L : Lay} {v : Value} {i : Nat} {x : Nd} (FI : FileIs w F L v i x) (n : Nat) (hn : n ≤ 1000000) (hsz : x.data.size ≤ 1000000) :
    Calls Tryz.prog 93 #[.pointer (some ⟨L.nb i, 0, none⟩), .int .i64 n] w fun e w' => e = .returned (.tuple #[]) ∧ ∃ v', FileIs w' (ext F w w') L v' i { x with data := padded x.data n } ∧ Wrote (L.nb i) v v' w w' := by
  obtain ⟨ao, c, rfl⟩ := FI.data.form
  have hl := len_bytes x.data
  have b3 := FI.c3
  rw [hl] at b3
  by_cases hm : x.data.size < n
  · obtain ⟨k, hnk⟩ : ∃ k, n = x.data.size + k := ⟨n - x.data.size, by omega⟩
    have hk : 0 < k := by omega
    obtain ⟨ao', c', w1, hr, ho, hg, hb⟩ := zeros_append 31 FI.data k hk (by rw [hl]; omega)
    rw [hl] at hr ho hb
    have ek : (n : Int) - (x.data.size : Int) = (k : Int) := by omega
    have hne : (Value.slice ao (byteCells x.data).length c).ownBlock ≠ some (L.nb i) := fun e => FI.data.ne (k := L.nb i) FI.blk.ty (by decide) e.symm
    have hblk := hg.block (L.nb i) FI.blk.lt (fun e => hne e.symm)
    have q3 : w1.cell? ⟨L.nb i, 3, none⟩ = some (.slice ao x.data.size c) := (World.cell?_of_block hblk).trans b3
    have f3 : w1.frozen? ⟨L.nb i, 3, none⟩ = false := by
      obtain ⟨⟨cur, hc⟩, _⟩ := FI.blk
      simp [World.frozen?, hblk, hc]
    have HF := hide FI
    have HO := hide ho
    have HG := hide hg
    have HB := hide hb
    have HK := hide hblk
    have HN := hide hnk
    clear FI hnk ho hg hb hblk hl hne
    go_enter Tryz.func93, Tryz.ntmps93
    go_wp2_with (at_builtin; refine Lib.wpList_append_run _ rfl _ _ _ _ rfl _ _ rfl (by first | rfl | (simp only [ek]; rfl) | (trace_state; fail)) _ _ hr ?_)
    go_end0
    refine ⟨rfl, .slice ao' (x.data.size + k) c', ?_⟩
    obtain rfl := HN.out
    have FI := HF.out
    have hG := HG.out
    have hz : (w1.setCell ⟨L.nb i, 3, none⟩ (.slice ao' (x.data.size + k) c')).heap.size = w1.heap.size := by simp
    have hbv : ∀ b, (Value.slice ao' (x.data.size + k) c').ownBlock = some b → b ≠ L.nb i := fun b hb e => by
      subst e
      rcases HB.out _ hb with q | q
      · exact FI.data.ne (k := L.nb i) FI.blk.ty (by decide) (by rw [len_bytes]; exact q.symm)
      · have := FI.blk.lt
        omega
    have hx : ext F w w1 = ext F w (w1.setCell ⟨L.nb i, 3, none⟩ (.slice ao' (x.data.size + k) c')) := by unfold ext; rw [hz]
    have ty1 : Ty w1 (L.nb i) 162 := by
      obtain ⟨cur, hc⟩ := FI.blk.ty
      exact ⟨cur, HK.out.trans hc⟩
    have old : ∀ j, j ≠ 3 → (w1.setCell ⟨L.nb i, 3, none⟩ (.slice ao' (x.data.size + k) c')).cell? ⟨L.nb i, j, none⟩ = w.cell? ⟨L.nb i, j, none⟩ := fun j hj => (cell_other _ _ _ _ _ (fun e => hj e.symm)).trans (World.cell?_of_block HK.out)
    refine ⟨⟨⟨ty1.setCell _ _, .inl FI.blk.own⟩, (old 0 (by decide)).trans FI.c0, (old 1 (by decide)).trans FI.c1, (old 2 (by decide)).trans FI.c2, cell_same _ _ _ _ _ q3, (old 4 (by decide)).trans FI.c4, ?_⟩, ?_⟩
    · rw [show byteCells (padded x.data (x.data.size + k)) = byteCells x.data ++ zeroRows k by rw [bytes_padded]; congr 2; omega, ← hx]
      exact HO.out.keptBlock (fun b hb => Below.heap_setCell _ _ _ b (hbv b hb))
    · refine ⟨hG.os, hG.tape, hG.output, by rw [hz]; exact hG.size, fun b hb hn hv => (Below.heap_setCell _ _ _ b hn).trans (hG.block b hb (fun e => hv e.symm)), fun b hb => ?_⟩
      rw [len_bytes]
      exact HB.out b hb
  · have HF := hide FI
    have en : ¬ 0 < (n : Int) - (x.data.size : Int) := by omega
    have hm := hide hm
    clear FI hl
    go_enter Tryz.func93, Tryz.ntmps93
    go_wp2
    go_end0
    refine ⟨rfl, _, ?_, Wrote.refl _ _ _⟩
    have e0 : padded x.data n = x.data := by
      unfold padded
      rw [show n - x.data.size = 0 by have := hm.out; omega, zeros_none]
    rw [e0]
    exact HF.out.mono (fun k hk => .inl hk)
end Go.Proofs.YtdmdgnghaceibaaGreat.P
/- The program's file.write. -/
namespace Go.Proofs.YtdmdgnghaceibaaGreat.P
open M Go.ChangeShapes Go.WideShapes Go.ChangeAt Go.RowKit
set_option linter.unusedVariables false

theorem flat_take1 : ∀ (rows : List (List Value)) (a : Nat), (∀ r ∈ rows, r.length = 1) → (rows.take a).flatten = rows.flatten.take a
  | [], a, _ => by simp
  | r :: rs, 0, _ => by simp
  | r :: rs, a + 1, h => by
    have hr := h r (by simp)
    rw [List.take_succ_cons, List.flatten_cons, List.flatten_cons, flat_take1 rs a (fun x hx => h x (by simp [hx])), List.take_append, hr, List.take_of_length_le (show r.length ≤ a + 1 by omega), show a + 1 - 1 = a by omega]
theorem flat_drop1 : ∀ (rows : List (List Value)) (a : Nat), (∀ r ∈ rows, r.length = 1) → (rows.drop a).flatten = rows.flatten.drop a
  | [], a, _ => by simp
  | r :: rs, 0, _ => by simp
  | r :: rs, a + 1, h => by
    have hr := h r (by simp)
    rw [List.drop_succ_cons, List.flatten_cons, flat_drop1 rs a (fun x hx => h x (by simp [hx])), List.drop_append, hr, List.drop_of_length_le (show r.length ≤ a + 1 by omega), show a + 1 - 1 = a by omega, List.nil_append]

/-- Some of a slice's elements, written over. -/
theorem own_splice {w : World} {F : Nat → Prop} {e : TypeId} {g n cap : Nat} {rows : List (List Value)} (h : Own w F e 1 (.slice (some ⟨g, 0, none⟩) n cap) rows) (a : Nat) (news : List (List Value)) (hn1 : ∀ r ∈ news, r.length = 1) (hle : a + news.length ≤ rows.length) :
    ∃ cur, w.heap[g]? = some (.cells cur e (0, 0)) ∧ a + news.flatten.length ≤ cur.size ∧
      Own (w.setRow g (cur.toList.take a ++ news.flatten ++ cur.toList.drop (a + news.flatten.length)).toArray) F e 1 (.slice (some ⟨g, 0, none⟩) n cap) (rows.take a ++ news ++ rows.drop (a + news.length)) := by
  obtain ⟨⟨hlen, ho⟩, hl, hF⟩ := h
  rcases ho with ⟨e1, _⟩ | ⟨g', cap', cur, e1, h0, hb, hcap, hmax, hsz, htake⟩
  · cases e1
  · cases e1
    have hnf : news.flatten.length = news.length := by rw [flat_length 1 _ hn1]; omega
    have hrf : rows.flatten.length = rows.length := by rw [hlen]; omega
    have hcl : cur.toList.length = cap := by rw [Array.length_toList]; omega
    obtain ⟨rest, hrest⟩ : ∃ rest, cur.toList = rows.flatten ++ rest := ⟨cur.toList.drop (rows.length * 1), by rw [← htake]; exact (List.take_append_drop _ _).symm⟩
    have hrows : ∀ r ∈ rows.take a ++ news ++ rows.drop (a + news.length), r.length = 1 := fun r hr => by
      rcases List.mem_append.1 hr with hr | hr
      · rcases List.mem_append.1 hr with hr | hr
        · exact hl r (List.mem_of_mem_take hr)
        · exact hn1 r hr
      · exact hl r (List.mem_of_mem_drop hr)
    have hll : (rows.take a ++ news ++ rows.drop (a + news.length)).length = rows.length := by
      simp only [List.length_append, List.length_take, List.length_drop]
      omega
    refine ⟨cur, hb, by rw [hnf]; omega, ⟨?_, .inr ⟨g, cap, _, by rw [hll], h0, setRow_heap w g cur _ e _ hb, by rw [hll]; exact hcap, hmax, ?_, ?_⟩⟩, hrows, hF⟩
    · rw [flat_length 1 _ hrows]
    · simp only [List.size_toArray, List.length_append, List.length_take, List.length_drop, hcl, hnf]
      omega
    · rw [hll, Nat.mul_one]
      simp only [List.flatten_append, flat_take1 rows a hl, flat_drop1 rows _ hl]
      have ta : (rows.flatten ++ rest).take a = rows.flatten.take a := List.take_append_of_le_length (by omega)
      have td : (rows.flatten ++ rest).drop (a + news.length) = rows.flatten.drop (a + news.length) ++ rest := List.drop_append_of_le_length (by omega)
      rw [hnf, hrest, ta, td]
      have : rows.length = (rows.flatten.take a ++ news.flatten ++ rows.flatten.drop (a + news.length)).length := by
        simp only [List.length_append, List.length_take, List.length_drop, hnf, hrf]
        omega
      rw [← List.append_assoc]
      rw [List.take_append_of_le_length (by omega), List.take_of_length_le (by omega)]

theorem over_cells (d : ByteArray) (a : Nat) (t : ByteArray) : byteCells (over d a t) = (byteCells (padded d (a + t.size))).take a ++ byteCells t ++ (byteCells (padded d (a + t.size))).drop (a + t.size) := by
  have hd : d.data.toList.length = d.size := by rw [Array.length_toList]; rfl
  have e1 : ((padded d a).extract 0 a).data.toList = (padded d (a + t.size)).data.toList.take a := by
    rw [ByteArray.data_extract, Array.toList_extract]
    simp only [List.extract_eq_take_drop, List.drop_zero, Nat.sub_zero]
    unfold padded zeros
    simp only [ByteArray.data_append, Array.toList_append, Array.toList_replicate, List.take_append, List.take_replicate, hd]
    congr 2
    omega
  have e2 : (if a + t.size < (padded d a).size then (padded d a).extract (a + t.size) (padded d a).size else ⟨#[]⟩).data.toList = (padded d (a + t.size)).data.toList.drop (a + t.size) := by
    have hr : (padded d (a + t.size)).data.toList.drop (a + t.size) = d.data.toList.drop (a + t.size) := by
      unfold padded zeros
      simp only [ByteArray.data_append, Array.toList_append, Array.toList_replicate, List.drop_append, List.drop_replicate, hd]
      rw [Nat.sub_self, List.replicate_zero, List.append_nil]
    rw [hr]
    rw [size_padded]
    split
    · rw [ByteArray.data_extract, Array.toList_extract]
      simp only [List.extract_eq_take_drop]
      unfold padded zeros
      simp only [ByteArray.data_append, Array.toList_append, Array.toList_replicate, List.drop_append, List.drop_replicate, hd]
      rw [show a - d.size - (a + t.size - d.size) = 0 by omega, List.replicate_zero, List.append_nil]
      exact List.take_of_length_le (by rw [List.length_drop, hd]; omega)
    · rw [List.drop_of_length_le (by rw [hd]; omega)]
  unfold over
  unfold byteCells
  rw [ByteArray.data_append, ByteArray.data_append, Array.toList_append, Array.toList_append, e1, e2]
  simp [List.map_append, List.map_take, List.map_drop]

theorem bytes_one (t : ByteArray) : ∀ r ∈ byteCells t, r.length = 1 := fun r hr => by
  unfold byteCells at hr
  obtain ⟨c, _, rfl⟩ := List.mem_map.1 hr
  rfl

/-- How a file's write ends. -/
def FWrote (w : World) (F : Nat → Prop) (L : Lay) (v : Value) (i : Nat) (x : Nd) (a : Nat) (t : ByteArray) (e : Ending) (w' : World) : Prop :=
  if 300 < a ∨ 300 < a + t.size then e = .returned (.int .i64 12) ∧ w' = w
  else e = .returned (.int .i64 0) ∧ ∃ v', FileIs w' (ext F w w') L v' i (wroteNd x a t) ∧ Wrote (L.nb i) v v' w w'

theorem file_version {w : World} {F : Nat → Prop} {L : Lay} {v : Value} {i : Nat} {x : Nd} (FI : FileIs w F L v i x) (n : Int) : FileIs (w.setCell ⟨L.nb i, 4, none⟩ (.int .i64 n)) F L v i { x with version := n } ∧ Wrote (L.nb i) v v w (w.setCell ⟨L.nb i, 4, none⟩ (.int .i64 n)) := by
  have old : ∀ j, j ≠ 4 → (w.setCell ⟨L.nb i, 4, none⟩ (.int .i64 n)).cell? ⟨L.nb i, j, none⟩ = w.cell? ⟨L.nb i, j, none⟩ := fun j hj => cell_other _ _ _ _ _ (fun e => hj e.symm)
  refine ⟨⟨FI.blk.setCell _ _, (old 0 (by decide)).trans FI.c0, (old 1 (by decide)).trans FI.c1, (old 2 (by decide)).trans FI.c2, (old 3 (by decide)).trans FI.c3, cell_same _ _ _ _ _ FI.c4, ?_⟩, rfl, rfl, rfl, by simp, fun k _ hn _ => Below.heap_setCell _ _ _ k hn, fun k hk => .inl hk⟩
  exact FI.data.keptBlock (fun b hb => Below.heap_setCell _ _ _ b (fun e => FI.data.ne (k := L.nb i) FI.blk.ty (by decide) (by rw [hb, e])))

set_option maxRecDepth 20000 in
set_option maxHeartbeats 1000000 in
theorem fwrite_any {w : World} {F : Nat → Prop} {L : Lay} {v : Value} {i : Nat} {x : Nd} (FI : FileIs w F L v i x) (a : Nat) (ha : a ≤ 9223372036854775807) (dv : Value) (t : ByteArray) (hsrc : SrcIs w 1 dv (byteCells t)) (hap : ∀ ad n c, dv = .slice (some ad) n c → 0 < n → ¬ F ad.block) (ht : t.size ≤ 140737488355328) (hsz : x.data.size ≤ 1000000) :
    Calls Tryz.prog 52 #[.pointer (some ⟨L.nb i, 0, none⟩), .int .i64 a, dv] w fun e w' => FWrote w F L v i x a t e w' := by
  obtain ⟨h1, h2, h3⟩ := hsrc
  rw [len_bytes] at h3
  obtain ⟨ad, c, rfl⟩ : ∃ ad c, dv = .slice ad t.size c := by
    rcases h3 with ⟨rfl, h⟩ | ⟨ad, c, rfl, _⟩
    · exact ⟨none, 0, by rw [← len_bytes, h]; rfl⟩
    · exact ⟨some ad, c, rfl⟩
  by_cases hbig : 300 < a ∨ 300 < a + t.size
  · have H := hide hbig
    have e1 : (300 : Int) - (t.size : Int) < (a : Int) := by omega
    clear hbig FI h1 h2 h3 hap
    go_enter Tryz.func52, Tryz.ntmps52
    go_wp2
    go_ret
    unfold FWrote
    rw [if_pos H.out]
    exact ⟨rfl, rfl⟩
  · have H := hide hbig
    have e1 : ¬ (300 : Int) - (t.size : Int) < (a : Int) := by omega
    by_cases ht0 : t.size = 0
    · have c4 := FI.c4
      have f4 := FI.blk.fz 4
      have HF := hide FI
      have HT := hide ht0
      rw [ht0] at e1 ⊢
      clear hbig FI h1 h2 h3 hap
      go_enter Tryz.func52, Tryz.ntmps52
      go_wp2
      go_ret
      unfold FWrote
      rw [if_neg H.out]
      obtain ⟨q1, q2⟩ := file_version HF.out (wrap64 (x.version + 1))
      refine ⟨rfl, v, ?_, q2⟩
      unfold wroteNd
      rw [if_pos HT.out]
      exact q1.mono (fun k hk => .inl hk)
    · obtain ⟨ad, rfl, hcells⟩ : ∃ ad', ad = some ad' ∧ ∀ j u, (byteCells t).flatten[j]? = some u → w.cell? (ad'.add j) = some u := by
        rcases h3 with ⟨e, h⟩ | ⟨ad', c', e, hc⟩
        · exact absurd (by rw [← len_bytes, h]; rfl) ht0
        · cases e
          exact ⟨ad', rfl, hc⟩
      have hnF := hap ad t.size c rfl (by omega)
      have hfl : (byteCells t).flatten.length = t.size := by rw [flat_length 1 _ h1, len_bytes]; omega
      have hadlt : ad.block < w.heap.size := by
        cases hc : (byteCells t).flatten with
        | nil => rw [hc] at hfl; exact absurd hfl.symm ht0
        | cons u l =>
          have h0 := hcells 0 u (by rw [hc]; rfl)
          have h0' := World.block_lt_of_cell? w _ h0
          simpa [Addr.add] using h0'
      have hone : ∀ u ∈ (byteCells t).flatten, u.oneCell' = true := fun u hu => by
        obtain ⟨r, hr, hur⟩ := List.mem_flatten.1 hu
        exact h2 r hr u hur
      have HR := hide (reach_any FI (a + t.size) (by omega) hsz)
      rw [Int.natCast_add] at HR
      have HF := hide FI
      have HT := hide ht0
      have e2 : 0 < t.size := by omega
      have e5 : (a : Int) + (t.size : Int) ≤ 300 := by omega
      have Hh := hide (And.intro h1 (And.intro hcells (And.intro hnF (And.intro hfl (And.intro hadlt hone)))))
      clear hbig FI h1 h2 h3 hap hcells hnF hfl hadlt hone ht0
      go_enter Tryz.func52, Tryz.ntmps52
      go_wp2_with fail
      refine HR.out.mono ?_
      rintro e w1 ⟨rfl, v1, hFI1, hW⟩
      obtain ⟨h1, hcells, hnF, hfl, hadlt, hone⟩ := Hh.out
      have hps : (padded x.data (a + t.size)).size = max x.data.size (a + t.size) := size_padded _ _
      obtain ⟨len1, hlen1⟩ : ∃ len1, len1 = max x.data.size (a + t.size) := ⟨_, rfl⟩
      have hle1 : a + t.size ≤ len1 := by omega
      have hmx : len1 ≤ 1000000 := by have := H.out; omega
      have hbl : (byteCells (padded x.data (a + t.size))).length = len1 := by rw [len_bytes, hps, hlen1]
      rcases hFI1.data.opened with ⟨_, hnil⟩ | ⟨g, cap1, hv1, hlc, hmaxl, _⟩
      · exfalso
        have h0 : (byteCells (padded x.data (a + t.size))).length = 0 := by show (byteCells ({ x with data := padded x.data (a + t.size) } : Nd).data).length = 0; rw [hnil]; rfl
        omega
      · have hv1' : v1 = .slice (some ⟨g, 0, none⟩) len1 cap1 := hv1.trans (by rw [← hbl])
        clear hv1
        have hlc' : len1 ≤ cap1 := by rw [← hbl]; exact hlc
        clear hlc
        subst hv1'
        have hcapm : cap1 ≤ 9223372036854775807 := by unfold maxLen at hmaxl; omega
        have hdat : Own w1 (ext F w w1) 5 1 (.slice (some ⟨g, 0, none⟩) len1 cap1) (byteCells (padded x.data (a + t.size))) := hFI1.data
        obtain ⟨cur, hcur, hfit, hown⟩ := own_splice hdat a (byteCells t) h1 (by rw [len_bytes, hbl]; omega)
        have hgne : g ≠ L.nb i := fun e => hFI1.data.ne (k := L.nb i) hFI1.blk.ty (by decide) (by rw [← e]; rfl)
        have hadn : w1.heap[ad.block]? = w.heap[ad.block]? := hW.block _ hadlt (fun e => hnF (e ▸ HF.out.blk.own)) (fun e => hnF (HF.out.data.2.2 _ e))
        have hcells1 : ∀ j u, (byteCells t).flatten[j]? = some u → w1.cell? (ad.add j) = some u := fun j u hj => by
          rw [← hcells j u hj]
          have hb : (ad.add j).block = ad.block := by unfold Addr.add; split <;> rfl
          exact World.cell?_of_block (a := ad.add j) (by rw [hb]; exact hadn)
        have hcp := run_copy_row (P := Tryz.prog) w1 31 31 3 5 g a (len1 - a) (cap1 - a) ad t.size c cur 5 (byteCells t).flatten Tryz.underlying31 sizeByte hcur (by rw [hfl]; show t.size = min t.size (len1 - a); omega) hcells1 hfit hone
        rw [hfl] at hcp hown
        rw [len_bytes] at hown
        obtain ⟨Y, hY⟩ : ∃ Y, Y = (cur.toList.take a ++ (byteCells t).flatten ++ cur.toList.drop (a + t.size)).toArray := ⟨_, rfl⟩
        rw [← hY] at hcp hown
        have q3 := hFI1.c3
        have hblk : (w1.setRow g Y).heap[L.nb i]? = w1.heap[L.nb i]? := setRow_other _ _ _ _ (fun e => hgne e.symm)
        have q4 : (w1.setRow g Y).cell? ⟨L.nb i, 4, none⟩ = some (.int .i64 x.version) := (World.cell?_of_block hblk).trans hFI1.c4
        have f4 : (w1.setRow g Y).frozen? ⟨L.nb i, 4, none⟩ = false := by
          obtain ⟨⟨cu, hc⟩, _⟩ := hFI1.blk
          simp [World.frozen?, hblk, hc]
        have e7 : ¬ len1 < a := by omega
        have e8 : ¬ cap1 = a := by omega
        have Ho := hide hown
        have HB := hide hblk
        have HW := hide hW
        have HF1 := hide hFI1
        have Hl := hide (And.intro hle1 (And.intro hps hlen1))
        clear h1 hcells hnF hfl hadlt hone hps hlen1 hbl hdat hcur hfit hown hgne hadn hcells1 hY hblk hFI1 hW hle1 hmaxl
        go_wp2
        go_ret
        unfold FWrote
        rw [if_neg H.out]
        have F1 := HF1.out
        have c2 : ∀ j, (w1.setRow g Y).cell? ⟨L.nb i, j, none⟩ = w1.cell? ⟨L.nb i, j, none⟩ := fun j => World.cell?_of_block HB.out
        have F2 : FileIs (w1.setRow g Y) (ext F w w1) L (.slice (some ⟨g, 0, none⟩) len1 cap1) i { x with data := over x.data a t } :=
          ⟨⟨by obtain ⟨cu, hc⟩ := F1.blk.ty; exact ⟨cu, HB.out.trans hc⟩, F1.blk.own⟩, (c2 0).trans F1.c0, (c2 1).trans F1.c1, (c2 2).trans F1.c2, (c2 3).trans F1.c3, (c2 4).trans F1.c4, by rw [over_cells]; exact Ho.out⟩
        have W2 : Wrote (L.nb i) (.slice (some ⟨g, 0, none⟩) len1 cap1) (.slice (some ⟨g, 0, none⟩) len1 cap1) w1 (w1.setRow g Y) :=
          ⟨rfl, rfl, rfl, by simp, fun k _ _ hk => setRow_other _ _ _ _ (fun e => hk (by rw [e]; rfl)), fun k hk => .inl hk⟩
        obtain ⟨q1, q2⟩ := file_version F2 (wrap64 (x.version + 1))
        refine ⟨rfl, _, ?_, (HW.out.trans W2).trans q2⟩
        unfold wroteNd
        rw [if_neg HT.out]
        exact q1.mono (ext_mono (by simp))
end Go.Proofs.YtdmdgnghaceibaaGreat.P
/- The program's Write. -/
namespace Go.Proofs.YtdmdgnghaceibaaGreat.P
open M Go.ChangeShapes Go.WideShapes Go.ChangeAt Go.RowKit
set_option linter.unusedVariables false

theorem set_map {α β : Type} (f : α → β) : ∀ (l : List α) (i : Nat) (x y : α), l[i]? = some x → f y = f x → (l.set i y).map f = l.map f
  | [], i, x, y, h, _ => by simp at h
  | a :: l, 0, x, y, h, e => by
    simp only [List.getElem?_cons_zero, Option.some.injEq] at h
    subst h
    simp [e]
  | a :: l, i + 1, x, y, h, e => by
    simp only [List.getElem?_cons_succ] at h
    simp only [List.set_cons_succ, List.map_cons, set_map f l i x y h e]

theorem findIdx_map {α : Type} (p : α → Bool) (l : List α) : l.findIdx? p = (l.map p).findIdx? id := by
  rw [List.findIdx?_map]; rfl
theorem live_map (l : List Nd) : liveNodes l = ((l.map (fun x => !x.gone)).filter id).length := by
  unfold liveNodes
  induction l with
  | nil => rfl
  | cons x l ih => simp only [List.map_cons, List.filter_cons]; cases h : x.gone <;> simp [ih]

/-- A node that is rewritten, and lies where it lay. -/
structure SameNd (x y : Nd) : Prop where
  name : y.name = x.name
  dir : y.dir = x.dir
  inn : y.inn = x.inn
  gone : y.gone = x.gone

theorem lies_setNode {st : St} {i : Nat} {x y : Nd} (hx : st.nodes[i]? = some x) (hs : SameNd x y) (d : Nat) (s : ByteArray) : lies (setNode st i y) d s = lies st d s := by
  unfold lies setNode
  simp only
  rw [findIdx_map, findIdx_map (l := st.nodes), set_map _ _ _ x y hx]
  unfold liesHere
  rw [hs.name, hs.inn, hs.gone]
theorem live_setNode {st : St} {i : Nat} {x y : Nd} (hx : st.nodes[i]? = some x) (hs : SameNd x y) : liveNodes (setNode st i y).nodes = liveNodes st.nodes := by
  unfold setNode
  simp only
  rw [live_map, live_map, set_map _ _ _ x y hx (by rw [hs.gone])]
theorem get_setNode {st : St} {i j : Nat} {y z : Nd} (hi : i < st.nodes.length) (h : (setNode st i y).nodes[j]? = some z) : (j = i ∧ z = y) ∨ (j ≠ i ∧ st.nodes[j]? = some z) := by
  unfold setNode at h
  simp only at h
  by_cases e : j = i
  · subst e
    rw [List.getElem?_set_self hi] at h
    exact .inl ⟨rfl, (Option.some.inj h).symm⟩
  · rw [List.getElem?_set_ne (fun q => e q.symm)] at h
    exact .inr ⟨e, h⟩
theorem wrote_same (x : Nd) (a : Nat) (t : ByteArray) : SameNd x (wroteNd x a t) := by
  unfold wroteNd
  split <;> exact ⟨rfl, rfl, rfl, rfl⟩

/-- The tree with a file rewritten. -/
theorem TreeIs.rewrite {w w' : World} {F F' : Nat → Prop} {t : Nat} {st : St} {L : Lay} {bv : Nat → Value} {i : Nat} {x y : Nd} {v' : Value} (h : TreeIs w F t st L bv) (hx : st.nodes[i]? = some x) (hxd : x.dir = false) (hs : SameNd x y)
    (hF : ∀ k, F k → F' k) (hf : FileIs w' F' L v' i y) (hW : Wrote (L.nb i) (bv i) v' w w') : TreeIs w' F' t (setNode st i y) L (fun j => if j = i then v' else bv j) := by
  have hi : i < st.nodes.length := M.lt_of_getElem? hx
  have FI := h.file i x hx hxd
  have hbt : ∀ k, (bv i).ownBlock = some k → Ty w k 5 := fun k hk => by
    rcases FI.data.opened with ⟨e, _⟩ | ⟨g, cap, e, _, _, hg, ⟨cur, hb⟩, _⟩
    · rw [e] at hk; simp [Value.ownBlock] at hk
    · rw [e] at hk
      simp [Value.ownBlock] at hk
      subst hk
      exact ⟨cur, hb⟩
  have hk : KeepX (fun e => e ≠ 162 ∧ e ≠ 5) True F w w' := by
    refine ⟨fun k cur e hFk hb hT => hW.block k (Array.getElem?_eq_some_iff.1 hb).1 (fun q => ?_) (fun q => ?_), fun _ k es c hFk hb => hW.block k (Array.getElem?_eq_some_iff.1 hb).1 (fun q => ?_) (fun q => ?_)⟩
    · subst q
      exact Ty.ne_ty FI.blk.ty ⟨cur, hb⟩ (fun q => hT.1 q.symm) rfl
    · exact Ty.ne_ty (hbt k q) ⟨cur, hb⟩ (fun q => hT.2 q.symm) rfl
    · subst q
      exact Ty.ne_map FI.blk.ty hb rfl
    · exact Ty.ne_map (hbt k q) hb rfl
  have hlen : (setNode st i y).nodes.length = st.nodes.length := by simp [setNode]
  have ct := h.blk.cell hk (by decide)
  have back : ∀ j z, (setNode st i y).nodes[j]? = some z → ∃ z', st.nodes[j]? = some z' ∧ SameNd z' z := fun j z hz => by
    rcases get_setNode hi hz with ⟨rfl, rfl⟩ | ⟨_, hz⟩
    · exact ⟨x, hx, hs⟩
    · exact ⟨z, hz, rfl, rfl, rfl, rfl⟩
  have hlt : ∀ j z k, st.nodes[j]? = some z → z.dir = false → (bv j).ownBlock = some k → k < w.heap.size := fun j z k hz hzd hkk => ((h.file j z hz hzd).data.1.lt k hkk).2
  refine ⟨(h.blk.kept hk (by decide)).mono hF, (ct 0).trans h.c0, ?_, fun j z hz => ?_, fun j z hz hzd => ?_, fun j z hz hzd => ?_, fun a b ha hb => ?_, fun a b za zb ha hb hda hdb => ?_, fun a b za zb k ha hb hda hdb hne hka => ?_⟩
  · rw [live_setNode hx hs]
    exact (ct 1).trans h.c1
  · obtain ⟨z', hz', hsz⟩ := back j z hz
    rw [hsz.dir]
    exact h.kind j z' hz'
  · rcases get_setNode hi hz with ⟨rfl, rfl⟩ | ⟨_, hz⟩
    · rw [hs.dir, hxd] at hzd; cases hzd
    · have D := ((h.dir j z hz hzd).kept hk trivial (by decide) (by decide)).mono hF
      refine ⟨D.blk, D.c0, D.c1, D.c2, D.c3, D.mapF, ?_, D.bound⟩
      rw [hlen]
      exact D.map.congr (fun s _ => by rw [lies_setNode hx hs])
  · rcases get_setNode hi hz with ⟨rfl, rfl⟩ | ⟨hne, hz⟩
    · rw [if_pos rfl]
      exact hf
    · rw [if_neg hne]
      have Fj := h.file j z hz hzd
      have hjl : j < st.nodes.length := M.lt_of_getElem? hz
      have hb : w'.heap[L.nb j]? = w.heap[L.nb j]? := hW.block _ Fj.blk.lt (fun e => hne (h.nbInj j i hjl hi e)) (fun e => Ty.ne_ty (hbt _ e) Fj.blk.ty (by decide) rfl)
      have c : ∀ q, w'.cell? ⟨L.nb j, q, none⟩ = w.cell? ⟨L.nb j, q, none⟩ := fun q => World.cell?_of_block hb
      refine FileIs.mono ⟨⟨by obtain ⟨cu, hc⟩ := Fj.blk.ty; exact ⟨cu, hb.trans hc⟩, Fj.blk.own⟩, (c 0).trans Fj.c0, (c 1).trans Fj.c1, (c 2).trans Fj.c2, (c 3).trans Fj.c3, (c 4).trans Fj.c4, ?_⟩ hF
      refine Fj.data.keptBlock (fun k hkk => hW.block k (hlt j z k hz hzd hkk) (fun e => ?_) (h.bvApart j i z x k hz hx hzd hxd hne hkk))
      subst e
      exact Fj.data.ne (k := L.nb i) FI.blk.ty (by decide) hkk.symm
  · rw [hlen] at ha hb
    exact h.nbInj a b ha hb
  · obtain ⟨za', ha', sa⟩ := back a za ha
    obtain ⟨zb', hb', sb⟩ := back b zb hb
    exact h.mbInj a b za' zb' ha' hb' (sa.dir ▸ hda) (sb.dir ▸ hdb)
  · obtain ⟨za', ha', sa⟩ := back a za ha
    obtain ⟨zb', hb', sb⟩ := back b zb hb
    have da : za'.dir = false := sa.dir ▸ hda
    have db : zb'.dir = false := sb.dir ▸ hdb
    by_cases e1 : a = i
    · subst e1
      rw [if_pos rfl] at hka
      rw [if_neg (fun e => hne e.symm)]
      rcases hW.own k hka with q | q
      · exact h.bvApart a b za' zb' k ha' hb' da db hne q
      · intro e
        have := hlt b zb' k hb' db e
        omega
    · rw [if_neg e1] at hka
      by_cases e2 : b = i
      · subst e2
        rw [if_pos rfl]
        intro e
        rcases hW.own k e with q | q
        · exact h.bvApart a b za' zb' k ha' hb' da db hne hka q
        · have := hlt a za' k ha' da hka
          omega
      · rw [if_neg e2]
        exact h.bvApart a b za' zb' k ha' hb' da db hne hka
end Go.Proofs.YtdmdgnghaceibaaGreat.P
/- The program's Write, whole. -/
namespace Go.Proofs.YtdmdgnghaceibaaGreat.P
open M Go.ChangeShapes Go.WideShapes Go.ChangeAt Go.RowKit
set_option linter.unusedVariables false

/-- How Write ends. -/
def PEnds5 (w : World) (F : Nat → Prop) (s : Nat) (p : St × Int × Int) (e : Ending) (w' : World) : Prop :=
  e = .returned (.tuple #[.int .i64 p.2.1, .int .i64 p.2.2]) ∧ SrvIs w' (ext F w w') s p.1 ∧ Ext F w w'

theorem PEnds5.of {w w1 : World} {F : Nat → Prop} {s : Nat} {p : St × Int × Int} {n c : Int} {st' : St} (hp : p = (st', n, c)) (h : Held w1 (ext F w w1) s st') (hx : Ext F w w1) : PEnds5 w F s p (.returned (.tuple #[.int .i64 n, .int .i64 c])) (left w1 s) := by
  subst hp
  obtain ⟨h1, h2⟩ := left_close (w1 := w) h hx
  exact ⟨rfl, h1, h2⟩

theorem mWrite_bad {st : St} {n a : Int} {t : ByteArray} (h : mFile st (find st n) ≠ 0) : mWrite st n a t = (tick st, 0, mFile st (find st n)) := by unfold mWrite; rw [if_neg h]
theorem mWrite_arg {st : St} {n a : Int} {t : ByteArray} (h : mFile st (find st n) = 0) (ha : a < 0) : mWrite st n a t = (tick st, 0, 1) := by unfold mWrite; rw [if_pos h, if_pos ha]
theorem mWrite_big {st : St} {n a : Int} {t : ByteArray} (h : mFile st (find st n) = 0) (ha : ¬ a < 0) (hb : 300 < a ∨ 300 < a + t.size) : mWrite st n a t = (tick st, 0, 12) := by unfold mWrite; rw [if_pos h, if_neg ha, if_pos hb]

theorem Wrote.ext {nb : Nat} {v v' : Value} {w w' : World} {F : Nat → Prop} (h : Wrote nb v v' w w') (hnb : F nb) (hv : ∀ k, v.ownBlock = some k → F k) : Ext F w w' :=
  ⟨h.os, h.tape, h.output, h.size, fun k hk hF => h.block k hk (fun e => hF (e ▸ hnb)) (fun e => hF (hv k e))⟩

theorem Wrote.keep {nb : Nat} {v v' : Value} {w w' : World} {F : Nat → Prop} (h : Wrote nb v v' w w') (h1 : Ty w nb 162) (h2 : ∀ k, v.ownBlock = some k → Ty w k 5) : KeepX (fun e => e ≠ 162 ∧ e ≠ 5) True F w w' := by
  refine ⟨fun k cur e hFk hb hT => h.block k (Array.getElem?_eq_some_iff.1 hb).1 (fun q => ?_) (fun q => ?_), fun _ k es c hFk hb => h.block k (Array.getElem?_eq_some_iff.1 hb).1 (fun q => ?_) (fun q => ?_)⟩
  · subst q
    exact Ty.ne_ty h1 ⟨cur, hb⟩ (fun q => hT.1 q.symm) rfl
  · exact Ty.ne_ty (h2 k q) ⟨cur, hb⟩ (fun q => hT.2 q.symm) rfl
  · subst q
    exact Ty.ne_map h1 hb rfl
  · exact Ty.ne_map (h2 k q) hb rfl

/-- The Server with a file rewritten. -/
theorem SrvHas.rewrite {w w' : World} {F F' : Nat → Prop} {s t : Nat} {st : St} {lk : Int} {L : Lay} {bv : Nat → Value} {i : Nat} {x y : Nd} {v' : Value} (h : SrvHas w F s st lk t L bv) (hx : st.nodes[i]? = some x) (hxd : x.dir = false) (hs : SameNd x y)
    (hF : ∀ k, F k → F' k) (hf : FileIs w' F' L v' i y) (hW : Wrote (L.nb i) (bv i) v' w w') : SrvHas w' F' s (setNode st i y) lk t L (fun j => if j = i then v' else bv j) := by
  have FI := h.tree.file i x hx hxd
  have hk : KeepX (fun e => e ≠ 162 ∧ e ≠ 5) True F w w' := hW.keep FI.blk.ty (fun k hk => by
    rcases FI.data.opened with ⟨e, _⟩ | ⟨g, cap, e, _, _, hg, ⟨cur, hb⟩, _⟩
    · rw [e] at hk; simp [Value.ownBlock] at hk
    · rw [e] at hk
      simp [Value.ownBlock] at hk
      subst hk
      exact ⟨cur, hb⟩)
  have c := h.blk.cell hk (by decide)
  exact ⟨(h.blk.kept hk (by decide)).mono hF, (c 0).trans h.k0, (c 1).trans h.k1, (c 3).trans h.k3, (c 5).trans h.k5, (c 6).trans h.k6, fun n hn => ((h.fids n hn).kept hk (by decide) (by decide) (c _) (c _)).mono hF, h.tree.rewrite hx hxd hs hF hf hW⟩

theorem src_kept {w w1 : World} {F : Nat → Prop} {dv : Value} {t : ByteArray} (hsrc : SrcIs w 1 dv (byteCells t)) (hap : ∀ ad n c, dv = .slice (some ad) n c → 0 < n → ¬ F ad.block) (hx : Ext F w w1) :
    SrcIs w1 1 dv (byteCells t) ∧ ∀ ad n c, dv = .slice (some ad) n c → 0 < n → ¬ ext F w w1 ad.block := by
  obtain ⟨h1, h2, h3⟩ := hsrc
  have hfl : (byteCells t).flatten.length = (byteCells t).length := by rw [flat_length 1 _ h1]; omega
  rcases h3 with ⟨rfl, h⟩ | ⟨ad, c, rfl, hc⟩
  · exact ⟨⟨h1, h2, .inl ⟨rfl, h⟩⟩, fun ad n c e => by cases e⟩
  · have hb : ∀ j, (ad.add j).block = ad.block := fun j => by unfold Addr.add; split <;> rfl
    have hlt : 0 < (byteCells t).length → ad.block < w.heap.size := fun h0 => by
      cases hq : (byteCells t).flatten with
      | nil => rw [hq] at hfl; simp at hfl; omega
      | cons u l =>
        have h0' := World.block_lt_of_cell? w _ (hc 0 u (by rw [hq]; rfl))
        rw [hb] at h0'
        exact h0'
    refine ⟨⟨h1, h2, .inr ⟨ad, c, rfl, fun j u hj => ?_⟩⟩, fun ad' n c' e hn => ?_⟩
    · have h0 : 0 < (byteCells t).length := by have := M.lt_of_getElem? hj; omega
      rw [← hc j u hj]
      exact World.cell?_of_block (a := ad.add j) (by rw [hb]; exact hx.block _ (hlt h0) (hap ad _ c rfl h0))
    · cases e
      rintro (q | q)
      · exact hap ad _ c rfl hn q
      · have := hlt hn
        omega

set_option maxRecDepth 20000 in
set_option maxHeartbeats 1000000 in
theorem swrite_any {w : World} {F : Nat → Prop} {s : Nat} {st : St} (n a : Int) (ha : a ≤ 9223372036854775807) (dv : Value) (t : ByteArray) (h : SrvIs w F s st) (ok : POk st) (hsrc : SrcIs w 1 dv (byteCells t)) (hap : ∀ ad n c, dv = .slice (some ad) n c → 0 < n → ¬ F ad.block) (ht : t.size ≤ 140737488355328) (hsz : ∀ x ∈ st.nodes, x.data.size ≤ 1000000) :
    Calls Tryz.prog 18 #[.pointer (some ⟨s, 0, none⟩), .int .i64 n, .int .i64 a, dv] w fun e w' => PEnds5 w F s (mWrite st n a t) e w' := by
  obtain ⟨ad, cd, rfl⟩ : ∃ ad c, dv = .slice ad t.size c := by
    rcases hsrc.2.2 with ⟨rfl, h⟩ | ⟨ad, c, rfl, _⟩
    · exact ⟨none, 0, by rw [← len_bytes, h]; rfl⟩
    · exact ⟨some ad, c, by rw [len_bytes]⟩
  go_enter_defers Tryz.func18, Tryz.ntmps18
  go_wp2_with fail
  refine (enter_any h).mono ?_
  rintro e w1 ⟨rfl, hH, hx⟩
  clear h
  obtain ⟨hsrc1, hap1⟩ := src_kept hsrc hap hx
  obtain ⟨tt, L, bv, hS⟩ := hH
  have hx := hide hx
  have HO := hide (openedFile_any n hS ok.tick)
  have em : mFile (tick st) (find (tick st) n) = mFile st (find st n) := rfl
  rw [em] at HO
  clear hsrc hap
  by_cases he : mFile st (find st n) = 0
  · obtain ⟨i, f, hf, hi, hop, hg, hd⟩ := mFile_zero he
    have hm := List.mem_of_getElem? hi
    have hne := (ok.way f hm).1
    have hsp : f.way.getLast? = some (f.way.getLast hne) := List.getLast?_eq_some_getLast hne
    generalize f.way.getLast hne = sp at hsp
    have hno : nodeOf f = sp.n := by simp [nodeOf, hsp]
    have hin := ((ok.way f hm).2 sp (List.mem_of_getLast? hsp)).1
    obtain ⟨x, hxn⟩ := getElem?_of_lt hin
    have hxd : x.dir = false := by rw [hno] at hd; simpa [isDir, hxn] using hd
    have ev : openFileV (tick st) L n = .pointer (some ⟨L.nb sp.n, 0, none⟩) := by
      unfold openFileV
      rw [show find (tick st) n = some i from hf]
      simp only
      rw [show (tick st).fids[i]? = some f from hi]
      simp only
      rw [if_pos (by rw [hf] at he; exact he), hno]
    rw [he, ev] at HO
    by_cases ha0 : a < 0
    · have H := hide (mWrite_arg (t := t) he ha0)
      have hS := hide hS
      clear he hf hi hm hne hsp hxn ev em hsrc1 hap1
      go_wp2_with (go_at_call 50; refine HO.out.mono ?_; rintro e w' ⟨rfl, hw⟩; obtain rfl := hw.symm)
      have hD : Held w1 (ext F w w1) s (tick st) := ⟨tt, L, bv, hS.out⟩
      refine leaves_cons (f := 43) (args := #[.pointer (some ⟨s, 0, none⟩)]) (by simp) (by simp [go_sem]) ?_
      refine (leave_deferred .returning hD).mono ?_
      rintro e u' w'' ⟨rfl, rfl, rfl⟩
      refine ⟨_, results_tmp2 rfl _ _ _, ?_⟩
      exact PEnds5.of H.out hD hx.out
    · obtain ⟨a', rfl⟩ := Int.eq_ofNat_of_zero_le (show 0 ≤ a by omega)
      have FI := hS.tree.file sp.n x hxn hxd
      have HR := hide (fwrite_any FI a' (by omega) _ t hsrc1 hap1 ht (hsz x (List.mem_of_getElem? hxn)))
      have na : ¬ (a' : Int) < 0 := ha0
      by_cases hb : 300 < a' ∨ 300 < a' + t.size
      · have H := hide (mWrite_big (t := t) (a := (a' : Int)) he ha0 (by omega))
        have hS := hide hS
        unfold FWrote at HR
        simp only [if_pos hb] at HR
        clear he hf hi hm hne hsp hxn ev em hsrc1 hap1 FI hb
        go_wp2_with (first | (go_at_call 50; refine HO.out.mono ?_; rintro e w' ⟨rfl, hw⟩; obtain rfl := hw.symm) | (go_at_call 52; refine HR.out.mono ?_; rintro e w' ⟨rfl, hw⟩; obtain rfl := hw.symm))
        have hD : Held w1 (ext F w w1) s (tick st) := ⟨tt, L, bv, hS.out⟩
        refine leaves_cons (f := 43) (args := #[.pointer (some ⟨s, 0, none⟩)]) (by simp) (by simp [go_sem]) ?_
        refine (leave_deferred .returning hD).mono ?_
        rintro e u' w'' ⟨rfl, rfl, rfl⟩
        refine ⟨_, results_tmp2 rfl _ _ _, ?_⟩
        exact PEnds5.of H.out hD hx.out
      · have H := hide (show mWrite st n (a' : Int) t = (setNode (tick st) sp.n (wroteNd x a' t), (t.size : Int), 0) by
          unfold mWrite
          rw [if_pos he, if_neg ha0, if_neg (by omega), hf]
          simp only
          rw [hi]
          simp only
          rw [hno, hxn]
          simp only [Int.toNat_natCast])
        have Hx := hide hxn
        have hS := hide hS
        have HFI := hide FI
        unfold FWrote at HR
        simp only [if_neg hb] at HR
        clear he hf hi hm hne hsp hxn ev em hsrc1 hap1 FI hb
        go_wp2_with (first | (go_at_call 50; refine HO.out.mono ?_; rintro e w' ⟨rfl, hw⟩; obtain rfl := hw.symm) | (go_at_call 52; refine HR.out.mono ?_; rintro e w2 ⟨rfl, v', hf2, hw2⟩; have HF2 := hide hf2; have HW2 := hide hw2; clear hf2 hw2))
        have hS2 := hS.out.rewrite (F' := ext (ext F w w1) w1 w2) Hx.out hxd (wrote_same x a' t) (fun k hk => .inl hk) HF2.out HW2.out
        have hz := HW2.out.size
        have hz1 := hx.out.size
        have hD : Held w2 (ext F w w2) s (setNode (tick st) sp.n (wroteNd x a' t)) := ⟨tt, L, _, hS2.mono (fun k hk => by
          rcases hk with (q | q) | q
          · exact .inl q
          · exact .inr ⟨q.1, by omega⟩
          · exact .inr ⟨by omega, q.2⟩)⟩
        have hx2 : Ext F w w2 := by
          have e2 : Ext (ext F w w1) w1 w2 := HW2.out.ext HFI.out.blk.own HFI.out.data.2.2
          exact ⟨e2.os.trans hx.out.os, e2.tape.trans hx.out.tape, e2.output.trans hx.out.output, by omega, fun k hk hF => (e2.block k (by omega) (fun q => by rcases q with q | q; exact hF q; omega)).trans (hx.out.block k hk hF)⟩
        refine leaves_cons (f := 43) (args := #[.pointer (some ⟨s, 0, none⟩)]) (by simp) (by simp [go_sem]) ?_
        refine (leave_deferred .returning hD).mono ?_
        rintro e u' w'' ⟨rfl, rfl, rfl⟩
        refine ⟨_, results_tmp2 rfl _ _ _, ?_⟩
        exact PEnds5.of H.out hD hx2
  · have H := hide (mWrite_bad (a := a) (t := t) he)
    have q1 : (mFile st (find st n) != 0) = true := by simpa using he
    have q2 : (mFile st (find st n) == 0) = false := by simpa using he
    have hS := hide hS
    clear he em hsrc1 hap1
    go_wp2_with (go_at_call 50; refine HO.out.mono ?_; rintro e w' ⟨rfl, hw⟩; obtain rfl := hw.symm)
    have hD : Held w1 (ext F w w1) s (tick st) := ⟨tt, L, bv, hS.out⟩
    refine leaves_cons (f := 43) (args := #[.pointer (some ⟨s, 0, none⟩)]) (by simp) (by simp [go_sem]) ?_
    refine (leave_deferred .returning hD).mono ?_
    rintro e u' w'' ⟨rfl, rfl, rfl⟩
    refine ⟨_, results_tmp2 rfl _ _ _, ?_⟩
    exact PEnds5.of H.out hD hx.out
end Go.Proofs.YtdmdgnghaceibaaGreat.P
/- The tree with a node gone. -/
namespace Go.Proofs.YtdmdgnghaceibaaGreat.P
open M Go.ChangeShapes Go.WideShapes Go.ChangeAt Go.RowKit
set_option linter.unusedVariables false

/-- The names of a directory's entries differ. -/
def Uniq (st : St) : Prop := UniqL st.nodes

theorem lies_gone {st : St} (hu : Uniq st) {i p : Nat} {x : Nd} (hx : st.nodes[i]? = some x) (hg : x.gone = false) (hp : x.inn = (p : Int)) (d : Nat) (s : ByteArray) :
    lies (setNode st i (goneNd x)) d s = if d = p ∧ s = x.name then none else lies st d s := by
  have hi : i < st.nodes.length := M.lt_of_getElem? hx
  unfold lies setNode
  simp only
  split
  · rename_i h
    obtain ⟨rfl, rfl⟩ := h
    rw [List.findIdx?_eq_none_iff]
    intro y hy
    obtain ⟨j, hj⟩ := List.mem_iff_getElem?.1 hy
    by_cases e : j = i
    · subst e
      rw [List.getElem?_set_self hi] at hj
      cases hj
      simp [liesHere, goneNd]
    · rw [List.getElem?_set_ne (fun q => e q.symm)] at hj
      cases hl : liesHere d x.name y with
      | false => rfl
      | true =>
        exfalso
        unfold liesHere at hl
        simp only [Bool.and_eq_true, beq_iff_eq, decide_eq_true_eq, Bool.not_eq_true'] at hl
        exact e (hu j i y x hj hx hl.2 hg (hl.1.1.trans hp.symm) (bytes_eq (by rw [← toList_data, ← toList_data]; exact hl.1.2)))
  · rename_i h
    rw [findIdx_map, findIdx_map (l := st.nodes), set_map _ _ _ x (goneNd x) hx]
    have h1 : liesHere d s (goneNd x) = false := by simp [liesHere, goneNd]
    rw [h1]
    cases hl : liesHere d s x with
    | false => rfl
    | true =>
      exfalso
      unfold liesHere at hl
      simp only [Bool.and_eq_true, beq_iff_eq, decide_eq_true_eq, Bool.not_eq_true'] at hl
      refine h ⟨by have := hl.1.1; omega, bytes_eq (by rw [← toList_data, ← toList_data]; exact hl.1.2.symm)⟩

theorem live_gone {st : St} {i : Nat} {x : Nd} (hx : st.nodes[i]? = some x) (hg : x.gone = false) : liveNodes (setNode st i (goneNd x)).nodes + 1 = liveNodes st.nodes := by
  unfold setNode
  simp only
  generalize st.nodes = l at hx
  induction l generalizing i with
  | nil => simp at hx
  | cons a l ih =>
    cases i with
    | zero =>
      simp only [List.getElem?_cons_zero, Option.some.injEq] at hx
      subst hx
      simp [liveNodes, goneNd, hg]
    | succ i =>
      simp only [List.getElem?_cons_succ] at hx
      have := ih hx
      unfold liveNodes at this ⊢
      simp only [List.set_cons_succ, List.filter_cons]
      split <;> (first | omega | (simp only [List.length_cons]; omega))

/-- What taking a node away changes: its block, its directory's map, the tree's count. -/
theorem TreeIs.dropNode {w W : World} {F F' : Nat → Prop} {t : Nat} {st : St} {L : Lay} {bv : Nat → Value} (h : TreeIs w F t st L bv) (hu : Uniq st) {i p : Nat} {x : Nd} (hx : st.nodes[i]? = some x) (hg : x.gone = false) (hp : x.inn = (p : Int)) (hpl : p < st.nodes.length) (hpd : M.isDir st p = true)
    (hF : ∀ k, F k → F' k) (kept : ∀ b, F b → b ≠ t → b ≠ L.mb p → b ≠ L.nb i → b < w.heap.size → W.heap[b]? = w.heap[b]?)
    (tT : Ty W t 89) (t0 : W.cell? ⟨t, 0, none⟩ = w.cell? ⟨t, 0, none⟩) (t1 : W.cell? ⟨t, 1, none⟩ = some (.int .i64 ((liveNodes st.nodes : Int) - 1)))
    (iT : ∀ e, Ty w (L.nb i) e → Ty W (L.nb i) e) (ic : ∀ j, j ≠ 2 → W.cell? ⟨L.nb i, j, none⟩ = w.cell? ⟨L.nb i, j, none⟩) (i2 : W.cell? ⟨L.nb i, 2, none⟩ = some (.bool true))
    (hm : MapIs W (L.mb p) st.nodes.length (fun s => if s = x.name then none else (lies st p s).map (nodeV L))) :
    TreeIs W F' t (setNode st i (goneNd x)) L bv := by
  have hi : i < st.nodes.length := M.lt_of_getElem? hx
  obtain ⟨xp, hxp⟩ := getElem?_of_lt hpl
  have hxpd : xp.dir = true := by simpa [M.isDir, hxp] using hpd
  have Dp := h.dir p xp hxp hxpd
  obtain ⟨esp, cp, hmp⟩ := Dp.map.blk
  have hlen : (setNode st i (goneNd x)).nodes.length = st.nodes.length := by simp [setNode]
  have tyN : ∀ j z, st.nodes[j]? = some z → Ty w (L.nb j) (if z.dir then 168 else 162) := fun j z hz => by
    cases hzd : z.dir with
    | true => exact (h.dir j z hz hzd).blk.ty
    | false => exact (h.file j z hz hzd).blk.ty
  have tyI := tyN i x hx
  have nbT : ∀ {b : Nat} {e : TypeId}, Ty w b e → e ≠ 168 → e ≠ 162 → b ≠ L.nb i := fun {b e} hb h1 h2 q => by
    subst q
    cases hxd : x.dir with
    | true => rw [hxd] at tyI; exact Ty.ne_ty hb tyI (fun q => h1 (by simpa using q)) rfl
    | false => rw [hxd] at tyI; exact Ty.ne_ty hb tyI (fun q => h2 (by simpa using q)) rfl
  have keepBlk : ∀ {b : Nat} {e : TypeId}, Blk w F b e → e ≠ 89 → b ≠ L.nb i → W.heap[b]? = w.heap[b]? := fun {b e} hb he hbi =>
    kept b hb.own (Ty.ne_ty hb.ty h.blk.ty he) (Ty.ne_map hb.ty hmp) hbi hb.lt
  have keepOwn : ∀ {e : TypeId} {size : Nat} {v : Value} {rows : List (List Value)}, Own w F e size v rows → e ≠ 89 → e ≠ 168 → e ≠ 162 → Own W F' e size v rows := fun {e size v rows} ho he h1 h2 =>
    (ho.keptBlock (fun k hk => by
      rcases ho.opened with ⟨rfl, _⟩ | ⟨g, cap, rfl, _, _, hg, ⟨cur, hb⟩, _⟩
      · simp [Value.ownBlock] at hk
      · simp [Value.ownBlock] at hk
        subst hk
        exact keepBlk (e := e) ⟨⟨cur, hb⟩, hg⟩ he (nbT ⟨cur, hb⟩ h1 h2))).mono hF
  have back : ∀ j z, (setNode st i (goneNd x)).nodes[j]? = some z → ∃ z', st.nodes[j]? = some z' ∧ z.name = z'.name ∧ z.dir = z'.dir ∧ z.inn = z'.inn ∧ z.data = z'.data ∧ z.version = z'.version ∧ (j ≠ i → z = z') ∧ (j = i → z.gone = true) := fun j z hz => by
    rcases get_setNode hi hz with ⟨rfl, rfl⟩ | ⟨hne, hz⟩
    · exact ⟨x, hx, rfl, rfl, rfl, rfl, rfl, fun q => absurd rfl q, fun _ => rfl⟩
    · exact ⟨z, hz, rfl, rfl, rfl, rfl, rfl, fun _ => rfl, fun q => absurd q hne⟩
  -- a node's own cells
  have cells : ∀ j z z' (e : TypeId), st.nodes[j]? = some z' → (j ≠ i → z = z') → (j = i → z.gone = true) → Blk w F (L.nb j) e → e ≠ 89 →
      w.cell? ⟨L.nb j, 2, none⟩ = some (.bool z'.gone) → Blk W F' (L.nb j) e ∧ (∀ q, q ≠ 2 → W.cell? ⟨L.nb j, q, none⟩ = w.cell? ⟨L.nb j, q, none⟩) ∧ W.cell? ⟨L.nb j, 2, none⟩ = some (.bool z.gone) := fun j z z' e hz' he1 he2 hb het c2 => by
    by_cases q : j = i
    · subst q
      exact ⟨⟨iT e hb.ty, hF _ hb.own⟩, ic, by rw [he2 rfl]; exact i2⟩
    · have hne : L.nb j ≠ L.nb i := fun q' => q (h.nbInj j i (M.lt_of_getElem? hz') hi q')
      have e1 := keepBlk hb het hne
      obtain ⟨⟨cur, hc⟩, hF0⟩ := hb
      exact ⟨⟨⟨cur, e1.trans hc⟩, hF _ hF0⟩, fun r _ => World.cell?_of_block e1, by rw [he1 q]; exact (World.cell?_of_block e1).trans c2⟩
  refine ⟨⟨tT, hF _ h.blk.own⟩, t0.trans h.c0, ?_, fun j z hz => ?_, fun j z hz hzd => ?_, fun j z hz hzd => ?_, fun a b ha hb => ?_, fun a b za zb ha hb hda hdb => ?_, fun a b za zb k ha hb hda hdb => ?_⟩
  · rw [t1]
    have := live_gone hx hg
    congr 2
    omega
  · obtain ⟨z', hz', _, hd, _⟩ := back j z hz
    rw [hd]
    exact h.kind j z' hz'
  · obtain ⟨z', hz', hn, hd, hin, _, _, he1, he2⟩ := back j z hz
    have D := h.dir j z' hz' (hd ▸ hzd)
    obtain ⟨b1, b2, b3⟩ := cells j z z' _ hz' he1 he2 D.blk (by decide) D.c2
    obtain ⟨v, c4, hv⟩ := D.bound
    refine ⟨b1, ?_, ?_, b3, ?_, hF _ D.mapF, ?_, v, ?_, ?_⟩
    · rw [b2 0 (by decide), D.c0, hn]
    · rw [b2 1 (by decide), D.c1, hin]
    · rw [b2 3 (by decide), D.c3]
    · rw [hlen]
      by_cases q : j = p
      · subst q
        refine hm.congr (fun s _ => ?_)
        rw [lies_gone hu hx hg hp]
        by_cases es : s = x.name
        · rw [if_pos ⟨rfl, es⟩, if_pos es]; rfl
        · rw [if_neg (fun q => es q.2), if_neg es]
      · have hmb : L.mb j ≠ L.mb p := fun e => q (h.mbInj j p z' xp hz' hxp (hd ▸ hzd) hxpd e)
        obtain ⟨es, cl, hme⟩ := D.map.blk
        have e1 := kept (L.mb j) D.mapF (fun e => Ty.ne_map h.blk.ty hme e.symm) hmb (fun e => Ty.ne_map tyI hme e.symm) D.map.lt
        refine (D.map.kept e1).congr (fun s _ => ?_)
        rw [lies_gone hu hx hg hp, if_neg (fun e => q e.1)]
    · rw [b2 4 (by decide), c4]
    · have hl : (setNode st i (goneNd x)).laid = st.laid := rfl
      rw [hl]
      cases ho : st.laid.find? (fun l => l.onto == j) with
      | none => rw [ho] at hv; exact hv
      | some l =>
        rw [ho] at hv
        exact ⟨keepOwn hv.1 (by decide) (by decide) (by decide), hv.2⟩
  · obtain ⟨z', hz', hn, hd, hin, hda, hve, he1, he2⟩ := back j z hz
    have Fj := h.file j z' hz' (hd ▸ hzd)
    obtain ⟨b1, b2, b3⟩ := cells j z z' _ hz' he1 he2 Fj.blk (by decide) Fj.c2
    refine ⟨b1, ?_, ?_, b3, ?_, ?_, ?_⟩
    · rw [b2 0 (by decide), Fj.c0, hn]
    · rw [b2 1 (by decide), Fj.c1, hin]
    · rw [b2 3 (by decide), Fj.c3]
    · rw [b2 4 (by decide), Fj.c4, hve]
    · rw [hda]
      exact keepOwn Fj.data (by decide) (by decide) (by decide)
  · rw [hlen] at ha hb
    exact h.nbInj a b ha hb
  · obtain ⟨za', ha', _, da, _⟩ := back a za ha
    obtain ⟨zb', hb', _, db, _⟩ := back b zb hb
    exact h.mbInj a b za' zb' ha' hb' (da ▸ hda) (db ▸ hdb)
  · obtain ⟨za', ha', _, da, _⟩ := back a za ha
    obtain ⟨zb', hb', _, db, _⟩ := back b zb hb
    exact h.bvApart a b za' zb' k ha' hb' (da ▸ hda) (db ▸ hdb)
end Go.Proofs.YtdmdgnghaceibaaGreat.P
