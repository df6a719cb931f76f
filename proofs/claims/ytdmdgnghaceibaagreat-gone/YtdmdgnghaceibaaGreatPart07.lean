/- Both halves: Read. -/
import Derived.Test.YtdmdgnghaceibaaGreatPart06
import Derived.Laws.IdiomStrings
import Derived.Laws.BytesArg
import Derived.Deep.RegionHeld3
import Derived.Laws.Strings
import Derived.Test.YtdmdgnghaceibaaGreatPart02
import Derived.LaidEqlPtr
import Derived.Lib.AppendZerosOnto
import Derived.Test.YtdmdgnghaceibaaGreatPart03
namespace Go.Proofs.YtdmdgnghaceibaaGreat.P
open M Go.ChangeShapes Go.WideShapes Go.ChangeAt Go.RowKit
set_option linter.unusedVariables false

theorem mRead_tick (st : St) (n a c : Int) : (mRead st n a c).1 = tick st := by
  unfold mRead
  split
  · split
    · rfl
    · split
      · rfl
      · split <;> rfl
  · rfl

/-- 'string(l)' of bytes. -/
theorem bytes_string {w : World} {ao : Option Addr} {n c : Nat} {t : ByteArray} (h : BytesAt w (.slice ao n c) t) : (convert 31 9 (.slice ao n c)).run Tryz.prog w = .ok (.string t) w := by
  rcases h.opened with ⟨hv, hrows⟩ | ⟨g, cap, hv, _, _, _, _, hcell, _⟩
  · simp at hv
    obtain ⟨rfl, rfl, rfl⟩ := hv
    have e : t = ByteArray.empty := by
      have h0 : t.data.toList = [] := by
        unfold byteCells at hrows
        exact List.map_eq_nil_iff.1 hrows
      apply ByteArray.ext
      exact Array.toList_inj.1 h0
    rw [run_convert_bytes_nil w 31 5 Tryz.underlying31 Tryz.underlying5 0 0 9 Tryz.underlying9, e]
  · simp at hv
    obtain ⟨rfl, rfl, rfl⟩ := hv
    have hl : (byteCells t).length = t.data.toList.length := by simp [byteCells]
    have hb := run_convert_bytes_back (P := Tryz.prog) w 31 9 5 ⟨g, 0, none⟩ c t.data.toList Tryz.underlying31 Tryz.underlying5 Tryz.underlying9 (fun j hj => by
      have := hcell j [.int .u8 (t.data.toList[j]).toNat] 0 (.int .u8 (t.data.toList[j]).toNat) (by unfold byteCells; rw [List.getElem?_map, List.getElem?_eq_getElem hj]; rfl) rfl
      rw [Addr.add_lit]
      simpa using this)
    rw [hl, hb]

/-- How 'read' of both ends: what came out lies apart. -/
def ReadEnds (w : World) (X : Nat → Prop) (b : Nat) (t : ByteArray) (st' : St) (e : Ending) (w' : World) : Prop :=
  ∃ ao n c, e = .returned (.tuple #[.slice ao n c, .bool true]) ∧ BytesAt w' (.slice ao n c) t ∧ (∀ k, (Value.slice ao n c).ownBlock = some k → w.heap.size ≤ k ∧ k < w'.heap.size) ∧ BothIs w' (fun k => X k ∧ (Value.slice ao n c).ownBlock ≠ some k) b st' ∧ Ext X w w'

theorem BytesAt.drew {w : World} {v : Value} {t : ByteArray} (h : BytesAt w v t) : BytesAt w.drew v t := Own.keptBlock h (fun k _ => rfl)
theorem BytesAt.form {w : World} {v : Value} {t : ByteArray} (h : BytesAt w v t) : ∃ ao n c, v = .slice ao n c := by
  obtain ⟨ao, c, h⟩ := Own.form h
  exact ⟨ao, _, c, h⟩

set_option maxRecDepth 20000 in
set_option maxHeartbeats 4000000 in
theorem bread_any {w : World} {X : Nat → Prop} {b : Nat} {st : St} (k fid a bb : Int) (text : ByteArray) (yes : Bool) (ao : Option Addr) (nl nc : Nat) (h : BothIs w X b st) (ok : POk st) (hsm : ∀ x ∈ st.nodes, x.data.size ≤ 300) :
    Calls Tryz.prog 67 #[.pointer (some ⟨b, 0, none⟩), .agg #[.int .i64 6, .int .i64 k, .int .i64 fid, .int .i64 a, .int .i64 bb, .string text, .bool yes, .slice ao nl nc]] w fun e w' => ReadEnds w X b (mRead st fid a bb).2.1 (mRead st fid a bb).1 e w' := by
  obtain ⟨s, r, F, G, h⟩ := h
  have c0 := h.c0
  have c1 := h.c1
  have H := hide h
  have Hok := hide ok
  have Hsm := hide hsm
  have HbF := hide h.bF
  have HbG := hide h.bG
  have HBoxG := hide (show ¬ G w.heap.size from fun hk => by have := (h.lo _ (.inr hk)).2; omega)
  have HBox := hide (show ¬ F w.heap.size from fun hk => by have := (h.lo _ (.inl hk)).2; omega)
  obtain ⟨t, hR⟩ : ∃ R, (mRead st fid a bb).2.1 = R := ⟨_, rfl⟩
  obtain ⟨er, hE⟩ : ∃ er, (mRead st fid a bb).2.2 = er := ⟨_, rfl⟩
  obtain ⟨st2, hS⟩ : ∃ st2, (mRead st fid a bb).1 = st2 := ⟨_, rfl⟩
  have HM := hide (show mRead st fid a bb = (st2, t, er) by rw [← hR, ← hE, ← hS])
  rw [hS, hR]
  clear h ok hsm hR hE hS
  have u0 := fun o => up c0 o
  have u1 := fun o => up c1 o
  obtain ⟨W0, hW0⟩ : ∃ W0, W0 = (w.alloc (.cells #[.int .i64 6, .int .i64 k, .int .i64 fid, .int .i64 a, .int .i64 bb, .string text, .bool yes, .slice ao nl nc] 57)) := ⟨_, rfl⟩
  have HW0 := hide hW0
  have HB0 := hide (show Below w.heap.size w W0 by rw [hW0]; exact (Below.refl _ w).alloc (Nat.le_refl _) _)
  have HZ0 := hide (show W0.heap.size = w.heap.size + 1 by rw [hW0]; simp)
  go_enter Tryz.func67, Tryz.ntmps67
  go_wp2
  rw [← HW0.out]
  have v0 : W0.cell? ⟨b, 0, none⟩ = some (.pointer (some ⟨s, 0, none⟩)) := by rw [hW0]; exact u0 _
  have v1 : W0.cell? ⟨b, 1, none⟩ = some (.pointer (some ⟨r, 0, none⟩)) := by rw [hW0]; exact u1 _
  have x2 : W0.cell? ⟨w.heap.size, 2, none⟩ = some (.int .i64 fid) := by rw [hW0]; simp
  have x3 : W0.cell? ⟨w.heap.size, 3, none⟩ = some (.int .i64 a) := by rw [hW0]; simp
  have x4 : W0.cell? ⟨w.heap.size, 4, none⟩ = some (.int .i64 bb) := by rw [hW0]; simp
  clear hW0 u0 u1
  go_cut [6, 7] (fun s7 s8 wc => s8 = .int .i64 er ∧ (∃ ao n c, s7 = .slice ao n c) ∧ BytesAt wc s7 t ∧ (∀ k, s7.ownBlock = some k → w.heap.size ≤ k ∧ k < wc.heap.size) ∧ Ext X w wc ∧ (∃ F', (∀ k, s7.ownBlock = some k → ¬ F' k) ∧ TwoIs wc X b s r F' G st2 st) ∧ wc.cell? ⟨w.heap.size, 2, none⟩ = some (.int .i64 fid) ∧ wc.cell? ⟨w.heap.size, 3, none⟩ = some (.int .i64 a) ∧ wc.cell? ⟨w.heap.size, 4, none⟩ = some (.int .i64 bb))
  case first =>
    go_region_held3 (fun ww => ww.cell? ⟨b, 0, none⟩ = some (.pointer (some ⟨s, 0, none⟩)) ∧ ww.cell? ⟨w.heap.size, 2, none⟩ = some (.int .i64 fid) ∧ ww.cell? ⟨w.heap.size, 3, none⟩ = some (.int .i64 a) ∧ ww.cell? ⟨w.heap.size, 4, none⟩ = some (.int .i64 bb)) (go_keep) (first | (go_at_call 17; refine (sread_any (F := F) (st := st) fid a bb ?_ Hok.out ?_ ?_).mono ?_; exact (H.out.below HB0.out.drew).srv; exact (fun k hk => by have := (H.out.lo k (.inl hk)).2; have := HZ0.out; show k < W0.heap.size; omega); exact (fun x hx => Nat.le_trans (Hsm.out x hx) (by decide)); rintro e w2 he2; rw [HM.out] at he2; obtain ⟨v, F2, rfl, hb2, hk2, hs2, hF2, hx2⟩ := he2; have HV2 := hide hb2; have HK2 := hide hk2; have HS2 := hide hs2; have HF2 := hide hF2; have HX := hide hx2; have q0 : w2.cell? ⟨b, 0, none⟩ = some (.pointer (some ⟨s, 0, none⟩)) := ext_cell HX.out HbF.out v0; have q2 : w2.cell? ⟨w.heap.size, 2, none⟩ = some (.int .i64 fid) := ext_cell HX.out HBox.out x2; have q3 : w2.cell? ⟨w.heap.size, 3, none⟩ = some (.int .i64 a) := ext_cell HX.out HBox.out x3; have q4 : w2.cell? ⟨w.heap.size, 4, none⟩ = some (.int .i64 bb) := ext_cell HX.out HBox.out x4; clear hb2 hk2 hs2 hF2 hx2))
    all_goals go_wp2
    all_goals go_meet
    all_goals
      have hT2 := (H.out.below HB0.out.drew).srvStep' HS2.out HF2.out HX.out
      have e1 : Ext X w W0.drew := Ext.below HB0.out.drew
      have e2 := HX.out.weak (fun k hk => (H.out.lo k (.inl hk)).1)
      exact ⟨rfl, HV2.out.form, HV2.out, fun k hk => ⟨by have h1 : W0.heap.size ≤ k := (HK2.out k hk).1; have := HZ0.out; omega, (HK2.out k hk).2.1⟩, e1.trans' e2, ⟨_, fun k hk => (HK2.out k hk).2.2, hT2⟩, q2, q3, q4⟩
  case rest =>
    obtain ⟨rfl, ⟨vo, vn, vc, rfl⟩, hbv, hbk, hbc, ⟨F', hF', hT⟩, q2, q3, q4⟩ := hcut
    have v1 := hT.c1
    have HT := hide hT
    have HBc := hide hbc
    have HBv := hide hbv
    have HBk := hide hbk
    have HF' := hide hF'
    clear hT hbc hbv hbk hF'
    go_wp2
    go_cut [8, 9] (fun s9 s10 wd => s9 = .string t ∧ s10 = .int .i64 er ∧ BytesAt wd (.slice vo vn vc) t ∧ (∀ k, (Value.slice vo vn vc).ownBlock = some k → w.heap.size ≤ k ∧ k < wd.heap.size) ∧ Ext X w wd ∧ ∃ F' G', (∀ k, (Value.slice vo vn vc).ownBlock = some k → ¬ F' k ∧ ¬ G' k) ∧ TwoIs wd X b s r F' G' st2 st2)
    case first =>
      go_region_held3 (fun ww => ww.cell? ⟨b, 1, none⟩ = some (.pointer (some ⟨r, 0, none⟩)) ∧ ww.cell? ⟨w.heap.size, 2, none⟩ = some (.int .i64 fid) ∧ ww.cell? ⟨w.heap.size, 3, none⟩ = some (.int .i64 a) ∧ ww.cell? ⟨w.heap.size, 4, none⟩ = some (.int .i64 bb)) (go_keep) (first | (go_at_call 113; refine (Go.Proofs.YtdmdgnghaceibaaGreat.read_any (F := G) (st := st) fid a bb ?_ Hok.out.stOk Hsm.out).mono ?_; exact HT.out.ref.drew; rintro e w3 he3; rw [HM.out] at he3; obtain ⟨rfl, hr3, hx3⟩ := he3; have HR3 := hide hr3; have HX3 := hide hx3; have p1 : w3.cell? ⟨b, 1, none⟩ = some (.pointer (some ⟨r, 0, none⟩)) := ext_cell hx3 HbG.out v1; have p2 : w3.cell? ⟨w.heap.size, 2, none⟩ = some (.int .i64 fid) := ext_cell hx3 HBoxG.out q2; have p3 : w3.cell? ⟨w.heap.size, 3, none⟩ = some (.int .i64 a) := ext_cell hx3 HBoxG.out q3; have p4 : w3.cell? ⟨w.heap.size, 4, none⟩ = some (.int .i64 bb) := ext_cell hx3 HBoxG.out q4; clear hr3 hx3))
      all_goals go_wp2
      all_goals go_meet
      all_goals
        have hT3 := (HT.out.below ((Below.refl _ wc).drew)).refStep HR3.out HX3.out
        have e3 := HX3.out.weak (fun k hk => (HT.out.lo k (.inr hk)).1)
        have hnG : ∀ k, (Value.slice vo vn vc).ownBlock = some k → ¬ G k := fun k hk hG => by have := (H.out.lo k (.inr hG)).2; have := (HBk.out k hk).1; omega
        refine ⟨rfl, rfl, Own.keptBlock HBv.out.drew (fun k hk => HX3.out.block k (HBk.out k hk).2 (hnG k hk)), fun k hk => ⟨(HBk.out k hk).1, Nat.lt_of_lt_of_le (HBk.out k hk).2 HX3.out.size⟩, HBc.out.trans' (((Ext.refl X wc).drew).trans' e3), _, _, fun k hk => ⟨HF'.out k hk, fun q => ?_⟩, hT3⟩
        rcases q with q | q
        · exact hnG k hk q
        · have := (HBk.out k hk).2
          have : wc.heap.size ≤ k := q.1
          omega
    case rest =>
      obtain ⟨rfl, rfl, hbv, hbk, hbd, F2, G2, hFG, hT⟩ := hcut
      have HT2 := hide hT
      have HBd := hide hbd
      have HBv2 := hide hbv
      have HBk2 := hide hbk
      have HFG := hide hFG
      have q0 : (t.toList == t.toList) = true := by simp
      have q5 : (er == er) = true := by simp
      have hcv := bytes_string hbv
      clear hT hbd hbv hbk hFG
      go_wp2_with (go_at_call 27; refine (num_any _ _).mono ?_; rintro e w' ⟨rfl, hw⟩; obtain rfl := hw.symm)
      go_ret2
      exact ⟨vo, vn, vc, by simp, HBv2.out, HBk2.out, ⟨s, r, F2, G2, HT2.out.less (fun k hk => ⟨(HT2.out.lo k hk).1, fun q => by rcases hk with hk | hk; exact (HFG.out k q).1 hk; exact (HFG.out k q).2 hk⟩) (fun k hk => ⟨HT2.out.up k hk, fun q => absurd hk (Nat.not_le.2 (HBk2.out k q).2)⟩)⟩, HBd.out⟩
end Go.Proofs.YtdmdgnghaceibaaGreat.P
/- The document's own answer, more: the names in a directory, List. -/
namespace Go.Proofs.YtdmdgnghaceibaaGreat.M

def ltB (a b : ByteArray) : Prop := a.data.toList < b.data.toList
instance (a b : ByteArray) : Decidable (ltB a b) := by unfold ltB; infer_instance

theorem ltB_irrefl (a : ByteArray) : ¬ ltB a a := List.lt_irrefl _
theorem ltB_trans {a b c : ByteArray} (h : ltB a b) (k : ltB b c) : ltB a c := List.lt_trans h k
theorem ltB_or {a b : ByteArray} (h : ¬ ltB a b) (hne : a ≠ b) : ltB b a := by
  unfold ltB at *
  by_cases k : b.data.toList < a.data.toList
  · exact k
  · refine absurd ?_ hne
    have e := List.le_antisymm (List.not_lt.1 h) (List.not_lt.1 k)
    cases a; cases b
    simp only [ByteArray.mk.injEq]
    exact Array.toList_inj.1 e.symm

/-- A name more, in its place. -/
def insName : List ByteArray → ByteArray → List ByteArray
  | [], s => [s]
  | x :: l, s => if ltB x s then x :: insName l s else if x = s then x :: l else s :: x :: l

theorem mem_insName {a s : ByteArray} : ∀ {l : List ByteArray}, a ∈ insName l s ↔ a = s ∨ a ∈ l
  | [] => by simp [insName]
  | x :: l => by
    unfold insName
    split
    · rw [List.mem_cons, mem_insName, List.mem_cons]
      constructor
      · rintro (h | h | h)
        · exact .inr (.inl h)
        · exact .inl h
        · exact .inr (.inr h)
      · rintro (h | h | h)
        · exact .inr (.inl h)
        · exact .inl h
        · exact .inr (.inr h)
    · split
      · rename_i e
        subst e
        simp
      · simp

theorem sorted_insName {s : ByteArray} : ∀ {l : List ByteArray}, l.Pairwise ltB → (insName l s).Pairwise ltB
  | [], _ => by simp [insName]
  | x :: l, h => by
    obtain ⟨h1, h2⟩ := List.pairwise_cons.1 h
    unfold insName
    split
    · rename_i hx
      refine List.pairwise_cons.2 ⟨fun a ha => ?_, sorted_insName h2⟩
      rcases mem_insName.1 ha with rfl | ha
      · exact hx
      · exact h1 a ha
    · rename_i hx
      split
      · exact h
      · rename_i hne
        refine List.pairwise_cons.2 ⟨fun a ha => ?_, h⟩
        have hs := ltB_or hx hne
        rcases List.mem_cons.1 ha with rfl | ha
        · exact hs
        · exact ltB_trans hs (h1 a ha)

def addName (d : Nat) (l : List ByteArray) (x : Nd) : List ByteArray := if x.inn = (d : Int) ∧ x.gone = false then insName l x.name else l
def namesIn (d : Nat) (nodes : List Nd) : List ByteArray := nodes.foldl (addName d) []
/-- The names of a directory's entries, in order. -/
def namesOf (st : St) (d : Nat) : List ByteArray := namesIn d st.nodes

theorem fold_names (d : Nat) : ∀ (nodes : List Nd) (l : List ByteArray), l.Pairwise ltB → (nodes.foldl (addName d) l).Pairwise ltB ∧ ∀ a, a ∈ nodes.foldl (addName d) l ↔ a ∈ l ∨ ∃ x ∈ nodes, x.inn = (d : Int) ∧ x.gone = false ∧ x.name = a
  | [], l, h => ⟨h, fun a => by simp⟩
  | x :: nodes, l, h => by
    rw [List.foldl_cons]
    unfold addName
    by_cases hc : x.inn = (d : Int) ∧ x.gone = false
    · obtain ⟨h1, h2⟩ := fold_names d nodes (insName l x.name) (sorted_insName h)
      simp only [if_pos hc]
      refine ⟨h1, fun a => (h2 a).trans ?_⟩
      rw [mem_insName]
      constructor
      · rintro ((rfl | h) | ⟨y, hy, r⟩)
        · exact .inr ⟨x, by simp, hc.1, hc.2, rfl⟩
        · exact .inl h
        · exact .inr ⟨y, by simp [hy], r⟩
      · rintro (h | ⟨y, hy, r1, r2, r3⟩)
        · exact .inl (.inr h)
        · rcases List.mem_cons.1 hy with rfl | hy
          · exact .inl (.inl r3.symm)
          · exact .inr ⟨y, hy, r1, r2, r3⟩
    · obtain ⟨h1, h2⟩ := fold_names d nodes l h
      simp only [if_neg hc]
      refine ⟨h1, fun a => (h2 a).trans ?_⟩
      constructor
      · rintro (h | ⟨y, hy, r⟩)
        · exact .inl h
        · exact .inr ⟨y, by simp [hy], r⟩
      · rintro (h | ⟨y, hy, r1, r2, r3⟩)
        · exact .inl h
        · rcases List.mem_cons.1 hy with rfl | hy
          · exact absurd ⟨r1, r2⟩ hc
          · exact .inr ⟨y, hy, r1, r2, r3⟩

theorem names_sorted (st : St) (d : Nat) : (namesOf st d).Pairwise ltB := (fold_names d st.nodes [] List.Pairwise.nil).1

theorem sorted_unique {l k : List ByteArray} (hl : l.Pairwise ltB) (hk : k.Pairwise ltB) (h : ∀ a, a ∈ l ↔ a ∈ k) : l = k := by
  have nd : ∀ {m : List ByteArray}, m.Pairwise ltB → m.Nodup := fun {m} hm => List.Pairwise.imp (fun {a b} (hab : ltB a b) (e : a = b) => by subst e; exact ltB_irrefl a hab) hm
  exact List.Perm.eq_of_pairwise (le := ltB) (fun a b _ _ h1 h2 => absurd (ltB_trans h1 h2) (ltB_irrefl a)) hl hk ((List.perm_ext_iff_of_nodup (nd hl) (nd hk)).2 h)

/-- What List tells of the first k members of a row. -/
def listUpto (st : St) (row : List Member) : Nat → List ByteArray
  | 0 => []
  | k + 1 => match row[k]? with
    | none => listUpto st row k
    | some m => if isGone st m.d then listUpto st row k else listUpto st row k ++ (namesOf st m.d).filter (fun s => (seenIn st s (row.take k)).isNone)

def mDirE (st : St) (o : Option Nat) : Int :=
  match o with
  | none => 2
  | some i => match st.fids[i]? with
    | none => 2
    | some f => if f.op then (if isGone st (nodeOf f) then 4 else if isDir st (nodeOf f) then 0 else 5) else 3

def fidRow (f : Fid) : List Member := match f.way.getLast? with | some s => s.row | none => []

def mList (st : St) (n : Int) : St × List ByteArray × Int :=
  if mDirE st (find st n) = 0 then match find st n with
    | none => (tick st, [], 2)
    | some i => match st.fids[i]? with
      | none => (tick st, [], 2)
      | some f => (tick st, listUpto st (fidRow f) (fidRow f).length, 0)
  else (tick st, [], mDirE st (find st n))
end Go.Proofs.YtdmdgnghaceibaaGreat.M
/- The document's own answer, more: List as the reference goes about it. -/
namespace Go.Proofs.YtdmdgnghaceibaaGreat.M

/-- A name more, ahead of the first that is not less. -/
def refIns (l : List ByteArray) (s : ByteArray) : List ByteArray := l.takeWhile (fun x => decide (ltB x s)) ++ s :: l.dropWhile (fun x => decide (ltB x s))

theorem refIns_eq {s : ByteArray} : ∀ {l : List ByteArray}, s ∉ l → refIns l s = insName l s
  | [], _ => rfl
  | x :: l, h => by
    have hx : x ≠ s := fun e => h (by simp [e])
    have hl : s ∉ l := fun e => h (by simp [e])
    have ih := refIns_eq hl
    unfold refIns at ih ⊢
    unfold insName
    by_cases hlt : ltB x s
    · rw [if_pos hlt, List.takeWhile_cons_of_pos (by simpa using hlt), List.dropWhile_cons_of_pos (by simpa using hlt), List.cons_append, ih]
    · rw [if_neg hlt, if_neg hx, List.takeWhile_cons_of_neg (by simpa using hlt), List.dropWhile_cons_of_neg (by simpa using hlt), List.nil_append]

def refAdd (d : Nat) (l : List ByteArray) (x : Nd) : List ByteArray := if x.inn = (d : Int) ∧ x.gone = false then refIns l x.name else l
def refNames (d : Nat) (nodes : List Nd) : List ByteArray := nodes.foldl (refAdd d) []

/-- The names of a directory's entries differ. -/
def UniqL (nodes : List Nd) : Prop := ∀ (i j : Nat) (x y : Nd), nodes[i]? = some x → nodes[j]? = some y → x.gone = false → y.gone = false → x.inn = y.inn → x.name = y.name → i = j

theorem refNames_take {nodes : List Nd} (hu : UniqL nodes) (d : Nat) : ∀ k, k ≤ nodes.length → refNames d (nodes.take k) = namesIn d (nodes.take k)
  | 0, _ => by simp [refNames, namesIn]
  | k + 1, hk => by
    have hlt : k < nodes.length := by omega
    have ih := refNames_take hu d k (by omega)
    obtain ⟨x, hx⟩ := getElem?_of_lt hlt
    have e : nodes[k] = x := by rw [List.getElem?_eq_getElem hlt] at hx; exact Option.some.inj hx
    rw [List.take_succ_eq_append_getElem hlt, e]
    unfold refNames namesIn at ih ⊢
    rw [List.foldl_append, List.foldl_append, ih]
    simp only [List.foldl_cons, List.foldl_nil]
    unfold refAdd addName
    by_cases hc : x.inn = (d : Int) ∧ x.gone = false
    · rw [if_pos hc, if_pos hc]
      refine refIns_eq (fun hm => ?_)
      rcases ((fold_names d (nodes.take k) [] List.Pairwise.nil).2 x.name).1 hm with h | ⟨y, hy, r1, r2, r3⟩
      · simp at h
      · obtain ⟨j, hj⟩ := List.mem_iff_getElem?.1 hy
        have hjk : j < k := by
          have := lt_of_getElem? hj
          rw [List.length_take] at this
          omega
        rw [List.getElem?_take, if_pos hjk] at hj
        have := hu j k y x hj hx r2 hc.2 (r1.trans hc.1.symm) r3
        omega
    · rw [if_neg hc, if_neg hc]

theorem refNames_eq {st : St} (hu : UniqL st.nodes) (d : Nat) : refNames d st.nodes = namesOf st d := by
  have := refNames_take hu d st.nodes.length (Nat.le_refl _)
  rwa [List.take_length] at this

theorem upto_gone {st : St} {row : List Member} {k : Nat} {m : Member} (hm : row[k]? = some m) (hg : isGone st m.d = true) : listUpto st row (k + 1) = listUpto st row k := by
  show (match row[k]? with | none => _ | some m => _) = _
  rw [hm]
  simp [hg]
theorem upto_live {st : St} {row : List Member} {k : Nat} {m : Member} (hm : row[k]? = some m) (hg : isGone st m.d = false) : listUpto st row (k + 1) = listUpto st row k ++ (namesOf st m.d).filter (fun s => (seenIn st s (row.take k)).isNone) := by
  show (match row[k]? with | none => _ | some m => _) = _
  rw [hm]
  simp [hg]
theorem bytes_same {a b : ByteArray} (h : a.toList = b.toList) : a = b := by
  rw [ByteArray.toList_eq, ByteArray.toList_eq] at h
  cases a; cases b
  simp only [ByteArray.mk.injEq]
  exact Array.toList_inj.1 h

/-- One more name, where it wasn't told yet. -/
def tell (out : List ByteArray) (s : ByteArray) : List ByteArray := if hasText out s then out else out ++ [s]

theorem hasText_iff {l : List ByteArray} {s : ByteArray} : hasText l s = true ↔ s ∈ l := by
  unfold hasText
  rw [List.any_eq_true]
  constructor
  · rintro ⟨x, hx, h⟩
    have e : x.toList = s.toList := by simpa using h
    exact bytes_same e ▸ hx
  · intro h
    exact ⟨s, h, by simp⟩

theorem seenIn_snoc (st : St) (s : ByteArray) (m : Member) : ∀ row : List Member, (seenIn st s (row ++ [m])).isSome = true ↔ (seenIn st s row).isSome = true ∨ (isGone st m.d = false ∧ (lies st m.d s).isSome = true)
  | [] => by
    simp only [List.nil_append, seenIn]
    cases hg : isGone st m.d with
    | true => simp
    | false => cases lies st m.d s <;> simp
  | a :: row => by
    rw [List.cons_append]
    unfold seenIn
    cases hg : isGone st a.d with
    | true => simpa using seenIn_snoc st s m row
    | false =>
      cases hl : lies st a.d s with
      | some n => simp
      | none => simpa using seenIn_snoc st s m row

theorem mem_names {st : St} {d : Nat} {s : ByteArray} : s ∈ namesOf st d ↔ (lies st d s).isSome = true := by
  have h9 : s ∈ namesOf st d ↔ _ := (fold_names d st.nodes [] List.Pairwise.nil).2 s
  rw [h9]
  unfold lies
  rw [List.findIdx?_isSome, List.any_eq_true]
  constructor
  · rintro (h | ⟨x, hx, h1, h2, rfl⟩)
    · simp at h
    · exact ⟨x, hx, by unfold liesHere; simp [h1, h2]⟩
  · rintro ⟨x, hx, h⟩
    unfold liesHere at h
    simp only [Bool.and_eq_true, beq_iff_eq, decide_eq_true_eq, Bool.not_eq_true'] at h
    exact .inr ⟨x, hx, h.1.1, h.2, bytes_same h.1.2⟩

theorem mem_listUpto (st : St) (row : List Member) (s : ByteArray) : ∀ k, k ≤ row.length → (s ∈ listUpto st row k ↔ (seenIn st s (row.take k)).isSome = true)
  | 0, _ => by simp [listUpto, seenIn]
  | k + 1, hk => by
    have hlt : k < row.length := by omega
    have ih := mem_listUpto st row s k (by omega)
    obtain ⟨m, hm⟩ := getElem?_of_lt hlt
    have e : row[k] = m := by rw [List.getElem?_eq_getElem hlt] at hm; exact Option.some.inj hm
    rw [List.take_succ_eq_append_getElem hlt, e, seenIn_snoc, ← ih]
    cases hg : isGone st m.d with
    | true => rw [upto_gone hm hg]; simp
    | false =>
      rw [upto_live hm hg]
      simp only [List.mem_append, List.mem_filter, mem_names, true_and]
      rw [Option.isNone_iff_eq_none]
      constructor
      · rintro (h | ⟨h, _⟩)
        · exact .inl h
        · exact .inr h
      · rintro (h | h)
        · exact .inl h
        · by_cases hin : s ∈ listUpto st row k
          · exact .inl hin
          · refine .inr ⟨h, ?_⟩
            cases hs : seenIn st s (row.take k) with
            | none => rfl
            | some n => exact absurd (ih.2 (by rw [hs]; rfl)) hin

theorem tell_fold {p : ByteArray → Bool} (base : List ByteArray) : ∀ (l : List ByteArray) (done : List ByteArray), (done ++ l).Nodup → (∀ s, s ∈ done ++ l → (p s = true ↔ s ∉ base)) → l.foldl tell (base ++ done.filter p) = base ++ (done ++ l).filter p
  | [], done, _, _ => by simp
  | s :: l, done, hn, hp => by
    rw [List.foldl_cons]
    have hsd : s ∉ done := fun h => by
      have := (List.nodup_append.1 hn).2.2 s h s (by simp)
      exact this rfl
    have e : tell (base ++ done.filter p) s = base ++ (done ++ [s]).filter p := by
      unfold tell
      have hps := hp s (by simp)
      by_cases hb : s ∈ base
      · have hf : p s = false := by
          cases h : p s with
          | false => rfl
          | true => exact absurd hb (hps.1 h)
        rw [if_pos (hasText_iff.2 (by simp [hb])), List.filter_append]
        simp [hf]
      · have ht : p s = true := hps.2 hb
        rw [if_neg (fun h => by
          have := hasText_iff.1 h
          rcases List.mem_append.1 this with h | h
          · exact hb h
          · exact hsd (List.mem_filter.1 h).1), List.filter_append]
        simp [ht]
    rw [e, tell_fold base l (done ++ [s]) (by simpa using hn) (fun t ht => hp t (by simpa using ht))]
    simp

/-- The reference's way through a row is the same list. -/
theorem list_told (st : St) (row : List Member) (k : Nat) (hk : k < row.length) (m : Member) (hm : row[k]? = some m) (hg : isGone st m.d = false) : (namesOf st m.d).foldl tell (listUpto st row k) = listUpto st row (k + 1) := by
  have hnd : (namesOf st m.d).Nodup := List.Pairwise.imp (fun {a b} (hab : ltB a b) (e : a = b) => by subst e; exact ltB_irrefl a hab) (names_sorted st m.d)
  have h := tell_fold (p := fun s => (seenIn st s (row.take k)).isNone) (listUpto st row k) (namesOf st m.d) [] (by simpa using hnd) (fun s _ => by
    rw [mem_listUpto st row s k (by omega)]
    cases seenIn st s (row.take k) <;> simp)
  simp only [List.filter_nil, List.append_nil, List.nil_append] at h
  rw [h, upto_live hm hg]
end Go.Proofs.YtdmdgnghaceibaaGreat.M
/- The document's own answer, more: Remove; what of a tree is always so. -/
namespace Go.Proofs.YtdmdgnghaceibaaGreat.M

def goneNd (x : Nd) : Nd := { x with gone := true }

def rowHas (row : List Member) (d : Nat) : Bool := row.any fun m => m.d == d
/-- Is a directory laid onto some directory? -/
def carried (st : St) (d : Nat) : Bool := st.laid.any fun l => rowHas l.row d
def isEntry (d : Nat) (x : Nd) : Bool := x.inn == (d : Int) && !x.gone
def hasEntry (st : St) (d : Nat) : Bool := st.nodes.any (isEntry d)
def mBusy (st : St) (d : Nat) : Bool := hasEntry st d || st.laid.any fun l => l.onto == d || rowHas l.row d

def mRemove (st : St) (n : Int) : St × Int :=
  match find st n with
  | none => (tick st, 2)
  | some i => match st.fids[i]? with
    | none => (tick st, 2)
    | some f => match st.nodes[nodeOf f]? with
      | none => (tick st, 2)
      | some x => if x.gone then (mDrop (tick st) i, 4) else if nodeOf f = 0 then (mDrop (tick st) i, 9) else if x.dir && mBusy st (nodeOf f) then (mDrop (tick st) i, 10) else (setNode (mDrop (tick st) i) (nodeOf f) (goneNd x), 0)

/-- What of a tree is always so. -/
structure Treed (st : St) : Prop where
  root : ∃ x, st.nodes[0]? = some x ∧ x.dir = true ∧ x.gone = false ∧ x.inn = -1
  inn : ∀ (i : Nat) x, st.nodes[i]? = some x → 0 < i → ∃ p : Nat, x.inn = (p : Int) ∧ p < i ∧ isDir st p = true ∧ (x.gone = false → isGone st p = false)
  uniq : UniqL st.nodes
  laid : ∀ l ∈ st.laid, l.onto < st.nodes.length ∧ isGone st l.onto = false ∧ isDir st l.onto = true ∧ l.row ≠ []
  one : st.laid.Pairwise (fun a b => a.onto ≠ b.onto)

/-- A directory that lies in another one, however deep, or is it. -/
inductive Under (st : St) : Nat → Nat → Prop
  | here (i : Nat) : Under st i i
  | down {i j c : Nat} {x : Nd} (hx : st.nodes[c]? = some x) (hi : x.inn = (i : Int)) (hg : x.gone = false) (hd : x.dir = true) (h : Under st c j) : Under st i j

theorem Under.snoc {st : St} {i j c : Nat} {x : Nd} (h : Under st i j) (hx : st.nodes[c]? = some x) (hi : x.inn = (j : Int)) (hg : x.gone = false) (hd : x.dir = true) : Under st i c := by
  induction h with
  | here i => exact .down hx hi hg hd (.here c)
  | down hy hj hgy hdy _ ih => exact .down hy hj hgy hdy (ih hi)

theorem Treed.under {st : St} (T : Treed st) : ∀ (k i : Nat) x, i ≤ k → st.nodes[i]? = some x → x.dir = true → x.gone = false → Under st 0 i
  | 0, i, x, hk, _, _, _ => by
    obtain rfl : i = 0 := by omega
    exact .here 0
  | k + 1, i, x, hk, hx, hd, hg => by
    rcases Nat.eq_zero_or_pos i with rfl | h0
    · exact .here 0
    · obtain ⟨p, hp, hpi, hpd, hpg⟩ := T.inn i x hx h0
      obtain ⟨y, hy⟩ := getElem?_of_lt (show p < st.nodes.length by have := lt_of_getElem? hx; omega)
      have hyd : y.dir = true := by simpa [isDir, hy] using hpd
      have hyg : y.gone = false := by have := hpg hg; simpa [isGone, hy] using this
      exact (Treed.under T k p y (by omega) hy hyd hyg).snoc hx hp hg hd

theorem find_one {laid : List Laid} (h : laid.Pairwise (fun a b => a.onto ≠ b.onto)) {l : Laid} (hl : l ∈ laid) : laid.find? (fun z => z.onto == l.onto) = some l := by
  induction laid with
  | nil => simp at hl
  | cons a r ih =>
    obtain ⟨h1, h2⟩ := List.pairwise_cons.1 h
    rcases List.mem_cons.1 hl with rfl | hl
    · simp [List.find?]
    · have hne : (a.onto == l.onto) = false := by simpa using h1 l hl
      simp only [List.find?, hne]
      exact ih h2 hl

/-- A directory is carried where something of the tree carries it. -/
theorem Treed.carries {st : St} (T : Treed st) (d : Nat) : carried st d = true ↔ ∃ j l, Under st 0 j ∧ st.laid.find? (fun z => z.onto == j) = some l ∧ rowHas l.row d = true := by
  unfold carried
  rw [List.any_eq_true]
  constructor
  · rintro ⟨l, hl, hr⟩
    obtain ⟨h1, h2, h3, _⟩ := T.laid l hl
    obtain ⟨x, hx⟩ := getElem?_of_lt h1
    exact ⟨l.onto, l, T.under _ _ x (Nat.le_refl _) hx (by simpa [isDir, hx] using h3) (by simpa [isGone, hx] using h2), find_one T.one hl, hr⟩
  · rintro ⟨j, l, _, hf, hr⟩
    exact ⟨l, List.mem_of_find?_eq_some hf, hr⟩

theorem busy_split (st : St) (d : Nat) : mBusy st d = (hasEntry st d || ((st.laid.find? (fun l => l.onto == d)).isSome || carried st d)) := by
  unfold mBusy carried
  congr 1
  generalize st.laid = l
  rw [Bool.eq_iff_iff]
  simp only [List.any_eq_true, Bool.or_eq_true, List.find?_isSome]
  constructor
  · rintro ⟨x, hx, h | h⟩
    · exact .inl ⟨x, hx, h⟩
    · exact .inr ⟨x, hx, h⟩
  · rintro (⟨x, hx, h⟩ | ⟨x, hx, h⟩)
    · exact ⟨x, hx, .inl h⟩
    · exact ⟨x, hx, .inr h⟩

theorem hasEntry_iff {st : St} {d : Nat} : hasEntry st d = true ↔ ∃ s, (lies st d s).isSome = true := by
  unfold hasEntry
  rw [List.any_eq_true]
  constructor
  · rintro ⟨x, hx, h⟩
    unfold isEntry at h
    simp only [Bool.and_eq_true, beq_iff_eq, Bool.not_eq_true'] at h
    refine ⟨x.name, ?_⟩
    rw [← mem_names]
    exact ((fold_names d st.nodes [] List.Pairwise.nil).2 x.name).2 (.inr ⟨x, hx, h.1, h.2, rfl⟩)
  · rintro ⟨s, hs⟩
    rw [← mem_names] at hs
    rcases ((fold_names d st.nodes [] List.Pairwise.nil).2 s).1 hs with h | ⟨x, hx, h1, h2, _⟩
    · simp at h
    · exact ⟨x, hx, by simp [isEntry, h1, h2]⟩
theorem names_ne_nil {st : St} {d : Nat} : hasEntry st d = true ↔ 0 < (namesOf st d).length := by
  rw [hasEntry_iff]
  constructor
  · rintro ⟨s, hs⟩
    rw [← mem_names] at hs
    exact List.length_pos_of_mem hs
  · intro h
    obtain ⟨s, hs⟩ := List.exists_mem_of_length_pos h
    exact ⟨s, mem_names.1 hs⟩
end Go.Proofs.YtdmdgnghaceibaaGreat.M
/- The program's row.has. -/
namespace Go.Proofs.YtdmdgnghaceibaaGreat.P
open M Go.ChangeShapes Go.WideShapes Go.ChangeAt Go.RowKit
set_option linter.unusedVariables false

theorem infoDir : ∃ j, Tryz.prog.info? 168 = some j ∧ j.size ≠ 0 := by
  have h : ((Tryz.prog.info? 168).map fun j => j.size != 0) = some true := by kernel_rfl
  cases hj : Tryz.prog.info? 168 with
  | none => rw [hj] at h; cases h
  | some j => rw [hj] at h; exact ⟨j, rfl, by simpa using h⟩

theorem eq_dir (x : Nat) (W : World) : (binOp .eql 87 (.pointer (some ⟨x, 0, none⟩)) (.pointer (some ⟨x, 0, none⟩))).run Tryz.prog W = .ok (.bool true) W := by
  obtain ⟨j, hj, _⟩ := infoDir
  exact run_eql_ptr_same W _ Tryz.underlying87 hj
theorem ne_dir {x y : Nat} {W : World} {e1 e2 : TypeId} (h : x ≠ y) (hx : Ty W x e1) (hy : Ty W y e2) : (binOp .eql 87 (.pointer (some ⟨x, 0, none⟩)) (.pointer (some ⟨y, 0, none⟩))).run Tryz.prog W = .ok (.bool false) W := by
  obtain ⟨j, hj, hz⟩ := infoDir
  obtain ⟨cx, hx⟩ := hx
  obtain ⟨cy, hy⟩ := hy
  exact run_eql_ptr_other W Tryz.underlying87 hj hz (fun e => h (congrArg Addr.block e)) hx hy

set_option maxRecDepth 20000 in
/-- The closure: is a member that directory? -/
theorem has1_any (x y b : Nat) (l : Bool) (w : World) {e1 e2 : TypeId} (hx : Ty w x e1) (hy : Ty w y e2) (hb : w.cell? ⟨b, 0, none⟩ = some (.pointer (some ⟨y, 0, none⟩))) :
    Calls Tryz.prog 196 #[.agg #[.pointer (some ⟨x, 0, none⟩), .bool l], .pointer (some ⟨b, 0, none⟩)] w fun e w' => e = .returned (.bool (decide (x = y))) ∧ w' = w.alloc (.cells #[.pointer (some ⟨x, 0, none⟩), .bool l] 165) := by
  have u := up hb (.cells #[.pointer (some ⟨x, 0, none⟩), .bool l] 165)
  by_cases e : x = y
  · subst e
    have q := eq_dir x
    clear hx hy
    go_enter Tryz.func196, Tryz.ntmps196
    go_wp2
    go_ret
    exact ⟨by simp, rfl⟩
  · have hbel : Below w.heap.size w (w.alloc (.cells #[.pointer (some ⟨x, 0, none⟩), .bool l] 165)) := (Below.refl _ w).alloc (Nat.le_refl _) _
    have q := ne_dir e (hx.below hbel hx.lt) (hy.below hbel hy.lt)
    clear hx hy hbel
    go_enter Tryz.func196, Tryz.ntmps196
    go_wp2
    go_ret
    exact ⟨by simp [e], rfl⟩

/-- The first place at which a row has a directory. -/
def hasAt (row : List Member) (d : Nat) : Option Nat := row.findIdx? (fun m => m.d == d)

set_option maxRecDepth 20000 in
set_option maxHeartbeats 1000000 in
theorem index_any {w : World} {F : Nat → Prop} {t : Nat} {st : St} {L : Lay} {bv : Nat → Value} (row : List Member) (v : Value) (d b : Nat) (h : TreeIs w F t st L bv) (hv : PRow w F L v row) (hok : RowDirs st row) (hd : d < st.nodes.length) (hdd : M.isDir st d = true) (hb0 : w.cell? ⟨b, 0, none⟩ = some (dirPtr L d)) :
    Calls Tryz.prog 216 #[v, .func (.func 196) #[] #[.pointer (some ⟨b, 0, none⟩)]] w fun e w' => e = .returned (.int .i64 (idxV (hasAt row d))) ∧ Below w.heap.size w w' := by
  rcases hv.opened with ⟨rfl, hn⟩ | ⟨g, cap, rfl, hcap, hmax, hF, hb, hcell, hfz⟩
  · have h0 : row = [] := List.map_eq_nil_iff.1 hn
    subst h0
    clear hv hn h hok
    go_enter Tryz.func216, Tryz.ntmps216
    go_wp2
    go_loop [8] (fun i => i = .int .i64 0) (fun _ => 0)
    case atStart => rfl
    case round =>
      subst hrel
      go_wp2
      go_ret
      exact ⟨rfl, Below.refl _ _⟩
  · have hlen : (row.map (mCells L)).length = row.length := by simp
    rw [hlen] at hcap hv
    rw [hlen]
    unfold maxLen at hmax
    have HT := hide h
    have Hc := hide hcell
    have hglt : g < w.heap.size := by obtain ⟨cur, hb⟩ := hb; exact (Array.getElem?_eq_some_iff.1 hb).1
    have hblt : b < w.heap.size := World.block_lt_of_cell? w _ hb0
    have Hok := hide hok
    obtain ⟨xd, hxd, Dd, _, _⟩ := h.member hd hdd
    have Hty := hide Dd.blk.ty
    unfold dirPtr at hb0
    clear h hb hcell hfz hv hok hF hlen Dd hxd hdd
    go_enter Tryz.func216, Tryz.ntmps216
    go_wp2
    go_loopw [8] (fun i wr => ∃ k : Nat, k ≤ row.length ∧ i = .int .i64 k ∧ Below w.heap.size w wr ∧ ∀ j m, j < k → row[j]? = some m → (m.d == d) = false) (fun i _ => row.length - (intOf i).toNat)
    case atStart => exact ⟨0, Nat.zero_le _, rfl, Below.refl _ _, fun j m hj => by omega⟩
    case round =>
      obtain ⟨k, hk, rfl, hbel, hsee⟩ := hrel
      have Hbel := hide hbel
      have Hsee := hide hsee
      by_cases hlt : k < row.length
      · obtain ⟨m, hm⟩ := M.getElem?_of_lt hlt
        have hmm := List.mem_of_getElem? hm
        have hmd := (Hok.out m hmm).1
        obtain ⟨xm, hxm, Dm, _, _⟩ := HT.out.member hmd (Hok.out m hmm).2
        have tx := Dm.blk.ty.below (hbel.mono (Nat.le_refl _)) Dm.blk.ty.lt
        have ty := Hty.out.below hbel Hty.out.lt
        have hrow : (row.map (mCells L))[k]? = some (mCells L m) := by rw [List.getElem?_map, hm]; rfl
        have r0 : wr.cell? ⟨g, k * 2, none⟩ = some (dirPtr L m.d) := (hbel.cell (p := ⟨g, k * 2, none⟩) hglt).trans (Hc.out k _ 0 _ hrow rfl)
        have r1 : wr.cell? ⟨g, k * 2 + 1, none⟩ = some (.bool m.leave) := (hbel.cell (p := ⟨g, k * 2 + 1, none⟩) hglt).trans (Hc.out k _ 1 _ hrow rfl)
        have q0 : wr.cell? ⟨b, 0, none⟩ = some (.pointer (some ⟨L.nb d, 0, none⟩)) := (hbel.cell (p := ⟨b, 0, none⟩) hblt).trans hb0
        have Hm := hide hm
        unfold dirPtr at r0
        have k0 : (0 : Int) ≤ (k : Int) := by omega
        have k1 : (k : Int) < (row.length : Int) := by omega
        have Hinj := hide (fun e => HT.out.nbInj m.d d hmd hd e)
        have HC := hide (has1_any (L.nb m.d) (L.nb d) b m.leave wr tx ty q0)
        clear hm hrow hbel hsee hmm hmd Dm hxm tx ty
        by_cases hmd2 : m.d = d
        · rw [hmd2, show decide (L.nb d = L.nb d) = true by simp] at HC
          go_wp2_with (go_at_call 196; refine HC.out.mono ?_; rintro e w' ⟨rfl, hw⟩; subst hw)
          go_ret
          have e : hasAt row d = some k := findIdx?_some_of _ _ k m Hm.out (by simp [hmd2]) Hsee.out
          exact ⟨by rw [e]; rfl, Hbel.out.alloc Hbel.out.size _⟩
        · rw [show decide (L.nb m.d = L.nb d) = false from decide_eq_false (fun e => hmd2 (Hinj.out e))] at HC
          go_wp2_with (go_at_call 196; refine HC.out.mono ?_; rintro e w' ⟨rfl, hw⟩; subst hw)
          refine ⟨⟨k + 1, by omega, by go_num, Hbel.out.alloc Hbel.out.size _, fun j m' hj hm' => ?_⟩, by simp [intOf]; omega⟩
          by_cases e : j = k
          · subst e
            rw [Hm.out] at hm'
            cases hm'
            simpa using hmd2
          · exact Hsee.out j m' (by omega) hm'
      · go_wp2
        go_ret
        have e : hasAt row d = none := findIdx?_none_of _ _ (fun j m hm => Hsee.out j m (by have := M.lt_of_getElem? hm; omega) hm)
        exact ⟨by rw [e]; rfl, Hbel.out⟩

theorem hasAt_some (row : List Member) (d : Nat) : (hasAt row d).isSome = rowHas row d := by
  unfold hasAt rowHas
  rw [List.findIdx?_isSome]

set_option maxRecDepth 20000 in
theorem contains_any {w : World} {F : Nat → Prop} {t : Nat} {st : St} {L : Lay} {bv : Nat → Value} (row : List Member) (v : Value) (d b : Nat) (h : TreeIs w F t st L bv) (hv : PRow w F L v row) (hok : RowDirs st row) (hd : d < st.nodes.length) (hdd : M.isDir st d = true) (hb0 : w.cell? ⟨b, 0, none⟩ = some (dirPtr L d)) :
    Calls Tryz.prog 195 #[v, .func (.func 196) #[] #[.pointer (some ⟨b, 0, none⟩)]] w fun e w' => e = .returned (.bool (rowHas row d)) ∧ Below w.heap.size w w' := by
  have HC := hide (index_any row v d b h hv hok hd hdd hb0)
  have Hs := hide (hasAt_some row d)
  clear h hv hok hd hdd hb0
  cases ho : hasAt row d with
  | none =>
    rw [ho] at HC Hs
    simp only [idxV] at HC
    go_enter Tryz.func195, Tryz.ntmps195
    go_wp2_with (go_at_call 216; refine HC.out.mono ?_; rintro e w2 ⟨rfl, hb2⟩; have HB2 := hide hb2; clear hb2)
    go_ret
    exact ⟨by rw [← Hs.out]; rfl, HB2.out⟩
  | some k =>
    rw [ho] at HC Hs
    simp only [idxV] at HC
    have k0 : (0 : Int) ≤ (k : Int) := by omega
    go_enter Tryz.func195, Tryz.ntmps195
    go_wp2_with (go_at_call 216; refine HC.out.mono ?_; rintro e w2 ⟨rfl, hb2⟩; have HB2 := hide hb2; clear hb2)
    go_ret
    exact ⟨by rw [← Hs.out]; rfl, HB2.out⟩

set_option maxRecDepth 20000 in
theorem has_any {w : World} {F : Nat → Prop} {t : Nat} {st : St} {L : Lay} {bv : Nat → Value} (row : List Member) (v : Value) (d : Nat) (h : TreeIs w F t st L bv) (hv : PRow w F L v row) (hok : RowDirs st row) (hd : d < st.nodes.length) (hdd : M.isDir st d = true) :
    Calls Tryz.prog 168 #[v, dirPtr L d] w fun e w' => e = .returned (.bool (rowHas row d)) ∧ Below w.heap.size w w' := by
  have hbel : Below w.heap.size w (w.alloc (.cells #[dirPtr L d] 87)) := (Below.refl _ w).alloc (Nat.le_refl _) _
  have hc : (w.alloc (.cells #[dirPtr L d] 87)).cell? ⟨w.heap.size, 0, none⟩ = some (dirPtr L d) := by
    have e := heap_alloc_new w (.cells #[dirPtr L d] 87)
    simp only [World.cell?, e]
    rfl
  have HC := hide (contains_any row v d w.heap.size (h.kept (KeepX.below hbel)) (hv.kept (T := fun _ => True) (M := True) (KeepX.below hbel) trivial) hok hd hdd hc)
  have HB := hide hbel
  clear h hv hok hd hdd hc hbel
  unfold dirPtr at HC HB ⊢
  go_enter Tryz.func168, Tryz.ntmps168
  go_wp2_with (go_at_call 195; refine HC.out.mono ?_; rintro e w2 ⟨rfl, hb2⟩; have HB2 := hide hb2; clear hb2)
  go_ret
  exact ⟨rfl, HB.out.trans (HB2.out.mono (by simp))⟩
end Go.Proofs.YtdmdgnghaceibaaGreat.P
/- The program's file.reach. -/
namespace Go.Proofs.YtdmdgnghaceibaaGreat.P
open M Go.ChangeShapes Go.WideShapes Go.ChangeAt Go.RowKit
set_option linter.unusedVariables false

theorem zero_cells (k : Nat) : Builtin.zeroCells (Value.int .u8 0).cells k = (List.replicate k (Value.int .u8 0)).toArray := by
  unfold Builtin.zeroCells
  apply Array.ext
  · simp [Value.cells]
  · intro i h1 h2
    have : i % 1 = 0 := Nat.mod_one i
    simp [Value.cells, this]

def zeroRows (k : Nat) : List (List Value) := List.replicate k [.int .u8 0]
theorem zeroRows_flat (k : Nat) : (zeroRows k).flatten = List.replicate k (.int .u8 0) := by
  unfold zeroRows
  induction k with
  | zero => rfl
  | succ k ih => rw [List.replicate_succ, List.flatten_cons, ih, List.replicate_succ]; rfl
theorem bytes_padded (d : ByteArray) (a : Nat) : byteCells (padded d a) = byteCells d ++ zeroRows (a - d.size) := by
  unfold byteCells padded zeros zeroRows
  rw [ByteArray.data_append, Array.toList_append, List.map_append]
  simp
theorem len_bytes (d : ByteArray) : (byteCells d).length = d.size := by unfold byteCells; rw [List.length_map, Array.length_toList]; rfl

/-- An append of zeros. -/
theorem zeros_append {w : World} {F : Nat → Prop} {v : Value} {rows : List (List Value)} (ty : TypeId) (hown : Own w F 5 1 v rows) (k : Nat) (hk : 0 < k) (hle : rows.length + k ≤ 1000000) :
    ∃ ao c w', (Builtin.append_ #[31, 3] ty #[v, .int .i64 (k : Int)]).run Tryz.prog w = .ok (.slice ao (rows.length + k) c) w' ∧ Own w' (ext F w w') 5 1 (.slice ao (rows.length + k) c) (rows ++ zeroRows k) ∧ w.grownBy w' v.ownBlock ∧
      (∀ b, (Value.slice ao (rows.length + k) c).ownBlock = some b → v.ownBlock = some b ∨ w.heap.size ≤ b) := by
  obtain ⟨i0, hi, hz0, hz1, hz2⟩ := info_parts infoByte
  have hint : Tryz.prog.underlying 3 = some (.int .i64) := by kernel_rfl
  have hrows : ∀ r ∈ rows ++ zeroRows k, r.length = 1 := fun r hr => by
    rcases List.mem_append.1 hr with hr | hr
    · exact hown.2.1 r hr
    · rw [(List.mem_replicate.1 hr).2]; rfl
  have hfl : (rows ++ zeroRows k).flatten = rows.flatten ++ List.replicate k (.int .u8 0) := by rw [List.flatten_append, zeroRows_flat]
  have hlr : rows.flatten.length = rows.length := by rw [flat_length 1 _ hown.2.1]; omega
  have hlen : (rows ++ zeroRows k).length = rows.length + k := by simp [zeroRows]
  have grown : ∀ (old : Nat), old < rows.length + k → ∀ (row : Option Nat),
      Own (w.drew.alloc (.cells (rows.flatten.toArray ++ Builtin.zeroCells (Value.int .u8 0).cells k ++ Builtin.zeroCells (Value.int .u8 0).cells (grownCap w (rows.length + k) old 5 - (rows.length + k))) 5))
        (ext F w (w.drew.alloc (.cells (rows.flatten.toArray ++ Builtin.zeroCells (Value.int .u8 0).cells k ++ Builtin.zeroCells (Value.int .u8 0).cells (grownCap w (rows.length + k) old 5 - (rows.length + k))) 5))) 5 1
        (.slice (some ⟨w.heap.size, 0, none⟩) (rows.length + k) (grownCap w (rows.length + k) old 5)) (rows ++ zeroRows k) ∧
      w.grownBy (w.drew.alloc (.cells (rows.flatten.toArray ++ Builtin.zeroCells (Value.int .u8 0).cells k ++ Builtin.zeroCells (Value.int .u8 0).cells (grownCap w (rows.length + k) old 5 - (rows.length + k))) 5)) row := by
    intro old ho row
    have hge := grownCap_ge w (rows.length + k) old 5
    have hcm : grownCap w (rows.length + k) old 5 ≤ maxLen := grownCap_le_maxLen w (rows.length + k) old _ (by unfold maxLen; omega)
    refine ⟨⟨⟨?_, .inr ⟨w.heap.size, grownCap w (rows.length + k) old 5, _, ?_, Nat.zero_le _, heap_alloc_new w.drew _, ?_, hcm, ?_, ?_⟩⟩, hrows, fun b hb => ?_⟩, ⟨rfl, rfl, rfl, by simp, fun b hb _ => Below.heap_alloc w.drew _ b hb⟩⟩
    · rw [flat_length 1 _ hrows]
    · rw [hlen]
    · rw [hlen]; exact hge
    · simp only [zero_cells, Array.size_append, List.size_toArray, List.length_replicate, hlr]
      omega
    · simp only [zero_cells, Array.toList_append]
      rw [hlen, hfl, Nat.mul_one]
      rw [show rows.length + k = (rows.flatten ++ List.replicate k (Value.int .u8 0)).length by rw [List.length_append, hlr, List.length_replicate]]
      exact List.take_left
    · simp [Value.ownBlock] at hb
      subst hb
      exact .inr ⟨Nat.le_refl _, by simp⟩
  rcases hown.1.2 with ⟨rfl, h0⟩ | ⟨g, cap, cur, rfl, hbg, hg, hnc, hcm, hcs, htake⟩
  · have hr0 : rows = [] := List.length_eq_zero_iff.1 h0
    subst hr0
    have hr := Lib.run_append_nil_zeros (P := Tryz.prog) w 31 3 ty 5 i0 (.int .u8 0) .i64 .i64 Tryz.underlying31 hint hi hz0 k hk (by rw [hz1]; omega) (by simp at hle; omega) (by rw [hz2]; simp at hle; omega)
    have hgr := grown 0 (by simp; omega) (Value.ownBlock (.slice none 0 0))
    simp only [List.length_nil, Nat.zero_add, List.nil_append, List.flatten_nil, Array.empty_append] at hgr ⊢
    exact ⟨_, _, _, hr, hgr.1, hgr.2, fun b hb => by simp [Value.ownBlock] at hb; exact .inr (by omega)⟩
  · by_cases hroom : rows.length + k ≤ cap
    · have hst := run_storeCells_at Tryz.prog g (rows.length) 5 (List.replicate k (.int .u8 0)) 0 cur w hg (by simp; omega) (fun u hu => by rw [(List.mem_replicate.1 hu).2]; rfl)
      simp only [Nat.add_zero, List.length_replicate] at hst
      have hw : IntKind.i64.wrap (k : Int) = k := by rw [IntKind.wrap_i64]; omega
      have hneg : ¬ ((k : Int) < 0) := by omega
      have h48i : ¬ (281474976710656 < (k : Int)) := by omega
      have hk0 : k ≠ 0 := by omega
      refine ⟨some ⟨g, 0, none⟩, cap, w.setRow g (cur.toList.take rows.length ++ List.replicate k (Value.int .u8 0) ++ cur.toList.drop (rows.length + k)).toArray, ?_, ⟨⟨?_, .inr ⟨g, cap, _, ?_, hbg, setRow_heap w g cur _ 5 _ hg, ?_, hcm, ?_, ?_⟩⟩, hrows, fun b hb => ?_⟩, ⟨rfl, rfl, rfl, by simp, fun b _ hb => setRow_other w g b _ (fun e => hb (by simp [Value.ownBlock, e]))⟩, fun b hb => .inl hb⟩
      · simp [Builtin.append_, run_underlying Tryz.underlying31, run_underlying hint, sizeOf, typeInfo, zeroValue, hi, hz0, hz1, hz2, asInt, asIntOf, hw, hneg, h48i, hk0, hroom, zero_cells, Addr.add_lit, hst]
      · rw [flat_length 1 _ hrows]
      · rw [hlen]
      · rw [hlen]; exact hroom
      · simp only [List.size_toArray, List.length_append, List.length_take, List.length_drop, List.length_replicate, Array.length_toList]
        omega
      · rw [hlen, hfl, Nat.mul_one]
        have ht : cur.toList.take rows.length = rows.flatten := by rw [Nat.mul_one] at htake; exact htake
        rw [ht, show rows.length + k = (rows.flatten ++ List.replicate k (Value.int .u8 0)).length by rw [List.length_append, hlr, List.length_replicate]]
        exact List.take_left
      · exact .inl (hown.2.2 b hb)
    · have hold := run_firstCells_some (P := Tryz.prog) w.drew i0.size rows.length ⟨g, 0, none⟩ rows.length cap rows.flatten (by rw [hz1, hlr]; omega) (fun j u hu => hown.1.cells (g := g) rfl j u hu)
      have hr := Lib.run_append_grow_zeros (P := Tryz.prog) w 31 3 ty 5 i0 (.int .u8 0) .i64 .i64 Tryz.underlying31 hint hi hz0 (some ⟨g, 0, none⟩) rows.length cap rows.flatten hold k hk (by rw [hz1]; omega) (by omega) (by omega) (by rw [hz2]; omega) (growslice_fits (by omega) (by rw [hz2]; omega))
      have hgr := grown cap (by omega) (Value.ownBlock (.slice (some ⟨g, 0, none⟩) rows.length cap))
      exact ⟨_, _, _, hr, hgr.1, hgr.2, fun b hb => by simp [Value.ownBlock] at hb; exact .inr (by omega)⟩
end Go.Proofs.YtdmdgnghaceibaaGreat.P
/- The program's file.reach, called. -/
namespace Go.Proofs.YtdmdgnghaceibaaGreat.P
open M Go.ChangeShapes Go.WideShapes Go.ChangeAt Go.RowKit
set_option linter.unusedVariables false

/-- What a write of a file changes: its block, its bytes' block, new blocks. -/
structure Wrote (nb : Nat) (v v' : Value) (w w' : World) : Prop where
  os : w'.os = w.os
  tape : w'.tape = w.tape
  output : w'.output = w.output
  size : w.heap.size ≤ w'.heap.size
  block : ∀ k, k < w.heap.size → k ≠ nb → v.ownBlock ≠ some k → w'.heap[k]? = w.heap[k]?
  own : ∀ k, v'.ownBlock = some k → v.ownBlock = some k ∨ w.heap.size ≤ k

theorem Wrote.refl (nb : Nat) (v : Value) (w : World) : Wrote nb v v w w := ⟨rfl, rfl, rfl, Nat.le_refl _, fun _ _ _ _ => rfl, fun _ h => .inl h⟩
theorem Wrote.trans {nb : Nat} {v1 v2 v3 : Value} {w1 w2 w3 : World} (h : Wrote nb v1 v2 w1 w2) (k : Wrote nb v2 v3 w2 w3) : Wrote nb v1 v3 w1 w3 :=
  ⟨k.os.trans h.os, k.tape.trans h.tape, k.output.trans h.output, Nat.le_trans h.size k.size,
   fun b hb hn hv => (k.block b (Nat.lt_of_lt_of_le hb h.size) hn (fun e => by rcases h.own b e with q | q; exact hv q; omega)).trans (h.block b hb hn hv),
   fun b hb => by
    rcases k.own b hb with q | q
    · exact h.own b q
    · exact .inr (Nat.le_trans h.size q)⟩

set_option maxRecDepth 20000 in
set_option maxHeartbeats 1000000 in
theorem reach_any {w : World} {F : Nat → Prop} {L : Lay} {v : Value} {i : Nat} {x : Nd} (FI : FileIs w F L v i x) (n : Nat) (hn : n ≤ 1000000) (hsz : x.data.size ≤ 1000000) :
    Calls Tryz.prog 93 #[.pointer (some ⟨L.nb i, 0, none⟩), .int .i64 n] w fun e w' => e = .returned (.tuple #[]) ∧ ∃ v', FileIs w' (ext F w w') L v' i { x with data := padded x.data n } ∧ Wrote (L.nb i) v v' w w' := by
  obtain ⟨ao, c, rfl⟩ := FI.data.form
  have hl := len_bytes x.data
  have b3 := FI.c3
  rw [hl] at b3
  by_cases hm : x.data.size < n
  · obtain ⟨k, hnk⟩ : ∃ k, n = x.data.size + k := ⟨n - x.data.size, by omega⟩
    have hk : 0 < k := by omega
    obtain ⟨ao', c', w1, hr, ho, hg, hb⟩ := zeros_append 31 FI.data k hk (by rw [hl]; omega)
    rw [hl] at hr ho hb
    have ek : (n : Int) - (x.data.size : Int) = (k : Int) := by omega
    have hne : (Value.slice ao (byteCells x.data).length c).ownBlock ≠ some (L.nb i) := fun e => FI.data.ne (k := L.nb i) FI.blk.ty (by decide) e.symm
    have hblk := hg.block (L.nb i) FI.blk.lt (fun e => hne e.symm)
    have q3 : w1.cell? ⟨L.nb i, 3, none⟩ = some (.slice ao x.data.size c) := (World.cell?_of_block hblk).trans b3
    have f3 : w1.frozen? ⟨L.nb i, 3, none⟩ = false := by
      obtain ⟨⟨cur, hc⟩, _⟩ := FI.blk
      simp [World.frozen?, hblk, hc]
    have HF := hide FI
    have HO := hide ho
    have HG := hide hg
    have HB := hide hb
    have HK := hide hblk
    have HN := hide hnk
    clear FI hnk ho hg hb hblk hl hne
    go_enter Tryz.func93, Tryz.ntmps93
    go_wp2_with (at_builtin; refine Lib.wpList_append_run _ rfl _ _ _ _ rfl _ _ rfl (by first | rfl | (simp only [ek]; rfl) | (trace_state; fail)) _ _ hr ?_)
    go_end0
    refine ⟨rfl, .slice ao' (x.data.size + k) c', ?_⟩
    obtain rfl := HN.out
    have FI := HF.out
    have hG := HG.out
    have hz : (w1.setCell ⟨L.nb i, 3, none⟩ (.slice ao' (x.data.size + k) c')).heap.size = w1.heap.size := by simp
    have hbv : ∀ b, (Value.slice ao' (x.data.size + k) c').ownBlock = some b → b ≠ L.nb i := fun b hb e => by
      subst e
      rcases HB.out _ hb with q | q
      · exact FI.data.ne (k := L.nb i) FI.blk.ty (by decide) (by rw [len_bytes]; exact q.symm)
      · have := FI.blk.lt
        omega
    have hx : ext F w w1 = ext F w (w1.setCell ⟨L.nb i, 3, none⟩ (.slice ao' (x.data.size + k) c')) := by unfold ext; rw [hz]
    have ty1 : Ty w1 (L.nb i) 162 := by
      obtain ⟨cur, hc⟩ := FI.blk.ty
      exact ⟨cur, HK.out.trans hc⟩
    have old : ∀ j, j ≠ 3 → (w1.setCell ⟨L.nb i, 3, none⟩ (.slice ao' (x.data.size + k) c')).cell? ⟨L.nb i, j, none⟩ = w.cell? ⟨L.nb i, j, none⟩ := fun j hj => (cell_other _ _ _ _ _ (fun e => hj e.symm)).trans (World.cell?_of_block HK.out)
    refine ⟨⟨⟨ty1.setCell _ _, .inl FI.blk.own⟩, (old 0 (by decide)).trans FI.c0, (old 1 (by decide)).trans FI.c1, (old 2 (by decide)).trans FI.c2, cell_same _ _ _ _ _ q3, (old 4 (by decide)).trans FI.c4, ?_⟩, ?_⟩
    · rw [show byteCells (padded x.data (x.data.size + k)) = byteCells x.data ++ zeroRows k by rw [bytes_padded]; congr 2; omega, ← hx]
      exact HO.out.keptBlock (fun b hb => Below.heap_setCell _ _ _ b (hbv b hb))
    · refine ⟨hG.os, hG.tape, hG.output, by rw [hz]; exact hG.size, fun b hb hn hv => (Below.heap_setCell _ _ _ b hn).trans (hG.block b hb (fun e => hv e.symm)), fun b hb => ?_⟩
      rw [len_bytes]
      exact HB.out b hb
  · have HF := hide FI
    have en : ¬ 0 < (n : Int) - (x.data.size : Int) := by omega
    have hm := hide hm
    clear FI hl
    go_enter Tryz.func93, Tryz.ntmps93
    go_wp2
    go_end0
    refine ⟨rfl, _, ?_, Wrote.refl _ _ _⟩
    have e0 : padded x.data n = x.data := by
      unfold padded
      rw [show n - x.data.size = 0 by have := hm.out; omega, zeros_none]
    rw [e0]
    exact HF.out.mono (fun k hk => .inl hk)
end Go.Proofs.YtdmdgnghaceibaaGreat.P
/- The program's file.write. -/
namespace Go.Proofs.YtdmdgnghaceibaaGreat.P
open M Go.ChangeShapes Go.WideShapes Go.ChangeAt Go.RowKit
set_option linter.unusedVariables false

theorem flat_take1 : ∀ (rows : List (List Value)) (a : Nat), (∀ r ∈ rows, r.length = 1) → (rows.take a).flatten = rows.flatten.take a
  | [], a, _ => by simp
  | r :: rs, 0, _ => by simp
  | r :: rs, a + 1, h => by
    have hr := h r (by simp)
    rw [List.take_succ_cons, List.flatten_cons, List.flatten_cons, flat_take1 rs a (fun x hx => h x (by simp [hx])), List.take_append, hr, List.take_of_length_le (show r.length ≤ a + 1 by omega), show a + 1 - 1 = a by omega]
theorem flat_drop1 : ∀ (rows : List (List Value)) (a : Nat), (∀ r ∈ rows, r.length = 1) → (rows.drop a).flatten = rows.flatten.drop a
  | [], a, _ => by simp
  | r :: rs, 0, _ => by simp
  | r :: rs, a + 1, h => by
    have hr := h r (by simp)
    rw [List.drop_succ_cons, List.flatten_cons, flat_drop1 rs a (fun x hx => h x (by simp [hx])), List.drop_append, hr, List.drop_of_length_le (show r.length ≤ a + 1 by omega), show a + 1 - 1 = a by omega, List.nil_append]

/-- Some of a slice's elements, written over. -/
theorem own_splice {w : World} {F : Nat → Prop} {e : TypeId} {g n cap : Nat} {rows : List (List Value)} (h : Own w F e 1 (.slice (some ⟨g, 0, none⟩) n cap) rows) (a : Nat) (news : List (List Value)) (hn1 : ∀ r ∈ news, r.length = 1) (hle : a + news.length ≤ rows.length) :
    ∃ cur, w.heap[g]? = some (.cells cur e (0, 0)) ∧ a + news.flatten.length ≤ cur.size ∧
      Own (w.setRow g (cur.toList.take a ++ news.flatten ++ cur.toList.drop (a + news.flatten.length)).toArray) F e 1 (.slice (some ⟨g, 0, none⟩) n cap) (rows.take a ++ news ++ rows.drop (a + news.length)) := by
  obtain ⟨⟨hlen, ho⟩, hl, hF⟩ := h
  rcases ho with ⟨e1, _⟩ | ⟨g', cap', cur, e1, h0, hb, hcap, hmax, hsz, htake⟩
  · cases e1
  · cases e1
    have hnf : news.flatten.length = news.length := by rw [flat_length 1 _ hn1]; omega
    have hrf : rows.flatten.length = rows.length := by rw [hlen]; omega
    have hcl : cur.toList.length = cap := by rw [Array.length_toList]; omega
    obtain ⟨rest, hrest⟩ : ∃ rest, cur.toList = rows.flatten ++ rest := ⟨cur.toList.drop (rows.length * 1), by rw [← htake]; exact (List.take_append_drop _ _).symm⟩
    have hrows : ∀ r ∈ rows.take a ++ news ++ rows.drop (a + news.length), r.length = 1 := fun r hr => by
      rcases List.mem_append.1 hr with hr | hr
      · rcases List.mem_append.1 hr with hr | hr
        · exact hl r (List.mem_of_mem_take hr)
        · exact hn1 r hr
      · exact hl r (List.mem_of_mem_drop hr)
    have hll : (rows.take a ++ news ++ rows.drop (a + news.length)).length = rows.length := by
      simp only [List.length_append, List.length_take, List.length_drop]
      omega
    refine ⟨cur, hb, by rw [hnf]; omega, ⟨?_, .inr ⟨g, cap, _, by rw [hll], h0, setRow_heap w g cur _ e _ hb, by rw [hll]; exact hcap, hmax, ?_, ?_⟩⟩, hrows, hF⟩
    · rw [flat_length 1 _ hrows]
    · simp only [List.size_toArray, List.length_append, List.length_take, List.length_drop, hcl, hnf]
      omega
    · rw [hll, Nat.mul_one]
      simp only [List.flatten_append, flat_take1 rows a hl, flat_drop1 rows _ hl]
      have ta : (rows.flatten ++ rest).take a = rows.flatten.take a := List.take_append_of_le_length (by omega)
      have td : (rows.flatten ++ rest).drop (a + news.length) = rows.flatten.drop (a + news.length) ++ rest := List.drop_append_of_le_length (by omega)
      rw [hnf, hrest, ta, td]
      have : rows.length = (rows.flatten.take a ++ news.flatten ++ rows.flatten.drop (a + news.length)).length := by
        simp only [List.length_append, List.length_take, List.length_drop, hnf, hrf]
        omega
      rw [← List.append_assoc]
      rw [List.take_append_of_le_length (by omega), List.take_of_length_le (by omega)]

theorem over_cells (d : ByteArray) (a : Nat) (t : ByteArray) : byteCells (over d a t) = (byteCells (padded d (a + t.size))).take a ++ byteCells t ++ (byteCells (padded d (a + t.size))).drop (a + t.size) := by
  have hd : d.data.toList.length = d.size := by rw [Array.length_toList]; rfl
  have e1 : ((padded d a).extract 0 a).data.toList = (padded d (a + t.size)).data.toList.take a := by
    rw [ByteArray.data_extract, Array.toList_extract]
    simp only [List.extract_eq_take_drop, List.drop_zero, Nat.sub_zero]
    unfold padded zeros
    simp only [ByteArray.data_append, Array.toList_append, Array.toList_replicate, List.take_append, List.take_replicate, hd]
    congr 2
    omega
  have e2 : (if a + t.size < (padded d a).size then (padded d a).extract (a + t.size) (padded d a).size else ⟨#[]⟩).data.toList = (padded d (a + t.size)).data.toList.drop (a + t.size) := by
    have hr : (padded d (a + t.size)).data.toList.drop (a + t.size) = d.data.toList.drop (a + t.size) := by
      unfold padded zeros
      simp only [ByteArray.data_append, Array.toList_append, Array.toList_replicate, List.drop_append, List.drop_replicate, hd]
      rw [Nat.sub_self, List.replicate_zero, List.append_nil]
    rw [hr]
    rw [size_padded]
    split
    · rw [ByteArray.data_extract, Array.toList_extract]
      simp only [List.extract_eq_take_drop]
      unfold padded zeros
      simp only [ByteArray.data_append, Array.toList_append, Array.toList_replicate, List.drop_append, List.drop_replicate, hd]
      rw [show a - d.size - (a + t.size - d.size) = 0 by omega, List.replicate_zero, List.append_nil]
      exact List.take_of_length_le (by rw [List.length_drop, hd]; omega)
    · rw [List.drop_of_length_le (by rw [hd]; omega)]
  unfold over
  unfold byteCells
  rw [ByteArray.data_append, ByteArray.data_append, Array.toList_append, Array.toList_append, e1, e2]
  simp [List.map_append, List.map_take, List.map_drop]

theorem bytes_one (t : ByteArray) : ∀ r ∈ byteCells t, r.length = 1 := fun r hr => by
  unfold byteCells at hr
  obtain ⟨c, _, rfl⟩ := List.mem_map.1 hr
  rfl

/-- How a file's write ends. -/
def FWrote (w : World) (F : Nat → Prop) (L : Lay) (v : Value) (i : Nat) (x : Nd) (a : Nat) (t : ByteArray) (e : Ending) (w' : World) : Prop :=
  if 300 < a ∨ 300 < a + t.size then e = .returned (.int .i64 12) ∧ w' = w
  else e = .returned (.int .i64 0) ∧ ∃ v', FileIs w' (ext F w w') L v' i (wroteNd x a t) ∧ Wrote (L.nb i) v v' w w'

theorem file_version {w : World} {F : Nat → Prop} {L : Lay} {v : Value} {i : Nat} {x : Nd} (FI : FileIs w F L v i x) (n : Int) : FileIs (w.setCell ⟨L.nb i, 4, none⟩ (.int .i64 n)) F L v i { x with version := n } ∧ Wrote (L.nb i) v v w (w.setCell ⟨L.nb i, 4, none⟩ (.int .i64 n)) := by
  have old : ∀ j, j ≠ 4 → (w.setCell ⟨L.nb i, 4, none⟩ (.int .i64 n)).cell? ⟨L.nb i, j, none⟩ = w.cell? ⟨L.nb i, j, none⟩ := fun j hj => cell_other _ _ _ _ _ (fun e => hj e.symm)
  refine ⟨⟨FI.blk.setCell _ _, (old 0 (by decide)).trans FI.c0, (old 1 (by decide)).trans FI.c1, (old 2 (by decide)).trans FI.c2, (old 3 (by decide)).trans FI.c3, cell_same _ _ _ _ _ FI.c4, ?_⟩, rfl, rfl, rfl, by simp, fun k _ hn _ => Below.heap_setCell _ _ _ k hn, fun k hk => .inl hk⟩
  exact FI.data.keptBlock (fun b hb => Below.heap_setCell _ _ _ b (fun e => FI.data.ne (k := L.nb i) FI.blk.ty (by decide) (by rw [hb, e])))

set_option maxRecDepth 20000 in
set_option maxHeartbeats 1000000 in
theorem fwrite_any {w : World} {F : Nat → Prop} {L : Lay} {v : Value} {i : Nat} {x : Nd} (FI : FileIs w F L v i x) (a : Nat) (ha : a ≤ 9223372036854775807) (dv : Value) (t : ByteArray) (hsrc : SrcIs w 1 dv (byteCells t)) (hap : ∀ ad n c, dv = .slice (some ad) n c → 0 < n → ¬ F ad.block) (ht : t.size ≤ 140737488355328) (hsz : x.data.size ≤ 1000000) :
    Calls Tryz.prog 52 #[.pointer (some ⟨L.nb i, 0, none⟩), .int .i64 a, dv] w fun e w' => FWrote w F L v i x a t e w' := by
  obtain ⟨h1, h2, h3⟩ := hsrc
  rw [len_bytes] at h3
  obtain ⟨ad, c, rfl⟩ : ∃ ad c, dv = .slice ad t.size c := by
    rcases h3 with ⟨rfl, h⟩ | ⟨ad, c, rfl, _⟩
    · exact ⟨none, 0, by rw [← len_bytes, h]; rfl⟩
    · exact ⟨some ad, c, rfl⟩
  by_cases hbig : 300 < a ∨ 300 < a + t.size
  · have H := hide hbig
    have e1 : (300 : Int) - (t.size : Int) < (a : Int) := by omega
    clear hbig FI h1 h2 h3 hap
    go_enter Tryz.func52, Tryz.ntmps52
    go_wp2
    go_ret
    unfold FWrote
    rw [if_pos H.out]
    exact ⟨rfl, rfl⟩
  · have H := hide hbig
    have e1 : ¬ (300 : Int) - (t.size : Int) < (a : Int) := by omega
    by_cases ht0 : t.size = 0
    · have c4 := FI.c4
      have f4 := FI.blk.fz 4
      have HF := hide FI
      have HT := hide ht0
      rw [ht0] at e1 ⊢
      clear hbig FI h1 h2 h3 hap
      go_enter Tryz.func52, Tryz.ntmps52
      go_wp2
      go_ret
      unfold FWrote
      rw [if_neg H.out]
      obtain ⟨q1, q2⟩ := file_version HF.out (wrap64 (x.version + 1))
      refine ⟨rfl, v, ?_, q2⟩
      unfold wroteNd
      rw [if_pos HT.out]
      exact q1.mono (fun k hk => .inl hk)
    · obtain ⟨ad, rfl, hcells⟩ : ∃ ad', ad = some ad' ∧ ∀ j u, (byteCells t).flatten[j]? = some u → w.cell? (ad'.add j) = some u := by
        rcases h3 with ⟨e, h⟩ | ⟨ad', c', e, hc⟩
        · exact absurd (by rw [← len_bytes, h]; rfl) ht0
        · cases e
          exact ⟨ad', rfl, hc⟩
      have hnF := hap ad t.size c rfl (by omega)
      have hfl : (byteCells t).flatten.length = t.size := by rw [flat_length 1 _ h1, len_bytes]; omega
      have hadlt : ad.block < w.heap.size := by
        cases hc : (byteCells t).flatten with
        | nil => rw [hc] at hfl; exact absurd hfl.symm ht0
        | cons u l =>
          have h0 := hcells 0 u (by rw [hc]; rfl)
          have h0' := World.block_lt_of_cell? w _ h0
          simpa [Addr.add] using h0'
      have hone : ∀ u ∈ (byteCells t).flatten, u.oneCell' = true := fun u hu => by
        obtain ⟨r, hr, hur⟩ := List.mem_flatten.1 hu
        exact h2 r hr u hur
      have HR := hide (reach_any FI (a + t.size) (by omega) hsz)
      rw [Int.natCast_add] at HR
      have HF := hide FI
      have HT := hide ht0
      have e2 : 0 < t.size := by omega
      have e5 : (a : Int) + (t.size : Int) ≤ 300 := by omega
      have Hh := hide (And.intro h1 (And.intro hcells (And.intro hnF (And.intro hfl (And.intro hadlt hone)))))
      clear hbig FI h1 h2 h3 hap hcells hnF hfl hadlt hone ht0
      go_enter Tryz.func52, Tryz.ntmps52
      go_wp2_with fail
      refine HR.out.mono ?_
      rintro e w1 ⟨rfl, v1, hFI1, hW⟩
      obtain ⟨h1, hcells, hnF, hfl, hadlt, hone⟩ := Hh.out
      have hps : (padded x.data (a + t.size)).size = max x.data.size (a + t.size) := size_padded _ _
      obtain ⟨len1, hlen1⟩ : ∃ len1, len1 = max x.data.size (a + t.size) := ⟨_, rfl⟩
      have hle1 : a + t.size ≤ len1 := by omega
      have hmx : len1 ≤ 1000000 := by have := H.out; omega
      have hbl : (byteCells (padded x.data (a + t.size))).length = len1 := by rw [len_bytes, hps, hlen1]
      rcases hFI1.data.opened with ⟨_, hnil⟩ | ⟨g, cap1, hv1, hlc, hmaxl, _⟩
      · exfalso
        have h0 : (byteCells (padded x.data (a + t.size))).length = 0 := by show (byteCells ({ x with data := padded x.data (a + t.size) } : Nd).data).length = 0; rw [hnil]; rfl
        omega
      · have hv1' : v1 = .slice (some ⟨g, 0, none⟩) len1 cap1 := hv1.trans (by rw [← hbl])
        clear hv1
        have hlc' : len1 ≤ cap1 := by rw [← hbl]; exact hlc
        clear hlc
        subst hv1'
        have hcapm : cap1 ≤ 9223372036854775807 := by unfold maxLen at hmaxl; omega
        have hdat : Own w1 (ext F w w1) 5 1 (.slice (some ⟨g, 0, none⟩) len1 cap1) (byteCells (padded x.data (a + t.size))) := hFI1.data
        obtain ⟨cur, hcur, hfit, hown⟩ := own_splice hdat a (byteCells t) h1 (by rw [len_bytes, hbl]; omega)
        have hgne : g ≠ L.nb i := fun e => hFI1.data.ne (k := L.nb i) hFI1.blk.ty (by decide) (by rw [← e]; rfl)
        have hadn : w1.heap[ad.block]? = w.heap[ad.block]? := hW.block _ hadlt (fun e => hnF (e ▸ HF.out.blk.own)) (fun e => hnF (HF.out.data.2.2 _ e))
        have hcells1 : ∀ j u, (byteCells t).flatten[j]? = some u → w1.cell? (ad.add j) = some u := fun j u hj => by
          rw [← hcells j u hj]
          have hb : (ad.add j).block = ad.block := by unfold Addr.add; split <;> rfl
          exact World.cell?_of_block (a := ad.add j) (by rw [hb]; exact hadn)
        have hcp := run_copy_row (P := Tryz.prog) w1 31 31 3 5 g a (len1 - a) (cap1 - a) ad t.size c cur 5 (byteCells t).flatten Tryz.underlying31 sizeByte hcur (by rw [hfl]; show t.size = min t.size (len1 - a); omega) hcells1 hfit hone
        rw [hfl] at hcp hown
        rw [len_bytes] at hown
        obtain ⟨Y, hY⟩ : ∃ Y, Y = (cur.toList.take a ++ (byteCells t).flatten ++ cur.toList.drop (a + t.size)).toArray := ⟨_, rfl⟩
        rw [← hY] at hcp hown
        have q3 := hFI1.c3
        have hblk : (w1.setRow g Y).heap[L.nb i]? = w1.heap[L.nb i]? := setRow_other _ _ _ _ (fun e => hgne e.symm)
        have q4 : (w1.setRow g Y).cell? ⟨L.nb i, 4, none⟩ = some (.int .i64 x.version) := (World.cell?_of_block hblk).trans hFI1.c4
        have f4 : (w1.setRow g Y).frozen? ⟨L.nb i, 4, none⟩ = false := by
          obtain ⟨⟨cu, hc⟩, _⟩ := hFI1.blk
          simp [World.frozen?, hblk, hc]
        have e7 : ¬ len1 < a := by omega
        have e8 : ¬ cap1 = a := by omega
        have Ho := hide hown
        have HB := hide hblk
        have HW := hide hW
        have HF1 := hide hFI1
        have Hl := hide (And.intro hle1 (And.intro hps hlen1))
        clear h1 hcells hnF hfl hadlt hone hps hlen1 hbl hdat hcur hfit hown hgne hadn hcells1 hY hblk hFI1 hW hle1 hmaxl
        go_wp2
        go_ret
        unfold FWrote
        rw [if_neg H.out]
        have F1 := HF1.out
        have c2 : ∀ j, (w1.setRow g Y).cell? ⟨L.nb i, j, none⟩ = w1.cell? ⟨L.nb i, j, none⟩ := fun j => World.cell?_of_block HB.out
        have F2 : FileIs (w1.setRow g Y) (ext F w w1) L (.slice (some ⟨g, 0, none⟩) len1 cap1) i { x with data := over x.data a t } :=
          ⟨⟨by obtain ⟨cu, hc⟩ := F1.blk.ty; exact ⟨cu, HB.out.trans hc⟩, F1.blk.own⟩, (c2 0).trans F1.c0, (c2 1).trans F1.c1, (c2 2).trans F1.c2, (c2 3).trans F1.c3, (c2 4).trans F1.c4, by rw [over_cells]; exact Ho.out⟩
        have W2 : Wrote (L.nb i) (.slice (some ⟨g, 0, none⟩) len1 cap1) (.slice (some ⟨g, 0, none⟩) len1 cap1) w1 (w1.setRow g Y) :=
          ⟨rfl, rfl, rfl, by simp, fun k _ _ hk => setRow_other _ _ _ _ (fun e => hk (by rw [e]; rfl)), fun k hk => .inl hk⟩
        obtain ⟨q1, q2⟩ := file_version F2 (wrap64 (x.version + 1))
        refine ⟨rfl, _, ?_, (HW.out.trans W2).trans q2⟩
        unfold wroteNd
        rw [if_neg HT.out]
        exact q1.mono (ext_mono (by simp))
end Go.Proofs.YtdmdgnghaceibaaGreat.P
/- The program's Write. -/
namespace Go.Proofs.YtdmdgnghaceibaaGreat.P
open M Go.ChangeShapes Go.WideShapes Go.ChangeAt Go.RowKit
set_option linter.unusedVariables false

theorem set_map {α β : Type} (f : α → β) : ∀ (l : List α) (i : Nat) (x y : α), l[i]? = some x → f y = f x → (l.set i y).map f = l.map f
  | [], i, x, y, h, _ => by simp at h
  | a :: l, 0, x, y, h, e => by
    simp only [List.getElem?_cons_zero, Option.some.injEq] at h
    subst h
    simp [e]
  | a :: l, i + 1, x, y, h, e => by
    simp only [List.getElem?_cons_succ] at h
    simp only [List.set_cons_succ, List.map_cons, set_map f l i x y h e]

theorem findIdx_map {α : Type} (p : α → Bool) (l : List α) : l.findIdx? p = (l.map p).findIdx? id := by
  rw [List.findIdx?_map]; rfl
theorem live_map (l : List Nd) : liveNodes l = ((l.map (fun x => !x.gone)).filter id).length := by
  unfold liveNodes
  induction l with
  | nil => rfl
  | cons x l ih => simp only [List.map_cons, List.filter_cons]; cases h : x.gone <;> simp [ih]

/-- A node that is rewritten, and lies where it lay. -/
structure SameNd (x y : Nd) : Prop where
  name : y.name = x.name
  dir : y.dir = x.dir
  inn : y.inn = x.inn
  gone : y.gone = x.gone

theorem lies_setNode {st : St} {i : Nat} {x y : Nd} (hx : st.nodes[i]? = some x) (hs : SameNd x y) (d : Nat) (s : ByteArray) : lies (setNode st i y) d s = lies st d s := by
  unfold lies setNode
  simp only
  rw [findIdx_map, findIdx_map (l := st.nodes), set_map _ _ _ x y hx]
  unfold liesHere
  rw [hs.name, hs.inn, hs.gone]
theorem live_setNode {st : St} {i : Nat} {x y : Nd} (hx : st.nodes[i]? = some x) (hs : SameNd x y) : liveNodes (setNode st i y).nodes = liveNodes st.nodes := by
  unfold setNode
  simp only
  rw [live_map, live_map, set_map _ _ _ x y hx (by rw [hs.gone])]
theorem get_setNode {st : St} {i j : Nat} {y z : Nd} (hi : i < st.nodes.length) (h : (setNode st i y).nodes[j]? = some z) : (j = i ∧ z = y) ∨ (j ≠ i ∧ st.nodes[j]? = some z) := by
  unfold setNode at h
  simp only at h
  by_cases e : j = i
  · subst e
    rw [List.getElem?_set_self hi] at h
    exact .inl ⟨rfl, (Option.some.inj h).symm⟩
  · rw [List.getElem?_set_ne (fun q => e q.symm)] at h
    exact .inr ⟨e, h⟩
theorem wrote_same (x : Nd) (a : Nat) (t : ByteArray) : SameNd x (wroteNd x a t) := by
  unfold wroteNd
  split <;> exact ⟨rfl, rfl, rfl, rfl⟩

/-- The tree with a file rewritten. -/
theorem TreeIs.rewrite {w w' : World} {F F' : Nat → Prop} {t : Nat} {st : St} {L : Lay} {bv : Nat → Value} {i : Nat} {x y : Nd} {v' : Value} (h : TreeIs w F t st L bv) (hx : st.nodes[i]? = some x) (hxd : x.dir = false) (hs : SameNd x y)
    (hF : ∀ k, F k → F' k) (hf : FileIs w' F' L v' i y) (hW : Wrote (L.nb i) (bv i) v' w w') : TreeIs w' F' t (setNode st i y) L (fun j => if j = i then v' else bv j) := by
  have hi : i < st.nodes.length := M.lt_of_getElem? hx
  have FI := h.file i x hx hxd
  have hbt : ∀ k, (bv i).ownBlock = some k → Ty w k 5 := fun k hk => by
    rcases FI.data.opened with ⟨e, _⟩ | ⟨g, cap, e, _, _, hg, ⟨cur, hb⟩, _⟩
    · rw [e] at hk; simp [Value.ownBlock] at hk
    · rw [e] at hk
      simp [Value.ownBlock] at hk
      subst hk
      exact ⟨cur, hb⟩
  have hk : KeepX (fun e => e ≠ 162 ∧ e ≠ 5) True F w w' := by
    refine ⟨fun k cur e hFk hb hT => hW.block k (Array.getElem?_eq_some_iff.1 hb).1 (fun q => ?_) (fun q => ?_), fun _ k es c hFk hb => hW.block k (Array.getElem?_eq_some_iff.1 hb).1 (fun q => ?_) (fun q => ?_)⟩
    · subst q
      exact Ty.ne_ty FI.blk.ty ⟨cur, hb⟩ (fun q => hT.1 q.symm) rfl
    · exact Ty.ne_ty (hbt k q) ⟨cur, hb⟩ (fun q => hT.2 q.symm) rfl
    · subst q
      exact Ty.ne_map FI.blk.ty hb rfl
    · exact Ty.ne_map (hbt k q) hb rfl
  have hlen : (setNode st i y).nodes.length = st.nodes.length := by simp [setNode]
  have ct := h.blk.cell hk (by decide)
  have back : ∀ j z, (setNode st i y).nodes[j]? = some z → ∃ z', st.nodes[j]? = some z' ∧ SameNd z' z := fun j z hz => by
    rcases get_setNode hi hz with ⟨rfl, rfl⟩ | ⟨_, hz⟩
    · exact ⟨x, hx, hs⟩
    · exact ⟨z, hz, rfl, rfl, rfl, rfl⟩
  have hlt : ∀ j z k, st.nodes[j]? = some z → z.dir = false → (bv j).ownBlock = some k → k < w.heap.size := fun j z k hz hzd hkk => ((h.file j z hz hzd).data.1.lt k hkk).2
  refine ⟨(h.blk.kept hk (by decide)).mono hF, (ct 0).trans h.c0, ?_, fun j z hz => ?_, fun j z hz hzd => ?_, fun j z hz hzd => ?_, fun a b ha hb => ?_, fun a b za zb ha hb hda hdb => ?_, fun a b za zb k ha hb hda hdb hne hka => ?_⟩
  · rw [live_setNode hx hs]
    exact (ct 1).trans h.c1
  · obtain ⟨z', hz', hsz⟩ := back j z hz
    rw [hsz.dir]
    exact h.kind j z' hz'
  · rcases get_setNode hi hz with ⟨rfl, rfl⟩ | ⟨_, hz⟩
    · rw [hs.dir, hxd] at hzd; cases hzd
    · have D := ((h.dir j z hz hzd).kept hk trivial (by decide) (by decide)).mono hF
      refine ⟨D.blk, D.c0, D.c1, D.c2, D.c3, D.mapF, ?_, D.bound⟩
      rw [hlen]
      exact D.map.congr (fun s _ => by rw [lies_setNode hx hs])
  · rcases get_setNode hi hz with ⟨rfl, rfl⟩ | ⟨hne, hz⟩
    · rw [if_pos rfl]
      exact hf
    · rw [if_neg hne]
      have Fj := h.file j z hz hzd
      have hjl : j < st.nodes.length := M.lt_of_getElem? hz
      have hb : w'.heap[L.nb j]? = w.heap[L.nb j]? := hW.block _ Fj.blk.lt (fun e => hne (h.nbInj j i hjl hi e)) (fun e => Ty.ne_ty (hbt _ e) Fj.blk.ty (by decide) rfl)
      have c : ∀ q, w'.cell? ⟨L.nb j, q, none⟩ = w.cell? ⟨L.nb j, q, none⟩ := fun q => World.cell?_of_block hb
      refine FileIs.mono ⟨⟨by obtain ⟨cu, hc⟩ := Fj.blk.ty; exact ⟨cu, hb.trans hc⟩, Fj.blk.own⟩, (c 0).trans Fj.c0, (c 1).trans Fj.c1, (c 2).trans Fj.c2, (c 3).trans Fj.c3, (c 4).trans Fj.c4, ?_⟩ hF
      refine Fj.data.keptBlock (fun k hkk => hW.block k (hlt j z k hz hzd hkk) (fun e => ?_) (h.bvApart j i z x k hz hx hzd hxd hne hkk))
      subst e
      exact Fj.data.ne (k := L.nb i) FI.blk.ty (by decide) hkk.symm
  · rw [hlen] at ha hb
    exact h.nbInj a b ha hb
  · obtain ⟨za', ha', sa⟩ := back a za ha
    obtain ⟨zb', hb', sb⟩ := back b zb hb
    exact h.mbInj a b za' zb' ha' hb' (sa.dir ▸ hda) (sb.dir ▸ hdb)
  · obtain ⟨za', ha', sa⟩ := back a za ha
    obtain ⟨zb', hb', sb⟩ := back b zb hb
    have da : za'.dir = false := sa.dir ▸ hda
    have db : zb'.dir = false := sb.dir ▸ hdb
    by_cases e1 : a = i
    · subst e1
      rw [if_pos rfl] at hka
      rw [if_neg (fun e => hne e.symm)]
      rcases hW.own k hka with q | q
      · exact h.bvApart a b za' zb' k ha' hb' da db hne q
      · intro e
        have := hlt b zb' k hb' db e
        omega
    · rw [if_neg e1] at hka
      by_cases e2 : b = i
      · subst e2
        rw [if_pos rfl]
        intro e
        rcases hW.own k e with q | q
        · exact h.bvApart a b za' zb' k ha' hb' da db hne hka q
        · have := hlt a za' k ha' da hka
          omega
      · rw [if_neg e2]
        exact h.bvApart a b za' zb' k ha' hb' da db hne hka
end Go.Proofs.YtdmdgnghaceibaaGreat.P
/- The program's Write, whole. -/
namespace Go.Proofs.YtdmdgnghaceibaaGreat.P
open M Go.ChangeShapes Go.WideShapes Go.ChangeAt Go.RowKit
set_option linter.unusedVariables false

/-- How Write ends. -/
def PEnds5 (w : World) (F : Nat → Prop) (s : Nat) (p : St × Int × Int) (e : Ending) (w' : World) : Prop :=
  e = .returned (.tuple #[.int .i64 p.2.1, .int .i64 p.2.2]) ∧ SrvIs w' (ext F w w') s p.1 ∧ Ext F w w'

theorem PEnds5.of {w w1 : World} {F : Nat → Prop} {s : Nat} {p : St × Int × Int} {n c : Int} {st' : St} (hp : p = (st', n, c)) (h : Held w1 (ext F w w1) s st') (hx : Ext F w w1) : PEnds5 w F s p (.returned (.tuple #[.int .i64 n, .int .i64 c])) (left w1 s) := by
  subst hp
  obtain ⟨h1, h2⟩ := left_close (w1 := w) h hx
  exact ⟨rfl, h1, h2⟩

theorem mWrite_bad {st : St} {n a : Int} {t : ByteArray} (h : mFile st (find st n) ≠ 0) : mWrite st n a t = (tick st, 0, mFile st (find st n)) := by unfold mWrite; rw [if_neg h]
theorem mWrite_arg {st : St} {n a : Int} {t : ByteArray} (h : mFile st (find st n) = 0) (ha : a < 0) : mWrite st n a t = (tick st, 0, 1) := by unfold mWrite; rw [if_pos h, if_pos ha]
theorem mWrite_big {st : St} {n a : Int} {t : ByteArray} (h : mFile st (find st n) = 0) (ha : ¬ a < 0) (hb : 300 < a ∨ 300 < a + t.size) : mWrite st n a t = (tick st, 0, 12) := by unfold mWrite; rw [if_pos h, if_neg ha, if_pos hb]

theorem Wrote.ext {nb : Nat} {v v' : Value} {w w' : World} {F : Nat → Prop} (h : Wrote nb v v' w w') (hnb : F nb) (hv : ∀ k, v.ownBlock = some k → F k) : Ext F w w' :=
  ⟨h.os, h.tape, h.output, h.size, fun k hk hF => h.block k hk (fun e => hF (e ▸ hnb)) (fun e => hF (hv k e))⟩

theorem Wrote.keep {nb : Nat} {v v' : Value} {w w' : World} {F : Nat → Prop} (h : Wrote nb v v' w w') (h1 : Ty w nb 162) (h2 : ∀ k, v.ownBlock = some k → Ty w k 5) : KeepX (fun e => e ≠ 162 ∧ e ≠ 5) True F w w' := by
  refine ⟨fun k cur e hFk hb hT => h.block k (Array.getElem?_eq_some_iff.1 hb).1 (fun q => ?_) (fun q => ?_), fun _ k es c hFk hb => h.block k (Array.getElem?_eq_some_iff.1 hb).1 (fun q => ?_) (fun q => ?_)⟩
  · subst q
    exact Ty.ne_ty h1 ⟨cur, hb⟩ (fun q => hT.1 q.symm) rfl
  · exact Ty.ne_ty (h2 k q) ⟨cur, hb⟩ (fun q => hT.2 q.symm) rfl
  · subst q
    exact Ty.ne_map h1 hb rfl
  · exact Ty.ne_map (h2 k q) hb rfl

/-- The Server with a file rewritten. -/
theorem SrvHas.rewrite {w w' : World} {F F' : Nat → Prop} {s t : Nat} {st : St} {lk : Int} {L : Lay} {bv : Nat → Value} {i : Nat} {x y : Nd} {v' : Value} (h : SrvHas w F s st lk t L bv) (hx : st.nodes[i]? = some x) (hxd : x.dir = false) (hs : SameNd x y)
    (hF : ∀ k, F k → F' k) (hf : FileIs w' F' L v' i y) (hW : Wrote (L.nb i) (bv i) v' w w') : SrvHas w' F' s (setNode st i y) lk t L (fun j => if j = i then v' else bv j) := by
  have FI := h.tree.file i x hx hxd
  have hk : KeepX (fun e => e ≠ 162 ∧ e ≠ 5) True F w w' := hW.keep FI.blk.ty (fun k hk => by
    rcases FI.data.opened with ⟨e, _⟩ | ⟨g, cap, e, _, _, hg, ⟨cur, hb⟩, _⟩
    · rw [e] at hk; simp [Value.ownBlock] at hk
    · rw [e] at hk
      simp [Value.ownBlock] at hk
      subst hk
      exact ⟨cur, hb⟩)
  have c := h.blk.cell hk (by decide)
  exact ⟨(h.blk.kept hk (by decide)).mono hF, (c 0).trans h.k0, (c 1).trans h.k1, (c 3).trans h.k3, (c 5).trans h.k5, (c 6).trans h.k6, fun n hn => ((h.fids n hn).kept hk (by decide) (by decide) (c _) (c _)).mono hF, h.tree.rewrite hx hxd hs hF hf hW⟩

theorem src_kept {w w1 : World} {F : Nat → Prop} {dv : Value} {t : ByteArray} (hsrc : SrcIs w 1 dv (byteCells t)) (hap : ∀ ad n c, dv = .slice (some ad) n c → 0 < n → ¬ F ad.block) (hx : Ext F w w1) :
    SrcIs w1 1 dv (byteCells t) ∧ ∀ ad n c, dv = .slice (some ad) n c → 0 < n → ¬ ext F w w1 ad.block := by
  obtain ⟨h1, h2, h3⟩ := hsrc
  have hfl : (byteCells t).flatten.length = (byteCells t).length := by rw [flat_length 1 _ h1]; omega
  rcases h3 with ⟨rfl, h⟩ | ⟨ad, c, rfl, hc⟩
  · exact ⟨⟨h1, h2, .inl ⟨rfl, h⟩⟩, fun ad n c e => by cases e⟩
  · have hb : ∀ j, (ad.add j).block = ad.block := fun j => by unfold Addr.add; split <;> rfl
    have hlt : 0 < (byteCells t).length → ad.block < w.heap.size := fun h0 => by
      cases hq : (byteCells t).flatten with
      | nil => rw [hq] at hfl; simp at hfl; omega
      | cons u l =>
        have h0' := World.block_lt_of_cell? w _ (hc 0 u (by rw [hq]; rfl))
        rw [hb] at h0'
        exact h0'
    refine ⟨⟨h1, h2, .inr ⟨ad, c, rfl, fun j u hj => ?_⟩⟩, fun ad' n c' e hn => ?_⟩
    · have h0 : 0 < (byteCells t).length := by have := M.lt_of_getElem? hj; omega
      rw [← hc j u hj]
      exact World.cell?_of_block (a := ad.add j) (by rw [hb]; exact hx.block _ (hlt h0) (hap ad _ c rfl h0))
    · cases e
      rintro (q | q)
      · exact hap ad _ c rfl hn q
      · have := hlt hn
        omega

set_option maxRecDepth 20000 in
set_option maxHeartbeats 1000000 in
theorem swrite_any {w : World} {F : Nat → Prop} {s : Nat} {st : St} (n a : Int) (ha : a ≤ 9223372036854775807) (dv : Value) (t : ByteArray) (h : SrvIs w F s st) (ok : POk st) (hsrc : SrcIs w 1 dv (byteCells t)) (hap : ∀ ad n c, dv = .slice (some ad) n c → 0 < n → ¬ F ad.block) (ht : t.size ≤ 140737488355328) (hsz : ∀ x ∈ st.nodes, x.data.size ≤ 1000000) :
    Calls Tryz.prog 18 #[.pointer (some ⟨s, 0, none⟩), .int .i64 n, .int .i64 a, dv] w fun e w' => PEnds5 w F s (mWrite st n a t) e w' := by
  obtain ⟨ad, cd, rfl⟩ : ∃ ad c, dv = .slice ad t.size c := by
    rcases hsrc.2.2 with ⟨rfl, h⟩ | ⟨ad, c, rfl, _⟩
    · exact ⟨none, 0, by rw [← len_bytes, h]; rfl⟩
    · exact ⟨some ad, c, by rw [len_bytes]⟩
  go_enter_defers Tryz.func18, Tryz.ntmps18
  go_wp2_with fail
  refine (enter_any h).mono ?_
  rintro e w1 ⟨rfl, hH, hx⟩
  clear h
  obtain ⟨hsrc1, hap1⟩ := src_kept hsrc hap hx
  obtain ⟨tt, L, bv, hS⟩ := hH
  have hx := hide hx
  have HO := hide (openedFile_any n hS ok.tick)
  have em : mFile (tick st) (find (tick st) n) = mFile st (find st n) := rfl
  rw [em] at HO
  clear hsrc hap
  by_cases he : mFile st (find st n) = 0
  · obtain ⟨i, f, hf, hi, hop, hg, hd⟩ := mFile_zero he
    have hm := List.mem_of_getElem? hi
    have hne := (ok.way f hm).1
    have hsp : f.way.getLast? = some (f.way.getLast hne) := List.getLast?_eq_some_getLast hne
    generalize f.way.getLast hne = sp at hsp
    have hno : nodeOf f = sp.n := by simp [nodeOf, hsp]
    have hin := ((ok.way f hm).2 sp (List.mem_of_getLast? hsp)).1
    obtain ⟨x, hxn⟩ := getElem?_of_lt hin
    have hxd : x.dir = false := by rw [hno] at hd; simpa [isDir, hxn] using hd
    have ev : openFileV (tick st) L n = .pointer (some ⟨L.nb sp.n, 0, none⟩) := by
      unfold openFileV
      rw [show find (tick st) n = some i from hf]
      simp only
      rw [show (tick st).fids[i]? = some f from hi]
      simp only
      rw [if_pos (by rw [hf] at he; exact he), hno]
    rw [he, ev] at HO
    by_cases ha0 : a < 0
    · have H := hide (mWrite_arg (t := t) he ha0)
      have hS := hide hS
      clear he hf hi hm hne hsp hxn ev em hsrc1 hap1
      go_wp2_with (go_at_call 50; refine HO.out.mono ?_; rintro e w' ⟨rfl, hw⟩; obtain rfl := hw.symm)
      have hD : Held w1 (ext F w w1) s (tick st) := ⟨tt, L, bv, hS.out⟩
      refine leaves_cons (f := 43) (args := #[.pointer (some ⟨s, 0, none⟩)]) (by simp) (by simp [go_sem]) ?_
      refine (leave_deferred .returning hD).mono ?_
      rintro e u' w'' ⟨rfl, rfl, rfl⟩
      refine ⟨_, results_tmp2 rfl _ _ _, ?_⟩
      exact PEnds5.of H.out hD hx.out
    · obtain ⟨a', rfl⟩ := Int.eq_ofNat_of_zero_le (show 0 ≤ a by omega)
      have FI := hS.tree.file sp.n x hxn hxd
      have HR := hide (fwrite_any FI a' (by omega) _ t hsrc1 hap1 ht (hsz x (List.mem_of_getElem? hxn)))
      have na : ¬ (a' : Int) < 0 := ha0
      by_cases hb : 300 < a' ∨ 300 < a' + t.size
      · have H := hide (mWrite_big (t := t) (a := (a' : Int)) he ha0 (by omega))
        have hS := hide hS
        unfold FWrote at HR
        simp only [if_pos hb] at HR
        clear he hf hi hm hne hsp hxn ev em hsrc1 hap1 FI hb
        go_wp2_with (first | (go_at_call 50; refine HO.out.mono ?_; rintro e w' ⟨rfl, hw⟩; obtain rfl := hw.symm) | (go_at_call 52; refine HR.out.mono ?_; rintro e w' ⟨rfl, hw⟩; obtain rfl := hw.symm))
        have hD : Held w1 (ext F w w1) s (tick st) := ⟨tt, L, bv, hS.out⟩
        refine leaves_cons (f := 43) (args := #[.pointer (some ⟨s, 0, none⟩)]) (by simp) (by simp [go_sem]) ?_
        refine (leave_deferred .returning hD).mono ?_
        rintro e u' w'' ⟨rfl, rfl, rfl⟩
        refine ⟨_, results_tmp2 rfl _ _ _, ?_⟩
        exact PEnds5.of H.out hD hx.out
      · have H := hide (show mWrite st n (a' : Int) t = (setNode (tick st) sp.n (wroteNd x a' t), (t.size : Int), 0) by
          unfold mWrite
          rw [if_pos he, if_neg ha0, if_neg (by omega), hf]
          simp only
          rw [hi]
          simp only
          rw [hno, hxn]
          simp only [Int.toNat_natCast])
        have Hx := hide hxn
        have hS := hide hS
        have HFI := hide FI
        unfold FWrote at HR
        simp only [if_neg hb] at HR
        clear he hf hi hm hne hsp hxn ev em hsrc1 hap1 FI hb
        go_wp2_with (first | (go_at_call 50; refine HO.out.mono ?_; rintro e w' ⟨rfl, hw⟩; obtain rfl := hw.symm) | (go_at_call 52; refine HR.out.mono ?_; rintro e w2 ⟨rfl, v', hf2, hw2⟩; have HF2 := hide hf2; have HW2 := hide hw2; clear hf2 hw2))
        have hS2 := hS.out.rewrite (F' := ext (ext F w w1) w1 w2) Hx.out hxd (wrote_same x a' t) (fun k hk => .inl hk) HF2.out HW2.out
        have hz := HW2.out.size
        have hz1 := hx.out.size
        have hD : Held w2 (ext F w w2) s (setNode (tick st) sp.n (wroteNd x a' t)) := ⟨tt, L, _, hS2.mono (fun k hk => by
          rcases hk with (q | q) | q
          · exact .inl q
          · exact .inr ⟨q.1, by omega⟩
          · exact .inr ⟨by omega, q.2⟩)⟩
        have hx2 : Ext F w w2 := by
          have e2 : Ext (ext F w w1) w1 w2 := HW2.out.ext HFI.out.blk.own HFI.out.data.2.2
          exact ⟨e2.os.trans hx.out.os, e2.tape.trans hx.out.tape, e2.output.trans hx.out.output, by omega, fun k hk hF => (e2.block k (by omega) (fun q => by rcases q with q | q; exact hF q; omega)).trans (hx.out.block k hk hF)⟩
        refine leaves_cons (f := 43) (args := #[.pointer (some ⟨s, 0, none⟩)]) (by simp) (by simp [go_sem]) ?_
        refine (leave_deferred .returning hD).mono ?_
        rintro e u' w'' ⟨rfl, rfl, rfl⟩
        refine ⟨_, results_tmp2 rfl _ _ _, ?_⟩
        exact PEnds5.of H.out hD hx2
  · have H := hide (mWrite_bad (a := a) (t := t) he)
    have q1 : (mFile st (find st n) != 0) = true := by simpa using he
    have q2 : (mFile st (find st n) == 0) = false := by simpa using he
    have hS := hide hS
    clear he em hsrc1 hap1
    go_wp2_with (go_at_call 50; refine HO.out.mono ?_; rintro e w' ⟨rfl, hw⟩; obtain rfl := hw.symm)
    have hD : Held w1 (ext F w w1) s (tick st) := ⟨tt, L, bv, hS.out⟩
    refine leaves_cons (f := 43) (args := #[.pointer (some ⟨s, 0, none⟩)]) (by simp) (by simp [go_sem]) ?_
    refine (leave_deferred .returning hD).mono ?_
    rintro e u' w'' ⟨rfl, rfl, rfl⟩
    refine ⟨_, results_tmp2 rfl _ _ _, ?_⟩
    exact PEnds5.of H.out hD hx.out
end Go.Proofs.YtdmdgnghaceibaaGreat.P
