/- 'seen' of the laws without the document's answer. -/
import Derived.Test.YtdmdgnghaceibaaGreatPart11
import Derived.Deep.RegionHeld3
import Derived.Test.YtdmdgnghaceibaaGreatRows
import Derived.Conc.HoldsTime
import Derived.Handed
import Derived.SizedLaws
import Derived.OpenShut
import Derived.Test.YtdmdgnghaceibaaGreatPart02
import Derived.Deep.Strs
import Derived.Carry
namespace Go.Proofs.YtdmdgnghaceibaaGreat.P
open M Go.ChangeShapes Go.WideShapes Go.ChangeAt Go.RowKit
set_option linter.unusedVariables false

/-- Numbers in memory. -/
def IntsApart (w : World) (X : Nat → Prop) (ao : Option Addr) (l : List Nat) : Prop := ∀ (i m : Nat), l[i]? = some m → ∃ nb no, ao = some ⟨nb, no, none⟩ ∧ w.cell? ⟨nb, no + i, none⟩ = some (.int .i64 m) ∧ ¬ X nb
theorem IntsApart.ext {w w' : World} {X : Nat → Prop} {ao : Option Addr} {l : List Nat} (h : IntsApart w X ao l) (hx : Ext X w w') : IntsApart w' X ao l := by
  intro i m hi
  obtain ⟨nb, no, h1, h2, h3⟩ := h i m hi
  exact ⟨nb, no, h1, ext_cell hx h3 h2, h3⟩
theorem IntsApart.less {w : World} {X Y : Nat → Prop} {ao : Option Addr} {l : List Nat} (h : IntsApart w X ao l) (hX : ∀ k, Y k → X k) : IntsApart w Y ao l := by
  intro i m hi
  obtain ⟨nb, no, h1, h2, h3⟩ := h i m hi
  exact ⟨nb, no, h1, h2, fun q => h3 (hX _ q)⟩

/-- 'onto' is node 2, its row is R: these directories. -/
structure OvOk (st : St) (row : List Dn) (R : List Member) : Prop where
  k : KOk st
  z : Zero st
  onto : M.lies st 0 ontoN = some 2
  dir : isDir st 2 = true
  rowR : rowOf st 2 = R
  lain : Lain st row R
  short : ∀ x ∈ row, x.nm.size ≤ 12
  few : row.length ≤ 6 ∧ ∀ x ∈ row, x.m < 256
theorem OvOk.counted {st : St} {row : List Dn} {R : List Member} (h : OvOk st row R) (c : Int) : OvOk (counted st c) row R :=
  ⟨h.k.counted c, h.z.same rfl, h.onto, h.dir, h.rowR, ⟨h.lain.same, h.lain.live, fun x hx => ⟨(h.lain.filled x hx).names, (h.lain.filled x hx).there⟩⟩, h.short, h.few⟩
theorem counted_twice (st : St) (c d : Int) : P.counted (P.counted st c) d = P.counted st d := rfl

section
variable {w : World} {X : Nat → Prop} {s : Nat} {st : St} {row : List Dn} {R : List Member}
theorem OvOk.step (o : OvOk st row R) : wayStep st W0 ontoN = (0, W0 ++ [⟨2, R⟩]) := by
  obtain ⟨hrg, hrd⟩ := root_live o.k.tree
  rw [wayStep_in (sp := ⟨0, [⟨0, true⟩]⟩) (c := 2) isName_onto W0_last hrg hrd ((seen_one 0 ontoN hrg).trans o.onto)]
  unfold come
  rw [o.dir, o.rowR]
  rfl
theorem ov_told (h : KSrv w X s st) (o : OvOk st row R) {i k : Nat} {x : Dn} (hi : row[i]? = some x) (hk : k < 8) (hb : bit x.m k = true) (ht : toldBy (row.take i) k = false) :
    Calls Tryz.prog 38 #[.pointer (some ⟨s, 0, none⟩), .slice (some ⟨w.heap.size, 0, none⟩) 2 2] (w.alloc (.cells #[.string ⟨#[111, 110, 116, 111]⟩, .string (letterB k)] 9)) fun e w' => ToldEnds w X s st (x.nm ++ letterB k) e w' := by
  obtain ⟨c, y, q1, q2, q3, q4, q5⟩ := lain_some hk o.lain hi hb ht
  have hgo := go2 o.step (wayStep_in (sp := ⟨2, R⟩) (c := c) (isName_letter hk) (last_snoc _ _) (lies_live2 o.onto) o.dir q1)
  have := ktold2 ontoN (letterB k) 2 _ (come st c) y h o.k o.z isName_onto (isName_letter hk) hgo (last_snoc _ _) q2 q4 q3
  rw [q5] at this
  exact this
theorem ov_none (h : KSrv w X s st) (o : OvOk st row R) {k : Nat} (hk : k < 8) (ht : toldBy row k = false) :
    Calls Tryz.prog 38 #[.pointer (some ⟨s, 0, none⟩), .slice (some ⟨w.heap.size, 0, none⟩) 2 2] (w.alloc (.cells #[.string ⟨#[111, 110, 116, 111]⟩, .string (letterB k)] 9)) fun e w' => ToldEnds w X s st ⟨#[63]⟩ e w' := by
  have hgo := go2_no o.step (wayStep_none (sp := ⟨2, R⟩) (isName_letter hk) (last_snoc _ _) (lies_live2 o.onto) o.dir (lain_none hk o.lain ht)) (by decide)
  exact ktold2_none ontoN (letterB k) 2 _ _ _ h o.k o.z isName_onto (isName_letter hk) hgo (by decide)
theorem ov_listed (h : KSrv w X s st) (o : OvOk st row R) : Calls Tryz.prog 37 #[.pointer (some ⟨s, 0, none⟩), .string ⟨#[111, 110, 116, 111]⟩] w fun e w' => ListedEnds w X s st (listUpto st R R.length) e w' :=
  klisted_any ontoN ⟨2, R⟩ h o.k o.z isName_onto o.step (lies_live2 o.onto) o.dir

theorem list_short (o : OvOk st row R) : (listUpto st R R.length).length ≤ 100000 ∧ ∀ s ∈ listUpto st R R.length, s.size ≤ 12 := by
  refine ⟨Nat.le_trans (listUpto_few o.k.ok R R.length (Nat.le_refl _)) (by decide), fun s hs => ?_⟩
  have h := (mem_listUpto st R s _ (Nat.le_refl _)).1 hs
  have := seenIn_live h
  unfold liveNames at this
  obtain ⟨x, hx, rfl⟩ := List.mem_map.1 this
  exact o.k.ok.names x ((List.mem_filter.1 hx).1)

/-- How 'seen' ends. -/
def SeenEnds (w : World) (X : Nat → Prop) (s : Nat) (st : St) (e : Ending) (w' : World) : Prop := e = .returned (.bool true) ∧ ∃ c, KSrv w' X s (P.counted st c) ∧ Ext X w w'
end
end Go.Proofs.YtdmdgnghaceibaaGreat.P
/- 'seen' walked. -/
namespace Go.Proofs.YtdmdgnghaceibaaGreat.P
open M Go.ChangeShapes Go.WideShapes Go.ChangeAt Go.RowKit
set_option linter.unusedVariables false

theorem told_wrap2 {T q : Nat} (hT : T < 256) (hq : q ≤ 128) : wrap64 ((T : Int) + wrap64 (q : Int)) = ((T + q : Nat) : Int) := by
  unfold wrap64
  omega
theorem told_wrap {T k : Nat} (hT : T < 256) (hp : 2 ^ k ≤ 128) : wrap64 ((T : Int) + wrap64 (2 ^ k)) = ((T + 2 ^ k : Nat) : Int) := by
  have := told_wrap2 hT hp
  rw [← this]
  simp

set_option maxRecDepth 100000 in
set_option maxHeartbeats 4000000 in
theorem kseen_any {w : World} {X : Nat → Prop} {s : Nat} {st : St} {row : List Dn} {R : List Member} (ro mo : Option Addr) (rc mc : Nat) (h : KSrv w X s st) (o : OvOk st row R) (hrow : NamesApart w X ro (row.map Dn.nm)) (hms : IntsApart w X mo (row.map Dn.m)) :
    Calls Tryz.prog 40 #[.pointer (some ⟨s, 0, none⟩), .slice ro row.length rc, .slice mo row.length mc] w fun e w' => SeenEnds w X s st e w' := by
  have O := hide o
  have HO := hide (ov_listed h o)
  have HLs := hide (list_short o)
  have hlen := (list_short o).1
  have HAt := hide (fun (i k : Nat) (x : Dn) hi hk hb ht => lain_at (st := st) (R := R) o.lain (i := i) (k := k) (x := x) hi hk hb ht)
  have HEnd := hide (fun m => toldLen_end o.lain m)
  have HNext := hide (fun (i : Nat) (x : Dn) (hi : row[i]? = some x) m => toldLen_next o.lain hi m)
  have HR := hide hrow
  have HM := hide hms
  have hfew := o.few.1
  have HGet := hide (fun (i : Nat) (hi : i < row.length) => getElem?_of_lt hi)
  obtain ⟨L, hL⟩ : ∃ L, listUpto st R R.length = L := ⟨_, rfl⟩
  rw [hL] at HO HLs hlen HAt HEnd
  clear h o hrow hms hL
  go_enter Tryz.func40, Tryz.ntmps40
  go_wp2_with fail
  refine HO.out.mono ?_
  rintro e w1 ⟨ao, ac, rfl, t1, o1, ⟨c1, h1⟩, hx1⟩
  have N1 : NamesApart w1 (fun k => X k ∧ (Value.slice ao L.length ac).ownBlock ≠ some k) ao L :=
    ⟨namesAt_own t1 (by unfold maxLen; omega) (fun s hs => by have := HLs.out.2 s hs; unfold maxLen; omega), fun a ha _ q => by subst ha; exact q.2 rfl⟩
  obtain ⟨Y, hY⟩ : ∃ Y : Nat → Prop, Y = (fun k => X k ∧ (Value.slice ao L.length ac).ownBlock ≠ some k) := ⟨_, rfl⟩
  rw [← hY] at N1 h1
  have HYX := hide (show ∀ k, Y k → X k from fun k hk => by rw [hY] at hk; exact hk.1)
  have HN1 := hide N1
  have G1 := hide h1
  have HX1 := hide hx1
  have HR1 := hide ((HR.out.ext hx1).less HYX.out)
  have HM1 := hide ((HM.out.ext hx1).less HYX.out)
  clear h1 hx1 N1 hY t1 o1
  go_wp2
  go_loopw [9, 10, 11] (fun a t i wr => ∃ (j T : Nat) (c : Int), j ≤ row.length ∧ a = .int .i64 (toldLen st row R j 0 0) ∧ t = .int .i64 T ∧ i = .int .i64 j ∧ BitsTold row j 0 0 T ∧ KSrv wr Y s (P.counted st c) ∧ Ext Y w1 wr) (fun _ _ i _ => row.length - (intOf i).toNat)
  case atStart => exact ⟨0, 0, c1, Nat.zero_le _, by simp [toldLen, listUpto, newsTo], rfl, rfl, bits_first _ _, G1.out, Ext.refl _ _⟩
  case round =>
    obtain ⟨j, T, c, hj, rfl, rfl, rfl, hT, hs, hx⟩ := hrel
    have HT := hide hT
    have HS := hide hs
    have HX := hide hx
    clear hT hs hx
    by_cases hlt : j < row.length
    · have hlt' : (j : Int) < (row.length : Int) := by omega
      obtain ⟨x, hi⟩ := HGet.out j hlt
      have Hi := hide hi
      clear hi
      obtain ⟨mb, mf, rfl, hm0, hmY⟩ := HM1.out j x.m (by rw [List.getElem?_map, Hi.out]; rfl)
      obtain ⟨_, rb, rf, rfl, hr0⟩ := HR1.out.1.2 j x.nm (by rw [List.getElem?_map, Hi.out]; rfl)
      have hrY : ¬ Y rb := HR1.out.2 _ rfl (List.ne_nil_of_length_pos (by rw [List.length_map]; omega))
      have HMc := hide hm0
      have HRc := hide hr0
      have HmY := hide hmY
      have HrY := hide hrY
      have j0 : (0 : Int) ≤ (j : Int) := by omega
      have hxs : x.nm.size ≤ 12 := O.out.short x (List.mem_of_getElem? Hi.out)
      have Hxm := hide (O.out.few.2 x (List.mem_of_getElem? Hi.out))
      have HTx := hide (show BitsTold row j x.m 0 T from ⟨HT.out.1, fun k hk => by rw [HT.out.2 k hk]; simp⟩)
      have Hl0 := hide (show toldLen st row R j 0 0 = toldLen st row R j x.m 0 by simp [toldLen, newsTo])
      clear hm0 hr0 hmY hrY
      go_wp2
      obtain ⟨wo, hwo⟩ : ∃ wo, wo = wr := ⟨_, rfl⟩
      have HS' := hide (show KSrv wo Y s (P.counted st c) by rw [hwo]; exact HS.out)
      go_loopw [9, 10, 12] (fun a t i wr2 => ∃ (k T2 : Nat) (c2 : Int), k ≤ 8 ∧ a = .int .i64 (toldLen st row R j x.m k) ∧ t = .int .i64 T2 ∧ i = .int .i64 k ∧ BitsTold row j x.m k T2 ∧ KSrv wr2 Y s (P.counted st c2) ∧ Ext Y w1 wr2) (fun _ _ i _ => 8 - (intOf i).toNat)
      case atStart => exact ⟨0, T, c, by omega, by rw [Hl0.out], rfl, rfl, HTx.out, HS.out, HX.out⟩
      case round =>
        obtain ⟨k, T2, c2, hk, rfl, rfl, rfl, hT2, hs2, hx2⟩ := hrel
        have HT2 := hide hT2
        have HS2 := hide hs2
        have HX2 := hide hx2
        clear hT2 hs2 hx2
        by_cases hk8 : k < 8
        · have hk' : (k : Int) < 8 := by omega
          have k0 : ¬ (k : Int) < 0 := by omega
          have m1 := ext_cell HX2.out HmY.out HMc.out
          have r1 := ext_cell HX2.out HrY.out HRc.out
          have sh1 := bit_shift x.m k
          have sh2 := bit_shift T2 k
          have hT256 := HT2.out.1
          cases hbm : bit x.m k with
          | false =>
            rw [hbm] at sh1
            have sh1' : ((x.m : Int) / 2 ^ k).tmod 2 = 0 := sh1
            have Hbm := hide hbm
            clear sh1 hbm sh2
            go_wp2_with fail
            exact ⟨⟨k + 1, T2, c2, by omega, by rw [HT2.out.skip_len hk8 (.inl Hbm.out)], rfl, by go_num, HT2.out.skip hk8 (.inl Hbm.out), HS2.out, HX2.out⟩, by simp [intOf]; omega⟩
          | true =>
            rw [hbm] at sh1
            have sh1' : ((x.m : Int) / 2 ^ k).tmod 2 = 1 := sh1
            have Hbm := hide hbm
            cases hbT : bit T2 k with
            | true =>
              rw [hbT] at sh2
              have sh2' : ((T2 : Int) / 2 ^ k).tmod 2 = 1 := sh2
              have HbT := hide hbT
              clear sh1 hbm sh2 hbT
              go_wp2_with fail
              exact ⟨⟨k + 1, T2, c2, by omega, by rw [HT2.out.skip_len hk8 (.inr HbT.out)], rfl, by go_num, HT2.out.skip hk8 (.inr HbT.out), HS2.out, HX2.out⟩, by simp [intOf]; omega⟩
            | false =>
              rw [hbT] at sh2
              have sh2' : ((T2 : Int) / 2 ^ k).tmod 2 = 0 := sh2
              have hnt := HT2.out.none hk8 hbT
              have hLa := HAt.out j k x Hi.out hk8 hbm hnt
              have HPut := hide (HT2.out.put hk8 hbm hbT)
              have HPl := hide (HT2.out.put_len (st := st) (R := R) hk8 hbm hbT)
              have HTo := hide (fun (wx : World) (hx : KSrv wx Y s (P.counted st c2)) => ov_told hx (O.out.counted c2) Hi.out hk8 hbm hnt)
              obtain ⟨A, hA⟩ : ∃ A, toldLen st row R j x.m k = A := ⟨_, rfl⟩
              rw [hA] at hLa HPl
              rw [hA]
              have hAl : A < L.length := M.lt_of_getElem? hLa
              obtain ⟨_, lb, lf, rfl, hl0⟩ := HN1.out.1.2 A _ hLa
              have hlY : ¬ Y lb := HN1.out.2 _ rfl (List.ne_nil_of_length_pos (by omega))
              have l1 := ext_cell HX2.out hlY hl0
              have a1 : ¬ ((A : Int) ≥ (L.length : Int)) := by omega
              have a2 : (A : Int) < (L.length : Int) := by omega
              have a3 : (0 : Int) ≤ (A : Int) := by omega
              have a5 : ¬ L.length ≤ A := by omega
              have a6 : decide (L.length ≤ A) = false := decide_eq_false a5
              have a4 : ¬ ((L.length : Int) ≤ (A : Int)) := by omega
              have fc : ((letterB k).toList == (letterB k).toList) = true := by simp
              have fd : ((letterB k).toList != (letterB k).toList) = false := by simp
              have hp : 2 ^ k ≤ 128 := by
                have : (2 : Nat) ^ k ≤ 2 ^ 7 := Nat.pow_le_pow_right (by omega) (by omega)
                omega
              have hw := told_wrap hT256 hp
              have HlY := hide hlY
              have Hl0 := hide hl0
              have hcat : x.nm.size + (letterB k).size ≤ 9223372036854775807 := by have : (letterB k).size = 1 := rfl; omega
              have hcat' : (x.nm.size : Int) + ((letterB k).size : Int) ≤ 9223372036854775807 := by omega
              clear sh1 hbm sh2 hbT hnt hLa hA hl0 hlY
              go_wp2_with fail
              clear m1 r1 sh1' sh2' hw
              go_region_held3 (fun ww => ww.cell? ⟨lb, lf + A, none⟩ = some (.string (letterB k))) (go_keep) (first | (go_at_call 34; refine (letter_of k hk8).mono ?_; rintro e v1 ⟨rfl, hb1⟩; have HS3 := hide (KSrv.below (w2 := v1) (HS2.out.below ((Below.refl _ wr).drew)) hb1); have HX3 := hide (HX2.out.trans' (((Ext.refl Y wr).drew).trans' (Ext.below hb1))); have l2 := ext_cell HX3.out HlY.out Hl0.out; clear hb1))
              all_goals go_wp2_with fail
              all_goals
                refine (letter_of k hk8).mono ?_
                rintro e v2 ⟨rfl, hb2⟩
                have HS4 := hide (HS3.out.below hb2)
                have HX4 := hide (HX3.out.trans' (Ext.below hb2))
                clear hb2 l2
                go_wp2_with fail
                refine (HTo.out _ HS4.out).mono ?_
                rintro e v3 ⟨rfl, c3, h3, hx3⟩
                have HS5 := hide (show KSrv v3 Y s (P.counted st c3) from h3)
                have HX5 := hide (HX4.out.trans' hx3)
                have r3 := ext_cell HX5.out HrY.out HRc.out
                have fe : ((x.nm ++ letterB k).toList == (x.nm ++ letterB k).toList) = true := by simp
                have ff : ((x.nm ++ letterB k).toList != (x.nm ++ letterB k).toList) = false := by simp
                clear h3 hx3
                obtain ⟨xn, hxn⟩ : ∃ xn, x.nm = xn := ⟨_, rfl⟩
                rw [hxn] at r3 fe ff hcat hcat' hxs HRc ⊢
                have HLt := hide (fun w1 => letter_of (w := w1) k hk8)
                obtain ⟨lk, hlk⟩ : ∃ lk, letterB k = lk := ⟨_, rfl⟩
                rw [hlk] at HLt fe ff hcat hcat' ⊢
                clear hxn a1 a2 a3 a4 a5 a6 fc fd l1
                clear hlk
                go_wp2_with fail
                go_region_with (first | (go_at_call 34; refine (HLt.out _).mono ?_; rintro e v4 ⟨rfl, hb4⟩; have HS6 := hide (KSrv.below (w2 := v4) (HS5.out.below ((Below.refl _ v3).drew)) hb4); have HX6 := hide (HX5.out.trans' (((Ext.refl Y v3).drew).trans' (Ext.below hb4))); have r4 := ext_cell HX6.out HrY.out HRc.out; clear hb4))
                all_goals go_wp2_with fail
                all_goals exact ⟨⟨k + 1, T2 + 2 ^ k, c3, by omega, by rw [HPl.out]; go_num, by simp, by go_num, HPut.out, HS6.out, HX6.out⟩, by simp [intOf]; omega⟩
        · have hk9 : ¬ (k : Int) < 8 := by omega
          obtain rfl : k = 8 := by omega
          go_wp2_with fail
          exact ⟨⟨j + 1, T2, c2, by omega, by rw [HNext.out j x Hi.out 0], rfl, by go_num, HT2.out.next Hi.out rfl 0, HS2.out, HX2.out⟩, by simp [intOf]; omega⟩
    · have hge : ¬ (j : Int) < (row.length : Int) := by omega
      obtain rfl : j = row.length := by omega
      have HEn := hide (HEnd.out 0)
      go_wp2
      go_loopw [14] (fun i wr2 => ∃ (k : Nat) (c2 : Int), k ≤ 8 ∧ i = .int .i64 k ∧ KSrv wr2 Y s (P.counted st c2) ∧ Ext Y w1 wr2) (fun i _ => 8 - (intOf i).toNat)
      case atStart => exact ⟨0, c, by omega, rfl, HS.out, HX.out⟩
      case round =>
        obtain ⟨k, c2, hk, rfl, hs2, hx2⟩ := hrel
        have HS2 := hide hs2
        have HX2 := hide hx2
        clear hs2 hx2
        by_cases hk8 : k < 8
        · have hk' : (k : Int) < 8 := by omega
          have k0 : ¬ (k : Int) < 0 := by omega
          have sh2 := bit_shift T k
          cases hbT : bit T k with
          | true =>
            rw [hbT] at sh2
            have sh2' : ((T : Int) / 2 ^ k).tmod 2 = 1 := sh2
            clear sh2 hbT
            go_wp2_with fail
            exact ⟨⟨k + 1, c2, by omega, by go_num, HS2.out, HX2.out⟩, by simp [intOf]; omega⟩
          | false =>
            rw [hbT] at sh2
            have sh2' : ((T : Int) / 2 ^ k).tmod 2 = 0 := sh2
            have hnt := HT.out.none hk8 hbT
            rw [List.take_length] at hnt
            have HTo := hide (fun (wx : World) (hx : KSrv wx Y s (P.counted st c2)) => ov_none hx (O.out.counted c2) hk8 hnt)
            clear sh2 hbT hnt
            go_wp2_with fail
            refine (letter_of k hk8).mono ?_
            rintro e v2 ⟨rfl, hb2⟩
            have HS4 := hide (HS2.out.below hb2)
            have HX4 := hide (HX2.out.trans' (Ext.below hb2))
            clear hb2
            go_wp2_with fail
            refine (HTo.out _ HS4.out).mono ?_
            rintro e v3 ⟨rfl, c3, h3, hx3⟩
            have HS5 := hide (show KSrv v3 Y s (P.counted st c3) from h3)
            have HX5 := hide (HX4.out.trans' hx3)
            clear h3 hx3
            go_wp2_with fail
            exact ⟨⟨k + 1, c3, by omega, by go_num, HS5.out, HX5.out⟩, by simp [intOf]; omega⟩
        · have hk9 : ¬ (k : Int) < 8 := by omega
          rw [HEn.out]
          go_wp2
          go_ret
          exact ⟨by simp, c2, HS2.out.more HYX.out, HX1.out.trans' (HX2.out.weak (X := X) HYX.out)⟩
end Go.Proofs.YtdmdgnghaceibaaGreat.P
/- The calls of 'Over', each at its state. -/
namespace Go.Proofs.YtdmdgnghaceibaaGreat.P
open M Go.ChangeShapes Go.WideShapes Go.ChangeAt Go.RowKit
set_option linter.unusedVariables false

/-- The names of the directories that are laid on. -/
def dN (i : Nat) : ByteArray := ⟨#[100, UInt8.ofNat (48 + i)]⟩
theorem isName_dN {i : Nat} (h : i < 5) : isName (dN i) = true := by
  have : ∀ k : Fin 5, isName (dN k.val) = true := by decide +kernel
  exact this ⟨i, h⟩
theorem dN_ne {i j : Nat} (hi : i < 5) (hj : j < 5) (h : i ≠ j) : (dN i).toList ≠ (dN j).toList := by
  have : ∀ a b : Fin 5, a.val ≠ b.val → (dN a.val).data.toList ≠ (dN b.val).data.toList := by decide +kernel
  rw [ByteArray.toList_eq, ByteArray.toList_eq]
  exact this ⟨i, hi⟩ ⟨j, hj⟩ h

theorem Grew.made (st : St) (nm : ByteArray) (c : Int) : Grew st (P.made st (newNd nm true 0) c) 0 1 :=
  ⟨⟨[newNd nm true 0], rfl, by simp [newNd], by simp⟩, rfl, rfl⟩
theorem Grew.lies_some {st st' : St} {d n i c : Nat} {s : ByteArray} (g : Grew st st' d n) (h : M.lies st i s = some c) : M.lies st' i s = some c := by
  obtain ⟨⟨l, e, _⟩, _⟩ := g
  unfold M.lies at h ⊢
  rw [e, List.findIdx?_append, h]
  rfl
theorem Grew.gone {st st' : St} {d n i : Nat} (g : Grew st st' d n) (h : i < st.nodes.length) : isGone st' i = isGone st i := by
  obtain ⟨x, hx⟩ := getElem?_of_lt h
  unfold isGone
  rw [hx, g.node hx]

/-- The state of 'Over': onto's row, its own files, which names are still new, how many nodes. -/
structure OvIn (st : St) (fids : List Fid) (row : List Dn) (R : List Member) (ma i n q : Nat) : Prop where
  o : OvOk st row R
  fids : st.fids = fids
  own : Filled st ontoN 2 ma 8
  live : liveNodes st.nodes ≤ q
  len : st.nodes.length ≤ q + 1
  new : ∀ j, i ≤ j → j < 5 → M.lies st 0 (dN j) = none
  low : ∀ x ∈ row, x.d < st.nodes.length ∧ x.d ≠ 0
  much : row.length ≤ n
def Lo (st : St) : Prop := (st.laid.find? (fun l => l.onto == 2)).isSome = true

section
variable {st st' : St} {fids : List Fid} {row : List Dn} {R : List Member} {ma i n q : Nat}
theorem Lain.grew {e m : Nat} (h : Lain st row R) (g : Grew st st' e m) (hlow : ∀ x ∈ row, x.d < st.nodes.length) (hne : ∀ x ∈ row, x.d ≠ e) : Lain st' row R :=
  ⟨h.same, fun x hx => by rw [g.gone (hlow x hx)]; exact h.live x hx, fun x hx => (h.filled x hx).grew g (hne x hx)⟩
theorem OvOk.grew {e m : Nat} (o : OvOk st row R) (g : Grew st st' e m) (k : KOk st') (hlow : ∀ x ∈ row, x.d < st.nodes.length) (hne : ∀ x ∈ row, x.d ≠ e) : OvOk st' row R :=
  ⟨k, o.z.same g.fids, g.lies_some o.onto, g.isDir o.dir, by rw [row_same g.laid]; exact o.rowR, o.lain.grew g hlow hne, o.short, o.few⟩
theorem OvIn.grew {e m i' q' : Nat} (h : OvIn st fids row R ma i n q) (g : Grew st st' e m) (k : KOk st') (h2 : e ≠ 2) (hne : ∀ x ∈ row, x.d ≠ e) (hq : q + m ≤ q') (hnew : ∀ j, i' ≤ j → j < 5 → M.lies st' 0 (dN j) = none) : OvIn st' fids row R ma i' n q' :=
  ⟨h.o.grew g k (fun x hx => (h.low x hx).1) hne, g.fids.trans h.fids, h.own.grew g (fun q => h2 q.symm), by have := g.live; have := h.live; omega, by have := g.len; have := h.len; omega, hnew, fun x hx => ⟨by have := (h.low x hx).1; have := g.len; omega, (h.low x hx).2⟩, h.much⟩
/-- A step that turns no node and no row. -/
theorem OvIn.same {fids' : List Fid} (h : OvIn st fids row R ma i n q) (k : KOk st') (hf : st'.fids = fids') (z : Zero st') (hn : st'.nodes = st.nodes) (hl : st'.laid = st.laid) : OvIn st' fids' row R ma i n q := by
  have g : Grew st { st' with fids := st.fids } 1 0 := ⟨⟨[], by simp [hn], by simp, by simp⟩, hl, rfl⟩
  have f : ∀ {nm : ByteArray} {d m : Nat}, Filled st nm d m 8 → Filled st' nm d m 8 := fun h => by
    obtain ⟨a, b, c, d⟩ := st
    obtain ⟨a', b', c', d'⟩ := st'
    simp only at hn
    subst hn
    exact ⟨h.names, h.there⟩
  refine ⟨⟨k, z, ?_, ?_, by rw [row_same hl]; exact h.o.rowR, ⟨h.o.lain.same, fun x hx => ?_, fun x hx => f (h.o.lain.filled x hx)⟩, h.o.short, h.o.few⟩, hf, f h.own, by rw [hn]; exact h.live, by rw [hn]; exact h.len, fun j h1 h2 => ?_, by rw [hn]; exact h.low, h.much⟩
  · unfold M.lies; rw [hn]; exact h.o.onto
  · unfold isDir; rw [hn]; exact h.o.dir
  · unfold isGone; rw [hn]; exact h.o.lain.live x hx
  · unfold M.lies; rw [hn]; exact h.new j h1 h2
end

def B3 (R : List Member) : Fid := ⟨3, W0 ++ [⟨2, R⟩], false⟩
def fidsK (k b : Nat) (R : List Member) : List Fid := match k with | 0 => [f0] | 1 => [f0, A2 b] | _ => [f0, A2 b, B3 R]
def Spelt (row : List Dn) (ns : List ByteArray) (ms : List Nat) : Prop := row.map Dn.nm = ns ∧ row.map Dn.m = ms
/-- Between the turns. -/
def KV1 (w : World) (X : Nat → Prop) (s : Nat) (ns : List ByteArray) (ms : List Nat) (ma i : Nat) : Prop :=
  ∃ st row R, KSrv w X s st ∧ OvIn st [f0] row R ma i (i + 1) (10 + 9 * i) ∧ (0 < i → Lo st) ∧ Spelt row ns ms
/-- The next directory is there, empty. -/
def KV2 (w : World) (X : Nat → Prop) (s : Nat) (ns : List ByteArray) (ms : List Nat) (ma i : Nat) : Prop :=
  ∃ st row R b, KSrv w X s st ∧ OvIn st [f0] row R ma (i + 1) (i + 1) (11 + 9 * i) ∧ DirAt st (dN i) b ∧ namesOf st b = [] ∧ b ≠ 2 ∧ b ≠ 0 ∧ b < st.nodes.length ∧ (∀ x ∈ row, x.d ≠ b) ∧ Spelt row ns ms
/-- It has its files. -/
def KV3 (k : Nat) (w : World) (X : Nat → Prop) (s : Nat) (ns : List ByteArray) (ms : List Nat) (ma i m : Nat) : Prop :=
  ∃ st row R b, KSrv w X s st ∧ OvIn st (fidsK k b R) row R ma (i + 1) (i + 1) (19 + 9 * i) ∧ DirAt st (dN i) b ∧ Filled st (dN i) b m 8 ∧ b ≠ 2 ∧ b ≠ 0 ∧ b < st.nodes.length ∧ (∀ x ∈ row, x.d ≠ b) ∧ Spelt row ns ms
/-- It is laid. -/
def KV4 (k : Nat) (w : World) (X : Nat → Prop) (s : Nat) (ns : List ByteArray) (ms : List Nat) (ma i : Nat) : Prop :=
  ∃ st row R b R0, KSrv w X s st ∧ OvIn st (if k = 0 then [f0, A2 b, B3 R0] else [f0, B3 R0]) row R ma (i + 1) (i + 2) (19 + 9 * i) ∧ Lo st ∧ Spelt row ns ms
/-- The names (or masks) as the Bind makes them. -/
def newRow {α : Type} (q : Nat) (x : α) (l : List α) : List α := if q = 0 then [x] else if q = 1 then x :: l else l ++ [x]
theorem newRow_map {α β : Type} (f : α → β) (q : Nat) (x : α) (l : List α) : (newRow q x l).map f = newRow q (f x) (l.map f) := by
  unfold newRow
  split
  · rfl
  · split
    · rfl
    · simp
theorem mem_newRow {α : Type} {q : Nat} {x y : α} {l : List α} (h : y ∈ newRow q x l) : y = x ∨ y ∈ l := by
  unfold newRow at h
  split at h
  · simp at h; exact .inl h
  · split at h
    · rcases List.mem_cons.1 h with h | h
      · exact .inl h
      · exact .inr h
    · rcases List.mem_append.1 h with h | h
      · exact .inr h
      · simp at h; exact .inl h
theorem len_newRow {α : Type} (q : Nat) (x : α) (l : List α) : 0 < (newRow q x l).length ∧ (newRow q x l).length ≤ l.length + 1 := by
  unfold newRow
  split
  · simp
  · split <;> simp

section
variable {w : World} {X : Nat → Prop} {s : Nat} {ns : List ByteArray} {ms : List Nat} {ma i : Nat}

theorem KV1.below {w2 : World} (h : KV1 w X s ns ms ma i) (hb : Below w.heap.size w w2) : KV1 w2 X s ns ms ma i := by
  obtain ⟨st, row, R, h, r⟩ := h
  exact ⟨st, row, R, h.below hb, r⟩

theorem ov_dir (h : KV1 w X s ns ms ma i) (hi : i < 5) : Calls Tryz.prog 35 #[.pointer (some ⟨s, 0, none⟩), .string (dN i)] w fun e w' => KE1 (fun w' => KV2 w' X s ns ms ma i) w X e w' := by
  obtain ⟨st, row, R, h, o, _, sp⟩ := h
  have hno := o.new i (Nat.le_refl _) hi
  refine (kdir_any (dN i) h o.o.k o.o.z (isName_dN hi) hno (by have := o.live; omega) (by have := o.len; omega)).mono ?_
  rintro e w' ⟨rfl, c, h', k', hx⟩
  have g := Grew.made st (dN i) c
  have hdir := isDir_lt o.o.dir
  have hb : isDir (made st (newNd (dN i) true 0) c) st.nodes.length = true := by unfold isDir made; simp [newNd]
  refine ⟨rfl, ⟨_, row, R, st.nodes.length, h', o.grew g k' (by decide) (fun x hx => (o.low x hx).2) (by omega) (fun j h1 h2 => ?_), ⟨isName_dN hi, ?_, hb, row_over o.o.k.ok c _⟩, names_new o.o.k.ok (dN i) c, by omega, by omega, isDir_lt hb, fun x hx => by have := (o.low x hx).1; omega, sp⟩, hx⟩
  · rw [lies_more, o.new j (by omega) h2]
    have hne := dN_ne hi h2 (by omega)
    have : liesHere 0 (dN j) (newNd (dN i) true 0) = false := by simp [liesHere, newNd, hne]
    rw [this]
    rfl
  · rw [lies_more, hno]
    simp [liesHere, newNd]
theorem ov_fill (c : Int) (hc : -9223372036854775808 ≤ c ∧ c ≤ 9223372036854775807) (h : KV2 w X s ns ms ma i) (hi : i < 5) : Calls Tryz.prog 39 #[.pointer (some ⟨s, 0, none⟩), .string (dN i), .int .i64 c] w fun e w' => KE1 (fun w' => KV3 0 w' X s ns ms ma i (mPick c 256)) w X e w' := by
  obtain ⟨st, row, R, b, h, o, hd, hn, hb2, hb0, hbl, hne, sp⟩ := h
  refine (kfill_any (dN i) b c hc h o.o.k o.o.z hd hb0 hn (by have := o.live; omega) (by have := o.len; omega)).mono ?_
  rintro e w' ⟨rfl, st', h', k', g, f, hx⟩
  exact ⟨rfl, ⟨st', row, R, b, h', o.grew g k' hb2 hne (by omega) (fun j h1 h2 => by rw [g.lies (fun q => hb0 q.symm)]; exact o.new j h1 h2), hd.grew g hb0, f, hb2, hb0, by have := g.len; omega, hne, sp⟩, hx⟩
theorem ov_w2 {m : Nat} (h : KV3 0 w X s ns ms ma i m) (hi : i < 5) : Calls Tryz.prog 14 #[.pointer (some ⟨s, 0, none⟩), .int .i64 0, .int .i64 2, .slice (some ⟨w.heap.size, 0, none⟩) 1 1] (w.alloc (.cells #[.string (dN i)] 9)) fun e w' => e = .returned (.tuple #[.int .i64 1, .int .i64 0]) ∧ KV3 1 w' X s ns ms ma i m ∧ Ext X w w' := by
  obtain ⟨st, row, R, b, h, o, hd, f, hb2, hb0, hbl, hne, sp⟩ := h
  have k := o.o.k
  have z := o.o.z
  have hf : st.fids = [f0] := o.fids
  obtain ⟨hrg, hrd⟩ := root_live k.tree
  have hstep : wayStep st W0 (dN i) = (0, W0 ++ [⟨b, [⟨b, true⟩]⟩]) := by
    rw [wayStep_in (sp := ⟨0, [⟨0, true⟩]⟩) (c := b) hd.nm W0_last hrg hrd ((seen_one 0 (dN i) hrg).trans hd.lies)]
    unfold come
    rw [hd.dir, hd.row]
    rfl
  have e : mWalk st 0 2 [dN i] = (withFid (tick st) (A2 b), 1, 0) := by
    rw [mWalk_new z.find z.get rfl rfl (by decide) (by decide) (by rw [find_fids hf]; rfl) (by simp) (by simp [nameBad_no hd.nm]), show f0.way = W0 from rfl, go1 hstep]
    rfl
  have k2 := k.walk 0 2 [dN i]
  have hc := k_walk1 0 2 (dN i) 1 h k.ok (by have := isName_size hd.nm; unfold maxLen; omega)
  rw [e] at hc k2
  have hf2 : (withFid (tick st) (A2 b)).fids = [f0, A2 b] := by simp only [withFid, tick, hf]; rfl
  refine hc.mono ?_
  rintro e w' ⟨rfl, h', hx⟩
  exact ⟨rfl, ⟨_, row, R, b, h', o.same k2 hf2 (zero_fids hf2 rfl) rfl rfl, ⟨hd.nm, hd.lies, hd.dir, hd.row⟩, ⟨f.names, f.there⟩, hb2, hb0, hbl, hne, sp⟩, hx⟩
theorem ov_w3 {m : Nat} (h : KV3 1 w X s ns ms ma i m) : Calls Tryz.prog 14 #[.pointer (some ⟨s, 0, none⟩), .int .i64 0, .int .i64 3, .slice (some ⟨w.heap.size, 0, none⟩) 1 1] (w.alloc (.cells #[.string ⟨#[111, 110, 116, 111]⟩] 9)) fun e w' => e = .returned (.tuple #[.int .i64 1, .int .i64 0]) ∧ KV3 2 w' X s ns ms ma i m ∧ Ext X w w' := by
  obtain ⟨st, row, R, b, h, o, hd, f, hb2, hb0, hbl, hne, sp⟩ := h
  have k := o.o.k
  have z := o.o.z
  have hf : st.fids = [f0, A2 b] := o.fids
  have e : mWalk st 0 3 [ontoN] = (withFid (tick st) (B3 R), 1, 0) := by
    rw [mWalk_new z.find z.get rfl rfl (by decide) (by decide) (by rw [find_fids hf]; rfl) (by simp) (by simp [nameBad_no isName_onto]), show f0.way = W0 from rfl, go1 o.o.step]
    rfl
  have k2 := k.walk 0 3 [ontoN]
  have hc := k_walk1 0 3 ontoN 1 h k.ok (by decide)
  rw [e] at hc k2
  have hf2 : (withFid (tick st) (B3 R)).fids = [f0, A2 b, B3 R] := by simp only [withFid, tick, hf]; rfl
  refine hc.mono ?_
  rintro e w' ⟨rfl, h', hx⟩
  exact ⟨rfl, ⟨_, row, R, b, h', o.same k2 hf2 (zero_fids hf2 rfl) rfl rfl, ⟨hd.nm, hd.lies, hd.dir, hd.row⟩, ⟨f.names, f.there⟩, hb2, hb0, hbl, hne, sp⟩, hx⟩

theorem ov_bind {m : Nat} (hm : m < 256) (h : KV3 2 w X s ns ms ma i m) (hi : i < 5) (q : Nat) (hq : q < 3) : Calls Tryz.prog 23 #[.pointer (some ⟨s, 0, none⟩), .int .i64 2, .int .i64 3, .int .i64 q] w fun e w' => e = .returned (.int .i64 0) ∧ KV4 0 w' X s (newRow q (dN i) ns) (newRow q m ms) ma i ∧ Ext X w w' := by
  obtain ⟨st, row, R, b, h, o, hd, f, hb2, hb0, hbl, hne, sp⟩ := h
  have k := o.o.k
  have hf : st.fids = [f0, A2 b, B3 R] := o.fids
  have n2 : nodeAt st 2 = b := by simp [nodeAt, fidAt, hf, f0, B3, A2, nodeOf]
  have n3 : nodeAt st 3 = 2 := by simp [nodeAt, fidAt, hf, f0, A2, B3, nodeOf]
  have hE : dirsE st [2, 3] = 0 := by
    unfold dirsE nodesAt
    simp only [List.any_cons, List.any_nil, List.map_cons, List.map_nil, n2, n3, Bool.or_false, lies_live2 o.o.onto, lies_live2 hd.lies, o.o.dir, hd.dir]
    rw [find_fids hf, find_fids hf]
    rfl
  have hrow : M.boundRow st b 2 (q : Int) = newRow q ⟨b, false⟩ R := by
    unfold M.boundRow newRow
    rw [o.o.rowR]
    have : q = 0 ∨ q = 1 ∨ q = 2 := by omega
    rcases this with rfl | rfl | rfl <;> simp
  have hRl := o.o.lain.len
  have hmu := o.much
  have hlen := len_newRow q (⟨b, false⟩ : Member) R
  have e : mBind st 2 3 (q : Int) = (mLay (tick st) 2 (newRow q ⟨b, false⟩ R), 0) := by
    rw [mBind_eq, if_neg (by rw [hE]; simp), n2, n3, hrow, if_pos (by unfold howOk; exact decide_eq_true (by omega)), if_neg (by omega)]
  have k2 := k.bind 2 3 (q : Int)
  have hc := k_bind 2 3 (q : Int) (by omega) h k.ok
  rw [e] at hc k2
  have hlen2 := len_newRow q (⟨dN i, b, m⟩ : Dn) row
  refine hc.mono ?_
  rintro e w' ⟨rfl, h', hx⟩
  have hfind : (mLay (tick st) 2 (newRow q ⟨b, false⟩ R)).laid.find? (fun z => z.onto == 2) = some ⟨2, newRow q ⟨b, false⟩ R⟩ := by
    rw [find_lay, if_pos rfl, if_pos hlen.1]
  refine ⟨rfl, ⟨_, newRow q ⟨dN i, b, m⟩ row, newRow q ⟨b, false⟩ R, b, R, h', ⟨⟨k2, o.o.z.same rfl, o.o.onto, o.o.dir, ?_, ⟨?_, ?_, ?_⟩, ?_, ⟨by omega, ?_⟩⟩, hf, ⟨o.own.names, o.own.there⟩, o.live, o.len, o.new, ?_, by omega⟩, ?_, ?_⟩, hx⟩
  · unfold rowOf
    rw [hfind]
  · rw [newRow_map, newRow_map, o.o.lain.same]
  · intro x hx
    rcases mem_newRow hx with rfl | hx
    · exact lies_live2 hd.lies
    · exact o.o.lain.live x hx
  · intro x hx
    rcases mem_newRow hx with rfl | hx
    · exact ⟨f.names, f.there⟩
    · exact ⟨(o.o.lain.filled x hx).names, (o.o.lain.filled x hx).there⟩
  · intro x hx
    rcases mem_newRow hx with rfl | hx
    · exact isName_size hd.nm
    · exact o.o.short x hx
  · intro x hx
    rcases mem_newRow hx with rfl | hx
    · exact hm
    · exact o.o.few.2 x hx
  · intro x hx
    rcases mem_newRow hx with rfl | hx
    · exact ⟨hbl, hb0⟩
    · exact o.low x hx
  · unfold Lo
    rw [hfind]
    rfl
  · exact ⟨by rw [newRow_map, sp.1], by rw [newRow_map, sp.2]⟩
theorem ov_c2 (h : KV4 0 w X s ns ms ma i) : Calls Tryz.prog 22 #[.pointer (some ⟨s, 0, none⟩), .int .i64 2] w fun e w' => e = .returned (.int .i64 0) ∧ KV4 1 w' X s ns ms ma i ∧ Ext X w w' := by
  obtain ⟨st, row, R, b, R0, h, o, lo, sp⟩ := h
  have hf : st.fids = [f0, A2 b, B3 R0] := o.fids
  have e : mClunk st 2 = (mDrop (tick st) 1, 0) := by
    unfold mClunk
    rw [find_fids hf]
    rfl
  have k2 := o.o.k.clunk 2
  have hc := k_clunk 2 h o.o.k.ok
  rw [e] at hc k2
  have hf2 : (mDrop (tick st) 1).fids = [f0, B3 R0] := by simp only [mDrop, tick, hf]; rfl
  refine hc.mono ?_
  rintro e w' ⟨rfl, h', hx⟩
  exact ⟨rfl, ⟨_, row, R, b, R0, h', o.same k2 hf2 (zero_fids hf2 rfl) rfl rfl, lo, sp⟩, hx⟩
theorem ov_c3 (h : KV4 1 w X s ns ms ma i) : Calls Tryz.prog 22 #[.pointer (some ⟨s, 0, none⟩), .int .i64 3] w fun e w' => e = .returned (.int .i64 0) ∧ KV1 w' X s ns ms ma (i + 1) ∧ Ext X w w' := by
  obtain ⟨st, row, R, b, R0, h, o, lo, sp⟩ := h
  have hf : st.fids = [f0, B3 R0] := o.fids
  have e : mClunk st 3 = (mDrop (tick st) 1, 0) := by
    unfold mClunk
    rw [find_fids hf]
    rfl
  have k2 := o.o.k.clunk 3
  have hc := k_clunk 3 h o.o.k.ok
  rw [e] at hc k2
  have hf2 : (mDrop (tick st) 1).fids = [f0] := by simp only [mDrop, tick, hf]; rfl
  refine hc.mono ?_
  rintro e w' ⟨rfl, h', hx⟩
  have o2 := o.same k2 hf2 (zero_fids hf2 rfl) rfl rfl
  rw [show 19 + 9 * i = 10 + 9 * (i + 1) by omega] at o2
  exact ⟨rfl, ⟨_, row, R, h', o2, fun _ => lo, sp⟩, hx⟩

/-! ### The end -/
def KV5 (w : World) (X : Nat → Prop) (s : Nat) (ma : Nat) : Prop := ∃ st row R i n q, KSrv w X s st ∧ OvIn st [f0, B3 R] row R ma i n q ∧ Lo st
def KV6 (w : World) (X : Nat → Prop) (s : Nat) (ma : Nat) (fids : List Fid → Prop) : Prop := ∃ st f i n q, KSrv w X s st ∧ fids f ∧ OvIn st f [⟨ontoN, 2, ma⟩] R0 ma i n q
theorem ov_w3' (h : KV1 w X s ns ms ma i) (h0 : 0 < i) : Calls Tryz.prog 14 #[.pointer (some ⟨s, 0, none⟩), .int .i64 0, .int .i64 3, .slice (some ⟨w.heap.size, 0, none⟩) 1 1] (w.alloc (.cells #[.string ⟨#[111, 110, 116, 111]⟩] 9)) fun e w' => e = .returned (.tuple #[.int .i64 1, .int .i64 0]) ∧ KV5 w' X s ma ∧ Ext X w w' := by
  obtain ⟨st, row, R, h, o, lo, sp⟩ := h
  have k := o.o.k
  have z := o.o.z
  have hf : st.fids = [f0] := o.fids
  have e : mWalk st 0 3 [ontoN] = (withFid (tick st) (B3 R), 1, 0) := by
    rw [mWalk_new z.find z.get rfl rfl (by decide) (by decide) (by rw [find_fids hf]; rfl) (by simp) (by simp [nameBad_no isName_onto]), show f0.way = W0 from rfl, go1 o.o.step]
    rfl
  have k2 := k.walk 0 3 [ontoN]
  have hc := k_walk1 0 3 ontoN 1 h k.ok (by decide)
  rw [e] at hc k2
  have hf2 : (withFid (tick st) (B3 R)).fids = [f0, B3 R] := by simp only [withFid, tick, hf]; rfl
  refine hc.mono ?_
  rintro e w' ⟨rfl, h', hx⟩
  exact ⟨rfl, ⟨_, row, R, _, _, _, h', o.same k2 hf2 (zero_fids hf2 rfl) rfl rfl, lo h0⟩, hx⟩
theorem ov_unbind (hm : ma < 256) (h : KV5 w X s ma) : Calls Tryz.prog 24 #[.pointer (some ⟨s, 0, none⟩), .int .i64 3] w fun e w' => e = .returned (.int .i64 0) ∧ KV6 w' X s ma (fun f => ∃ R, f = [f0, B3 R]) ∧ Ext X w w' := by
  obtain ⟨st, row, R, i, n, q, h, o, lo⟩ := h
  have k := o.o.k
  have hf : st.fids = [f0, B3 R] := o.fids
  have n3 : nodeAt st 3 = 2 := by simp [nodeAt, fidAt, hf, f0, B3, nodeOf]
  have hE : dirsE st [3] = 0 := by
    unfold dirsE nodesAt
    simp only [List.any_cons, List.any_nil, List.map_cons, List.map_nil, n3, Bool.or_false, lies_live2 o.o.onto, o.o.dir]
    rw [find_fids hf]
    rfl
  have e : mUnbind st 3 = (mLay (tick st) 2 [], 0) := by
    rw [mUnbind_eq, if_neg (by rw [hE]; simp), n3, if_pos (show (st.laid.find? (fun l => l.onto == 2)).isSome = true from lo)]
  have k2 := k.unbind 3
  have hc := k_unbind 3 h k.ok
  rw [e] at hc k2
  refine hc.mono ?_
  rintro e w' ⟨rfl, h', hx⟩
  have f2 : Filled (mLay (tick st) 2 []) ontoN 2 ma 8 := ⟨o.own.names, o.own.there⟩
  refine ⟨rfl, ⟨_, _, i, 1, q, h', ⟨R, rfl⟩, ⟨⟨k2, o.o.z.same rfl, o.o.onto, o.o.dir, ?_, ⟨rfl, ?_, ?_⟩, ?_, ⟨by simp, ?_⟩⟩, hf, f2, o.live, o.len, o.new, ?_, by simp⟩⟩, hx⟩
  · unfold rowOf
    rw [find_lay, if_pos rfl, if_neg (by decide)]
  · intro x hx
    simp only [List.mem_singleton] at hx
    subst hx
    exact lies_live2 o.o.onto
  · intro x hx
    simp only [List.mem_singleton] at hx
    subst hx
    exact f2
  · intro x hx
    simp only [List.mem_singleton] at hx
    subst hx
    exact isName_size isName_onto
  · intro x hx
    simp only [List.mem_singleton] at hx
    subst hx
    exact hm
  · intro x hx
    simp only [List.mem_singleton] at hx
    subst hx
    exact ⟨isDir_lt o.o.dir, by simp⟩
theorem ov_c3' (h : KV6 w X s ma (fun f => ∃ R, f = [f0, B3 R])) : Calls Tryz.prog 22 #[.pointer (some ⟨s, 0, none⟩), .int .i64 3] w fun e w' => e = .returned (.int .i64 0) ∧ KV6 w' X s ma (fun f => f = [f0]) ∧ Ext X w w' := by
  obtain ⟨st, _, i, n, q, h, ⟨R, rfl⟩, o⟩ := h
  have hf : st.fids = [f0, B3 R] := o.fids
  have e : mClunk st 3 = (mDrop (tick st) 1, 0) := by
    unfold mClunk
    rw [find_fids hf]
    rfl
  have k2 := o.o.k.clunk 3
  have hc := k_clunk 3 h o.o.k.ok
  rw [e] at hc k2
  have hf2 : (mDrop (tick st) 1).fids = [f0] := by simp only [mDrop, tick, hf]; rfl
  refine hc.mono ?_
  rintro e w' ⟨rfl, h', hx⟩
  exact ⟨rfl, ⟨_, _, i, n, q, h', rfl, o.same k2 hf2 (zero_fids hf2 rfl) rfl rfl⟩, hx⟩
theorem ov_seen (ro mo : Option Addr) (rc mc n : Nat) (hn : n = ns.length) (h : KV1 w X s ns ms ma i) (hrow : NamesApart w X ro ns) (hms : IntsApart w X mo ms) :
    Calls Tryz.prog 40 #[.pointer (some ⟨s, 0, none⟩), .slice ro n rc, .slice mo n mc] w fun e w' => KE1 (fun w' => KV1 w' X s ns ms ma i) w X e w' := by
  obtain ⟨st, row, R, h, o, lo, rfl, rfl⟩ := h
  rw [List.length_map] at hn
  subst hn
  refine (kseen_any ro mo rc mc h o.o hrow hms).mono ?_
  rintro e w' ⟨rfl, c, h', hx⟩
  exact ⟨rfl, ⟨_, row, R, h', o.same (o.o.k.counted c) o.fids (o.o.z.same rfl) rfl rfl, lo, rfl, rfl⟩, hx⟩
theorem ov_seen' (ro mo : Option Addr) (rc mc : Nat) {P : List Fid → Prop} (h : KV6 w X s ma P) (hrow : NamesApart w X ro [ontoN]) (hms : IntsApart w X mo [ma]) :
    Calls Tryz.prog 40 #[.pointer (some ⟨s, 0, none⟩), .slice ro 1 rc, .slice mo 1 mc] w fun e w' => e = .returned (.bool true) ∧ Ext X w w' := by
  obtain ⟨st, f, i, n, q, h, _, o⟩ := h
  refine (kseen_any ro mo rc mc h o.o hrow hms).mono ?_
  rintro e w' ⟨rfl, c, h', hx⟩
  exact ⟨rfl, hx⟩
/-- The first state. -/
theorem KV1.first (h : KO2 w X s ma) (hm : ma < 256) : KV1 w X s [ontoN] [ma] ma 0 := by
  obtain ⟨c, st, h, k, g, f⟩ := h
  have hl := live_onto c
  have d0 := (onto_at c).grew g (by decide)
  have hz := (zero_K.same (st' := made StK (newNd ontoN true 0) c) rfl).same g.fids
  refine ⟨st, [⟨ontoN, 2, ma⟩], R0, h, ⟨⟨k, hz, d0.lies, d0.dir, d0.row, ⟨rfl, ?_, ?_⟩, ?_, ⟨by simp, ?_⟩⟩, by rw [g.fids]; rfl, f, by have := g.live; omega, by have := g.len; omega, fun j _ hj => ?_, ?_, by simp⟩, fun h => by omega, rfl, rfl⟩
  · intro x hx
    simp only [List.mem_singleton] at hx
    subst hx
    exact lies_live2 d0.lies
  · intro x hx
    simp only [List.mem_singleton] at hx
    subst hx
    exact f
  · intro x hx
    simp only [List.mem_singleton] at hx
    subst hx
    exact isName_size isName_onto
  · intro x hx
    simp only [List.mem_singleton] at hx
    subst hx
    exact hm
  · rw [g.lies (by decide)]
    have : ∀ j : Fin 5, M.lies (made StK (newNd ontoN true 0) c) 0 (dN j.val) = none := by
      intro j
      rw [lies_more]
      have hj : M.lies StK 0 (dN j.val) = none := by
        revert j
        decide +kernel
      have hk : liesHere 0 (dN j.val) (newNd ontoN true 0) = false := by
        revert j
        decide +kernel
      rw [hj, hk]
      rfl
    exact this ⟨j, hj⟩
  · intro x hx
    simp only [List.mem_singleton] at hx
    subst hx
    exact ⟨isDir_lt d0.dir, by simp⟩
end
end Go.Proofs.YtdmdgnghaceibaaGreat.P
/- 'Over': the law's own slices. -/
namespace Go.Proofs.YtdmdgnghaceibaaGreat.P
open M Go.ChangeShapes Go.WideShapes Go.ChangeAt Go.RowKit
set_option linter.unusedVariables false

def intRows (l : List Nat) : List (List Value) := l.map (fun m : Nat => [.int .i64 (m : Int)])
/-- The law's two slices while they are made anew; F: the blocks that may be written. -/
structure Mid (F : Nat → Prop) (W W' : World) (rv mv : Value) (ns : List ByteArray) (ms : List Nat) : Prop where
  ex : Ext F W W'
  rows : Own W' (ext F W W') 9 1 rv (strRows ns)
  masks : Own W' (ext F W W') 3 1 mv (intRows ms)

section
variable {F : Nat → Prop} {W W' W2 : World} {rv mv v' : Value} {ns : List ByteArray} {ms : List Nat}

theorem Mid.start (h1 : Own W F 9 1 rv (strRows ns)) (h2 : Own W F 3 1 mv (intRows ms)) : Mid F W W rv mv ns ms :=
  ⟨Ext.refl _ _, h1.mono (fun k hk => .inl hk), h2.mono (fun k hk => .inl hk)⟩
theorem own_up {e : TypeId} {size : Nat} {v : Value} {r : List (List Value)} {G : Nat → Prop} (h : Own W' G e size v r) (o : Obj) : Own (W'.alloc o) G e size v r := by
  refine h.keptBlock (fun k hk => ?_)
  rcases h.opened with ⟨rfl, _⟩ | ⟨g, cap, rfl, _, _, _, ⟨cur, hb⟩, _⟩
  · simp [Value.ownBlock] at hk
  · simp [Value.ownBlock] at hk
    subst hk
    exact Below.heap_alloc W' o g (Array.getElem?_eq_some_iff.1 hb).1
theorem ext_up (o : Obj) : ∀ k, ext F W W' k → ext F W (W'.alloc o) k := ext_mono (by simp)
theorem Mid.alloc (h : Mid F W W' rv mv ns ms) (o : Obj) : Mid F W (W'.alloc o) rv mv ns ms :=
  ⟨h.ex.alloc o, (own_up h.rows o).mono (ext_up o), (own_up h.masks o).mono (ext_up o)⟩
theorem Mid.drew (h : Mid F W W' rv mv ns ms) : Mid F W W'.drew rv mv ns ms := ⟨h.ex.drew, h.rows.kept (fun k _ _ => rfl), h.masks.kept (fun k _ _ => rfl)⟩
theorem ext_new (hx : Ext F W W') (o : Obj) : ∀ k, k = W'.heap.size → ext F W (W'.alloc o) k := fun k hk => .inr ⟨by have := hx.size; omega, by subst hk; simp⟩
theorem Mid.litS (h : Mid F W W' rv mv ns ms) (d : ByteArray) : Mid F W (W'.alloc (.cells #[.string d] 9)) (.slice (some ⟨W'.heap.size, 0, none⟩) 1 1) mv [d] ms :=
  ⟨h.ex.alloc _, (Own.lit W' #[.string d] 9 1 rfl).mono (ext_new h.ex _), (own_up h.masks _).mono (ext_up _)⟩
theorem Mid.litI (h : Mid F W W' rv mv ns ms) (m : Nat) : Mid F W (W'.alloc (.cells #[.int .i64 (m : Int)] 3)) rv (.slice (some ⟨W'.heap.size, 0, none⟩) 1 1) ns [m] :=
  ⟨h.ex.alloc _, (own_up h.rows _).mono (ext_up _), (Own.lit W' #[.int .i64 (m : Int)] 3 1 rfl).mono (ext_new h.ex _)⟩
theorem int_ne_string : (3 : TypeId) ≠ 9 := by decide
theorem Mid.appS {news : List ByteArray} (h : Mid F W W' rv mv ns ms) (ho : Own W2 (ext (ext F W W') W' W2) 9 1 v' (strRows ns ++ strRows news)) (hg : W'.grownBy W2 rv.ownBlock) : Mid F W W2 v' mv (ns ++ news) ms := by
  have hz := h.ex.size
  have hz2 := hg.size
  refine ⟨h.ex.trans (grown_ext h.rows hg), ?_, (h.masks.keepT (grown_keepT h.rows hg (fun t => t = 3) (fun q => int_ne_string q.symm)) rfl).mono (ext_mono hz2)⟩
  rw [show strRows (ns ++ news) = strRows ns ++ strRows news from List.map_append ..]
  exact ho.mono (ext_trans hz hz2)
theorem Mid.appI {news : List Nat} (h : Mid F W W' rv mv ns ms) (ho : Own W2 (ext (ext F W W') W' W2) 3 1 v' (intRows ms ++ intRows news)) (hg : W'.grownBy W2 mv.ownBlock) : Mid F W W2 rv v' ns (ms ++ news) := by
  have hz := h.ex.size
  have hz2 := hg.size
  refine ⟨h.ex.trans (grown_ext h.masks hg), (h.rows.keepT (grown_keepT h.masks hg (fun t => t = 9) int_ne_string) rfl).mono (ext_mono hz2), ?_⟩
  rw [show intRows (ms ++ news) = intRows ms ++ intRows news from List.map_append ..]
  exact ho.mono (ext_trans hz hz2)
theorem Mid.srcS (h : Mid F W W' rv mv ns ms) : SrcIs W' 1 rv (strRows ns) :=
  SrcIs.ofOwn h.rows (fun x hx u hu => by
    obtain ⟨m, _, rfl⟩ := List.mem_map.1 hx
    simp at hu
    subst hu
    rfl)
theorem Mid.srcI (h : Mid F W W' rv mv ns ms) : SrcIs W' 1 mv (intRows ms) :=
  SrcIs.ofOwn h.masks (fun x hx u hu => by
    obtain ⟨m, _, rfl⟩ := List.mem_map.1 hx
    simp at hu
    subst hu
    rfl)
end

/-- The Server, when others than its blocks were written: the new blocks are the law's. -/
def less (Y : Nat → Prop) (W W' : World) : Nat → Prop := fun k => Y k ∧ ¬ (W.heap.size ≤ k ∧ k < W'.heap.size)
theorem KSrv.own {W W' : World} {Y F : Nat → Prop} {s : Nat} {st : St} (h : KSrv W Y s st) (hx : Ext F W W') (hF : ∀ k, F k → ¬ Y k) : KSrv W' (less Y W W') s st := by
  obtain ⟨G, h, lo, hi⟩ := h
  have hz := hx.size
  exact ⟨G, h.kept (KeepX.ofExt hx (fun k hk q => hF k q (lo k hk).1)), fun k hk => ⟨⟨(lo k hk).1, fun q => by have := (lo k hk).2; omega⟩, by have := (lo k hk).2; omega⟩, fun k hk => ⟨hi k (by omega), fun q => by omega⟩⟩
theorem KV1.own {W W' : World} {Y F : Nat → Prop} {s : Nat} {ns : List ByteArray} {ms : List Nat} {ma i : Nat} (h : KV1 W Y s ns ms ma i) (hx : Ext F W W') (hF : ∀ k, F k → ¬ Y k) : KV1 W' (less Y W W') s ns ms ma i := by
  obtain ⟨st, row, R, h, r⟩ := h
  exact ⟨st, row, R, h.own hx hF, r⟩
end Go.Proofs.YtdmdgnghaceibaaGreat.P
/- 'Over' walked. -/
namespace Go.Proofs.YtdmdgnghaceibaaGreat.P
open M Go.ChangeShapes Go.WideShapes Go.ChangeAt Go.RowKit
set_option linter.unusedVariables false

/-- Raw numbers that were handed in. -/
def IntsIn (w : World) (ao : Option Addr) (l : List Int) : Prop := l.length ≤ 9223372036854775807 ∧ ∀ (i : Nat) (n : Int), l[i]? = some n → (-9223372036854775808 ≤ n ∧ n ≤ 9223372036854775807) ∧ ∃ nb no, ao = some ⟨nb, no, none⟩ ∧ nb < w.heap.size ∧ w.cell? ⟨nb, no + i, none⟩ = some (.int .i64 n)
theorem IntsIn.ext {w w' : World} {X : Nat → Prop} {ao : Option Addr} {l : List Int} (h : IntsIn w ao l) (hx : Ext X w w') (hX : ∀ k, X k → w.heap.size ≤ k) : IntsIn w' ao l := by
  refine ⟨h.1, fun i n hi => ?_⟩
  obtain ⟨h1, nb, no, h2, h3, h4⟩ := h.2 i n hi
  exact ⟨h1, nb, no, h2, by have := hx.size; omega, ext_cell hx (fun q => by have := hX _ q; omega) h4⟩

theorem dN_spelt (i : Nat) : (⟨#[100]⟩ : ByteArray) ++ ⟨#[UInt8.ofNat (48 + i)]⟩ = dN i := rfl
theorem namesAp {w : World} {X Y : Nat → Prop} {ro : Option Addr} {rc : Nat} {ns : List ByteArray} (h : Own w (fun k => X k ∧ ¬ Y k) 9 1 (.slice ro ns.length rc) (strRows ns)) (hl : ns.length ≤ 6) (hs : ∀ s ∈ ns, s.size ≤ 12) : NamesApart w Y ro ns := by
  refine ⟨namesAt_own h (by unfold maxLen; omega) (fun s q => by have := hs s q; unfold maxLen; omega), fun a ha _ q => ?_⟩
  subst ha
  exact (h.2.2 _ rfl).2 q
theorem intsAp {w : World} {X Y : Nat → Prop} {mo : Option Addr} {mc n : Nat} {ms : List Nat} (h : Own w (fun k => X k ∧ ¬ Y k) 3 1 (.slice mo n mc) (intRows ms)) : IntsApart w Y mo ms := by
  intro i m hi
  rcases h.opened with ⟨e, hn⟩ | ⟨g, cap, e, _, _, hF, _, hc, _⟩
  · unfold intRows at hn
    rw [List.map_eq_nil_iff.1 hn] at hi
    simp at hi
  · simp only [Value.slice.injEq] at e
    obtain ⟨rfl, _, _⟩ := e
    refine ⟨g, 0, rfl, ?_, hF.2⟩
    have := hc i [.int .i64 (m : Int)] 0 _ (by unfold intRows; rw [List.getElem?_map, hi]; rfl) rfl
    simpa using this

theorem infoInt : (Tryz.prog.info? 3).map (fun i => (i.zero, i.size, i.bytes)) = some (some (.int .i64 0), 1, 8) := by kernel_rfl
theorem len_intRows (l : List Nat) : (intRows l).length = l.length := List.length_map ..
theorem own_lt {w : World} {F : Nat → Prop} {e : TypeId} {size : Nat} {v : Value} {r : List (List Value)} (h : Own w F e size v r) : ∀ k, v.ownBlock = some k → k < w.heap.size := fun k hk => by
  rcases h.opened with ⟨rfl, _⟩ | ⟨g, cap, rfl, _, _, _, ⟨cur, hb⟩, _⟩
  · simp [Value.ownBlock] at hk
  · simp [Value.ownBlock] at hk
    subst hk
    exact (Array.getElem?_eq_some_iff.1 hb).1
/-- What the law has between the turns. -/
def OvTurn (w : World) (X : Nat → Prop) (s ma : Nat) (j : Nat) (rv mv : Value) (wr : World) : Prop :=
  ∃ (Y : Nat → Prop) (ns : List ByteArray) (ms : List Nat) (ro mo : Option Addr) (rc mc : Nat), rv = .slice ro ns.length rc ∧ mv = .slice mo ns.length mc ∧ ms.length = ns.length ∧ ns.length ≤ j + 1 ∧ (∀ s ∈ ns, s.size ≤ 12) ∧ KV1 wr Y s ns ms ma j ∧ Own wr (fun k => X k ∧ ¬ Y k) 9 1 rv (strRows ns) ∧ Own wr (fun k => X k ∧ ¬ Y k) 3 1 mv (intRows ms) ∧ (∀ k, Y k → X k) ∧ Ext X w wr
theorem OvTurn.next {w W W' : World} {X Y : Nat → Prop} {s ma j : Nat} {ns : List ByteArray} {ms : List Nat} {ro mo : Option Addr} {rc mc n : Nat} (hn : n = ns.length) (hm : ms.length = ns.length) (hl : ns.length ≤ j + 1) (hs : ∀ s ∈ ns, s.size ≤ 12) (h : KV1 W Y s ns ms ma j) (m : Mid (fun k => X k ∧ ¬ Y k) W W' (.slice ro n rc) (.slice mo n mc) ns ms) (hY : ∀ k, Y k → X k) (hx : Ext X w W) (hX : ∀ k, w.heap.size ≤ k → X k) : OvTurn w X s ma j (.slice ro n rc) (.slice mo n mc) W' := by
  subst hn
  have hz := hx.size
  have hF : ∀ k, ext (fun k => X k ∧ ¬ Y k) W W' k → X k ∧ ¬ less Y W W' k := fun k hk => by
    rcases hk with hk | hk
    · exact ⟨hk.1, fun q => hk.2 q.1⟩
    · exact ⟨hX k (by omega), fun q => q.2 hk⟩
  exact ⟨less Y W W', ns, ms, ro, mo, rc, mc, rfl, rfl, hm, hl, hs, h.own m.ex (fun k hk => hk.2), m.rows.mono hF, m.masks.mono hF, fun k hk => hY k hk.1, hx.trans' (m.ex.weak (fun k hk => hk.1))⟩

/-- The last look: onto alone. -/
theorem law_last {w W : World} {X Y : Nat → Prop} {s : Nat} (ma : Nat) {P : List Fid → Prop} (h : KV6 W Y s ma P) (hY : ∀ k, Y k → X k) (hx : Ext X w W) (hX : ∀ k, w.heap.size ≤ k → X k) (hX2 : ∀ k, X k → w.heap.size ≤ k) :
    Calls Tryz.prog 40 #[.pointer (some ⟨s, 0, none⟩), .slice (some ⟨W.heap.size, 0, none⟩) 1 1, .slice (some ⟨W.heap.size + 1, 0, none⟩) 1 1] ((W.alloc (.cells #[.string ⟨#[111, 110, 116, 111]⟩] 9)).alloc (.cells #[.int .i64 (ma : Int)] 3)) fun e w' => e = .returned (.bool true) ∧ Below w.heap.size w w' := by
  have M0 := ((Mid.start (F := fun k => X k ∧ ¬ X k) (W := W) (ns := []) (ms := []) (Own.nil _ _ _ _) (Own.nil _ _ _ _)).litS ontoN).litI ma
  rw [World.size_alloc] at M0
  obtain ⟨W', hW'⟩ : ∃ W', (W.alloc (.cells #[.string ontoN] 9)).alloc (.cells #[.int .i64 (ma : Int)] 3) = W' := ⟨_, rfl⟩
  rw [show (W.alloc (.cells #[.string ⟨#[111, 110, 116, 111]⟩] 9)).alloc (.cells #[.int .i64 (ma : Int)] 3) = W' from hW']
  rw [hW'] at M0
  have hz := hx.size
  have hF : ∀ k, ext (fun k => X k ∧ ¬ X k) W W' k → X k ∧ ¬ less Y W W' k := fun k hk => by
    rcases hk with hk | hk
    · exact absurd hk.1 hk.2
    · exact ⟨hX k (by omega), fun q => q.2 hk⟩
  obtain ⟨st, f, i, n, q, h, hf, o⟩ := h
  have h' : KV6 W' (less Y W W') s ma P := ⟨st, f, i, n, q, h.own M0.ex (fun k hk => absurd hk.1 hk.2), hf, o⟩
  refine (ov_seen' _ _ 1 1 h' (namesAp (M0.rows.mono hF) (by simp) (by simp; decide)) (intsAp (M0.masks.mono hF))).mono ?_
  rintro e w' ⟨rfl, hx'⟩
  have e1 := (hx.trans' (M0.ex.weak (X := X) (fun k hk => hk.1))).trans' (hx'.weak (X := X) (fun k hk => hY k hk.1))
  refine ⟨rfl, ⟨e1.os, e1.tape, e1.output, e1.size, fun k hk => e1.block k hk (fun q => ?_)⟩⟩
  have := hX2 k q
  omega

set_option maxRecDepth 100000 in
set_option maxHeartbeats 4000000 in
theorem kover_any {w : World} (own : Int) (others hows : List Int) (oo ho : Option Addr) (oc hc : Nat) (hown : -9223372036854775808 ≤ own ∧ own ≤ 9223372036854775807) (hO : IntsIn w oo others) (hH : IntsIn w ho hows) :
    Calls Tryz.prog 10 #[.int .i64 own, .slice oo others.length oc, .slice ho hows.length hc] w fun e w' => e = .returned (.bool true) ∧ Below w.heap.size w w' := by
  obtain ⟨X, hX⟩ : ∃ X : Nat → Prop, X = fun k => w.heap.size ≤ k := ⟨_, rfl⟩
  have HO := hide (opened_any (w := w) (X := X) (fun k hk => by rw [hX]; exact hk))
  have HX := hide hX
  have HP := hide (fun w1 => kpick_any own 256 w1 hown (by omega))
  have hq := mPick_lt own (n := 256) (by omega)
  have Hf1 := hide (fun (w2 : World) (s : Nat) (h : KO1 w2 X s) => ks_f1 own hown h)
  obtain ⟨ma, hqe⟩ : ∃ q, mPick own 256 = q := ⟨_, rfl⟩
  rw [hqe] at HP hq Hf1
  have HOt := hide hO
  have HHw := hide hH
  have hol := hO.1
  have hhl := hH.1
  clear hX hown hqe hO hH
  go_enter Tryz.func10, Tryz.ntmps10
  go_wp2_with fail
  refine HO.out.mono ?_
  rintro e w1 ⟨rfl, h1, k1, hx1⟩
  have H1' := hide h1
  have K1 := hide k1
  have HX1 := hide hx1
  generalize w.heap.size = s at H1' ⊢
  clear h1 hx1 k1
  go_wp2_with fail
  refine (ks_d1 H1'.out K1.out).mono ?_
  rintro e w2 ⟨rfl, h2, hx2⟩
  have G2 := hide h2
  have HX2 := hide (HX1.out.trans' hx2)
  clear h2 hx2
  go_wp2_with fail
  refine (Hf1.out _ _ G2.out).mono ?_
  rintro e w3 ⟨rfl, h3, hx3⟩
  have G3 := hide (KV1.first h3 hq)
  have HX3 := hide (HX2.out.trans' hx3)
  clear h3 hx3
  go_wp2_with fail
  refine (HP.out _).mono ?_
  rintro e w' ⟨rfl, hw⟩
  obtain rfl := hw.symm
  go_wp2_with fail
  have HXl := hide (show ∀ k, w.heap.size ≤ k → X k by rw [HX.out]; exact fun k hk => hk)
  have HXr := hide (show ∀ k, X k → w.heap.size ≤ k by rw [HX.out]; exact fun k hk => hk)
  go_loopw [10, 11, 12] (fun rv mv iv wr => ∃ (j : Nat), j ≤ others.length ∧ j ≤ 5 ∧ iv = .int .i64 j ∧ OvTurn w X s ma j rv mv wr) (fun _ _ iv _ => 5 - (intOf iv).toNat)
  case atStart =>
    have M0 := ((Mid.start (F := fun k => X k ∧ ¬ X k) (W := w3) (ns := []) (ms := []) (Own.nil _ _ _ _) (Own.nil _ _ _ _)).litS ontoN).litI ma
    rw [World.size_alloc] at M0
    refine ⟨0, by omega, by omega, rfl, OvTurn.next (n := 1) rfl rfl (by simp) ?_ G3.out M0 (fun k h => h) HX3.out HXl.out⟩
    simp
    decide
  case round =>
    obtain ⟨j, hj, hj5, rfl, ht⟩ := hrel
    obtain ⟨Y, ns, ms, ro, mo, rc, mc, rfl, rfl, hml, hnl, hns, hs, hr, hm, hYX, hx⟩ := ht
    have HS := hide hs
    have HR := hide hr
    have HM := hide hm
    have HYX := hide hYX
    have HXx := hide hx
    have HNs := hide hns
    clear hs hr hm hYX hx hns
    by_cases hlt : j < others.length ∧ j < 5
    · obtain ⟨hlt1, hlt5⟩ := hlt
      have hl1 : (j : Int) < (others.length : Int) := by omega
      have hl5 : (j : Int) < 5 := by omega
      obtain ⟨c, hc0⟩ := getElem?_of_lt hlt1
      obtain ⟨hcr, ob, of, rfl, hob, hoc⟩ := HOt.out.2 j c hc0
      have Hcr := hide hcr
      have Hoc := hide (ext_cell HXx.out (fun q => by have := HXr.out _ q; omega) hoc)
      clear hcr hoc hc0
      have hb : (UInt8.ofNat (48 + j)).toNat = 48 + j := by simp; omega
      obtain ⟨t, ht⟩ : ∃ t : ByteArray, (⟨#[UInt8.ofNat (48 + j)]⟩ : ByteArray) = t := ⟨_, rfl⟩
      have hcv : (convert 31 9 (.slice (some ⟨wr.heap.size, 0, none⟩) 1 1)).run Tryz.prog (wr.alloc (.cells #[.int .u8 (48 + (j : Int))] 5)) = .ok (.string t) (wr.alloc (.cells #[.int .u8 (48 + (j : Int))] 5)) := by
        rw [← ht]
        refine run_convert_bytes_back (P := Tryz.prog) _ 31 9 5 ⟨wr.heap.size, 0, none⟩ 1 [UInt8.ofNat (48 + j)] Tryz.underlying31 Tryz.underlying5 Tryz.underlying9 (fun i hi => ?_)
        have hi0 : i = 0 := by simp at hi; omega
        subst hi0
        have := heap_alloc_new wr (.cells #[.int .u8 (48 + (j : Int))] 5)
        rw [Addr.add_lit]
        simp only [World.cell?, this, List.getElem_cons_zero, hb]
        simp
      have hts : t.size = 1 := by rw [← ht]; rfl
      have Hd := hide (show (⟨#[100]⟩ : ByteArray) ++ t = dN j by rw [← ht]; exact dN_spelt j)
      have hsum : 1 + t.size ≤ 9223372036854775807 := by omega
      have hsum' : (1 : Int) + (t.size : Int) ≤ 9223372036854775807 := by omega
      have HB0 := hide (show Below wr.heap.size wr (wr.alloc (.cells #[.int .u8 (48 + (j : Int))] 5)) from (Below.refl _ wr).alloc (Nat.le_refl _) _)
      clear ht hb
      go_wp2_with fail
      rw [Hd.out]
      refine (ov_dir (HS.out.below HB0.out) hlt5).mono ?_
      rintro e w4 ⟨rfl, h4, hx4⟩
      have G4 := hide h4
      have HX4 := hide ((Ext.below (F := Y) HB0.out).trans' hx4)
      clear h4 hx4 hcv
      have hnX : ¬ X ob := fun q => by have := HXr.out _ q; omega
      have HnX := hide hnX
      have Hoc4 : w4.cell? ⟨ob, of + j, none⟩ = some (.int .i64 c) := ext_cell HX4.out (fun q => HnX.out (HYX.out _ q)) Hoc.out
      have j0 : (0 : Int) ≤ (j : Int) := by omega
      clear hnX
      go_wp2_with fail
      refine (ov_fill c Hcr.out G4.out hlt5).mono ?_
      rintro e w5 ⟨rfl, h5, hx5⟩
      have HPc := hide (fun w1 => kpick_any c 256 w1 Hcr.out (by omega))
      have hm256 := mPick_lt c (n := 256) (by omega)
      obtain ⟨m, hme⟩ : ∃ m, mPick c 256 = m := ⟨_, rfl⟩
      rw [hme] at h5 HPc hm256
      have G5 := hide h5
      have HX5 := hide (HX4.out.trans' hx5)
      have Hm := hide hm256
      clear h5 hx5 hme hm256 Hoc4
      obtain ⟨q, hq3, HQ⟩ : ∃ q, q < 3 ∧ Hid ((j < hows.length → ∃ hn, (-9223372036854775808 ≤ hn ∧ hn ≤ 9223372036854775807) ∧ mPick hn 3 = q ∧ ∃ hb hf, ho = some ⟨hb, hf, none⟩ ∧ w5.cell? ⟨hb, hf + j, none⟩ = some (.int .i64 hn)) ∧ (¬ j < hows.length → q = 0)) := by
        by_cases hh : j < hows.length
        · obtain ⟨hn, hh0⟩ := getElem?_of_lt hh
          obtain ⟨hr, hb, hf, rfl, hlo, hcell⟩ := HHw.out.2 j hn hh0
          refine ⟨mPick hn 3, mPick_lt hn (by omega), ⟨fun _ => ⟨hn, hr, rfl, hb, hf, rfl, ?_⟩, fun q => absurd hh q⟩⟩
          exact ext_cell (HXx.out.trans' (HX5.out.weak (X := X) HYX.out)) (fun q => by have := HXr.out _ q; omega) hcell
        · exact ⟨0, by omega, ⟨fun q => absurd q hh, fun _ => rfl⟩⟩
      by_cases hh : j < hows.length
      · obtain ⟨hn, hr, hqe, hb, hf, rfl, hcell⟩ := HQ.out.1 hh
        have hh' : (j : Int) < (hows.length : Int) := by omega
        have HPh := hide (fun w1 => kpick_any hn 3 w1 hr (by omega))
        rw [hqe] at HPh
        clear hr hqe HQ
        go_wp2_with fail
        refine (HPh.out _).mono ?_
        rintro e w' ⟨rfl, hw⟩
        obtain rfl := hw.symm
        clear hcell
        go_wp2_with fail
        refine (ov_w2 G5.out hlt5).mono ?_
        rintro e w6 ⟨rfl, h6, hx6⟩
        have G6 := hide h6
        have HX6 := hide (HX5.out.trans' hx6)
        clear h6 hx6
        go_wp2_with fail
        refine (ov_w3 G6.out).mono ?_
        rintro e w7 ⟨rfl, h7, hx7⟩
        have G7 := hide h7
        have HX7 := hide (HX6.out.trans' hx7)
        clear h7 hx7
        go_wp2_with fail
        refine (ov_bind Hm.out G7.out hlt5 q (by omega)).mono ?_
        rintro e w8 ⟨rfl, h8, hx8⟩
        have G8 := hide h8
        have HX8 := hide (HX7.out.trans' hx8)
        clear h8 hx8
        go_wp2_with fail
        refine (ov_c2 G8.out).mono ?_
        rintro e w9 ⟨rfl, h9, hx9⟩
        have G9 := hide h9
        have HX9 := hide (HX8.out.trans' hx9)
        clear h9 hx9
        go_wp2_with fail
        refine (ov_c3 G9.out).mono ?_
        rintro e w10 ⟨rfl, h10, hx10⟩
        have G10 := hide h10
        have HX10 := hide (HX9.out.trans' hx10)
        clear h10 hx10
        have Hoc10 : w10.cell? ⟨ob, of + j, none⟩ = some (.int .i64 c) := ext_cell HX10.out (fun q => HnX.out (HYX.out _ q)) Hoc.out
        go_wp2_with fail
        refine (HPc.out _).mono ?_
        rintro e w' ⟨rfl, hw⟩
        obtain rfl := hw.symm
        have HW := hide (HXx.out.trans' (HX10.out.weak (X := X) HYX.out))
        have HM10 := hide (Mid.start (HR.out.keptBlock (fun k hk => HX10.out.block k (own_lt HR.out k hk) (HR.out.2.2 k hk).2)) (HM.out.keptBlock (fun k hk => HX10.out.block k (own_lt HM.out k hk) (HM.out.2.2 k hk).2)))
        clear Hoc10
        have hq' : q = 0 ∨ q = 1 ∨ q = 2 := by omega
        rcases hq' with rfl | rfl | rfl
        · go_wp2_with fail
          have M1 := (HM10.out.litS (dN j)).litI m
          rw [World.size_alloc] at M1
          go_roundw
          case rel => exact ⟨j + 1, by omega, by omega, by go_num, OvTurn.next (n := 1) rfl rfl (by show 1 ≤ j + 1 + 1; omega) (fun t ht => by rcases mem_newRow ht with rfl | ht; exact isName_size (isName_dN hlt5); exact HNs.out t ht) G10.out M1 HYX.out HW.out HXl.out⟩
          case measure => simp [intOf]; omega
        · go_wp2_with (at_builtin; first | (refine wpList_append_Own _ rfl _ _ 35 rfl _ 9 (.string ⟨#[]⟩) 1 16 Tryz.underlying35 infoString rfl (by decide) (.slice (some ⟨w10.heap.size, 0, none⟩) 1 1) (strRows [dN j]) rfl (HM10.out.litS (dN j)).rows (.slice ro ns.length rc) (strRows ns) rfl (HM10.out.alloc _).srcS (1 + ns.length) (by rw [len_strRows, len_strRows]; rfl) (by unfold maxLen; omega) (by omega) ?_; intro ao1 c1 v1 ho1 hg1 hb1; have HA1 := hide ((HM10.out.litS (dN j)).appS ho1 hg1); clear ho1 hg1 hb1) | (refine wpList_append_Own _ rfl _ _ 58 rfl _ 3 (.int .i64 0) 1 8 Tryz.underlying58 infoInt rfl (by decide) (.slice (some ⟨v1.heap.size, 0, none⟩) 1 1) (intRows [m]) rfl (HA1.out.litI m).masks (.slice mo ns.length mc) (intRows ms) rfl (HA1.out.alloc _).srcI (1 + ns.length) (by rw [len_intRows, len_intRows, hml]; rfl) (by unfold maxLen; omega) (by omega) ?_; intro ao2 c2 v2 ho2 hg2 hb2; have HA2 := hide ((HA1.out.litI m).appI ho2 hg2); clear ho2 hg2 hb2))
          go_roundw
          case rel => exact ⟨j + 1, by omega, by omega, by go_num, OvTurn.next (n := 1 + ns.length) (by simp [newRow]; try omega) (by simp [newRow, hml]) (by simp [newRow]; omega) (fun t ht => by rcases mem_newRow ht with rfl | ht; exact isName_size (isName_dN hlt5); exact HNs.out t ht) G10.out HA2.out HYX.out HW.out HXl.out⟩
          case measure => simp [intOf]; omega
        · go_wp2_with (at_builtin; first | (refine wpList_append_Own _ rfl _ _ 35 rfl _ 9 (.string ⟨#[]⟩) 1 16 Tryz.underlying35 infoString rfl (by decide) (.slice ro ns.length rc) (strRows ns) rfl (HM10.out.alloc _).rows (.slice (some ⟨w10.heap.size, 0, none⟩) 1 1) (strRows [dN j]) rfl (HM10.out.litS (dN j)).srcS (ns.length + 1) (by rw [len_strRows, len_strRows]; rfl) (by unfold maxLen; omega) (by omega) ?_; intro ao1 c1 v1 ho1 hg1 hb1; have HA1 := hide ((HM10.out.alloc (.cells #[.string (dN j)] 9)).appS ho1 hg1); clear ho1 hg1 hb1) | (refine wpList_append_Own _ rfl _ _ 58 rfl _ 3 (.int .i64 0) 1 8 Tryz.underlying58 infoInt rfl (by decide) (.slice mo ns.length mc) (intRows ms) rfl (HA1.out.alloc _).masks (.slice (some ⟨v1.heap.size, 0, none⟩) 1 1) (intRows [m]) rfl (HA1.out.litI m).srcI (ns.length + 1) (by rw [len_intRows, len_intRows, hml]; rfl) (by unfold maxLen; omega) (by omega) ?_; intro ao2 c2 v2 ho2 hg2 hb2; have HA2 := hide ((HA1.out.alloc (.cells #[.int .i64 (m : Int)] 3)).appI ho2 hg2); clear ho2 hg2 hb2))
          go_roundw
          case rel => exact ⟨j + 1, by omega, by omega, by go_num, OvTurn.next (n := ns.length + 1) (by simp [newRow]; try omega) (by simp [newRow, hml]) (by simp [newRow]; omega) (fun t ht => by rcases mem_newRow ht with rfl | ht; exact isName_size (isName_dN hlt5); exact HNs.out t ht) G10.out HA2.out HYX.out HW.out HXl.out⟩
          case measure => simp [intOf]; omega
      · have hh' : ¬ (j : Int) < (hows.length : Int) := by omega
        obtain rfl := HQ.out.2 hh
        clear HQ
        go_wp2_with fail
        refine (ov_w2 G5.out hlt5).mono ?_
        rintro e w6 ⟨rfl, h6, hx6⟩
        have G6 := hide h6
        have HX6 := hide (HX5.out.trans' hx6)
        clear h6 hx6
        go_wp2_with fail
        refine (ov_w3 G6.out).mono ?_
        rintro e w7 ⟨rfl, h7, hx7⟩
        have G7 := hide h7
        have HX7 := hide (HX6.out.trans' hx7)
        clear h7 hx7
        go_wp2_with fail
        refine (ov_bind Hm.out G7.out hlt5 0 (by omega)).mono ?_
        rintro e w8 ⟨rfl, h8, hx8⟩
        have G8 := hide h8
        have HX8 := hide (HX7.out.trans' hx8)
        clear h8 hx8
        go_wp2_with fail
        refine (ov_c2 G8.out).mono ?_
        rintro e w9 ⟨rfl, h9, hx9⟩
        have G9 := hide h9
        have HX9 := hide (HX8.out.trans' hx9)
        clear h9 hx9
        go_wp2_with fail
        refine (ov_c3 G9.out).mono ?_
        rintro e w10 ⟨rfl, h10, hx10⟩
        have G10 := hide h10
        have HX10 := hide (HX9.out.trans' hx10)
        clear h10 hx10
        have Hoc10 : w10.cell? ⟨ob, of + j, none⟩ = some (.int .i64 c) := ext_cell HX10.out (fun q => HnX.out (HYX.out _ q)) Hoc.out
        go_wp2_with fail
        refine (HPc.out _).mono ?_
        rintro e w' ⟨rfl, hw⟩
        obtain rfl := hw.symm
        have HW := hide (HXx.out.trans' (HX10.out.weak (X := X) HYX.out))
        have HM10 := hide (Mid.start (HR.out.keptBlock (fun k hk => HX10.out.block k (own_lt HR.out k hk) (HR.out.2.2 k hk).2)) (HM.out.keptBlock (fun k hk => HX10.out.block k (own_lt HM.out k hk) (HM.out.2.2 k hk).2)))
        clear Hoc10
        go_wp2_with fail
        have M1 := (HM10.out.litS (dN j)).litI m
        rw [World.size_alloc] at M1
        go_roundw
        case rel => exact ⟨j + 1, by omega, by omega, by go_num, OvTurn.next (n := 1) rfl rfl (by show 1 ≤ j + 1 + 1; omega) (fun t ht => by rcases mem_newRow ht with rfl | ht; exact isName_size (isName_dN hlt5); exact HNs.out t ht) G10.out M1 HYX.out HW.out HXl.out⟩
        case measure => simp [intOf]; omega
    · have HNA := hide (namesAp HR.out (by omega) HNs.out)
      have HIA := hide (intsAp HM.out)
      have hcase : (others.length = 0) ∨ (0 < j ∧ ¬ (j : Int) < (others.length : Int)) ∨ (0 < j ∧ (j : Int) < (others.length : Int) ∧ ¬ (j : Int) < 5) := by omega
      rcases hcase with h0 | ⟨hj0, he⟩ | ⟨hj0, he, he5⟩
      · have he : ¬ (j : Int) < (others.length : Int) := by omega
        have hz : ((others.length : Int) == 0) = true := by simp [h0]
        go_wp2_with fail
        refine (ov_seen ro mo rc mc ns.length rfl HS.out HNA.out HIA.out).mono ?_
        rintro e v1 ⟨rfl, hs1, hx1⟩
        have HB := hide (show Below w.heap.size w v1 by
          have e1 := HXx.out.trans' (hx1.weak (X := X) HYX.out)
          rw [HX.out] at e1
          exact e1.toBelow (Nat.le_refl _))
        clear hs1 hx1
        go_wp2_with fail
        go_ret
        exact ⟨by simp, HB.out⟩
      · have hz : ((others.length : Int) == 0) = false := by rw [beq_eq_false_iff_ne]; omega
        go_wp2_with fail
        refine (ov_seen ro mo rc mc ns.length rfl HS.out HNA.out HIA.out).mono ?_
        rintro e v1 ⟨rfl, hs1, hx1⟩
        have GS := hide hs1
        have HZ := hide hx1
        clear hs1 hx1
        go_wp2_with fail
        refine (ov_w3' GS.out (by omega)).mono ?_
        rintro e v2 ⟨rfl, h2, hx2⟩
        have G2 := hide h2
        have HZ2 := hide (HZ.out.trans' hx2)
        clear h2 hx2
        go_wp2_with fail
        refine (ov_unbind hq G2.out).mono ?_
        rintro e v3 ⟨rfl, h3, hx3⟩
        have G3' := hide h3
        have HZ3 := hide (HZ2.out.trans' hx3)
        clear h3 hx3
        go_wp2_with fail
        refine (ov_c3' G3'.out).mono ?_
        rintro e v4 ⟨rfl, h4, hx4⟩
        have G4 := hide h4
        have HZ4 := hide (HZ3.out.trans' hx4)
        clear h4 hx4
        have HL := hide (law_last (X := X) ma G4.out HYX.out (HXx.out.trans' (HZ4.out.weak (X := X) HYX.out)) HXl.out HXr.out)
        go_wp2_with fail
        refine (HP.out _).mono ?_
        rintro e w' ⟨rfl, hw⟩
        obtain rfl := hw.symm
        go_wp2_with fail
        refine HL.out.mono ?_
        rintro e v5 ⟨rfl, hb5⟩
        have HB5 := hide hb5
        clear hb5
        go_wp2_with fail
        go_ret
        exact ⟨by simp, HB5.out⟩
      · have hz : ((others.length : Int) == 0) = false := by rw [beq_eq_false_iff_ne]; omega
        go_wp2_with fail
        refine (ov_seen ro mo rc mc ns.length rfl HS.out HNA.out HIA.out).mono ?_
        rintro e v1 ⟨rfl, hs1, hx1⟩
        have GS := hide hs1
        have HZ := hide hx1
        clear hs1 hx1
        go_wp2_with fail
        refine (ov_w3' GS.out (by omega)).mono ?_
        rintro e v2 ⟨rfl, h2, hx2⟩
        have G2 := hide h2
        have HZ2 := hide (HZ.out.trans' hx2)
        clear h2 hx2
        go_wp2_with fail
        refine (ov_unbind hq G2.out).mono ?_
        rintro e v3 ⟨rfl, h3, hx3⟩
        have G3' := hide h3
        have HZ3 := hide (HZ2.out.trans' hx3)
        clear h3 hx3
        go_wp2_with fail
        refine (ov_c3' G3'.out).mono ?_
        rintro e v4 ⟨rfl, h4, hx4⟩
        have G4 := hide h4
        have HZ4 := hide (HZ3.out.trans' hx4)
        clear h4 hx4
        have HL := hide (law_last (X := X) ma G4.out HYX.out (HXx.out.trans' (HZ4.out.weak (X := X) HYX.out)) HXl.out HXr.out)
        go_wp2_with fail
        refine (HP.out _).mono ?_
        rintro e w' ⟨rfl, hw⟩
        obtain rfl := hw.symm
        go_wp2_with fail
        refine HL.out.mono ?_
        rintro e v5 ⟨rfl, hb5⟩
        have HB5 := hide hb5
        clear hb5
        go_wp2_with fail
        go_ret
        exact ⟨by simp, HB5.out⟩
end Go.Proofs.YtdmdgnghaceibaaGreat.P
/- From a call of one goroutine to a row that says 'leaving' and that time passes. -/
namespace Go.Proofs.YtdmdgnghaceibaaGreat
open Go.ChangeShapes Go.WideShapes Go.ChangeAt Go.RowKit
set_option linter.unusedVariables false

theorem own : ownKnob Tryz.prog.godebug = none := by kernel_rfl

/-- Who is alone at the return has nobody that still leaves. -/
theorem onlyLeaving_of_quiet {P : Program} {m : Machine} (h : m.quiet) : m.OnlyLeaving P := by
  refine ⟨fun g hg => ⟨0, ?_⟩, h.2⟩
  have h1 := h.1
  unfold Machine.othersDone at h1
  simp only [List.all_eq_true] at h1
  have := h1 g hg
  show g.status = .finished
  cases hs : g.status with
  | finished => rfl
  | _ => rw [hs] at this; cases this

theorem leaving_of_handed {a : Assume} {C : Checked} {os : Os} {f : FuncId} {r : Reach} {Pre : World → Array Value → Prop} {Post : World → Array Value → Value → World → Prop}
    (h : ReturnsInHanded a C os f r Pre Post) : ReturnsInLeavingWide a C os f r Pre Post := fun enter =>
  ReturnsInOpen.mono (fun _ _ _ x => ⟨x.2.1, onlyLeaving_of_quiet x.1, x.2.2⟩) (fun _ x => x) (h enter)

section
variable {H : Type} {enc : TypeId × Value → H}

/-- A contract over one goroutine, as the row asks it. -/
theorem leaving_of_change {a : Assume} {C : Checked} {os : Os} {f : FuncId} {fn : Func} {s : ChangeSpec} {F : Stop.Interp} {conds : List PathCond} {apart fresh handsOn : Bool}
    (own : ownKnob C.prog.godebug = none) (started : os.Started) (noInit : C.prog.inits.idxOf? f = none) (hfn : C.prog.funcs[f]? = some fn)
    (witness : ∃ (w : World) (tape : Tape) (i : Input), w.os = os ∧ (w.forCall tape i).Shaped C.prog ∧ i.vars = [] ∧ Input.okWide C.prog (w.forCall tape i) .any w.heap.size f i ∧
      s.pre6 enc C.prog fn conds apart (w.forCall tape i).memory i.args ∧ a.holds C.prog (lone (Frame.enter C.prog f i.args .normal) [] (w.forCall tape i)))
    (contract : ∀ (W : World) (base : Nat) (args : Array Value) (ds gs : List (DataW H)) (before : List MemPlace),
      (∀ (j : Nat) t v, fn.params[j]? = some t → args[j]? = some v → Value.okWide C.prog W .any base t v) →
      DataW.Whole enc C.prog fn.params.toList s.vars apart W args.toList ds gs before →
      conds.all (PathCond.test C.prog ⟨fn.params.toList, ds, s.plain.varTypes C.prog, gs⟩) = true →
      (DataW.weightsEach C.prog (fn.params.toList ++ s.plain.varTypes C.prog) (ds ++ gs)).all (· ≤ reachBytes) = true →
      Calls C.prog f args W fun e W' => ∃ v, e = .returned v ∧ W'.os = W.os ∧ s.post enc C.prog fn apart fresh handsOn false W args v W') :
    ReturnsInLeavingWide a C os f .any (s.pre6 enc C.prog fn conds apart) ((OpenSpec.ofChange s).postWith enc C.prog fn F (outsideKept [.timePasses]) apart fresh handsOn) := by
  refine leaving_of_handed (returnsInHanded_of_calls own started noInit witness ?_)
  intro w tape i _ _ _ hok hpre hholds
  obtain ⟨_, _, _, fn', hfn', _, _, _, _, hval⟩ := hok
  have e : fn' = fn := Option.some.inj (hfn'.symm.trans hfn)
  subst e
  obtain ⟨⟨ds, gs, before, hw, hc⟩, hz⟩ := hpre
  have hw' := DataW.Whole.of_heap (w' := w.forCall tape i) (by rfl) hw
  refine (contract (w.forCall tape i) w.heap.size i.args ds gs before hval hw' hc (hz.weights hw)).mono fun e W' ⟨v, he, hos, hp⟩ => ?_
  subst he
  refine postWith_blind (postWith_of_post ?_ (by rw [hos]; exact Go.ConcM.OsLater.refl _))
  have e1 : ({ W' with os := (w.forCall tape i).os } : World) = W' := by rw [← hos]
  rw [e1]
  exact hp
end
end Go.Proofs.YtdmdgnghaceibaaGreat
/- A script, and how it lies in memory. -/
namespace Go.Proofs.YtdmdgnghaceibaaGreat.P
open M Go.ChangeShapes Go.WideShapes Go.ChangeAt Go.RowKit Go.Deep
set_option linter.unusedVariables false

/-- A step of a script. -/
structure MOp where
  kind : Int
  k : Int
  fid : Int
  a : Int
  b : Int
  text : ByteArray
  yes : Bool
  names : List ByteArray
  deriving Inhabited

/-- A script that came in. -/
structure OpAt (W : World) (sb so i : Nat) (o : MOp) (nao : Option Addr) (nc : Nat) : Prop where
  c0 : W.cell? ⟨sb, so + i * 8, none⟩ = some (.int .i64 o.kind)
  c1 : W.cell? ⟨sb, so + i * 8 + 1, none⟩ = some (.int .i64 o.k)
  c2 : W.cell? ⟨sb, so + i * 8 + 2, none⟩ = some (.int .i64 o.fid)
  c3 : W.cell? ⟨sb, so + i * 8 + 3, none⟩ = some (.int .i64 o.a)
  c4 : W.cell? ⟨sb, so + i * 8 + 4, none⟩ = some (.int .i64 o.b)
  c5 : W.cell? ⟨sb, so + i * 8 + 5, none⟩ = some (.string o.text)
  c6 : W.cell? ⟨sb, so + i * 8 + 6, none⟩ = some (.bool o.yes)
  c7 : W.cell? ⟨sb, so + i * 8 + 7, none⟩ = some (.slice nao o.names.length nc)
  text : o.text.size ≤ maxLen
  ra : -9223372036854775808 ≤ o.a ∧ o.a ≤ 9223372036854775807
  names : NamesAt W nao o.names
  low : ∀ a, nao = some a → o.names ≠ [] → a.block < W.heap.size

def ScriptAt (W : World) (ao : Option Addr) (ops : List MOp) : Prop :=
  ops.length ≤ 1600000000000 ∧ ∀ (i : Nat) o, ops[i]? = some o → o.text.size ≤ 140737488355328 ∧ ∃ sb so nao nc, ao = some ⟨sb, so, none⟩ ∧ OpAt W sb so i o nao nc

theorem cellsOp : Tryz.prog.cellsOf 57 = 8 := by kernel_rfl
theorem cellsStr : Tryz.prog.cellsOf 9 = 1 := by kernel_rfl

theorem cell_spot {w : World} {a : Addr} {v : Value} (h : w.cell? a = some v) : a.spot = none := by
  unfold World.cell? at h
  split at h
  · cases hs : a.spot with
    | none => rfl
    | some q => rw [hs] at h; simp at h
  · cases h

section
variable {H : Type} {enc : TypeId × Value → H} {W : World}

/-- A list of texts that was read. -/
theorem open_names {fuel : Nat} {v : Value} {x : DataW H × List MemPlace} (h : DataW.trod enc Tryz.prog W 0 (fun _ => true) true fuel 35 [v] = some x) :
    ∃ (nao : Option Addr) (names : List ByteArray) (nc : Nat), v = .slice nao names.length nc ∧ NamesAt W nao names ∧ (∀ a, nao = some a → names ≠ [] → a.block < W.heap.size) := by
  rcases open_strs Tryz.underlying35 Tryz.underlying9 cellsStr h with ⟨hc, _⟩ | ⟨a, len, cap, m, Sx, hc, _, hl, hm, hmm, _, hx⟩
  · simp only [List.cons.injEq, and_true] at hc
    exact ⟨none, [], 0, hc, ⟨by simp [maxLen], fun i s hs => by simp at hs⟩, fun a h => by cases h⟩
  · simp only [List.cons.injEq, and_true] at hc
    have hlm : len ≤ m := by rw [hmm]; split <;> omega
    refine ⟨some a, (List.range len).map Sx, cap, by simpa using hc, ⟨by simp; omega, fun i s hs => ?_⟩, fun a' ha hne => ?_⟩
    · have hi : i < len := by have := M.lt_of_getElem? hs; simpa using this
      have hsp : a.spot = none := cell_spot (hx 0 (by omega)).1
      rw [List.getElem?_map, List.getElem?_range hi] at hs
      simp at hs
      subst hs
      obtain ⟨h1, h2⟩ := hx i (by omega)
      obtain ⟨nb, no, sp⟩ := a
      have hsp : sp = none := hsp
      subst hsp
      rw [Addr.add_lit] at h1
      exact ⟨h2, nb, no, rfl, h1⟩
    · cases ha
      have hlen : 0 < len := by
        cases len with
        | zero => simp at hne
        | succ n => omega
      exact World.block_lt_of_cell? W _ (hx 0 (by omega)).1

theorem list8 {α : Type} {l : List α} (h : l.length = 8) : ∃ a0 a1 a2 a3 a4 a5 a6 a7, l = [a0, a1, a2, a3, a4, a5, a6, a7] := by
  cases l with
  | nil => cases h
  | cons a0 l => cases l with
    | nil => cases h
    | cons a1 l => cases l with
      | nil => cases h
      | cons a2 l => cases l with
        | nil => cases h
        | cons a3 l => cases l with
          | nil => cases h
          | cons a4 l => cases l with
            | nil => cases h
            | cons a5 l => cases l with
              | nil => cases h
              | cons a6 l => cases l with
                | nil => cases h
                | cons a7 l => cases l with
                  | nil => exact ⟨a0, a1, a2, a3, a4, a5, a6, a7, rfl⟩
                  | cons b l => simp at h

theorem range_i64 {n : Int} (h : (Lit.int .i64 n).wf = true) : -9223372036854775808 ≤ n ∧ n ≤ 9223372036854775807 := by
  have e1 : IntKind.i64.min = -9223372036854775808 := by decide
  have e2 : IntKind.i64.max = 9223372036854775807 := by decide
  simp only [Lit.wf, e1, e2, Bool.and_eq_true, decide_eq_true_eq] at h
  exact h
theorem mem_weightsAll {P : Program} {e : TypeId} {n : Nat} : ∀ {l : List (DataW H)} {d : DataW H}, d ∈ l → n ∈ d.weights P e → n ∈ DataW.weightsAll P e l
  | x :: l, d, h, hn => by
    rw [DataW.weightsAll, List.mem_append]
    rcases List.mem_cons.1 h with rfl | h
    · exact .inl hn
    · exact .inr (mem_weightsAll h hn)

set_option maxRecDepth 20000 in
/-- A step that was read. -/
theorem open_op {fuel : Nat} {a : Addr} {i : Nat} {cs : List Value} {x : DataW H × List MemPlace} (hsp : a.spot = none) (hc : W.cells? 0 (a.add (i * 8)) 8 = some cs) (h : DataW.trod enc Tryz.prog W 0 (fun _ => true) true fuel 57 cs = some x) :
    ∃ (o : MOp) (nao : Option Addr) (nc : Nat), OpAt W a.block a.off i o nao nc ∧ o.text.size ∈ x.1.weights Tryz.prog 57 := by
  obtain ⟨_, hlen, hcell⟩ := World.cells?_some hc
  obtain ⟨xs, n, rfl, hx0, _, hxl, hf⟩ := DataW.trod_struct Tryz.underlying57 h
  obtain ⟨v0, v1, v2, v3, v4, v5, v6, v7, rfl⟩ := list8 hlen
  obtain ⟨y0, y1, y2, y3, y4, y5, y6, y7, rfl⟩ := list8 (hxl.trans (by kernel_rfl))
  have c3 : Tryz.prog.cellsOf 3 = 1 := by kernel_rfl
  have c9 : Tryz.prog.cellsOf 9 = 1 := by kernel_rfl
  have c4 : Tryz.prog.cellsOf 4 = 1 := by kernel_rfl
  have c35 : Tryz.prog.cellsOf 35 = 1 := by kernel_rfl
  have g0 : DataW.trod enc Tryz.prog W 0 (fun _ => true) true n 3 [v0] = some y0 := by
    have hh := hf 0 _ rfl
    simp [c3] at hh
    exact hh
  have g1 : DataW.trod enc Tryz.prog W 0 (fun _ => true) true n 3 [v1] = some y1 := by
    have hh := hf 1 _ rfl
    simp [c3] at hh
    exact hh
  have g2 : DataW.trod enc Tryz.prog W 0 (fun _ => true) true n 3 [v2] = some y2 := by
    have hh := hf 2 _ rfl
    simp [c3] at hh
    exact hh
  have g3 : DataW.trod enc Tryz.prog W 0 (fun _ => true) true n 3 [v3] = some y3 := by
    have hh := hf 3 _ rfl
    simp [c3] at hh
    exact hh
  have g4 : DataW.trod enc Tryz.prog W 0 (fun _ => true) true n 3 [v4] = some y4 := by
    have hh := hf 4 _ rfl
    simp [c3] at hh
    exact hh
  have g5 : DataW.trod enc Tryz.prog W 0 (fun _ => true) true n 9 [v5] = some y5 := by
    have hh := hf 5 _ rfl
    simp [c9] at hh
    exact hh
  have g6 : DataW.trod enc Tryz.prog W 0 (fun _ => true) true n 4 [v6] = some y6 := by
    have hh := hf 6 _ rfl
    simp [c4] at hh
    exact hh
  have g7 : DataW.trod enc Tryz.prog W 0 (fun _ => true) true n 35 [v7] = some y7 := by
    have hh := hf 7 _ rfl
    simp [c35] at hh
    exact hh
  clear hf
  obtain ⟨k0, e0, _, _⟩ := DataW.trod_int Tryz.underlying3 g0
  obtain ⟨k1, e1, _, _⟩ := DataW.trod_int Tryz.underlying3 g1
  obtain ⟨k2, e2, _, _⟩ := DataW.trod_int Tryz.underlying3 g2
  obtain ⟨k3, e3, _, r3⟩ := DataW.trod_int Tryz.underlying3 g3
  obtain ⟨k4, e4, _, _⟩ := DataW.trod_int Tryz.underlying3 g4
  obtain ⟨tx, e5, d5, htx⟩ := DataW.trod_string Tryz.underlying9 g5
  obtain ⟨ye, e6, _⟩ := DataW.trod_bool Tryz.underlying4 g6
  obtain ⟨nao, names, nc, e7, hnm, hlow⟩ := open_names g7
  simp only [List.cons.injEq, and_true] at e0 e1 e2 e3 e4 e5 e6
  subst e0 e1 e2 e3 e4 e5 e6 e7
  obtain ⟨sb, so, sp⟩ := a
  have hsp : sp = none := hsp
  subst hsp
  simp only [Addr.add_lit] at hcell
  have hw : tx.size ∈ (DataW.agg ([y0, y1, y2, y3, y4, y5, y6, y7].map (·.1)) : DataW H).weights Tryz.prog 57 := by
    rw [DataW.weights]
    rw [show Tryz.prog.underlying 57 = _ from Tryz.underlying57]
    refine DataW.weights_mem_each (j := 5) (t := 9) (d := y5.1) rfl rfl _ ?_
    rw [d5]
    simp [DataW.weights]
  exact ⟨⟨k0, k1, k2, k3, k4, tx, ye, names⟩, nao, nc, ⟨hcell 0 (by omega), hcell 1 (by omega), hcell 2 (by omega), hcell 3 (by omega), hcell 4 (by omega), hcell 5 (by omega), hcell 6 (by omega), hcell 7 (by omega), htx, range_i64 r3, hnm, hlow⟩, by rw [hx0]; exact hw⟩

/-- A script that was read. -/
theorem open_script {ao : Option Addr} {len cap : Nat} {d : DataW H} {ps : List MemPlace} (h : DataW.Trod enc Tryz.prog W 0 (fun _ => true) true 22 (.slice ao len cap) d ps) :
    ∃ ops : List MOp, len = ops.length ∧ (len = 0 ∨ ∃ elems spare, d = .slice elems spare ∧ elems.length = len) ∧ (∀ (i : Nat) o, ops[i]? = some o → o.text.size ∈ d.weights Tryz.prog 22 ∧ ∃ sb so nao nc, ao = some ⟨sb, so, none⟩ ∧ OpAt W sb so i o nao nc) := by
  obtain ⟨fuel, h⟩ := h
  have hcs : (Value.slice ao len cap).cells.toList = [.slice ao len cap] := rfl
  rw [hcs] at h
  rcases open_slice Tryz.underlying22 h with ⟨hc, _⟩ | ⟨a, len', cap', m, n, D, Pl, hc, _, hl, hm, hmm, hxd, hx⟩
  · simp only [List.cons.injEq, Value.slice.injEq, and_true] at hc
    obtain ⟨rfl, rfl, rfl⟩ := hc
    exact ⟨[], rfl, .inl rfl, fun i o ho => by simp at ho⟩
  · simp only [List.cons.injEq, Value.slice.injEq, and_true] at hc
    obtain ⟨rfl, rfl, rfl⟩ := hc
    have hlm : len ≤ m := by rw [hmm]; split <;> omega
    rw [cellsOp] at hx
    have each : ∀ i, i < len → ∃ q : MOp × Option Addr × Nat, a.spot = none ∧ OpAt W a.block a.off i q.1 q.2.1 q.2.2 ∧ q.1.text.size ∈ (D i).weights Tryz.prog 57 := fun i hi => by
      have hsp : a.spot = none := by
        obtain ⟨cs, h1, _⟩ := hx 0 (by omega)
        obtain ⟨_, hlen, hcell⟩ := World.cells?_some h1
        obtain ⟨v0, v1, v2, v3, v4, v5, v6, v7, rfl⟩ := list8 hlen
        have h0 := hcell 0 (by omega)
        rw [Nat.zero_mul] at h0
        exact cell_spot (a := a) h0
      obtain ⟨cs, h1, h2⟩ := hx i (by omega)
      obtain ⟨o, nao, nc, ho⟩ := open_op hsp h1 h2
      exact ⟨(o, nao, nc), hsp, ho⟩
    obtain ⟨q, hq⟩ := choose_lt each
    refine ⟨(List.range len).map (fun i => (q i).1), by simp, .inr ⟨_, _, (Prod.mk.inj hxd).1, by simp⟩, fun i o ho => ?_⟩
    have hi : i < len := by have := M.lt_of_getElem? ho; simpa using this
    rw [List.getElem?_map, List.getElem?_range hi] at ho
    simp at ho
    subst ho
    obtain ⟨hsp, ho, hw⟩ := hq i hi
    obtain ⟨sb, so, sp⟩ := a
    have hsp : sp = none := hsp
    subst hsp
    refine ⟨?_, sb, so, (q i).2.1, (q i).2.2, rfl, ho⟩
    rw [(Prod.mk.inj hxd).1, DataW.weights, Tryz.underlying22]
    refine List.mem_cons_of_mem _ (List.mem_append_left _ (mem_weightsAll (d := D i) ?_ hw))
    exact List.mem_map.2 ⟨i, List.mem_range.2 hi, rfl⟩
end
end Go.Proofs.YtdmdgnghaceibaaGreat.P
