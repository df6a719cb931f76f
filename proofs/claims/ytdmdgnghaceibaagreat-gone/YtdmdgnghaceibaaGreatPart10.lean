/- 'Gone' walked. -/
import Derived.Test.YtdmdgnghaceibaaGreatPart09
import Derived.Test.YtdmdgnghaceibaaGreatRows
import Derived.Conc.HoldsTime
import Derived.Handed
import Derived.SizedLaws
import Derived.OpenShut
import Derived.Test.YtdmdgnghaceibaaGreatPart02
import Derived.Deep.Strs
import Derived.Carry
namespace Go.Proofs.YtdmdgnghaceibaaGreat.P
open M Go.ChangeShapes Go.WideShapes Go.ChangeAt Go.RowKit
set_option linter.unusedVariables false

/-- A Server in such a state. -/
def KG (w : World) (X : Nat → Prop) (s : Nat) (nodes : List Nd) (fids : List Fid) : Prop := ∃ c, KSrv w X s (Gs nodes fids c) ∧ KOk (Gs nodes fids c)
/-- A call ends with this error, in such a state. -/
def KE (w : World) (X : Nat → Prop) (s : Nat) (nodes : List Nd) (fids : List Fid) (v : Value) (e : Ending) (w' : World) : Prop := e = .returned v ∧ KG w' X s nodes fids ∧ Ext X w w'

theorem KG.below {w w2 : World} {X : Nat → Prop} {s : Nat} {nodes : List Nd} {fids : List Fid} (h : KG w X s nodes fids) (hb : Below w.heap.size w w2) : KG w2 X s nodes fids := by
  obtain ⟨c, h, k⟩ := h
  exact ⟨c, h.below hb, k⟩

section
variable {w : World} {X : Nat → Prop} {s : Nat} {L D : ByteArray}

theorem kg_dir (h : KG w X s [root, firstNd] [f0]) : Calls Tryz.prog 35 #[.pointer (some ⟨s, 0, none⟩), .string ⟨#[100]⟩] w fun e w' => KE w X s [root, firstNd, dNd] [f0] (.bool true) e w' := by
  obtain ⟨c, h, k⟩ := h
  refine (kdir_any dName h k (q_z [root, firstNd] [] (by simp)) isName_d (by show List.findIdx? (liesHere 0 dName) [root, firstNd] = none; decide +kernel) (by show liveNodes [root, firstNd] < 100; decide) (by show [root, firstNd].length < 100000; decide)).mono ?_
  rintro e w' ⟨rfl, c', h', k', hx⟩
  exact ⟨rfl, ⟨c', h', k'⟩, hx⟩
theorem kg_file (h : KG w X s [root, firstNd, dNd] [f0]) (hL : isName L = true) (hD : D.size ≤ 300) : Calls Tryz.prog 36 #[.pointer (some ⟨s, 0, none⟩), .string ⟨#[100]⟩, .string L, .string D] w fun e w' => KE w X s (gN L D) [f0] (.bool true) e w' := by
  obtain ⟨c, h, k⟩ := h
  refine (kfile_any dName L D 2 h k (q_z _ [] (by simp)) g_dir hL g_none (by show liveNodes [root, firstNd, dNd] < 100; decide) (by show [root, firstNd, dNd].length < 100000; decide) hD).mono ?_
  rintro e w' ⟨rfl, c', h', k', hx⟩
  exact ⟨rfl, ⟨c', h', k'⟩, hx⟩
theorem kg_again (h : KG w X s (gM L D) [f0, F3, F5]) (hL : isName L = true) : Calls Tryz.prog 36 #[.pointer (some ⟨s, 0, none⟩), .string ⟨#[100]⟩, .string L, .string ⟨#[110, 101, 119]⟩] w fun e w' => KE w X s (gO L D) [f0, F3, F5] (.bool true) e w' := by
  obtain ⟨c, h, k⟩ := h
  refine (kfile_any dName L newText 2 h k (q_z _ [F3, F5] (by simp [F3, F5])) g_dir hL g_gone (by simp [Gs, liveNodes, root, firstNd, dNd, newNd, gFile]) (by simp [Gs]) (by decide)).mono ?_
  rintro e w' ⟨rfl, c', h', k', hx⟩
  exact ⟨rfl, ⟨c', h', k'⟩, hx⟩
theorem kg_w2 (h : KG w X s (gN L D) [f0]) (hL : isName L = true) (hl : L.size ≤ maxLen) : Calls Tryz.prog 14 #[.pointer (some ⟨s, 0, none⟩), .int .i64 0, .int .i64 2, .slice (some ⟨w.heap.size, 0, none⟩) 2 2] (w.alloc (.cells #[.string ⟨#[100]⟩, .string L] 9)) fun e w' => KE w X s (gN L D) [f0, F2] (.tuple #[.int .i64 2, .int .i64 0]) e w' := by
  obtain ⟨c, h, k⟩ := h
  have k2 := k.walk 0 2 [dName, L]
  have hc := k_walk2 0 2 dName L 2 h k.ok (by decide) hl
  rw [q_w2 k.tree hL] at hc k2
  refine hc.mono ?_
  rintro e w' ⟨rfl, h', hx⟩
  exact ⟨rfl, ⟨_, h', k2⟩, hx⟩
theorem kg_w3 (h : KG w X s (gN L D) [f0, F2]) (hL : isName L = true) (hl : L.size ≤ maxLen) : Calls Tryz.prog 14 #[.pointer (some ⟨s, 0, none⟩), .int .i64 0, .int .i64 3, .slice (some ⟨w.heap.size, 0, none⟩) 2 2] (w.alloc (.cells #[.string ⟨#[100]⟩, .string L] 9)) fun e w' => KE w X s (gN L D) [f0, F2, F3] (.tuple #[.int .i64 2, .int .i64 0]) e w' := by
  obtain ⟨c, h, k⟩ := h
  have k2 := k.walk 0 3 [dName, L]
  have hc := k_walk2 0 3 dName L 2 h k.ok (by decide) hl
  rw [q_w3 k.tree hL] at hc k2
  refine hc.mono ?_
  rintro e w' ⟨rfl, h', hx⟩
  exact ⟨rfl, ⟨_, h', k2⟩, hx⟩
theorem kg_w4 (h : KG w X s (gN L D) [f0, F2, F3]) : Calls Tryz.prog 14 #[.pointer (some ⟨s, 0, none⟩), .int .i64 0, .int .i64 4, .slice (some ⟨w.heap.size, 0, none⟩) 1 1] (w.alloc (.cells #[.string ⟨#[100]⟩] 9)) fun e w' => KE w X s (gN L D) [f0, F2, F3, ⟨4, wd, false⟩] (.tuple #[.int .i64 1, .int .i64 0]) e w' := by
  obtain ⟨c, h, k⟩ := h
  have k2 := k.walk 0 4 [dName]
  have hc := k_walk1 0 4 dName 1 h k.ok (by decide)
  rw [q_w4 k.tree] at hc k2
  refine hc.mono ?_
  rintro e w' ⟨rfl, h', hx⟩
  exact ⟨rfl, ⟨_, h', k2⟩, hx⟩
theorem kg_r4 (h : KG w X s (gN L D) [f0, F2, F3, ⟨4, wd, false⟩]) : Calls Tryz.prog 21 #[.pointer (some ⟨s, 0, none⟩), .int .i64 4] w fun e w' => KE w X s (gN L D) [f0, F2, F3] (.int .i64 10) e w' := by
  obtain ⟨c, h, k⟩ := h
  have k2 := k.remove 4
  have hc := k_remove 4 h k
  rw [show mRemove (Gs (gN L D) [f0, F2, F3, ⟨4, wd, false⟩] c) 4 = _ from q_r4] at hc k2
  refine hc.mono ?_
  rintro e w' ⟨rfl, h', hx⟩
  exact ⟨rfl, ⟨_, h', k2⟩, hx⟩
theorem kg_c4 (h : KG w X s (gN L D) [f0, F2, F3]) : Calls Tryz.prog 22 #[.pointer (some ⟨s, 0, none⟩), .int .i64 4] w fun e w' => KE w X s (gN L D) [f0, F2, F3] (.int .i64 2) e w' := by
  obtain ⟨c, h, k⟩ := h
  have k2 := k.clunk 4
  have hc := k_clunk 4 h k.ok
  rw [q_c4] at hc k2
  refine hc.mono ?_
  rintro e w' ⟨rfl, h', hx⟩
  exact ⟨rfl, ⟨_, h', k2⟩, hx⟩
theorem kg_r2 (h : KG w X s (gN L D) [f0, F2, F3]) : Calls Tryz.prog 21 #[.pointer (some ⟨s, 0, none⟩), .int .i64 2] w fun e w' => KE w X s (gM L D) [f0, F3] (.int .i64 0) e w' := by
  obtain ⟨c, h, k⟩ := h
  have k2 := k.remove 2
  have hc := k_remove 2 h k
  rw [q_r2] at hc k2
  refine hc.mono ?_
  rintro e w' ⟨rfl, h', hx⟩
  exact ⟨rfl, ⟨_, h', k2⟩, hx⟩
theorem kg_o3 {nodes : List Nd} {rest : List Fid} {x : Nd} (h : KG w X s nodes (f0 :: F3 :: rest)) (hx : nodes[3]? = some x) (hg : x.gone = true) : Calls Tryz.prog 15 #[.pointer (some ⟨s, 0, none⟩), .int .i64 3] w fun e w' => KE w X s nodes (f0 :: F3 :: rest) (.int .i64 4) e w' := by
  obtain ⟨c, h, k⟩ := h
  have k2 := k.open 3
  have hc := k_open 3 h k.ok
  rw [q_o3 nodes rest (by simp only [isGone, Gs, hx]; exact hg)] at hc k2
  refine hc.mono ?_
  rintro e w' ⟨rfl, h', hx⟩
  exact ⟨rfl, ⟨_, h', k2⟩, hx⟩
theorem kg_s3 (h : KG w X s (gM L D) [f0, F3]) : Calls Tryz.prog 20 #[.pointer (some ⟨s, 0, none⟩), .int .i64 3] w fun e w' => KE w X s (gM L D) [f0, F3] (.tuple #[pStatV noStat, .int .i64 4]) e w' := by
  obtain ⟨c, h, k⟩ := h
  have k2 : KOk (mStat (Gs (gM L D) [f0, F3] c) 3).1 := by rw [mStat_tick]; exact k.tick
  have hc := k_stat 3 h k
  rw [q_s3] at hc k2
  refine hc.mono ?_
  rintro e w' ⟨rfl, h', hx⟩
  exact ⟨rfl, ⟨_, h', k2⟩, hx⟩
theorem kg_w5 (b : Nat) (hb : b = w.heap.size) (h : KG w X s (gM L D) [f0, F3]) : Calls Tryz.prog 14 #[.pointer (some ⟨s, 0, none⟩), .int .i64 3, .int .i64 5, .slice (some ⟨b, 0, none⟩) 1 1] (w.alloc (.cells #[.string ⟨#[46, 46]⟩] 9)) fun e w' => KE w X s (gM L D) [f0, F3, F5] (.tuple #[.int .i64 1, .int .i64 0]) e w' := by
  subst hb
  obtain ⟨c, h, k⟩ := h
  have k2 := k.walk 3 5 [⟨#[46, 46]⟩]
  have hc := k_walk1 3 5 ⟨#[46, 46]⟩ 1 h k.ok (by decide)
  rw [q_w5] at hc k2
  refine hc.mono ?_
  rintro e w' ⟨rfl, h', hx⟩
  exact ⟨rfl, ⟨_, h', k2⟩, hx⟩
/-- The empty list. -/
def KL (w : World) (X : Nat → Prop) (s : Nat) (nodes : List Nd) (fids : List Fid) (e : Ending) (w' : World) : Prop := ∃ ao c, e = .returned (.tuple #[.slice ao 0 c, .bool true]) ∧ KG w' X s nodes fids ∧ Ext X w w'
theorem kg_list (h : KG w X s (gM L D) [f0, F3, F5]) : Calls Tryz.prog 37 #[.pointer (some ⟨s, 0, none⟩), .string ⟨#[100]⟩] w fun e w' => KL w X s (gM L D) [f0, F3, F5] e w' := by
  obtain ⟨c, h, k⟩ := h
  have hc := klisted_any dName ⟨2, [⟨2, true⟩]⟩ h k (q_z _ [F3, F5] (by simp [F3, F5])) isName_d (g_dir.step k.tree) rfl rfl
  rw [show listUpto (Gs (gM L D) [f0, F3, F5] c) (Spot.row ⟨2, [⟨2, true⟩]⟩) (Spot.row ⟨2, [⟨2, true⟩]⟩).length = [] from g_list] at hc
  refine hc.mono ?_
  rintro e w' ⟨ao, cc, rfl, _, _, ⟨c', h'⟩, hx⟩
  exact ⟨ao, cc, rfl, ⟨c', h'.more (fun k hk => hk.1), k.counted c'⟩, hx⟩
theorem kg_told (h : KG w X s (gO L D) [f0, F3, F5]) (hL : isName L = true) : Calls Tryz.prog 38 #[.pointer (some ⟨s, 0, none⟩), .slice (some ⟨w.heap.size, 0, none⟩) 2 2] (w.alloc (.cells #[.string ⟨#[100]⟩, .string L] 9)) fun e w' => KE w X s (gO L D) [f0, F3, F5] (.string ⟨#[110, 101, 119]⟩) e w' := by
  obtain ⟨c, h, k⟩ := h
  refine (ktold2 dName L 2 (wd ++ [⟨4, []⟩]) ⟨4, []⟩ (gFile L newText false) h k (q_z _ [F3, F5] (by simp [F3, F5])) isName_d hL (g_go2 newText k.tree hL) (last_snoc _ _) rfl rfl rfl).mono ?_
  rintro e w' ⟨rfl, c', h', hx⟩
  exact ⟨rfl, ⟨c', h', k.counted c'⟩, hx⟩
theorem kg_r3 (h : KG w X s (gO L D) [f0, F3, F5]) : Calls Tryz.prog 21 #[.pointer (some ⟨s, 0, none⟩), .int .i64 3] w fun e w' => e = .returned (.int .i64 4) ∧ Ext X w w' := by
  obtain ⟨c, h, k⟩ := h
  have hc := k_remove 3 h k
  rw [q_r3 (gO L D) [F5] (gFile L D true) rfl rfl] at hc
  refine hc.mono ?_
  rintro e w' ⟨rfl, h', hx⟩
  exact ⟨rfl, hx⟩
end

set_option maxRecDepth 20000 in
set_option maxHeartbeats 4000000 in
theorem kgone_any {w : World} (c : Int) (data : ByteArray) (hc : -9223372036854775808 ≤ c ∧ c ≤ 9223372036854775807) (hd : data.size ≤ 140737488355328) :
    Calls Tryz.prog 9 #[.int .i64 c, .string data] w fun e w' => e = .returned (.bool true) ∧ Below w.heap.size w w' := by
  obtain ⟨X, hX⟩ : ∃ X : Nat → Prop, X = fun k => w.heap.size ≤ k := ⟨_, rfl⟩
  have HO := hide (opened_any (w := w) (X := X) (fun k hk => by rw [hX]; exact hk))
  have HX := hide hX
  have HL := hide (fun w1 => kletter_any c w1 hc)
  have hL := isName_letter (mPick_lt c (n := 8) (by omega))
  obtain ⟨L, hLe⟩ : ∃ L, letterB (mPick c 8) = L := ⟨_, rfl⟩
  rw [hLe] at HL hL
  obtain ⟨D, hDe⟩ : ∃ D, (if 300 < data.size then data.extract 0 300 else data) = D := ⟨_, rfl⟩
  have hD : D.size ≤ 300 := by
    rw [← hDe]
    split
    · rw [ByteArray.size_extract]; omega
    · omega
  have HDe := hide hDe
  have HhL := hide hL
  have HLs := hide (show L.size ≤ maxLen by have := isName_size hL; unfold maxLen; omega)
  clear hX hc hLe hDe hL
  go_enter Tryz.func9, Tryz.ntmps9
  go_wp2_with fail
  refine HO.out.mono ?_
  rintro e w1 ⟨rfl, h1, k1, hx1⟩
  have H1 := hide (show KG w1 X w.heap.size [root, firstNd] [f0] from ⟨6, h1, k1⟩)
  have HX1 := hide hx1
  generalize w.heap.size = s at H1 ⊢
  clear h1 hx1 k1
  rcases Nat.lt_or_ge 300 data.size with hbig | hbig
  · have e1 : data.extract 0 300 = D := by rw [← HDe.out, if_pos hbig]
    have hbig' : (300 : Int) < (data.size : Int) := by omega
    go_wp2_with fail
    clear e1 hbig' hbig
    refine (HL.out w1).mono ?_
    rintro e w2 ⟨rfl, hb2⟩
    have H2 := hide (H1.out.below hb2)
    have HX2 := hide (HX1.out.trans' (Ext.below hb2))
    clear hb2
    go_wp2_with fail
    refine (kg_dir H2.out).mono ?_
    rintro e w3 ⟨rfl, h3, hx3⟩
    have H3 := hide h3
    have HX3 := hide (HX2.out.trans' hx3)
    clear h3 hx3
    go_wp2_with fail
    refine (kg_file H3.out HhL.out hD).mono ?_
    rintro e w4 ⟨rfl, h4, hx4⟩
    have H4 := hide h4
    have HX4 := hide (HX3.out.trans' hx4)
    clear h4 hx4
    go_wp2_with fail
    refine (kg_w2 H4.out HhL.out HLs.out).mono ?_
    rintro e w5 ⟨rfl, h5, hx5⟩
    have H5 := hide h5
    have HX5 := hide (HX4.out.trans' hx5)
    clear h5 hx5
    go_wp2_with fail
    refine (kg_w3 H5.out HhL.out HLs.out).mono ?_
    rintro e w6 ⟨rfl, h6, hx6⟩
    have H6 := hide h6
    have HX6 := hide (HX5.out.trans' hx6)
    clear h6 hx6
    go_wp2_with fail
    refine (kg_w4 H6.out).mono ?_
    rintro e w7 ⟨rfl, h7, hx7⟩
    have H7 := hide h7
    have HX7 := hide (HX6.out.trans' hx7)
    clear h7 hx7
    go_wp2_with fail
    refine (kg_r4 H7.out).mono ?_
    rintro e w8 ⟨rfl, h8, hx8⟩
    have H8 := hide h8
    have HX8 := hide (HX7.out.trans' hx8)
    clear h8 hx8
    go_wp2_with fail
    refine (kg_c4 H8.out).mono ?_
    rintro e w9 ⟨rfl, h9, hx9⟩
    have H9 := hide h9
    have HX9 := hide (HX8.out.trans' hx9)
    clear h9 hx9
    go_wp2_with fail
    refine (kg_r2 H9.out).mono ?_
    rintro e w10 ⟨rfl, h10, hx10⟩
    have H10 := hide h10
    have HX10 := hide (HX9.out.trans' hx10)
    clear h10 hx10
    go_wp2_with fail
    refine (kg_o3 (x := gFile L D true) H10.out rfl rfl).mono ?_
    rintro e w11 ⟨rfl, h11, hx11⟩
    have H11 := hide h11
    have HX11 := hide (HX10.out.trans' hx11)
    clear h11 hx11
    go_wp2_with fail
    refine (kg_s3 H11.out).mono ?_
    rintro e w12 ⟨rfl, h12, hx12⟩
    have H12 := hide h12
    have HX12 := hide (HX11.out.trans' hx12)
    clear h12 hx12
    simp only [pStatV, noStat]
    go_wp2_with fail
    refine (kg_w5 (w12.heap.size + 1) (by simp) (H12.out.below ((Below.refl _ w12).alloc (Nat.le_refl _) _))).mono ?_
    rintro e w13 ⟨rfl, h13, hx13⟩
    have H13 := hide h13
    have HX13 := hide (HX12.out.trans' ((Ext.below ((Below.refl _ w12).alloc (Nat.le_refl _) _)).trans' hx13))
    clear h13 hx13
    go_wp2_with fail
    refine (kg_list H13.out).mono ?_
    rintro e w14 ⟨lo, lc, rfl, h14, hx14⟩
    have H14 := hide h14
    have HX14 := hide (HX13.out.trans' hx14)
    clear h14 hx14
    go_wp2_with fail
    refine (kg_again H14.out HhL.out).mono ?_
    rintro e w15 ⟨rfl, h15, hx15⟩
    have H15 := hide h15
    have HX15 := hide (HX14.out.trans' hx15)
    clear h15 hx15
    go_wp2_with fail
    refine (kg_told H15.out HhL.out).mono ?_
    rintro e w16 ⟨rfl, h16, hx16⟩
    have H16 := hide h16
    have HX16 := hide (HX15.out.trans' hx16)
    clear h16 hx16
    go_wp2_with fail
    refine (kg_o3 (x := gFile L D true) H16.out rfl rfl).mono ?_
    rintro e w17 ⟨rfl, h17, hx17⟩
    have H17 := hide h17
    have HX17 := hide (HX16.out.trans' hx17)
    clear h17 hx17
    go_wp2_with fail
    refine (kg_r3 H17.out).mono ?_
    rintro e w18 ⟨rfl, hx18⟩
    have HX18 := hide (HX17.out.trans' hx18)
    clear hx18
    go_wp2
    go_ret
    refine ⟨rfl, ?_⟩
    have hX18 := HX18.out
    rw [HX.out] at hX18
    exact hX18.toBelow (Nat.le_refl _)
  · have e1 : data = D := by rw [← HDe.out, if_neg (by omega)]
    have hbig' : ¬ (300 : Int) < (data.size : Int) := by omega
    rw [e1] at hbig' ⊢
    clear e1
    go_wp2_with fail
    clear hbig' hbig
    refine (HL.out w1).mono ?_
    rintro e w2 ⟨rfl, hb2⟩
    have H2 := hide (H1.out.below hb2)
    have HX2 := hide (HX1.out.trans' (Ext.below hb2))
    clear hb2
    go_wp2_with fail
    refine (kg_dir H2.out).mono ?_
    rintro e w3 ⟨rfl, h3, hx3⟩
    have H3 := hide h3
    have HX3 := hide (HX2.out.trans' hx3)
    clear h3 hx3
    go_wp2_with fail
    refine (kg_file H3.out HhL.out hD).mono ?_
    rintro e w4 ⟨rfl, h4, hx4⟩
    have H4 := hide h4
    have HX4 := hide (HX3.out.trans' hx4)
    clear h4 hx4
    go_wp2_with fail
    refine (kg_w2 H4.out HhL.out HLs.out).mono ?_
    rintro e w5 ⟨rfl, h5, hx5⟩
    have H5 := hide h5
    have HX5 := hide (HX4.out.trans' hx5)
    clear h5 hx5
    go_wp2_with fail
    refine (kg_w3 H5.out HhL.out HLs.out).mono ?_
    rintro e w6 ⟨rfl, h6, hx6⟩
    have H6 := hide h6
    have HX6 := hide (HX5.out.trans' hx6)
    clear h6 hx6
    go_wp2_with fail
    refine (kg_w4 H6.out).mono ?_
    rintro e w7 ⟨rfl, h7, hx7⟩
    have H7 := hide h7
    have HX7 := hide (HX6.out.trans' hx7)
    clear h7 hx7
    go_wp2_with fail
    refine (kg_r4 H7.out).mono ?_
    rintro e w8 ⟨rfl, h8, hx8⟩
    have H8 := hide h8
    have HX8 := hide (HX7.out.trans' hx8)
    clear h8 hx8
    go_wp2_with fail
    refine (kg_c4 H8.out).mono ?_
    rintro e w9 ⟨rfl, h9, hx9⟩
    have H9 := hide h9
    have HX9 := hide (HX8.out.trans' hx9)
    clear h9 hx9
    go_wp2_with fail
    refine (kg_r2 H9.out).mono ?_
    rintro e w10 ⟨rfl, h10, hx10⟩
    have H10 := hide h10
    have HX10 := hide (HX9.out.trans' hx10)
    clear h10 hx10
    go_wp2_with fail
    refine (kg_o3 (x := gFile L D true) H10.out rfl rfl).mono ?_
    rintro e w11 ⟨rfl, h11, hx11⟩
    have H11 := hide h11
    have HX11 := hide (HX10.out.trans' hx11)
    clear h11 hx11
    go_wp2_with fail
    refine (kg_s3 H11.out).mono ?_
    rintro e w12 ⟨rfl, h12, hx12⟩
    have H12 := hide h12
    have HX12 := hide (HX11.out.trans' hx12)
    clear h12 hx12
    simp only [pStatV, noStat]
    go_wp2_with fail
    refine (kg_w5 (w12.heap.size + 1) (by simp) (H12.out.below ((Below.refl _ w12).alloc (Nat.le_refl _) _))).mono ?_
    rintro e w13 ⟨rfl, h13, hx13⟩
    have H13 := hide h13
    have HX13 := hide (HX12.out.trans' ((Ext.below ((Below.refl _ w12).alloc (Nat.le_refl _) _)).trans' hx13))
    clear h13 hx13
    go_wp2_with fail
    refine (kg_list H13.out).mono ?_
    rintro e w14 ⟨lo, lc, rfl, h14, hx14⟩
    have H14 := hide h14
    have HX14 := hide (HX13.out.trans' hx14)
    clear h14 hx14
    go_wp2_with fail
    refine (kg_again H14.out HhL.out).mono ?_
    rintro e w15 ⟨rfl, h15, hx15⟩
    have H15 := hide h15
    have HX15 := hide (HX14.out.trans' hx15)
    clear h15 hx15
    go_wp2_with fail
    refine (kg_told H15.out HhL.out).mono ?_
    rintro e w16 ⟨rfl, h16, hx16⟩
    have H16 := hide h16
    have HX16 := hide (HX15.out.trans' hx16)
    clear h16 hx16
    go_wp2_with fail
    refine (kg_o3 (x := gFile L D true) H16.out rfl rfl).mono ?_
    rintro e w17 ⟨rfl, h17, hx17⟩
    have H17 := hide h17
    have HX17 := hide (HX16.out.trans' hx17)
    clear h17 hx17
    go_wp2_with fail
    refine (kg_r3 H17.out).mono ?_
    rintro e w18 ⟨rfl, hx18⟩
    have HX18 := hide (HX17.out.trans' hx18)
    clear hx18
    go_wp2
    go_ret
    refine ⟨rfl, ?_⟩
    have hX18 := HX18.out
    rw [HX.out] at hX18
    exact hX18.toBelow (Nat.le_refl _)
end Go.Proofs.YtdmdgnghaceibaaGreat.P
/- From a call of one goroutine to a row that says 'leaving' and that time passes. -/
namespace Go.Proofs.YtdmdgnghaceibaaGreat
open Go.ChangeShapes Go.WideShapes Go.ChangeAt Go.RowKit
set_option linter.unusedVariables false

theorem own : ownKnob Tryz.prog.godebug = none := by kernel_rfl

/-- Who is alone at the return has nobody that still leaves. -/
theorem onlyLeaving_of_quiet {P : Program} {m : Machine} (h : m.quiet) : m.OnlyLeaving P := by
  refine ⟨fun g hg => ⟨0, ?_⟩, h.2⟩
  have h1 := h.1
  unfold Machine.othersDone at h1
  simp only [List.all_eq_true] at h1
  have := h1 g hg
  show g.status = .finished
  cases hs : g.status with
  | finished => rfl
  | _ => rw [hs] at this; cases this

theorem leaving_of_handed {a : Assume} {C : Checked} {os : Os} {f : FuncId} {r : Reach} {Pre : World → Array Value → Prop} {Post : World → Array Value → Value → World → Prop}
    (h : ReturnsInHanded a C os f r Pre Post) : ReturnsInLeavingWide a C os f r Pre Post := fun enter =>
  ReturnsInOpen.mono (fun _ _ _ x => ⟨x.2.1, onlyLeaving_of_quiet x.1, x.2.2⟩) (fun _ x => x) (h enter)

section
variable {H : Type} {enc : TypeId × Value → H}

/-- A contract over one goroutine, as the row asks it. -/
theorem leaving_of_change {a : Assume} {C : Checked} {os : Os} {f : FuncId} {fn : Func} {s : ChangeSpec} {F : Stop.Interp} {conds : List PathCond} {apart fresh handsOn : Bool}
    (own : ownKnob C.prog.godebug = none) (started : os.Started) (noInit : C.prog.inits.idxOf? f = none) (hfn : C.prog.funcs[f]? = some fn)
    (witness : ∃ (w : World) (tape : Tape) (i : Input), w.os = os ∧ (w.forCall tape i).Shaped C.prog ∧ i.vars = [] ∧ Input.okWide C.prog (w.forCall tape i) .any w.heap.size f i ∧
      s.pre6 enc C.prog fn conds apart (w.forCall tape i).memory i.args ∧ a.holds C.prog (lone (Frame.enter C.prog f i.args .normal) [] (w.forCall tape i)))
    (contract : ∀ (W : World) (base : Nat) (args : Array Value) (ds gs : List (DataW H)) (before : List MemPlace),
      (∀ (j : Nat) t v, fn.params[j]? = some t → args[j]? = some v → Value.okWide C.prog W .any base t v) →
      DataW.Whole enc C.prog fn.params.toList s.vars apart W args.toList ds gs before →
      conds.all (PathCond.test C.prog ⟨fn.params.toList, ds, s.plain.varTypes C.prog, gs⟩) = true →
      (DataW.weightsEach C.prog (fn.params.toList ++ s.plain.varTypes C.prog) (ds ++ gs)).all (· ≤ reachBytes) = true →
      Calls C.prog f args W fun e W' => ∃ v, e = .returned v ∧ W'.os = W.os ∧ s.post enc C.prog fn apart fresh handsOn false W args v W') :
    ReturnsInLeavingWide a C os f .any (s.pre6 enc C.prog fn conds apart) ((OpenSpec.ofChange s).postWith enc C.prog fn F (outsideKept [.timePasses]) apart fresh handsOn) := by
  refine leaving_of_handed (returnsInHanded_of_calls own started noInit witness ?_)
  intro w tape i _ _ _ hok hpre hholds
  obtain ⟨_, _, _, fn', hfn', _, _, _, _, hval⟩ := hok
  have e : fn' = fn := Option.some.inj (hfn'.symm.trans hfn)
  subst e
  obtain ⟨⟨ds, gs, before, hw, hc⟩, hz⟩ := hpre
  have hw' := DataW.Whole.of_heap (w' := w.forCall tape i) (by rfl) hw
  refine (contract (w.forCall tape i) w.heap.size i.args ds gs before hval hw' hc (hz.weights hw)).mono fun e W' ⟨v, he, hos, hp⟩ => ?_
  subst he
  refine postWith_blind (postWith_of_post ?_ (by rw [hos]; exact Go.ConcM.OsLater.refl _))
  have e1 : ({ W' with os := (w.forCall tape i).os } : World) = W' := by rw [← hos]
  rw [e1]
  exact hp
end
end Go.Proofs.YtdmdgnghaceibaaGreat
/- A script, and how it lies in memory. -/
namespace Go.Proofs.YtdmdgnghaceibaaGreat.P
open M Go.ChangeShapes Go.WideShapes Go.ChangeAt Go.RowKit Go.Deep
set_option linter.unusedVariables false

/-- A step of a script. -/
structure MOp where
  kind : Int
  k : Int
  fid : Int
  a : Int
  b : Int
  text : ByteArray
  yes : Bool
  names : List ByteArray
  deriving Inhabited

/-- A script that came in. -/
structure OpAt (W : World) (sb so i : Nat) (o : MOp) (nao : Option Addr) (nc : Nat) : Prop where
  c0 : W.cell? ⟨sb, so + i * 8, none⟩ = some (.int .i64 o.kind)
  c1 : W.cell? ⟨sb, so + i * 8 + 1, none⟩ = some (.int .i64 o.k)
  c2 : W.cell? ⟨sb, so + i * 8 + 2, none⟩ = some (.int .i64 o.fid)
  c3 : W.cell? ⟨sb, so + i * 8 + 3, none⟩ = some (.int .i64 o.a)
  c4 : W.cell? ⟨sb, so + i * 8 + 4, none⟩ = some (.int .i64 o.b)
  c5 : W.cell? ⟨sb, so + i * 8 + 5, none⟩ = some (.string o.text)
  c6 : W.cell? ⟨sb, so + i * 8 + 6, none⟩ = some (.bool o.yes)
  c7 : W.cell? ⟨sb, so + i * 8 + 7, none⟩ = some (.slice nao o.names.length nc)
  text : o.text.size ≤ maxLen
  ra : -9223372036854775808 ≤ o.a ∧ o.a ≤ 9223372036854775807
  names : NamesAt W nao o.names
  low : ∀ a, nao = some a → o.names ≠ [] → a.block < W.heap.size

def ScriptAt (W : World) (ao : Option Addr) (ops : List MOp) : Prop :=
  ops.length ≤ 1600000000000 ∧ ∀ (i : Nat) o, ops[i]? = some o → o.text.size ≤ 140737488355328 ∧ ∃ sb so nao nc, ao = some ⟨sb, so, none⟩ ∧ OpAt W sb so i o nao nc

theorem cellsOp : Tryz.prog.cellsOf 57 = 8 := by kernel_rfl
theorem cellsStr : Tryz.prog.cellsOf 9 = 1 := by kernel_rfl

theorem cell_spot {w : World} {a : Addr} {v : Value} (h : w.cell? a = some v) : a.spot = none := by
  unfold World.cell? at h
  split at h
  · cases hs : a.spot with
    | none => rfl
    | some q => rw [hs] at h; simp at h
  · cases h

section
variable {H : Type} {enc : TypeId × Value → H} {W : World}

/-- A list of texts that was read. -/
theorem open_names {fuel : Nat} {v : Value} {x : DataW H × List MemPlace} (h : DataW.trod enc Tryz.prog W 0 (fun _ => true) true fuel 35 [v] = some x) :
    ∃ (nao : Option Addr) (names : List ByteArray) (nc : Nat), v = .slice nao names.length nc ∧ NamesAt W nao names ∧ (∀ a, nao = some a → names ≠ [] → a.block < W.heap.size) := by
  rcases open_strs Tryz.underlying35 Tryz.underlying9 cellsStr h with ⟨hc, _⟩ | ⟨a, len, cap, m, Sx, hc, _, hl, hm, hmm, _, hx⟩
  · simp only [List.cons.injEq, and_true] at hc
    exact ⟨none, [], 0, hc, ⟨by simp [maxLen], fun i s hs => by simp at hs⟩, fun a h => by cases h⟩
  · simp only [List.cons.injEq, and_true] at hc
    have hlm : len ≤ m := by rw [hmm]; split <;> omega
    refine ⟨some a, (List.range len).map Sx, cap, by simpa using hc, ⟨by simp; omega, fun i s hs => ?_⟩, fun a' ha hne => ?_⟩
    · have hi : i < len := by have := M.lt_of_getElem? hs; simpa using this
      have hsp : a.spot = none := cell_spot (hx 0 (by omega)).1
      rw [List.getElem?_map, List.getElem?_range hi] at hs
      simp at hs
      subst hs
      obtain ⟨h1, h2⟩ := hx i (by omega)
      obtain ⟨nb, no, sp⟩ := a
      have hsp : sp = none := hsp
      subst hsp
      rw [Addr.add_lit] at h1
      exact ⟨h2, nb, no, rfl, h1⟩
    · cases ha
      have hlen : 0 < len := by
        cases len with
        | zero => simp at hne
        | succ n => omega
      exact World.block_lt_of_cell? W _ (hx 0 (by omega)).1

theorem list8 {α : Type} {l : List α} (h : l.length = 8) : ∃ a0 a1 a2 a3 a4 a5 a6 a7, l = [a0, a1, a2, a3, a4, a5, a6, a7] := by
  cases l with
  | nil => cases h
  | cons a0 l => cases l with
    | nil => cases h
    | cons a1 l => cases l with
      | nil => cases h
      | cons a2 l => cases l with
        | nil => cases h
        | cons a3 l => cases l with
          | nil => cases h
          | cons a4 l => cases l with
            | nil => cases h
            | cons a5 l => cases l with
              | nil => cases h
              | cons a6 l => cases l with
                | nil => cases h
                | cons a7 l => cases l with
                  | nil => exact ⟨a0, a1, a2, a3, a4, a5, a6, a7, rfl⟩
                  | cons b l => simp at h

theorem range_i64 {n : Int} (h : (Lit.int .i64 n).wf = true) : -9223372036854775808 ≤ n ∧ n ≤ 9223372036854775807 := by
  have e1 : IntKind.i64.min = -9223372036854775808 := by decide
  have e2 : IntKind.i64.max = 9223372036854775807 := by decide
  simp only [Lit.wf, e1, e2, Bool.and_eq_true, decide_eq_true_eq] at h
  exact h
theorem mem_weightsAll {P : Program} {e : TypeId} {n : Nat} : ∀ {l : List (DataW H)} {d : DataW H}, d ∈ l → n ∈ d.weights P e → n ∈ DataW.weightsAll P e l
  | x :: l, d, h, hn => by
    rw [DataW.weightsAll, List.mem_append]
    rcases List.mem_cons.1 h with rfl | h
    · exact .inl hn
    · exact .inr (mem_weightsAll h hn)

set_option maxRecDepth 20000 in
/-- A step that was read. -/
theorem open_op {fuel : Nat} {a : Addr} {i : Nat} {cs : List Value} {x : DataW H × List MemPlace} (hsp : a.spot = none) (hc : W.cells? 0 (a.add (i * 8)) 8 = some cs) (h : DataW.trod enc Tryz.prog W 0 (fun _ => true) true fuel 57 cs = some x) :
    ∃ (o : MOp) (nao : Option Addr) (nc : Nat), OpAt W a.block a.off i o nao nc ∧ o.text.size ∈ x.1.weights Tryz.prog 57 := by
  obtain ⟨_, hlen, hcell⟩ := World.cells?_some hc
  obtain ⟨xs, n, rfl, hx0, _, hxl, hf⟩ := DataW.trod_struct Tryz.underlying57 h
  obtain ⟨v0, v1, v2, v3, v4, v5, v6, v7, rfl⟩ := list8 hlen
  obtain ⟨y0, y1, y2, y3, y4, y5, y6, y7, rfl⟩ := list8 (hxl.trans (by kernel_rfl))
  have c3 : Tryz.prog.cellsOf 3 = 1 := by kernel_rfl
  have c9 : Tryz.prog.cellsOf 9 = 1 := by kernel_rfl
  have c4 : Tryz.prog.cellsOf 4 = 1 := by kernel_rfl
  have c35 : Tryz.prog.cellsOf 35 = 1 := by kernel_rfl
  have g0 : DataW.trod enc Tryz.prog W 0 (fun _ => true) true n 3 [v0] = some y0 := by
    have hh := hf 0 _ rfl
    simp [c3] at hh
    exact hh
  have g1 : DataW.trod enc Tryz.prog W 0 (fun _ => true) true n 3 [v1] = some y1 := by
    have hh := hf 1 _ rfl
    simp [c3] at hh
    exact hh
  have g2 : DataW.trod enc Tryz.prog W 0 (fun _ => true) true n 3 [v2] = some y2 := by
    have hh := hf 2 _ rfl
    simp [c3] at hh
    exact hh
  have g3 : DataW.trod enc Tryz.prog W 0 (fun _ => true) true n 3 [v3] = some y3 := by
    have hh := hf 3 _ rfl
    simp [c3] at hh
    exact hh
  have g4 : DataW.trod enc Tryz.prog W 0 (fun _ => true) true n 3 [v4] = some y4 := by
    have hh := hf 4 _ rfl
    simp [c3] at hh
    exact hh
  have g5 : DataW.trod enc Tryz.prog W 0 (fun _ => true) true n 9 [v5] = some y5 := by
    have hh := hf 5 _ rfl
    simp [c9] at hh
    exact hh
  have g6 : DataW.trod enc Tryz.prog W 0 (fun _ => true) true n 4 [v6] = some y6 := by
    have hh := hf 6 _ rfl
    simp [c4] at hh
    exact hh
  have g7 : DataW.trod enc Tryz.prog W 0 (fun _ => true) true n 35 [v7] = some y7 := by
    have hh := hf 7 _ rfl
    simp [c35] at hh
    exact hh
  clear hf
  obtain ⟨k0, e0, _, _⟩ := DataW.trod_int Tryz.underlying3 g0
  obtain ⟨k1, e1, _, _⟩ := DataW.trod_int Tryz.underlying3 g1
  obtain ⟨k2, e2, _, _⟩ := DataW.trod_int Tryz.underlying3 g2
  obtain ⟨k3, e3, _, r3⟩ := DataW.trod_int Tryz.underlying3 g3
  obtain ⟨k4, e4, _, _⟩ := DataW.trod_int Tryz.underlying3 g4
  obtain ⟨tx, e5, d5, htx⟩ := DataW.trod_string Tryz.underlying9 g5
  obtain ⟨ye, e6, _⟩ := DataW.trod_bool Tryz.underlying4 g6
  obtain ⟨nao, names, nc, e7, hnm, hlow⟩ := open_names g7
  simp only [List.cons.injEq, and_true] at e0 e1 e2 e3 e4 e5 e6
  subst e0 e1 e2 e3 e4 e5 e6 e7
  obtain ⟨sb, so, sp⟩ := a
  have hsp : sp = none := hsp
  subst hsp
  simp only [Addr.add_lit] at hcell
  have hw : tx.size ∈ (DataW.agg ([y0, y1, y2, y3, y4, y5, y6, y7].map (·.1)) : DataW H).weights Tryz.prog 57 := by
    rw [DataW.weights]
    rw [show Tryz.prog.underlying 57 = _ from Tryz.underlying57]
    refine DataW.weights_mem_each (j := 5) (t := 9) (d := y5.1) rfl rfl _ ?_
    rw [d5]
    simp [DataW.weights]
  exact ⟨⟨k0, k1, k2, k3, k4, tx, ye, names⟩, nao, nc, ⟨hcell 0 (by omega), hcell 1 (by omega), hcell 2 (by omega), hcell 3 (by omega), hcell 4 (by omega), hcell 5 (by omega), hcell 6 (by omega), hcell 7 (by omega), htx, range_i64 r3, hnm, hlow⟩, by rw [hx0]; exact hw⟩

/-- A script that was read. -/
theorem open_script {ao : Option Addr} {len cap : Nat} {d : DataW H} {ps : List MemPlace} (h : DataW.Trod enc Tryz.prog W 0 (fun _ => true) true 22 (.slice ao len cap) d ps) :
    ∃ ops : List MOp, len = ops.length ∧ (len = 0 ∨ ∃ elems spare, d = .slice elems spare ∧ elems.length = len) ∧ (∀ (i : Nat) o, ops[i]? = some o → o.text.size ∈ d.weights Tryz.prog 22 ∧ ∃ sb so nao nc, ao = some ⟨sb, so, none⟩ ∧ OpAt W sb so i o nao nc) := by
  obtain ⟨fuel, h⟩ := h
  have hcs : (Value.slice ao len cap).cells.toList = [.slice ao len cap] := rfl
  rw [hcs] at h
  rcases open_slice Tryz.underlying22 h with ⟨hc, _⟩ | ⟨a, len', cap', m, n, D, Pl, hc, _, hl, hm, hmm, hxd, hx⟩
  · simp only [List.cons.injEq, Value.slice.injEq, and_true] at hc
    obtain ⟨rfl, rfl, rfl⟩ := hc
    exact ⟨[], rfl, .inl rfl, fun i o ho => by simp at ho⟩
  · simp only [List.cons.injEq, Value.slice.injEq, and_true] at hc
    obtain ⟨rfl, rfl, rfl⟩ := hc
    have hlm : len ≤ m := by rw [hmm]; split <;> omega
    rw [cellsOp] at hx
    have each : ∀ i, i < len → ∃ q : MOp × Option Addr × Nat, a.spot = none ∧ OpAt W a.block a.off i q.1 q.2.1 q.2.2 ∧ q.1.text.size ∈ (D i).weights Tryz.prog 57 := fun i hi => by
      have hsp : a.spot = none := by
        obtain ⟨cs, h1, _⟩ := hx 0 (by omega)
        obtain ⟨_, hlen, hcell⟩ := World.cells?_some h1
        obtain ⟨v0, v1, v2, v3, v4, v5, v6, v7, rfl⟩ := list8 hlen
        have h0 := hcell 0 (by omega)
        rw [Nat.zero_mul] at h0
        exact cell_spot (a := a) h0
      obtain ⟨cs, h1, h2⟩ := hx i (by omega)
      obtain ⟨o, nao, nc, ho⟩ := open_op hsp h1 h2
      exact ⟨(o, nao, nc), hsp, ho⟩
    obtain ⟨q, hq⟩ := choose_lt each
    refine ⟨(List.range len).map (fun i => (q i).1), by simp, .inr ⟨_, _, (Prod.mk.inj hxd).1, by simp⟩, fun i o ho => ?_⟩
    have hi : i < len := by have := M.lt_of_getElem? ho; simpa using this
    rw [List.getElem?_map, List.getElem?_range hi] at ho
    simp at ho
    subst ho
    obtain ⟨hsp, ho, hw⟩ := hq i hi
    obtain ⟨sb, so, sp⟩ := a
    have hsp : sp = none := hsp
    subst hsp
    refine ⟨?_, sb, so, (q i).2.1, (q i).2.2, rfl, ho⟩
    rw [(Prod.mk.inj hxd).1, DataW.weights, Tryz.underlying22]
    refine List.mem_cons_of_mem _ (List.mem_append_left _ (mem_weightsAll (d := D i) ?_ hw))
    exact List.mem_map.2 ⟨i, List.mem_range.2 hi, rfl⟩
end
end Go.Proofs.YtdmdgnghaceibaaGreat.P
