/- 'dir', 'file', 'told', 'listed' of the laws without the document's answer. -/
import Derived.Test.YtdmdgnghaceibaaGreatPart10
import Derived.Test.YtdmdgnghaceibaaGreatPart11
import Derived.Lib.SlBytesConst
import Derived.Test.YtdmdgnghaceibaaGreatPart06
import Derived.Test.YtdmdgnghaceibaaGreatRows
import Derived.Conc.HoldsTime
import Derived.Handed
import Derived.SizedLaws
import Derived.OpenShut
namespace Go.Proofs.YtdmdgnghaceibaaGreat.P
open M Go.ChangeShapes Go.WideShapes Go.ChangeAt Go.RowKit
set_option linter.unusedVariables false

theorem KOk.counted {st : St} (h : KOk st) (c : Int) : KOk (counted st c) := h.same ⟨⟨h.ok.fids.once, h.ok.fids.small⟩, h.ok.root, h.ok.way, h.ok.laid, h.ok.names, h.ok.inn, h.ok.live⟩ rfl rfl

/-- How 'dir' and 'file' end. -/
def MadeEnds (w : World) (X : Nat → Prop) (s : Nat) (st : St) (x : Nd) (e : Ending) (w' : World) : Prop := e = .returned (.bool true) ∧ ∃ c, KSrv w' X s (made st x c) ∧ KOk (made st x c) ∧ Ext X w w'

theorem no_names (w : World) : NamesAt w none [] := ⟨by simp [maxLen], fun i s hs => by simp at hs⟩

/-- Walk by names that were typed there. -/
theorem k_walk_lit {w : World} {X : Nat → Prop} {s : Nat} {st : St} (n t : Int) (names : List ByteArray) (c : Nat) (h : KSrv w X s st) (ok : POk st) (hl : names.length ≤ maxLen) (hs : ∀ x ∈ names, x.size ≤ maxLen) :
    Calls Tryz.prog 14 #[.pointer (some ⟨s, 0, none⟩), .int .i64 n, .int .i64 t, .slice (some ⟨w.heap.size, 0, none⟩) names.length c] (w.alloc (.cells (names.map Value.string).toArray 9)) fun e w' => e = .returned (.tuple #[.int .i64 (mWalk st n t names).2.1, .int .i64 (mWalk st n t names).2.2]) ∧ KSrv w' X s (mWalk st n t names).1 ∧ Ext X w w' := by
  have hb : Below w.heap.size w (w.alloc (.cells (names.map Value.string).toArray 9)) := (Below.refl _ w).alloc (Nat.le_refl _) _
  have h1 := h.apart hb (fun k => k = w.heap.size) (fun k hk => by subst hk; simp)
  refine (k_walk n t names (some ⟨w.heap.size, 0, none⟩) c h1 ok ⟨hl, fun i x hx => ⟨hs x (List.mem_of_getElem? hx), w.heap.size, 0, rfl, ?_⟩⟩ (fun a ha _ q => by cases ha; exact q.2 rfl)).mono ?_
  · have := heap_alloc_new w (.cells (names.map Value.string).toArray 9)
    simp only [World.cell?, this]
    simp [hx]
  · rintro e w' ⟨rfl, h2, hx2⟩
    exact ⟨rfl, h2.more (fun k hk => hk.1), (Ext.below hb).trans' (hx2.weak (fun k hk => hk.1))⟩
theorem k_walk1 {w : World} {X : Nat → Prop} {s : Nat} {st : St} (n t : Int) (a : ByteArray) (c : Nat) (h : KSrv w X s st) (ok : POk st) (ha : a.size ≤ maxLen) :
    Calls Tryz.prog 14 #[.pointer (some ⟨s, 0, none⟩), .int .i64 n, .int .i64 t, .slice (some ⟨w.heap.size, 0, none⟩) 1 c] (w.alloc (.cells #[.string a] 9)) fun e w' => e = .returned (.tuple #[.int .i64 (mWalk st n t [a]).2.1, .int .i64 (mWalk st n t [a]).2.2]) ∧ KSrv w' X s (mWalk st n t [a]).1 ∧ Ext X w w' :=
  k_walk_lit n t [a] c h ok (by simp [maxLen]) (by simpa using ha)
theorem k_walk2 {w : World} {X : Nat → Prop} {s : Nat} {st : St} (n t : Int) (a b : ByteArray) (c : Nat) (h : KSrv w X s st) (ok : POk st) (ha : a.size ≤ maxLen) (hb : b.size ≤ maxLen) :
    Calls Tryz.prog 14 #[.pointer (some ⟨s, 0, none⟩), .int .i64 n, .int .i64 t, .slice (some ⟨w.heap.size, 0, none⟩) 2 c] (w.alloc (.cells #[.string a, .string b] 9)) fun e w' => e = .returned (.tuple #[.int .i64 (mWalk st n t [a, b]).2.1, .int .i64 (mWalk st n t [a, b]).2.2]) ∧ KSrv w' X s (mWalk st n t [a, b]).1 ∧ Ext X w w' :=
  k_walk_lit n t [a, b] c h ok (by simp [maxLen]) (by simpa using ⟨ha, hb⟩)

/-- Write of a text that was turned into bytes there. -/
theorem k_write_text {w : World} {X : Nat → Prop} {s : Nat} {st : St} (n a : Int) (ha : a ≤ 9223372036854775807) (t : ByteArray) (c : Nat) (o : Obj) (h : KSrv w X s st) (ok : KOk st) (hsrc : SrcIs (w.drew.alloc o) 1 (.slice (some ⟨w.heap.size, 0, none⟩) t.size c) (byteCells t)) (ht : t.size ≤ 140737488355328) :
    Calls Tryz.prog 18 #[.pointer (some ⟨s, 0, none⟩), .int .i64 n, .int .i64 a, .slice (some ⟨w.heap.size, 0, none⟩) t.size c] (w.alloc o).drew fun e w' => e = .returned (.tuple #[.int .i64 (mWrite st n a t).2.1, .int .i64 (mWrite st n a t).2.2]) ∧ KSrv w' X s (mWrite st n a t).1 ∧ Ext X w w' := by
  have hb : Below w.heap.size w (w.alloc o).drew := ((Below.refl _ w).alloc (Nat.le_refl _) _).drew
  have h1 := h.apart hb (fun k => k = w.heap.size) (fun k hk => by subst hk; simp)
  refine (k_write n a ha (some ⟨w.heap.size, 0, none⟩) c t h1 ok hsrc (fun q hq _ e => by cases hq; exact e.2 rfl) ht).mono ?_
  rintro e w' ⟨rfl, h2, hx2⟩
  exact ⟨rfl, h2.more (fun k hk => hk.1), (Ext.below hb).trans' (hx2.weak (fun k hk => hk.1))⟩

set_option maxRecDepth 20000 in
set_option maxHeartbeats 1000000 in
theorem kdir_any {w : World} {X : Nat → Prop} {s : Nat} {st : St} (name : ByteArray) (h : KSrv w X s st) (k : KOk st) (z : Zero st) (hn : isName name = true) (hl : lies st 0 name = none) (hlive : liveNodes st.nodes < 100) (hlen : st.nodes.length < 100000) :
    Calls Tryz.prog 35 #[.pointer (some ⟨s, 0, none⟩), .string name] w fun e w' => MadeEnds w X s st (newNd name true 0) e w' := by
  obtain ⟨hrg, hrd⟩ := root_live k.tree
  have e1 : mWalk st 0 1 [] = (withFid (tick st) ⟨1, W0, false⟩, 0, 0) := by
    rw [mWalk_new z.find z.get rfl rfl (by decide) (by decide) z.one (by simp) (by simp)]
    rfl
  have z1 : M.find (tick st) 1 = none := z.one
  have k1 := k.walk 0 1 []
  rw [e1] at k1
  obtain ⟨sp, e2, hspn⟩ := mCreate_with (st := tick st) (n := 1) (way := W0) (name := name) (dir := true) (m := ⟨0, true⟩) z1 W0_last hrg hrd hn ((seen_one (st := tick st) 0 name hrg).trans hl) (maker_one 0 hrg) hlive
  have k2 := k1.create 1 name true hlen
  rw [e2] at k2
  have e3 := mClunk_with (st := { tick (tick st) with nodes := (tick st).nodes ++ [newNd name true 0] }) (f := ⟨1, W0 ++ [sp], true⟩) z1
  have k3 := k2.clunk 1
  rw [show mClunk _ 1 = _ from e3] at k3
  have HW := hide (k_walk 0 1 [] none 0 h k.ok (no_names w) (fun a ha => by cases ha))
  rw [e1] at HW
  have hsz : name.size ≤ maxLen := by have := isName_size hn; unfold maxLen; omega
  have HCr := hide (fun (w1 : World) (h1 : KSrv w1 X s (withFid (tick st) ⟨1, W0, false⟩)) => k_create 1 name true h1 k1 hsz)
  rw [e2] at HCr
  have HCl := hide (fun (w1 : World) (h1 : KSrv w1 X s (withFid { tick (tick st) with nodes := (tick st).nodes ++ [newNd name true 0] } ⟨1, W0 ++ [sp], true⟩)) => k_clunk 1 h1 k2.ok)
  rw [show mClunk _ 1 = _ from e3] at HCl
  have K3 := hide k3
  clear h k z e1 e2 e3 k1 k2 k3 z1 hl hspn
  go_enter Tryz.func35, Tryz.ntmps35
  go_wp2_with (first | (go_at_call 14; refine HW.out.mono ?_; rintro e w1 ⟨rfl, h1, hx1⟩; have H1 := hide h1; have HX1 := hide hx1; clear h1 hx1) | (go_at_call 16; refine (HCr.out _ H1.out).mono ?_; rintro e w2 ⟨rfl, h2, hx2⟩; have H2 := hide h2; have HX2 := hide (HX1.out.trans' hx2); clear h2 hx2) | (go_at_call 22; refine (HCl.out _ H2.out).mono ?_; rintro e w3 ⟨rfl, h3, hx3⟩; have H3 := hide h3; have HX3 := hide (HX2.out.trans' hx3); clear h3 hx3))
  go_ret
  exact ⟨rfl, _, H3.out, K3.out, HX3.out⟩

/-- Bytes that were typed there. -/
theorem src_lit (w : World) (t : ByteArray) (C : Array Value) (fr : Nat × Nat) (c : Nat) (hC : C.toList = (byteCells t).flatten) : SrcIs (w.alloc (.cells C 5 fr)) 1 (.slice (some ⟨w.heap.size, 0, none⟩) t.size c) (byteCells t) := by
  refine ⟨bytes_one t, fun r hr u hu => ?_, .inr ⟨_, _, by rw [len_bytes], fun j u hj => ?_⟩⟩
  · unfold byteCells at hr
    obtain ⟨b, _, rfl⟩ := List.mem_map.1 hr
    simp at hu
    subst hu
    rfl
  · rw [Addr.add_lit, Nat.zero_add]
    have hb := heap_alloc_new w (.cells C 5 fr)
    simp only [World.cell?, hb]
    rw [← hC, Array.getElem?_toList] at hj
    simp [hj]
theorem k_write_lit {w : World} {X : Nat → Prop} {s : Nat} {st : St} (n a : Int) (ha : a ≤ 9223372036854775807) (t : ByteArray) (C : Array Value) (fr : Nat × Nat) (c : Nat) (hC : C.toList = (byteCells t).flatten) (h : KSrv w X s st) (ok : KOk st) (ht : t.size ≤ 140737488355328) :
    Calls Tryz.prog 18 #[.pointer (some ⟨s, 0, none⟩), .int .i64 n, .int .i64 a, .slice (some ⟨w.heap.size, 0, none⟩) t.size c] (w.alloc (.cells C 5 fr)) fun e w' => e = .returned (.tuple #[.int .i64 (mWrite st n a t).2.1, .int .i64 (mWrite st n a t).2.2]) ∧ KSrv w' X s (mWrite st n a t).1 ∧ Ext X w w' := by
  have hb : Below w.heap.size w (w.alloc (.cells C 5 fr)) := (Below.refl _ w).alloc (Nat.le_refl _) _
  have h1 := h.apart hb (fun k => k = w.heap.size) (fun k hk => by subst hk; simp)
  refine (k_write n a ha (some ⟨w.heap.size, 0, none⟩) c t h1 ok (src_lit w t C fr c hC) (fun q hq _ e => by cases hq; exact e.2 rfl) ht).mono ?_
  rintro e w' ⟨rfl, h2, hx2⟩
  exact ⟨rfl, h2.more (fun k hk => hk.1), (Ext.below hb).trans' (hx2.weak (fun k hk => hk.1))⟩
theorem conv_const (w : World) (C : Array Value) (n c : Nat) : (convert 31 31 (.slice (some ⟨w.heap.size, 0, none⟩) n c)).run Tryz.prog (w.alloc (.cells C 5)) = .ok (.slice (some ⟨w.heap.size, 0, none⟩) n c) (w.alloc (.cells C 5 (C.size, C.size + 1))) :=
  Lib.run_convert_bytes_const (P := Tryz.prog) w 31 5 C n c Tryz.underlying31 Tryz.underlying5

/-- A directory of the root, onto which nothing is bound. -/
structure DirAt (st : St) (name : ByteArray) (d : Nat) : Prop where
  nm : isName name = true
  lies : M.lies st 0 name = some d
  dir : isDir st d = true
  row : rowOf st d = [⟨d, true⟩]

theorem DirAt.live {st : St} {name : ByteArray} {d : Nat} (h : DirAt st name d) : isGone st d = false := by
  obtain ⟨x, hx, _, hg, _⟩ := lies_at h.lies
  simp only [isGone, hx]
  exact hg
theorem DirAt.come {st : St} {name : ByteArray} {d : Nat} (h : DirAt st name d) : come st d = ⟨d, [⟨d, true⟩]⟩ := by
  unfold M.come
  rw [h.dir, h.row]
  rfl
theorem DirAt.step {st : St} {name : ByteArray} {d : Nat} (h : DirAt st name d) (T : Treed st) : wayStep st W0 name = (0, W0 ++ [⟨d, [⟨d, true⟩]⟩]) := by
  obtain ⟨hrg, hrd⟩ := root_live T
  have := wayStep_in (st := st) (way := W0) (sp := ⟨0, [⟨0, true⟩]⟩) (c := d) h.nm W0_last hrg hrd ((seen_one 0 name hrg).trans h.lies)
  rw [this, h.come]
theorem wrap_one : wrap64 (0 + 1) = 1 := by kernel_rfl
theorem last_snoc (way : List Spot) (a : Spot) : (way ++ [a]).getLast? = some a := by simp
theorem nodeOf_snoc (n : Int) (way : List Spot) (a : Spot) (b : Bool) : nodeOf ⟨n, way ++ [a], b⟩ = a.n := by simp [nodeOf]

set_option maxRecDepth 20000 in
set_option maxHeartbeats 1000000 in
theorem kfile_any {w : World} {X : Nat → Prop} {s : Nat} {st : St} (inn name data : ByteArray) (d : Nat) (h : KSrv w X s st) (k : KOk st) (z : Zero st) (hd : DirAt st inn d) (hn : isName name = true) (hl : lies st d name = none) (hlive : liveNodes st.nodes < 100) (hlen : st.nodes.length < 100000) (hdata : data.size ≤ 300) :
    Calls Tryz.prog 36 #[.pointer (some ⟨s, 0, none⟩), .string inn, .string name, .string data] w fun e w' => MadeEnds w X s st ⟨name, false, (d : Int), data, 1, false⟩ e w' := by
  have hdl := hd.live
  have e1 : mWalk st 0 1 [inn] = (withFid (tick st) ⟨1, W0 ++ [⟨d, [⟨d, true⟩]⟩], false⟩, 1, 0) := by
    rw [mWalk_new z.find z.get rfl rfl (by decide) (by decide) z.one (by simp) (by simp [nameBad_no hd.nm])]
    rw [show f0.way = W0 from rfl, go1 (hd.step k.tree)]
    rfl
  have z1 : M.find (tick st) 1 = none := z.one
  have k1 := k.walk 0 1 [inn]
  rw [e1] at k1
  obtain ⟨sp, e2, hspn⟩ := mCreate_with (st := tick st) (n := 1) (way := W0 ++ [⟨d, [⟨d, true⟩]⟩]) (sp := ⟨d, [⟨d, true⟩]⟩) (name := name) (dir := false) (m := ⟨d, true⟩) z1 (last_snoc _ _) hdl hd.dir hn ((seen_one (st := tick st) d name hdl).trans hl) (maker_one d hdl) hlive
  have k2 := k1.create 1 name false hlen
  rw [e2] at k2
  have hx : ({ tick (tick st) with nodes := (tick st).nodes ++ [newNd name false d] } : St).nodes[st.nodes.length]? = some (newNd name false d) := by
    show (st.nodes ++ [newNd name false d])[st.nodes.length]? = _
    simp
  have e3 := mWrite_with (st := { tick (tick st) with nodes := (tick st).nodes ++ [newNd name false d] }) (n := 1) (a := 0) (t := data) (way := W0 ++ [⟨d, [⟨d, true⟩]⟩] ++ [sp]) (c := st.nodes.length) (x := newNd name false d) z1 (by rw [nodeOf_snoc, hspn]; rfl) hx rfl rfl (by omega) (by omega)
  have hwr : wroteNd (newNd name false d) (0 : Int).toNat data = ⟨name, false, (d : Int), data, 1, false⟩ := by
    unfold wroteNd newNd
    by_cases h0 : data.size = 0
    · rw [if_pos h0]
      have : data = ⟨#[]⟩ := by
        apply ByteArray.ext
        exact Array.eq_empty_of_size_eq_zero h0
      rw [this]
      simp only [wrap_one]
    · rw [if_neg h0]
      simp only [Int.toNat_zero, over_new, wrap_one]
  have hset : (setNode (tick { tick (tick st) with nodes := (tick st).nodes ++ [newNd name false d] }) st.nodes.length ⟨name, false, (d : Int), data, 1, false⟩) = { tick (tick (tick st)) with nodes := st.nodes ++ [⟨name, false, (d : Int), data, 1, false⟩] } := by
    unfold setNode tick
    simp
  rw [hwr, hset] at e3
  have k3 := k2.write 1 0 data
  rw [e3] at k3
  have e4 := mClunk_with (st := { tick (tick (tick st)) with nodes := st.nodes ++ [⟨name, false, (d : Int), data, 1, false⟩] }) (f := ⟨1, W0 ++ [⟨d, [⟨d, true⟩]⟩] ++ [sp], true⟩) z1
  have k4 := k3.clunk 1
  rw [show mClunk _ 1 = _ from e4] at k4
  have hin : inn.size ≤ maxLen := by have := isName_size hd.nm; unfold maxLen; omega
  have hsz : name.size ≤ maxLen := by have := isName_size hn; unfold maxLen; omega
  have HW := hide (k_walk1 0 1 inn 1 h k.ok hin)
  rw [e1] at HW
  have HCr := hide (fun (w1 : World) (h1 : KSrv w1 X s (withFid (tick st) ⟨1, W0 ++ [⟨d, [⟨d, true⟩]⟩], false⟩)) => k_create 1 name false h1 k1 hsz)
  rw [e2] at HCr
  have HWr := hide (fun (w1 : World) (c : Nat) (o : Obj) (h1 : KSrv w1 X s (withFid { tick (tick st) with nodes := (tick st).nodes ++ [newNd name false d] } ⟨1, W0 ++ [⟨d, [⟨d, true⟩]⟩] ++ [sp], true⟩)) hsrc => k_write_text 1 0 (by omega) data c o h1 k2 hsrc (by omega))
  rw [e3] at HWr
  have HCl := hide (fun (w1 : World) (h1 : KSrv w1 X s (withFid { tick (tick (tick st)) with nodes := st.nodes ++ [⟨name, false, (d : Int), data, 1, false⟩] } ⟨1, W0 ++ [⟨d, [⟨d, true⟩]⟩] ++ [sp], true⟩)) => k_clunk 1 h1 k3.ok)
  rw [show mClunk _ 1 = _ from e4] at HCl
  have K4 := hide k4
  clear h k z hd e1 e2 e3 e4 k1 k2 k3 k4 z1 hl hspn hx hwr hset hdl hn
  go_enter Tryz.func36, Tryz.ntmps36
  go_wp2_with fail
  refine HW.out.mono ?_
  rintro e w1 ⟨rfl, h1, hx1⟩
  have H1 := hide h1
  have HX1 := hide hx1
  clear h1 hx1
  go_wp2_with fail
  refine (HCr.out _ H1.out).mono ?_
  rintro e w2 ⟨rfl, h2, hx2⟩
  have H2 := hide h2
  have HX2 := hide (HX1.out.trans' hx2)
  clear h2 hx2
  obtain ⟨c, o, hrun, hsrc⟩ := bytes_laid w2 data
  have HWr2 := hide (HWr.out w2 c o H2.out hsrc)
  clear hsrc
  go_wp2_with fail
  refine HWr2.out.mono ?_
  rintro e w3 ⟨rfl, h3, hx3⟩
  have H3 := hide h3
  have HX3 := hide (HX2.out.trans' hx3)
  clear h3 hx3 hrun
  go_wp2_with fail
  refine (HCl.out _ H3.out).mono ?_
  rintro e w4 ⟨rfl, h4, hx4⟩
  have H4 := hide h4
  have HX4 := hide (HX3.out.trans' hx4)
  have qs : ((data.size : Int) == (data.size : Int)) = true := by simp
  clear h4 hx4
  go_wp2
  go_ret
  exact ⟨by simp, _, H4.out, K4.out, HX4.out⟩

/-- How 'told' ends: the Server is as it was, but for the count. -/
def ToldEnds (w : World) (X : Nat → Prop) (s : Nat) (st : St) (t : ByteArray) (e : Ending) (w' : World) : Prop := e = .returned (.string t) ∧ ∃ c, KSrv w' X s (counted st c) ∧ Ext X w w'

set_option maxRecDepth 20000 in
set_option maxHeartbeats 1000000 in
/-- 'told', where the names lead to a file. -/
theorem ktold_any {w : World} {X : Nat → Prop} {s : Nat} {st : St} (names : List ByteArray) (ao : Option Addr) (nc : Nat) (way : List Spot) (sp : Spot) (x : Nd) (h : KSrv w X s st) (k : KOk st) (z : Zero st) (hnm : NamesAt w ao names) (hnX : ∀ a, ao = some a → names ≠ [] → ¬ X a.block) (hlen : names.length ≤ 16) (hbad : names.any nameBad = false)
    (hgo : wayGo st names W0 = (names.length, 0, way)) (hsp : way.getLast? = some sp) (hx : st.nodes[sp.n]? = some x) (hg : x.gone = false) (hd : x.dir = false) :
    Calls Tryz.prog 38 #[.pointer (some ⟨s, 0, none⟩), .slice ao names.length nc] w fun e w' => ToldEnds w X s st x.data e w' := by
  have hxs : x.data.size ≤ 300 := k.small x (List.mem_of_getElem? hx)
  have e1 : mWalk st 0 1 names = (withFid (tick st) ⟨1, way, false⟩, (names.length : Int), 0) := by
    rw [mWalk_new z.find z.get rfl rfl (by decide) (by decide) z.one hlen hbad, show f0.way = W0 from rfl, hgo]
    rfl
  have z1 : M.find (tick st) 1 = none := z.one
  have k1 := k.walk 0 1 names
  rw [e1] at k1
  have e2 := mOpen_with (st := tick st) (n := 1) z1 hsp (show isGone (tick st) sp.n = false by show isGone st sp.n = false; simp only [isGone, hx]; exact hg)
  have k2 := k1.open 1
  rw [e2] at k2
  have e3 := mRead_with (st := tick (tick st)) (n := 1) (a := 0) (q := 300) (way := way) (c := sp.n) (x := x) z1 (by simp [nodeOf, hsp]) hx hg hd (by omega) (by omega)
  rw [show (0 : Int).toNat = 0 from rfl, show (300 : Int).toNat = 300 from rfl, textAt_all hxs] at e3
  have k3 : KOk (mRead (withFid (tick (tick st)) ⟨1, way, true⟩) 1 0 300).1 := by rw [mRead_tick]; exact k2.tick
  rw [e3] at k3
  have e4 := mClunk_with (st := tick (tick (tick st))) (f := ⟨1, way, true⟩) z1
  have HW := hide (k_walk 0 1 names ao nc h k.ok hnm hnX)
  rw [e1] at HW
  have HO := hide (fun (w1 : World) (h1 : KSrv w1 X s (withFid (tick st) ⟨1, way, false⟩)) => k_open 1 h1 k1.ok)
  rw [e2] at HO
  have HR := hide (fun (w1 : World) (h1 : KSrv w1 X s (withFid (tick (tick st)) ⟨1, way, true⟩)) => k_read 1 0 300 h1 k2)
  rw [e3] at HR
  have HCl := hide (fun (w1 : World) (Y : Nat → Prop) (h1 : KSrv w1 Y s (withFid (tick (tick (tick st))) ⟨1, way, true⟩)) => k_clunk 1 h1 k3.ok)
  rw [show mClunk _ 1 = _ from e4] at HCl
  clear h k z hnm hnX hbad hgo hsp hx hg hd e1 e2 e3 e4 k1 k2 k3 z1 hxs
  go_enter Tryz.func38, Tryz.ntmps38
  go_wp2_with fail
  refine HW.out.mono ?_
  rintro e w1 ⟨rfl, h1, hx1⟩
  have H1 := hide h1
  have HX1 := hide hx1
  clear h1 hx1
  go_wp2_with fail
  refine (HO.out _ H1.out).mono ?_
  rintro e w2 ⟨rfl, h2, hx2⟩
  have H2 := hide h2
  have HX2 := hide (HX1.out.trans' hx2)
  clear h2 hx2
  go_wp2_with fail
  refine (HR.out _ H2.out).mono ?_
  rintro e w3 ⟨vo, vn, vc, rfl, hv3, hk3, h3, hx3⟩
  have H3 := hide h3
  have HX3 := hide (HX2.out.trans' hx3)
  have HV3 := hide hv3
  have HK3 := hide hk3
  clear h3 hx3 hv3 hk3
  go_wp2_with fail
  refine (HCl.out _ _ H3.out).mono ?_
  rintro e w4 ⟨rfl, h4, hx4⟩
  have H4 := hide (h4.more (Y := X) (fun k hk => hk.1))
  have HX4 := hide (HX3.out.trans' (hx4.weak (X := X) (fun k hk => hk.1)))
  have hcv := bytes_string (w := w4) (Own.keptBlock HV3.out (fun k hk => hx4.block k (HK3.out k hk).2 (fun q => q.2 hk)))
  clear h4 hx4
  go_wp2
  go_ret
  exact ⟨rfl, _, H4.out, HX4.out⟩

set_option maxRecDepth 20000 in
set_option maxHeartbeats 1000000 in
/-- 'told', where the names lead nowhere. -/
theorem ktold_none {w : World} {X : Nat → Prop} {s : Nat} {st : St} (names : List ByteArray) (ao : Option Addr) (nc : Nat) (q : Nat) (er : Int) (way : List Spot) (h : KSrv w X s st) (k : KOk st) (z : Zero st) (hnm : NamesAt w ao names) (hnX : ∀ a, ao = some a → names ≠ [] → ¬ X a.block) (hlen : names.length ≤ 16) (hbad : names.any nameBad = false)
    (hgo : wayGo st names W0 = (q, er, way)) (her : er ≠ 0) :
    Calls Tryz.prog 38 #[.pointer (some ⟨s, 0, none⟩), .slice ao names.length nc] w fun e w' => ToldEnds w X s st ⟨#[63]⟩ e w' := by
  have e1 : mWalk st 0 1 names = (tick st, (q : Int), er) := by
    rw [mWalk_new z.find z.get rfl rfl (by decide) (by decide) z.one hlen hbad, show f0.way = W0 from rfl, hgo, if_neg her]
  have HW := hide (k_walk 0 1 names ao nc h k.ok hnm hnX)
  rw [e1] at HW
  have q1 : (er != 0) = true := by simpa using her
  have q2 : (er == 0) = false := by simpa using her
  clear h k z hnm hnX hbad hgo her e1
  go_enter Tryz.func38, Tryz.ntmps38
  go_wp2_with fail
  refine HW.out.mono ?_
  rintro e w1 ⟨rfl, h1, hx1⟩
  have H1 := hide h1
  have HX1 := hide hx1
  clear h1 hx1
  go_wp2
  go_ret
  exact ⟨rfl, _, H1.out, HX1.out⟩

/-- How 'listed' ends. -/
def ListedEnds (w : World) (X : Nat → Prop) (s : Nat) (st : St) (l : List ByteArray) (e : Ending) (w' : World) : Prop :=
  ∃ ao c, e = .returned (.tuple #[.slice ao l.length c, .bool true]) ∧ TextsAt w' (.slice ao l.length c) l ∧ (∀ k, (Value.slice ao l.length c).ownBlock = some k → w.heap.size ≤ k ∧ k < w'.heap.size) ∧ (∃ c', KSrv w' (fun k => X k ∧ (Value.slice ao l.length c).ownBlock ≠ some k) s (counted st c')) ∧ Ext X w w'

set_option maxRecDepth 20000 in
set_option maxHeartbeats 1000000 in
/-- 'listed': a directory of the root. -/
theorem klisted_any {w : World} {X : Nat → Prop} {s : Nat} {st : St} (name : ByteArray) (sp : Spot) (h : KSrv w X s st) (k : KOk st) (z : Zero st) (hn : isName name = true) (hst : wayStep st W0 name = (0, W0 ++ [sp])) (hg : isGone st sp.n = false) (hd : isDir st sp.n = true) :
    Calls Tryz.prog 37 #[.pointer (some ⟨s, 0, none⟩), .string name] w fun e w' => ListedEnds w X s st (listUpto st sp.row sp.row.length) e w' := by
  have e1 : mWalk st 0 1 [name] = (withFid (tick st) ⟨1, W0 ++ [sp], false⟩, 1, 0) := by
    rw [mWalk_new z.find z.get rfl rfl (by decide) (by decide) z.one (by simp) (by simp [nameBad_no hn]), show f0.way = W0 from rfl, go1 hst]
    rfl
  have z1 : M.find (tick st) 1 = none := z.one
  have k1 := k.walk 0 1 [name]
  rw [e1] at k1
  have e2 := mOpen_with (st := tick st) (n := 1) (way := W0 ++ [sp]) z1 (last_snoc _ _) hg
  have k2 := k1.open 1
  rw [e2] at k2
  have e3 := mList_with (st := tick (tick st)) (n := 1) (way := W0 ++ [sp]) z1 (last_snoc _ _) hg hd
  rw [listUpto_fids (st := st) (st' := tick (tick st)) rfl rfl] at e3
  have k3 : KOk (mList (withFid (tick (tick st)) ⟨1, W0 ++ [sp], true⟩) 1).1 := by rw [mList_tick]; exact k2.tick
  rw [e3] at k3
  have e4 := mClunk_with (st := tick (tick (tick st))) (f := ⟨1, W0 ++ [sp], true⟩) z1
  have hin : name.size ≤ maxLen := by have := isName_size hn; unfold maxLen; omega
  have HW := hide (k_walk1 0 1 name 1 h k.ok hin)
  rw [e1] at HW
  have HO := hide (fun (w1 : World) (h1 : KSrv w1 X s (withFid (tick st) ⟨1, W0 ++ [sp], false⟩)) => k_open 1 h1 k1.ok)
  rw [e2] at HO
  have HR := hide (fun (w1 : World) (h1 : KSrv w1 X s (withFid (tick (tick st)) ⟨1, W0 ++ [sp], true⟩)) => k_list 1 h1 k2)
  rw [e3] at HR
  have HCl := hide (fun (w1 : World) (Y : Nat → Prop) (h1 : KSrv w1 Y s (withFid (tick (tick (tick st))) ⟨1, W0 ++ [sp], true⟩)) => k_clunk 1 h1 k3.ok)
  rw [show mClunk _ 1 = _ from e4] at HCl
  generalize listUpto st sp.row sp.row.length = l at HR ⊢
  clear h k z hn hst hg hd e1 e2 e3 e4 k1 k2 k3 z1
  go_enter Tryz.func37, Tryz.ntmps37
  go_wp2_with fail
  refine HW.out.mono ?_
  rintro e w1 ⟨rfl, h1, hx1⟩
  have H1 := hide h1
  have HX1 := hide hx1
  clear h1 hx1
  go_wp2_with fail
  refine (HO.out _ H1.out).mono ?_
  rintro e w2 ⟨rfl, h2, hx2⟩
  have H2 := hide h2
  have HX2 := hide (HX1.out.trans' hx2)
  clear h2 hx2
  go_wp2_with fail
  refine (HR.out _ H2.out).mono ?_
  rintro e w3 ⟨vo, vc, rfl, hv3, hk3, h3, hx3⟩
  have H3 := hide h3
  have HX3 := hide (HX2.out.trans' hx3)
  have HV3 := hide hv3
  have HK3 := hide hk3
  clear h3 hx3 hv3 hk3
  go_wp2_with fail
  refine (HCl.out _ _ H3.out).mono ?_
  rintro e w4 ⟨rfl, h4, hx4⟩
  have H4 := hide h4
  have HX4 := hide (HX3.out.trans' (hx4.weak (X := X) (fun k hk => hk.1)))
  have HV4 := hide (Own.keptBlock HV3.out (fun k hk => hx4.block k (HK3.out k hk).2 (fun q => q.2 hk)))
  have HZ4 := hide hx4.size
  clear h4 hx4
  go_wp2
  go_ret2
  exact ⟨vo, vc, by simp, HV4.out, fun k hk => ⟨by have := (HK3.out k hk).1; have := HX2.out.size; omega, Nat.lt_of_lt_of_le (HK3.out k hk).2 HZ4.out⟩, ⟨_, H4.out⟩, HX4.out⟩
end Go.Proofs.YtdmdgnghaceibaaGreat.P
/- The document's own answer, more: what lies over a directory. -/
namespace Go.Proofs.YtdmdgnghaceibaaGreat.M

def others (d : Nat) (l : List Laid) : List Laid := l.filter (fun x => !(x.onto == d))
def mLay (st : St) (d : Nat) (row : List Member) : St := { st with laid := others d st.laid ++ (if 0 < row.length then [⟨d, row⟩] else []) }

theorem others_snoc (d : Nat) (l : List Laid) (k : Nat) (x : Laid) (hx : l[k]? = some x) : others d (l.take (k + 1)) = others d (l.take k) ++ (if x.onto == d then [] else [x]) := by
  have hlt := lt_of_getElem? hx
  have e : l[k] = x := by rw [List.getElem?_eq_getElem hlt] at hx; exact Option.some.inj hx
  rw [List.take_succ_eq_append_getElem hlt, e]
  unfold others
  rw [List.filter_append]
  cases h : (x.onto == d) <;> simp [h]

theorem others_le (d : Nat) (l : List Laid) (k : Nat) : (others d (l.take k)).length ≤ k := by
  unfold others
  exact Nat.le_trans (List.length_filter_le _ _) (List.length_take_le _ _)
end Go.Proofs.YtdmdgnghaceibaaGreat.M
/- The document's own answer, more: Bind, Unbind. -/
namespace Go.Proofs.YtdmdgnghaceibaaGreat.M

def mUnbind (st : St) (n : Int) : St × Int :=
  match find st n with
  | none => (tick st, 2)
  | some i => match st.fids[i]? with
    | none => (tick st, 2)
    | some f => if isGone st (nodeOf f) then (tick st, 4) else if isDir st (nodeOf f) then
        (if st.laid.any (fun l => l.onto == nodeOf f) then (mLay (tick st) (nodeOf f) [], 0) else (tick st, 7))
      else (tick st, 5)

theorem any_laid_snoc {l : List Laid} {k : Nat} {x : Laid} (p : Laid → Bool) (hs : l[k]? = some x) (ha : (l.take k).any p = false) (hp : p x = false) : (l.take (k + 1)).any p = false := by
  have hlt := lt_of_getElem? hs
  have e : l[k] = x := by rw [List.getElem?_eq_getElem hlt] at hs; exact Option.some.inj hs
  rw [List.take_succ_eq_append_getElem hlt, List.any_append, ha, e]
  simp [hp]
theorem any_laid_hit {l : List Laid} {k : Nat} {x : Laid} (p : Laid → Bool) (hs : l[k]? = some x) (hp : p x = true) : l.any p = true :=
  List.any_eq_true.2 ⟨x, List.mem_of_getElem? hs, hp⟩
end Go.Proofs.YtdmdgnghaceibaaGreat.M
/- The document's own answer, more: Bind. -/
namespace Go.Proofs.YtdmdgnghaceibaaGreat.M

/-- The row that a Bind would make. -/
def boundRow (st : St) (a b : Nat) (how : Int) : List Member :=
  if how = 0 ∨ how = 4 then [⟨a, decide (4 ≤ how)⟩] else if how = 1 ∨ how = 5 then ⟨a, decide (4 ≤ how)⟩ :: rowOf st b else rowOf st b ++ [⟨a, decide (4 ≤ how)⟩]

def howOk (how : Int) : Bool := decide (how = 0 ∨ how = 1 ∨ how = 2 ∨ how = 4 ∨ how = 5 ∨ how = 6)

def mBind (st : St) (n onto how : Int) : St × Int :=
  match find st n, find st onto with
  | some i, some k => match st.fids[i]?, st.fids[k]? with
    | some f, some g =>
      if isGone st (nodeOf f) || isGone st (nodeOf g) then (tick st, 4)
      else if !isDir st (nodeOf f) || !isDir st (nodeOf g) then (tick st, 5)
      else if howOk how then (if 6 < (boundRow st (nodeOf f) (nodeOf g) how).length then (tick st, 11) else (mLay (tick st) (nodeOf g) (boundRow st (nodeOf f) (nodeOf g) how), 0))
      else (tick st, 1)
    | _, _ => (tick st, 2)
  | _, _ => (tick st, 2)
end Go.Proofs.YtdmdgnghaceibaaGreat.M
/- A script's steps, in the model; one step of a kind up to 10. -/
namespace Go.Proofs.YtdmdgnghaceibaaGreat.P
open M Go.ChangeShapes Go.WideShapes Go.ChangeAt Go.RowKit
set_option linter.unusedVariables false

/-- What a step makes of a state. -/
def mStep (st : St) (o : MOp) : St :=
  if o.kind = 1 then (mAttach st o.fid).1 else if o.kind = 2 then (mClunk st o.fid).1 else if o.kind = 3 then (mWalk st o.fid o.b o.names).1 else if o.kind = 4 then (mOpen st o.fid).1
  else if o.kind = 5 then (mCreate st o.fid o.text o.yes).1 else if o.kind = 6 then tick st else if o.kind = 7 then (mWrite st o.fid o.a o.text).1 else if o.kind = 8 then tick st else if o.kind = 9 then tick st
  else if o.kind = 10 then (mRemove st o.fid).1 else if o.kind = 11 then (mBind st o.fid o.b o.a).1 else if o.kind = 12 then (mUnbind st o.fid).1 else if o.kind = 13 then tick st else st

section
variable (st : St) (k fid a b : Int) (text : ByteArray) (yes : Bool) (names : List ByteArray)
theorem mStep1 : mStep st ⟨1, k, fid, a, b, text, yes, names⟩ = (mAttach st fid).1 := rfl
theorem mStep2 : mStep st ⟨2, k, fid, a, b, text, yes, names⟩ = (mClunk st fid).1 := rfl
theorem mStep3 : mStep st ⟨3, k, fid, a, b, text, yes, names⟩ = (mWalk st fid b names).1 := rfl
theorem mStep4 : mStep st ⟨4, k, fid, a, b, text, yes, names⟩ = (mOpen st fid).1 := rfl
theorem mStep5 : mStep st ⟨5, k, fid, a, b, text, yes, names⟩ = (mCreate st fid text yes).1 := rfl
theorem mStep6 : mStep st ⟨6, k, fid, a, b, text, yes, names⟩ = tick st := rfl
theorem mStep7 : mStep st ⟨7, k, fid, a, b, text, yes, names⟩ = (mWrite st fid a text).1 := rfl
theorem mStep8 : mStep st ⟨8, k, fid, a, b, text, yes, names⟩ = tick st := rfl
theorem mStep9 : mStep st ⟨9, k, fid, a, b, text, yes, names⟩ = tick st := rfl
theorem mStep10 : mStep st ⟨10, k, fid, a, b, text, yes, names⟩ = (mRemove st fid).1 := rfl
theorem mStep11 : mStep st ⟨11, k, fid, a, b, text, yes, names⟩ = (mBind st fid b a).1 := rfl
theorem mStep12 : mStep st ⟨12, k, fid, a, b, text, yes, names⟩ = (mUnbind st fid).1 := rfl
theorem mStep13 : mStep st ⟨13, k, fid, a, b, text, yes, names⟩ = tick st := rfl
theorem mStep_no (kind : Int) (h : kind < 1 ∨ 13 < kind) : mStep st ⟨kind, k, fid, a, b, text, yes, names⟩ = st := by
  unfold mStep
  simp only
  rw [if_neg (by omega), if_neg (by omega), if_neg (by omega), if_neg (by omega), if_neg (by omega), if_neg (by omega), if_neg (by omega), if_neg (by omega), if_neg (by omega), if_neg (by omega), if_neg (by omega), if_neg (by omega), if_neg (by omega)]
end

theorem kinds10 {k : Int} (h : k ≤ 10) : (k < 1 ∨ 13 < k) ∨ k = 1 ∨ k = 2 ∨ k = 3 ∨ k = 4 ∨ k = 5 ∨ k = 6 ∨ k = 7 ∨ k = 8 ∨ k = 9 ∨ k = 10 := by omega

/-- What every state of a script keeps, where nothing is bound. -/
structure Inv (st : St) (n : Nat) : Prop where
  ok : POk st
  plain : Plain st
  tree : Treed st
  small : Small st
  len : st.nodes.length ≤ n

theorem Inv.long {st : St} {n : Nat} (h : Inv st n) : ∀ f ∈ st.fids, f.way.length ≤ n := fun f hf =>
  Nat.le_trans ((h.plain.way f hf).len (fun s hs => ((h.ok.way f hf).2 s hs).1)) h.len
theorem Inv.mono {st : St} {n m : Nat} (h : Inv st n) (hm : n ≤ m) : Inv st m := ⟨h.ok, h.plain, h.tree, h.small, Nat.le_trans h.len hm⟩
theorem St0_treed : Treed St0 := by
  refine ⟨⟨root, rfl, rfl, rfl, rfl⟩, fun i x hx hi => ?_, fun i j x y hx hy _ _ _ _ => ?_, by simp [St0], by simp [St0]⟩
  · have := M.lt_of_getElem? hx
    simp [St0] at this
    omega
  · have h1 := M.lt_of_getElem? hx
    have h2 := M.lt_of_getElem? hy
    simp [St0] at h1 h2
    omega
theorem St0_small : Small St0 := by
  intro x hx
  simp [St0] at hx
  subst hx
  decide
theorem Inv.start : Inv St0 1 := ⟨St0_ok, St0_plain, St0_treed, St0_small, by simp [St0]⟩
theorem Inv.tick {st : St} {n : Nat} (h : Inv st n) : Inv (tick st) n := ⟨h.ok.tick, h.plain.tick, h.tree.same rfl rfl, h.small.same rfl, h.len⟩

theorem Inv.step {st : St} {n : Nat} (h : Inv st n) (o : MOp) (hk : o.kind ≤ 10) : Inv (mStep st o) (n + 1) := by
  have hl := h.len
  obtain ⟨kind, k, fid, a, bb, text, yes, names⟩ := o
  rcases kinds10 hk with e | rfl | rfl | rfl | rfl | rfl | rfl | rfl | rfl | rfl | rfl
  · rw [mStep_no _ _ _ _ _ _ _ _ _ e]; exact h.mono (by omega)
  · exact ⟨mAttach_ok h.ok _, mAttach_plain h.plain _, h.tree.same (mAttach_len _ _) (mAttach_laid _ _), h.small.same (mAttach_len _ _), by rw [mStep1, mAttach_len]; omega⟩
  · exact ⟨mClunk_ok h.ok _, mClunk_plain h.plain _, h.tree.same (mClunk_len _ _) (mClunk_laid _ _), h.small.same (mClunk_len _ _), by rw [mStep2, mClunk_len]; omega⟩
  · exact ⟨mWalk_ok h.ok _ _ _, mWalk_plain h.plain _ _ _, h.tree.same (mWalk_len _ _ _ _) (mWalk_laid _ _ _ _), h.small.same (mWalk_len _ _ _ _), by rw [mStep3, mWalk_len]; omega⟩
  · exact ⟨mOpen_ok h.ok _, mOpen_plain h.plain _, h.tree.same (mOpen_len _ _) (mOpen_laid _ _), h.small.same (mOpen_len _ _), by rw [mStep4, mOpen_len]; omega⟩
  · exact ⟨mCreate_keeps h.ok _ _ _, mCreate_plain h.ok h.plain _ _ _, mCreate_treed h.ok h.tree _ _ _, mCreate_small h.ok h.small _ _ _, by have := mCreate_len h.ok fid text yes; rw [mStep5]; omega⟩
  · exact h.tick.mono (by omega)
  · exact ⟨mWrite_ok h.ok _ _ _, mWrite_plain h.plain _ _ _, mWrite_treed h.tree _ _ _, mWrite_small h.small _ _ _, by rw [mStep7, mWrite_len]; omega⟩
  · exact h.tick.mono (by omega)
  · exact h.tick.mono (by omega)
  · exact ⟨mRemove_ok h.ok _, mRemove_plain h.plain _, mRemove_treed h.tree _, mRemove_small h.small _, by rw [mStep10, mRemove_len]; omega⟩

/-- A step, as its value stands. -/
def opAgg (o : MOp) (ao : Option Addr) (nc : Nat) : Value := .agg #[.int .i64 o.kind, .int .i64 o.k, .int .i64 o.fid, .int .i64 o.a, .int .i64 o.b, .string o.text, .bool o.yes, .slice ao o.names.length nc]

/-- What is asked of a step that comes in. -/
structure OpOk (w : World) (X : Nat → Prop) (o : MOp) (ao : Option Addr) : Prop where
  text : o.text.size ≤ 140737488355328
  a : o.a ≤ 9223372036854775807
  names : NamesAt w ao o.names
  low : ∀ a, ao = some a → o.names ≠ [] → ¬ X a.block

/-- A step of a kind up to 10. -/
theorem bstep_any {w : World} {X : Nat → Prop} {b : Nat} {st : St} {n : Nat} (o : MOp) (ao : Option Addr) (nc : Nat) (h : BothIs w X b st) (hi : Inv st n) (hn : n ≤ 1700000000000) (hk : o.kind ≤ 10) (ho : OpOk w X o ao) :
    Calls Tryz.prog 29 #[.pointer (some ⟨b, 0, none⟩), .agg #[.int .i64 o.kind, .int .i64 o.k, .int .i64 o.fid, .int .i64 o.a, .int .i64 o.b, .string o.text, .bool o.yes, .slice ao o.names.length nc]] w fun e w' => e = .returned (.bool true) ∧ BothIs w' X b (mStep st o) ∧ Ext X w w' := by
  obtain ⟨h1, h2, h3, h4⟩ := ho
  obtain ⟨kind, k, fid, a, bb, text, yes, names⟩ := o
  simp only at hk h1 h2 h3 h4 ⊢
  have hlong : ∀ f ∈ st.fids, f.way.length ≤ 1700000000000 := fun f hf => Nat.le_trans (hi.long f hf) hn
  have hnod : st.nodes.length ≤ 1700000000000 := Nat.le_trans hi.len hn
  have htm : text.size ≤ maxLen := by unfold maxLen; omega
  rcases kinds10 hk with e | rfl | rfl | rfl | rfl | rfl | rfl | rfl | rfl | rfl | rfl
  · rw [mStep_no _ _ _ _ _ _ _ _ _ e]; exact step_none kind k fid a bb text yes ao names.length nc h (by omega)
  · exact step_attach k fid a bb text yes ao names.length nc h hi.ok
  · exact step_clunk k fid a bb text yes ao names.length nc h hi.ok
  · exact step_walk k fid a bb text yes names ao nc h hi.ok h3 h4 hlong
  · exact step_open k fid a bb text yes ao names.length nc h hi.ok
  · exact step_create k fid a bb text yes ao names.length nc h hi.ok htm hnod hlong
  · exact step_read k fid a bb text yes ao names.length nc h hi.ok hi.small
  · exact step_write k fid a bb text yes ao names.length nc h hi.ok hi.small h2 h1
  · exact step_list k fid a bb text yes ao names.length nc h hi.ok hi.tree.uniq hnod
  · exact step_stat k fid a bb text yes ao names.length nc h hi.ok hi.small
  · exact step_remove k fid a bb text yes ao names.length nc h hi.ok hi.tree hnod
end Go.Proofs.YtdmdgnghaceibaaGreat.P
/- 'opened' of the laws without the document's answer. -/
namespace Go.Proofs.YtdmdgnghaceibaaGreat.P
open M Go.ChangeShapes Go.WideShapes Go.ChangeAt Go.RowKit
set_option linter.unusedVariables false

def firstName : ByteArray := ⟨#[102, 105, 114, 115, 116]⟩
def hiText : ByteArray := ⟨#[104, 105]⟩
def firstNd : Nd := ⟨firstName, false, 0, ⟨#[0, 0, 104, 105]⟩, 1, true⟩
/-- The Server that 'opened' hands back. -/
def StK : St := ⟨[root, firstNd], [], [f0], 6⟩

theorem mRemove_with {st : St} {n : Int} {way : List Spot} {op : Bool} {c : Nat} {x : Nd} (h : M.find st n = none) (hc : nodeOf ⟨n, way, op⟩ = c) (hx : st.nodes[c]? = some x) (hg : x.gone = false) (hd : x.dir = false) (h0 : c ≠ 0) :
    mRemove (withFid st ⟨n, way, op⟩) n = (setNode (tick st) c (goneNd x), 0) := by
  have hf := find_with (f := ⟨n, way, op⟩) h
  rw [mRemove_eq (st := withFid st ⟨n, way, op⟩) (n := n) (x := x) hf (get_with _) (by rw [hc]; exact hx)]
  have hE : removeE (withFid st ⟨n, way, op⟩) (nodeOf ⟨n, way, op⟩) x = 0 := by
    unfold removeE
    rw [hg, hc, hd]
    simp [h0]
  rw [hE, if_pos rfl, hc, show tick (withFid st ⟨n, way, op⟩) = withFid (tick st) ⟨n, way, op⟩ from rfl, show st.fids.length = (tick st).fids.length from rfl, drop_with]

theorem isName_first : isName firstName = true := by decide +kernel

def stA (c : Int) : St := ⟨[root], [], [f0], c⟩
def stB (c : Int) (x : Nd) : St := ⟨[root, x], [], [f0], c⟩

theorem o1 : mAttach St0 0 = (stA 1, 0) := by kernel_rfl
theorem oz (c : Int) : Zero (stA c) := ⟨⟨[], rfl⟩, rfl⟩
theorem ozB (c : Int) (x : Nd) : Zero (stB c x) := ⟨⟨[], rfl⟩, rfl⟩
theorem otick (st : St) (c d : Int) (h : wrap64 (c + 1) = d) : tick (counted st c) = counted st d := by
  unfold tick counted
  simp only [h]
theorem oA (c d : Int) (h : wrap64 (c + 1) = d) : tick (stA c) = stA d := otick (stA 0) c d h
theorem oB (c d : Int) (x : Nd) (h : wrap64 (c + 1) = d) : tick (stB c x) = stB d x := otick (stB 0 x) c d h
theorem oAlive (c : Int) : isGone (stA c) 0 = false ∧ isDir (stA c) 0 = true := ⟨rfl, rfl⟩

theorem o2 : mWalk (stA 1) 0 1 [] = (withFid (stA 2) ⟨1, W0, false⟩, 0, 0) := by
  have z := oz 1
  rw [mWalk_new z.find z.get rfl rfl (by decide) (by decide) z.one (by simp) (by simp), oA 1 2 (by kernel_rfl)]
  rfl
theorem o3 : ∃ sp, mCreate (withFid (stA 2) ⟨1, W0, false⟩) 1 firstName false = (withFid (stB 3 (newNd firstName false 0)) ⟨1, W0 ++ [sp], true⟩, 0) ∧ sp.n = 1 := by
  obtain ⟨sp, h, hn⟩ := mCreate_with (st := stA 2) (n := 1) (way := W0) (sp := ⟨0, [⟨0, true⟩]⟩) (name := firstName) (dir := false) (m := ⟨0, true⟩) (oz 2).one W0_last rfl rfl isName_first (by decide +kernel) rfl (by decide)
  refine ⟨sp, ?_, hn⟩
  rw [h, oA 2 3 (by kernel_rfl)]
  rfl
theorem o4 (sp : Spot) (hn : sp.n = 1) : mWrite (withFid (stB 3 (newNd firstName false 0)) ⟨1, W0 ++ [sp], true⟩) 1 2 hiText = (withFid (stB 4 { firstNd with gone := false }) ⟨1, W0 ++ [sp], true⟩, 2, 0) := by
  rw [mWrite_with (st := stB 3 (newNd firstName false 0)) (c := 1) (x := newNd firstName false 0) (ozB 3 _).one (by rw [nodeOf_snoc, hn]) rfl rfl rfl (by decide) (by decide), oB 3 4 _ (by kernel_rfl)]
  kernel_rfl
theorem o5 (sp : Spot) (hn : sp.n = 1) : mRead (withFid (stB 4 { firstNd with gone := false }) ⟨1, W0 ++ [sp], true⟩) 1 0 9 = (withFid (stB 5 { firstNd with gone := false }) ⟨1, W0 ++ [sp], true⟩, ⟨#[0, 0, 104, 105]⟩, 0) := by
  rw [mRead_with (st := stB 4 { firstNd with gone := false }) (c := 1) (x := { firstNd with gone := false }) (ozB 4 _).one (by rw [nodeOf_snoc, hn]) rfl rfl rfl (by decide) (by decide), oB 4 5 _ (by kernel_rfl)]
  kernel_rfl
theorem o6 (sp : Spot) (hn : sp.n = 1) : mRemove (withFid (stB 5 { firstNd with gone := false }) ⟨1, W0 ++ [sp], true⟩) 1 = (StK, 0) := by
  rw [mRemove_with (st := stB 5 { firstNd with gone := false }) (c := 1) (x := { firstNd with gone := false }) (ozB 5 _).one (by rw [nodeOf_snoc, hn]) rfl rfl rfl (by decide), oB 5 6 _ (by kernel_rfl)]
  rfl

theorem St0_kok : KOk St0 := ⟨St0_ok, St0_treed, St0_small, by decide⟩

theorem ksrv_fresh {w : World} {X : Nat → Prop} (hX : ∀ k, w.heap.size ≤ k → X k) : KSrv (w.alloc (.cells Tryz.zeroCells110 110)) X w.heap.size St0 :=
  ⟨fun k => k = w.heap.size, .inl ⟨fresh_zero (heap_alloc_new w _) rfl, rfl⟩, fun k hk => by subst hk; exact ⟨hX _ (Nat.le_refl _), by simp⟩, fun k hk => hX k (by simp at hk; omega)⟩

/-- How 'opened' ends. -/
def OpenedEnds (w : World) (X : Nat → Prop) (e : Ending) (w' : World) : Prop := e = .returned (.pointer (some ⟨w.heap.size, 0, none⟩)) ∧ KSrv w' X w.heap.size StK ∧ KOk StK ∧ Ext X w w'

set_option maxRecDepth 20000 in
set_option maxHeartbeats 1000000 in
theorem opened_any {w : World} {X : Nat → Prop} (hX : ∀ k, w.heap.size ≤ k → X k) : Calls Tryz.prog 32 #[] w fun e w' => OpenedEnds w X e w' := by
  obtain ⟨sp, e3, hn⟩ := o3
  have k0 := St0_kok
  have k1 := k0.attach 0
  rw [o1] at k1
  have k2 := k1.walk 0 1 []
  rw [o2] at k2
  have k3 := k2.create 1 firstName false (by decide)
  rw [e3] at k3
  have k4 := k3.write 1 2 hiText
  rw [o4 sp hn] at k4
  have k5 : KOk (mRead (withFid (stB 4 { firstNd with gone := false }) ⟨1, W0 ++ [sp], true⟩) 1 0 9).1 := by rw [mRead_tick]; exact k4.tick
  rw [o5 sp hn] at k5
  have k6 := k5.remove 1
  rw [o6 sp hn] at k6
  have H0 := hide (ksrv_fresh (w := w) hX)
  have HA := hide (fun (w1 : World) (h1 : KSrv w1 X w.heap.size St0) => k_attach 0 h1 k0.ok)
  rw [o1] at HA
  have HW := hide (fun (w1 : World) (h1 : KSrv w1 X w.heap.size (stA 1)) => k_walk 0 1 [] none 0 h1 k1.ok (no_names w1) (fun a ha => by cases ha))
  rw [o2] at HW
  have HCr := hide (fun (w1 : World) (h1 : KSrv w1 X w.heap.size (withFid (stA 2) ⟨1, W0, false⟩)) => k_create 1 firstName false h1 k2 (by decide))
  rw [e3] at HCr
  have HWr := hide (fun (w1 : World) (h1 : KSrv w1 X w.heap.size (withFid (stB 3 (newNd firstName false 0)) ⟨1, W0 ++ [sp], true⟩)) => k_write_lit 1 2 (by omega) hiText #[.int .u8 104, .int .u8 105] (2, 3) 2 rfl h1 k3 (by decide))
  rw [o4 sp hn] at HWr
  have HR := hide (fun (w1 : World) (h1 : KSrv w1 X w.heap.size (withFid (stB 4 { firstNd with gone := false }) ⟨1, W0 ++ [sp], true⟩)) => k_read 1 0 9 h1 k4)
  rw [o5 sp hn] at HR
  have HRm := hide (fun (w1 : World) (Y : Nat → Prop) (h1 : KSrv w1 Y w.heap.size (withFid (stB 5 { firstNd with gone := false }) ⟨1, W0 ++ [sp], true⟩)) => k_remove 1 h1 k5)
  rw [o6 sp hn] at HRm
  have K6 := hide k6
  have HXX := hide hX
  clear k0 k1 k2 k3 k4 k5 k6 e3 hn hX
  go_enter Tryz.func32, Tryz.ntmps32
  go_wp2_with fail
  refine (HA.out _ H0.out).mono ?_
  rintro e w1 ⟨rfl, h1, hx1⟩
  have H1 := hide h1
  have HX1 := hide ((Ext.below (F := X) ((Below.refl _ w).alloc (Nat.le_refl _) _)).trans' hx1)
  clear h1 hx1
  go_wp2_with fail
  refine (HW.out _ H1.out).mono ?_
  rintro e w2 ⟨rfl, h2, hx2⟩
  have H2 := hide h2
  have HX2 := hide (HX1.out.trans' hx2)
  clear h2 hx2
  go_wp2_with fail
  refine (HCr.out _ H2.out).mono ?_
  rintro e w3 ⟨rfl, h3, hx3⟩
  have H3 := hide h3
  have HX3 := hide (HX2.out.trans' hx3)
  clear h3 hx3
  have hrun := conv_const w3 #[.int .u8 104, .int .u8 105] 2 2
  have HWr2 := hide (HWr.out w3 H3.out)
  rw [show hiText.size = 2 from rfl] at HWr2
  go_wp2_with fail
  refine HWr2.out.mono ?_
  rintro e w4 ⟨rfl, h4, hx4⟩
  have H4 := hide h4
  have HX4 := hide (HX3.out.trans' hx4)
  clear h4 hx4 hrun
  go_wp2_with fail
  refine (HR.out _ H4.out).mono ?_
  rintro e w5 ⟨vo, vn, vc, rfl, hv5, hk5, h5, hx5⟩
  have H5 := hide h5
  have HX5 := hide (HX4.out.trans' hx5)
  have HV5 := hide hv5
  have HK5 := hide hk5
  clear h5 hx5 hv5 hk5
  go_wp2_with fail
  refine (HRm.out _ _ H5.out).mono ?_
  rintro e w6 ⟨rfl, h6, hx6⟩
  have H6 := hide (h6.more (Y := X) (fun k hk => hk.1))
  have HX6 := hide (HX5.out.trans' (hx6.weak (X := X) (fun k hk => hk.1)))
  have hcv := bytes_string (w := w6) (Own.keptBlock HV5.out (fun k hk => hx6.block k (HK5.out k hk).2 (fun q => q.2 hk)))
  clear h6 hx6
  go_wp2_with (go_at_call 26; refine (k_calls H6.out).mono ?_; rintro e w' ⟨rfl, hw⟩; obtain rfl := hw.symm)
  go_ret
  exact ⟨rfl, H6.out, K6.out, HX6.out⟩
end Go.Proofs.YtdmdgnghaceibaaGreat.P
/- 'pick', 'letter'; the states through which 'Gone' goes. -/
namespace Go.Proofs.YtdmdgnghaceibaaGreat.P
open M Go.ChangeShapes Go.WideShapes Go.ChangeAt Go.RowKit
set_option linter.unusedVariables false

/-- Which of n things a raw number speaks of. -/
def mPick (c : Int) (n : Nat) : Nat := (if c < 0 then -(c + 1) else c).toNat % n
theorem mPick_lt (c : Int) {n : Nat} (h : 0 < n) : mPick c n < n := Nat.mod_lt _ h
def letterB (k : Nat) : ByteArray := ⟨#[UInt8.ofNat (97 + k)]⟩

set_option maxRecDepth 20000 in
theorem kpick_any (c : Int) (n : Nat) (w : World) (hc : -9223372036854775808 ≤ c ∧ c ≤ 9223372036854775807) (hn : 0 < n ∧ n ≤ 1000) :
    Calls Tryz.prog 33 #[.int .i64 c, .int .i64 n] w fun e w' => e = .returned (.int .i64 (mPick c n : Nat)) ∧ w' = w := by
  obtain ⟨hc1, hc2⟩ := hc
  obtain ⟨hn1, hn2⟩ := hn
  by_cases h : c < 0
  · obtain ⟨q, hq⟩ := Int.eq_ofNat_of_zero_le (show 0 ≤ -(c + 1) by omega)
    have HE := hide (show mPick c n = q % n by unfold mPick; rw [if_pos h, hq]; rfl)
    obtain rfl : c = -(q : Int) - 1 := by omega
    have e1 : -((-(q : Int) - 1) + 1) = (q : Int) := by omega
    have e2 : wrap64 (-(q : Int) - 1 + 1) = -(q : Int) := by unfold wrap64; omega
    have e3 : wrap64 (-(-(q : Int))) = (q : Int) := by unfold wrap64; omega
    have hz : ((n : Int) == 0) = false := by simp; omega
    clear hq
    go_enter Tryz.func33, Tryz.ntmps33
    go_wp2
    go_ret
    exact ⟨by rw [HE.out, Int.natCast_emod]; rfl, rfl⟩
  · obtain ⟨q, rfl⟩ := Int.eq_ofNat_of_zero_le (show 0 ≤ c by omega)
    have HE := hide (show mPick (q : Int) n = q % n by unfold mPick; rw [if_neg h]; rfl)
    have hz : ((n : Int) == 0) = false := by simp; omega
    go_enter Tryz.func33, Tryz.ntmps33
    go_wp2
    go_ret
    exact ⟨by rw [HE.out, Int.natCast_emod]; rfl, rfl⟩

set_option maxRecDepth 20000 in
theorem kletter_any (c : Int) (w : World) (hc : -9223372036854775808 ≤ c ∧ c ≤ 9223372036854775807) :
    Calls Tryz.prog 34 #[.int .i64 c] w fun e w' => e = .returned (.string (letterB (mPick c 8))) ∧ Below w.heap.size w w' := by
  have HP := hide (kpick_any c 8 w hc (by omega))
  have hlt := mPick_lt c (n := 8) (by omega)
  obtain ⟨k, hk⟩ : ∃ k, mPick c 8 = k := ⟨_, rfl⟩
  rw [hk] at HP hlt ⊢
  clear hk hc
  have hb : (UInt8.ofNat (97 + k)).toNat = 97 + k := by simp; omega
  have hcv : (convert 31 9 (.slice (some ⟨w.heap.size, 0, none⟩) 1 1)).run Tryz.prog (w.alloc (.cells #[.int .u8 (97 + (k : Int))] 5)) = .ok (.string (letterB k)) (w.alloc (.cells #[.int .u8 (97 + (k : Int))] 5)) := by
    refine run_convert_bytes_back (P := Tryz.prog) _ 31 9 5 ⟨w.heap.size, 0, none⟩ 1 [UInt8.ofNat (97 + k)] Tryz.underlying31 Tryz.underlying5 Tryz.underlying9 (fun j hj => ?_)
    have hj0 : j = 0 := by simp at hj; omega
    subst hj0
    have := heap_alloc_new w (.cells #[.int .u8 (97 + (k : Int))] 5)
    rw [Addr.add_lit]
    simp only [World.cell?, this, List.getElem_cons_zero, hb]
    simp
  have HB := hide (show Below w.heap.size w (w.alloc (.cells #[.int .u8 (97 + (k : Int))] 5)) from (Below.refl _ w).alloc (Nat.le_refl _) _)
  clear hb
  go_enter Tryz.func34, Tryz.ntmps34
  go_wp2_with (go_at_call 33; refine HP.out.mono ?_; rintro e w' ⟨rfl, hw⟩; obtain rfl := hw.symm)
  go_ret
  exact ⟨rfl, HB.out⟩

theorem isName_letter {k : Nat} (h : k < 8) : isName (letterB k) = true := by
  have : ∀ k : Fin 8, isName (letterB k.val) = true := by decide +kernel
  exact this ⟨k, h⟩

/-! ### States with nothing bound -/
def Gs (nodes : List Nd) (fids : List Fid) (c : Int) : St := ⟨nodes, [], fids, c⟩
def dName : ByteArray := ⟨#[100]⟩
def newText : ByteArray := ⟨#[110, 101, 119]⟩
def dNd : Nd := newNd dName true 0
def gFile (L data : ByteArray) (g : Bool) : Nd := ⟨L, false, 2, data, 1, g⟩
def wd : List Spot := W0 ++ [⟨2, [⟨2, true⟩]⟩]
def w3 : List Spot := wd ++ [⟨3, []⟩]
theorem isName_d : isName dName = true := by decide +kernel

section
variable {L data : ByteArray} {g : Bool} {rest : List Nd} {fids : List Fid} {c : Int}

theorem gs_tick (nodes : List Nd) : tick (Gs nodes fids c) = Gs nodes fids (wrap64 (c + 1)) := rfl
theorem gs_row (nodes : List Nd) (d : Nat) : rowOf (Gs nodes fids c) d = [⟨d, true⟩] := rfl
theorem g_d (hr : ∀ x ∈ rest, True) : lies (Gs (root :: firstNd :: dNd :: rest) fids c) 0 dName = some 2 := by
  simp [lies, Gs, liesHere, root, firstNd, dNd, newNd, List.findIdx?_cons]
theorem g_dir : DirAt (Gs (root :: firstNd :: dNd :: rest) fids c) dName 2 := ⟨isName_d, g_d (fun _ _ => trivial), rfl, rfl⟩
theorem g_none : lies (Gs [root, firstNd, dNd] fids c) 2 L = none := by
  simp [lies, Gs, liesHere, root, firstNd, dNd, newNd, List.findIdx?_cons]
theorem g_there : lies (Gs [root, firstNd, dNd, gFile L data false] fids c) 2 L = some 3 := by
  simp [lies, Gs, liesHere, root, firstNd, dNd, newNd, gFile, List.findIdx?_cons]
theorem g_gone : lies (Gs [root, firstNd, dNd, gFile L data true] fids c) 2 L = none := by
  simp [lies, Gs, liesHere, root, firstNd, dNd, newNd, gFile, List.findIdx?_cons]
theorem g_again (t : ByteArray) : lies (Gs [root, firstNd, dNd, gFile L data true, gFile L t false] fids c) 2 L = some 4 := by
  simp [lies, Gs, liesHere, root, firstNd, dNd, newNd, gFile, List.findIdx?_cons]
theorem g_list : listUpto (Gs [root, firstNd, dNd, gFile L data true] fids c) [⟨2, true⟩] 1 = [] := by
  have : namesOf (Gs [root, firstNd, dNd, gFile L data true] fids c) 2 = [] := by
    simp [namesOf, namesIn, Gs, addName, root, firstNd, dNd, newNd, gFile]
  simp [listUpto, this]
theorem g_busy : mBusy (Gs [root, firstNd, dNd, gFile L data false] fids c) 2 = true := by
  simp [mBusy, hasEntry, Gs, isEntry, gFile]

/-- The way to the file. -/
theorem g_go (T : Treed (Gs [root, firstNd, dNd, gFile L data false] fids c)) (hL : isName L = true) : wayGo (Gs [root, firstNd, dNd, gFile L data false] fids c) [dName, L] W0 = (2, 0, w3) :=
  go2 (g_dir.step T) (wayStep_in (sp := ⟨2, [⟨2, true⟩]⟩) (c := 3) hL (last_snoc _ _) rfl rfl ((seen_one 2 L rfl).trans g_there))
theorem g_go2 (t : ByteArray) (T : Treed (Gs [root, firstNd, dNd, gFile L data true, gFile L t false] fids c)) (hL : isName L = true) : wayGo (Gs [root, firstNd, dNd, gFile L data true, gFile L t false] fids c) [dName, L] W0 = (2, 0, wd ++ [⟨4, []⟩]) :=
  go2 (g_dir.step T) (wayStep_in (sp := ⟨2, [⟨2, true⟩]⟩) (c := 4) hL (last_snoc _ _) rfl rfl ((seen_one 2 L rfl).trans (g_again t)))
end

theorem mRemove_busy {st : St} {n : Int} {way : List Spot} {op : Bool} {d : Nat} {x : Nd} (h : M.find st n = none) (hc : nodeOf ⟨n, way, op⟩ = d) (hx : st.nodes[d]? = some x) (hg : x.gone = false) (hd : x.dir = true) (h0 : d ≠ 0) (hb : mBusy st d = true) :
    mRemove (withFid st ⟨n, way, op⟩) n = (tick st, 10) := by
  have hf := find_with (f := ⟨n, way, op⟩) h
  rw [mRemove_eq (st := withFid st ⟨n, way, op⟩) (n := n) (x := x) hf (get_with _) (by rw [hc]; exact hx)]
  have hE : removeE (withFid st ⟨n, way, op⟩) (nodeOf ⟨n, way, op⟩) x = 10 := by
    unfold removeE
    rw [hg, hc, hd, show mBusy (withFid st ⟨n, way, op⟩) d = true from hb]
    simp [h0]
  rw [hE, if_neg (by decide), show tick (withFid st ⟨n, way, op⟩) = withFid (tick st) ⟨n, way, op⟩ from rfl, show st.fids.length = (tick st).fids.length from rfl, drop_with]
end Go.Proofs.YtdmdgnghaceibaaGreat.P
/- 'Gone' walked. -/
namespace Go.Proofs.YtdmdgnghaceibaaGreat.P
open M Go.ChangeShapes Go.WideShapes Go.ChangeAt Go.RowKit
set_option linter.unusedVariables false

def F2 : Fid := ⟨2, w3, false⟩
def F3 : Fid := ⟨3, w3, false⟩
def F5 : Fid := ⟨5, wd, false⟩

section
variable {L D : ByteArray} {c : Int}
abbrev gN (L D : ByteArray) : List Nd := [root, firstNd, dNd, gFile L D false]
abbrev gM (L D : ByteArray) : List Nd := [root, firstNd, dNd, gFile L D true]
abbrev gO (L D : ByteArray) : List Nd := [root, firstNd, dNd, gFile L D true, gFile L newText false]

theorem q_z (nodes : List Nd) (rest : List Fid) (h : ∀ f ∈ rest, f.n ≠ 1) : Zero (Gs nodes (f0 :: rest) c) := by
  refine ⟨⟨rest, rfl⟩, ?_⟩
  unfold M.find
  rw [List.findIdx?_eq_none_iff]
  intro f hf
  rcases List.mem_cons.1 hf with rfl | hf
  · rfl
  · simpa using h f hf

theorem q_w2 (T : Treed (Gs (gN L D) [f0] c)) (hL : isName L = true) : mWalk (Gs (gN L D) [f0] c) 0 2 [dName, L] = (Gs (gN L D) [f0, F2] (wrap64 (c + 1)), 2, 0) := by
  have z := q_z (c := c) (gN L D) [] (by simp)
  rw [mWalk_new z.find z.get rfl rfl (by decide) (by decide) rfl (by simp) (by simp [nameBad_no isName_d, nameBad_no hL]), show f0.way = W0 from rfl, g_go T hL]
  rfl
theorem q_w3 (T : Treed (Gs (gN L D) [f0, F2] c)) (hL : isName L = true) : mWalk (Gs (gN L D) [f0, F2] c) 0 3 [dName, L] = (Gs (gN L D) [f0, F2, F3] (wrap64 (c + 1)), 2, 0) := by
  have z := q_z (c := c) (gN L D) [F2] (by simp [F2])
  rw [mWalk_new z.find z.get rfl rfl (by decide) (by decide) rfl (by simp) (by simp [nameBad_no isName_d, nameBad_no hL]), show f0.way = W0 from rfl, g_go T hL]
  rfl
theorem q_w4 (T : Treed (Gs (gN L D) [f0, F2, F3] c)) : mWalk (Gs (gN L D) [f0, F2, F3] c) 0 4 [dName] = (withFid (Gs (gN L D) [f0, F2, F3] (wrap64 (c + 1))) ⟨4, wd, false⟩, 1, 0) := by
  have z := q_z (c := c) (gN L D) [F2, F3] (by simp [F2, F3])
  rw [mWalk_new z.find z.get rfl rfl (by decide) (by decide) rfl (by simp) (by simp [nameBad_no isName_d]), show f0.way = W0 from rfl, go1 (g_dir.step T)]
  rfl
theorem q_r4 : mRemove (withFid (Gs (gN L D) [f0, F2, F3] c) ⟨4, wd, false⟩) 4 = (Gs (gN L D) [f0, F2, F3] (wrap64 (c + 1)), 10) := by
  rw [mRemove_busy (d := 2) (x := dNd) rfl rfl rfl rfl rfl (by decide) g_busy]
  rfl
theorem q_c4 : mClunk (Gs (gN L D) [f0, F2, F3] c) 4 = (Gs (gN L D) [f0, F2, F3] (wrap64 (c + 1)), 2) := by
  unfold mClunk
  rw [show M.find (Gs (gN L D) [f0, F2, F3] c) 4 = none from rfl]
  rfl
theorem q_r2 : mRemove (Gs (gN L D) [f0, F2, F3] c) 2 = (Gs (gM L D) [f0, F3] (wrap64 (c + 1)), 0) := by
  rw [mRemove_eq (i := 1) (f := F2) (x := gFile L D false) rfl rfl rfl]
  rfl
theorem q_o3 (nodes : List Nd) (rest : List Fid) (h : isGone (Gs nodes (f0 :: F3 :: rest) c) 3 = true) : mOpen (Gs nodes (f0 :: F3 :: rest) c) 3 = (Gs nodes (f0 :: F3 :: rest) (wrap64 (c + 1)), 4) := by
  unfold mOpen
  rw [show M.find (Gs nodes (f0 :: F3 :: rest) c) 3 = some 1 from rfl]
  simp only
  rw [show (Gs nodes (f0 :: F3 :: rest) c).fids[1]? = some F3 from rfl]
  simp only
  rw [if_neg (by simp [F3]), show nodeOf F3 = 3 from rfl, if_pos h]
  rfl
theorem q_s3 : mStat (Gs (gM L D) [f0, F3] c) 3 = (Gs (gM L D) [f0, F3] (wrap64 (c + 1)), noStat, 4) := rfl
theorem q_w5 : mWalk (Gs (gM L D) [f0, F3] c) 3 5 [⟨#[46, 46]⟩] = (Gs (gM L D) [f0, F3, F5] (wrap64 (c + 1)), 1, 0) := by
  rw [mWalk_new (n := 3) (i := 1) (f := F3) rfl rfl rfl rfl (by decide) (by decide) rfl (by simp) (by decide +kernel)]
  rw [show F3.way = wd ++ [⟨3, []⟩] from rfl, go1 (wayStep_back (by decide))]
  rfl
theorem q_r3 (nodes : List Nd) (rest : List Fid) (x : Nd) (hx : nodes[3]? = some x) (hg : x.gone = true) : (mRemove (Gs nodes (f0 :: F3 :: rest) c) 3).2 = 4 := by
  rw [mRemove_eq (i := 1) (f := F3) (x := x) rfl rfl hx]
  simp [removeE, hg]
end

/-- 'told' by two names that were typed there. -/
theorem ktold2 {w : World} {X : Nat → Prop} {s : Nat} {st : St} (a b : ByteArray) (nc : Nat) (way : List Spot) (sp : Spot) (x : Nd) (h : KSrv w X s st) (k : KOk st) (z : Zero st) (ha : isName a = true) (hb : isName b = true)
    (hgo : wayGo st [a, b] W0 = (2, 0, way)) (hsp : way.getLast? = some sp) (hx : st.nodes[sp.n]? = some x) (hg : x.gone = false) (hd : x.dir = false) :
    Calls Tryz.prog 38 #[.pointer (some ⟨s, 0, none⟩), .slice (some ⟨w.heap.size, 0, none⟩) 2 nc] (w.alloc (.cells #[.string a, .string b] 9)) fun e w' => ToldEnds w X s st x.data e w' := by
  have hbl : Below w.heap.size w (w.alloc (.cells #[.string a, .string b] 9)) := (Below.refl _ w).alloc (Nat.le_refl _) _
  have h1 := h.apart hbl (fun k => k = w.heap.size) (fun k hk => by subst hk; simp)
  have hsz : ∀ x ∈ [a, b], x.size ≤ maxLen := fun x hx => by
    simp at hx
    rcases hx with rfl | rfl
    · have := isName_size ha; unfold maxLen; omega
    · have := isName_size hb; unfold maxLen; omega
  refine (ktold_any [a, b] (some ⟨w.heap.size, 0, none⟩) nc way sp x h1 k z ⟨by simp [maxLen], fun i t ht => ⟨hsz t (List.mem_of_getElem? ht), w.heap.size, 0, rfl, ?_⟩⟩ (fun q hq _ e => by cases hq; exact e.2 rfl) (by simp) (by simp [nameBad_no ha, nameBad_no hb]) hgo hsp hx hg hd).mono ?_
  · have := heap_alloc_new w (.cells #[.string a, .string b] 9)
    simp only [World.cell?, this]
    have e2 : (#[Value.string a, Value.string b] : Array Value)[i]? = ([a, b].map Value.string)[i]? := by rw [← List.getElem?_toArray]; rfl
    simp only [e2, List.getElem?_map, ht, Nat.zero_add]
    rfl
  · rintro e w' ⟨rfl, cc, h2, hx2⟩
    exact ⟨rfl, cc, h2.more (fun k hk => hk.1), (Ext.below hbl).trans' (hx2.weak (fun k hk => hk.1))⟩
theorem ktold2_none {w : World} {X : Nat → Prop} {s : Nat} {st : St} (a b : ByteArray) (nc : Nat) (q : Nat) (er : Int) (way : List Spot) (h : KSrv w X s st) (k : KOk st) (z : Zero st) (ha : isName a = true) (hb : isName b = true)
    (hgo : wayGo st [a, b] W0 = (q, er, way)) (her : er ≠ 0) :
    Calls Tryz.prog 38 #[.pointer (some ⟨s, 0, none⟩), .slice (some ⟨w.heap.size, 0, none⟩) 2 nc] (w.alloc (.cells #[.string a, .string b] 9)) fun e w' => ToldEnds w X s st ⟨#[63]⟩ e w' := by
  have hbl : Below w.heap.size w (w.alloc (.cells #[.string a, .string b] 9)) := (Below.refl _ w).alloc (Nat.le_refl _) _
  have h1 := h.apart hbl (fun k => k = w.heap.size) (fun k hk => by subst hk; simp)
  have hsz : ∀ x ∈ [a, b], x.size ≤ maxLen := fun x hx => by
    simp at hx
    rcases hx with rfl | rfl
    · have := isName_size ha; unfold maxLen; omega
    · have := isName_size hb; unfold maxLen; omega
  refine (ktold_none [a, b] (some ⟨w.heap.size, 0, none⟩) nc q er way h1 k z ⟨by simp [maxLen], fun i t ht => ⟨hsz t (List.mem_of_getElem? ht), w.heap.size, 0, rfl, ?_⟩⟩ (fun q hq _ e => by cases hq; exact e.2 rfl) (by simp) (by simp [nameBad_no ha, nameBad_no hb]) hgo her).mono ?_
  · have := heap_alloc_new w (.cells #[.string a, .string b] 9)
    simp only [World.cell?, this]
    have e2 : (#[Value.string a, Value.string b] : Array Value)[i]? = ([a, b].map Value.string)[i]? := by rw [← List.getElem?_toArray]; rfl
    simp only [e2, List.getElem?_map, ht, Nat.zero_add]
    rfl
  · rintro e w' ⟨rfl, cc, h2, hx2⟩
    exact ⟨rfl, cc, h2.more (fun k hk => hk.1), (Ext.below hbl).trans' (hx2.weak (fun k hk => hk.1))⟩
end Go.Proofs.YtdmdgnghaceibaaGreat.P
/- 'Gone' walked. -/
namespace Go.Proofs.YtdmdgnghaceibaaGreat.P
open M Go.ChangeShapes Go.WideShapes Go.ChangeAt Go.RowKit
set_option linter.unusedVariables false

/-- A Server in such a state. -/
def KG (w : World) (X : Nat → Prop) (s : Nat) (nodes : List Nd) (fids : List Fid) : Prop := ∃ c, KSrv w X s (Gs nodes fids c) ∧ KOk (Gs nodes fids c)
/-- A call ends with this error, in such a state. -/
def KE (w : World) (X : Nat → Prop) (s : Nat) (nodes : List Nd) (fids : List Fid) (v : Value) (e : Ending) (w' : World) : Prop := e = .returned v ∧ KG w' X s nodes fids ∧ Ext X w w'

theorem KG.below {w w2 : World} {X : Nat → Prop} {s : Nat} {nodes : List Nd} {fids : List Fid} (h : KG w X s nodes fids) (hb : Below w.heap.size w w2) : KG w2 X s nodes fids := by
  obtain ⟨c, h, k⟩ := h
  exact ⟨c, h.below hb, k⟩

section
variable {w : World} {X : Nat → Prop} {s : Nat} {L D : ByteArray}

theorem kg_dir (h : KG w X s [root, firstNd] [f0]) : Calls Tryz.prog 35 #[.pointer (some ⟨s, 0, none⟩), .string ⟨#[100]⟩] w fun e w' => KE w X s [root, firstNd, dNd] [f0] (.bool true) e w' := by
  obtain ⟨c, h, k⟩ := h
  refine (kdir_any dName h k (q_z [root, firstNd] [] (by simp)) isName_d (by show List.findIdx? (liesHere 0 dName) [root, firstNd] = none; decide +kernel) (by show liveNodes [root, firstNd] < 100; decide) (by show [root, firstNd].length < 100000; decide)).mono ?_
  rintro e w' ⟨rfl, c', h', k', hx⟩
  exact ⟨rfl, ⟨c', h', k'⟩, hx⟩
theorem kg_file (h : KG w X s [root, firstNd, dNd] [f0]) (hL : isName L = true) (hD : D.size ≤ 300) : Calls Tryz.prog 36 #[.pointer (some ⟨s, 0, none⟩), .string ⟨#[100]⟩, .string L, .string D] w fun e w' => KE w X s (gN L D) [f0] (.bool true) e w' := by
  obtain ⟨c, h, k⟩ := h
  refine (kfile_any dName L D 2 h k (q_z _ [] (by simp)) g_dir hL g_none (by show liveNodes [root, firstNd, dNd] < 100; decide) (by show [root, firstNd, dNd].length < 100000; decide) hD).mono ?_
  rintro e w' ⟨rfl, c', h', k', hx⟩
  exact ⟨rfl, ⟨c', h', k'⟩, hx⟩
theorem kg_again (h : KG w X s (gM L D) [f0, F3, F5]) (hL : isName L = true) : Calls Tryz.prog 36 #[.pointer (some ⟨s, 0, none⟩), .string ⟨#[100]⟩, .string L, .string ⟨#[110, 101, 119]⟩] w fun e w' => KE w X s (gO L D) [f0, F3, F5] (.bool true) e w' := by
  obtain ⟨c, h, k⟩ := h
  refine (kfile_any dName L newText 2 h k (q_z _ [F3, F5] (by simp [F3, F5])) g_dir hL g_gone (by simp [Gs, liveNodes, root, firstNd, dNd, newNd, gFile]) (by simp [Gs]) (by decide)).mono ?_
  rintro e w' ⟨rfl, c', h', k', hx⟩
  exact ⟨rfl, ⟨c', h', k'⟩, hx⟩
theorem kg_w2 (h : KG w X s (gN L D) [f0]) (hL : isName L = true) (hl : L.size ≤ maxLen) : Calls Tryz.prog 14 #[.pointer (some ⟨s, 0, none⟩), .int .i64 0, .int .i64 2, .slice (some ⟨w.heap.size, 0, none⟩) 2 2] (w.alloc (.cells #[.string ⟨#[100]⟩, .string L] 9)) fun e w' => KE w X s (gN L D) [f0, F2] (.tuple #[.int .i64 2, .int .i64 0]) e w' := by
  obtain ⟨c, h, k⟩ := h
  have k2 := k.walk 0 2 [dName, L]
  have hc := k_walk2 0 2 dName L 2 h k.ok (by decide) hl
  rw [q_w2 k.tree hL] at hc k2
  refine hc.mono ?_
  rintro e w' ⟨rfl, h', hx⟩
  exact ⟨rfl, ⟨_, h', k2⟩, hx⟩
theorem kg_w3 (h : KG w X s (gN L D) [f0, F2]) (hL : isName L = true) (hl : L.size ≤ maxLen) : Calls Tryz.prog 14 #[.pointer (some ⟨s, 0, none⟩), .int .i64 0, .int .i64 3, .slice (some ⟨w.heap.size, 0, none⟩) 2 2] (w.alloc (.cells #[.string ⟨#[100]⟩, .string L] 9)) fun e w' => KE w X s (gN L D) [f0, F2, F3] (.tuple #[.int .i64 2, .int .i64 0]) e w' := by
  obtain ⟨c, h, k⟩ := h
  have k2 := k.walk 0 3 [dName, L]
  have hc := k_walk2 0 3 dName L 2 h k.ok (by decide) hl
  rw [q_w3 k.tree hL] at hc k2
  refine hc.mono ?_
  rintro e w' ⟨rfl, h', hx⟩
  exact ⟨rfl, ⟨_, h', k2⟩, hx⟩
theorem kg_w4 (h : KG w X s (gN L D) [f0, F2, F3]) : Calls Tryz.prog 14 #[.pointer (some ⟨s, 0, none⟩), .int .i64 0, .int .i64 4, .slice (some ⟨w.heap.size, 0, none⟩) 1 1] (w.alloc (.cells #[.string ⟨#[100]⟩] 9)) fun e w' => KE w X s (gN L D) [f0, F2, F3, ⟨4, wd, false⟩] (.tuple #[.int .i64 1, .int .i64 0]) e w' := by
  obtain ⟨c, h, k⟩ := h
  have k2 := k.walk 0 4 [dName]
  have hc := k_walk1 0 4 dName 1 h k.ok (by decide)
  rw [q_w4 k.tree] at hc k2
  refine hc.mono ?_
  rintro e w' ⟨rfl, h', hx⟩
  exact ⟨rfl, ⟨_, h', k2⟩, hx⟩
theorem kg_r4 (h : KG w X s (gN L D) [f0, F2, F3, ⟨4, wd, false⟩]) : Calls Tryz.prog 21 #[.pointer (some ⟨s, 0, none⟩), .int .i64 4] w fun e w' => KE w X s (gN L D) [f0, F2, F3] (.int .i64 10) e w' := by
  obtain ⟨c, h, k⟩ := h
  have k2 := k.remove 4
  have hc := k_remove 4 h k
  rw [show mRemove (Gs (gN L D) [f0, F2, F3, ⟨4, wd, false⟩] c) 4 = _ from q_r4] at hc k2
  refine hc.mono ?_
  rintro e w' ⟨rfl, h', hx⟩
  exact ⟨rfl, ⟨_, h', k2⟩, hx⟩
theorem kg_c4 (h : KG w X s (gN L D) [f0, F2, F3]) : Calls Tryz.prog 22 #[.pointer (some ⟨s, 0, none⟩), .int .i64 4] w fun e w' => KE w X s (gN L D) [f0, F2, F3] (.int .i64 2) e w' := by
  obtain ⟨c, h, k⟩ := h
  have k2 := k.clunk 4
  have hc := k_clunk 4 h k.ok
  rw [q_c4] at hc k2
  refine hc.mono ?_
  rintro e w' ⟨rfl, h', hx⟩
  exact ⟨rfl, ⟨_, h', k2⟩, hx⟩
theorem kg_r2 (h : KG w X s (gN L D) [f0, F2, F3]) : Calls Tryz.prog 21 #[.pointer (some ⟨s, 0, none⟩), .int .i64 2] w fun e w' => KE w X s (gM L D) [f0, F3] (.int .i64 0) e w' := by
  obtain ⟨c, h, k⟩ := h
  have k2 := k.remove 2
  have hc := k_remove 2 h k
  rw [q_r2] at hc k2
  refine hc.mono ?_
  rintro e w' ⟨rfl, h', hx⟩
  exact ⟨rfl, ⟨_, h', k2⟩, hx⟩
theorem kg_o3 {nodes : List Nd} {rest : List Fid} {x : Nd} (h : KG w X s nodes (f0 :: F3 :: rest)) (hx : nodes[3]? = some x) (hg : x.gone = true) : Calls Tryz.prog 15 #[.pointer (some ⟨s, 0, none⟩), .int .i64 3] w fun e w' => KE w X s nodes (f0 :: F3 :: rest) (.int .i64 4) e w' := by
  obtain ⟨c, h, k⟩ := h
  have k2 := k.open 3
  have hc := k_open 3 h k.ok
  rw [q_o3 nodes rest (by simp only [isGone, Gs, hx]; exact hg)] at hc k2
  refine hc.mono ?_
  rintro e w' ⟨rfl, h', hx⟩
  exact ⟨rfl, ⟨_, h', k2⟩, hx⟩
theorem kg_s3 (h : KG w X s (gM L D) [f0, F3]) : Calls Tryz.prog 20 #[.pointer (some ⟨s, 0, none⟩), .int .i64 3] w fun e w' => KE w X s (gM L D) [f0, F3] (.tuple #[pStatV noStat, .int .i64 4]) e w' := by
  obtain ⟨c, h, k⟩ := h
  have k2 : KOk (mStat (Gs (gM L D) [f0, F3] c) 3).1 := by rw [mStat_tick]; exact k.tick
  have hc := k_stat 3 h k
  rw [q_s3] at hc k2
  refine hc.mono ?_
  rintro e w' ⟨rfl, h', hx⟩
  exact ⟨rfl, ⟨_, h', k2⟩, hx⟩
theorem kg_w5 (b : Nat) (hb : b = w.heap.size) (h : KG w X s (gM L D) [f0, F3]) : Calls Tryz.prog 14 #[.pointer (some ⟨s, 0, none⟩), .int .i64 3, .int .i64 5, .slice (some ⟨b, 0, none⟩) 1 1] (w.alloc (.cells #[.string ⟨#[46, 46]⟩] 9)) fun e w' => KE w X s (gM L D) [f0, F3, F5] (.tuple #[.int .i64 1, .int .i64 0]) e w' := by
  subst hb
  obtain ⟨c, h, k⟩ := h
  have k2 := k.walk 3 5 [⟨#[46, 46]⟩]
  have hc := k_walk1 3 5 ⟨#[46, 46]⟩ 1 h k.ok (by decide)
  rw [q_w5] at hc k2
  refine hc.mono ?_
  rintro e w' ⟨rfl, h', hx⟩
  exact ⟨rfl, ⟨_, h', k2⟩, hx⟩
/-- The empty list. -/
def KL (w : World) (X : Nat → Prop) (s : Nat) (nodes : List Nd) (fids : List Fid) (e : Ending) (w' : World) : Prop := ∃ ao c, e = .returned (.tuple #[.slice ao 0 c, .bool true]) ∧ KG w' X s nodes fids ∧ Ext X w w'
theorem kg_list (h : KG w X s (gM L D) [f0, F3, F5]) : Calls Tryz.prog 37 #[.pointer (some ⟨s, 0, none⟩), .string ⟨#[100]⟩] w fun e w' => KL w X s (gM L D) [f0, F3, F5] e w' := by
  obtain ⟨c, h, k⟩ := h
  have hc := klisted_any dName ⟨2, [⟨2, true⟩]⟩ h k (q_z _ [F3, F5] (by simp [F3, F5])) isName_d (g_dir.step k.tree) rfl rfl
  rw [show listUpto (Gs (gM L D) [f0, F3, F5] c) (Spot.row ⟨2, [⟨2, true⟩]⟩) (Spot.row ⟨2, [⟨2, true⟩]⟩).length = [] from g_list] at hc
  refine hc.mono ?_
  rintro e w' ⟨ao, cc, rfl, _, _, ⟨c', h'⟩, hx⟩
  exact ⟨ao, cc, rfl, ⟨c', h'.more (fun k hk => hk.1), k.counted c'⟩, hx⟩
theorem kg_told (h : KG w X s (gO L D) [f0, F3, F5]) (hL : isName L = true) : Calls Tryz.prog 38 #[.pointer (some ⟨s, 0, none⟩), .slice (some ⟨w.heap.size, 0, none⟩) 2 2] (w.alloc (.cells #[.string ⟨#[100]⟩, .string L] 9)) fun e w' => KE w X s (gO L D) [f0, F3, F5] (.string ⟨#[110, 101, 119]⟩) e w' := by
  obtain ⟨c, h, k⟩ := h
  refine (ktold2 dName L 2 (wd ++ [⟨4, []⟩]) ⟨4, []⟩ (gFile L newText false) h k (q_z _ [F3, F5] (by simp [F3, F5])) isName_d hL (g_go2 newText k.tree hL) (last_snoc _ _) rfl rfl rfl).mono ?_
  rintro e w' ⟨rfl, c', h', hx⟩
  exact ⟨rfl, ⟨c', h', k.counted c'⟩, hx⟩
theorem kg_r3 (h : KG w X s (gO L D) [f0, F3, F5]) : Calls Tryz.prog 21 #[.pointer (some ⟨s, 0, none⟩), .int .i64 3] w fun e w' => e = .returned (.int .i64 4) ∧ Ext X w w' := by
  obtain ⟨c, h, k⟩ := h
  have hc := k_remove 3 h k
  rw [q_r3 (gO L D) [F5] (gFile L D true) rfl rfl] at hc
  refine hc.mono ?_
  rintro e w' ⟨rfl, h', hx⟩
  exact ⟨rfl, hx⟩
end

set_option maxRecDepth 20000 in
set_option maxHeartbeats 4000000 in
theorem kgone_any {w : World} (c : Int) (data : ByteArray) (hc : -9223372036854775808 ≤ c ∧ c ≤ 9223372036854775807) (hd : data.size ≤ 140737488355328) :
    Calls Tryz.prog 9 #[.int .i64 c, .string data] w fun e w' => e = .returned (.bool true) ∧ Below w.heap.size w w' := by
  obtain ⟨X, hX⟩ : ∃ X : Nat → Prop, X = fun k => w.heap.size ≤ k := ⟨_, rfl⟩
  have HO := hide (opened_any (w := w) (X := X) (fun k hk => by rw [hX]; exact hk))
  have HX := hide hX
  have HL := hide (fun w1 => kletter_any c w1 hc)
  have hL := isName_letter (mPick_lt c (n := 8) (by omega))
  obtain ⟨L, hLe⟩ : ∃ L, letterB (mPick c 8) = L := ⟨_, rfl⟩
  rw [hLe] at HL hL
  obtain ⟨D, hDe⟩ : ∃ D, (if 300 < data.size then data.extract 0 300 else data) = D := ⟨_, rfl⟩
  have hD : D.size ≤ 300 := by
    rw [← hDe]
    split
    · rw [ByteArray.size_extract]; omega
    · omega
  have HDe := hide hDe
  have HhL := hide hL
  have HLs := hide (show L.size ≤ maxLen by have := isName_size hL; unfold maxLen; omega)
  clear hX hc hLe hDe hL
  go_enter Tryz.func9, Tryz.ntmps9
  go_wp2_with fail
  refine HO.out.mono ?_
  rintro e w1 ⟨rfl, h1, k1, hx1⟩
  have H1 := hide (show KG w1 X w.heap.size [root, firstNd] [f0] from ⟨6, h1, k1⟩)
  have HX1 := hide hx1
  generalize w.heap.size = s at H1 ⊢
  clear h1 hx1 k1
  rcases Nat.lt_or_ge 300 data.size with hbig | hbig
  · have e1 : data.extract 0 300 = D := by rw [← HDe.out, if_pos hbig]
    have hbig' : (300 : Int) < (data.size : Int) := by omega
    go_wp2_with fail
    clear e1 hbig' hbig
    refine (HL.out w1).mono ?_
    rintro e w2 ⟨rfl, hb2⟩
    have H2 := hide (H1.out.below hb2)
    have HX2 := hide (HX1.out.trans' (Ext.below hb2))
    clear hb2
    go_wp2_with fail
    refine (kg_dir H2.out).mono ?_
    rintro e w3 ⟨rfl, h3, hx3⟩
    have H3 := hide h3
    have HX3 := hide (HX2.out.trans' hx3)
    clear h3 hx3
    go_wp2_with fail
    refine (kg_file H3.out HhL.out hD).mono ?_
    rintro e w4 ⟨rfl, h4, hx4⟩
    have H4 := hide h4
    have HX4 := hide (HX3.out.trans' hx4)
    clear h4 hx4
    go_wp2_with fail
    refine (kg_w2 H4.out HhL.out HLs.out).mono ?_
    rintro e w5 ⟨rfl, h5, hx5⟩
    have H5 := hide h5
    have HX5 := hide (HX4.out.trans' hx5)
    clear h5 hx5
    go_wp2_with fail
    refine (kg_w3 H5.out HhL.out HLs.out).mono ?_
    rintro e w6 ⟨rfl, h6, hx6⟩
    have H6 := hide h6
    have HX6 := hide (HX5.out.trans' hx6)
    clear h6 hx6
    go_wp2_with fail
    refine (kg_w4 H6.out).mono ?_
    rintro e w7 ⟨rfl, h7, hx7⟩
    have H7 := hide h7
    have HX7 := hide (HX6.out.trans' hx7)
    clear h7 hx7
    go_wp2_with fail
    refine (kg_r4 H7.out).mono ?_
    rintro e w8 ⟨rfl, h8, hx8⟩
    have H8 := hide h8
    have HX8 := hide (HX7.out.trans' hx8)
    clear h8 hx8
    go_wp2_with fail
    refine (kg_c4 H8.out).mono ?_
    rintro e w9 ⟨rfl, h9, hx9⟩
    have H9 := hide h9
    have HX9 := hide (HX8.out.trans' hx9)
    clear h9 hx9
    go_wp2_with fail
    refine (kg_r2 H9.out).mono ?_
    rintro e w10 ⟨rfl, h10, hx10⟩
    have H10 := hide h10
    have HX10 := hide (HX9.out.trans' hx10)
    clear h10 hx10
    go_wp2_with fail
    refine (kg_o3 (x := gFile L D true) H10.out rfl rfl).mono ?_
    rintro e w11 ⟨rfl, h11, hx11⟩
    have H11 := hide h11
    have HX11 := hide (HX10.out.trans' hx11)
    clear h11 hx11
    go_wp2_with fail
    refine (kg_s3 H11.out).mono ?_
    rintro e w12 ⟨rfl, h12, hx12⟩
    have H12 := hide h12
    have HX12 := hide (HX11.out.trans' hx12)
    clear h12 hx12
    simp only [pStatV, noStat]
    go_wp2_with fail
    refine (kg_w5 (w12.heap.size + 1) (by simp) (H12.out.below ((Below.refl _ w12).alloc (Nat.le_refl _) _))).mono ?_
    rintro e w13 ⟨rfl, h13, hx13⟩
    have H13 := hide h13
    have HX13 := hide (HX12.out.trans' ((Ext.below ((Below.refl _ w12).alloc (Nat.le_refl _) _)).trans' hx13))
    clear h13 hx13
    go_wp2_with fail
    refine (kg_list H13.out).mono ?_
    rintro e w14 ⟨lo, lc, rfl, h14, hx14⟩
    have H14 := hide h14
    have HX14 := hide (HX13.out.trans' hx14)
    clear h14 hx14
    go_wp2_with fail
    refine (kg_again H14.out HhL.out).mono ?_
    rintro e w15 ⟨rfl, h15, hx15⟩
    have H15 := hide h15
    have HX15 := hide (HX14.out.trans' hx15)
    clear h15 hx15
    go_wp2_with fail
    refine (kg_told H15.out HhL.out).mono ?_
    rintro e w16 ⟨rfl, h16, hx16⟩
    have H16 := hide h16
    have HX16 := hide (HX15.out.trans' hx16)
    clear h16 hx16
    go_wp2_with fail
    refine (kg_o3 (x := gFile L D true) H16.out rfl rfl).mono ?_
    rintro e w17 ⟨rfl, h17, hx17⟩
    have H17 := hide h17
    have HX17 := hide (HX16.out.trans' hx17)
    clear h17 hx17
    go_wp2_with fail
    refine (kg_r3 H17.out).mono ?_
    rintro e w18 ⟨rfl, hx18⟩
    have HX18 := hide (HX17.out.trans' hx18)
    clear hx18
    go_wp2
    go_ret
    refine ⟨rfl, ?_⟩
    have hX18 := HX18.out
    rw [HX.out] at hX18
    exact hX18.toBelow (Nat.le_refl _)
  · have e1 : data = D := by rw [← HDe.out, if_neg (by omega)]
    have hbig' : ¬ (300 : Int) < (data.size : Int) := by omega
    rw [e1] at hbig' ⊢
    clear e1
    go_wp2_with fail
    clear hbig' hbig
    refine (HL.out w1).mono ?_
    rintro e w2 ⟨rfl, hb2⟩
    have H2 := hide (H1.out.below hb2)
    have HX2 := hide (HX1.out.trans' (Ext.below hb2))
    clear hb2
    go_wp2_with fail
    refine (kg_dir H2.out).mono ?_
    rintro e w3 ⟨rfl, h3, hx3⟩
    have H3 := hide h3
    have HX3 := hide (HX2.out.trans' hx3)
    clear h3 hx3
    go_wp2_with fail
    refine (kg_file H3.out HhL.out hD).mono ?_
    rintro e w4 ⟨rfl, h4, hx4⟩
    have H4 := hide h4
    have HX4 := hide (HX3.out.trans' hx4)
    clear h4 hx4
    go_wp2_with fail
    refine (kg_w2 H4.out HhL.out HLs.out).mono ?_
    rintro e w5 ⟨rfl, h5, hx5⟩
    have H5 := hide h5
    have HX5 := hide (HX4.out.trans' hx5)
    clear h5 hx5
    go_wp2_with fail
    refine (kg_w3 H5.out HhL.out HLs.out).mono ?_
    rintro e w6 ⟨rfl, h6, hx6⟩
    have H6 := hide h6
    have HX6 := hide (HX5.out.trans' hx6)
    clear h6 hx6
    go_wp2_with fail
    refine (kg_w4 H6.out).mono ?_
    rintro e w7 ⟨rfl, h7, hx7⟩
    have H7 := hide h7
    have HX7 := hide (HX6.out.trans' hx7)
    clear h7 hx7
    go_wp2_with fail
    refine (kg_r4 H7.out).mono ?_
    rintro e w8 ⟨rfl, h8, hx8⟩
    have H8 := hide h8
    have HX8 := hide (HX7.out.trans' hx8)
    clear h8 hx8
    go_wp2_with fail
    refine (kg_c4 H8.out).mono ?_
    rintro e w9 ⟨rfl, h9, hx9⟩
    have H9 := hide h9
    have HX9 := hide (HX8.out.trans' hx9)
    clear h9 hx9
    go_wp2_with fail
    refine (kg_r2 H9.out).mono ?_
    rintro e w10 ⟨rfl, h10, hx10⟩
    have H10 := hide h10
    have HX10 := hide (HX9.out.trans' hx10)
    clear h10 hx10
    go_wp2_with fail
    refine (kg_o3 (x := gFile L D true) H10.out rfl rfl).mono ?_
    rintro e w11 ⟨rfl, h11, hx11⟩
    have H11 := hide h11
    have HX11 := hide (HX10.out.trans' hx11)
    clear h11 hx11
    go_wp2_with fail
    refine (kg_s3 H11.out).mono ?_
    rintro e w12 ⟨rfl, h12, hx12⟩
    have H12 := hide h12
    have HX12 := hide (HX11.out.trans' hx12)
    clear h12 hx12
    simp only [pStatV, noStat]
    go_wp2_with fail
    refine (kg_w5 (w12.heap.size + 1) (by simp) (H12.out.below ((Below.refl _ w12).alloc (Nat.le_refl _) _))).mono ?_
    rintro e w13 ⟨rfl, h13, hx13⟩
    have H13 := hide h13
    have HX13 := hide (HX12.out.trans' ((Ext.below ((Below.refl _ w12).alloc (Nat.le_refl _) _)).trans' hx13))
    clear h13 hx13
    go_wp2_with fail
    refine (kg_list H13.out).mono ?_
    rintro e w14 ⟨lo, lc, rfl, h14, hx14⟩
    have H14 := hide h14
    have HX14 := hide (HX13.out.trans' hx14)
    clear h14 hx14
    go_wp2_with fail
    refine (kg_again H14.out HhL.out).mono ?_
    rintro e w15 ⟨rfl, h15, hx15⟩
    have H15 := hide h15
    have HX15 := hide (HX14.out.trans' hx15)
    clear h15 hx15
    go_wp2_with fail
    refine (kg_told H15.out HhL.out).mono ?_
    rintro e w16 ⟨rfl, h16, hx16⟩
    have H16 := hide h16
    have HX16 := hide (HX15.out.trans' hx16)
    clear h16 hx16
    go_wp2_with fail
    refine (kg_o3 (x := gFile L D true) H16.out rfl rfl).mono ?_
    rintro e w17 ⟨rfl, h17, hx17⟩
    have H17 := hide h17
    have HX17 := hide (HX16.out.trans' hx17)
    clear h17 hx17
    go_wp2_with fail
    refine (kg_r3 H17.out).mono ?_
    rintro e w18 ⟨rfl, hx18⟩
    have HX18 := hide (HX17.out.trans' hx18)
    clear hx18
    go_wp2
    go_ret
    refine ⟨rfl, ?_⟩
    have hX18 := HX18.out
    rw [HX.out] at hX18
    exact hX18.toBelow (Nat.le_refl _)
end Go.Proofs.YtdmdgnghaceibaaGreat.P
/- From a call of one goroutine to a row that says 'leaving' and that time passes. -/
namespace Go.Proofs.YtdmdgnghaceibaaGreat
open Go.ChangeShapes Go.WideShapes Go.ChangeAt Go.RowKit
set_option linter.unusedVariables false

theorem own : ownKnob Tryz.prog.godebug = none := by kernel_rfl

/-- Who is alone at the return has nobody that still leaves. -/
theorem onlyLeaving_of_quiet {P : Program} {m : Machine} (h : m.quiet) : m.OnlyLeaving P := by
  refine ⟨fun g hg => ⟨0, ?_⟩, h.2⟩
  have h1 := h.1
  unfold Machine.othersDone at h1
  simp only [List.all_eq_true] at h1
  have := h1 g hg
  show g.status = .finished
  cases hs : g.status with
  | finished => rfl
  | _ => rw [hs] at this; cases this

theorem leaving_of_handed {a : Assume} {C : Checked} {os : Os} {f : FuncId} {r : Reach} {Pre : World → Array Value → Prop} {Post : World → Array Value → Value → World → Prop}
    (h : ReturnsInHanded a C os f r Pre Post) : ReturnsInLeavingWide a C os f r Pre Post := fun enter =>
  ReturnsInOpen.mono (fun _ _ _ x => ⟨x.2.1, onlyLeaving_of_quiet x.1, x.2.2⟩) (fun _ x => x) (h enter)

section
variable {H : Type} {enc : TypeId × Value → H}

/-- A contract over one goroutine, as the row asks it. -/
theorem leaving_of_change {a : Assume} {C : Checked} {os : Os} {f : FuncId} {fn : Func} {s : ChangeSpec} {F : Stop.Interp} {conds : List PathCond} {apart fresh handsOn : Bool}
    (own : ownKnob C.prog.godebug = none) (started : os.Started) (noInit : C.prog.inits.idxOf? f = none) (hfn : C.prog.funcs[f]? = some fn)
    (witness : ∃ (w : World) (tape : Tape) (i : Input), w.os = os ∧ (w.forCall tape i).Shaped C.prog ∧ i.vars = [] ∧ Input.okWide C.prog (w.forCall tape i) .any w.heap.size f i ∧
      s.pre6 enc C.prog fn conds apart (w.forCall tape i).memory i.args ∧ a.holds C.prog (lone (Frame.enter C.prog f i.args .normal) [] (w.forCall tape i)))
    (contract : ∀ (W : World) (base : Nat) (args : Array Value) (ds gs : List (DataW H)) (before : List MemPlace),
      (∀ (j : Nat) t v, fn.params[j]? = some t → args[j]? = some v → Value.okWide C.prog W .any base t v) →
      DataW.Whole enc C.prog fn.params.toList s.vars apart W args.toList ds gs before →
      conds.all (PathCond.test C.prog ⟨fn.params.toList, ds, s.plain.varTypes C.prog, gs⟩) = true →
      (DataW.weightsEach C.prog (fn.params.toList ++ s.plain.varTypes C.prog) (ds ++ gs)).all (· ≤ reachBytes) = true →
      Calls C.prog f args W fun e W' => ∃ v, e = .returned v ∧ W'.os = W.os ∧ s.post enc C.prog fn apart fresh handsOn false W args v W') :
    ReturnsInLeavingWide a C os f .any (s.pre6 enc C.prog fn conds apart) ((OpenSpec.ofChange s).postWith enc C.prog fn F (outsideKept [.timePasses]) apart fresh handsOn) := by
  refine leaving_of_handed (returnsInHanded_of_calls own started noInit witness ?_)
  intro w tape i _ _ _ hok hpre hholds
  obtain ⟨_, _, _, fn', hfn', _, _, _, _, hval⟩ := hok
  have e : fn' = fn := Option.some.inj (hfn'.symm.trans hfn)
  subst e
  obtain ⟨⟨ds, gs, before, hw, hc⟩, hz⟩ := hpre
  have hw' := DataW.Whole.of_heap (w' := w.forCall tape i) (by rfl) hw
  refine (contract (w.forCall tape i) w.heap.size i.args ds gs before hval hw' hc (hz.weights hw)).mono fun e W' ⟨v, he, hos, hp⟩ => ?_
  subst he
  refine postWith_blind (postWith_of_post ?_ (by rw [hos]; exact Go.ConcM.OsLater.refl _))
  have e1 : ({ W' with os := (w.forCall tape i).os } : World) = W' := by rw [← hos]
  rw [e1]
  exact hp
end
end Go.Proofs.YtdmdgnghaceibaaGreat
