/- The reference's 'file', 'has', 'live', 'within'. -/
import Derived.Test.YtdmdgnghaceibaaGreatPart05
import Derived.Test.YtdmdgnghaceibaaGreatPart01
import Derived.Deep.DeepCutAuto
import Derived.Test.YtdmdgnghaceibaaGreatPart04
import Derived.Deep.Cut
import Derived.Laws.Strings2
import Derived.Laws.Strings3
import Derived.Test.YtdmdgnghaceibaaGreatPart03
import Derived.Lib.Strings
import Derived.Lib.BufferWrite
import Derived.Laws.MakeOwn
namespace Go.Proofs.YtdmdgnghaceibaaGreat
open M Go.ChangeShapes Go.WideShapes Go.ChangeAt Go.RowKit
set_option linter.unusedVariables false

set_option maxRecDepth 20000 in
set_option maxHeartbeats 1000000 in
/-- 'file': is an open fid at a file? -/
theorem file_any {w : World} {F : Nat → Prop} {r : Nat} {st : St} (o : Option Nat) (hoi : ∀ i, o = some i → i < st.fids.length) (h : RefIs w F r st) (ok : StOk st) :
    Calls Tryz.prog 150 #[.pointer (some ⟨r, 0, none⟩), .int .i64 (idxV o)] w fun e w' => e = .returned (.int .i64 (mFile st o)) ∧ Below w.heap.size w w' := by
  cases o with
  | none =>
    simp only [idxV]
    go_enter Tryz.func150, Tryz.ntmps150
    go_wp2
    go_ret
    exact ⟨rfl, Below.refl _ _⟩
  | some i =>
    simp only [idxV]
    have hi := hoi i rfl
    obtain ⟨f, hfi⟩ := getElem?_of_lt hi
    obtain ⟨s, hs, hsn, _, hno⟩ := ok.last (List.mem_of_getElem? hfi)
    obtain ⟨x, hx⟩ := getElem?_of_lt hsn
    have hg : isGone st (nodeOf f) = x.gone := by simp [isGone, hno, hx]
    have hd : isDir st (nodeOf f) = x.dir := by simp [isDir, hno, hx]
    have H := hide (show mFile st (some i) = if f.op then (if x.gone then 4 else if x.dir then 5 else 0) else 3 by simp [mFile, hfi, hg, hd])
    have i0 : (0 : Int) ≤ (i : Int) := by omega
    have i1 : (i : Int) < (st.fids.length : Int) := by omega
    have HRI := hide h
    obtain ⟨nv, lv, fv, hR⟩ := h
    obtain ⟨g, cap, rfl, hmax, hF, hb, hcell, hfz⟩ := hR.nodesAt ok.pos
    obtain ⟨fg, fcap, wv, rfl, hfm, hFg, _, _, _, _, co, cfz⟩ := hR.fids.at i f hfi
    have c2 := hR.c2
    have hgone := (hcell s.n x hx).2.2.2.2.2
    have hdir := (hcell s.n x hx).2.1
    have hc0 := hR.c0
    have Hnode := hide (node_any i f s hfi hs hsn HRI.out)
    unfold maxLen at hmax hfm
    clear hR hcell hfz cfz hb hF hx hfi hs hg hFg hd
    cases ho : f.op with
    | false =>
      rw [ho] at co H
      go_enter Tryz.func150, Tryz.ntmps150
      go_wp2
      go_ret
      exact ⟨by rw [H.out]; rfl, Below.refl _ _⟩
    | true =>
      rw [ho] at co H
      clear ho
      go_enter Tryz.func150, Tryz.ntmps150
      go_wp2_with fail
      refine Hnode.out.mono ?_
      rintro e w2 ⟨g', cap', hcc, rfl, hb2⟩
      have hgg : g' = g := by rw [hc0] at hcc; simp at hcc; exact hcc.1.symm
      subst hgg
      have Hb2 := hide hb2
      have q5 : w2.cell? ⟨g', s.n * 6 + 5, none⟩ = some (.bool x.gone) := (hb2.cell (World.block_lt_of_cell? w _ hgone)).trans hgone
      have q1 : w2.cell? ⟨g', s.n * 6 + 1, none⟩ = some (.bool x.dir) := (hb2.cell (World.block_lt_of_cell? w _ hdir)).trans hdir
      clear hb2 hcc hc0
      cases hxg : x.gone with
      | true =>
        rw [hxg] at q5 H
        go_wp2
        go_ret
        exact ⟨by rw [H.out]; rfl, Hb2.out⟩
      | false =>
        rw [hxg] at q5 H
        cases hxd : x.dir with
        | true =>
          rw [hxd] at q1 H
          go_wp2
          go_ret
          exact ⟨by rw [H.out]; rfl, Hb2.out⟩
        | false =>
          rw [hxd] at q1 H
          go_wp2
          go_ret
          exact ⟨by rw [H.out]; rfl, Hb2.out⟩

set_option maxHeartbeats 1000000 in
/-- 'live': how many of a row are not gone. -/
theorem live_core {w : World} {F : Nat → Prop} {r : Nat} {st : St} (row : List Member) (rb rc : Nat) (h : RefIs w F r st) (h0 : 0 < st.nodes.length) (hl : row.length ≤ maxLen)
    (hrow : ∀ i m, row[i]? = some m → w.cell? ⟨rb, i * 2, none⟩ = some (.int .i64 m.d) ∧ m.d < st.nodes.length) :
    Calls Tryz.prog 153 #[.pointer (some ⟨r, 0, none⟩), .slice (some ⟨rb, 0, none⟩) row.length rc] w fun e w' => e = .returned (.int .i64 (liveRow st row)) ∧ Below w.heap.size w w' := by
  obtain ⟨nv, lv, fv, h⟩ := h
  obtain ⟨g, cap, rfl, hmax, hF, hb, hcell, hfz⟩ := h.nodesAt h0
  have hc0 := h.c0
  unfold maxLen at hl hmax
  clear h hb hfz hF
  go_enter Tryz.func153, Tryz.ntmps153
  go_wp2
  go_loopw [5, 6] (fun c i wr => ∃ k : Nat, k ≤ row.length ∧ i = .int .i64 k ∧ c = .int .i64 (liveRow st (row.take k)) ∧ Below w.heap.size w wr) (fun _ i _ => row.length - (intOf i).toNat)
  case atStart => exact ⟨0, Nat.zero_le _, rfl, rfl, Below.refl _ _⟩
  case round =>
    obtain ⟨k, hk, rfl, rfl, hbl⟩ := hrel
    have HB := hide hbl
    have hle := liveRow_le st row k
    by_cases hlt : k < row.length
    · obtain ⟨m, hm⟩ := getElem?_of_lt hlt
      obtain ⟨cm, hd⟩ := hrow k m hm
      obtain ⟨x, hx⟩ := getElem?_of_lt hd
      have c5 := (hcell m.d x hx).2.2.2.2.2
      have cm' : wr.cell? ⟨rb, k * 2, none⟩ = some (.int .i64 m.d) := (hbl.cell (World.block_lt_of_cell? w _ cm)).trans cm
      have c5' : wr.cell? ⟨g, m.d * 6 + 5, none⟩ = some (.bool x.gone) := (hbl.cell (World.block_lt_of_cell? w _ c5)).trans c5
      have c0' : wr.cell? ⟨r, 0, none⟩ = some (.slice (some ⟨g, 0, none⟩) st.nodes.length cap) := (hbl.cell (World.block_lt_of_cell? w _ hc0)).trans hc0
      have Hsd := hide (liveRow_snoc st row k m hm)
      have hgx : isGone st m.d = x.gone := by simp [isGone, hx]
      rw [hgx] at Hsd
      have b1 : (m.d : Int) < (st.nodes.length : Int) := by omega
      have b2 : (k : Int) < (row.length : Int) := by omega
      have b3 : (0 : Int) ≤ (m.d : Int) := by omega
      have b4 : (0 : Int) ≤ (k : Int) := by omega
      clear hx hm hcell hrow cm c5 hc0 hbl hgx
      generalize liveRow st (row.take k) = q at *
      cases hxg : x.gone with
      | true =>
        rw [hxg] at c5' Hsd
        go_wp2
        go_quiet (fail)
        go_wp2
        go_roundw
        case rel => exact ⟨k + 1, by omega, by go_num, by rw [Hsd.out]; rfl, below_drewN HB.out _⟩
        case measure => simp [intOf]; omega
      | false =>
        rw [hxg] at c5' Hsd
        go_wp2
        go_quiet (fail)
        go_wp2
        go_roundw
        case rel => exact ⟨k + 1, by omega, by go_num, by rw [Hsd.out]; go_num, below_drewN HB.out _⟩
        case measure => simp [intOf]; omega
    · have e : row.take k = row := List.take_of_length_le (by omega)
      rw [e] at hle
      rw [e]
      go_wp2
      go_ret
      exact ⟨rfl, HB.out⟩

theorem live_nil {w : World} {r : Nat} :
    Calls Tryz.prog 153 #[.pointer (some ⟨r, 0, none⟩), .slice none 0 0] w fun e w' => e = .returned (.int .i64 0) ∧ w' = w := by
  go_enter Tryz.func153, Tryz.ntmps153
  go_wp2
  go_loop [5, 6] (fun c i => i = .int .i64 0 ∧ c = .int .i64 0) (fun _ _ => 0)
  case atStart => exact ⟨rfl, rfl⟩
  case round =>
    obtain ⟨rfl, rfl⟩ := hrel
    go_wp2
    go_ret
    exact ⟨rfl, rfl⟩

theorem live_any {w : World} {F : Nat → Prop} {r : Nat} {st : St} (row : List Member) (v : Value) (h : RefIs w F r st) (h0 : 0 < st.nodes.length) (hv : RowIs w F v row) (hok : RowOk st row) :
    Calls Tryz.prog 153 #[.pointer (some ⟨r, 0, none⟩), v] w fun e w' => e = .returned (.int .i64 (liveRow st row)) ∧ Below w.heap.size w w' := by
  rcases hv.opened with ⟨rfl, hn⟩ | ⟨g, cap, rfl, hcap, hmax, hF, hb, hcell, hfz⟩
  · have h0 : row = [] := List.map_eq_nil_iff.1 hn
    subst h0
    refine live_nil.mono ?_
    rintro e w' ⟨rfl, rfl⟩
    exact ⟨rfl, Below.refl _ _⟩
  · rw [List.length_map] at hcap ⊢
    refine live_core row g cap h h0 (by omega) (fun i m hm => ⟨?_, hok m (List.mem_of_getElem? hm)⟩)
    have hz : (row.map memberCells)[i]? = some (memberCells m) := by rw [List.getElem?_map, hm]; rfl
    exact hcell _ _ 0 _ hz rfl
end Go.Proofs.YtdmdgnghaceibaaGreat
/- The reference's 'Create': what is laid. -/
namespace Go.Proofs.YtdmdgnghaceibaaGreat
open M Go.ChangeShapes Go.WideShapes Go.ChangeAt Go.RowKit
set_option linter.unusedVariables false

theorem infoNode : (Tryz.prog.info? 184).map (fun i => (i.zero, i.size, i.bytes)) = some (some (.agg #[.string ⟨#[]⟩, .bool false, .int .i64 0, .string ⟨#[]⟩, .int .i64 0, .bool false]), 6, 64) := by kernel_rfl

theorem node_one (nodes : List Nd) : ∀ r ∈ nodes.map nodeCells, ∀ u ∈ r, u.oneCell' = true := by
  intro r hr u hu
  obtain ⟨x, _, rfl⟩ := List.mem_map.1 hr
  simp only [nodeCells, List.mem_cons, List.not_mem_nil, or_false] at hu
  rcases hu with rfl | rfl | rfl | rfl | rfl | rfl <;> rfl

/-- The list of nodes is another one. -/
theorem RefIs.setNodes {w : World} {F : Nat → Prop} {r : Nat} {nv nv' lv fv : Value} {c : Int} {nodes : List Nd} {laid : List Laid} {fids : List Fid} (blk : w.heap[r]? = some (.cells #[nv, lv, fv, .int .i64 c] 81 (0, 0))) (own : F r)
    (hn : Own w F 184 6 nv' (nodes.map nodeCells)) (hl : LaidsIs w F lv laid) (hf : FidsIs w F fv fids) : RefIs (w.setCell ⟨r, 0, none⟩ nv') F r ⟨nodes, laid, fids, c⟩ := by
  have hk : KeepT (fun e => e ≠ 81) F w (w.setCell ⟨r, 0, none⟩ nv') := (KeepT.refl _ _ _).setCell (a := ⟨r, 0, none⟩) blk (by simp) _
  refine ⟨nv', lv, fv, ?_, own, hn.keepT hk (by decide), hl.keepT hk (by decide) (by decide), hf.keepT hk (by decide) (by decide) (by decide)⟩
  rw [heap_setCell_same w r 0 _ _ _ blk]
  rfl

theorem node_close {wq w3 : World} {F : Nat → Prop} {r : Nat} {st : St} (x : Nd) {nv lv fv v3 : Value} (hR : RefHas wq F r st nv lv fv)
    (ho3 : Own w3 (ext F (wq.alloc (.cells (nodeCells x).toArray 184)) w3) 184 6 v3 (st.nodes.map nodeCells ++ [nodeCells x]))
    (hg3 : (wq.alloc (.cells (nodeCells x).toArray 184)).grownBy w3 nv.ownBlock) :
    (w3.heap[r]? = some (.cells #[nv, lv, fv, .int .i64 st.calls] 81 (0, 0))) ∧ RefIs (w3.setCell ⟨r, 0, none⟩ v3) (ext F wq (w3.setCell ⟨r, 0, none⟩ v3)) r (withNode st x) ∧ Ext F wq (w3.setCell ⟨r, 0, none⟩ v3) := by
  generalize hW : wq.alloc (.cells (nodeCells x).toArray 184) = W at *
  have z2 : W.heap.size = wq.heap.size + 1 := by rw [← hW]; simp
  have z3 := hg3.size
  have kW : ∀ (T : TypeId → Prop) (G : Nat → Prop), KeepT T G wq W := fun T G => by rw [← hW]; exact (KeepT.refl _ _ _).alloc _
  have hOW : Own W F 184 6 nv (st.nodes.map nodeCells) := hR.nodes.keepT (kW (fun _ => True) _) trivial
  have k13 : KeepT (fun e => e ≠ 184) F wq w3 := (kW _ _).trans (grown_keepT hOW hg3 _ (by simp))
  have m3 : ∀ k, F k → ext F wq w3 k := fun k h => .inl h
  have hsz : (w3.setCell ⟨r, 0, none⟩ v3).heap.size = w3.heap.size := by simp
  have hblk : w3.heap[r]? = some (.cells #[nv, lv, fv, .int .i64 st.calls] 81 (0, 0)) := (k13 r _ _ hR.own hR.blk (by decide)).trans hR.blk
  refine ⟨hblk, ?_, ?_⟩
  · refine RefIs.mono (F := ext F wq w3) ?_ (ext_mono (by rw [hsz]; exact Nat.le_refl _))
    refine RefIs.setNodes (nv := nv) hblk (.inl hR.own) ?_ ((hR.laid.keepT k13 (by decide) (by decide)).mono m3) ((hR.fids.keepT k13 (by decide) (by decide) (by decide)).mono m3)
    rw [List.map_append]
    refine Own.mono ho3 (fun k hk => ?_)
    rcases hk with hk | hk
    · exact .inl hk
    · exact .inr ⟨by omega, hk.2⟩
  · refine Ext.setCell ?_ (.inl hR.own) _
    have e1 : Ext F wq W := by rw [← hW]; exact (Ext.refl _ _).alloc _
    exact e1.trans' (grown_ext hOW hg3)

theorem zip_setWay {vs : List Value} {fids : List Fid} {i : Nat} {v wv : Value} {f : Fid} (way : List Spot) (hv : vs[i]? = some v) (hf : fids[i]? = some f) : (List.zipWith fidCells vs fids).set i ((fidCells v f).set 1 wv) = List.zipWith fidCells (vs.set i wv) (fids.set i { f with way := way }) := by
  apply List.ext_getElem?
  intro j
  rw [List.getElem?_set]
  by_cases hj : i = j
  · subst hj
    have h1 := M.lt_of_getElem? hv
    have h2 := M.lt_of_getElem? hf
    rw [if_pos rfl, if_pos (by rw [List.length_zipWith]; omega), List.getElem?_zipWith, List.getElem?_set_self h1, List.getElem?_set_self h2]
    rfl
  · rw [if_neg hj, List.getElem?_zipWith, List.getElem?_zipWith, List.getElem?_set_ne hj, List.getElem?_set_ne hj]

/-- The i-th fid's way is another one. -/
theorem RefIs.setWay {w : World} {F : Nat → Prop} {r g cap i : Nat} {st : St} {nv lv wv : Value} {f : Fid} {way : List Spot} (h : RefHas w F r st nv lv (.slice (some ⟨g, 0, none⟩) st.fids.length cap)) (hf : st.fids[i]? = some f) (hw : WayIs w F wv way) : RefIs (w.setCell ⟨g, i * 3 + 1, none⟩ wv) F r (setWay st i f way) := by
  obtain ⟨vs, hE, hO⟩ := h.fids
  obtain ⟨v, hv, _, hz⟩ := idx_row (c := fidCells) hE hf
  rcases hO.opened with ⟨hx, _⟩ | ⟨g', cap', hx, _, _, _, ⟨cur, hb⟩, _⟩
  · simp at hx
  simp at hx
  obtain ⟨rfl, _, _⟩ := hx
  have hk : KeepT (fun e => e ≠ 216) F w (w.setCell ⟨g, i * 3 + 1, none⟩ wv) := (KeepT.refl _ _ _).setCell (a := ⟨g, i * 3 + 1, none⟩) hb (by simp) _
  refine ⟨nv, lv, _, (hk r _ _ h.own h.blk (by decide)).trans h.blk, h.own, h.nodes.keepT hk (by decide), h.laid.keepT hk (by decide) (by decide), vs.set i wv, ?_, ?_⟩
  · have hE' := hE.imp (fun v f h => h.keepT hk (by decide) (by decide))
    refine ⟨by simp [M.setWay, hE.1], fun j v' f' hv' hf' => ?_⟩
    simp only [M.setWay] at hf'
    rw [List.getElem?_set] at hf' hv'
    by_cases hj : i = j
    · subst hj
      rw [if_pos rfl, if_pos (M.lt_of_getElem? hf)] at hf'
      rw [if_pos rfl, if_pos (M.lt_of_getElem? hv)] at hv'
      cases hf'
      cases hv'
      exact hw.keepT hk (by decide) (by decide)
    · rw [if_neg hj] at hf' hv'
      exact hE'.2 j v' f' hv' hf'
  · have := hO.set (k := 1) hz (by omega) wv
    rw [zip_setWay way hv hf] at this
    exact this

theorem src_node (w : World) (x : Nd) : SrcIs (w.alloc (.cells (nodeCells x).toArray 184)) 6 (.slice (some ⟨w.heap.size, 0, none⟩) 1 1) [nodeCells x] := by
  have := SrcIs.ofBlock (size := 6) (c := 1) (heap_alloc_new w (.cells (nodeCells x).toArray 184)) rfl (by
    intro u hu
    simp only [nodeCells, List.mem_cons, List.not_mem_nil, or_false] at hu
    rcases hu with rfl | rfl | rfl | rfl | rfl | rfl <;> rfl)
  simpa using this
end Go.Proofs.YtdmdgnghaceibaaGreat
/- The reference's 'Create'. -/
namespace Go.Proofs.YtdmdgnghaceibaaGreat
open M Go.ChangeShapes Go.WideShapes Go.ChangeAt Go.RowKit
set_option linter.unusedVariables false

theorem Ends.same {w w1 w' : World} {F : Nat → Prop} {r : Nat} {st' : St} {c : Int} {p : St × Int} {e : Ending} (hp : p = (st', c)) (he : e = .returned (.int .i64 c)) (h1 : RefIs w1 F r st') (hx : Ext F w w1) (hb : Below w1.heap.size w1 w') : Ends w F r p e w' := by
  subst hp
  exact ⟨he, (h1.below hb).mono (fun k hk => .inl hk), hx.trans' (Ext.below hb)⟩

theorem RefHas.kept {w w' : World} {F F' : Nat → Prop} {r : Nat} {st : St} {nv lv fv : Value} (h : RefHas w F r st nv lv fv) (hk : KeepT (fun _ => True) F w w') (hF : ∀ k, F k → F' k) : RefHas w' F' r st nv lv fv :=
  ⟨(hk r _ _ h.own h.blk trivial).trans h.blk, hF r h.own, (h.nodes.keepT hk trivial).mono hF, (h.laid.keepT hk trivial trivial).mono hF, (h.fids.keepT hk trivial trivial trivial).mono hF⟩

/-- The way of a fid is one spot longer. -/
theorem way_close {w1 wc w9 : World} {F F1 : Nat → Prop} {r i g cap : Nat} {st1 : St} {nv lv v9 : Value} {f : Fid} {way : List Spot} (hF1 : F1 = ext F w1 wc) (hXc : Ext F w1 wc) (hR : RefHas wc F1 r st1 nv lv (.slice (some ⟨g, 0, none⟩) st1.fids.length cap)) (hg : F1 g) (hf : st1.fids[i]? = some f)
    (hb : Below wc.heap.size wc w9) (hw : WayNew wc w9 F1 v9 way) :
    RefIs (w9.setCell ⟨g, i * 3 + 1, none⟩ v9) (ext F w1 (w9.setCell ⟨g, i * 3 + 1, none⟩ v9)) r (setWay st1 i f way) ∧ Ext F w1 (w9.setCell ⟨g, i * 3 + 1, none⟩ v9) := by
  subst hF1
  have h9 := hR.kept (F' := ext (ext F w1 wc) wc w9) (KeepT.below hb) (fun k hk => .inl hk)
  have hx : Ext (ext F w1 wc) wc (w9.setCell ⟨g, i * 3 + 1, none⟩ v9) := (Ext.below hb).setCell (.inl hg) _
  refine ⟨(RefIs.setWay h9 hf hw.isWay).mono (fun k hk => ?_), hXc.trans hx⟩
  exact ext_trans hXc.size (by have := hb.size; simpa using this) k (by rcases hk with hk | hk; exact .inl hk; exact .inr ⟨hk.1, by simpa using hk.2⟩)

theorem wrap_small (n : Nat) (h : n ≤ 1700000000000) : IntKind.i64.wrap (n : Int) = (n : Int) := by
  rw [IntKind.wrap_i64]
  omega

set_option maxRecDepth 20000 in
set_option maxHeartbeats 4000000 in
theorem create_any {w : World} {F : Nat → Prop} {r : Nat} {st : St} (n : Int) (name : ByteArray) (dir : Bool) (h : RefIs w F r st) (ok : StOk st) (hname : name.size ≤ maxLen) (hnod : st.nodes.length ≤ 1700000000000) (hlong : ∀ f ∈ st.fids, f.way.length ≤ 1700000000000) :
    Calls Tryz.prog 108 #[.pointer (some ⟨r, 0, none⟩), .int .i64 n, .string name, .bool dir] w fun e w' => Ends w F r (mCreate st n name dir) e w' := by
  cases hf : find st n with
  | none =>
    have H := hide (show mCreate st n name dir = (tick st, 2) by simp [mCreate, hf])
    go_enter Tryz.func108, Tryz.ntmps108
    go_wp2_with fail
    refine (call_any n h).mono ?_
    rintro e w1 ⟨rfl, h1, hx, hsz⟩
    have H1 := hide h1
    have Hx := hide hx
    rw [hf]
    clear hf h h1 hx hsz
    simp only [idxV]
    go_wp2
    go_ret
    exact Ends.same H.out rfl H1.out Hx.out (Below.refl _ _)
  | some i =>
    obtain ⟨f, hfi, _⟩ := find_some hf
    have hi := M.lt_of_getElem? hfi
    have hmem := List.mem_of_getElem? hfi
    obtain ⟨s, hs, hsn, hrok, hno⟩ := ok.last hmem
    obtain ⟨x, hx⟩ := getElem?_of_lt hsn
    have HD := hide (show mCreate st n name dir = if f.op then (tick st, (3 : Int)) else if x.gone then (tick st, 4) else if x.dir then
          (if isName name then (match seenIn st name s.row with
            | some _ => (tick st, 8)
            | none => match makerOf st s.row with
              | none => (tick st, 9)
              | some m => if 100 ≤ liveNodes st.nodes then (tick st, 11) else (mCreateAt (tick st) i f (newNd name dir m.d), 0))
          else (tick st, 6))
        else (tick st, 5) by simp only [mCreate, hf, hfi, hs, isGone, isDir, hx] <;> rfl)
    have i0 : (0 : Int) ≤ (i : Int) := by omega
    have i1 : (i : Int) < (st.fids.length : Int) := by omega
    go_enter Tryz.func108, Tryz.ntmps108
    go_wp2_with fail
    refine (call_any n h).mono ?_
    rintro e w1 ⟨rfl, h1, hx1, hsz⟩
    have H1 := hide h1
    have Hx := hide hx1
    have Hsz := hide hsz
    rw [hf]
    clear hf h hx1 hsz
    simp only [idxV]
    obtain ⟨nv, lv, fv, hR⟩ := h1
    obtain ⟨g, cap, rfl, hmax, hF, hb, hcell, hfz⟩ := hR.nodesAt ok.pos
    obtain ⟨fg, fcap, wv, rfl, hfm, hFg, _, hway, _, cw, co, cfz⟩ := FidsIs.at (fids := st.fids) hR.fids i f hfi
    obtain ⟨gw, wcap, rao, rc, rfl, hwpos, hwmax, hrow, s0, s1⟩ := hway.last s hs
    have hmax' : st.nodes.length ≤ maxLen := hmax
    have c2 := hR.c2
    have hc0 : w1.cell? ⟨r, 0, none⟩ = some (.slice (some ⟨g, 0, none⟩) st.nodes.length cap) := hR.c0
    have hgone := (hcell s.n x hx).2.2.2.2.2
    have hdir := (hcell s.n x hx).2.1
    have HR := hide hR
    have HC := hide hcell
    have Hfi := hide hfi
    have Hrow := hide hrow
    have Hway := hide hway
    have Hnode := hide (node_any (st := tick st) i f s hfi hs hsn H1.out)
    have Hname := hide (fun W => isName_any name W hname)
    have Hspot := hide (fun (W : World) (a1 : W.cell? ⟨fg, i * 3 + 1, none⟩ = some (.slice (some ⟨gw, 0, none⟩) f.way.length wcap)) (a2 : W.cell? ⟨gw, (f.way.length - 1) * 2, none⟩ = some (.int .i64 s.n)) (a3 : W.cell? ⟨gw, (f.way.length - 1) * 2 + 1, none⟩ = some (.slice rao s.row.length rc)) => spot_core fg (i * 3) gw f.way.length wcap s.n rao s.row.length rc W hwpos hwmax a1 a2 a3)
    have Hrok := hide hrok
    unfold maxLen at hmax hfm
    clear hR hcell hfz cfz hb hF hx hfi hs hFg hway hrow hmax'
    cases ho : f.op with
    | true =>
      rw [ho] at co HD
      go_wp2
      go_ret
      exact Ends.same HD.out rfl H1.out Hx.out (Below.refl _ _)
    | false =>
      rw [ho] at co HD
      clear ho
      go_wp2_with fail
      refine Hnode.out.mono ?_
      rintro e w2 ⟨g', cap', hcc, rfl, hb2⟩
      have hgg : g' = g := by rw [hc0] at hcc; simp at hcc; exact hcc.1.symm
      subst hgg
      have HB2 := hide hb2
      have q5 : w2.cell? ⟨g', s.n * 6 + 5, none⟩ = some (.bool x.gone) := (hb2.cell (World.block_lt_of_cell? w1 _ hgone)).trans hgone
      have q1 : w2.cell? ⟨g', s.n * 6 + 1, none⟩ = some (.bool x.dir) := (hb2.cell (World.block_lt_of_cell? w1 _ hdir)).trans hdir
      have q2 : w2.cell? ⟨r, 2, none⟩ = some (.slice (some ⟨fg, 0, none⟩) st.fids.length fcap) := (hb2.cell (World.block_lt_of_cell? w1 _ c2)).trans c2
      have qw : w2.cell? ⟨fg, i * 3 + 1, none⟩ = some (.slice (some ⟨gw, 0, none⟩) f.way.length wcap) := (hb2.cell (World.block_lt_of_cell? w1 _ cw)).trans cw
      have t0 : w2.cell? ⟨gw, (f.way.length - 1) * 2, none⟩ = some (.int .i64 s.n) := (hb2.cell (World.block_lt_of_cell? w1 _ s0)).trans s0
      have t1 : w2.cell? ⟨gw, (f.way.length - 1) * 2 + 1, none⟩ = some (.slice rao s.row.length rc) := (hb2.cell (World.block_lt_of_cell? w1 _ s1)).trans s1
      clear hb2 hcc
      cases hxg : x.gone with
      | true =>
        rw [hxg] at q5 HD
        go_wp2
        go_ret
        exact Ends.same HD.out rfl H1.out Hx.out HB2.out
      | false =>
        rw [hxg] at q5 HD
        cases hxd : x.dir with
        | false =>
          rw [hxd] at q1 HD
          go_wp2
          go_ret
          exact Ends.same HD.out rfl H1.out Hx.out HB2.out
        | true =>
          rw [hxd] at q1 HD
          go_wp2_with fail
          refine (Hname.out _).mono ?_
          rintro e w' ⟨rfl, hw⟩
          obtain rfl := hw.symm
          clear hw
          generalize isName name = bn at HD
          cases bn with
          | false =>
            go_wp2
            go_ret
            exact Ends.same HD.out rfl H1.out Hx.out HB2.out
          | true =>
            have hfd : ∀ (W : World), (Instr.field 212 (.agg #[.int .i64 s.n, .slice rao s.row.length rc]) 1).run Tryz.prog W = .ok (.slice rao s.row.length rc) W := fun _ => by kernel_rfl
            go_wp2_with fail
            refine (Hspot.out _ qw t0 t1).mono ?_
            rintro e w3 ⟨rfl, hb3⟩
            have HB3 : Hid (Below w1.heap.size w1 w3) := hide (HB2.out.trans (hb3.mono HB2.out.size))
            clear hb3
            go_wp2_with fail
            have Hseen := hide (seen_any (F := F) (st := tick st) s.row name (.slice rao s.row.length rc) (H1.out.below HB3.out) ok.pos (Hrow.out.keepT (KeepT.below (T := fun _ => True) HB3.out) trivial) Hrok.out)
            rw [tick_seen] at Hseen
            refine Hseen.out.mono ?_
            rintro e w4 ⟨rfl, hb4⟩
            have HB4 : Hid (Below w1.heap.size w1 w4) := hide (HB3.out.trans (hb4.mono HB3.out.size))
            clear hb4 Hseen
            cases hse : seenIn st name s.row with
            | some c =>
              rw [hse] at HD
              simp only [idxV]
              have c0' : (0 : Int) ≤ (c : Int) := by omega
              clear hse
              go_wp2
              go_ret
              exact Ends.same HD.out rfl H1.out Hx.out HB4.out
            | none =>
              rw [hse] at HD
              simp only [idxV]
              clear hse
              go_wp2
              go_loopw [13] (fun v wr => ∃ k : Nat, k ≤ s.row.length ∧ v = .int .i64 k ∧ makerOf st s.row = makerOf st (s.row.drop k) ∧ Below w1.heap.size w1 wr) (fun v _ => s.row.length - (intOf v).toNat)
              case atStart => exact ⟨0, Nat.zero_le _, rfl, rfl, HB4.out⟩
              case round =>
                obtain ⟨k, hk, rfl, hmk, hB⟩ := hrel
                have HB := hide hB
                have Hmk := hide hmk
                clear hmk HB2 HB3 HB4 q5 q1 q2 qw t0 t1
                by_cases hlt : k < s.row.length
                · obtain ⟨m, hm⟩ := getElem?_of_lt hlt
                  have hmd := Hrok.out m (List.mem_of_getElem? hm)
                  obtain ⟨y, hy⟩ := getElem?_of_lt hmd
                  have hz : (s.row.map memberCells)[k]? = some (memberCells m) := by rw [List.getElem?_map, hm]; rfl
                  rcases Hrow.out.opened with ⟨_, hnil⟩ | ⟨rb, rcap, hv, hrl, hrm, _, _, hrc, _⟩
                  · rw [hnil] at hz; simp at hz
                  simp only [Value.slice.injEq] at hv
                  obtain ⟨rfl, hln, rfl⟩ := hv
                  clear hln
                  have m0 := hrc _ _ 0 _ hz rfl
                  have m1 := hrc _ _ 1 _ hz rfl
                  simp only [Nat.add_zero] at m0
                  have y5 := (HC.out m.d y hy).2.2.2.2.2
                  have e0 : wr.cell? ⟨rb, k * 2, none⟩ = some (.int .i64 m.d) := (hB.cell (World.block_lt_of_cell? w1 _ m0)).trans m0
                  have e1 : wr.cell? ⟨rb, k * 2 + 1, none⟩ = some (.bool m.leave) := (hB.cell (World.block_lt_of_cell? w1 _ m1)).trans m1
                  have e5 : wr.cell? ⟨g', m.d * 6 + 5, none⟩ = some (.bool y.gone) := (hB.cell (World.block_lt_of_cell? w1 _ y5)).trans y5
                  have r0 : wr.cell? ⟨r, 0, none⟩ = some (.slice (some ⟨g', 0, none⟩) st.nodes.length cap) := (hB.cell (World.block_lt_of_cell? w1 _ hc0)).trans hc0
                  have Hmd := hide (makerOf_drop st s.row k m hm)
                  have hgy : isGone st m.d = y.gone := by simp [isGone, hy]
                  rw [hgy] at Hmd
                  have Hml := hide (show s.row.length ≤ maxLen by rw [List.length_map] at hrl; omega)
                  have hrm' := Hml.out
                  unfold maxLen at hrm'
                  have b1 : (m.d : Int) < (st.nodes.length : Int) := by omega
                  have b2 : (k : Int) < (s.row.length : Int) := by omega
                  have b3 : (0 : Int) ≤ (m.d : Int) := by omega
                  have b4 : (0 : Int) ≤ (k : Int) := by omega
                  clear hm hy hz hrc m0 m1 y5 hgy hB hrl hrm
                  cases hyg : y.gone with
                  | true =>
                    rw [hyg] at e5 Hmd
                    go_wp2
                    go_quiet (fail)
                    go_wp2
                    go_roundw
                    case rel => exact ⟨k + 1, by omega, by go_num, by rw [Hmk.out, Hmd.out]; rfl, below_drewN HB.out _⟩
                    case measure => simp [intOf]; omega
                  | false =>
                    rw [hyg] at e5 Hmd
                    cases hml : m.leave with
                    | false =>
                      rw [hml] at e1 Hmd
                      go_wp2
                      go_quiet (fail)
                      go_wp2
                      go_roundw
                      case rel => exact ⟨k + 1, by omega, by go_num, by rw [Hmk.out, Hmd.out]; rfl, below_drewN HB.out _⟩
                      case measure => simp [intOf]; omega
                    | true =>
                      rw [hml] at e1 Hmd
                      have Hfound := hide (show makerOf st s.row = some m by rw [Hmk.out, Hmd.out]; rfl)
                      rw [Hfound.out] at HD
                      go_wp2
                      go_quiet (fail)
                      go_wp2_with fail
                      refine (count_any (F := F) (st := tick st) ok.pos (H1.out.below (below_drewN HB.out _))).mono ?_
                      rintro e w' ⟨rfl, hw⟩
                      obtain rfl := hw.symm
                      clear hw
                      by_cases hcnt : 100 ≤ liveNodes st.nodes
                      · rw [if_pos hcnt] at HD
                        have hcnt' : (100 : Int) ≤ (liveCount (tick st).nodes : Int) := by have : liveCount (tick st).nodes = liveNodes st.nodes := rfl; omega
                        go_wp2
                        go_ret
                        exact Ends.same HD.out rfl H1.out Hx.out (below_drewN HB.out _)
                      · rw [if_neg hcnt] at HD
                        have hcnt' : ¬ (100 : Int) ≤ (liveCount (tick st).nodes : Int) := by have : liveCount (tick st).nodes = liveNodes st.nodes := rfl; omega
                        go_upto_region 23 with (fail)
                        have HRq : Hid (∀ q, RefHas (wr.drewN q) F r (tick st) (.slice (some ⟨g', 0, none⟩) st.nodes.length cap) lv (.slice (some ⟨fg, 0, none⟩) st.fids.length fcap)) := hide (fun q => by
                          have hk : KeepT (fun _ => True) F w1 (wr.drewN q) := KeepT.below (below_drewN HB.out q)
                          have hR := HR.out
                          exact ⟨(hk r _ _ hR.own hR.blk trivial).trans hR.blk, hR.own, hR.nodes.keepT hk trivial, hR.laid.keepT hk trivial trivial, hR.fids.keepT hk trivial trivial trivial⟩)
                        have u0 := fun (q : Nat) (o : Obj) => up (w := wr.drewN q) e0 o
                        have ur0 := fun (q : Nat) (o : Obj) => up (w := wr.drewN q) r0 o
                        go_cut [] (fun wc => RefIs wc (ext F w1 wc) r (withNode (tick st) (newNd name dir m.d)) ∧ Ext F w1 wc)
                        case first =>
                          go_region_law (refine step_append_Own _ rfl (.tmp 90) (.tmp 99) 77 rfl F 184 (.agg #[.string ⟨#[]⟩, .bool false, .int .i64 0, .string ⟨#[]⟩, .int .i64 0, .bool false]) 6 64 Tryz.underlying77 infoNode rfl ?_ (.slice (some ⟨g', 0, none⟩) st.nodes.length cap) ((tick st).nodes.map nodeCells) rfl ?_ (.slice (some ⟨wr.heap.size, 0, none⟩) 1 1) [nodeCells (newNd name dir m.d)] rfl ?_ (st.nodes.length + 1) ?_ ?_ ?_ ?_; decide; exact ((HRq.out _).nodes.keepT (T := fun _ => True) ((KeepT.refl _ _ _).alloc _) trivial); exact src_node (wr.drewN _) _; (rw [List.length_map]; rfl); (unfold maxLen; omega); omega; intro ao5 c5 w5 ho5 hg5 hb5; have Hcl := hide (node_close (newNd name dir m.d) (HRq.out _) ho5 hg5); have q9 : w5.cell? ⟨r, 0, none⟩ = some (.slice (some ⟨g', 0, none⟩) st.nodes.length cap) := (by simp [World.cell?, Hcl.out.1]); have f9 : w5.frozen? ⟨r, 0, none⟩ = false := (by simp [World.frozen?, Hcl.out.1]); clear ho5 hg5 hb5)
                          all_goals go_wp2
                          all_goals go_meet
                          all_goals exact ⟨Hcl.out.2.1.mono (ext_le HB.out.size (Nat.le_refl _)), (Ext.below (below_drewN HB.out _)).trans' Hcl.out.2.2⟩
                        case rest =>
                          obtain ⟨hRc, hXc⟩ := hcut
                          have HRc := hide hRc
                          have HXc := hide hXc
                          obtain ⟨st1, hst1⟩ : ∃ q, q = withNode (tick st) (newNd name dir m.d) := ⟨_, rfl⟩
                          obtain ⟨F1, hF1⟩ : ∃ G, G = ext F w1 wc := ⟨_, rfl⟩
                          rw [← hst1, ← hF1] at HRc
                          have hlen1 : st1.nodes.length = st.nodes.length + 1 := by rw [hst1]; simp [withNode, tick]
                          have hfid1 : st1.fids = st.fids := by rw [hst1]; rfl
                          obtain ⟨nc, lc, fc, hRh⟩ := HRc.out
                          obtain ⟨gc, ncap, rfl, _, _, _, _, _⟩ := hRh.nodesAt (by omega)
                          obtain ⟨fgc, fcc, wvc, rfl, hfmc, hFgc, _, hwayc, _, cwc, coc, cfzc⟩ := hRh.fids.at i f (by rw [hfid1]; exact Hfi.out)
                          obtain ⟨wsc, hEc, hOc⟩ := hwayc
                          obtain ⟨waoc, wcc, rfl⟩ := hOc.form
                          rw [zip_len hEc] at hOc cwc
                          rw [hfid1] at hRh hfmc
                          rw [hlen1] at hRh
                          have d0 := hRh.c0
                          have d2 := hRh.c2
                          have HRh := hide hRh
                          have HEc := hide hEc
                          have HOc := hide hOc
                          have hwl := hlong f hmem
                          have fw1 := cfzc (i * 3 + 1)
                          have fw2 := cfzc (i * 3 + 2)
                          have HFgc := hide hFgc
                          have Hst1 := hide hst1
                          have HF1 := hide hF1
                          have Hlen1 := hide hlen1
                          have Hfid1 := hide hfid1
                          unfold maxLen at hfmc
                          clear hRc hXc hst1 hF1 hlen1 hfid1 hRh hEc hOc hFgc cfzc u0 ur0 e0 e1 e5 r0 HRq
                          go_upto_region 26 with (at_builtin; refine wpList_append_Own _ rfl (.tmp 103) (.tmp 111) 214 rfl (fun _ => False) 212 (.agg #[.int .i64 0, .slice none 0 0]) 2 32 Tryz.underlying214 infoSpot rfl ?_ (.slice none 0 0) [] rfl (Own.nil _ _ _ _) (.slice waoc f.way.length wcc) (List.zipWith spotCells wsc f.way) rfl ?_ f.way.length ?_ ?_ ?_ ?_; decide; exact (SrcIs.ofOwn HOc.out (spot_one wsc f.way (row_forms HEc.out))); (rw [zip_len HEc.out]; simp); (unfold maxLen; omega); omega; intro ao7 k7 w7 ho7 hg7 hb7; have Ho7 := hide ho7; have Hb7 : Hid (Below wc.heap.size wc w7) := hide ⟨hg7.os, hg7.tape, hg7.output, hg7.size, fun k hk => hg7.block k hk (by simp [Value.ownBlock])⟩; clear ho7 hg7 hb7)
                          have p0 : w7.cell? ⟨r, 0, none⟩ = some (.slice (some ⟨gc, 0, none⟩) (st.nodes.length + 1) ncap) := (Hb7.out.cell (World.block_lt_of_cell? wc _ d0)).trans d0
                          have p2 : w7.cell? ⟨r, 2, none⟩ = some (.slice (some ⟨fgc, 0, none⟩) st.fids.length fcc) := (Hb7.out.cell (World.block_lt_of_cell? wc _ d2)).trans d2
                          have HE7 : Hid (Each (fun v s => RowIs w7 (ext F1 wc w7) v s.row) wsc f.way) := hide (HEc.out.imp (fun v s h => (h.keepT (KeepT.below (T := fun _ => True) Hb7.out) trivial).mono (fun k hk => .inl hk)))
                          have hwr : IntKind.i64.wrap (st.nodes.length : Int) = (st.nodes.length : Int) := wrap_small _ hnod
                          go_cut [] (fun wd => RefIs wd (ext F w1 wd) r (setWay st1 i f (f.way ++ [come st1 st.nodes.length])) ∧ Ext F w1 wd)
                          case first =>
                            go_region_law (first
                              | (refine step_append_Own _ rfl (.tmp 118) (.tmp 127) 214 rfl (ext (fun _ => False) wc (w8.alloc (.cells #[.int .i64 st.nodes.length, .slice ao8 (come st1 st.nodes.length).row.length cc8] 212))) 212 (.agg #[.int .i64 0, .slice none 0 0]) 2 32 Tryz.underlying214 infoSpot rfl ?_ (.slice ao7 f.way.length k7) (List.zipWith spotCells wsc f.way) rfl ?_ (.slice (some ⟨w8.heap.size, 0, none⟩) 1 1) [[.int .i64 st.nodes.length, .slice ao8 (come st1 st.nodes.length).row.length cc8]] rfl one_spot (f.way.length + 1) ?_ ?_ ?_ ?_; decide; exact (Own.keepT (T := fun _ => True) (F := ext (fun _ => False) wc w7) Ho7.out ((KeepT.below Hb8.out).alloc _) trivial).mono (ext_mono (by have := Hb8.out.size; simp; omega)); (rw [zip_len HEc.out]; rfl); (unfold maxLen; omega); omega; intro ao9 k9 w9 ho9 hg9 hb9; have Hfin := hide (way_append (come st1 st.nodes.length) Hb7.out.size HE7.out Ho7.out Hb8.out (Hrow8.out.mono (ext_le Hb7.out.size (Nat.le_refl _))) ho9 hg9); have Hb9 : Hid (Below wc.heap.size wc w9) := hide (Hb7.out.trans Hfin.out.2); have p29 : w9.cell? ⟨r, 2, none⟩ = some (.slice (some ⟨fgc, 0, none⟩) st.fids.length fcc) := (Hb9.out.cell (World.block_lt_of_cell? wc _ d2)).trans d2; have pw9 : w9.cell? ⟨fgc, i * 3 + 1, none⟩ = some (.slice waoc f.way.length wcc) := (Hb9.out.cell (World.block_lt_of_cell? wc _ cwc)).trans cwc; have pf9 : w9.frozen? ⟨fgc, i * 3 + 1, none⟩ = false := (Hb9.out.frozen (World.block_lt_of_cell? wc ⟨fgc, i * 3 + 1, none⟩ cwc)).trans fw1; clear ho9 hg9 hb9)
                              | (go_simp; go_at_call 138; refine (come_any (F := F1) (st := st1) st.nodes.length ?_ ?_).mono ?_; (rw [Hlen1.out]; omega); exact (HRc.out.below Hb7.out).drew; rintro e w8 ⟨ao8, cc8, rfl, hrow8, hb8⟩; have Hb8 : Hid (Below w7.heap.size w7 w8) := hide (((Below.refl _ w7).drew).trans hb8); have Hrow8 := hide hrow8; have p2' : w8.cell? ⟨r, 2, none⟩ = some (.slice (some ⟨fgc, 0, none⟩) st.fids.length fcc) := (Hb8.out.cell (World.block_lt_of_cell? w7 _ p2)).trans p2; have u2' := up p2'; clear hb8 hrow8))
                            all_goals go_wp2
                            all_goals go_meet
                            all_goals exact way_close HF1.out HXc.out (by rw [Hfid1.out]; exact HRh.out) HFgc.out (by rw [Hfid1.out]; exact Hfi.out) Hb9.out Hfin.out.1
                          case rest =>
                            obtain ⟨hRd, hXd⟩ := hcut
                            have HRd := hide hRd
                            have HXd := hide hXd
                            have hfi2 : (setWay st1 i f (f.way ++ [come st1 st.nodes.length])).fids[i]? = some { f with way := f.way ++ [come st1 st.nodes.length] } := by
                              simp only [setWay, Hfid1.out]
                              rw [List.getElem?_set_self hi]
                            obtain ⟨nd, ld, fd, hRdh⟩ := hRd
                            obtain ⟨fgd, fcd, wvd, rfl, hfmd, hFgd, _, _, _, _, cod, cfzd⟩ := hRdh.fids.at i _ hfi2
                            have hlen2 : (setWay st1 i f (f.way ++ [come st1 st.nodes.length])).fids.length = st.fids.length := by simp [setWay, Hfid1.out]
                            have x2 := hRdh.c2
                            rw [hlen2] at x2 hfmd
                            have HRdh := hide hRdh
                            have Hfi2 := hide hfi2
                            have HFgd := hide hFgd
                            have fz2 := cfzd (i * 3 + 2)
                            unfold maxLen at hfmd
                            clear hRdh hXd hfi2 hlen2 cfzd hFgd p0 p2
                            go_wp2
                            go_ret
                            have hop := RefIs.opened HRdh.out Hfi2.out
                            have hM : mCreate st n name dir = (mCreateAt (tick st) i f (newNd name dir m.d), 0) := HD.out
                            refine ⟨by rw [hM]; rfl, ?_, ?_⟩
                            · rw [hM]
                              have hE : mCreateAt (tick st) i f (newNd name dir m.d) = setOpen (setWay st1 i f (f.way ++ [come st1 st.nodes.length])) i { f with way := f.way ++ [come st1 st.nodes.length] } := by rw [Hst1.out]; rfl
                              rw [hE]
                              exact hop.mono (ext_le (by rw [Hsz.out]; exact Nat.le_refl _) (by simp))
                            · exact Hx.out.trans' (HXd.out.trans ((Ext.refl _ _).setCell (.inl HFgd.out) _))
                · have Hnone := hide (show makerOf st s.row = none by rw [Hmk.out, List.drop_eq_nil_of_le (by omega)]; rfl)
                  rw [Hnone.out] at HD
                  go_wp2
                  go_ret
                  exact Ends.same HD.out rfl H1.out Hx.out HB.out
end Go.Proofs.YtdmdgnghaceibaaGreat
/- A Server of the program beside the document's. -/
namespace Go.Proofs.YtdmdgnghaceibaaGreat.P
open M Go.ChangeShapes Go.WideShapes Go.ChangeAt Go.RowKit
set_option linter.unusedVariables false

/-- The two halves; X: the blocks that they may write, all new ones among them. -/
structure TwoIs (w : World) (X : Nat → Prop) (b s r : Nat) (F G : Nat → Prop) (st st' : St) : Prop where
  ty : Ty w b 76
  c0 : w.cell? ⟨b, 0, none⟩ = some (.pointer (some ⟨s, 0, none⟩))
  c1 : w.cell? ⟨b, 1, none⟩ = some (.pointer (some ⟨r, 0, none⟩))
  srv : SrvIs w F s st
  ref : RefIs w G r st'
  apart : ∀ k, F k → ¬ G k
  bF : ¬ F b
  bG : ¬ G b
  lo : ∀ k, F k ∨ G k → X k ∧ k < w.heap.size
  up : ∀ k, w.heap.size ≤ k → X k

def BothIs (w : World) (X : Nat → Prop) (b : Nat) (st : St) : Prop := ∃ s r F G, TwoIs w X b s r F G st st

section
variable {w w2 : World} {b s r : Nat} {X F G : Nat → Prop} {st st' st2 : St}

theorem TwoIs.below (h : TwoIs w X b s r F G st st') (hb : Below w.heap.size w w2) : TwoIs w2 X b s r F G st st' := by
  have hlt := h.ty.lt
  exact ⟨h.ty.below hb hlt, (hb.cell (p := ⟨b, 0, none⟩) hlt).trans h.c0, (hb.cell (p := ⟨b, 1, none⟩) hlt).trans h.c1, h.srv.kept (KeepX.below hb), h.ref.below hb, h.apart, h.bF, h.bG, fun k hk => ⟨(h.lo k hk).1, by have := (h.lo k hk).2; have := hb.size; omega⟩, fun k hk => h.up k (by have := hb.size; omega)⟩

theorem ty_of_block {w w2 : World} {b : Nat} {e : TypeId} (h : Ty w b e) (hb : w2.heap[b]? = w.heap[b]?) : Ty w2 b e := by
  obtain ⟨cur, h⟩ := h
  exact ⟨cur, hb.trans h⟩

/-- The program's half has gone on. -/
theorem TwoIs.srvStep (h : TwoIs w X b s r F G st st') (hs : SrvIs w2 (ext F w w2) s st2) (hx : Ext F w w2) : TwoIs w2 X b s r (ext F w w2) G st2 st' := by
  have hlt := h.ty.lt
  have hb := hx.block b hlt h.bF
  refine ⟨ty_of_block h.ty hb, (World.cell?_of_block hb).trans h.c0, (World.cell?_of_block hb).trans h.c1, hs, ?_, fun k hk hG => ?_, fun hk => ?_, h.bG, fun k hk => ?_, fun k hk => h.up k (by have := hx.size; omega)⟩
  · exact h.ref.kept (Ext.keepT hx (fun k hG hF => h.apart k hF hG))
  · rcases hk with hk | hk
    · exact h.apart k hk hG
    · have := (h.lo k (.inr hG)).2; omega
  · rcases hk with hk | hk
    · exact h.bF hk
    · omega
  · have hz := hx.size
    rcases hk with (hk | hk) | hk
    · have := h.lo k (.inl hk); exact ⟨this.1, by omega⟩
    · exact ⟨h.up k hk.1, hk.2⟩
    · have := h.lo k (.inr hk); exact ⟨this.1, by omega⟩

theorem TwoIs.srvStep' {F' : Nat → Prop} (h : TwoIs w X b s r F G st st') (hs : SrvIs w2 F' s st2) (hF : ∀ k, F' k → ext F w w2 k) (hx : Ext F w w2) : TwoIs w2 X b s r F' G st2 st' := by
  have h' := h.srvStep (st2 := st2) (hs.mono hF) hx
  exact ⟨h'.ty, h'.c0, h'.c1, hs, h'.ref, fun k hk => h'.apart k (hF k hk), fun hk => h'.bF (hF b hk), h'.bG, fun k hk => h'.lo k (by rcases hk with hk | hk; exact .inl (hF k hk); exact .inr hk), h'.up⟩

/-- The document's half has gone on. -/
theorem TwoIs.refStep (h : TwoIs w X b s r F G st st') (hs : RefIs w2 (ext G w w2) r st2) (hx : Ext G w w2) : TwoIs w2 X b s r F (ext G w w2) st st2 := by
  have hlt := h.ty.lt
  have hb := hx.block b hlt h.bG
  refine ⟨ty_of_block h.ty hb, (World.cell?_of_block hb).trans h.c0, (World.cell?_of_block hb).trans h.c1, h.srv.kept (KeepX.ofExt hx (fun k hF hG => h.apart k hF hG)), hs, fun k hF hk => ?_, h.bF, fun hk => ?_, fun k hk => ?_, fun k hk => h.up k (by have := hx.size; omega)⟩
  · rcases hk with hk | hk
    · exact h.apart k hF hk
    · have := (h.lo k (.inl hF)).2; omega
  · rcases hk with hk | hk
    · exact h.bG hk
    · omega
  · have hz := hx.size
    rcases hk with hk | (hk | hk)
    · have := h.lo k (.inl hk); exact ⟨this.1, by omega⟩
    · have := h.lo k (.inr hk); exact ⟨this.1, by omega⟩
    · exact ⟨h.up k hk.1, hk.2⟩

theorem TwoIs.refStep' {G' : Nat → Prop} (h : TwoIs w X b s r F G st st') (hs : RefIs w2 G' r st2) (hG : ∀ k, G' k → ext G w w2 k) (hx : Ext G w w2) : TwoIs w2 X b s r F G' st st2 := by
  have h' := h.refStep (st2 := st2) (hs.mono hG) hx
  exact ⟨h'.ty, h'.c0, h'.c1, h'.srv, hs, fun k hF hk => h'.apart k hF (hG k hk), h'.bF, fun hk => h'.bG (hG b hk), fun k hk => h'.lo k (by rcases hk with hk | hk; exact .inl hk; exact .inr (hG k hk)), h'.up⟩

/-- What a call of either half leaves. -/
theorem _root_.Go.Proofs.YtdmdgnghaceibaaGreat.Ext.weak (hx : Ext F w w2) (hF : ∀ k, F k → X k) : Ext X w w2 :=
  ⟨hx.os, hx.tape, hx.output, hx.size, fun k hk h => hx.block k hk (fun q => h (hF k q))⟩
theorem _root_.Go.Proofs.YtdmdgnghaceibaaGreat.Ext.toBelow {B : Nat} (hx : Ext (fun k => B ≤ k) w w2) (hB : B ≤ w.heap.size) : Below B w w2 :=
  ⟨hx.os, hx.tape, hx.output, hx.size, fun k hk => hx.block k (by omega) (by omega)⟩
theorem TwoIs.less {Y : Nat → Prop} (h : TwoIs w X b s r F G st st') (hF : ∀ k, F k ∨ G k → Y k) (hY : ∀ k, w.heap.size ≤ k → Y k) : TwoIs w Y b s r F G st st' :=
  ⟨h.ty, h.c0, h.c1, h.srv, h.ref, h.apart, h.bF, h.bG, fun k hk => ⟨hF k hk, (h.lo k hk).2⟩, hY⟩

theorem TwoIs.r3 (h : TwoIs w X b s r F G st st') : w.cell? ⟨r, 3, none⟩ = some (.int .i64 st'.calls) := by
  obtain ⟨nv, lv, fv, hR⟩ := h.ref
  exact hR.c3
end

theorem POk.stOk {st : St} (ok : POk st) : StOk st :=
  ⟨ok.pos, fun f hf => ⟨(ok.way f hf).1, fun s hs => ⟨((ok.way f hf).2 s hs).1, fun m hm => (((ok.way f hf).2 s hs).2.1 m hm).1⟩⟩, fun l hl m hm => ((ok.laid l hl).1 m hm).1, FidsOk.few ok.fids⟩

theorem num_any (n : Int) (w : World) : Calls Tryz.prog 27 #[.int .i64 n] w fun e w' => e = .returned (.int .i64 n) ∧ w' = w := by
  go_enter Tryz.func27, Tryz.ntmps27
  go_wp2
  go_ret
  exact ⟨rfl, rfl⟩

/-- A step, as a value. -/
def opV (kind k fid a b : Int) (text : ByteArray) (yes : Bool) (nv : Value) : Value := .agg #[.int .i64 kind, .int .i64 k, .int .i64 fid, .int .i64 a, .int .i64 b, .string text, .bool yes, nv]

/-- A block that a half does not own is as it was. -/
theorem ext_cell {F : Nat → Prop} {w w2 : World} (hx : Ext F w w2) {k j : Nat} {v : Value} (hF : ¬ F k) (h : w.cell? ⟨k, j, none⟩ = some v) : w2.cell? ⟨k, j, none⟩ = some v :=
  (World.cell?_of_block (hx.block k (World.block_lt_of_cell? w _ h) hF)).trans h

end Go.Proofs.YtdmdgnghaceibaaGreat.P
/- The document's own answer, more: Stat. -/
namespace Go.Proofs.YtdmdgnghaceibaaGreat.M

structure StatR where
  name : ByteArray
  dir : Bool
  size : Int
  version : Int
  row : Int

def noStat : StatR := ⟨⟨#[]⟩, false, 0, 0, 0⟩

def mStat (st : St) (n : Int) : St × StatR × Int :=
  match find st n with
  | none => (tick st, noStat, 2)
  | some i => match st.fids[i]? with
    | none => (tick st, noStat, 2)
    | some f => match f.way.getLast? with
      | none => (tick st, noStat, 2)
      | some s => match st.nodes[s.n]? with
        | none => (tick st, noStat, 2)
        | some x => if x.gone then (tick st, noStat, 4) else if x.dir then (tick st, ⟨x.name, true, 0, 0, liveRow st s.row⟩, 0) else (tick st, ⟨x.name, false, x.data.size, x.version, 0⟩, 0)
end Go.Proofs.YtdmdgnghaceibaaGreat.M
/- The document's own answer, more: Read. -/
namespace Go.Proofs.YtdmdgnghaceibaaGreat.M

/-- The bytes from a place on, so many at most. -/
def textAt (d : ByteArray) (a c : Nat) : ByteArray := if a < d.size then d.extract a (min (a + c) d.size) else ⟨#[]⟩

def dataOf (st : St) (f : Fid) : ByteArray := match st.nodes[nodeOf f]? with | some x => x.data | none => ⟨#[]⟩

def mRead (st : St) (n a c : Int) : St × ByteArray × Int :=
  if mFile st (find st n) = 0 then
    (if a < 0 ∨ c < 0 then (tick st, ⟨#[]⟩, 1) else match find st n with
      | none => (tick st, ⟨#[]⟩, 2)
      | some i => match st.fids[i]? with
        | none => (tick st, ⟨#[]⟩, 2)
        | some f => (tick st, textAt (dataOf st f) a.toNat c.toNat, 0))
  else (tick st, ⟨#[]⟩, mFile st (find st n))

theorem textAt_stop {d : ByteArray} {a c k : Nat} (h1 : a ≤ k) (h2 : k ≤ d.size) (h3 : k - a ≤ c) (h4 : d.size ≤ k ∨ c ≤ k - a) (ha : a < d.size) : textAt d a c = d.extract a k := by
  unfold textAt
  rw [if_pos ha, show min (a + c) d.size = k by omega]

theorem extract_more (d : ByteArray) (a k : Nat) (h : a ≤ k) : d.extract a k ++ d.extract k (k + 1) = d.extract a (k + 1) :=
  (ByteArray.extract_eq_extract_append_extract k h (by omega)).symm
end Go.Proofs.YtdmdgnghaceibaaGreat.M
/- The reference's 'Read'. -/
namespace Go.Proofs.YtdmdgnghaceibaaGreat
open M Go.ChangeShapes Go.WideShapes Go.ChangeAt Go.RowKit
set_option linter.unusedVariables false

def Ends4 (w : World) (F : Nat → Prop) (r : Nat) (p : St × ByteArray × Int) (e : Ending) (w' : World) : Prop := e = .returned (.tuple #[.string p.2.1, .int .i64 p.2.2]) ∧ RefIs w' (ext F w w') r p.1 ∧ Ext F w w'

theorem Ends4.same {w w1 w' : World} {F : Nat → Prop} {r : Nat} {st' : St} {c : Int} {t : ByteArray} {p : St × ByteArray × Int} {e : Ending} (hp : p = (st', t, c)) (he : e = .returned (.tuple #[.string t, .int .i64 c])) (h1 : RefIs w1 F r st') (hx : Ext F w w1) (hb : Below w1.heap.size w1 w') : Ends4 w F r p e w' := by
  subst hp
  exact ⟨he, (h1.below hb).mono (fun k hk => .inl hk), hx.trans' (Ext.below hb)⟩

set_option maxRecDepth 20000 in
set_option maxHeartbeats 1000000 in
theorem read_any {w : World} {F : Nat → Prop} {r : Nat} {st : St} (n a c : Int) (h : RefIs w F r st) (ok : StOk st) (hdat : ∀ x ∈ st.nodes, x.data.size ≤ 300) :
    Calls Tryz.prog 113 #[.pointer (some ⟨r, 0, none⟩), .int .i64 n, .int .i64 a, .int .i64 c] w fun e w' => Ends4 w F r (mRead st n a c) e w' := by
  have hoi : ∀ i, find st n = some i → i < (tick st).fids.length := fun i hi => by
    obtain ⟨f, hfi, _⟩ := find_some hi
    exact M.lt_of_getElem? hfi
  have hdef : mRead st n a c = if mFile st (find st n) = 0 then
    (if a < 0 ∨ c < 0 then (tick st, ⟨#[]⟩, (1 : Int)) else match find st n with
      | none => (tick st, ⟨#[]⟩, 2)
      | some i => match st.fids[i]? with
        | none => (tick st, ⟨#[]⟩, 2)
        | some f => (tick st, textAt (dataOf st f) a.toNat c.toNat, 0))
  else (tick st, ⟨#[]⟩, mFile st (find st n)) := rfl
  have HD := hide hdef
  clear hdef
  go_enter Tryz.func113, Tryz.ntmps113
  go_wp2_with fail
  refine (call_any n h).mono ?_
  rintro e w1 ⟨rfl, h1, hx1, hsz1⟩
  have H1 := hide h1
  have Hx := hide hx1
  have Hfile := hide (file_any (st := tick st) (find st n) hoi h1 ⟨ok.pos, ok.way, ok.laid, ok.few⟩)
  rw [show mFile (tick st) (find st n) = mFile st (find st n) from rfl] at Hfile
  have Hoi := hide hoi
  clear h hx1 hsz1 h1 hoi
  generalize hfo : find st n = fo at *
  have Hfo := hide hfo
  clear hfo
  go_wp2_with fail
  refine Hfile.out.mono ?_
  rintro e w2 ⟨rfl, hb2⟩
  have HB2 := hide hb2
  clear hb2 Hfile
  by_cases hm : mFile st fo = 0
  · rw [if_pos hm] at HD
    have Hm := hide hm
    rw [hm]
    clear hm
    by_cases hac : a < 0 ∨ c < 0
    · rw [if_pos hac] at HD
      rcases hac with ha | hc
      · go_wp2
        go_ret2
        exact Ends4.same HD.out rfl H1.out Hx.out HB2.out
      · by_cases ha : a < 0
        · go_wp2
          go_ret2
          exact Ends4.same HD.out rfl H1.out Hx.out HB2.out
        · go_wp2
          go_ret2
          exact Ends4.same HD.out rfl H1.out Hx.out HB2.out
    · rw [if_neg hac] at HD
      obtain ⟨an, rfl⟩ := Int.eq_ofNat_of_zero_le (show 0 ≤ a by omega)
      obtain ⟨cn, rfl⟩ := Int.eq_ofNat_of_zero_le (show 0 ≤ c by omega)
      have g1 : ¬ (an : Int) < 0 := by omega
      have g2 : ¬ (cn : Int) < 0 := by omega
      clear hac
      cases hfo2 : fo with
      | none => have := Hm.out; rw [hfo2] at this; simp [mFile] at this
      | some i =>
        rw [hfo2] at HD Hm Hoi
        obtain ⟨f, hfi⟩ := getElem?_of_lt (show i < st.fids.length from Hoi.out i rfl)
        obtain ⟨s, hs, hsn, _, hno⟩ := ok.last (List.mem_of_getElem? hfi)
        obtain ⟨x, hx⟩ := getElem?_of_lt hsn
        have hxs := hdat x (List.mem_of_getElem? hx)
        have HD2 := hide (show mRead st n (an : Int) (cn : Int) = (tick st, textAt x.data an cn, 0) by rw [HD.out]; simp [hfi, dataOf, hno, hx])
        have HB2' := HB2
        have hR2 := H1.out.below HB2.out
        have Hnode := hide (node_any (st := tick st) i f s hfi hs hsn hR2)
        obtain ⟨nv, lv, fv, hR⟩ := hR2
        obtain ⟨g, cap, rfl, _, _, _, hcell, _⟩ := hR.nodesAt ok.pos
        have hc0 : w2.cell? ⟨r, 0, none⟩ = some (.slice (some ⟨g, 0, none⟩) st.nodes.length cap) := hR.c0
        have x3 := (hcell s.n x hx).2.2.2.1
        clear hR hcell HD hfo2 hx hfi hs Hoi
        simp only [idxV]
        go_wp2_with fail
        refine Hnode.out.mono ?_
        rintro e w3 ⟨g', cap', hcc, rfl, hb3⟩
        have hgg : g' = g := by rw [hc0] at hcc; simp at hcc; exact hcc.1.symm
        subst hgg
        have y3 : w3.cell? ⟨g', s.n * 6 + 3, none⟩ = some (.string x.data) := (hb3.cell (World.block_lt_of_cell? w2 _ x3)).trans x3
        have HB3 : Hid (Below w1.heap.size w1 w3) := hide (HB2.out.trans (hb3.mono HB2.out.size))
        clear hb3 hcc x3 hc0
        generalize x.data = d at *
        go_wp2
        by_cases had : an < d.size
        · go_loop [12, 14] (fun o v => ∃ k : Nat, an ≤ k ∧ k ≤ d.size ∧ k - an ≤ cn ∧ v = .int .i64 k ∧ o = .string (d.extract an k)) (fun _ v => d.size - (intOf v).toNat)
          case atStart => exact ⟨an, Nat.le_refl _, by omega, by omega, rfl, by rw [ByteArray.extract_same]; rfl⟩
          case round =>
            obtain ⟨k, hk1, hk2, hk3, rfl, rfl⟩ := hrel
            have hes : (d.extract an k).size = k - an := by rw [ByteArray.size_extract]; omega
            have Hmore := hide (extract_more d an k hk1)
            by_cases h1 : k < d.size
            · by_cases h2 : k - an < cn
              · have h2' : ((d.extract an k).size : Int) < (cn : Int) := by rw [hes]; omega
                have sl := fun (W : World) => run_slice_string (P := Tryz.prog) W 9 d .i64 .i64 (k : Int) ((k : Int) + 1) Tryz.underlying9 (by omega) (by omega) (by omega)
                have hes' : (d.extract an k).size ≤ 300 := by omega
                clear hes
                go_wp2
                go_round
                case rel => exact ⟨k + 1, by omega, by omega, by omega, by go_num, rfl⟩
                case measure => simp [intOf]; omega
              · have h2' : ¬ ((d.extract an k).size : Int) < (cn : Int) := by rw [hes]; omega
                have h2'' : decide (((d.extract an k).size : Int) < (cn : Int)) = false := by simpa using h2'
                have Ht := hide (textAt_stop hk1 hk2 hk3 (.inr (by omega)) had)
                clear hes
                go_wp2
                go_ret2
                exact Ends4.same (by rw [HD2.out, Ht.out]) rfl H1.out Hx.out HB3.out
            · have Ht := hide (textAt_stop hk1 hk2 hk3 (.inl (by omega)) had)
              have h1' : decide ((k : Int) < (d.size : Int)) = false := by simp; omega
              clear hes
              go_wp2
              go_ret2
              exact Ends4.same (by rw [HD2.out, Ht.out]) rfl H1.out Hx.out HB3.out
        · have Ht := hide (show textAt d an cn = ⟨#[]⟩ by unfold textAt; rw [if_neg had])
          have h1' : decide ((an : Int) < (d.size : Int)) = false := by simp; omega
          go_loop [12, 14] (fun o v => v = .int .i64 an ∧ o = .string ⟨#[]⟩) (fun _ _ => 0)
          case atStart => exact ⟨rfl, rfl⟩
          case round =>
            obtain ⟨rfl, rfl⟩ := hrel
            go_wp2
            go_ret2
            exact Ends4.same (by rw [HD2.out, Ht.out]) rfl H1.out Hx.out HB3.out
  · rw [if_neg hm] at HD
    have hne : (mFile st fo != 0) = true := by simpa using hm
    clear hm
    generalize mFile st fo = al at *
    go_wp2
    go_ret2
    exact Ends4.same HD.out rfl H1.out Hx.out HB2.out
end Go.Proofs.YtdmdgnghaceibaaGreat
/- The document's own answer, more: Write. -/
namespace Go.Proofs.YtdmdgnghaceibaaGreat.M

def zeros (k : Nat) : ByteArray := ⟨Array.replicate k 0⟩
def padded (d : ByteArray) (a : Nat) : ByteArray := d ++ zeros (a - d.size)
/-- What a file holds behind a Write. -/
def over (d : ByteArray) (a : Nat) (t : ByteArray) : ByteArray :=
  (padded d a).extract 0 a ++ t ++ (if a + t.size < (padded d a).size then (padded d a).extract (a + t.size) (padded d a).size else ⟨#[]⟩)

def wroteNd (x : Nd) (a : Nat) (t : ByteArray) : Nd :=
  if t.size = 0 then { x with version := Go.RowKit.wrap64 (x.version + 1) } else { x with version := Go.RowKit.wrap64 (x.version + 1), data := over x.data a t }

def setNode (st : St) (i : Nat) (x : Nd) : St := { st with nodes := st.nodes.set i x }

def mWrite (st : St) (n a : Int) (t : ByteArray) : St × Int × Int :=
  if mFile st (find st n) = 0 then
    (if a < 0 then (tick st, 0, 1) else if 300 < a ∨ 300 < a + t.size then (tick st, 0, 12) else match find st n with
      | none => (tick st, 0, 2)
      | some i => match st.fids[i]? with
        | none => (tick st, 0, 2)
        | some f => match st.nodes[nodeOf f]? with
          | none => (tick st, 0, 2)
          | some x => (setNode (tick st) (nodeOf f) (wroteNd x a.toNat t), (t.size : Int), 0))
  else (tick st, 0, mFile st (find st n))

theorem size_zeros (k : Nat) : (zeros k).size = k := by simp [zeros, ByteArray.size]
theorem zeros_more (d : ByteArray) (k : Nat) : d ++ zeros k ++ ⟨#[0]⟩ = d ++ zeros (k + 1) := by
  apply ByteArray.ext
  simp [zeros, ByteArray.data_append, Array.replicate_succ]
theorem zeros_none (d : ByteArray) : d ++ zeros 0 = d := by
  apply ByteArray.ext
  simp [zeros, ByteArray.data_append]
theorem size_padded (d : ByteArray) (a : Nat) : (padded d a).size = max d.size a := by
  unfold padded
  rw [ByteArray.size_append, size_zeros]
  omega
end Go.Proofs.YtdmdgnghaceibaaGreat.M
/- The program's place.file, opened, openedFile. -/
namespace Go.Proofs.YtdmdgnghaceibaaGreat.P
open M Go.ChangeShapes Go.WideShapes Go.ChangeAt Go.RowKit
set_option linter.unusedVariables false

def fileE (st : St) (i : Nat) : Int := if isGone st i then 4 else if isDir st i then 5 else 0
def fileV (st : St) (L : Lay) (i : Nat) : Value := if fileE st i = 0 then .pointer (some ⟨L.nb i, 0, none⟩) else .pointer none

set_option maxRecDepth 20000 in
set_option maxHeartbeats 1000000 in
theorem file_any {w : World} {F : Nat → Prop} {t : Nat} {st : St} {L : Lay} {bv : Nat → Value} (p i : Nat) (h : TreeIs w F t st L bv) (hi : i < st.nodes.length) (c0 : w.cell? ⟨p, 0, none⟩ = some (nodeV L i)) :
    Calls Tryz.prog 92 #[.pointer (some ⟨p, 0, none⟩)] w fun e w' => e = .returned (.tuple #[fileV st L i, .int .i64 (fileE st i)]) ∧ w' = w := by
  have hnot : ∀ (x : Bool) (w : World), (Op.unary .not (.bool x)).run Tryz.prog w = .ok (.bool (!x)) w := fun _ _ => rfl
  have hg := h.gone hi
  have hd := h.isDir hi
  have m1 := m_isGoneD
  have m2 := m_isGoneF
  have a1 := asFile
  have a2 := notFile
  clear h
  cases hgv : isGone st i with
  | true =>
    have H := hide (show fileE st i = 4 by simp [fileE, hgv])
    rw [hgv] at hg
    rcases nodeV_cases L i with e | e
    all_goals
      rw [e] at c0
      clear hd hgv e
      go_enter Tryz.func92, Tryz.ntmps92
      go_wp2_with (go_at_call 94; refine (isGone_any _ _ _ hg).mono ?_; rintro e w' ⟨rfl, hw⟩; obtain rfl := hw.symm)
      go_ret2
      exact ⟨by rw [fileV, H.out]; rfl, rfl⟩
  | false =>
    rw [hgv] at hg
    cases hdv : isDir st i with
    | true =>
      have H := hide (show fileE st i = 5 by simp [fileE, hgv, hdv])
      have e : nodeV L i = .iface 87 (.pointer (some ⟨L.nb i, 0, none⟩)) := by rw [nodeV, hd, hdv]; rfl
      rw [e] at c0
      clear hd hgv hdv e
      go_enter Tryz.func92, Tryz.ntmps92
      go_wp2_with (go_at_call 94; refine (isGone_any _ _ _ hg).mono ?_; rintro e w' ⟨rfl, hw⟩; obtain rfl := hw.symm)
      go_ret2
      exact ⟨by rw [fileV, H.out]; rfl, rfl⟩
    | false =>
      have H := hide (show fileE st i = 0 by simp [fileE, hgv, hdv])
      have e : nodeV L i = .iface 122 (.pointer (some ⟨L.nb i, 0, none⟩)) := by rw [nodeV, hd, hdv]; rfl
      rw [e] at c0
      clear hd hgv hdv e
      go_enter Tryz.func92, Tryz.ntmps92
      go_wp2_with (go_at_call 94; refine (isGone_any _ _ _ hg).mono ?_; rintro e w' ⟨rfl, hw⟩; obtain rfl := hw.symm)
      go_ret2
      exact ⟨by rw [fileV, H.out]; rfl, rfl⟩

set_option maxRecDepth 20000 in
theorem opened_none {w : World} {s : Nat} {n : Int} (hno : (fidOk n = false) ∨ ∃ k : Nat, n = k ∧ k < 51 ∧ w.cell? ⟨s, 7 + k * 2, none⟩ = some (.pointer none) ∧ w.cell? ⟨s, 7 + k * 2 + 1, none⟩ = some (.bool false)) :
    Calls Tryz.prog 53 #[.pointer (some ⟨s, 0, none⟩), .int .i64 n] w fun e w' => e = .returned (.tuple #[.pointer none, .int .i64 2]) ∧ w' = w := by
  go_enter Tryz.func53, Tryz.ntmps53
  go_wp2_with (go_at_call 45; refine (standing_no hno).mono ?_; rintro e w' ⟨rfl, hw⟩; obtain rfl := hw.symm)
  go_ret2
  exact ⟨rfl, rfl⟩

set_option maxRecDepth 20000 in
theorem opened_shut {w : World} {s k p : Nat} (hk : k < 51) (c7 : w.cell? ⟨s, 7 + k * 2, none⟩ = some (.pointer (some ⟨p, 0, none⟩))) (c8 : w.cell? ⟨s, 7 + k * 2 + 1, none⟩ = some (.bool false)) :
    Calls Tryz.prog 53 #[.pointer (some ⟨s, 0, none⟩), .int .i64 k] w fun e w' => e = .returned (.tuple #[.pointer none, .int .i64 3]) ∧ w' = w := by
  have hnot : ∀ (x : Bool) (w : World), (Op.unary .not (.bool x)).run Tryz.prog w = .ok (.bool (!x)) w := fun _ _ => rfl
  go_enter Tryz.func53, Tryz.ntmps53
  go_wp2_with (go_at_call 45; refine (standing_some s k p hk _ c7).mono ?_; rintro e w' ⟨rfl, hw⟩; obtain rfl := hw.symm)
  go_ret2
  exact ⟨rfl, rfl⟩

set_option maxRecDepth 20000 in
theorem opened_open {w : World} {s k p : Nat} (hk : k < 51) (c7 : w.cell? ⟨s, 7 + k * 2, none⟩ = some (.pointer (some ⟨p, 0, none⟩))) (c8 : w.cell? ⟨s, 7 + k * 2 + 1, none⟩ = some (.bool true)) :
    Calls Tryz.prog 53 #[.pointer (some ⟨s, 0, none⟩), .int .i64 k] w fun e w' => e = .returned (.tuple #[.pointer (some ⟨p, 0, none⟩), .int .i64 0]) ∧ w' = w := by
  have hnot : ∀ (x : Bool) (w : World), (Op.unary .not (.bool x)).run Tryz.prog w = .ok (.bool (!x)) w := fun _ _ => rfl
  go_enter Tryz.func53, Tryz.ntmps53
  go_wp2_with (go_at_call 45; refine (standing_some s k p hk _ c7).mono ?_; rintro e w' ⟨rfl, hw⟩; obtain rfl := hw.symm)
  go_ret2
  exact ⟨rfl, rfl⟩

/-- Which file an open fid stands at. -/
def openFileV (st : St) (L : Lay) (n : Int) : Value :=
  match find st n with
  | none => .pointer none
  | some i => match st.fids[i]? with
    | none => .pointer none
    | some f => if mFile st (some i) = 0 then .pointer (some ⟨L.nb (nodeOf f), 0, none⟩) else .pointer none

set_option maxRecDepth 20000 in
set_option maxHeartbeats 1000000 in
theorem openedFile_any {w : World} {F : Nat → Prop} {s t : Nat} {st : St} {lk : Int} {L : Lay} {bv : Nat → Value} (n : Int) (hS : SrvHas w F s st lk t L bv) (ok : POk st) :
    Calls Tryz.prog 50 #[.pointer (some ⟨s, 0, none⟩), .int .i64 n] w fun e w' => e = .returned (.tuple #[openFileV st L n, .int .i64 (mFile st (find st n))]) ∧ w' = w := by
  rcases fid_cases hS ok.fids n with ⟨hf, hno⟩ | ⟨k, i, f, p, rfl, hk, hf, hi, hn, ha, c7, c8, hp⟩
  · have H1 := hide (show openFileV st L n = .pointer none by unfold openFileV; rw [hf])
    have H2 := hide (show mFile st (find st n) = 2 by rw [hf]; rfl)
    clear hf
    go_enter Tryz.func50, Tryz.ntmps50
    go_wp2_with (go_at_call 53; refine (opened_none hno).mono ?_; rintro e w' ⟨rfl, hw⟩; obtain rfl := hw.symm)
    go_ret2
    exact ⟨by rw [H1.out, H2.out]; rfl, rfl⟩
  · obtain ⟨sp, hsp, d0, _, _⟩ := place_last hp
    have hno : nodeOf f = sp.n := by simp [nodeOf, hsp]
    have hin := ((ok.way f (List.mem_of_getElem? hi)).2 sp (List.mem_of_getLast? hsp)).1
    have e2 : mFile st (find st k) = if f.op then fileE st sp.n else 3 := by
      rw [hf]
      unfold mFile fileE
      simp only
      rw [hi]
      simp only
      rw [hno]
    have e1 : openFileV st L k = if f.op then fileV st L sp.n else .pointer none := by
      rw [hf] at e2
      unfold openFileV fileV
      rw [hf]
      simp only
      rw [hi]
      simp only
      rw [e2, hno]
      cases f.op <;> simp
    have HT := hide hS.tree
    clear hf hi hn ha hp hS
    cases hop : f.op with
    | false =>
      rw [hop] at c8 e1 e2
      have H1 := hide e1
      have H2 := hide e2
      clear e1 e2
      go_enter Tryz.func50, Tryz.ntmps50
      go_wp2_with (go_at_call 53; refine (opened_shut hk c7 c8).mono ?_; rintro e w' ⟨rfl, hw⟩; obtain rfl := hw.symm)
      go_ret2
      exact ⟨by rw [H1.out, H2.out]; rfl, rfl⟩
    | true =>
      rw [hop] at c8 e1 e2
      have H1 := hide e1
      have H2 := hide e2
      clear e1 e2
      go_enter Tryz.func50, Tryz.ntmps50
      go_wp2_with (first | (go_at_call 53; refine (opened_open hk c7 c8).mono ?_; rintro e w' ⟨rfl, hw⟩; obtain rfl := hw.symm) | (go_at_call 92; refine (file_any p sp.n HT.out hin d0).mono ?_; rintro e w' ⟨rfl, hw⟩; obtain rfl := hw.symm))
      go_ret2
      exact ⟨by rw [H1.out, H2.out]; rfl, rfl⟩
end Go.Proofs.YtdmdgnghaceibaaGreat.P
/- The program's file.read. -/
namespace Go.Proofs.YtdmdgnghaceibaaGreat.P
open M Go.ChangeShapes Go.WideShapes Go.ChangeAt Go.RowKit
set_option linter.unusedVariables false

theorem infoByte : (Tryz.prog.info? 5).map (fun i => (i.zero, i.size, i.bytes)) = some (some (.int .u8 0), 1, 1) := by kernel_rfl

/-- 'make([]byte, m)'. -/
theorem make_bytes (m : Nat) (hm : m ≤ 1000000) : ∃ M : Array Value, M.size = m ∧ ∀ W : World, (Instr.makeSlice 31 (.int .i64 (m : Int)) (.int .i64 (m : Int))).run Tryz.prog W = .ok (.slice (some ⟨W.heap.size, 0, none⟩) m m) (W.alloc (.cells M 5)) := by
  obtain ⟨i0, hi, hz0, hz1, hz2⟩ := info_parts infoByte
  refine ⟨madeCells (Value.int .u8 0).cells (((m : Nat) : Int).toNat * i0.size), by rw [size_madeCells, hz1]; simp, fun W => ?_⟩
  have h := run_make (P := Tryz.prog) W 31 5 i0 (.int .u8 0) Tryz.underlying31 hi hz0 .i64 .i64 (m : Int) (m : Int) (by omega) (by omega) (by rw [hz2]; omega) (by omega)
  simpa using h

theorem sizeByte : (Tryz.prog.info? 5).map (·.size) = some 1 := by
  obtain ⟨i0, hi, _, hz1, _⟩ := info_parts infoByte
  rw [hi]
  simp [hz1]

set_option maxRecDepth 20000 in
set_option maxHeartbeats 1000000 in
/-- There are bytes from there on; m of them are asked and are there. -/
theorem read_mid {w : World} {b g len cap : Nat} (a n m : Nat) (cs : List Value) (hlt : a < len) (hlen : len ≤ cap) (hcap : cap ≤ 9223372036854775807) (hlm : len ≤ 1000000) (hm : (m = n ∧ n ≤ len - a) ∨ (m = len - a ∧ len - a < n)) (b3 : w.cell? ⟨b, 3, none⟩ = some (.slice (some ⟨g, 0, none⟩) len cap))
    (hcs : cs.length = m) (hcell : ∀ j v, cs[j]? = some v → w.cell? ⟨g, a + j, none⟩ = some v) (hone : ∀ v ∈ cs, v.oneCell' = true) :
    Calls Tryz.prog 51 #[.pointer (some ⟨b, 0, none⟩), .int .i64 a, .int .i64 n] w fun e w' => e = .returned (.slice (some ⟨w.heap.size, 0, none⟩) m m) ∧ w'.heap[w.heap.size]? = some (.cells cs.toArray 5 (0, 0)) ∧ w'.heap.size = w.heap.size + 1 ∧ Below w.heap.size w w' := by
  have hml : m ≤ len - a := by omega
  obtain ⟨M, hMs, hmk⟩ := make_bytes m (by omega)
  have hg : g < w.heap.size ∨ m = 0 := by
    cases hc : cs with
    | nil => right; rw [← hcs, hc]; rfl
    | cons v l => left; exact World.block_lt_of_cell? w _ (hcell 0 v (by rw [hc]; rfl))
  have hcp := run_copy_row (P := Tryz.prog) (w.alloc (.cells M 5)).drew 31 31 3 5 w.heap.size 0 m m ⟨g, a, none⟩ (len - a) (cap - a) M 5 cs Tryz.underlying31 sizeByte (heap_alloc_new w _) (by rw [hcs]; show m = min (len - a) m; omega)
    (fun j v hj => by rw [Addr.add_lit]; exact up (hcell j v hj) _) (by omega) hone
  have hY : (M.toList.take 0 ++ cs ++ M.toList.drop (0 + cs.length)).toArray = cs.toArray := by
    rw [List.take_zero, List.nil_append, Nat.zero_add, List.drop_of_length_le (by rw [Array.length_toList]; omega), List.append_nil]
  rw [hY, hcs] at hcp
  have e1 : ¬ len < a := by omega
  have e2 : ¬ cap = a := by omega
  have Hcs := hide hcs
  have HM := hide hMs
  clear hcell hone hY hMs hcs
  rcases hm with ⟨rfl, hn⟩ | ⟨rfl, hn⟩
  · have e3 : ¬ len - a < m := by omega
    have z1 : min (a : Int) (len : Int) = (a : Int) := by omega
    have z2 : min (m : Int) ((len - a : Nat) : Int) = (m : Int) := by omega
    go_enter Tryz.func51, Tryz.ntmps51
    go_wp2
    go_region
    go_wp2
    go_ret
    have hgY : ((w.alloc (.cells M 5)).drew.setRow w.heap.size cs.toArray).heap[w.heap.size]? = some (.cells cs.toArray 5 (0, 0)) := setRow_heap _ _ M _ 5 (0, 0) (heap_alloc_new w _)
    have hb1 : Below w.heap.size w (w.alloc (.cells M 5)).drew := ((Below.refl _ w).alloc (Nat.le_refl _) _).drew
    have hb2 : Below w.heap.size (w.alloc (.cells M 5)).drew ((w.alloc (.cells M 5)).drew.setRow w.heap.size cs.toArray) := ⟨rfl, rfl, rfl, by simp, fun k hk => setRow_other _ _ _ _ (by omega)⟩
    exact ⟨rfl, hgY, by simp, hb1.trans hb2⟩
  · have e3 : len - a < n := by omega
    have z1 : min (a : Int) (len : Int) = (a : Int) := by omega
    have z2 : min (n : Int) ((len - a : Nat) : Int) = ((len - a : Nat) : Int) := by omega
    go_enter Tryz.func51, Tryz.ntmps51
    go_wp2
    go_region
    go_wp2
    go_ret
    have hgY : ((w.alloc (.cells M 5)).drew.setRow w.heap.size cs.toArray).heap[w.heap.size]? = some (.cells cs.toArray 5 (0, 0)) := setRow_heap _ _ M _ 5 (0, 0) (heap_alloc_new w _)
    have hb1 : Below w.heap.size w (w.alloc (.cells M 5)).drew := ((Below.refl _ w).alloc (Nat.le_refl _) _).drew
    have hb2 : Below w.heap.size (w.alloc (.cells M 5)).drew ((w.alloc (.cells M 5)).drew.setRow w.heap.size cs.toArray) := ⟨rfl, rfl, rfl, by simp, fun k hk => setRow_other _ _ _ _ (by omega)⟩
    exact ⟨rfl, hgY, by simp, hb1.trans hb2⟩

theorem made_none {M : Array Value} (h : M.size = 0) : M = #[] := Array.eq_empty_of_size_eq_zero h

set_option maxRecDepth 20000 in
set_option maxHeartbeats 1000000 in
/-- There are no bytes from there on. -/
theorem read_end {w : World} {b g len cap : Nat} (a n : Nat) (hle : len ≤ a) (hlen : len ≤ cap) (hcap : cap ≤ 9223372036854775807) (b3 : w.cell? ⟨b, 3, none⟩ = some (.slice (some ⟨g, 0, none⟩) len cap)) :
    Calls Tryz.prog 51 #[.pointer (some ⟨b, 0, none⟩), .int .i64 a, .int .i64 n] w fun e w' => e = .returned (.slice (some ⟨w.heap.size, 0, none⟩) 0 0) ∧ w'.heap[w.heap.size]? = some (.cells #[] 5 (0, 0)) ∧ w'.heap.size = w.heap.size + 1 ∧ Below w.heap.size w w' := by
  obtain ⟨M, hMs, hmk⟩ := make_bytes 0 (by omega)
  obtain rfl := made_none hMs
  have hcp := fun (x : Option Addr) (sc : Nat) => run_copy_none (P := Tryz.prog) (w.alloc (.cells #[] 5)).drew 31 31 3 5 (some ⟨w.heap.size, 0, none⟩) x 0 0 0 sc Tryz.underlying31 sizeByte rfl
  have hmk0 : ∀ W : World, (Instr.makeSlice 31 (.int .i64 0) (.int .i64 0)).run Tryz.prog W = .ok (.slice (some ⟨W.heap.size, 0, none⟩) 0 0) (W.alloc (.cells #[] 5)) := hmk
  clear hMs hmk
  have z1 : min (a : Int) (len : Int) = (len : Int) := by omega
  have z2 : min (n : Int) 0 = 0 := by omega
  by_cases hlt : len < a
  · skip
    by_cases hn : 0 < n
    · skip
      by_cases hc : cap = len
      · subst hc
        go_enter Tryz.func51, Tryz.ntmps51
        go_wp2
        go_region
        go_wp2
        go_ret
        exact ⟨rfl, heap_alloc_new w _, by simp, ((Below.refl _ w).alloc (Nat.le_refl _) _).drew⟩
      · skip
        go_enter Tryz.func51, Tryz.ntmps51
        go_wp2
        go_region
        go_wp2
        go_ret
        exact ⟨rfl, heap_alloc_new w _, by simp, ((Below.refl _ w).alloc (Nat.le_refl _) _).drew⟩
    · obtain rfl : n = 0 := by omega
      by_cases hc : cap = len
      · subst hc
        go_enter Tryz.func51, Tryz.ntmps51
        go_wp2
        go_region
        go_wp2
        go_ret
        exact ⟨rfl, heap_alloc_new w _, by simp, ((Below.refl _ w).alloc (Nat.le_refl _) _).drew⟩
      · skip
        go_enter Tryz.func51, Tryz.ntmps51
        go_wp2
        go_region
        go_wp2
        go_ret
        exact ⟨rfl, heap_alloc_new w _, by simp, ((Below.refl _ w).alloc (Nat.le_refl _) _).drew⟩
  · obtain rfl : len = a := by omega
    by_cases hn : 0 < n
    · skip
      by_cases hc : cap = len
      · subst hc
        go_enter Tryz.func51, Tryz.ntmps51
        go_wp2
        go_region
        go_wp2
        go_ret
        exact ⟨rfl, heap_alloc_new w _, by simp, ((Below.refl _ w).alloc (Nat.le_refl _) _).drew⟩
      · skip
        go_enter Tryz.func51, Tryz.ntmps51
        go_wp2
        go_region
        go_wp2
        go_ret
        exact ⟨rfl, heap_alloc_new w _, by simp, ((Below.refl _ w).alloc (Nat.le_refl _) _).drew⟩
    · obtain rfl : n = 0 := by omega
      by_cases hc : cap = len
      · subst hc
        go_enter Tryz.func51, Tryz.ntmps51
        go_wp2
        go_region
        go_wp2
        go_ret
        exact ⟨rfl, heap_alloc_new w _, by simp, ((Below.refl _ w).alloc (Nat.le_refl _) _).drew⟩
      · skip
        go_enter Tryz.func51, Tryz.ntmps51
        go_wp2
        go_region
        go_wp2
        go_ret
        exact ⟨rfl, heap_alloc_new w _, by simp, ((Below.refl _ w).alloc (Nat.le_refl _) _).drew⟩

set_option maxRecDepth 20000 in
set_option maxHeartbeats 1000000 in
theorem read_nil {w : World} {b : Nat} (a n : Nat) (b3 : w.cell? ⟨b, 3, none⟩ = some (.slice none 0 0)) :
    Calls Tryz.prog 51 #[.pointer (some ⟨b, 0, none⟩), .int .i64 a, .int .i64 n] w fun e w' => e = .returned (.slice (some ⟨w.heap.size, 0, none⟩) 0 0) ∧ w'.heap[w.heap.size]? = some (.cells #[] 5 (0, 0)) ∧ w'.heap.size = w.heap.size + 1 ∧ Below w.heap.size w w' := by
  obtain ⟨M, hMs, hmk⟩ := make_bytes 0 (by omega)
  obtain rfl := made_none hMs
  have hcp := fun (x : Option Addr) (sc : Nat) => run_copy_none (P := Tryz.prog) (w.alloc (.cells #[] 5)).drew 31 31 3 5 (some ⟨w.heap.size, 0, none⟩) x 0 0 0 sc Tryz.underlying31 sizeByte rfl
  have hmk0 : ∀ W : World, (Instr.makeSlice 31 (.int .i64 0) (.int .i64 0)).run Tryz.prog W = .ok (.slice (some ⟨W.heap.size, 0, none⟩) 0 0) (W.alloc (.cells #[] 5)) := hmk
  clear hMs hmk
  have z1 : min (a : Int) 0 = 0 := by omega
  have z2 : min (n : Int) 0 = 0 := by omega
  by_cases ha : 0 < a
  · by_cases hn : 0 < n
    · skip
      go_enter Tryz.func51, Tryz.ntmps51
      go_wp2
      go_region
      go_wp2
      go_ret
      exact ⟨rfl, heap_alloc_new w _, by simp, ((Below.refl _ w).alloc (Nat.le_refl _) _).drew⟩
    · obtain rfl : n = 0 := by omega
      go_enter Tryz.func51, Tryz.ntmps51
      go_wp2
      go_region
      go_wp2
      go_ret
      exact ⟨rfl, heap_alloc_new w _, by simp, ((Below.refl _ w).alloc (Nat.le_refl _) _).drew⟩
  · obtain rfl : a = 0 := by omega
    by_cases hn : 0 < n
    · skip
      go_enter Tryz.func51, Tryz.ntmps51
      go_wp2
      go_region
      go_wp2
      go_ret
      exact ⟨rfl, heap_alloc_new w _, by simp, ((Below.refl _ w).alloc (Nat.le_refl _) _).drew⟩
    · obtain rfl : n = 0 := by omega
      go_enter Tryz.func51, Tryz.ntmps51
      go_wp2
      go_region
      go_wp2
      go_ret
      exact ⟨rfl, heap_alloc_new w _, by simp, ((Below.refl _ w).alloc (Nat.le_refl _) _).drew⟩
end Go.Proofs.YtdmdgnghaceibaaGreat.P
/- The program's Read. -/
namespace Go.Proofs.YtdmdgnghaceibaaGreat.P
open M Go.ChangeShapes Go.WideShapes Go.ChangeAt Go.RowKit
set_option linter.unusedVariables false

/-- A slice that reads as bytes. -/
def BytesAt (w : World) (v : Value) (t : ByteArray) : Prop := Own w (fun _ => True) 5 1 v (byteCells t)

/-- How Read ends: what comes out lies in a block of its own. -/
def PEnds4 (w : World) (F : Nat → Prop) (s : Nat) (p : St × ByteArray × Int) (e : Ending) (w' : World) : Prop :=
  ∃ (v : Value) (F' : Nat → Prop), e = .returned (.tuple #[v, .int .i64 p.2.2]) ∧ BytesAt w' v p.2.1 ∧ (∀ k, v.ownBlock = some k → w.heap.size ≤ k ∧ k < w'.heap.size ∧ ¬ F' k) ∧ SrvIs w' F' s p.1 ∧ (∀ k, F' k → ext F w w' k) ∧ Ext F w w'

theorem bytes_none (w : World) : BytesAt w (.slice none 0 0) ⟨#[]⟩ := Own.nil _ _ _ _

theorem PEnds4.err {w w1 : World} {F : Nat → Prop} {s : Nat} {p : St × ByteArray × Int} {c : Int} {st' : St} (hp : p = (st', ⟨#[]⟩, c)) (h : Held w1 (ext F w w1) s st') (hx : Ext F w w1) : PEnds4 w F s p (.returned (.tuple #[.slice none 0 0, .int .i64 c])) (left w1 s) := by
  subst hp
  obtain ⟨h1, h2⟩ := left_close (w1 := w) h hx
  exact ⟨_, _, rfl, bytes_none _, fun k hk => by simp [Value.ownBlock] at hk, h1, fun k hk => hk, h2⟩

/-- The bytes of a file from a place on, so many of them. -/
theorem text_cells (d : ByteArray) (a m : Nat) (hm : a + m ≤ d.size) : byteCells (d.extract a (a + m)) = ((d.data.toList.drop a).take m).map (fun c => [.int .u8 c.toNat]) := by
  unfold byteCells
  congr 1
  rw [ByteArray.data_extract, Array.toList_extract]
  simp [List.extract_eq_take_drop]

theorem out_bytes {w' : World} {b : Nat} {cs : List Value} {t : ByteArray} (hb : w'.heap[b]? = some (.cells cs.toArray 5 (0, 0))) (hcs : cs = (byteCells t).flatten) (hl : cs.length ≤ maxLen) : BytesAt w' (.slice (some ⟨b, 0, none⟩) (byteCells t).length (byteCells t).length) t := by
  have h1 : ∀ r ∈ byteCells t, r.length = 1 := fun r hr => by
    unfold byteCells at hr
    obtain ⟨c, _, rfl⟩ := List.mem_map.1 hr
    rfl
  have hlen : (byteCells t).flatten.length = (byteCells t).length := by rw [flat_length 1 _ h1]; omega
  refine ⟨⟨by rw [hlen]; omega, .inr ⟨b, (byteCells t).length, cs.toArray, rfl, Nat.zero_le _, hb, Nat.le_refl _, by rw [← hlen, ← hcs]; exact hl, ?_, ?_⟩⟩, h1, fun k _ => trivial⟩
  · rw [List.size_toArray, hcs, hlen]; omega
  · rw [hcs, List.take_of_length_le (by simp only; omega)]

/-- What 'read' lays: the bytes that are asked. -/
theorem read_any {w : World} {F : Nat → Prop} {L : Lay} {bvv : Value} {i : Nat} {x : Nd} (FI : FileIs w F L bvv i x) (a n : Nat) (hsz : x.data.size ≤ 1000000) :
    Calls Tryz.prog 51 #[.pointer (some ⟨L.nb i, 0, none⟩), .int .i64 a, .int .i64 n] w fun e w' => ∃ m, e = .returned (.slice (some ⟨w.heap.size, 0, none⟩) m m) ∧ BytesAt w' (.slice (some ⟨w.heap.size, 0, none⟩) m m) (textAt x.data a n) ∧ w'.heap.size = w.heap.size + 1 ∧ Below w.heap.size w w' := by
  have hbl : (byteCells x.data).length = x.data.size := by unfold byteCells; rw [List.length_map, Array.length_toList]; rfl
  have empty : ∀ w' : World, w'.heap[w.heap.size]? = some (.cells #[] 5 (0, 0)) → BytesAt w' (.slice (some ⟨w.heap.size, 0, none⟩) 0 0) ⟨#[]⟩ := fun w' hb => out_bytes (cs := []) (t := ⟨#[]⟩) hb rfl (by simp [maxLen])
  rcases FI.data.opened with ⟨hv, hrows⟩ | ⟨g, cap, hv, hlc, hmax, hF, hb, hcell, hfz⟩
  · have hd0 : x.data.size = 0 := by rw [← hbl, hrows]; rfl
    have b3 := FI.c3
    rw [hv] at b3
    refine (read_nil a n b3).mono ?_
    rintro e w' ⟨rfl, hb', hz, hB⟩
    refine ⟨0, rfl, ?_, hz, hB⟩
    unfold textAt
    rw [if_neg (by omega)]
    exact empty w' hb'
  · rw [hbl] at hv hlc
    have hc9 : cap ≤ 9223372036854775807 := by unfold maxLen at hmax; omega
    have b3 := FI.c3
    rw [hv] at b3
    by_cases hlt : a < x.data.size
    · obtain ⟨m, hm, hmm⟩ : ∃ m, ((m = n ∧ n ≤ x.data.size - a) ∨ (m = x.data.size - a ∧ x.data.size - a < n)) ∧ min (a + n) x.data.size = a + m := by
        by_cases h : n ≤ x.data.size - a
        · exact ⟨n, .inl ⟨rfl, h⟩, by omega⟩
        · exact ⟨x.data.size - a, .inr ⟨rfl, by omega⟩, by omega⟩
      have hms : a + m ≤ x.data.size := by omega
      have htext : textAt x.data a n = x.data.extract a (a + m) := by
        unfold textAt
        rw [if_pos hlt, hmm]
      have hcells := text_cells x.data a m hms
      obtain ⟨cs, hcs⟩ : ∃ cs, cs = ((x.data.data.toList.drop a).take m).map (fun c => Value.int .u8 (c.toNat : Int)) := ⟨_, rfl⟩
      have hflat : (byteCells (x.data.extract a (a + m))).flatten = cs := by
        rw [hcells, hcs]
        generalize (x.data.data.toList.drop a).take m = l
        induction l with
        | nil => rfl
        | cons c l ih => simp only [List.map_cons, List.flatten_cons, ih]; rfl
      have hdl : x.data.data.toList.length = x.data.size := by rw [Array.length_toList]; rfl
      have hlen : cs.length = m := by rw [hcs, List.length_map, List.length_take, List.length_drop, hdl]; omega
      refine (read_mid a n m cs hlt hlc hc9 hsz hm b3 hlen (fun j v hj => ?_) (fun v hv => ?_)).mono ?_
      · have hj' : j < m := by have := M.lt_of_getElem? hj; omega
        rw [hcs, List.getElem?_map, List.getElem?_take, if_pos hj', List.getElem?_drop] at hj
        cases hq : x.data.data.toList[a + j]? with
        | none => rw [hq] at hj; simp at hj
        | some c =>
          rw [hq] at hj
          simp at hj
          subst hj
          have := hcell (a + j) [.int .u8 c.toNat] 0 _ (by unfold byteCells; rw [List.getElem?_map, hq]; rfl) rfl
          simpa using this
      · rw [hcs] at hv
        obtain ⟨c, _, rfl⟩ := List.mem_map.1 hv
        rfl
      · rintro e w' ⟨rfl, hb', hz, hB⟩
        have hbm : (byteCells (x.data.extract a (a + m))).length = m := by rw [hcells, List.length_map, List.length_take, List.length_drop, hdl]; omega
        have ho := out_bytes (t := x.data.extract a (a + m)) hb' hflat.symm (by unfold maxLen; omega)
        rw [hbm] at ho
        exact ⟨m, rfl, by rw [htext]; exact ho, hz, hB⟩
    · refine (read_end a n (by omega) hlc hc9 b3).mono ?_
      rintro e w' ⟨rfl, hb', hz, hB⟩
      refine ⟨0, rfl, ?_, hz, hB⟩
      unfold textAt
      rw [if_neg hlt]
      exact empty w' hb'

theorem mRead_bad {st : St} {n a c : Int} (h : mFile st (find st n) ≠ 0) : mRead st n a c = (tick st, ⟨#[]⟩, mFile st (find st n)) := by unfold mRead; rw [if_neg h]
theorem mRead_arg {st : St} {n a c : Int} (h : mFile st (find st n) = 0) (hac : a < 0 ∨ c < 0) : mRead st n a c = (tick st, ⟨#[]⟩, 1) := by unfold mRead; rw [if_pos h, if_pos hac]
theorem mFile_zero {st : St} {n : Int} (h : mFile st (find st n) = 0) : ∃ i f, find st n = some i ∧ st.fids[i]? = some f ∧ f.op = true ∧ isGone st (nodeOf f) = false ∧ isDir st (nodeOf f) = false := by
  cases hf : find st n with
  | none => rw [hf] at h; simp [mFile] at h
  | some i =>
    obtain ⟨f, hi, _, _⟩ := fidAt_find hf
    rw [hf] at h
    unfold mFile at h
    simp only [hi] at h
    cases ho : f.op with
    | false => simp [ho] at h
    | true =>
      cases hg : isGone st (nodeOf f) with
      | true => simp [ho, hg] at h
      | false =>
        cases hd : isDir st (nodeOf f) with
        | true => simp [ho, hg, hd] at h
        | false => exact ⟨i, f, rfl, hi, ho, hg, hd⟩

set_option maxRecDepth 20000 in
set_option maxHeartbeats 1000000 in
theorem sread_any {w : World} {F : Nat → Prop} {s : Nat} {st : St} (n a c : Int) (h : SrvIs w F s st) (ok : POk st) (hF : ∀ k, F k → k < w.heap.size) (hsz : ∀ x ∈ st.nodes, x.data.size ≤ 1000000) :
    Calls Tryz.prog 17 #[.pointer (some ⟨s, 0, none⟩), .int .i64 n, .int .i64 a, .int .i64 c] w fun e w' => PEnds4 w F s (mRead st n a c) e w' := by
  go_enter_defers Tryz.func17, Tryz.ntmps17
  go_wp2_with fail
  refine (enter_any h).mono ?_
  rintro e w1 ⟨rfl, hH, hx⟩
  clear h
  obtain ⟨t, L, bv, hS⟩ := hH
  have hx := hide hx
  have HO := hide (openedFile_any n hS ok.tick)
  have em : mFile (tick st) (find (tick st) n) = mFile st (find st n) := rfl
  rw [em] at HO
  by_cases he : mFile st (find st n) = 0
  · obtain ⟨i, f, hf, hi, hop, hg, hd⟩ := mFile_zero he
    have hm := List.mem_of_getElem? hi
    have hne := (ok.way f hm).1
    have hsp : f.way.getLast? = some (f.way.getLast hne) := List.getLast?_eq_some_getLast hne
    generalize f.way.getLast hne = sp at hsp
    have hno : nodeOf f = sp.n := by simp [nodeOf, hsp]
    have hin := ((ok.way f hm).2 sp (List.mem_of_getLast? hsp)).1
    obtain ⟨x, hxn⟩ := getElem?_of_lt hin
    have hxd : x.dir = false := by rw [hno] at hd; simpa [isDir, hxn] using hd
    have ev : openFileV (tick st) L n = .pointer (some ⟨L.nb sp.n, 0, none⟩) := by
      unfold openFileV
      rw [show find (tick st) n = some i from hf]
      simp only
      rw [show (tick st).fids[i]? = some f from hi]
      simp only
      rw [if_pos (by rw [hf] at he; exact he), hno]
    rw [he, ev] at HO
    by_cases hac : a < 0 ∨ c < 0
    · have H := hide (mRead_arg he hac)
      have hS := hide hS
      clear he hf hi hm hne hsp hxn ev em
      by_cases ha : a < 0
      · go_wp2_with (go_at_call 50; refine HO.out.mono ?_; rintro e w' ⟨rfl, hw⟩; obtain rfl := hw.symm)
        have hD : Held w1 (ext F w w1) s (tick st) := ⟨t, L, bv, hS.out⟩
        refine leaves_cons (f := 43) (args := #[.pointer (some ⟨s, 0, none⟩)]) (by simp) (by simp [go_sem]) ?_
        refine (leave_deferred .returning hD).mono ?_
        rintro e u' w'' ⟨rfl, rfl, rfl⟩
        refine ⟨_, results_tmp2 rfl _ _ _, ?_⟩
        exact PEnds4.err H.out hD hx.out
      · have hc : c < 0 := by omega
        go_wp2_with (go_at_call 50; refine HO.out.mono ?_; rintro e w' ⟨rfl, hw⟩; obtain rfl := hw.symm)
        have hD : Held w1 (ext F w w1) s (tick st) := ⟨t, L, bv, hS.out⟩
        refine leaves_cons (f := 43) (args := #[.pointer (some ⟨s, 0, none⟩)]) (by simp) (by simp [go_sem]) ?_
        refine (leave_deferred .returning hD).mono ?_
        rintro e u' w'' ⟨rfl, rfl, rfl⟩
        refine ⟨_, results_tmp2 rfl _ _ _, ?_⟩
        exact PEnds4.err H.out hD hx.out
    · have ha0 : 0 ≤ a := by omega
      have hc0 : 0 ≤ c := by omega
      obtain ⟨a', rfl⟩ := Int.eq_ofNat_of_zero_le ha0
      obtain ⟨c', rfl⟩ := Int.eq_ofNat_of_zero_le hc0
      have H := hide (show mRead st n (a' : Int) (c' : Int) = (tick st, textAt x.data a' c', 0) by
        unfold mRead
        rw [if_pos he, if_neg hac, hf]
        simp only
        rw [hi]
        simp only
        rw [show dataOf st f = x.data by simp [dataOf, hno, hxn], Int.toNat_natCast, Int.toNat_natCast])
      have HR := hide (read_any (hS.tree.file sp.n x hxn hxd) a' c' (hsz x (List.mem_of_getElem? hxn)))
      have hS := hide hS
      have na : ¬ (a' : Int) < 0 := by omega
      have ncc : ¬ (c' : Int) < 0 := by omega
      clear he hf hi hm hne hsp hxn ev em hac
      go_wp2_with (first | (go_at_call 50; refine HO.out.mono ?_; rintro e w' ⟨rfl, hw⟩; obtain rfl := hw.symm) | (go_at_call 51; refine HR.out.mono ?_; rintro e w2 ⟨m, rfl, ho, hz, hb⟩; have HOut := hide ho; have HZ := hide hz; have HB := hide hb; clear ho hz hb))
      have hS2 := hS.out.below HB.out
      have hx2 : Ext F w w2 := hx.out.trans' (Ext.below HB.out)
      have hD : Held w2 (ext F w w1) s (tick st) := ⟨t, L, bv, hS2⟩
      refine leaves_cons (f := 43) (args := #[.pointer (some ⟨s, 0, none⟩)]) (by simp) (by simp [go_sem]) ?_
      refine (leave_deferred .returning hD).mono ?_
      rintro e u' w'' ⟨rfl, rfl, rfl⟩
      refine ⟨_, results_tmp2 rfl _ _ _, ?_⟩
      unfold PEnds4
      rw [H.out]
      have hs1 : s < w1.heap.size := hS.out.blk.lt
      have hlz : (left w2 s).heap.size = w2.heap.size := by simp [left]
      refine ⟨_, ext F w w1, rfl, ?_, fun k hk => ?_, hD.left, fun k hk => ext_mono (by rw [hlz, HZ.out]; omega) k hk, ?_⟩
      · refine Own.keptBlock HOut.out (fun k hk => ?_)
        simp [Value.ownBlock] at hk
        exact Below.heap_setCell w2 ⟨s, 3, none⟩ _ k (by show k ≠ s; omega)
      · simp [Value.ownBlock] at hk
        subst hk
        have := hx.out.size
        refine ⟨this, by rw [hlz, HZ.out]; omega, fun hk => ?_⟩
        rcases hk with hk | hk
        · have := hF _ hk
          omega
        · omega
      · exact hx2.setCell (a := ⟨s, 3, none⟩) (by rcases hS.out.blk.own with h | h; exact .inl h; exact .inr h.1) _
  · have H := hide (mRead_bad (a := a) (c := c) he)
    have q1 : (mFile st (find st n) != 0) = true := by simpa using he
    have q2 : (mFile st (find st n) == 0) = false := by simpa using he
    have hS := hide hS
    clear he em
    go_wp2_with (go_at_call 50; refine HO.out.mono ?_; rintro e w' ⟨rfl, hw⟩; obtain rfl := hw.symm)
    have hD : Held w1 (ext F w w1) s (tick st) := ⟨t, L, bv, hS.out⟩
    refine leaves_cons (f := 43) (args := #[.pointer (some ⟨s, 0, none⟩)]) (by simp) (by simp [go_sem]) ?_
    refine (leave_deferred .returning hD).mono ?_
    rintro e u' w'' ⟨rfl, rfl, rfl⟩
    refine ⟨_, results_tmp2 rfl _ _ _, ?_⟩
    exact PEnds4.err H.out hD hx.out
end Go.Proofs.YtdmdgnghaceibaaGreat.P
