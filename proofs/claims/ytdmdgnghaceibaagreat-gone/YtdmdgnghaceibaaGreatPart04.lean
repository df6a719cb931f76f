/- The program's Create. -/
import Derived.Test.YtdmdgnghaceibaaGreatPart03
import Derived.Test.YtdmdgnghaceibaaGreatRows
import Derived.Test.YtdmdgnghaceibaaGreatPart01
import Derived.Outline
import Derived.RegionTactic
import Derived.BigRegion
import Derived.Deep.QuietTactic
import Derived.BigQuiet
import Derived.WalkSmall
import Derived.Deep.RegionWith
import Derived.Test.YtdmdgnghaceibaaGreatPart02
namespace Go.Proofs.YtdmdgnghaceibaaGreat.P
open M Go.ChangeShapes Go.WideShapes Go.ChangeAt Go.RowKit
set_option linter.unusedVariables false

theorem fidAt_mem {st : St} {n : Int} {f : Fid} (h : fidAt st n = some f) : f ∈ st.fids := List.mem_of_find?_eq_some h

theorem way_lt {st : St} (ok : POk st) {f : Fid} (hf : f ∈ st.fids) : WayLt st f.way := fun s hs => ⟨((ok.way f hf).2 s hs).1, fun m hm => (((ok.way f hf).2 s hs).2.1 m hm).1⟩

/-- The Server over a tree with a node more. -/
theorem SrvHas.regrow {w w2 : World} {F F' : Nat → Prop} {s t : Nat} {st : St} {lk : Int} {L : Lay} {bv bv' : Nat → Value} {x : Nd} {nb mb : Nat} {dir : Bool} (h : SrvHas w F s st lk t L bv) (ok : POk st) (hk : KeepX (fun e => e ≠ 89) False F w w2) (hF : ∀ k, F k → F' k)
    (hT : TreeIs w2 F' t (withNode st x) (L.put st.nodes.length nb mb dir) bv') : SrvHas w2 F' s (withNode st x) lk t (L.put st.nodes.length nb mb dir) bv' := by
  have c := h.blk.cell hk (by decide)
  refine ⟨(h.blk.kept hk (by decide)).mono hF, (c 0).trans h.k0, (c 1).trans h.k1, (c 3).trans h.k3, (c 5).trans h.k5, (c 6).trans h.k6, fun n hn => ?_, hT⟩
  have hs := (h.fids n hn).kept hk (by decide) (by decide) (c _) (c _)
  have hs := hs.mono hF
  have e : fidAt (withNode st x) n = fidAt st n := rfl
  rw [e]
  cases hf : fidAt st n with
  | none => rw [hf] at hs; exact hs
  | some f =>
    rw [hf] at hs
    obtain ⟨p, c7, c8, hp⟩ := hs
    refine ⟨p, c7, c8, PlaceIs.put hp (fun sp hsp => way_lt ok (fidAt_mem hf) sp (by simpa using hsp))⟩

theorem createE_tick (st : St) (sp : Spot) (name : ByteArray) : createE (tick st) sp name = createE st sp name := by
  have e1 : ∀ n, isGone (tick st) n = isGone st n := fun _ => rfl
  have e2 : ∀ n, isDir (tick st) n = isDir st n := fun _ => rfl
  have e3 : ∀ row, makerOf (tick st) row = makerOf st row := fun row => by
    induction row with
    | nil => rfl
    | cons m r ih => unfold makerOf; rw [e1, ih]
  have e4 : (tick st).nodes = st.nodes := rfl
  unfold createE
  simp only [e1, e2, e3, e4, seenIn_tick]

theorem makerOf_tick (st : St) (row : List Member) : makerOf (tick st) row = makerOf st row := by
  have e1 : ∀ n, isGone (tick st) n = isGone st n := fun _ => rfl
  induction row with
  | nil => rfl
  | cons m r ih => unfold makerOf; rw [e1, ih]

theorem mCreate_err {st : St} {n : Int} {i : Nat} {f : Fid} {sp : Spot} {name : ByteArray} {dir : Bool} (hf : find st n = some i) (hi : st.fids[i]? = some f) (hop : f.op = false) (hsp : f.way.getLast? = some sp) (he : createE st sp name ≠ 0) : mCreate st n name dir = (tick st, createE st sp name) := by
  unfold mCreate
  rw [hf]
  simp only
  rw [hi]
  simp only
  rw [if_neg (by simp [hop]), hsp]
  simp only
  cases hg : isGone st sp.n with
  | true => simp [createE, hg]
  | false =>
    cases hd : isDir st sp.n with
    | false => simp [createE, hg, hd]
    | true =>
      cases hn : isName name with
      | false => simp [createE, hg, hd, hn]
      | true =>
        cases hs : seenIn st name sp.row with
        | some j => simp [createE, hg, hd, hn, hs]
        | none =>
          cases hm : makerOf st sp.row with
          | none => simp [createE, hg, hd, hn, hs, hm]
          | some m =>
            by_cases h100 : 100 ≤ liveNodes st.nodes
            · simp [createE, hg, hd, hn, hs, hm, h100]
            · exact absurd (by simp [createE, hg, hd, hn, hs, hm, h100]) he

theorem mCreate_ok {st : St} {n : Int} {i : Nat} {f : Fid} {sp : Spot} {name : ByteArray} {dir : Bool} {m : Member} (hf : find st n = some i) (hi : st.fids[i]? = some f) (hop : f.op = false) (hsp : f.way.getLast? = some sp) (he : createE st sp name = 0) (hm : makerOf st sp.row = some m) : mCreate st n name dir = (mCreateAt (tick st) i f (newNd name dir m.d), 0) := by
  obtain ⟨hg, hd, hnm, hs, _, hl⟩ := createE_zero he
  unfold mCreate
  rw [hf]
  simp only
  rw [hi]
  simp only
  rw [if_neg (by simp [hop]), hsp]
  simp only
  rw [if_neg (by simp [hg]), if_pos hd, if_pos hnm, hs]
  simp only
  rw [hm]
  simp only
  rw [if_neg (by omega)]

/-- The fids behind a Create. -/
theorem fidAt_createAt {st : St} (ok : FidsOk st) {i : Nat} {f : Fid} {n : Int} (hi : st.fids[i]? = some f) (hn : f.n = n) (x : Nd) (m : Int) : fidAt (mCreateAt st i f x) m = if m = n then some ⟨f.n, f.way ++ [come (withNode st x) st.nodes.length], true⟩ else fidAt st m := by
  have e : (mCreateAt st i f x).fids = st.fids.set i ⟨f.n, f.way ++ [come (withNode st x) st.nodes.length], true⟩ := by
    simp [mCreateAt, setOpen, setWay, withNode]
  unfold fidAt
  rw [e, fidAt_set (g := ⟨f.n, f.way ++ [come (withNode st x) st.nodes.length], true⟩) ok hi rfl m, hn]
  rfl

set_option maxRecDepth 20000 in
set_option maxHeartbeats 1000000 in
theorem create_any {w : World} {F : Nat → Prop} {s : Nat} {st : St} (n : Int) (name : ByteArray) (dir : Bool) (h : SrvIs w F s st) (ok : POk st) (hname : name.size ≤ maxLen) (hnod : st.nodes.length < maxLen) :
    Calls Tryz.prog 16 #[.pointer (some ⟨s, 0, none⟩), .int .i64 n, .string name, .bool dir] w fun e w' => PEnds w F s (mCreate st n name dir) e w' := by
  go_enter_defers Tryz.func16, Tryz.ntmps16
  go_wp2_with fail
  refine (enter_any h).mono ?_
  rintro e w1 ⟨rfl, hH, hx⟩
  clear h
  obtain ⟨t, L, bv, hS⟩ := hH
  have hx := hide hx
  rcases fid_cases hS ok.tick.fids n with ⟨hf, hno⟩ | ⟨k, i, f, p, rfl, hk, hf, hi, hn, ha, c7, c8, hp⟩
  · have H := hide (show mCreate st n name dir = (tick st, 2) by unfold mCreate; rw [show find st n = none from hf])
    have hS := hide hS
    clear hf
    go_wp2_with (go_at_call 45; refine (standing_no hno).mono ?_; rintro e w' ⟨rfl, hw⟩; obtain rfl := hw.symm)
    have hD : Held w1 (ext F w w1) s (tick st) := ⟨t, L, bv, hS.out⟩
    refine leaves_cons (f := 43) (args := #[.pointer (some ⟨s, 0, none⟩)]) (by simp) (by simp [go_sem]) ?_
    refine (leave_deferred .returning hD).mono ?_
    rintro e u' w'' ⟨rfl, rfl, rfl⟩
    refine ⟨_, results_tmp rfl _ _ _, ?_⟩
    exact PEnds.close H.out hD hx.out
  · obtain ⟨sp, hsp, _, _, _⟩ := place_last hp
    have hmem := List.mem_of_getElem? hi
    have hspm := List.mem_of_getLast? hsp
    cases hop : f.op with
    | true =>
      have H := hide (show mCreate st k name dir = (tick st, 3) by
        unfold mCreate
        rw [show find st k = some i from hf]
        simp only
        rw [show st.fids[i]? = some f from hi]
        simp only
        rw [if_pos hop])
      rw [hop] at c8
      have hS := hide hS
      clear hf hi ha hp hn
      go_wp2_with (go_at_call 45; refine (standing_some s k p hk _ c7).mono ?_; rintro e w' ⟨rfl, hw⟩; obtain rfl := hw.symm)
      have hD : Held w1 (ext F w w1) s (tick st) := ⟨t, L, bv, hS.out⟩
      refine leaves_cons (f := 43) (args := #[.pointer (some ⟨s, 0, none⟩)]) (by simp) (by simp [go_sem]) ?_
      refine (leave_deferred .returning hD).mono ?_
      rintro e u' w'' ⟨rfl, rfl, rfl⟩
      refine ⟨_, results_tmp rfl _ _ _, ?_⟩
      exact PEnds.close H.out hD hx.out
    | false =>
      rw [hop] at c8
      have k6 := hS.k6
      have hSd := srv_drew hS
      have hpd : PlaceIs w1.drew (ext F w w1) L p f.way.reverse := hp.kept ((KeepX.refl (fun _ => True) True _ _).drew) trivial trivial
      by_cases he : createE st sp name = 0
      · obtain ⟨_, _, _, _, ⟨m, hmk⟩, _⟩ := createE_zero he
        have H := hide (mCreate_ok (dir := dir) (show find st k = some i from hf) hi hop hsp he hmk)
        have HCr := hide (create_ok p f.way sp hsp name dir m (st := tick st) hSd.tree ok.tick hpd ⟨((ok.way f hmem).2 sp hspm).1, ((ok.way f hmem).2 sp hspm).2.1⟩ (way_lt ok.tick hmem) hname hnod (by rw [createE_tick]; exact he) (by rw [makerOf_tick]; exact hmk))
        have hfz := hS.blk.fz
        have HS := hide hSd
        have Hi := hide hi
        have Hn := hide hn
        clear hf ha hp hpd hSd he hS hi hn
        go_wp2_with (go_at_call 45; refine (standing_some s k p hk _ c7).mono ?_; rintro e w' ⟨rfl, hw⟩; obtain rfl := hw.symm)
        refine wp_strict ?_
        go_region_with (go_at_call 49; refine HCr.out.mono ?_; rintro e w2 ⟨nb, mb, p', bv', rfl, hT2, k2, x2, hp2⟩; have q7 : w2.cell? ⟨s, 7 + k * 2, none⟩ = some (.pointer (some ⟨p, 0, none⟩)) := (HS.out.blk.cell k2 (by decide) _).trans c7; have q8 : w2.cell? ⟨s, 7 + k * 2 + 1, none⟩ = some (.bool false) := (HS.out.blk.cell k2 (by decide) _).trans c8; have z7 : w2.frozen? ⟨s, 7 + k * 2, none⟩ = false := (HS.out.blk.kept k2 (by decide)).fz _; have z8 : w2.frozen? ⟨s, 7 + k * 2 + 1, none⟩ = false := (HS.out.blk.kept k2 (by decide)).fz _; have HT2 := hide hT2; have HK2 := hide k2; have HX2 := hide x2; have HP2 := hide hp2; clear hT2 k2 x2 hp2)
        all_goals
          go_wp2
          have hG : ∀ j, ext F w w1 j → ext F w w2 j := ext_mono HX2.out.size
          have hE2 : ∀ j, ext (ext F w w1) w1.drew w2 j → ext F w w2 j := ext_trans hx.out.size HX2.out.size
          have hS2 := HS.out.regrow ok.tick HK2.out hG (HT2.out.mono hE2)
          have hx2 : Ext F w w2 := hx.out.trans ((Ext.refl _ w1).drew.trans' HX2.out)
          obtain ⟨st1, hst1⟩ : ∃ q, q = withNode (tick st) (newNd name dir m.d) := ⟨_, rfl⟩
          have hset := hS2.setStand (st' := mCreateAt (tick st) i f (newNd name dir m.d)) hk (pv := .pointer (some ⟨p', 0, none⟩)) (op := true) (o := some ⟨f.n, f.way ++ [come (withNode (tick st) (newNd name dir m.d)) st.nodes.length], true⟩) ⟨p', rfl, rfl, by rw [List.reverse_append]; exact PlaceIs.mono hE2 HP2.out⟩ rfl rfl rfl (fun q => fidAt_createAt ok.tick.fids Hi.out Hn.out _ q)
          obtain ⟨W, hW⟩ : ∃ W, W = ((w2.setCell ⟨s, 7 + k * 2, none⟩ (.pointer (some ⟨p', 0, none⟩))).setCell ⟨s, 7 + k * 2 + 1, none⟩ (.bool true)) := ⟨_, rfl⟩
          rw [← hW] at hset ⊢
          have hWz : W.heap.size = w2.heap.size := by rw [hW]; simp
          have hD : Held W (ext F w W) s (mCreateAt (tick st) i f (newNd name dir m.d)) := ⟨t, _, bv', hset.mono (ext_mono (by rw [hWz]; exact Nat.le_refl _))⟩
          have hxW : Ext F w W := by
            have ho : F s ∨ w.heap.size ≤ s := by rcases HS.out.blk.own with h | h; exact .inl h; exact .inr h.1
            rw [hW]
            exact (hx2.setCell ho _).setCell ho _
          refine leaves_cons (f := 43) (args := #[.pointer (some ⟨s, 0, none⟩)]) (by simp) (by simp [go_sem]) ?_
          refine (leave_deferred .returning hD).mono ?_
          rintro e u' w'' ⟨rfl, rfl, rfl⟩
          refine ⟨_, results_tmp rfl _ _ _, ?_⟩
          exact PEnds.close H.out hD hxW
      · have H := hide (mCreate_err (dir := dir) (show find st k = some i from hf) hi hop hsp he)
        have HCr := hide (create_err p f.way sp hsp name dir (st := tick st) hSd.tree hpd ⟨((ok.way f hmem).2 sp hspm).1, ((ok.way f hmem).2 sp hspm).2.1⟩ hname (by have := ok.live; show liveNodes st.nodes ≤ 1000000000; omega) (by rw [createE_tick]; exact he))
        rw [createE_tick] at HCr
        have q1 : (createE st sp name != 0) = true := by simpa using he
        have q2 : (createE st sp name == 0) = false := by simpa using he
        have HS := hide hS
        clear hf hi ha hp hn hpd hSd he hS
        go_wp2_with (go_at_call 45; refine (standing_some s k p hk _ c7).mono ?_; rintro e w' ⟨rfl, hw⟩; obtain rfl := hw.symm)
        refine wp_strict ?_
        go_region_with (go_at_call 49; refine HCr.out.mono ?_; rintro e w2 ⟨rfl, hb⟩; have HB := hide hb; clear hb)
        all_goals
          go_wp2
          have hb2 : Below w1.heap.size w1 w2 := ((Below.refl _ w1).drew).trans HB.out
          have hS2 : SrvHas w2 (ext F w w1) s (tick st) 1 t L bv := HS.out.below hb2
          have hx2 : Ext F w w2 := hx.out.trans' (Ext.below hb2)
          have hD : Held w2 (ext F w w2) s (tick st) := ⟨t, L, bv, hS2.mono (ext_mono hb2.size)⟩
          refine leaves_cons (f := 43) (args := #[.pointer (some ⟨s, 0, none⟩)]) (by simp) (by simp [go_sem]) ?_
          refine (leave_deferred .returning hD).mono ?_
          rintro e u' w'' ⟨rfl, rfl, rfl⟩
          refine ⟨_, results_tmp rfl _ _ _, ?_⟩
          exact PEnds.close H.out hD hx2
end Go.Proofs.YtdmdgnghaceibaaGreat.P
/- What every state of a script keeps. (No walk.) -/
namespace Go.Proofs.YtdmdgnghaceibaaGreat.P
open M
set_option linter.unusedVariables false

/-! ### How many fids there are -/
theorem few_ints : ∀ (n : Nat) (l : List Int), l.Pairwise (· ≠ ·) → (∀ x ∈ l, 0 ≤ x ∧ x < (n : Int)) → l.length ≤ n
  | 0, l, _, h => by
    cases l with
    | nil => simp
    | cons x l => have := h x (by simp); omega
  | n + 1, l, hp, h => by
    have h1 : (l.filter (fun x => decide (x ≠ (n : Int)))).length ≤ n := by
      refine few_ints n _ (hp.filter _) (fun x hx => ?_)
      obtain ⟨hx, hne⟩ := List.mem_filter.1 hx
      have := h x hx
      have : x ≠ (n : Int) := of_decide_eq_true hne
      omega
    have h2 : ∀ l : List Int, l.Pairwise (· ≠ ·) → l.length ≤ (l.filter (fun x => decide (x ≠ (n : Int)))).length + 1 := by
      intro l
      induction l with
      | nil => intro _; simp
      | cons x l ih =>
        intro hp
        obtain ⟨hx, hp⟩ := List.pairwise_cons.1 hp
        by_cases e : x = (n : Int)
        · have : l.filter (fun x => decide (x ≠ (n : Int))) = l := by
            rw [List.filter_eq_self]
            intro y hy
            have := hx y hy
            rw [e] at this
            exact decide_eq_true (Ne.symm this)
          rw [List.filter_cons_of_neg (by simp [e]), this]
          simp
        · rw [List.filter_cons_of_pos (by simp [e])]
          have := ih hp
          simp only [List.length_cons]
          omega
    have := h2 l hp
    omega

theorem FidsOk.few {st : St} (ok : FidsOk st) : st.fids.length ≤ 51 := by
  have := few_ints 51 (st.fids.map (·.n)) (by rw [List.pairwise_map]; exact ok.once) (fun x hx => by
    obtain ⟨f, hf, rfl⟩ := List.mem_map.1 hx
    have := ok.small f hf
    omega)
  simpa using this

/-! ### POk is kept -/
def SpotOk (st : St) (s : Spot) : Prop := s.n < st.nodes.length ∧ (∀ m ∈ s.row, m.d < st.nodes.length ∧ isDir st m.d = true) ∧ s.row.length ≤ 6

theorem POk.withFids {st st' : St} (ok : POk st) (hn : st'.nodes = st.nodes) (hl : st'.laid = st.laid) (hf : FidsOk st') (hw : ∀ f ∈ st'.fids, f.way ≠ [] ∧ ∀ s ∈ f.way, SpotOk st s) : POk st' := by
  obtain ⟨n', l', f', c'⟩ := st'
  obtain ⟨n, l, f, c⟩ := st
  simp only at hn hl
  subst hn hl
  exact ⟨hf, ok.root, hw, ok.laid, ok.names, ok.inn, ok.live⟩

theorem POk.spots {st : St} (ok : POk st) {f : Fid} (hf : f ∈ st.fids) : ∀ s ∈ f.way, SpotOk st s := (ok.way f hf).2

theorem come_spot {st : St} (ok : POk st) {c : Nat} (hc : c < st.nodes.length) : SpotOk st (come st c) := by
  refine ⟨hc, (come_ok ok hc).2, ?_⟩
  unfold come
  simp only
  split
  · unfold rowOf
    split
    · rename_i l hl
      exact (ok.laid l (List.mem_of_find?_eq_some hl)).2.1
    · simp
  · simp

theorem wayStep_spots {st : St} (ok : POk st) {way : List Spot} (h : ∀ s ∈ way, SpotOk st s) (name : ByteArray) : ∀ s ∈ (wayStep st way name).2, SpotOk st s := by
  unfold wayStep
  split
  · exact h
  · split
    · simp only
      split
      · exact fun s hs => h s (List.mem_of_mem_take hs)
      · exact h
    · split
      · exact h
      · split
        · exact h
        · split
          · split
            · exact h
            · rename_i c hc
              intro s hs
              rcases List.mem_append.1 hs with hs | hs
              · exact h s hs
              · simp at hs
                subst hs
                exact come_spot ok (seenIn_lt hc)
          · exact h

theorem wayStep_ne {st : St} {way : List Spot} (h : way ≠ []) (name : ByteArray) : (wayStep st way name).2 ≠ [] := by
  unfold wayStep
  split
  · exact h
  · split
    · simp only
      split
      · rename_i h1
        intro h0
        have := congrArg List.length h0
        simp at this
        omega
      · exact h
    · split
      · exact h
      · split
        · exact h
        · split
          · split
            · exact h
            · simp
          · exact h

theorem wayGo_spots {st : St} (ok : POk st) : ∀ (names : List ByteArray) {way : List Spot}, (∀ s ∈ way, SpotOk st s) → way ≠ [] → (∀ s ∈ (wayGo st names way).2.2, SpotOk st s) ∧ (wayGo st names way).2.2 ≠ []
  | [], way, h, hne => ⟨h, hne⟩
  | s :: l, way, h, hne => by
    unfold wayGo
    split
    · exact wayGo_spots ok l (wayStep_spots ok h s) (wayStep_ne hne s)
    · exact ⟨h, hne⟩

theorem mAttach_ok {st : St} (ok : POk st) (n : Int) : POk (mAttach st n).1 := by
  unfold mAttach
  split
  · rename_i hn
    split
    · exact ok.tick
    · rename_i hf
      have hsm := of_decide_eq_true hn
      refine ok.tick.withFids rfl rfl (FidsOk.snoc (st := tick st) ok.tick.fids ⟨n, [come st 0], false⟩ hf hsm) (fun f hf => ?_)
      rcases List.mem_append.1 hf with hf | hf
      · exact ok.way f hf
      · simp at hf
        subst hf
        exact ⟨by simp, fun s hs => by simp at hs; subst hs; exact come_spot ok ok.pos⟩
  · exact ok.tick

theorem mDrop_ok {st : St} (ok : POk st) (i : Nat) : POk (mDrop st i) := by
  refine ok.withFids rfl rfl (ok.fids.drop i) (fun f hf => ok.way f ?_)
  rcases List.mem_append.1 hf with hf | hf
  · exact List.mem_of_mem_take hf
  · exact List.mem_of_mem_drop hf

theorem mClunk_ok {st : St} (ok : POk st) (n : Int) : POk (mClunk st n).1 := by
  unfold mClunk
  split
  · exact ok.tick
  · exact mDrop_ok ok.tick _

theorem mOpen_ok {st : St} (ok : POk st) (n : Int) : POk (mOpen st n).1 := by
  unfold mOpen
  split
  · exact ok.tick
  · split
    · exact ok.tick
    · rename_i i f hi
      split
      · exact ok.tick
      · split
        · exact ok.tick
        · refine ok.tick.withFids rfl rfl (FidsOk.set (st := tick st) (g := { f with op := true }) ok.tick.fids hi rfl) (fun g hg => ?_)
          rcases List.mem_or_eq_of_mem_set hg with hg | rfl
          · exact ok.way g hg
          · exact ok.way f (List.mem_of_getElem? hi)

theorem mWalkTo_ok {st : St} (ok : POk st) {i : Nat} {f : Fid} {n tto : Int} (hi : st.fids[i]? = some f) (hn : f.n = n) (hfid : fidOk tto = true) (hto : tto = n ∨ find st tto = none) {way : List Spot} (hw : ∀ s ∈ way, SpotOk st s) (hne : way ≠ []) : POk (mWalkTo st i n tto way) := by
  have hsm := of_decide_eq_true hfid
  unfold mWalkTo
  split
  · rename_i e
    have h0 : find (mDrop st i) tto = none := find_of_fidAt (by rw [fidAt_drop ok.fids hi, if_pos (e.trans hn.symm)])
    refine (mDrop_ok ok i).withFids rfl rfl (FidsOk.snoc (st := mDrop st i) (ok.fids.drop i) ⟨tto, way, false⟩ h0 hsm) (fun g hg => ?_)
    rcases List.mem_append.1 hg with hg | hg
    · exact (mDrop_ok ok i).way g hg
    · simp at hg
      subst hg
      exact ⟨hne, hw⟩
  · rename_i e
    rcases hto with h | h
    · exact absurd h e
    · refine ok.withFids rfl rfl (FidsOk.snoc ok.fids ⟨tto, way, false⟩ h hsm) (fun g hg => ?_)
      rcases List.mem_append.1 hg with hg | hg
      · exact ok.way g hg
      · simp at hg
        subst hg
        exact ⟨hne, hw⟩

theorem mWalk_ok {st : St} (ok : POk st) (n tto : Int) (names : List ByteArray) : POk (mWalk st n tto names).1 := by
  unfold mWalk
  split
  · exact ok.tick
  · rename_i i hf
    split
    · exact ok.tick
    · rename_i f hi
      split
      · rename_i hal
        split
        · obtain ⟨hto, hwho⟩ := mAllowed_zero hal
          obtain ⟨f', hi', hn, _⟩ := fidAt_find hf
          rw [hi] at hi'
          cases hi'
          have hm := List.mem_of_getElem? hi
          obtain ⟨h1, h2⟩ := wayGo_spots ok names (ok.spots hm) (ok.way f hm).1
          refine mWalkTo_ok ok.tick hi hn hto ?_ h1 h2
          rw [← hn]
          exact hwho
        · exact ok.tick
      · exact ok.tick

theorem isDir_withNode {st : St} {x : Nd} {d : Nat} (hd : d < st.nodes.length) : isDir (withNode st x) d = isDir st d := by
  unfold isDir
  rw [get_withNode, if_neg (by omega)]

theorem spot_withNode {st : St} {x : Nd} {s : Spot} (h : SpotOk st s) : SpotOk (withNode st x) s := by
  have hl : (withNode st x).nodes.length = st.nodes.length + 1 := by simp [withNode]
  refine ⟨by rw [hl]; have := h.1; omega, fun m hm => ?_, h.2.2⟩
  obtain ⟨h1, h2⟩ := h.2.1 m hm
  exact ⟨by rw [hl]; omega, by rw [isDir_withNode h1]; exact h2⟩

theorem withNode_ok {st : St} (ok : POk st) {name : ByteArray} {dir : Bool} {d : Nat} (hname : name.size ≤ 12) (hd : d < st.nodes.length) (hlive : liveNodes st.nodes < 100) : POk (withNode st (newNd name dir d)) := by
  have hl : (withNode st (newNd name dir d)).nodes.length = st.nodes.length + 1 := by simp [withNode]
  refine ⟨⟨ok.fids.once, ok.fids.small⟩, ?_, fun f hf => ⟨(ok.way f hf).1, fun s hs => spot_withNode ((ok.way f hf).2 s hs)⟩, fun l hl2 => ?_, fun x hx => ?_, fun x hx => ?_, ?_⟩
  · obtain ⟨x, hx, hxd⟩ := ok.root
    exact ⟨x, by rw [get_withNode, if_neg (by have := M.lt_of_getElem? hx; omega)]; exact hx, hxd⟩
  · obtain ⟨h1, h2, h3⟩ := ok.laid l hl2
    refine ⟨fun m hm => ?_, h2, by rw [hl]; omega⟩
    obtain ⟨a, b⟩ := h1 m hm
    exact ⟨by rw [hl]; omega, by rw [isDir_withNode a]; exact b⟩
  · rcases List.mem_append.1 hx with hx | hx
    · exact ok.names x hx
    · simp at hx; subst hx; exact hname
  · rw [hl]
    rcases List.mem_append.1 hx with hx | hx
    · have := ok.inn x hx; omega
    · simp at hx; subst hx; simp [newNd]; omega
  · rw [live_withNode _ _ rfl]; omega

theorem isName_size {name : ByteArray} (h : isName name = true) : name.size ≤ 12 := by
  have : ¬ badText name = true := by
    intro hb
    simp [isName, hb] at h
  simp only [badText, decide_eq_true_eq, not_or] at this
  omega

theorem mCreate_keeps {st : St} (ok : POk st) (n : Int) (name : ByteArray) (dir : Bool) : POk (mCreate st n name dir).1 := by
  cases hf : find st n with
  | none => unfold mCreate; rw [hf]; exact ok.tick
  | some i =>
    obtain ⟨f, hi, hn, _⟩ := fidAt_find hf
    cases hop : f.op with
    | true => unfold mCreate; rw [hf]; simp only; rw [hi]; simp only; rw [if_pos hop]; exact ok.tick
    | false =>
      have hm := List.mem_of_getElem? hi
      have hne := (ok.way f hm).1
      have hsp : f.way.getLast? = some (f.way.getLast hne) := List.getLast?_eq_some_getLast hne
      generalize f.way.getLast hne = sp at hsp
      by_cases he : createE st sp name = 0
      · obtain ⟨_, _, hnm, _, ⟨m, hmk⟩, hlive⟩ := createE_zero he
        rw [mCreate_ok hf hi hop hsp he hmk]
        have hmd := (((ok.way f hm).2 sp (List.mem_of_getLast? hsp)).2.1 m (makerOf_mem hmk).1).1
        have okn := withNode_ok (dir := dir) ok.tick (isName_size hnm) hmd hlive
        have e : (mCreateAt (tick st) i f (newNd name dir m.d)).fids = st.fids.set i ⟨f.n, f.way ++ [come (withNode (tick st) (newNd name dir m.d)) st.nodes.length], true⟩ := by simp [mCreateAt, setOpen, setWay, withNode, tick]
        refine okn.withFids rfl rfl ?_ (fun g hg => ?_)
        · have := FidsOk.set (st := tick st) (g := ⟨f.n, f.way ++ [come (withNode (tick st) (newNd name dir m.d)) st.nodes.length], true⟩) ok.tick.fids hi rfl
          exact ⟨by rw [e]; exact this.once, by rw [e]; exact this.small⟩
        · rw [e] at hg
          rcases List.mem_or_eq_of_mem_set hg with hg | rfl
          · exact okn.way g hg
          · refine ⟨by simp, fun s hs => ?_⟩
            rcases List.mem_append.1 hs with hs | hs
            · exact spot_withNode ((ok.way f hm).2 s hs)
            · simp at hs
              subst hs
              exact come_spot okn (by simp [withNode, tick])
      · rw [mCreate_err hf hi hop hsp he]
        exact ok.tick
end Go.Proofs.YtdmdgnghaceibaaGreat.P
/- Where nothing is bound: a way goes down the tree. (No walk.) -/
namespace Go.Proofs.YtdmdgnghaceibaaGreat.P
open M
set_option linter.unusedVariables false

structure Inc (way : List Spot) : Prop where
  up : way.Pairwise (fun a b => a.n < b.n)
  own : ∀ s ∈ way, ∀ m ∈ s.row, m.d = s.n

structure Plain (st : St) : Prop where
  laid : st.laid = []
  inn : ∀ (i : Nat) x, st.nodes[i]? = some x → x.inn < (i : Int)
  way : ∀ f ∈ st.fids, Inc f.way

theorem Plain.tick {st : St} (h : Plain st) : Plain (tick st) := ⟨h.laid, h.inn, h.way⟩
theorem Plain.withFids {st st' : St} (h : Plain st) (hn : st'.nodes = st.nodes) (hl : st'.laid = st.laid) (hw : ∀ f ∈ st'.fids, Inc f.way) : Plain st' := ⟨by rw [hl]; exact h.laid, by rw [hn]; exact h.inn, hw⟩

theorem come_row {st : St} (h : st.laid = []) (c : Nat) : ∀ m ∈ (come st c).row, m.d = c := by
  intro m hm
  unfold come rowOf at hm
  simp only [h, List.find?_nil] at hm
  split at hm
  · simp at hm; rw [hm]
  · simp at hm

theorem seenIn_in {st : St} {name : ByteArray} : ∀ {row : List Member} {c : Nat}, seenIn st name row = some c → ∃ m ∈ row, lies st m.d name = some c
  | [], c, h => by simp [seenIn] at h
  | a :: r, c, h => by
    unfold seenIn at h
    split at h
    · obtain ⟨m, hm, hl⟩ := seenIn_in h
      exact ⟨m, by simp [hm], hl⟩
    · split at h
      · rename_i n hn
        cases h
        exact ⟨a, by simp, hn⟩
      · obtain ⟨m, hm, hl⟩ := seenIn_in h
        exact ⟨m, by simp [hm], hl⟩

theorem lies_inn {st : St} {d : Nat} {name : ByteArray} {c : Nat} (h : lies st d name = some c) : ∃ x, st.nodes[c]? = some x ∧ x.inn = (d : Int) := by
  unfold lies at h
  rw [List.findIdx?_eq_some_iff_getElem] at h
  obtain ⟨hc, hp, _⟩ := h
  refine ⟨st.nodes[c], List.getElem?_eq_getElem hc, ?_⟩
  unfold liesHere at hp
  simp only [Bool.and_eq_true, beq_iff_eq] at hp
  exact hp.1.1

theorem Inc.take {way : List Spot} (h : Inc way) (k : Nat) : Inc (way.take k) := ⟨h.up.sublist (List.take_sublist _ _), fun s hs => h.own s (List.mem_of_mem_take hs)⟩

theorem last_split {α : Type} {l : List α} {x : α} (h : l.getLast? = some x) : ∃ r, l = r ++ [x] := by
  have hne : l ≠ [] := by intro e; rw [e] at h; simp at h
  refine ⟨l.dropLast, ?_⟩
  rw [List.getLast?_eq_some_getLast hne] at h
  cases h
  exact (List.dropLast_concat_getLast hne).symm

theorem Inc.snoc {way : List Spot} (h : Inc way) {sp : Spot} (hsp : way.getLast? = some sp) {x : Spot} (hx : sp.n < x.n) (hr : ∀ m ∈ x.row, m.d = x.n) : Inc (way ++ [x]) := by
  refine ⟨?_, fun s hs => ?_⟩
  · rw [List.pairwise_append]
    refine ⟨h.up, by simp, fun a ha b hb => ?_⟩
    simp at hb
    subst hb
    obtain ⟨r, rfl⟩ := last_split hsp
    rcases List.mem_append.1 ha with ha | ha
    · have := (List.pairwise_append.1 h.up).2.2 a ha sp (by simp)
      omega
    · simp at ha
      subst ha
      exact hx
  · rcases List.mem_append.1 hs with hs | hs
    · exact h.own s hs
    · simp at hs
      subst hs
      exact hr

theorem wayStep_inc {st : St} (hp : Plain st) {way : List Spot} (h : Inc way) (name : ByteArray) : Inc (wayStep st way name).2 := by
  unfold wayStep
  split
  · exact h
  · split
    · simp only
      split
      · exact h.take _
      · exact h
    · split
      · exact h
      · rename_i sp hsp
        split
        · exact h
        · split
          · split
            · exact h
            · rename_i c hc
              obtain ⟨m, hm, hl⟩ := seenIn_in hc
              obtain ⟨x, hx, hxi⟩ := lies_inn hl
              have h1 := hp.inn c x hx
              have h2 := h.own sp (List.mem_of_getLast? hsp) m hm
              refine h.snoc hsp (by show sp.n < c; omega) (come_row hp.laid c)
          · exact h

theorem wayGo_inc {st : St} (hp : Plain st) : ∀ (names : List ByteArray) {way : List Spot}, Inc way → Inc (wayGo st names way).2.2
  | [], way, h => h
  | s :: l, way, h => by
    unfold wayGo
    split
    · exact wayGo_inc hp l (wayStep_inc hp h s)
    · exact h

theorem Inc.len {way : List Spot} (h : Inc way) {n : Nat} (hn : ∀ s ∈ way, s.n < n) : way.length ≤ n := by
  have := few_ints n (way.map (fun s => (s.n : Int))) (by
    rw [List.pairwise_map]
    exact h.up.imp (fun {a b} hab => by omega)) (fun x hx => by
    obtain ⟨s, hs, rfl⟩ := List.mem_map.1 hx
    have := hn s hs
    omega)
  simpa using this

theorem Inc.one (st : St) (hl : st.laid = []) (c : Nat) : Inc [come st c] := ⟨by simp, fun s hs => by simp at hs; subst hs; exact come_row hl c⟩

theorem mAttach_plain {st : St} (h : Plain st) (n : Int) : Plain (mAttach st n).1 := by
  unfold mAttach
  split
  · split
    · exact h.tick
    · refine h.tick.withFids rfl rfl (fun f hf => ?_)
      rcases List.mem_append.1 hf with hf | hf
      · exact h.way f hf
      · simp at hf
        subst hf
        exact Inc.one st h.laid 0
  · exact h.tick

theorem mDrop_plain {st : St} (h : Plain st) (i : Nat) : Plain (mDrop st i) := by
  refine h.withFids rfl rfl (fun f hf => h.way f ?_)
  rcases List.mem_append.1 hf with hf | hf
  · exact List.mem_of_mem_take hf
  · exact List.mem_of_mem_drop hf

theorem mClunk_plain {st : St} (h : Plain st) (n : Int) : Plain (mClunk st n).1 := by
  unfold mClunk
  split
  · exact h.tick
  · exact mDrop_plain h.tick _

theorem mOpen_plain {st : St} (h : Plain st) (n : Int) : Plain (mOpen st n).1 := by
  unfold mOpen
  split
  · exact h.tick
  · split
    · exact h.tick
    · rename_i i f hi
      split
      · exact h.tick
      · split
        · exact h.tick
        · refine h.tick.withFids rfl rfl (fun g hg => ?_)
          rcases List.mem_or_eq_of_mem_set hg with hg | rfl
          · exact h.way g hg
          · exact h.way f (List.mem_of_getElem? hi)

theorem mWalk_plain {st : St} (h : Plain st) (n tto : Int) (names : List ByteArray) : Plain (mWalk st n tto names).1 := by
  unfold mWalk
  split
  · exact h.tick
  · rename_i i hf
    split
    · exact h.tick
    · rename_i f hi
      split
      · split
        · have hw := wayGo_inc h names (h.way f (List.mem_of_getElem? hi))
          unfold mWalkTo
          split
          · refine (mDrop_plain h.tick i).withFids rfl rfl (fun g hg => ?_)
            rcases List.mem_append.1 hg with hg | hg
            · exact (mDrop_plain h.tick i).way g hg
            · simp at hg; subst hg; exact hw
          · refine h.tick.withFids rfl rfl (fun g hg => ?_)
            rcases List.mem_append.1 hg with hg | hg
            · exact h.way g hg
            · simp at hg; subst hg; exact hw
        · exact h.tick
      · exact h.tick

theorem mCreate_plain {st : St} (ok : POk st) (h : Plain st) (n : Int) (name : ByteArray) (dir : Bool) : Plain (mCreate st n name dir).1 := by
  cases hf : find st n with
  | none => unfold mCreate; rw [hf]; exact h.tick
  | some i =>
    obtain ⟨f, hi, hn, _⟩ := fidAt_find hf
    cases hop : f.op with
    | true => unfold mCreate; rw [hf]; simp only; rw [hi]; simp only; rw [if_pos hop]; exact h.tick
    | false =>
      have hm := List.mem_of_getElem? hi
      have hne := (ok.way f hm).1
      have hsp : f.way.getLast? = some (f.way.getLast hne) := List.getLast?_eq_some_getLast hne
      generalize f.way.getLast hne = sp at hsp
      by_cases he : createE st sp name = 0
      · obtain ⟨_, _, hnm, _, ⟨m, hmk⟩, hlive⟩ := createE_zero he
        rw [mCreate_ok hf hi hop hsp he hmk]
        have hspm := List.mem_of_getLast? hsp
        have hmd := (((ok.way f hm).2 sp hspm).2.1 m (makerOf_mem hmk).1).1
        have e : (mCreateAt (tick st) i f (newNd name dir m.d)).fids = st.fids.set i ⟨f.n, f.way ++ [come (withNode (tick st) (newNd name dir m.d)) st.nodes.length], true⟩ := by simp [mCreateAt, setOpen, setWay, withNode, tick]
        refine ⟨h.laid, fun j x hx => ?_, fun g hg => ?_⟩
        · have hx : (withNode (tick st) (newNd name dir m.d)).nodes[j]? = some x := hx
          rw [get_withNode] at hx
          split at hx
          · rename_i ej
            cases hx
            have : j = st.nodes.length := ej
            simp [newNd]
            omega
          · exact h.inn j x hx
        · rw [e] at hg
          rcases List.mem_or_eq_of_mem_set hg with hg | rfl
          · exact h.way g hg
          · exact (h.way f hm).snoc hsp (by show sp.n < st.nodes.length; exact ((ok.way f hm).2 sp hspm).1) (come_row (st := withNode (tick st) (newNd name dir m.d)) h.laid st.nodes.length)
      · rw [mCreate_err hf hi hop hsp he]
        exact h.tick

/-! ### How many nodes there are -/
theorem mAttach_len (st : St) (n : Int) : (mAttach st n).1.nodes = st.nodes := by
  unfold mAttach
  split
  · split <;> rfl
  · rfl
theorem mClunk_len (st : St) (n : Int) : (mClunk st n).1.nodes = st.nodes := by
  unfold mClunk
  split <;> rfl
theorem mOpen_len (st : St) (n : Int) : (mOpen st n).1.nodes = st.nodes := by
  unfold mOpen
  split
  · rfl
  · split
    · rfl
    · split
      · rfl
      · split <;> rfl
theorem mWalk_len (st : St) (n tto : Int) (names : List ByteArray) : (mWalk st n tto names).1.nodes = st.nodes := by
  unfold mWalk
  split
  · rfl
  · split
    · rfl
    · split
      · split
        · unfold mWalkTo; split <;> rfl
        · rfl
      · rfl
theorem mCreate_len {st : St} (ok : POk st) (n : Int) (name : ByteArray) (dir : Bool) : (mCreate st n name dir).1.nodes.length ≤ st.nodes.length + 1 := by
  cases hf : find st n with
  | none => unfold mCreate; rw [hf]; simp [tick]
  | some i =>
    obtain ⟨f, hi, hn, _⟩ := fidAt_find hf
    cases hop : f.op with
    | true => unfold mCreate; rw [hf]; simp only; rw [hi]; simp only; rw [if_pos hop]; simp [tick]
    | false =>
      have hm := List.mem_of_getElem? hi
      have hne := (ok.way f hm).1
      have hsp : f.way.getLast? = some (f.way.getLast hne) := List.getLast?_eq_some_getLast hne
      generalize f.way.getLast hne = sp at hsp
      by_cases he : createE st sp name = 0
      · obtain ⟨_, _, hnm, _, ⟨m, hmk⟩, hlive⟩ := createE_zero he
        rw [mCreate_ok hf hi hop hsp he hmk]
        simp [mCreateAt, setOpen, setWay, withNode, tick]
      · rw [mCreate_err hf hi hop hsp he]
        simp [tick]
end Go.Proofs.YtdmdgnghaceibaaGreat.P
/- How the reference's Server lies in memory. -/
namespace Go.Proofs.YtdmdgnghaceibaaGreat
open M Go.ChangeShapes Go.WideShapes Go.ChangeAt Go.RowKit
set_option linter.unusedVariables false

/-! ### The reference's Server -/

def nodeCells (x : Nd) : List Value := [.string x.name, .bool x.dir, .int .i64 x.inn, .string x.data, .int .i64 x.version, .bool x.gone]
def memberCells (m : Member) : List Value := [.int .i64 m.d, .bool m.leave]
def laidCells (v : Value) (l : Laid) : List Value := [.int .i64 l.onto, v]
def spotCells (v : Value) (s : Spot) : List Value := [.int .i64 s.n, v]
def fidCells (v : Value) (f : Fid) : List Value := [.int .i64 f.n, v, .bool f.op]

/-- A slice value that reads as a row. -/
def RowIs (w : World) (F : Nat → Prop) (v : Value) (row : List Member) : Prop := Own w F 222 2 v (row.map memberCells)
/-- One slice value a thing. -/
def Each {α : Type} (p : Value → α → Prop) (vs : List Value) (xs : List α) : Prop := vs.length = xs.length ∧ ∀ (i : Nat) v x, vs[i]? = some v → xs[i]? = some x → p v x
def WayIs (w : World) (F : Nat → Prop) (v : Value) (way : List Spot) : Prop :=
  ∃ vs, Each (fun v s => RowIs w F v s.row) vs way ∧ Own w F 212 2 v (List.zipWith spotCells vs way)
def LaidsIs (w : World) (F : Nat → Prop) (v : Value) (laid : List Laid) : Prop :=
  ∃ vs, Each (fun v l => RowIs w F v l.row) vs laid ∧ Own w F 226 2 v (List.zipWith laidCells vs laid)
def FidsIs (w : World) (F : Nat → Prop) (v : Value) (fids : List Fid) : Prop :=
  ∃ vs, Each (fun v f => WayIs w F v f.way) vs fids ∧ Own w F 216 3 v (List.zipWith fidCells vs fids)

structure RefHas (w : World) (F : Nat → Prop) (r : Nat) (st : St) (nv lv fv : Value) : Prop where
  blk : w.heap[r]? = some (.cells #[nv, lv, fv, .int .i64 st.calls] 81 (0, 0))
  own : F r
  nodes : Own w F 184 6 nv (st.nodes.map nodeCells)
  laid : LaidsIs w F lv st.laid
  fids : FidsIs w F fv st.fids

def RefIs (w : World) (F : Nat → Prop) (r : Nat) (st : St) : Prop := ∃ nv lv fv, RefHas w F r st nv lv fv

section
variable {w w' : World} {F F' : Nat → Prop} {r : Nat} {st : St} {nv lv fv : Value}
theorem RefHas.c0 (h : RefHas w F r st nv lv fv) : w.cell? ⟨r, 0, none⟩ = some nv := by simp [World.cell?, h.blk]
theorem RefHas.c1 (h : RefHas w F r st nv lv fv) : w.cell? ⟨r, 1, none⟩ = some lv := by simp [World.cell?, h.blk]
theorem RefHas.c2 (h : RefHas w F r st nv lv fv) : w.cell? ⟨r, 2, none⟩ = some fv := by simp [World.cell?, h.blk]
theorem RefHas.c3 (h : RefHas w F r st nv lv fv) : w.cell? ⟨r, 3, none⟩ = some (.int .i64 st.calls) := by simp [World.cell?, h.blk]
theorem RefHas.fz (h : RefHas w F r st nv lv fv) (j : Nat) : w.frozen? ⟨r, j, none⟩ = false := by simp [World.frozen?, h.blk]
theorem RefHas.lt (h : RefHas w F r st nv lv fv) : r < w.heap.size := (Array.getElem?_eq_some_iff.1 h.blk).1
end

section
variable {w w' : World} {F F' : Nat → Prop} {T : TypeId → Prop} {r : Nat} {st : St} {v : Value}
theorem RowIs.keepT {row : List Member} (h : RowIs w F v row) (hk : KeepT T F w w') (h1 : T 222) : RowIs w' F v row := Own.keepT h hk h1
theorem RowIs.mono {row : List Member} (h : RowIs w F v row) (hF : ∀ k, F k → F' k) : RowIs w F' v row := Own.mono h hF
theorem Each.imp {α : Type} {p q : Value → α → Prop} {vs : List Value} {xs : List α} (h : Each p vs xs) (hpq : ∀ v x, p v x → q v x) : Each q vs xs := ⟨h.1, fun i v x hv hx => hpq v x (h.2 i v x hv hx)⟩
theorem WayIs.keepT {way : List Spot} (h : WayIs w F v way) (hk : KeepT T F w w') (h1 : T 222) (h2 : T 212) : WayIs w' F v way := by
  obtain ⟨vs, hE, hO⟩ := h
  exact ⟨vs, hE.imp (fun _ _ h => h.keepT hk h1), hO.keepT hk h2⟩
theorem WayIs.mono {way : List Spot} (h : WayIs w F v way) (hF : ∀ k, F k → F' k) : WayIs w F' v way := by
  obtain ⟨vs, hE, hO⟩ := h
  exact ⟨vs, hE.imp (fun _ _ h => h.mono hF), hO.mono hF⟩
theorem LaidsIs.keepT {laid : List Laid} (h : LaidsIs w F v laid) (hk : KeepT T F w w') (h1 : T 222) (h2 : T 226) : LaidsIs w' F v laid := by
  obtain ⟨vs, hE, hO⟩ := h
  exact ⟨vs, hE.imp (fun _ _ h => h.keepT hk h1), hO.keepT hk h2⟩
theorem LaidsIs.mono {laid : List Laid} (h : LaidsIs w F v laid) (hF : ∀ k, F k → F' k) : LaidsIs w F' v laid := by
  obtain ⟨vs, hE, hO⟩ := h
  exact ⟨vs, hE.imp (fun _ _ h => h.mono hF), hO.mono hF⟩
theorem FidsIs.keepT {fids : List Fid} (h : FidsIs w F v fids) (hk : KeepT T F w w') (h1 : T 222) (h2 : T 212) (h3 : T 216) : FidsIs w' F v fids := by
  obtain ⟨vs, hE, hO⟩ := h
  exact ⟨vs, hE.imp (fun _ _ h => h.keepT hk h1 h2), hO.keepT hk h3⟩
theorem FidsIs.mono {fids : List Fid} (h : FidsIs w F v fids) (hF : ∀ k, F k → F' k) : FidsIs w F' v fids := by
  obtain ⟨vs, hE, hO⟩ := h
  exact ⟨vs, hE.imp (fun _ _ h => h.mono hF), hO.mono hF⟩
theorem RefIs.mono (h : RefIs w F r st) (hF : ∀ k, F k → F' k) : RefIs w F' r st := by
  obtain ⟨nv, lv, fv, h⟩ := h
  exact ⟨nv, lv, fv, h.blk, hF r h.own, h.nodes.mono hF, h.laid.mono hF, h.fids.mono hF⟩
/-- Whatever keeps the blocks of F keeps the Server. -/
theorem RefIs.kept (h : RefIs w F r st) (hk : KeepT (fun _ => True) F w w') : RefIs w' F r st := by
  obtain ⟨nv, lv, fv, h⟩ := h
  exact ⟨nv, lv, fv, (hk r _ _ h.own h.blk trivial).trans h.blk, h.own, h.nodes.keepT hk trivial, h.laid.keepT hk trivial trivial, h.fids.keepT hk trivial trivial trivial⟩
theorem RefIs.below (h : RefIs w F r st) (hb : Below w.heap.size w w') : RefIs w' F r st := h.kept (KeepT.below hb)
theorem RefIs.alloc (h : RefIs w F r st) (o : Obj) : RefIs (w.alloc o) F r st := h.kept ((KeepT.refl _ _ _).alloc o)
theorem RefIs.drew (h : RefIs w F r st) : RefIs w.drew F r st := h.kept ((KeepT.refl _ _ _).drew)
theorem Ext.keepT {G : Nat → Prop} (h : Ext F w w') (hd : ∀ k, G k → ¬ F k) : KeepT T G w w' := fun k _ _ hG hb _ => h.block k (Array.getElem?_eq_some_iff.1 hb).1 (hd k hG)

/-- The list of fids is another one. -/
theorem RefIs.setFids {nv lv fv fv' : Value} {c : Int} {nodes : List Nd} {laid : List Laid} {fids : List Fid} (blk : w.heap[r]? = some (.cells #[nv, lv, fv, .int .i64 c] 81 (0, 0))) (own : F r)
    (hn : Own w F 184 6 nv (nodes.map nodeCells)) (hl : LaidsIs w F lv laid) (hf : FidsIs w F fv' fids) : RefIs (w.setCell ⟨r, 2, none⟩ fv') F r ⟨nodes, laid, fids, c⟩ := by
  have hk : KeepT (fun e => e ≠ 81) F w (w.setCell ⟨r, 2, none⟩ fv') := (KeepT.refl _ _ _).setCell (a := ⟨r, 2, none⟩) blk (by simp) _
  refine ⟨nv, lv, fv', ?_, own, hn.keepT hk (by decide), hl.keepT hk (by decide) (by decide), hf.keepT hk (by decide) (by decide) (by decide)⟩
  rw [heap_setCell_same w r 2 _ _ _ blk]
  rfl

theorem heap_set_lit (w : World) (b j : Nat) (cs : Array Value) (e : TypeId) (u : Value) (h : w.heap[b]? = some (.cells cs e (0, 0))) : (w.setCell ⟨b, j, none⟩ u).heap[b]? = some (.cells (cs.setIfInBounds j u) e (0, 0)) := heap_setCell_same w b j cs e u h

theorem RefIs.tick (h : RefIs w F r st) : RefIs (w.setCell ⟨r, 3, none⟩ (.int .i64 (wrap64 (st.calls + 1)))) F r (tick st) := by
  obtain ⟨nv, lv, fv, h⟩ := h
  have hk : KeepT (fun e => e ≠ 81) F w (w.setCell ⟨r, 3, none⟩ (.int .i64 (wrap64 (st.calls + 1)))) := (KeepT.refl _ _ _).setCell (a := ⟨r, 3, none⟩) h.blk (by simp) _
  refine ⟨nv, lv, fv, ?_, h.own, h.nodes.keepT hk (by decide), h.laid.keepT hk (by decide) (by decide), h.fids.keepT hk (by decide) (by decide) (by decide)⟩
  rw [heap_set_lit _ _ _ _ _ _ h.blk]
  rfl
end
end Go.Proofs.YtdmdgnghaceibaaGreat
/- The reference's 'at', 'call'. -/
namespace Go.Proofs.YtdmdgnghaceibaaGreat
open M Go.ChangeShapes Go.WideShapes Go.ChangeAt Go.RowKit
set_option linter.unusedVariables false

theorem idx_row {α : Type} {p : Value → α → Prop} {c : Value → α → List Value} {vs : List Value} {xs : List α} (h : Each p vs xs) {i : Nat} {x : α} (hx : xs[i]? = some x) :
    ∃ v, vs[i]? = some v ∧ p v x ∧ (List.zipWith c vs xs)[i]? = some (c v x) := by
  have hi : i < vs.length := by rw [h.1]; exact M.lt_of_getElem? hx
  refine ⟨vs[i], List.getElem?_eq_getElem hi, h.2 i _ x (List.getElem?_eq_getElem hi) hx, ?_⟩
  rw [List.getElem?_zipWith, List.getElem?_eq_getElem hi, hx]

theorem zip_len {α : Type} {p : Value → α → Prop} {c : Value → α → List Value} {vs : List Value} {xs : List α} (h : Each p vs xs) : (List.zipWith c vs xs).length = xs.length := by
  rw [List.length_zipWith, h.1]; omega

set_option maxHeartbeats 400000 in
theorem at_core (r fb cap : Nat) (fids : List Fid) (n : Int) (w : World)
    (h2 : w.cell? ⟨r, 2, none⟩ = some (.slice (some ⟨fb, 0, none⟩) fids.length cap))
    (hc : ∀ i f, fids[i]? = some f → w.cell? ⟨fb, i * 3, none⟩ = some (.int .i64 f.n)) (hl : fids.length ≤ maxLen) :
    Calls Tryz.prog 146 #[.pointer (some ⟨r, 0, none⟩), .int .i64 n] w fun e w' => e = .returned (.int .i64 (idxV (fids.findIdx? (fun f => f.n == n)))) ∧ w' = w := by
  unfold maxLen at hl
  go_enter Tryz.func146, Tryz.ntmps146
  go_wp2
  go_loop [5] (fun i => ∃ k : Nat, k ≤ fids.length ∧ i = .int .i64 k ∧ ∀ j y, j < k → fids[j]? = some y → (y.n == n) = false) (fun i => fids.length - (intOf i).toNat)
  case atStart => exact ⟨0, Nat.zero_le _, rfl, by omega⟩
  case round =>
    obtain ⟨k, hk, rfl, hno⟩ := hrel
    have Hno := hide hno
    clear hno
    by_cases hlt : k < fids.length
    · obtain ⟨f, hf⟩ := getElem?_of_lt hlt
      have hcf := hc k f hf
      have Hf := hide hf
      clear hf hc
      cases hfn : (f.n == n) with
      | true =>
        go_wp2
        go_ret
        exact ⟨by rw [findIdx?_some_of _ _ k f Hf.out hfn Hno.out]; rfl, rfl⟩
      | false =>
        go_wp2
        go_round
        case rel =>
          refine ⟨k + 1, by omega, by go_num, fun j y hj hy => ?_⟩
          by_cases h : j = k
          · subst h
            rw [Hf.out] at hy
            cases hy
            exact hfn
          · exact Hno.out j y (by omega) hy
        case measure => simp [intOf]; omega
    · go_wp2
      go_ret
      exact ⟨by rw [findIdx?_none_of _ _ (fun j y hy => Hno.out j y (by have := M.lt_of_getElem? hy; omega) hy)]; rfl, rfl⟩

theorem at_nil (r : Nat) (n : Int) (w : World) (h2 : w.cell? ⟨r, 2, none⟩ = some (.slice none 0 0)) :
    Calls Tryz.prog 146 #[.pointer (some ⟨r, 0, none⟩), .int .i64 n] w fun e w' => e = .returned (.int .i64 (-1)) ∧ w' = w := by
  go_enter Tryz.func146, Tryz.ntmps146
  go_wp2
  go_loop [5] (fun i => i = .int .i64 0) (fun _ => 0)
  case atStart => rfl
  case round =>
    subst hrel
    go_wp2
    go_ret
    exact ⟨rfl, rfl⟩

/-- 'at': where a fid is in the list. -/
theorem at_any {w : World} {F : Nat → Prop} {r : Nat} {st : St} (n : Int) (h : RefIs w F r st) :
    Calls Tryz.prog 146 #[.pointer (some ⟨r, 0, none⟩), .int .i64 n] w fun e w' => e = .returned (.int .i64 (idxV (find st n))) ∧ w' = w := by
  obtain ⟨nv, lv, fv, h⟩ := h
  obtain ⟨vs, hE, hO⟩ := h.fids
  rcases hO.opened with ⟨rfl, hn⟩ | ⟨g, cap, rfl, hcap, hmax, hF, hb, hcell, _⟩
  · have h0 : st.fids = [] := by
      have := zip_len (c := fidCells) hE
      rw [hn] at this
      exact List.length_eq_zero_iff.1 this.symm
    rw [show find st n = none by simp [find, h0]]
    exact at_nil r n w h.c2
  · have hl := zip_len (c := fidCells) hE
    rw [hl] at hcap
    refine at_core r g cap st.fids n w (by rw [h.c2, hl]) ?_ (by omega)
    intro i f hf
    obtain ⟨v, _, _, hrow⟩ := idx_row (c := fidCells) hE hf
    exact hcell i _ 0 _ hrow rfl

/-- 'call': one call more; where the fid is. -/
theorem call_any {w : World} {F : Nat → Prop} {r : Nat} {st : St} (n : Int) (h : RefIs w F r st) :
    Calls Tryz.prog 137 #[.pointer (some ⟨r, 0, none⟩), .int .i64 n] w fun e w' => e = .returned (.int .i64 (idxV (find st n))) ∧ RefIs w' F r (tick st) ∧ Ext F w w' ∧ w'.heap.size = w.heap.size := by
  have ht := h.tick
  obtain ⟨nv, lv, fv, h⟩ := h
  have h3 := h.c3
  have f3 := h.fz 3
  go_enter Tryz.func137, Tryz.ntmps137
  go_wp2_with fail
  refine (at_any n ht).mono ?_
  rintro e w' ⟨rfl, rfl⟩
  go_wp2
  go_ret
  exact ⟨rfl, ht, (Ext.refl _ _).setCell (.inl h.own) _, by simp⟩
end Go.Proofs.YtdmdgnghaceibaaGreat
/- The reference's reading functions. -/
namespace Go.Proofs.YtdmdgnghaceibaaGreat
open M Go.ChangeShapes Go.WideShapes Go.ChangeAt Go.RowKit
set_option linter.unusedVariables false

set_option maxHeartbeats 400000 in
theorem spot_core (fb fo gw m cap : Nat) (N : Int) (ao : Option Addr) (rn rc : Nat) (w : World) (hm : 0 < m) (hl : m ≤ maxLen)
    (h1 : w.cell? ⟨fb, fo + 1, none⟩ = some (.slice (some ⟨gw, 0, none⟩) m cap))
    (c0 : w.cell? ⟨gw, (m - 1) * 2, none⟩ = some (.int .i64 N)) (c1 : w.cell? ⟨gw, (m - 1) * 2 + 1, none⟩ = some (.slice ao rn rc)) :
    Calls Tryz.prog 142 #[.pointer (some ⟨fb, fo, none⟩)] w fun e w' => e = .returned (.agg #[.int .i64 N, .slice ao rn rc]) ∧ Below w.heap.size w w' := by
  unfold maxLen at hl
  obtain ⟨k, rfl⟩ : ∃ k, m = k + 1 := ⟨m - 1, by omega⟩
  simp only [Nat.add_sub_cancel] at c0 c1
  have h1' := up h1
  have c0' := up c0
  have c1' := up c1
  go_enter Tryz.func142, Tryz.ntmps142
  go_wp2
  go_region
  go_wp2
  exact bodyPost_ret (v := .agg #[.int .i64 N, .slice ao rn rc]) (by simp [results, Tryz.results142, go_sem]) rfl ⟨rfl, ((Below.refl _ _).alloc (Nat.le_refl _) _).drew⟩

/-- A way that is not empty, as its last spot lies there. -/
theorem WayIs.last {w : World} {F : Nat → Prop} {v : Value} {way : List Spot} (h : WayIs w F v way) (s : Spot) (hs : way.getLast? = some s) :
    ∃ g cap ao c, v = .slice (some ⟨g, 0, none⟩) way.length cap ∧ 0 < way.length ∧ way.length ≤ maxLen ∧ RowIs w F (.slice ao s.row.length c) s.row ∧
      w.cell? ⟨g, (way.length - 1) * 2, none⟩ = some (.int .i64 s.n) ∧ w.cell? ⟨g, (way.length - 1) * 2 + 1, none⟩ = some (.slice ao s.row.length c) := by
  obtain ⟨vs, hE, hO⟩ := h
  have hl := zip_len (c := spotCells) hE
  have hpos : 0 < way.length := by
    rcases way with _ | ⟨a, l⟩
    · simp at hs
    · simp
  have hi : way[way.length - 1]? = some s := by rw [← List.getLast?_eq_getElem?]; exact hs
  obtain ⟨rv, hrv, hrow, hz⟩ := idx_row (c := spotCells) hE hi
  rcases hO.opened with ⟨rfl, hn⟩ | ⟨g, cap, rfl, hcap, hmax, hF, hb, hcell, _⟩
  · rw [hn] at hl
    simp at hl
    omega
  · obtain ⟨ao, c, rfl⟩ := Own.form hrow
    simp only [List.length_map] at hrow hrv hz hcell
    exact ⟨g, cap, ao, c, by rw [hl], hpos, by omega, hrow, hcell _ _ 0 _ hz rfl, hcell _ _ 1 _ hz rfl⟩

/-- The i-th fid, as it lies in the list. -/
theorem FidsIs.at {w : World} {F : Nat → Prop} {v : Value} {fids : List Fid} (h : FidsIs w F v fids) (i : Nat) (f : Fid) (hf : fids[i]? = some f) :
    ∃ g cap wv, v = .slice (some ⟨g, 0, none⟩) fids.length cap ∧ fids.length ≤ maxLen ∧ F g ∧ (∃ cur, w.heap[g]? = some (.cells cur 216 (0, 0))) ∧ WayIs w F wv f.way ∧
      w.cell? ⟨g, i * 3, none⟩ = some (.int .i64 f.n) ∧ w.cell? ⟨g, i * 3 + 1, none⟩ = some wv ∧ w.cell? ⟨g, i * 3 + 2, none⟩ = some (.bool f.op) ∧ (∀ j, w.frozen? ⟨g, j, none⟩ = false) := by
  obtain ⟨vs, hE, hO⟩ := h
  have hl := zip_len (c := fidCells) hE
  obtain ⟨wv, hwv, hway, hz⟩ := idx_row (c := fidCells) hE hf
  rcases hO.opened with ⟨rfl, hn⟩ | ⟨g, cap, rfl, hcap, hmax, hF, hb, hcell, hfz⟩
  · rw [hn] at hz
    simp at hz
  · exact ⟨g, cap, wv, by rw [hl], by omega, hF, hb, hway, hcell _ _ 0 _ hz rfl, hcell _ _ 1 _ hz rfl, hcell _ _ 2 _ hz rfl, hfz⟩

/-- The nodes, as they lie in the list. -/
theorem RefHas.nodesAt {w : World} {F : Nat → Prop} {r : Nat} {st : St} {nv lv fv : Value} (h : RefHas w F r st nv lv fv) (h0 : 0 < st.nodes.length) :
    ∃ g cap, nv = .slice (some ⟨g, 0, none⟩) st.nodes.length cap ∧ st.nodes.length ≤ maxLen ∧ F g ∧ (∃ cur, w.heap[g]? = some (.cells cur 184 (0, 0))) ∧
      (∀ i x, st.nodes[i]? = some x → w.cell? ⟨g, i * 6, none⟩ = some (.string x.name) ∧ w.cell? ⟨g, i * 6 + 1, none⟩ = some (.bool x.dir) ∧ w.cell? ⟨g, i * 6 + 2, none⟩ = some (.int .i64 x.inn) ∧
        w.cell? ⟨g, i * 6 + 3, none⟩ = some (.string x.data) ∧ w.cell? ⟨g, i * 6 + 4, none⟩ = some (.int .i64 x.version) ∧ w.cell? ⟨g, i * 6 + 5, none⟩ = some (.bool x.gone)) ∧ (∀ j, w.frozen? ⟨g, j, none⟩ = false) := by
  rcases h.nodes.opened with ⟨rfl, hn⟩ | ⟨g, cap, rfl, hcap, hmax, hF, hb, hcell, hfz⟩
  · have := congrArg List.length hn
    rw [List.length_map] at this
    simp only [List.length_nil] at this
    omega
  · rw [List.length_map] at hcap
    refine ⟨g, cap, by rw [List.length_map], by omega, hF, hb, fun i x hx => ?_, hfz⟩
    have hz : (st.nodes.map nodeCells)[i]? = some (nodeCells x) := by rw [List.getElem?_map, hx]; rfl
    exact ⟨hcell _ _ 0 _ hz rfl, hcell _ _ 1 _ hz rfl, hcell _ _ 2 _ hz rfl, hcell _ _ 3 _ hz rfl, hcell _ _ 4 _ hz rfl, hcell _ _ 5 _ hz rfl⟩

/-- How 'row' ends. -/
def RowEnd (laid : List Laid) (rvs : List Value) (d : Nat) (w : World) (e : Ending) (w' : World) : Prop :=
  (∃ (i : Nat) (l : Laid) (v : Value), laid[i]? = some l ∧ laid.find? (fun l => l.onto == d) = some l ∧ rvs[i]? = some v ∧ e = .returned v ∧ w' = w) ∨
      (laid.find? (fun l => l.onto == d) = none ∧ e = .returned (.slice (some ⟨w.heap.size, 0, none⟩) 1 1) ∧ w' = w.alloc (.cells #[.int .i64 d, .bool true] 222))

set_option maxHeartbeats 400000 in
theorem row_core (r lb cap : Nat) (laid : List Laid) (rvs : List Value) (d : Nat) (w : World)
    (h2 : w.cell? ⟨r, 1, none⟩ = some (.slice (some ⟨lb, 0, none⟩) laid.length cap)) (hl : laid.length ≤ maxLen)
    (hc : ∀ i l, laid[i]? = some l → ∃ v, rvs[i]? = some v ∧ w.cell? ⟨lb, i * 2, none⟩ = some (.int .i64 l.onto) ∧ w.cell? ⟨lb, i * 2 + 1, none⟩ = some v) :
    Calls Tryz.prog 147 #[.pointer (some ⟨r, 0, none⟩), .int .i64 d] w fun e w' => RowEnd laid rvs d w e w' := by
  unfold maxLen at hl
  go_enter Tryz.func147, Tryz.ntmps147
  go_wp2
  go_loop [5] (fun i => ∃ k : Nat, k ≤ laid.length ∧ i = .int .i64 k ∧ ∀ j y, j < k → laid[j]? = some y → (y.onto == d) = false) (fun i => laid.length - (intOf i).toNat)
  case atStart => exact ⟨0, Nat.zero_le _, rfl, by omega⟩
  case round =>
    obtain ⟨k, hk, rfl, hno⟩ := hrel
    have Hno := hide hno
    clear hno
    by_cases hlt : k < laid.length
    · obtain ⟨l, hf⟩ := getElem?_of_lt hlt
      obtain ⟨v, hv, c0, c1⟩ := hc k l hf
      have Hf := hide hf
      have Hv := hide hv
      clear hf hc hv
      cases hfn : (l.onto == d) with
      | true =>
        have hfn' : ((l.onto : Int) == (d : Int)) = true := by simp only [beq_iff_eq] at hfn ⊢; omega
        have Hfn := hide hfn
        clear hfn
        go_wp2
        go_ret
        exact .inl ⟨k, l, v, Hf.out, find?_some_of _ _ k l Hf.out Hfn.out Hno.out, Hv.out, rfl, rfl⟩
      | false =>
        have hfn' : ((l.onto : Int) == (d : Int)) = false := by simp only [beq_eq_false_iff_ne] at hfn ⊢; omega
        have Hfn := hide hfn
        clear hfn
        go_wp2
        go_round
        case rel =>
          refine ⟨k + 1, by omega, by go_num, fun j y hj hy => ?_⟩
          by_cases h : j = k
          · subst h
            rw [Hf.out] at hy
            cases hy
            exact Hfn.out
          · exact Hno.out j y (by omega) hy
        case measure => simp [intOf]; omega
    · go_wp2
      go_ret
      exact .inr ⟨find?_none_of _ _ (fun j y hy => Hno.out j y (by have := M.lt_of_getElem? hy; omega) hy), rfl, rfl⟩

theorem row_nil (r : Nat) (d : Nat) (w : World) (h2 : w.cell? ⟨r, 1, none⟩ = some (.slice none 0 0)) :
    Calls Tryz.prog 147 #[.pointer (some ⟨r, 0, none⟩), .int .i64 d] w fun e w' => e = .returned (.slice (some ⟨w.heap.size, 0, none⟩) 1 1) ∧ w' = w.alloc (.cells #[.int .i64 d, .bool true] 222) := by
  go_enter Tryz.func147, Tryz.ntmps147
  go_wp2
  go_loop [5] (fun i => i = .int .i64 0) (fun _ => 0)
  case atStart => rfl
  case round =>
    subst hrel
    go_wp2
    go_ret
    exact ⟨rfl, rfl⟩

theorem row_lit (w : World) (F : Nat → Prop) (d : Nat) : RowIs (w.alloc (.cells #[.int .i64 d, .bool true] 222)) (ext F w (w.alloc (.cells #[.int .i64 d, .bool true] 222))) (.slice (some ⟨w.heap.size, 0, none⟩) 1 1) [⟨d, true⟩] := by
  refine ⟨World.ownsRow_lit w #[.int .i64 d, .bool true] 1 (Nat.zero_le _) (by decide) rfl, by simp [memberCells], fun k hk => ?_⟩
  simp [Value.ownBlock] at hk
  subst hk
  exact .inr ⟨Nat.le_refl _, by simp⟩

/-- 'row': what is seen of a directory now. -/
theorem row_any {w : World} {F : Nat → Prop} {r : Nat} {st : St} (d : Nat) (h : RefIs w F r st) :
    Calls Tryz.prog 147 #[.pointer (some ⟨r, 0, none⟩), .int .i64 d] w fun e w' => ∃ ao c, e = .returned (.slice ao (rowOf st d).length c) ∧ RowIs w' (ext F w w') (.slice ao (rowOf st d).length c) (rowOf st d) ∧ Below w.heap.size w w' := by
  obtain ⟨nv, lv, fv, h⟩ := h
  obtain ⟨vs, hE, hO⟩ := h.laid
  have hl := zip_len (c := laidCells) hE
  rcases hO.opened with ⟨rfl, hn⟩ | ⟨g, cap, rfl, hcap, hmax, hF, hb, hcell, _⟩
  · have h0 : st.laid = [] := by
      rw [hn] at hl
      exact List.length_eq_zero_iff.1 hl.symm
    have hr : rowOf st d = [⟨d, true⟩] := by simp [rowOf, h0]
    rw [hr]
    refine (row_nil r d w h.c1).mono ?_
    rintro e w' ⟨rfl, rfl⟩
    exact ⟨_, _, rfl, row_lit w F d, (Below.refl _ _).alloc (Nat.le_refl _) _⟩
  · rw [hl] at hcap
    refine (row_core r g cap st.laid vs d w (by rw [h.c1, hl]) (by omega) ?_).mono ?_
    · intro i l hi
      obtain ⟨v, hv, _, hz⟩ := idx_row (c := laidCells) hE hi
      exact ⟨v, hv, hcell _ _ 0 _ hz rfl, hcell _ _ 1 _ hz rfl⟩
    · rintro e w' (⟨i, l, v, hi, hfd, hv, rfl, rfl⟩ | ⟨hfd, rfl, rfl⟩)
      · have hr : rowOf st d = l.row := by simp [rowOf, hfd]
        have hrow := hE.2 i v l hv hi
        obtain ⟨ao, c, rfl⟩ := Own.form hrow
        simp only [List.length_map] at hrow
        rw [hr]
        refine ⟨ao, c, by simp, hrow.mono (fun k hk => .inl hk), Below.refl _ _⟩
      · have hr : rowOf st d = [⟨d, true⟩] := by simp [rowOf, hfd]
        rw [hr]
        exact ⟨_, _, rfl, row_lit w F d, (Below.refl _ _).alloc (Nat.le_refl _) _⟩
end Go.Proofs.YtdmdgnghaceibaaGreat
/- The reference's reading functions: come, lies, seen, count, node, IsName. -/
namespace Go.Proofs.YtdmdgnghaceibaaGreat
open M Go.ChangeShapes Go.WideShapes Go.ChangeAt Go.RowKit
set_option linter.unusedVariables false

set_option maxHeartbeats 400000 in
/-- 'come': the spot of a node, now. -/
theorem come_any {w : World} {F : Nat → Prop} {r : Nat} {st : St} (n : Nat) (hn : n < st.nodes.length) (h : RefIs w F r st) :
    Calls Tryz.prog 138 #[.pointer (some ⟨r, 0, none⟩), .int .i64 n] w fun e w' => ∃ ao c, e = .returned (.agg #[.int .i64 n, .slice ao (come st n).row.length c]) ∧ RowIs w' (ext F w w') (.slice ao (come st n).row.length c) (come st n).row ∧ Below w.heap.size w w' := by
  have hR := h
  obtain ⟨nv, lv, fv, h⟩ := h
  obtain ⟨g, cap, rfl, hmax, hF, hb, hcell, hfz⟩ := h.nodesAt (by omega)
  unfold maxLen at hmax
  obtain ⟨x, hx⟩ := getElem?_of_lt hn
  obtain ⟨_, hdir, _⟩ := hcell n x hx
  have h0 := up2 h.c0
  have hd := up2 hdir
  have HR := hide hR
  have hD : isDir st n = x.dir := by simp [isDir, hx]
  have HD := hide hD
  have Hx := hide hx
  clear hR hD hx hcell hb h hfz hdir
  cases hxd : x.dir with
  | false =>
    rw [hxd] at hd HD
    go_enter Tryz.func138, Tryz.ntmps138
    go_wp2
    have hc : (come st n).row = [] := by simp [come, HD.out]
    rw [hc]
    refine bodyPost_ret (v := .agg #[.int .i64 n, .slice none 0 0]) (by simp [results, Tryz.results138, go_sem]) rfl ⟨none, 0, rfl, Own.nil _ _ _ _, ?_⟩
    exact ((Below.refl _ _).alloc (Nat.le_refl _) _).alloc (by simp) _
  | true =>
    rw [hxd] at hd HD
    have hc : (come st n).row = rowOf st n := by simp [come, HD.out]
    rw [hc]
    go_enter Tryz.func138, Tryz.ntmps138
    go_wp2_with fail
    refine (row_any n ((HR.out.alloc _).alloc _)).mono ?_
    rintro e w1 ⟨ao, c, rfl, hrow, hb⟩
    obtain ⟨hcw, hfw⟩ := bcell hb
    have hz : w.heap.size + 1 < w1.heap.size := by have := hb.size; simp at this; omega
    have Hrow := hide hrow
    have Hb := hide hb
    clear hrow hb h0 hd
    go_wp2
    have hb := Hb.out
    have hrow := Hrow.out
    have t0 : Ty w1 w.heap.size 212 := ((Ty.new _ _ _).alloc _).below hb (by simp <;> omega)
    have t1 : Ty w1 (w.heap.size + 1) 212 := by
      have := (Ty.new (w.alloc (.cells #[.int .i64 0, .slice none 0 0] 212)) #[.int .i64 n, .slice none 0 0] 212).below hb (by simp <;> omega)
      simpa using this
    have e0 : w1.cell? ⟨w.heap.size, 0, none⟩ = some (.int .i64 0) := by rw [hcw _ _ (by simp <;> omega)]; simp
    have e1 : w1.cell? ⟨w.heap.size, 1, none⟩ = some (.slice none 0 0) := by rw [hcw _ _ (by simp <;> omega)]; simp
    have q0 := World.cell?_setCell_same (w1.setCell ⟨w.heap.size + 1, 1, none⟩ (.slice ao (rowOf st n).length c)) ⟨w.heap.size, 0, none⟩ (.int .i64 n) ((World.cell?_setCell_other w1 _ _ _ (by simp)).trans e0)
    have q1 := World.cell?_setCell_same ((w1.setCell ⟨w.heap.size + 1, 1, none⟩ (.slice ao (rowOf st n).length c)).setCell ⟨w.heap.size, 0, none⟩ (.int .i64 n)) ⟨w.heap.size, 1, none⟩ (.slice ao (rowOf st n).length c) ((World.cell?_setCell_other _ _ _ _ (by simp)).trans ((World.cell?_setCell_other w1 _ _ _ (by simp)).trans e1))
    refine bodyPost_ret (v := .agg #[.int .i64 n, .slice ao (rowOf st n).length c]) (by simp [results, Tryz.results138, go_sem, q0, q1]) rfl ⟨ao, c, rfl, ?_, ?_⟩
    · refine (hrow.mono (ext_le (by simp <;> omega) (by simp))).keepT (T := fun e => e = 222) ?_ rfl
      exact (((KeepT.refl _ _ _).setTy t1 (by decide) _).setTy (t0.setCell _ _) (by decide) _).setTy ((t0.setCell _ _).setCell _ _) (by decide) _
    · exact ((((((Below.refl _ _).alloc (Nat.le_refl _) _).alloc (by simp) _).trans (hb.mono (by simp <;> omega))).setCell (by simp <;> omega) _).setCell (by simp <;> omega) _).setCell (by simp) _
end Go.Proofs.YtdmdgnghaceibaaGreat
/- The reference's 'lies', 'seen', 'count', 'node'. -/
namespace Go.Proofs.YtdmdgnghaceibaaGreat
open M Go.ChangeShapes Go.WideShapes Go.ChangeAt Go.RowKit
set_option linter.unusedVariables false

set_option maxHeartbeats 1000000 in
theorem lies_core (r g cap : Nat) (nodes : List Nd) (d : Nat) (name : ByteArray) (w : World) (hl : nodes.length ≤ maxLen)
    (h0 : w.cell? ⟨r, 0, none⟩ = some (.slice (some ⟨g, 0, none⟩) nodes.length cap))
    (hc : ∀ i x, nodes[i]? = some x → w.cell? ⟨g, i * 6, none⟩ = some (.string x.name) ∧ w.cell? ⟨g, i * 6 + 2, none⟩ = some (.int .i64 x.inn) ∧ w.cell? ⟨g, i * 6 + 5, none⟩ = some (.bool x.gone)) :
    Calls Tryz.prog 174 #[.pointer (some ⟨r, 0, none⟩), .int .i64 d, .string name] w fun e w' => e = .returned (.int .i64 (idxV (nodes.findIdx? (liesHere d name)))) ∧ w' = w := by
  unfold maxLen at hl
  go_enter Tryz.func174, Tryz.ntmps174
  go_wp2
  go_loop [7] (fun i => ∃ k : Nat, k ≤ nodes.length ∧ i = .int .i64 k ∧ ∀ j y, j < k → nodes[j]? = some y → liesHere d name y = false) (fun i => nodes.length - (intOf i).toNat)
  case atStart => exact ⟨0, Nat.zero_le _, rfl, by omega⟩
  case round =>
    obtain ⟨k, hk, rfl, hno⟩ := hrel
    have Hno := hide hno
    clear hno
    by_cases hlt : k < nodes.length
    · obtain ⟨x, hx⟩ := getElem?_of_lt hlt
      obtain ⟨c0, c2, c5⟩ := hc k x hx
      have Hx := hide hx
      clear hx hc
      have hnext : liesHere d name x = false → (∃ m : Nat, m ≤ nodes.length ∧ Value.int .i64 ((k : Int) + 1) = .int .i64 m ∧ ∀ j y, j < m → nodes[j]? = some y → liesHere d name y = false) := fun hf => by
        refine ⟨k + 1, by omega, by go_num, fun j y hj hy => ?_⟩
        by_cases h : j = k
        · subst h
          rw [Hx.out] at hy
          cases hy
          exact hf
        · exact Hno.out j y (by omega) hy
      have Hnext := hide hnext
      clear hnext
      cases h1 : (x.inn == (d : Int)) with
      | false =>
        have Hf := hide (show liesHere d name x = false by simp [liesHere, h1])
        go_wp2
        go_round
        case rel => exact Hnext.out Hf.out
        case measure => simp [intOf]; omega
      | true =>
        by_cases h2 : x.name.toList = name.toList
        · cases h3 : x.gone with
          | true =>
            rw [h3] at c5
            have Hf := hide (show liesHere d name x = false by simp [liesHere, h3])
            go_wp2
            go_round
            case rel => exact Hnext.out Hf.out
            case measure => simp [intOf]; omega
          | false =>
            rw [h3] at c5
            have Hf := hide (show liesHere d name x = true by simp [liesHere, h1, h2, h3])
            go_wp2
            go_ret
            exact ⟨by rw [findIdx?_some_of _ _ k x Hx.out Hf.out Hno.out]; rfl, rfl⟩
        · have Hf := hide (show liesHere d name x = false by simp [liesHere, h2])
          go_wp2
          go_round
          case rel => exact Hnext.out Hf.out
          case measure => simp [intOf]; omega
    · go_wp2
      go_ret
      exact ⟨by rw [findIdx?_none_of _ _ (fun j y hy => Hno.out j y (by have := M.lt_of_getElem? hy; omega) hy)]; rfl, rfl⟩

/-- 'lies': the node of this name in a directory. -/
theorem lies_any {w : World} {F : Nat → Prop} {r : Nat} {st : St} (d : Nat) (name : ByteArray) (h0 : 0 < st.nodes.length) (h : RefIs w F r st) :
    Calls Tryz.prog 174 #[.pointer (some ⟨r, 0, none⟩), .int .i64 d, .string name] w fun e w' => e = .returned (.int .i64 (idxV (lies st d name))) ∧ w' = w := by
  obtain ⟨nv, lv, fv, h⟩ := h
  obtain ⟨g, cap, rfl, hmax, hF, hb, hcell, hfz⟩ := h.nodesAt h0
  exact lies_core r g cap st.nodes d name w hmax h.c0 (fun i x hx => ⟨(hcell i x hx).1, (hcell i x hx).2.2.1, (hcell i x hx).2.2.2.2.2⟩)

def liveCount (l : List Nd) : Nat := (l.filter fun x => !x.gone).length

theorem liveCount_snoc (l : List Nd) (k : Nat) (x : Nd) (hx : l[k]? = some x) : liveCount (l.take (k + 1)) = liveCount (l.take k) + (if x.gone then 0 else 1) := by
  have hlt := M.lt_of_getElem? hx
  have : l[k] = x := by rw [List.getElem?_eq_getElem hlt] at hx; exact Option.some.inj hx
  rw [List.take_succ_eq_append_getElem hlt, this]
  unfold liveCount
  rw [List.filter_append, List.length_append]
  cases h : x.gone <;> simp [h]

theorem liveCount_le (l : List Nd) (k : Nat) : liveCount (l.take k) ≤ k := by
  unfold liveCount
  exact Nat.le_trans (List.length_filter_le _ _) (List.length_take_le _ _)

set_option maxHeartbeats 400000 in
theorem count_core (r g cap : Nat) (nodes : List Nd) (w : World) (hl : nodes.length ≤ maxLen)
    (h0 : w.cell? ⟨r, 0, none⟩ = some (.slice (some ⟨g, 0, none⟩) nodes.length cap))
    (hc : ∀ i x, nodes[i]? = some x → w.cell? ⟨g, i * 6 + 5, none⟩ = some (.bool x.gone)) :
    Calls Tryz.prog 144 #[.pointer (some ⟨r, 0, none⟩)] w fun e w' => e = .returned (.int .i64 (liveCount nodes)) ∧ w' = w := by
  unfold maxLen at hl
  go_enter Tryz.func144, Tryz.ntmps144
  go_wp2
  go_loop [3, 4] (fun n i => ∃ k : Nat, k ≤ nodes.length ∧ i = .int .i64 k ∧ n = .int .i64 (liveCount (nodes.take k))) (fun _ i => nodes.length - (intOf i).toNat)
  case atStart => exact ⟨0, Nat.zero_le _, rfl, rfl⟩
  case round =>
    obtain ⟨k, hk, rfl, rfl⟩ := hrel
    have hle := liveCount_le nodes k
    by_cases hlt : k < nodes.length
    · obtain ⟨x, hx⟩ := getElem?_of_lt hlt
      have c5 := hc k x hx
      have Hs := hide (liveCount_snoc nodes k x hx)
      clear hx hc
      generalize liveCount (nodes.take k) = m at *
      cases h3 : x.gone with
      | true =>
        rw [h3] at c5 Hs
        go_wp2
        go_round
        case rel => exact ⟨k + 1, by omega, by go_num, by rw [Hs.out]; rfl⟩
        case measure => simp [intOf]; omega
      | false =>
        rw [h3] at c5 Hs
        go_wp2
        go_round
        case rel => exact ⟨k + 1, by omega, by go_num, by rw [Hs.out]; go_num⟩
        case measure => simp [intOf]; omega
    · have e : nodes.take k = nodes := List.take_of_length_le (by omega)
      rw [e] at hle
      rw [e]
      go_wp2
      go_ret
      exact ⟨rfl, rfl⟩

/-- 'count': how many nodes there are. -/
theorem count_any {w : World} {F : Nat → Prop} {r : Nat} {st : St} (h0 : 0 < st.nodes.length) (h : RefIs w F r st) :
    Calls Tryz.prog 144 #[.pointer (some ⟨r, 0, none⟩)] w fun e w' => e = .returned (.int .i64 (liveCount st.nodes)) ∧ w' = w := by
  obtain ⟨nv, lv, fv, h⟩ := h
  obtain ⟨g, cap, rfl, hmax, hF, hb, hcell, hfz⟩ := h.nodesAt h0
  exact count_core r g cap st.nodes w hmax h.c0 (fun i x hx => (hcell i x hx).2.2.2.2.2)
end Go.Proofs.YtdmdgnghaceibaaGreat
/- The reference's 'seen', 'node'. -/
namespace Go.Proofs.YtdmdgnghaceibaaGreat
open M Go.ChangeShapes Go.WideShapes Go.ChangeAt Go.RowKit
set_option linter.unusedVariables false

theorem seen_drop (st : St) (name : ByteArray) (row : List Member) (k : Nat) (m : Member) (hm : row[k]? = some m) :
    seenIn st name (row.drop k) = if isGone st m.d then seenIn st name (row.drop (k + 1)) else match lies st m.d name with | some n => some n | none => seenIn st name (row.drop (k + 1)) := by
  have hlt := M.lt_of_getElem? hm
  have : row[k] = m := by rw [List.getElem?_eq_getElem hlt] at hm; exact Option.some.inj hm
  rw [List.drop_eq_getElem_cons hlt, this]
  rfl

set_option maxHeartbeats 1000000 in
theorem seen_core {w : World} {F : Nat → Prop} {r : Nat} {st : St} (row : List Member) (name : ByteArray) (rb rc : Nat) (h : RefIs w F r st) (h0 : 0 < st.nodes.length) (hl : row.length ≤ maxLen)
    (hrow : ∀ i m, row[i]? = some m → w.cell? ⟨rb, i * 2, none⟩ = some (.int .i64 m.d) ∧ m.d < st.nodes.length) :
    Calls Tryz.prog 143 #[.pointer (some ⟨r, 0, none⟩), .slice (some ⟨rb, 0, none⟩) row.length rc, .string name] w fun e w' => e = .returned (.int .i64 (idxV (seenIn st name row))) ∧ Below w.heap.size w w' := by
  have HR := hide h
  obtain ⟨nv, lv, fv, h⟩ := h
  obtain ⟨g, cap, rfl, hmax, hF, hb, hcell, hfz⟩ := h.nodesAt h0
  have hc0 := h.c0
  unfold maxLen at hl hmax
  clear h hb hfz hF
  go_enter Tryz.func143, Tryz.ntmps143
  go_wp2
  go_loopw [7] (fun i wr => ∃ k : Nat, k ≤ row.length ∧ i = .int .i64 k ∧ seenIn st name (row.drop k) = seenIn st name row ∧ Below w.heap.size w wr) (fun i _ => row.length - (intOf i).toNat)
  case atStart => exact ⟨0, Nat.zero_le _, rfl, rfl, Below.refl _ _⟩
  case round =>
    obtain ⟨k, hk, rfl, hsn, hbl⟩ := hrel
    have HB := hide hbl
    have Hsn := hide hsn
    clear hsn
    by_cases hlt : k < row.length
    · obtain ⟨m, hm⟩ := getElem?_of_lt hlt
      obtain ⟨cm, hd⟩ := hrow k m hm
      obtain ⟨x, hx⟩ := getElem?_of_lt hd
      have c5 := (hcell m.d x hx).2.2.2.2.2
      have cm' : wr.cell? ⟨rb, k * 2, none⟩ = some (.int .i64 m.d) := (hbl.cell (World.block_lt_of_cell? w _ cm)).trans cm
      have c5' : wr.cell? ⟨g, m.d * 6 + 5, none⟩ = some (.bool x.gone) := (hbl.cell (World.block_lt_of_cell? w _ c5)).trans c5
      have c0' : wr.cell? ⟨r, 0, none⟩ = some (.slice (some ⟨g, 0, none⟩) st.nodes.length cap) := (hbl.cell (World.block_lt_of_cell? w _ hc0)).trans hc0
      have Hsd := hide (seen_drop st name row k m hm)
      have Hg := hide (show isGone st m.d = x.gone by simp [isGone, hx])
      have b1 : (m.d : Int) < (st.nodes.length : Int) := by omega
      have b2 : (k : Int) < (row.length : Int) := by omega
      have b3 : (0 : Int) ≤ (m.d : Int) := by omega
      have b4 : (0 : Int) ≤ (k : Int) := by omega
      clear hx hm hcell hrow cm c5 hc0 hbl
      cases hxg : x.gone with
      | true =>
        rw [hxg] at c5' Hg
        go_wp2
        go_quiet (fail)
        go_wp2
        go_roundw
        case rel => exact ⟨k + 1, by omega, by go_num, by rw [← Hsn.out, Hsd.out, Hg.out]; rfl, HB.out.trans ⟨rfl, rfl, rfl, Nat.le_refl _, fun _ _ => rfl⟩⟩
        case measure => simp [intOf]; omega
      | false =>
        rw [hxg] at c5' Hg
        go_wp2
        go_quiet (fail)
        go_wp2_with fail
        have HB2 := hide (HB.out.trans (below_drewN (Below.refl w.heap.size wr) nq))
        refine (lies_any m.d name h0 (HR.out.below HB2.out)).mono ?_
        rintro e w1 ⟨rfl, rfl⟩
        cases hli : lies st m.d name with
        | some n =>
          have HE := hide (show seenIn st name row = some n by rw [← Hsn.out, Hsd.out, Hg.out, hli]; rfl)
          clear hli
          have b5 : (0 : Int) ≤ (n : Int) := by omega
          simp only [idxV]
          go_wp2
          go_ret
          exact ⟨by rw [HE.out]; rfl, HB2.out⟩
        | none =>
          have HE := hide (show seenIn st name (row.drop (k + 1)) = seenIn st name row by rw [← Hsn.out, Hsd.out, Hg.out, hli]; rfl)
          clear hli
          simp only [idxV]
          go_wp2
          go_roundw
          case rel => exact ⟨k + 1, by omega, by go_num, HE.out, HB2.out⟩
          case measure => simp [intOf]; omega
    · have HE := hide (show seenIn st name row = none by rw [← Hsn.out, List.drop_eq_nil_of_le (by omega)]; rfl)
      go_wp2
      go_ret
      exact ⟨by rw [HE.out]; rfl, HB.out⟩

theorem seen_nil {w : World} {r : Nat} (name : ByteArray) :
    Calls Tryz.prog 143 #[.pointer (some ⟨r, 0, none⟩), .slice none 0 0, .string name] w fun e w' => e = .returned (.int .i64 (-1)) ∧ w' = w := by
  go_enter Tryz.func143, Tryz.ntmps143
  go_wp2
  go_loop [7] (fun i => i = .int .i64 0) (fun _ => 0)
  case atStart => rfl
  case round =>
    subst hrel
    go_wp2
    go_ret
    exact ⟨rfl, rfl⟩

/-- The members of a row are nodes. -/
def RowOk (st : St) (row : List Member) : Prop := ∀ m ∈ row, m.d < st.nodes.length

/-- 'seen': the node of this name in a row. -/
theorem seen_any {w : World} {F : Nat → Prop} {r : Nat} {st : St} (row : List Member) (name : ByteArray) (v : Value) (h : RefIs w F r st) (h0 : 0 < st.nodes.length) (hv : RowIs w F v row) (hok : RowOk st row) :
    Calls Tryz.prog 143 #[.pointer (some ⟨r, 0, none⟩), v, .string name] w fun e w' => e = .returned (.int .i64 (idxV (seenIn st name row))) ∧ Below w.heap.size w w' := by
  rcases hv.opened with ⟨rfl, hn⟩ | ⟨g, cap, rfl, hcap, hmax, hF, hb, hcell, hfz⟩
  · have h0 : row = [] := List.map_eq_nil_iff.1 hn
    subst h0
    refine (seen_nil name).mono ?_
    rintro e w' ⟨rfl, rfl⟩
    exact ⟨rfl, Below.refl _ _⟩
  · rw [List.length_map] at hcap ⊢
    refine seen_core row name g cap h h0 (by omega) (fun i m hm => ⟨?_, hok m (List.mem_of_getElem? hm)⟩)
    have hz : (row.map memberCells)[i]? = some (memberCells m) := by rw [List.getElem?_map, hm]; rfl
    exact hcell _ _ 0 _ hz rfl

set_option maxRecDepth 20000 in
set_option maxHeartbeats 1000000 in
/-- 'node': where a fid's node lies. -/
theorem node_any {w : World} {F : Nat → Prop} {r : Nat} {st : St} (i : Nat) (f : Fid) (s : Spot) (hf : st.fids[i]? = some f) (hs : f.way.getLast? = some s) (hn : s.n < st.nodes.length) (h : RefIs w F r st) :
    Calls Tryz.prog 140 #[.pointer (some ⟨r, 0, none⟩), .int .i64 i] w fun e w' => ∃ g cap, w.cell? ⟨r, 0, none⟩ = some (.slice (some ⟨g, 0, none⟩) st.nodes.length cap) ∧ e = .returned (.pointer (some ⟨g, s.n * 6, none⟩)) ∧ Below w.heap.size w w' := by
  obtain ⟨nv, lv, fv, h⟩ := h
  obtain ⟨g, cap, rfl, hmax, hF, hb, hcell, hfz⟩ := h.nodesAt (by omega)
  obtain ⟨fg, fcap, wv, rfl, hfm, _, _, hway, _, c1, _, _⟩ := h.fids.at i f hf
  obtain ⟨gw, wcap, ao, c, rfl, hwpos, hwmax, hrow, s0, s1⟩ := hway.last s hs
  have hi := M.lt_of_getElem? hf
  have hc0 := h.c0
  have hc2 := h.c2
  unfold maxLen at hmax hfm hwmax
  have b1 : (s.n : Int) < (st.nodes.length : Int) := by omega
  have b2 : (i : Int) < (st.fids.length : Int) := by omega
  have b3 : (0 : Int) ≤ (s.n : Int) := by omega
  have b4 : (0 : Int) ≤ (i : Int) := by omega
  have HG := hide hc0
  have hfd : ∀ (u : Value) (W : World), (Instr.field 212 (.agg #[.int .i64 s.n, u]) 0).run Tryz.prog W = .ok (.int .i64 s.n) W := fun _ _ => by kernel_rfl
  clear hcell hb hfz hF h hrow hf hs
  go_enter Tryz.func140, Tryz.ntmps140
  go_wp2
  go_region_with (go_at_call 142; refine (spot_core fg (i * 3) gw f.way.length wcap s.n ao s.row.length c _ hwpos (by unfold maxLen; exact hwmax) ?_ ?_ ?_).mono ?_; exact c1; exact s0; exact s1; rintro e w1 ⟨rfl, hb1⟩; have hcw : w1.cell? ⟨r, 0, none⟩ = some (.slice (some ⟨g, 0, none⟩) st.nodes.length cap) := (hb1.cell (World.block_lt_of_cell? w _ HG.out)).trans HG.out; have HB1 := hide hb1; clear hb1)
  all_goals go_wp2
  all_goals (go_ret; exact ⟨g, cap, HG.out, rfl, ((Below.refl _ w).drew).trans HB1.out⟩)
end Go.Proofs.YtdmdgnghaceibaaGreat
/- The reference's 'IsName'. -/
namespace Go.Proofs.YtdmdgnghaceibaaGreat
open M Go.ChangeShapes Go.WideShapes Go.ChangeAt Go.RowKit
set_option linter.unusedVariables false

set_option maxRecDepth 100000 in
set_option maxHeartbeats 1000000 in
/-- 'IsName'. -/
theorem isName_any (s : ByteArray) (w : World) (hs : s.size ≤ maxLen) :
    Calls Tryz.prog 141 #[.string s] w fun e w' => e = .returned (.bool (isName s)) ∧ w' = w := by
  unfold maxLen at hs
  by_cases e0 : s.toList = []
  · have H := hide (show isName s = false by simp [isName, badText, e0])
    go_enter Tryz.func141, Tryz.ntmps141
    go_wp2
    go_ret
    exact ⟨by rw [H.out]; rfl, rfl⟩
  · by_cases e1 : s.toList = [46]
    · have H := hide (show isName s = false by simp [isName, badText, e1])
      go_enter Tryz.func141, Tryz.ntmps141
      go_wp2
      go_ret
      exact ⟨by rw [H.out]; rfl, rfl⟩
    · by_cases e2 : s.toList = [46, 46]
      · have H := hide (show isName s = false by simp [isName, badText, e2])
        go_enter Tryz.func141, Tryz.ntmps141
        go_wp2
        go_ret
        exact ⟨by rw [H.out]; rfl, rfl⟩
      · have f0 : s.toList.isEmpty = false := by simpa using e0
        have f1 : (s.toList == [46]) = false := by simpa using e1
        have f2 : (s.toList == [46, 46]) = false := by simpa using e2
        by_cases e3 : 12 < s.size
        · have H := hide (show isName s = false by simp [isName, badText, e3])
          have f3 : (12 : Int) < (s.size : Int) := by omega
          clear e3
          go_enter Tryz.func141, Tryz.ntmps141
          go_wp2
          go_ret
          exact ⟨by rw [H.out]; rfl, rfl⟩
        · have H := hide (show isName s = s.data.toList.all nameOk by simp [isName, badText, e0, e1, e2, e3])
          have f3 : (s.size : Int) ≤ 12 := by omega
          clear e3
          go_enter Tryz.func141, Tryz.ntmps141
          go_wp2
          go_loop [3] (fun i => ∃ k : Nat, k ≤ s.size ∧ i = .int .i64 k ∧ (s.data.toList.take k).all nameOk = true) (fun i => s.size - (intOf i).toNat)
          case atStart => exact ⟨0, Nat.zero_le _, rfl, rfl⟩
          case round =>
            obtain ⟨k, hk, rfl, hall⟩ := hrel
            have Hall := hide hall
            clear hall e0 e1 e2 f0 f1 f2
            by_cases hlt : k < s.size
            · go_wp2
              · go_ret
                exact ⟨by rw [H.out, not_all s k hlt (nameOk_no1 _ (by assumption))]; rfl, rfl⟩
              · go_round
                case rel => exact ⟨k + 1, by omega, by go_num, all_snoc s k hlt Hall.out (nameOk_yes _ (by assumption))⟩
                case measure => simp [intOf]; omega
              · go_ret
                exact ⟨by rw [H.out, not_all s k hlt (nameOk_no1 _ (.inl (.inr (by assumption))))]; rfl, rfl⟩
              · go_ret
                exact ⟨by rw [H.out, not_all s k hlt (nameOk_no1 _ (.inl (.inl (by assumption))))]; rfl, rfl⟩
            · go_wp2
              go_ret
              exact ⟨by rw [H.out, ← Hall.out, List.take_of_length_le (by simpa using (show s.size ≤ k by omega))]; simp, rfl⟩
end Go.Proofs.YtdmdgnghaceibaaGreat
