/- The program's walk from a place. -/
import Derived.Test.YtdmdgnghaceibaaGreatPart03
import Derived.Test.YtdmdgnghaceibaaGreatPart02
import Derived.Lib.Strings
import Derived.Lib.BufferWrite
import Derived.Laws.MakeOwn
namespace Go.Proofs.YtdmdgnghaceibaaGreat.P
open M Go.ChangeShapes Go.WideShapes Go.ChangeAt Go.RowKit
set_option linter.unusedVariables false

/-- The spots of a way lead somewhere. -/
def WayOk (st : St) (way : List Spot) : Prop := ∀ s ∈ way, s.n < st.nodes.length ∧ RowDirs st s.row

theorem come_ok {st : St} (ok : POk st) {c : Nat} (hc : c < st.nodes.length) : (come st c).n < st.nodes.length ∧ RowDirs st (come st c).row := by
  refine ⟨hc, ?_⟩
  unfold come
  simp only
  split
  · rename_i hd
    unfold rowOf
    split
    · rename_i l hl
      exact (ok.laid l (List.mem_of_find?_eq_some hl)).1
    · intro m hm
      simp at hm
      subst hm
      exact ⟨hc, hd⟩
  · intro m hm
    simp at hm

theorem wayStep_ok {st : St} (ok : POk st) {way : List Spot} (h : WayOk st way) (name : ByteArray) : WayOk st (wayStep st way name).2 := by
  unfold wayStep
  split
  · exact h
  · split
    · simp only
      split
      · exact fun s hs => h s (List.mem_of_mem_take hs)
      · exact h
    · split
      · exact h
      · split
        · exact h
        · split
          · split
            · exact h
            · rename_i c hc
              intro s hs
              rcases List.mem_append.1 hs with hs | hs
              · exact h s hs
              · simp at hs
                subst hs
                exact come_ok ok (seenIn_lt hc)
          · exact h

/-- How a walk ends. -/
def Walked (w : World) (F : Nat → Prop) (L : Lay) (x : Nat × Int × List Spot) (e : Ending) (w' : World) : Prop :=
  ∃ pv, e = .returned (.tuple #[pv, .int .i64 x.1, .int .i64 x.2.1]) ∧ Below w.heap.size w w' ∧ ((x.2.1 ≠ 0 ∧ pv = .pointer none) ∨ (x.2.1 = 0 ∧ ∃ p', pv = .pointer (some ⟨p', 0, none⟩) ∧ PlaceIs w' (ext F w w') L p' x.2.2.reverse))

set_option maxRecDepth 20000 in
set_option maxHeartbeats 1000000 in
theorem go_any {w : World} {F : Nat → Prop} {t : Nat} {st : St} {L : Lay} {bv : Nat → Value} (p : Nat) (way : List Spot) (names : List ByteArray) (ao : Option Addr) (nc : Nat) (h : TreeIs w F t st L bv) (hp : PlaceIs w F L p way.reverse) (ok : POk st) (hok : WayOk st way) (hn : NamesAt w ao names) :
    Calls Tryz.prog 48 #[.pointer (some ⟨p, 0, none⟩), .slice ao names.length nc] w fun e w' => Walked w F L (wayGo st names way) e w' := by
  have hl := hn.1
  unfold maxLen at hl
  rcases names_form hn with rfl | ⟨nb, no, rfl⟩
  · have HP := hide hp
    clear hp h hok hn
    go_enter Tryz.func48, Tryz.ntmps48
    go_wp2
    go_loop [0, 13] (fun pv i => i = .int .i64 0 ∧ pv = .pointer (some ⟨p, 0, none⟩)) (fun _ _ => 0)
    case atStart => exact ⟨rfl, rfl⟩
    case round =>
      obtain ⟨rfl, rfl⟩ := hrel
      go_wp2
      go_ret3
      exact ⟨_, rfl, Below.refl _ _, .inr ⟨rfl, p, rfl, HP.out.mono ext_refl⟩⟩
  · have HT := hide h
    have HP := hide hp
    have Hn := hide hn
    have Hok := hide hok
    clear h hp hn hok
    go_enter Tryz.func48, Tryz.ntmps48
    go_wp2
    go_loopw [0, 13] (fun pv i wr => ∃ (k p' : Nat) (way' : List Spot), k ≤ names.length ∧ i = .int .i64 k ∧ pv = .pointer (some ⟨p', 0, none⟩) ∧ Below w.heap.size w wr ∧ PlaceIs wr (ext F w wr) L p' way'.reverse ∧ WaySoFar st names way k way' ∧ WayOk st way') (fun _ i _ => names.length - (intOf i).toNat)
    case atStart => exact ⟨0, p, way, Nat.zero_le _, rfl, rfl, Below.refl _ _, HP.out.mono ext_refl, WaySoFar.start _ _ _, Hok.out⟩
    case round =>
      obtain ⟨k, p', way', hk, rfl, rfl, hbel, hpl, hso, hwok⟩ := hrel
      have Hbel := hide hbel
      have Hpl := hide hpl
      have Hso := hide hso
      have Hwok := hide hwok
      by_cases hlt : k < names.length
      · obtain ⟨s, hs⟩ := M.getElem?_of_lt hlt
        obtain ⟨hsz, nb', no', heq, hcell⟩ := Hn.out.2 k s hs
        cases heq
        have hc : wr.cell? ⟨nb, no + k, none⟩ = some (.string s) := (hbel.cell (p := ⟨nb, no + k, none⟩) (World.block_lt_of_cell? w _ hcell)).trans hcell
        have Hs := hide hs
        have k0 : (0 : Int) ≤ (k : Int) := by omega
        have k1 : (k : Int) < (names.length : Int) := by omega
        have HStep := hide (step_any p' way' s ((HT.out.kept (KeepX.below hbel)).mono (fun k hk => .inl hk)) hpl hwok hsz)
        clear hs hbel hpl hso hwok hcell
        obtain ⟨y, hy⟩ : ∃ y, y = wayStep st way' s := ⟨_, rfl⟩
        by_cases he : (wayStep st way' s).1 = 0
        · go_wp2_with (go_at_call 86; refine HStep.out.mono ?_; rintro e w2 ⟨pv, rfl, hb2, hc2⟩; rw [he])
          rcases hc2 with ⟨h0, _⟩ | ⟨_, p2, rfl, hp2⟩
          · exact absurd he h0
          · refine ⟨⟨k + 1, p2, (wayStep st way' s).2, by omega, by go_num, rfl, Hbel.out.trans (hb2.mono Hbel.out.size), hp2.mono (ext_trans Hbel.out.size hb2.size), Hso.out.step Hs.out he, wayStep_ok ok Hwok.out s⟩, by simp [intOf]; omega⟩
        · have he' : ((wayStep st way' s).1 != 0) = true := by simpa using he
          have he2 : ((wayStep st way' s).1 == 0) = false := by simpa using he
          go_wp2_with (go_at_call 86; refine HStep.out.mono ?_; rintro e w2 ⟨pv, rfl, hb2, hc2⟩; have Hb2 := hide hb2; clear hb2 hc2)
          go_ret3
          rw [Hso.out.stop Hs.out he]
          exact ⟨_, rfl, Hbel.out.trans (Hb2.out.mono Hbel.out.size), .inl ⟨he, rfl⟩⟩
      · go_wp2
        go_ret3
        have hkn : names.length = k := by omega
        rw [Hso.out.done (by omega)]
        refine ⟨_, ?_, Hbel.out, .inr ⟨rfl, p', rfl, Hpl.out⟩⟩
        rw [← hkn]
        rfl
end Go.Proofs.YtdmdgnghaceibaaGreat.P
/- The program's Attach. -/
namespace Go.Proofs.YtdmdgnghaceibaaGreat.P
open M Go.ChangeShapes Go.WideShapes Go.ChangeAt Go.RowKit
set_option linter.unusedVariables false

theorem srv_drew {w : World} {F : Nat → Prop} {s t : Nat} {st : St} {lk : Int} {L : Lay} {bv : Nat → Value} (h : SrvHas w F s st lk t L bv) : SrvHas w.drew F s st lk t L bv := h.kept ((KeepX.refl _ _ _ _).drew)

set_option maxRecDepth 20000 in
set_option maxHeartbeats 800000 in
theorem attach_any {w : World} {F : Nat → Prop} {s : Nat} {st : St} (n : Int) (h : SrvIs w F s st) (ok : POk st) :
    Calls Tryz.prog 13 #[.pointer (some ⟨s, 0, none⟩), .int .i64 n] w fun e w' => PEnds w F s (mAttach st n) e w' := by
  have hnot : ∀ (x : Bool) (w : World), (Op.unary .not (.bool x)).run Tryz.prog w = .ok (.bool (!x)) w := fun _ _ => rfl
  go_enter_defers Tryz.func13, Tryz.ntmps13
  go_wp2_with fail
  refine (enter_any h).mono ?_
  rintro e w1 ⟨rfl, hH, hx⟩
  clear h
  obtain ⟨t, L, bv, hS⟩ := hH
  have hx := hide hx
  cases hok : fidOk n with
  | false =>
    have H := hide (show mAttach st n = (tick st, 1) by simp [mAttach, hok])
    have hS := hide hS
    go_wp2_with (go_at_call 44; refine (isFid_any _ _).mono ?_; rintro e w' ⟨rfl, hw⟩; obtain rfl := hw.symm; rw [hok])
    have hD : Held w1 (ext F w w1) s (tick st) := ⟨t, L, bv, hS.out⟩
    refine leaves_cons (f := 43) (args := #[.pointer (some ⟨s, 0, none⟩)]) (by simp) (by simp [go_sem]) ?_
    refine (leave_deferred .returning hD).mono ?_
    rintro e u' w'' ⟨rfl, rfl, rfl⟩
    refine ⟨_, results_tmp rfl _ _ _, ?_⟩
    exact PEnds.close H.out hD hx.out
  | true =>
    rcases fid_cases hS ok.tick.fids n with ⟨hf, hno⟩ | ⟨k, i, f, p, rfl, hk, hf, hi, hn, ha, c7, c8, hp⟩
    · rcases hno with hno | ⟨k, rfl, hk, c7, c8⟩
      · exact absurd hok (by simp [hno])
      · have H := hide (show mAttach st k = ({ tick st with fids := st.fids ++ [⟨k, [come st 0], false⟩] }, 0) by unfold mAttach; rw [if_pos hok, show find st k = none from hf])
        have hT := hS.tree
        have k6 := hS.k6
        have t0 := hT.c0
        unfold dirPtr at t0
        have hfz := hS.blk.fz
        have hslt := hS.blk.lt
        have HC := hide (show ∀ (W : World), TreeIs W (ext F w w1) t (tick st) L bv → Calls Tryz.prog 46 #[.iface 87 (.pointer (some ⟨L.nb 0, 0, none⟩)), .pointer none] W (fun e w' => Came W (ext F w w1) L (come (tick st) 0) none e w') from
          fun W hW => by
            have := come_any hW 0 ok.pos none
            rw [hW.root ok.tick] at this
            exact this)
        have hS := hide hS
        have hf := hide hf
        have b0 : (0 : Int) ≤ (k : Int) := by omega
        have b1 : (k : Int) < 51 := by omega
        clear hT
        go_wp2_with (first | (go_at_call 44; refine (isFid_any _ _).mono ?_; rintro e w' ⟨rfl, hw⟩; obtain rfl := hw.symm; rw [hok]) | (go_at_call 45; refine (standing_none s k hk _ c7).mono ?_; rintro e w' ⟨rfl, hw⟩; obtain rfl := hw.symm))
        refine wp_strict ?_
        go_region_with (go_at_call 46; refine (HC.out _ (srv_drew hS.out).tree).mono ?_; rintro e w2 hc; have HCm := hide hc; obtain ⟨v, rfl, hb, hblk, hv⟩ := hc; have q7 : w2.cell? ⟨s, 7 + k * 2, none⟩ = some (.pointer none) := (hb.cell (p := ⟨s, 7 + k * 2, none⟩) hslt).trans c7; have q8 : w2.cell? ⟨s, 7 + k * 2 + 1, none⟩ = some (.bool false) := (hb.cell (p := ⟨s, 7 + k * 2 + 1, none⟩) hslt).trans c8; have z7 : w2.frozen? ⟨s, 7 + k * 2, none⟩ = false := (hb.frozen (p := ⟨s, 7 + k * 2, none⟩) hslt).trans (hfz _); have z8 : w2.frozen? ⟨s, 7 + k * 2 + 1, none⟩ = false := (hb.frozen (p := ⟨s, 7 + k * 2 + 1, none⟩) hslt).trans (hfz _); clear hb hblk hv)
        go_wp2
        have hCm := HCm.out
        have hpl : PlaceIs w2 (ext (ext F w w1) w1 w2) L w1.heap.size [come st 0] := hCm.place (r := []) rfl
        obtain ⟨v, _, hb, hblk, hv⟩ := hCm
        have hb : Below w1.heap.size w1 w2 := ((Below.refl _ w1).drew).trans hb
        have hS2 : SrvHas w2 (ext (ext F w w1) w1 w2) s (tick st) 1 t L bv := (hS.out.below hb).mono (fun k hk => .inl hk)
        have hx2 : Ext F w w2 := hx.out.trans' (Ext.below hb)
        have hG : ∀ j, ext (ext F w w1) w1 w2 j → ext F w w2 j := ext_trans hx.out.size hb.size
        have hset := (hS2.setStand (st' := { tick st with fids := st.fids ++ [⟨k, [come st 0], false⟩] }) hk (pv := .pointer (some ⟨w1.heap.size, 0, none⟩)) (op := false) (o := some ⟨k, [come st 0], false⟩) ⟨w1.heap.size, rfl, rfl, hpl⟩ rfl rfl rfl (fun m => fidAt_snoc (tick st) ⟨k, [come st 0], false⟩ hf.out m)).mono hG
        obtain ⟨W, hW⟩ : ∃ W, W = ((w2.setCell ⟨s, 7 + k * 2, none⟩ (.pointer (some ⟨w1.heap.size, 0, none⟩))).setCell ⟨s, 7 + k * 2 + 1, none⟩ (.bool false)) := ⟨_, rfl⟩
        rw [← hW] at hset ⊢
        have hWz : W.heap.size = w2.heap.size := by rw [hW]; simp
        have hD : Held W (ext F w W) s { tick st with fids := st.fids ++ [⟨k, [come st 0], false⟩] } := ⟨t, L, bv, hset.mono (ext_mono (by rw [hWz]; exact Nat.le_refl _))⟩
        have hxW : Ext F w W := by
          have ho : F s ∨ w.heap.size ≤ s := by rcases hS.out.blk.own with h | h; exact .inl h; exact .inr h.1
          rw [hW]
          exact (hx2.setCell ho _).setCell ho _
        refine leaves_cons (f := 43) (args := #[.pointer (some ⟨s, 0, none⟩)]) (by simp) (by simp [go_sem]) ?_
        refine (leave_deferred .returning hD).mono ?_
        rintro e u' w'' ⟨rfl, rfl, rfl⟩
        refine ⟨_, results_tmp rfl _ _ _, ?_⟩
        exact PEnds.close H.out hD hxW
    · have H := hide (show mAttach st k = (tick st, 2) by unfold mAttach; rw [if_pos hok, show find st k = some i from hf])
      have hS := hide hS
      clear hf
      go_wp2_with (first | (go_at_call 44; refine (isFid_any _ _).mono ?_; rintro e w' ⟨rfl, hw⟩; obtain rfl := hw.symm; rw [hok]) | (go_at_call 45; refine (standing_some s k p hk _ c7).mono ?_; rintro e w' ⟨rfl, hw⟩; obtain rfl := hw.symm))
      have hD : Held w1 (ext F w w1) s (tick st) := ⟨t, L, bv, hS.out⟩
      refine leaves_cons (f := 43) (args := #[.pointer (some ⟨s, 0, none⟩)]) (by simp) (by simp [go_sem]) ?_
      refine (leave_deferred .returning hD).mono ?_
      rintro e u' w'' ⟨rfl, rfl, rfl⟩
      refine ⟨_, results_tmp rfl _ _ _, ?_⟩
      exact PEnds.close H.out hD hx.out
end Go.Proofs.YtdmdgnghaceibaaGreat.P
/- The program's checkWalk, Walk. -/
namespace Go.Proofs.YtdmdgnghaceibaaGreat.P
open M Go.ChangeShapes Go.WideShapes Go.ChangeAt Go.RowKit
set_option linter.unusedVariables false

/-- 'standing' of a number, whichever: whether it is nil. -/
theorem standing_any {w : World} {F : Nat → Prop} {s t : Nat} {st : St} {lk : Int} {L : Lay} {bv : Nat → Value} (h : SrvHas w F s st lk t L bv) (ok : FidsOk st) (n : Int) :
    Calls Tryz.prog 45 #[.pointer (some ⟨s, 0, none⟩), .int .i64 n] w fun e w' => (∃ a, e = .returned (.pointer a) ∧ a.isSome = (find st n).isSome) ∧ w' = w := by
  rcases fid_cases h ok n with ⟨hf, hno⟩ | ⟨k, i, f, p, rfl, hk, hf, hi, hn, ha, c7, c8, hp⟩
  · refine (standing_no hno).mono ?_
    rintro e w' ⟨rfl, rfl⟩
    exact ⟨⟨none, rfl, by rw [hf]; rfl⟩, rfl⟩
  · refine (standing_some s k p hk _ c7).mono ?_
    rintro e w' ⟨rfl, rfl⟩
    exact ⟨⟨_, rfl, by rw [hf]; rfl⟩, rfl⟩

theorem standing_at (s k p : Nat) (n : Int) (hnk : n = (k : Int)) (hk : k < 51) (w : World) (h7 : w.cell? ⟨s, 7 + k * 2, none⟩ = some (.pointer (some ⟨p, 0, none⟩))) : Calls Tryz.prog 45 #[.pointer (some ⟨s, 0, none⟩), .int .i64 n] w fun e w' => e = .returned (.pointer (some ⟨s, 7 + k * 2, none⟩)) ∧ w' = w := by
  subst hnk
  exact standing_some s k p hk w h7

set_option maxRecDepth 20000 in
set_option maxHeartbeats 1000000 in
theorem checkWalk_some {w : World} {F : Nat → Prop} {s t : Nat} {st : St} {lk : Int} {L : Lay} {bv : Nat → Value} (h : SrvHas w F s st lk t L bv) (ok : FidsOk st) {k p : Nat} {f : Fid} (n : Int) (hnk : n = (k : Int)) (hk : k < 51) (hn : f.n = n)
    (c7 : w.cell? ⟨s, 7 + k * 2, none⟩ = some (.pointer (some ⟨p, 0, none⟩))) (c8 : w.cell? ⟨s, 7 + k * 2 + 1, none⟩ = some (.bool f.op)) (tto : Int) (names : List ByteArray) (ao : Option Addr) (nc : Nat) (hnm : NamesAt w ao names) :
    Calls Tryz.prog 47 #[.pointer (some ⟨s, 0, none⟩), .int .i64 n, .int .i64 tto, .slice ao names.length nc] w fun e w' => e = .returned (.int .i64 (mAllowed st f tto names)) ∧ w' = w := by
  have hnot : ∀ (x : Bool) (w : World), (Op.unary .not (.bool x)).run Tryz.prog w = .ok (.bool (!x)) w := fun _ _ => rfl
  have HS := hide h
  have Hnm := hide hnm
  have Hnk := hide hnk
  have Hn := hide hn
  clear h hnm hnk hn
  cases hop : f.op with
  | true =>
    rw [hop] at c8
    have H := hide (show mAllowed st f tto names = 3 by simp [mAllowed, hop])
    clear hop
    go_enter Tryz.func47, Tryz.ntmps47
    go_wp2_with (go_at_call 45; refine (standing_at s k p _ Hnk.out hk _ c7).mono ?_; rintro e w' ⟨rfl, hw⟩; obtain rfl := hw.symm)
    go_ret
    exact ⟨by rw [H.out]; rfl, rfl⟩
  | false =>
    rw [hop] at c8
    cases ht : fidOk tto with
    | false =>
      have H := hide (show mAllowed st f tto names = 1 by simp [mAllowed, hop, ht])
      clear hop
      go_enter Tryz.func47, Tryz.ntmps47
      go_wp2_with (first | (go_at_call 45; refine (standing_at s k p _ Hnk.out hk _ c7).mono ?_; rintro e w' ⟨rfl, hw⟩; obtain rfl := hw.symm) | (go_at_call 44; refine (isFid_any _ _).mono ?_; rintro e w' ⟨rfl, hw⟩; obtain rfl := hw.symm; rw [ht]))
      go_ret
      exact ⟨by rw [H.out]; rfl, rfl⟩
    | true =>
      have e0 : mAllowed st f tto names = if tto ≠ f.n ∧ (find st tto).isSome = true then 2 else badNames names := by
        unfold mAllowed badNames
        rw [if_neg (by simp [hop]), if_pos ht]
      clear hop
      by_cases e : tto = n
      · have H := hide (e0.trans (by rw [if_neg (fun x => x.1 (e.trans Hn.out.symm))]))
        subst e
        have q : (tto != tto) = false := by simp
        clear e0
        go_enter Tryz.func47, Tryz.ntmps47
        go_wp2_with (first | (go_at_call 45; refine (standing_at s k p _ Hnk.out hk _ c7).mono ?_; rintro e w' ⟨rfl, hw⟩; obtain rfl := hw.symm) | (go_at_call 44; refine (isFid_any _ _).mono ?_; rintro e w' ⟨rfl, hw⟩; obtain rfl := hw.symm; rw [ht]) | (go_at_call 85; refine (checkNames_any names ao nc Hnm.out).mono ?_; rintro e w' ⟨rfl, hw⟩; obtain rfl := hw.symm))
        go_ret
        exact ⟨by rw [H.out]; rfl, rfl⟩
      · have q : (tto != n) = true := by simpa using e
        rcases fid_cases HS.out ok tto with ⟨hf, hno⟩ | ⟨k2, i2, f2, p2, hk3, hk2, hf, hi, hn2, ha, d7, d8, hp⟩
        · have H := hide (e0.trans (by rw [if_neg (fun x => by rw [hf] at x; exact absurd x.2 (by simp))]))
          clear e0 hf
          go_enter Tryz.func47, Tryz.ntmps47
          go_wp2_with fail
          refine (standing_at s k p _ Hnk.out hk _ c7).mono ?_
          rintro e w' ⟨rfl, hw⟩
          obtain rfl := hw.symm
          go_wp2_with (go_at_call 44; refine (isFid_any _ _).mono ?_; rintro e w' ⟨rfl, hw⟩; obtain rfl := hw.symm; rw [ht])
          refine (standing_no hno).mono ?_
          rintro e w' ⟨rfl, hw⟩
          obtain rfl := hw.symm
          go_wp2_with (go_at_call 85; refine (checkNames_any names ao nc Hnm.out).mono ?_; rintro e w' ⟨rfl, hw⟩; obtain rfl := hw.symm)
          go_ret
          exact ⟨by rw [H.out]; rfl, rfl⟩
        · have H := hide (e0.trans (by rw [if_pos ⟨fun x => e (x.trans Hn.out), by rw [hf]; rfl⟩]))
          have Hk3 := hide hk3
          clear e0 hf hi hn2 ha hp hk3
          go_enter Tryz.func47, Tryz.ntmps47
          go_wp2_with fail
          refine (standing_at s k p _ Hnk.out hk _ c7).mono ?_
          rintro e w' ⟨rfl, hw⟩
          obtain rfl := hw.symm
          go_wp2_with (go_at_call 44; refine (isFid_any _ _).mono ?_; rintro e w' ⟨rfl, hw⟩; obtain rfl := hw.symm; rw [ht])
          refine (standing_at s k2 p2 tto Hk3.out hk2 _ d7).mono ?_
          rintro e w' ⟨rfl, hw⟩
          obtain rfl := hw.symm
          go_wp2_with (go_at_call 85; refine (checkNames_any names ao nc Hnm.out).mono ?_; rintro e w' ⟨rfl, hw⟩; obtain rfl := hw.symm)
          go_ret
          exact ⟨by rw [H.out]; rfl, rfl⟩

set_option maxRecDepth 20000 in
theorem checkWalk_none {w : World} {s : Nat} {n : Int} (hno : (fidOk n = false) ∨ ∃ k : Nat, n = k ∧ k < 51 ∧ w.cell? ⟨s, 7 + k * 2, none⟩ = some (.pointer none) ∧ w.cell? ⟨s, 7 + k * 2 + 1, none⟩ = some (.bool false)) (tto : Int) (nv : Value) :
    Calls Tryz.prog 47 #[.pointer (some ⟨s, 0, none⟩), .int .i64 n, .int .i64 tto, nv] w fun e w' => e = .returned (.int .i64 2) ∧ w' = w := by
  go_enter Tryz.func47, Tryz.ntmps47
  go_wp2_with (go_at_call 45; refine (standing_no hno).mono ?_; rintro e w' ⟨rfl, hw⟩; obtain rfl := hw.symm)
  go_ret
  exact ⟨rfl, rfl⟩

/-- How a call ends that answers a number and an error. -/
def PEnds2 (w : World) (F : Nat → Prop) (s : Nat) (p : St × Int × Int) (e : Ending) (w' : World) : Prop := e = .returned (.tuple #[.int .i64 p.2.1, .int .i64 p.2.2]) ∧ SrvIs w' (ext F w w') s p.1 ∧ Ext F w w'
theorem PEnds2.close {w w2 : World} {F : Nat → Prop} {s : Nat} {p : St × Int × Int} {c d : Int} {st' : St} (hp : p = (st', c, d)) (h : Held w2 (ext F w w2) s st') (hx : Ext F w w2) : PEnds2 w F s p (.returned (.tuple #[.int .i64 c, .int .i64 d])) (left w2 s) := by
  subst hp
  obtain ⟨h1, h2⟩ := left_close (w1 := w) h hx
  exact ⟨rfl, h1, h2⟩

theorem find_of_fidAt {st : St} {n : Int} (h : fidAt st n = none) : find st n = none := by
  cases hf : find st n with
  | none => rfl
  | some i =>
    obtain ⟨f, _, _, ha⟩ := fidAt_find hf
    rw [ha] at h
    exact absurd h (by simp)

/-- The fids behind a walk. -/
theorem fidAt_walkTo {st : St} (ok : FidsOk st) {i : Nat} {f : Fid} {n tto : Int} (hi : st.fids[i]? = some f) (hn : f.n = n) (hto : tto = n ∨ find st tto = none) (way : List Spot) (m : Int) : fidAt (mWalkTo st i n tto way) m = if m = tto then some ⟨tto, way, false⟩ else fidAt st m := by
  unfold mWalkTo
  split
  · rename_i e
    have hd : ∀ m, fidAt (mDrop st i) m = if m = f.n then none else fidAt st m := fidAt_drop ok hi
    have h0 : find (mDrop st i) tto = none := find_of_fidAt (by rw [hd, if_pos (e.trans hn.symm)])
    have := fidAt_snoc (mDrop st i) ⟨tto, way, false⟩ h0 m
    unfold fidAt at this ⊢
    simp only at this ⊢
    rw [this]
    split
    · rfl
    · rename_i hne
      have h2 := hd m
      unfold fidAt at h2
      rw [h2, if_neg (by rw [hn, ← e]; exact hne)]
  · rename_i e
    rcases hto with h | h
    · exact absurd h e
    · exact fidAt_snoc st ⟨tto, way, false⟩ h m
end Go.Proofs.YtdmdgnghaceibaaGreat.P
/- The program's Walk. -/
namespace Go.Proofs.YtdmdgnghaceibaaGreat.P
open M Go.ChangeShapes Go.WideShapes Go.ChangeAt Go.RowKit
set_option linter.unusedVariables false

theorem mAllowed_zero {st : St} {f : Fid} {tto : Int} {names : List ByteArray} (h : mAllowed st f tto names = 0) : fidOk tto = true ∧ (tto = f.n ∨ find st tto = none) := by
  unfold mAllowed at h
  split at h
  · exact absurd h (by decide)
  · split at h
    · rename_i ht
      refine ⟨ht, ?_⟩
      split at h
      · exact absurd h (by decide)
      · rename_i hc
        by_cases e : tto = f.n
        · exact .inl e
        · refine .inr ?_
          cases hf : find st tto with
          | none => rfl
          | some j => exact absurd ⟨e, by rw [hf]; rfl⟩ hc
    · exact absurd h (by decide)

theorem wayGo_len (st : St) : ∀ (names : List ByteArray) (way : List Spot), (wayGo st names way).2.1 = 0 → (wayGo st names way).1 = names.length
  | [], way, _ => rfl
  | s :: l, way, h => by
    unfold wayGo at h ⊢
    split
    · rename_i h0
      rw [if_pos h0] at h
      simp only at h ⊢
      rw [wayGo_len st l _ h]
      rfl
    · rename_i h0
      rw [if_neg h0] at h
      exact absurd h h0

theorem seenIn_tick (st : St) (name : ByteArray) : ∀ row : List Member, seenIn (tick st) name row = seenIn st name row
  | [] => rfl
  | m :: r => by
    have e1 : isGone (tick st) m.d = isGone st m.d := rfl
    have e2 : lies (tick st) m.d name = lies st m.d name := rfl
    unfold seenIn
    rw [e1, e2, seenIn_tick st name r]
theorem wayStep_tick (st : St) (way : List Spot) (s : ByteArray) : wayStep (tick st) way s = wayStep st way s := by
  have e1 : ∀ n, isGone (tick st) n = isGone st n := fun _ => rfl
  have e2 : ∀ n, isDir (tick st) n = isDir st n := fun _ => rfl
  have e3 : ∀ n, come (tick st) n = come st n := fun _ => rfl
  unfold wayStep
  simp only [e1, e2, e3, seenIn_tick]

theorem wayGo_tick (st : St) : ∀ (names : List ByteArray) (way : List Spot), wayGo (tick st) names way = wayGo st names way
  | [], way => rfl
  | s :: l, way => by
    unfold wayGo
    rw [wayStep_tick, wayGo_tick st l]

theorem SrvHas.standCell {w : World} {F : Nat → Prop} {s t : Nat} {st : St} {lk : Int} {L : Lay} {bv : Nat → Value} (h : SrvHas w F s st lk t L bv) {k : Nat} (hk : k < 51) : ∃ x, w.cell? ⟨s, 7 + k * 2, none⟩ = some x := by
  have hold := h.fids k hk
  cases hf0 : fidAt st k with
  | none => rw [hf0] at hold; exact ⟨_, hold.1⟩
  | some f => rw [hf0] at hold; obtain ⟨p, c7, _⟩ := hold; exact ⟨_, c7⟩
theorem SrvHas.openCell {w : World} {F : Nat → Prop} {s t : Nat} {st : St} {lk : Int} {L : Lay} {bv : Nat → Value} (h : SrvHas w F s st lk t L bv) {k : Nat} (hk : k < 51) : ∃ x, w.cell? ⟨s, 7 + k * 2 + 1, none⟩ = some x := by
  have hold := h.fids k hk
  cases hf0 : fidAt st k with
  | none => rw [hf0] at hold; exact ⟨_, hold.2⟩
  | some f => rw [hf0] at hold; obtain ⟨p, _, c8, _⟩ := hold; exact ⟨_, c8⟩

theorem way_ok {st : St} (ok : POk st) {f : Fid} (hf : f ∈ st.fids) : WayOk st f.way := fun s hs => ⟨((ok.way f hf).2 s hs).1, ((ok.way f hf).2 s hs).2.1⟩

set_option maxRecDepth 20000 in
set_option maxHeartbeats 1000000 in
theorem walk_any {w : World} {F : Nat → Prop} {s : Nat} {st : St} (n tto : Int) (names : List ByteArray) (ao : Option Addr) (nc : Nat) (h : SrvIs w F s st) (ok : POk st) (hnm : NamesAt w ao names) (hnF : ∀ a, ao = some a → names ≠ [] → ¬ F a.block) :
    Calls Tryz.prog 14 #[.pointer (some ⟨s, 0, none⟩), .int .i64 n, .int .i64 tto, .slice ao names.length nc] w fun e w' => PEnds2 w F s (mWalk st n tto names) e w' := by
  go_enter_defers Tryz.func14, Tryz.ntmps14
  go_wp2_with fail
  refine (enter_any h).mono ?_
  rintro e w1 ⟨rfl, hH, hx⟩
  clear h
  obtain ⟨t, L, bv, hS⟩ := hH
  have Hnm := hide (hnm.ext hx hnF)
  have hx := hide hx
  clear hnm hnF
  rcases fid_cases hS ok.tick.fids n with ⟨hf, hno⟩ | ⟨k, i, f, p, hnk, hk, hf, hi, hn, ha, c7, c8, hp⟩
  · have H := hide (show mWalk st n tto names = (tick st, 0, 2) by unfold mWalk; rw [show find st n = none from hf])
    have hS := hide hS
    clear hf
    go_wp2_with (go_at_call 47; refine (checkWalk_none hno tto _).mono ?_; rintro e w' ⟨rfl, hw⟩; obtain rfl := hw.symm)
    have hD : Held w1 (ext F w w1) s (tick st) := ⟨t, L, bv, hS.out⟩
    refine leaves_cons (f := 43) (args := #[.pointer (some ⟨s, 0, none⟩)]) (by simp) (by simp [go_sem]) ?_
    refine (leave_deferred .returning hD).mono ?_
    rintro e u' w'' ⟨rfl, rfl, rfl⟩
    refine ⟨_, results_tmp2 rfl _ _ _, ?_⟩
    exact PEnds2.close H.out hD hx.out
  · have e0 : mWalk st n tto names = if mAllowed (tick st) f tto names = 0 then (if (wayGo st names f.way).2.1 = 0 then (mWalkTo (tick st) i n tto (wayGo st names f.way).2.2, (names.length : Int), 0) else (tick st, ((wayGo st names f.way).1 : Int), (wayGo st names f.way).2.1)) else (tick st, 0, mAllowed (tick st) f tto names) := by
      unfold mWalk
      rw [show find st n = some i from hf]
      simp only
      rw [show st.fids[i]? = some f from hi]
    have HCW := hide (checkWalk_some hS ok.tick.fids n hnk hk hn c7 c8 tto names ao nc Hnm.out)
    by_cases hal : mAllowed (tick st) f tto names = 0
    · obtain ⟨hto, hwho⟩ := mAllowed_zero hal
      obtain ⟨k2, hk2, rfl⟩ : ∃ k2 : Nat, k2 < 51 ∧ tto = (k2 : Int) := by
        have := of_decide_eq_true hto
        obtain ⟨k2, e⟩ := Int.eq_ofNat_of_zero_le this.1
        exact ⟨k2, by omega, e⟩
      subst hnk
      rw [hal] at HCW
      have e1 := e0.trans (if_pos hal)
      have hmem := List.mem_of_getElem? hi
      have HG := hide (go_any p f.way names ao nc (st := tick st) hS.tree hp ok.tick (way_ok ok.tick hmem) Hnm.out)
      obtain ⟨x7, y7⟩ : ∃ x, w1.cell? ⟨s, 7 + k2 * 2, none⟩ = some x := hS.standCell hk2
      obtain ⟨x8, y8⟩ : ∃ x, w1.cell? ⟨s, 7 + k2 * 2 + 1, none⟩ = some x := hS.openCell hk2
      have hfz := hS.blk.fz
      have hslt := hS.blk.lt
      have b0 : (0 : Int) ≤ (k : Int) := by omega
      have b1 : (k : Int) < 51 := by omega
      have b2 : (0 : Int) ≤ (k2 : Int) := by omega
      have b3 : (k2 : Int) < 51 := by omega
      have hgo : wayGo (tick st) names f.way = wayGo st names f.way := wayGo_tick st names f.way
      rw [hgo] at HG
      by_cases hwe : (wayGo st names f.way).2.1 = 0
      · have H := hide (e1.trans (if_pos hwe))
        have hlen := wayGo_len st names f.way hwe
        have Hfid := hide (fun m => fidAt_walkTo (tto := (k2 : Int)) ok.tick.fids hi hn (by rw [← hn]; exact hwho) (wayGo st names f.way).2.2 m)
        have Hl := hide hlen
        have HW := hide hwe
        have hS := hide hS
        clear hf hi hn ha hp e0 e1 hal hwho hgo hmem hlen
        go_wp2_with (first | (go_at_call 47; refine HCW.out.mono ?_; rintro e w' ⟨rfl, hw⟩; obtain rfl := hw.symm) | (go_at_call 48; refine HG.out.mono ?_; rintro e w2 ⟨pv, rfl, hb, hc⟩; rw [hwe]; rcases hc with ⟨h0, _⟩ | ⟨_, p', rfl, hp'⟩; (exact absurd HW.out h0); have q7 : w2.cell? ⟨s, 7 + k2 * 2, none⟩ = some x7 := (hb.cell (p := ⟨s, 7 + k2 * 2, none⟩) hslt).trans y7; have q8 : w2.cell? ⟨s, 7 + k2 * 2 + 1, none⟩ = some x8 := (hb.cell (p := ⟨s, 7 + k2 * 2 + 1, none⟩) hslt).trans y8; have z7 : w2.frozen? ⟨s, 7 + k2 * 2, none⟩ = false := (hb.frozen (p := ⟨s, 7 + k2 * 2, none⟩) hslt).trans (hfz _); have z8 : w2.frozen? ⟨s, 7 + k2 * 2 + 1, none⟩ = false := (hb.frozen (p := ⟨s, 7 + k2 * 2 + 1, none⟩) hslt).trans (hfz _); have HB := hide hb; have HP' := hide hp'; clear hb hp'))
        have hS2 : SrvHas w2 (ext (ext F w w1) w1 w2) s (tick st) 1 t L bv := (hS.out.below HB.out).mono (fun k hk => .inl hk)
        have hx2 : Ext F w w2 := hx.out.trans' (Ext.below HB.out)
        have hG : ∀ j, ext (ext F w w1) w1 w2 j → ext F w w2 j := ext_trans hx.out.size HB.out.size
        have hset := (hS2.setStand (st' := mWalkTo (tick st) i k k2 (wayGo st names f.way).2.2) hk2 (pv := .pointer (some ⟨p', 0, none⟩)) (op := false) (o := some ⟨k2, (wayGo st names f.way).2.2, false⟩) ⟨p', rfl, rfl, HP'.out⟩ (by unfold mWalkTo; split <;> rfl) (by unfold mWalkTo; split <;> rfl) (by unfold mWalkTo; split <;> rfl) Hfid.out).mono hG
        obtain ⟨W, hW⟩ : ∃ W, W = ((w2.setCell ⟨s, 7 + k2 * 2, none⟩ (.pointer (some ⟨p', 0, none⟩))).setCell ⟨s, 7 + k2 * 2 + 1, none⟩ (.bool false)) := ⟨_, rfl⟩
        rw [← hW] at hset ⊢
        have hWz : W.heap.size = w2.heap.size := by rw [hW]; simp
        have hD : Held W (ext F w W) s (mWalkTo (tick st) i k k2 (wayGo st names f.way).2.2) := ⟨t, L, bv, hset.mono (ext_mono (by rw [hWz]; exact Nat.le_refl _))⟩
        have hxW : Ext F w W := by
          have ho : F s ∨ w.heap.size ≤ s := by rcases hS.out.blk.own with h | h; exact .inl h; exact .inr h.1
          rw [hW]
          exact (hx2.setCell ho _).setCell ho _
        refine leaves_cons (f := 43) (args := #[.pointer (some ⟨s, 0, none⟩)]) (by simp) (by simp [go_sem]) ?_
        refine (leave_deferred .returning hD).mono ?_
        rintro e u' w'' ⟨rfl, rfl, rfl⟩
        refine ⟨_, results_tmp2 rfl _ _ _, ?_⟩
        have Hf := H.out
        rw [← Hl.out] at Hf
        exact PEnds2.close Hf hD hxW
      · have H := hide (e1.trans (if_neg hwe))
        have q1 : ((wayGo st names f.way).2.1 != 0) = true := by simpa using hwe
        have q2 : ((wayGo st names f.way).2.1 == 0) = false := by simpa using hwe
        have hS := hide hS
        clear hf hi hn ha hp e0 e1 hal hwho hgo hmem hwe
        go_wp2_with (first | (go_at_call 47; refine HCW.out.mono ?_; rintro e w' ⟨rfl, hw⟩; obtain rfl := hw.symm) | (go_at_call 48; refine HG.out.mono ?_; rintro e w2 ⟨pv, rfl, hb, hc⟩; have HB := hide hb; clear hb hc))
        have hS2 : SrvHas w2 (ext F w w1) s (tick st) 1 t L bv := hS.out.below HB.out
        have hx2 : Ext F w w2 := hx.out.trans' (Ext.below HB.out)
        have hD : Held w2 (ext F w w2) s (tick st) := ⟨t, L, bv, hS2.mono (ext_mono HB.out.size)⟩
        refine leaves_cons (f := 43) (args := #[.pointer (some ⟨s, 0, none⟩)]) (by simp) (by simp [go_sem]) ?_
        refine (leave_deferred .returning hD).mono ?_
        rintro e u' w'' ⟨rfl, rfl, rfl⟩
        refine ⟨_, results_tmp2 rfl _ _ _, ?_⟩
        exact PEnds2.close H.out hD hx2
    · have H := hide (e0.trans (by rw [if_neg hal]))
      have q1 : (mAllowed (tick st) f tto names != 0) = true := by simpa using hal
      have q2 : (mAllowed (tick st) f tto names == 0) = false := by simpa using hal
      have hS := hide hS
      clear hf hi hn ha hp e0 hnk
      go_wp2_with (go_at_call 47; refine HCW.out.mono ?_; rintro e w' ⟨rfl, hw⟩; obtain rfl := hw.symm)
      have hD : Held w1 (ext F w w1) s (tick st) := ⟨t, L, bv, hS.out⟩
      refine leaves_cons (f := 43) (args := #[.pointer (some ⟨s, 0, none⟩)]) (by simp) (by simp [go_sem]) ?_
      refine (leave_deferred .returning hD).mono ?_
      rintro e u' w'' ⟨rfl, rfl, rfl⟩
      refine ⟨_, results_tmp2 rfl _ _ _, ?_⟩
      exact PEnds2.close H.out hD hx.out
end Go.Proofs.YtdmdgnghaceibaaGreat.P
/- The program's Create. -/
namespace Go.Proofs.YtdmdgnghaceibaaGreat.P
open M Go.ChangeShapes Go.WideShapes Go.ChangeAt Go.RowKit
set_option linter.unusedVariables false

theorem fidAt_mem {st : St} {n : Int} {f : Fid} (h : fidAt st n = some f) : f ∈ st.fids := List.mem_of_find?_eq_some h

theorem way_lt {st : St} (ok : POk st) {f : Fid} (hf : f ∈ st.fids) : WayLt st f.way := fun s hs => ⟨((ok.way f hf).2 s hs).1, fun m hm => (((ok.way f hf).2 s hs).2.1 m hm).1⟩

/-- The Server over a tree with a node more. -/
theorem SrvHas.regrow {w w2 : World} {F F' : Nat → Prop} {s t : Nat} {st : St} {lk : Int} {L : Lay} {bv bv' : Nat → Value} {x : Nd} {nb mb : Nat} {dir : Bool} (h : SrvHas w F s st lk t L bv) (ok : POk st) (hk : KeepX (fun e => e ≠ 89) False F w w2) (hF : ∀ k, F k → F' k)
    (hT : TreeIs w2 F' t (withNode st x) (L.put st.nodes.length nb mb dir) bv') : SrvHas w2 F' s (withNode st x) lk t (L.put st.nodes.length nb mb dir) bv' := by
  have c := h.blk.cell hk (by decide)
  refine ⟨(h.blk.kept hk (by decide)).mono hF, (c 0).trans h.k0, (c 1).trans h.k1, (c 3).trans h.k3, (c 5).trans h.k5, (c 6).trans h.k6, fun n hn => ?_, hT⟩
  have hs := (h.fids n hn).kept hk (by decide) (by decide) (c _) (c _)
  have hs := hs.mono hF
  have e : fidAt (withNode st x) n = fidAt st n := rfl
  rw [e]
  cases hf : fidAt st n with
  | none => rw [hf] at hs; exact hs
  | some f =>
    rw [hf] at hs
    obtain ⟨p, c7, c8, hp⟩ := hs
    refine ⟨p, c7, c8, PlaceIs.put hp (fun sp hsp => way_lt ok (fidAt_mem hf) sp (by simpa using hsp))⟩

theorem createE_tick (st : St) (sp : Spot) (name : ByteArray) : createE (tick st) sp name = createE st sp name := by
  have e1 : ∀ n, isGone (tick st) n = isGone st n := fun _ => rfl
  have e2 : ∀ n, isDir (tick st) n = isDir st n := fun _ => rfl
  have e3 : ∀ row, makerOf (tick st) row = makerOf st row := fun row => by
    induction row with
    | nil => rfl
    | cons m r ih => unfold makerOf; rw [e1, ih]
  have e4 : (tick st).nodes = st.nodes := rfl
  unfold createE
  simp only [e1, e2, e3, e4, seenIn_tick]

theorem makerOf_tick (st : St) (row : List Member) : makerOf (tick st) row = makerOf st row := by
  have e1 : ∀ n, isGone (tick st) n = isGone st n := fun _ => rfl
  induction row with
  | nil => rfl
  | cons m r ih => unfold makerOf; rw [e1, ih]

theorem mCreate_err {st : St} {n : Int} {i : Nat} {f : Fid} {sp : Spot} {name : ByteArray} {dir : Bool} (hf : find st n = some i) (hi : st.fids[i]? = some f) (hop : f.op = false) (hsp : f.way.getLast? = some sp) (he : createE st sp name ≠ 0) : mCreate st n name dir = (tick st, createE st sp name) := by
  unfold mCreate
  rw [hf]
  simp only
  rw [hi]
  simp only
  rw [if_neg (by simp [hop]), hsp]
  simp only
  cases hg : isGone st sp.n with
  | true => simp [createE, hg]
  | false =>
    cases hd : isDir st sp.n with
    | false => simp [createE, hg, hd]
    | true =>
      cases hn : isName name with
      | false => simp [createE, hg, hd, hn]
      | true =>
        cases hs : seenIn st name sp.row with
        | some j => simp [createE, hg, hd, hn, hs]
        | none =>
          cases hm : makerOf st sp.row with
          | none => simp [createE, hg, hd, hn, hs, hm]
          | some m =>
            by_cases h100 : 100 ≤ liveNodes st.nodes
            · simp [createE, hg, hd, hn, hs, hm, h100]
            · exact absurd (by simp [createE, hg, hd, hn, hs, hm, h100]) he

theorem mCreate_ok {st : St} {n : Int} {i : Nat} {f : Fid} {sp : Spot} {name : ByteArray} {dir : Bool} {m : Member} (hf : find st n = some i) (hi : st.fids[i]? = some f) (hop : f.op = false) (hsp : f.way.getLast? = some sp) (he : createE st sp name = 0) (hm : makerOf st sp.row = some m) : mCreate st n name dir = (mCreateAt (tick st) i f (newNd name dir m.d), 0) := by
  obtain ⟨hg, hd, hnm, hs, _, hl⟩ := createE_zero he
  unfold mCreate
  rw [hf]
  simp only
  rw [hi]
  simp only
  rw [if_neg (by simp [hop]), hsp]
  simp only
  rw [if_neg (by simp [hg]), if_pos hd, if_pos hnm, hs]
  simp only
  rw [hm]
  simp only
  rw [if_neg (by omega)]

/-- The fids behind a Create. -/
theorem fidAt_createAt {st : St} (ok : FidsOk st) {i : Nat} {f : Fid} {n : Int} (hi : st.fids[i]? = some f) (hn : f.n = n) (x : Nd) (m : Int) : fidAt (mCreateAt st i f x) m = if m = n then some ⟨f.n, f.way ++ [come (withNode st x) st.nodes.length], true⟩ else fidAt st m := by
  have e : (mCreateAt st i f x).fids = st.fids.set i ⟨f.n, f.way ++ [come (withNode st x) st.nodes.length], true⟩ := by
    simp [mCreateAt, setOpen, setWay, withNode]
  unfold fidAt
  rw [e, fidAt_set (g := ⟨f.n, f.way ++ [come (withNode st x) st.nodes.length], true⟩) ok hi rfl m, hn]
  rfl

set_option maxRecDepth 20000 in
set_option maxHeartbeats 1000000 in
theorem create_any {w : World} {F : Nat → Prop} {s : Nat} {st : St} (n : Int) (name : ByteArray) (dir : Bool) (h : SrvIs w F s st) (ok : POk st) (hname : name.size ≤ maxLen) (hnod : st.nodes.length < maxLen) :
    Calls Tryz.prog 16 #[.pointer (some ⟨s, 0, none⟩), .int .i64 n, .string name, .bool dir] w fun e w' => PEnds w F s (mCreate st n name dir) e w' := by
  go_enter_defers Tryz.func16, Tryz.ntmps16
  go_wp2_with fail
  refine (enter_any h).mono ?_
  rintro e w1 ⟨rfl, hH, hx⟩
  clear h
  obtain ⟨t, L, bv, hS⟩ := hH
  have hx := hide hx
  rcases fid_cases hS ok.tick.fids n with ⟨hf, hno⟩ | ⟨k, i, f, p, rfl, hk, hf, hi, hn, ha, c7, c8, hp⟩
  · have H := hide (show mCreate st n name dir = (tick st, 2) by unfold mCreate; rw [show find st n = none from hf])
    have hS := hide hS
    clear hf
    go_wp2_with (go_at_call 45; refine (standing_no hno).mono ?_; rintro e w' ⟨rfl, hw⟩; obtain rfl := hw.symm)
    have hD : Held w1 (ext F w w1) s (tick st) := ⟨t, L, bv, hS.out⟩
    refine leaves_cons (f := 43) (args := #[.pointer (some ⟨s, 0, none⟩)]) (by simp) (by simp [go_sem]) ?_
    refine (leave_deferred .returning hD).mono ?_
    rintro e u' w'' ⟨rfl, rfl, rfl⟩
    refine ⟨_, results_tmp rfl _ _ _, ?_⟩
    exact PEnds.close H.out hD hx.out
  · obtain ⟨sp, hsp, _, _, _⟩ := place_last hp
    have hmem := List.mem_of_getElem? hi
    have hspm := List.mem_of_getLast? hsp
    cases hop : f.op with
    | true =>
      have H := hide (show mCreate st k name dir = (tick st, 3) by
        unfold mCreate
        rw [show find st k = some i from hf]
        simp only
        rw [show st.fids[i]? = some f from hi]
        simp only
        rw [if_pos hop])
      rw [hop] at c8
      have hS := hide hS
      clear hf hi ha hp hn
      go_wp2_with (go_at_call 45; refine (standing_some s k p hk _ c7).mono ?_; rintro e w' ⟨rfl, hw⟩; obtain rfl := hw.symm)
      have hD : Held w1 (ext F w w1) s (tick st) := ⟨t, L, bv, hS.out⟩
      refine leaves_cons (f := 43) (args := #[.pointer (some ⟨s, 0, none⟩)]) (by simp) (by simp [go_sem]) ?_
      refine (leave_deferred .returning hD).mono ?_
      rintro e u' w'' ⟨rfl, rfl, rfl⟩
      refine ⟨_, results_tmp rfl _ _ _, ?_⟩
      exact PEnds.close H.out hD hx.out
    | false =>
      rw [hop] at c8
      have k6 := hS.k6
      have hSd := srv_drew hS
      have hpd : PlaceIs w1.drew (ext F w w1) L p f.way.reverse := hp.kept ((KeepX.refl (fun _ => True) True _ _).drew) trivial trivial
      by_cases he : createE st sp name = 0
      · obtain ⟨_, _, _, _, ⟨m, hmk⟩, _⟩ := createE_zero he
        have H := hide (mCreate_ok (dir := dir) (show find st k = some i from hf) hi hop hsp he hmk)
        have HCr := hide (create_ok p f.way sp hsp name dir m (st := tick st) hSd.tree ok.tick hpd ⟨((ok.way f hmem).2 sp hspm).1, ((ok.way f hmem).2 sp hspm).2.1⟩ (way_lt ok.tick hmem) hname hnod (by rw [createE_tick]; exact he) (by rw [makerOf_tick]; exact hmk))
        have hfz := hS.blk.fz
        have HS := hide hSd
        have Hi := hide hi
        have Hn := hide hn
        clear hf ha hp hpd hSd he hS hi hn
        go_wp2_with (go_at_call 45; refine (standing_some s k p hk _ c7).mono ?_; rintro e w' ⟨rfl, hw⟩; obtain rfl := hw.symm)
        refine wp_strict ?_
        go_region_with (go_at_call 49; refine HCr.out.mono ?_; rintro e w2 ⟨nb, mb, p', bv', rfl, hT2, k2, x2, hp2⟩; have q7 : w2.cell? ⟨s, 7 + k * 2, none⟩ = some (.pointer (some ⟨p, 0, none⟩)) := (HS.out.blk.cell k2 (by decide) _).trans c7; have q8 : w2.cell? ⟨s, 7 + k * 2 + 1, none⟩ = some (.bool false) := (HS.out.blk.cell k2 (by decide) _).trans c8; have z7 : w2.frozen? ⟨s, 7 + k * 2, none⟩ = false := (HS.out.blk.kept k2 (by decide)).fz _; have z8 : w2.frozen? ⟨s, 7 + k * 2 + 1, none⟩ = false := (HS.out.blk.kept k2 (by decide)).fz _; have HT2 := hide hT2; have HK2 := hide k2; have HX2 := hide x2; have HP2 := hide hp2; clear hT2 k2 x2 hp2)
        all_goals
          go_wp2
          have hG : ∀ j, ext F w w1 j → ext F w w2 j := ext_mono HX2.out.size
          have hE2 : ∀ j, ext (ext F w w1) w1.drew w2 j → ext F w w2 j := ext_trans hx.out.size HX2.out.size
          have hS2 := HS.out.regrow ok.tick HK2.out hG (HT2.out.mono hE2)
          have hx2 : Ext F w w2 := hx.out.trans ((Ext.refl _ w1).drew.trans' HX2.out)
          obtain ⟨st1, hst1⟩ : ∃ q, q = withNode (tick st) (newNd name dir m.d) := ⟨_, rfl⟩
          have hset := hS2.setStand (st' := mCreateAt (tick st) i f (newNd name dir m.d)) hk (pv := .pointer (some ⟨p', 0, none⟩)) (op := true) (o := some ⟨f.n, f.way ++ [come (withNode (tick st) (newNd name dir m.d)) st.nodes.length], true⟩) ⟨p', rfl, rfl, by rw [List.reverse_append]; exact PlaceIs.mono hE2 HP2.out⟩ rfl rfl rfl (fun q => fidAt_createAt ok.tick.fids Hi.out Hn.out _ q)
          obtain ⟨W, hW⟩ : ∃ W, W = ((w2.setCell ⟨s, 7 + k * 2, none⟩ (.pointer (some ⟨p', 0, none⟩))).setCell ⟨s, 7 + k * 2 + 1, none⟩ (.bool true)) := ⟨_, rfl⟩
          rw [← hW] at hset ⊢
          have hWz : W.heap.size = w2.heap.size := by rw [hW]; simp
          have hD : Held W (ext F w W) s (mCreateAt (tick st) i f (newNd name dir m.d)) := ⟨t, _, bv', hset.mono (ext_mono (by rw [hWz]; exact Nat.le_refl _))⟩
          have hxW : Ext F w W := by
            have ho : F s ∨ w.heap.size ≤ s := by rcases HS.out.blk.own with h | h; exact .inl h; exact .inr h.1
            rw [hW]
            exact (hx2.setCell ho _).setCell ho _
          refine leaves_cons (f := 43) (args := #[.pointer (some ⟨s, 0, none⟩)]) (by simp) (by simp [go_sem]) ?_
          refine (leave_deferred .returning hD).mono ?_
          rintro e u' w'' ⟨rfl, rfl, rfl⟩
          refine ⟨_, results_tmp rfl _ _ _, ?_⟩
          exact PEnds.close H.out hD hxW
      · have H := hide (mCreate_err (dir := dir) (show find st k = some i from hf) hi hop hsp he)
        have HCr := hide (create_err p f.way sp hsp name dir (st := tick st) hSd.tree hpd ⟨((ok.way f hmem).2 sp hspm).1, ((ok.way f hmem).2 sp hspm).2.1⟩ hname (by have := ok.live; show liveNodes st.nodes ≤ 1000000000; omega) (by rw [createE_tick]; exact he))
        rw [createE_tick] at HCr
        have q1 : (createE st sp name != 0) = true := by simpa using he
        have q2 : (createE st sp name == 0) = false := by simpa using he
        have HS := hide hS
        clear hf hi ha hp hn hpd hSd he hS
        go_wp2_with (go_at_call 45; refine (standing_some s k p hk _ c7).mono ?_; rintro e w' ⟨rfl, hw⟩; obtain rfl := hw.symm)
        refine wp_strict ?_
        go_region_with (go_at_call 49; refine HCr.out.mono ?_; rintro e w2 ⟨rfl, hb⟩; have HB := hide hb; clear hb)
        all_goals
          go_wp2
          have hb2 : Below w1.heap.size w1 w2 := ((Below.refl _ w1).drew).trans HB.out
          have hS2 : SrvHas w2 (ext F w w1) s (tick st) 1 t L bv := HS.out.below hb2
          have hx2 : Ext F w w2 := hx.out.trans' (Ext.below hb2)
          have hD : Held w2 (ext F w w2) s (tick st) := ⟨t, L, bv, hS2.mono (ext_mono hb2.size)⟩
          refine leaves_cons (f := 43) (args := #[.pointer (some ⟨s, 0, none⟩)]) (by simp) (by simp [go_sem]) ?_
          refine (leave_deferred .returning hD).mono ?_
          rintro e u' w'' ⟨rfl, rfl, rfl⟩
          refine ⟨_, results_tmp rfl _ _ _, ?_⟩
          exact PEnds.close H.out hD hx2
end Go.Proofs.YtdmdgnghaceibaaGreat.P
/- What every state of a script keeps. (No walk.) -/
namespace Go.Proofs.YtdmdgnghaceibaaGreat.P
open M
set_option linter.unusedVariables false

/-! ### How many fids there are -/
theorem few_ints : ∀ (n : Nat) (l : List Int), l.Pairwise (· ≠ ·) → (∀ x ∈ l, 0 ≤ x ∧ x < (n : Int)) → l.length ≤ n
  | 0, l, _, h => by
    cases l with
    | nil => simp
    | cons x l => have := h x (by simp); omega
  | n + 1, l, hp, h => by
    have h1 : (l.filter (fun x => decide (x ≠ (n : Int)))).length ≤ n := by
      refine few_ints n _ (hp.filter _) (fun x hx => ?_)
      obtain ⟨hx, hne⟩ := List.mem_filter.1 hx
      have := h x hx
      have : x ≠ (n : Int) := of_decide_eq_true hne
      omega
    have h2 : ∀ l : List Int, l.Pairwise (· ≠ ·) → l.length ≤ (l.filter (fun x => decide (x ≠ (n : Int)))).length + 1 := by
      intro l
      induction l with
      | nil => intro _; simp
      | cons x l ih =>
        intro hp
        obtain ⟨hx, hp⟩ := List.pairwise_cons.1 hp
        by_cases e : x = (n : Int)
        · have : l.filter (fun x => decide (x ≠ (n : Int))) = l := by
            rw [List.filter_eq_self]
            intro y hy
            have := hx y hy
            rw [e] at this
            exact decide_eq_true (Ne.symm this)
          rw [List.filter_cons_of_neg (by simp [e]), this]
          simp
        · rw [List.filter_cons_of_pos (by simp [e])]
          have := ih hp
          simp only [List.length_cons]
          omega
    have := h2 l hp
    omega

theorem FidsOk.few {st : St} (ok : FidsOk st) : st.fids.length ≤ 51 := by
  have := few_ints 51 (st.fids.map (·.n)) (by rw [List.pairwise_map]; exact ok.once) (fun x hx => by
    obtain ⟨f, hf, rfl⟩ := List.mem_map.1 hx
    have := ok.small f hf
    omega)
  simpa using this

/-! ### POk is kept -/
def SpotOk (st : St) (s : Spot) : Prop := s.n < st.nodes.length ∧ (∀ m ∈ s.row, m.d < st.nodes.length ∧ isDir st m.d = true) ∧ s.row.length ≤ 6

theorem POk.withFids {st st' : St} (ok : POk st) (hn : st'.nodes = st.nodes) (hl : st'.laid = st.laid) (hf : FidsOk st') (hw : ∀ f ∈ st'.fids, f.way ≠ [] ∧ ∀ s ∈ f.way, SpotOk st s) : POk st' := by
  obtain ⟨n', l', f', c'⟩ := st'
  obtain ⟨n, l, f, c⟩ := st
  simp only at hn hl
  subst hn hl
  exact ⟨hf, ok.root, hw, ok.laid, ok.names, ok.inn, ok.live⟩

theorem POk.spots {st : St} (ok : POk st) {f : Fid} (hf : f ∈ st.fids) : ∀ s ∈ f.way, SpotOk st s := (ok.way f hf).2

theorem come_spot {st : St} (ok : POk st) {c : Nat} (hc : c < st.nodes.length) : SpotOk st (come st c) := by
  refine ⟨hc, (come_ok ok hc).2, ?_⟩
  unfold come
  simp only
  split
  · unfold rowOf
    split
    · rename_i l hl
      exact (ok.laid l (List.mem_of_find?_eq_some hl)).2.1
    · simp
  · simp

theorem wayStep_spots {st : St} (ok : POk st) {way : List Spot} (h : ∀ s ∈ way, SpotOk st s) (name : ByteArray) : ∀ s ∈ (wayStep st way name).2, SpotOk st s := by
  unfold wayStep
  split
  · exact h
  · split
    · simp only
      split
      · exact fun s hs => h s (List.mem_of_mem_take hs)
      · exact h
    · split
      · exact h
      · split
        · exact h
        · split
          · split
            · exact h
            · rename_i c hc
              intro s hs
              rcases List.mem_append.1 hs with hs | hs
              · exact h s hs
              · simp at hs
                subst hs
                exact come_spot ok (seenIn_lt hc)
          · exact h

theorem wayStep_ne {st : St} {way : List Spot} (h : way ≠ []) (name : ByteArray) : (wayStep st way name).2 ≠ [] := by
  unfold wayStep
  split
  · exact h
  · split
    · simp only
      split
      · rename_i h1
        intro h0
        have := congrArg List.length h0
        simp at this
        omega
      · exact h
    · split
      · exact h
      · split
        · exact h
        · split
          · split
            · exact h
            · simp
          · exact h

theorem wayGo_spots {st : St} (ok : POk st) : ∀ (names : List ByteArray) {way : List Spot}, (∀ s ∈ way, SpotOk st s) → way ≠ [] → (∀ s ∈ (wayGo st names way).2.2, SpotOk st s) ∧ (wayGo st names way).2.2 ≠ []
  | [], way, h, hne => ⟨h, hne⟩
  | s :: l, way, h, hne => by
    unfold wayGo
    split
    · exact wayGo_spots ok l (wayStep_spots ok h s) (wayStep_ne hne s)
    · exact ⟨h, hne⟩

theorem mAttach_ok {st : St} (ok : POk st) (n : Int) : POk (mAttach st n).1 := by
  unfold mAttach
  split
  · rename_i hn
    split
    · exact ok.tick
    · rename_i hf
      have hsm := of_decide_eq_true hn
      refine ok.tick.withFids rfl rfl (FidsOk.snoc (st := tick st) ok.tick.fids ⟨n, [come st 0], false⟩ hf hsm) (fun f hf => ?_)
      rcases List.mem_append.1 hf with hf | hf
      · exact ok.way f hf
      · simp at hf
        subst hf
        exact ⟨by simp, fun s hs => by simp at hs; subst hs; exact come_spot ok ok.pos⟩
  · exact ok.tick

theorem mDrop_ok {st : St} (ok : POk st) (i : Nat) : POk (mDrop st i) := by
  refine ok.withFids rfl rfl (ok.fids.drop i) (fun f hf => ok.way f ?_)
  rcases List.mem_append.1 hf with hf | hf
  · exact List.mem_of_mem_take hf
  · exact List.mem_of_mem_drop hf

theorem mClunk_ok {st : St} (ok : POk st) (n : Int) : POk (mClunk st n).1 := by
  unfold mClunk
  split
  · exact ok.tick
  · exact mDrop_ok ok.tick _

theorem mOpen_ok {st : St} (ok : POk st) (n : Int) : POk (mOpen st n).1 := by
  unfold mOpen
  split
  · exact ok.tick
  · split
    · exact ok.tick
    · rename_i i f hi
      split
      · exact ok.tick
      · split
        · exact ok.tick
        · refine ok.tick.withFids rfl rfl (FidsOk.set (st := tick st) (g := { f with op := true }) ok.tick.fids hi rfl) (fun g hg => ?_)
          rcases List.mem_or_eq_of_mem_set hg with hg | rfl
          · exact ok.way g hg
          · exact ok.way f (List.mem_of_getElem? hi)

theorem mWalkTo_ok {st : St} (ok : POk st) {i : Nat} {f : Fid} {n tto : Int} (hi : st.fids[i]? = some f) (hn : f.n = n) (hfid : fidOk tto = true) (hto : tto = n ∨ find st tto = none) {way : List Spot} (hw : ∀ s ∈ way, SpotOk st s) (hne : way ≠ []) : POk (mWalkTo st i n tto way) := by
  have hsm := of_decide_eq_true hfid
  unfold mWalkTo
  split
  · rename_i e
    have h0 : find (mDrop st i) tto = none := find_of_fidAt (by rw [fidAt_drop ok.fids hi, if_pos (e.trans hn.symm)])
    refine (mDrop_ok ok i).withFids rfl rfl (FidsOk.snoc (st := mDrop st i) (ok.fids.drop i) ⟨tto, way, false⟩ h0 hsm) (fun g hg => ?_)
    rcases List.mem_append.1 hg with hg | hg
    · exact (mDrop_ok ok i).way g hg
    · simp at hg
      subst hg
      exact ⟨hne, hw⟩
  · rename_i e
    rcases hto with h | h
    · exact absurd h e
    · refine ok.withFids rfl rfl (FidsOk.snoc ok.fids ⟨tto, way, false⟩ h hsm) (fun g hg => ?_)
      rcases List.mem_append.1 hg with hg | hg
      · exact ok.way g hg
      · simp at hg
        subst hg
        exact ⟨hne, hw⟩

theorem mWalk_ok {st : St} (ok : POk st) (n tto : Int) (names : List ByteArray) : POk (mWalk st n tto names).1 := by
  unfold mWalk
  split
  · exact ok.tick
  · rename_i i hf
    split
    · exact ok.tick
    · rename_i f hi
      split
      · rename_i hal
        split
        · obtain ⟨hto, hwho⟩ := mAllowed_zero hal
          obtain ⟨f', hi', hn, _⟩ := fidAt_find hf
          rw [hi] at hi'
          cases hi'
          have hm := List.mem_of_getElem? hi
          obtain ⟨h1, h2⟩ := wayGo_spots ok names (ok.spots hm) (ok.way f hm).1
          refine mWalkTo_ok ok.tick hi hn hto ?_ h1 h2
          rw [← hn]
          exact hwho
        · exact ok.tick
      · exact ok.tick

theorem isDir_withNode {st : St} {x : Nd} {d : Nat} (hd : d < st.nodes.length) : isDir (withNode st x) d = isDir st d := by
  unfold isDir
  rw [get_withNode, if_neg (by omega)]

theorem spot_withNode {st : St} {x : Nd} {s : Spot} (h : SpotOk st s) : SpotOk (withNode st x) s := by
  have hl : (withNode st x).nodes.length = st.nodes.length + 1 := by simp [withNode]
  refine ⟨by rw [hl]; have := h.1; omega, fun m hm => ?_, h.2.2⟩
  obtain ⟨h1, h2⟩ := h.2.1 m hm
  exact ⟨by rw [hl]; omega, by rw [isDir_withNode h1]; exact h2⟩

theorem withNode_ok {st : St} (ok : POk st) {name : ByteArray} {dir : Bool} {d : Nat} (hname : name.size ≤ 12) (hd : d < st.nodes.length) (hlive : liveNodes st.nodes < 100) : POk (withNode st (newNd name dir d)) := by
  have hl : (withNode st (newNd name dir d)).nodes.length = st.nodes.length + 1 := by simp [withNode]
  refine ⟨⟨ok.fids.once, ok.fids.small⟩, ?_, fun f hf => ⟨(ok.way f hf).1, fun s hs => spot_withNode ((ok.way f hf).2 s hs)⟩, fun l hl2 => ?_, fun x hx => ?_, fun x hx => ?_, ?_⟩
  · obtain ⟨x, hx, hxd⟩ := ok.root
    exact ⟨x, by rw [get_withNode, if_neg (by have := M.lt_of_getElem? hx; omega)]; exact hx, hxd⟩
  · obtain ⟨h1, h2, h3⟩ := ok.laid l hl2
    refine ⟨fun m hm => ?_, h2, by rw [hl]; omega⟩
    obtain ⟨a, b⟩ := h1 m hm
    exact ⟨by rw [hl]; omega, by rw [isDir_withNode a]; exact b⟩
  · rcases List.mem_append.1 hx with hx | hx
    · exact ok.names x hx
    · simp at hx; subst hx; exact hname
  · rw [hl]
    rcases List.mem_append.1 hx with hx | hx
    · have := ok.inn x hx; omega
    · simp at hx; subst hx; simp [newNd]; omega
  · rw [live_withNode _ _ rfl]; omega

theorem isName_size {name : ByteArray} (h : isName name = true) : name.size ≤ 12 := by
  have : ¬ badText name = true := by
    intro hb
    simp [isName, hb] at h
  simp only [badText, decide_eq_true_eq, not_or] at this
  omega

theorem mCreate_keeps {st : St} (ok : POk st) (n : Int) (name : ByteArray) (dir : Bool) : POk (mCreate st n name dir).1 := by
  cases hf : find st n with
  | none => unfold mCreate; rw [hf]; exact ok.tick
  | some i =>
    obtain ⟨f, hi, hn, _⟩ := fidAt_find hf
    cases hop : f.op with
    | true => unfold mCreate; rw [hf]; simp only; rw [hi]; simp only; rw [if_pos hop]; exact ok.tick
    | false =>
      have hm := List.mem_of_getElem? hi
      have hne := (ok.way f hm).1
      have hsp : f.way.getLast? = some (f.way.getLast hne) := List.getLast?_eq_some_getLast hne
      generalize f.way.getLast hne = sp at hsp
      by_cases he : createE st sp name = 0
      · obtain ⟨_, _, hnm, _, ⟨m, hmk⟩, hlive⟩ := createE_zero he
        rw [mCreate_ok hf hi hop hsp he hmk]
        have hmd := (((ok.way f hm).2 sp (List.mem_of_getLast? hsp)).2.1 m (makerOf_mem hmk).1).1
        have okn := withNode_ok (dir := dir) ok.tick (isName_size hnm) hmd hlive
        have e : (mCreateAt (tick st) i f (newNd name dir m.d)).fids = st.fids.set i ⟨f.n, f.way ++ [come (withNode (tick st) (newNd name dir m.d)) st.nodes.length], true⟩ := by simp [mCreateAt, setOpen, setWay, withNode, tick]
        refine okn.withFids rfl rfl ?_ (fun g hg => ?_)
        · have := FidsOk.set (st := tick st) (g := ⟨f.n, f.way ++ [come (withNode (tick st) (newNd name dir m.d)) st.nodes.length], true⟩) ok.tick.fids hi rfl
          exact ⟨by rw [e]; exact this.once, by rw [e]; exact this.small⟩
        · rw [e] at hg
          rcases List.mem_or_eq_of_mem_set hg with hg | rfl
          · exact okn.way g hg
          · refine ⟨by simp, fun s hs => ?_⟩
            rcases List.mem_append.1 hs with hs | hs
            · exact spot_withNode ((ok.way f hm).2 s hs)
            · simp at hs
              subst hs
              exact come_spot okn (by simp [withNode, tick])
      · rw [mCreate_err hf hi hop hsp he]
        exact ok.tick
end Go.Proofs.YtdmdgnghaceibaaGreat.P
/- Where nothing is bound: a way goes down the tree. (No walk.) -/
namespace Go.Proofs.YtdmdgnghaceibaaGreat.P
open M
set_option linter.unusedVariables false

structure Inc (way : List Spot) : Prop where
  up : way.Pairwise (fun a b => a.n < b.n)
  own : ∀ s ∈ way, ∀ m ∈ s.row, m.d = s.n

structure Plain (st : St) : Prop where
  laid : st.laid = []
  inn : ∀ (i : Nat) x, st.nodes[i]? = some x → x.inn < (i : Int)
  way : ∀ f ∈ st.fids, Inc f.way

theorem Plain.tick {st : St} (h : Plain st) : Plain (tick st) := ⟨h.laid, h.inn, h.way⟩
theorem Plain.withFids {st st' : St} (h : Plain st) (hn : st'.nodes = st.nodes) (hl : st'.laid = st.laid) (hw : ∀ f ∈ st'.fids, Inc f.way) : Plain st' := ⟨by rw [hl]; exact h.laid, by rw [hn]; exact h.inn, hw⟩

theorem come_row {st : St} (h : st.laid = []) (c : Nat) : ∀ m ∈ (come st c).row, m.d = c := by
  intro m hm
  unfold come rowOf at hm
  simp only [h, List.find?_nil] at hm
  split at hm
  · simp at hm; rw [hm]
  · simp at hm

theorem seenIn_in {st : St} {name : ByteArray} : ∀ {row : List Member} {c : Nat}, seenIn st name row = some c → ∃ m ∈ row, lies st m.d name = some c
  | [], c, h => by simp [seenIn] at h
  | a :: r, c, h => by
    unfold seenIn at h
    split at h
    · obtain ⟨m, hm, hl⟩ := seenIn_in h
      exact ⟨m, by simp [hm], hl⟩
    · split at h
      · rename_i n hn
        cases h
        exact ⟨a, by simp, hn⟩
      · obtain ⟨m, hm, hl⟩ := seenIn_in h
        exact ⟨m, by simp [hm], hl⟩

theorem lies_inn {st : St} {d : Nat} {name : ByteArray} {c : Nat} (h : lies st d name = some c) : ∃ x, st.nodes[c]? = some x ∧ x.inn = (d : Int) := by
  unfold lies at h
  rw [List.findIdx?_eq_some_iff_getElem] at h
  obtain ⟨hc, hp, _⟩ := h
  refine ⟨st.nodes[c], List.getElem?_eq_getElem hc, ?_⟩
  unfold liesHere at hp
  simp only [Bool.and_eq_true, beq_iff_eq] at hp
  exact hp.1.1

theorem Inc.take {way : List Spot} (h : Inc way) (k : Nat) : Inc (way.take k) := ⟨h.up.sublist (List.take_sublist _ _), fun s hs => h.own s (List.mem_of_mem_take hs)⟩

theorem last_split {α : Type} {l : List α} {x : α} (h : l.getLast? = some x) : ∃ r, l = r ++ [x] := by
  have hne : l ≠ [] := by intro e; rw [e] at h; simp at h
  refine ⟨l.dropLast, ?_⟩
  rw [List.getLast?_eq_some_getLast hne] at h
  cases h
  exact (List.dropLast_concat_getLast hne).symm

theorem Inc.snoc {way : List Spot} (h : Inc way) {sp : Spot} (hsp : way.getLast? = some sp) {x : Spot} (hx : sp.n < x.n) (hr : ∀ m ∈ x.row, m.d = x.n) : Inc (way ++ [x]) := by
  refine ⟨?_, fun s hs => ?_⟩
  · rw [List.pairwise_append]
    refine ⟨h.up, by simp, fun a ha b hb => ?_⟩
    simp at hb
    subst hb
    obtain ⟨r, rfl⟩ := last_split hsp
    rcases List.mem_append.1 ha with ha | ha
    · have := (List.pairwise_append.1 h.up).2.2 a ha sp (by simp)
      omega
    · simp at ha
      subst ha
      exact hx
  · rcases List.mem_append.1 hs with hs | hs
    · exact h.own s hs
    · simp at hs
      subst hs
      exact hr

theorem wayStep_inc {st : St} (hp : Plain st) {way : List Spot} (h : Inc way) (name : ByteArray) : Inc (wayStep st way name).2 := by
  unfold wayStep
  split
  · exact h
  · split
    · simp only
      split
      · exact h.take _
      · exact h
    · split
      · exact h
      · rename_i sp hsp
        split
        · exact h
        · split
          · split
            · exact h
            · rename_i c hc
              obtain ⟨m, hm, hl⟩ := seenIn_in hc
              obtain ⟨x, hx, hxi⟩ := lies_inn hl
              have h1 := hp.inn c x hx
              have h2 := h.own sp (List.mem_of_getLast? hsp) m hm
              refine h.snoc hsp (by show sp.n < c; omega) (come_row hp.laid c)
          · exact h

theorem wayGo_inc {st : St} (hp : Plain st) : ∀ (names : List ByteArray) {way : List Spot}, Inc way → Inc (wayGo st names way).2.2
  | [], way, h => h
  | s :: l, way, h => by
    unfold wayGo
    split
    · exact wayGo_inc hp l (wayStep_inc hp h s)
    · exact h

theorem Inc.len {way : List Spot} (h : Inc way) {n : Nat} (hn : ∀ s ∈ way, s.n < n) : way.length ≤ n := by
  have := few_ints n (way.map (fun s => (s.n : Int))) (by
    rw [List.pairwise_map]
    exact h.up.imp (fun {a b} hab => by omega)) (fun x hx => by
    obtain ⟨s, hs, rfl⟩ := List.mem_map.1 hx
    have := hn s hs
    omega)
  simpa using this

theorem Inc.one (st : St) (hl : st.laid = []) (c : Nat) : Inc [come st c] := ⟨by simp, fun s hs => by simp at hs; subst hs; exact come_row hl c⟩

theorem mAttach_plain {st : St} (h : Plain st) (n : Int) : Plain (mAttach st n).1 := by
  unfold mAttach
  split
  · split
    · exact h.tick
    · refine h.tick.withFids rfl rfl (fun f hf => ?_)
      rcases List.mem_append.1 hf with hf | hf
      · exact h.way f hf
      · simp at hf
        subst hf
        exact Inc.one st h.laid 0
  · exact h.tick

theorem mDrop_plain {st : St} (h : Plain st) (i : Nat) : Plain (mDrop st i) := by
  refine h.withFids rfl rfl (fun f hf => h.way f ?_)
  rcases List.mem_append.1 hf with hf | hf
  · exact List.mem_of_mem_take hf
  · exact List.mem_of_mem_drop hf

theorem mClunk_plain {st : St} (h : Plain st) (n : Int) : Plain (mClunk st n).1 := by
  unfold mClunk
  split
  · exact h.tick
  · exact mDrop_plain h.tick _

theorem mOpen_plain {st : St} (h : Plain st) (n : Int) : Plain (mOpen st n).1 := by
  unfold mOpen
  split
  · exact h.tick
  · split
    · exact h.tick
    · rename_i i f hi
      split
      · exact h.tick
      · split
        · exact h.tick
        · refine h.tick.withFids rfl rfl (fun g hg => ?_)
          rcases List.mem_or_eq_of_mem_set hg with hg | rfl
          · exact h.way g hg
          · exact h.way f (List.mem_of_getElem? hi)

theorem mWalk_plain {st : St} (h : Plain st) (n tto : Int) (names : List ByteArray) : Plain (mWalk st n tto names).1 := by
  unfold mWalk
  split
  · exact h.tick
  · rename_i i hf
    split
    · exact h.tick
    · rename_i f hi
      split
      · split
        · have hw := wayGo_inc h names (h.way f (List.mem_of_getElem? hi))
          unfold mWalkTo
          split
          · refine (mDrop_plain h.tick i).withFids rfl rfl (fun g hg => ?_)
            rcases List.mem_append.1 hg with hg | hg
            · exact (mDrop_plain h.tick i).way g hg
            · simp at hg; subst hg; exact hw
          · refine h.tick.withFids rfl rfl (fun g hg => ?_)
            rcases List.mem_append.1 hg with hg | hg
            · exact h.way g hg
            · simp at hg; subst hg; exact hw
        · exact h.tick
      · exact h.tick

theorem mCreate_plain {st : St} (ok : POk st) (h : Plain st) (n : Int) (name : ByteArray) (dir : Bool) : Plain (mCreate st n name dir).1 := by
  cases hf : find st n with
  | none => unfold mCreate; rw [hf]; exact h.tick
  | some i =>
    obtain ⟨f, hi, hn, _⟩ := fidAt_find hf
    cases hop : f.op with
    | true => unfold mCreate; rw [hf]; simp only; rw [hi]; simp only; rw [if_pos hop]; exact h.tick
    | false =>
      have hm := List.mem_of_getElem? hi
      have hne := (ok.way f hm).1
      have hsp : f.way.getLast? = some (f.way.getLast hne) := List.getLast?_eq_some_getLast hne
      generalize f.way.getLast hne = sp at hsp
      by_cases he : createE st sp name = 0
      · obtain ⟨_, _, hnm, _, ⟨m, hmk⟩, hlive⟩ := createE_zero he
        rw [mCreate_ok hf hi hop hsp he hmk]
        have hspm := List.mem_of_getLast? hsp
        have hmd := (((ok.way f hm).2 sp hspm).2.1 m (makerOf_mem hmk).1).1
        have e : (mCreateAt (tick st) i f (newNd name dir m.d)).fids = st.fids.set i ⟨f.n, f.way ++ [come (withNode (tick st) (newNd name dir m.d)) st.nodes.length], true⟩ := by simp [mCreateAt, setOpen, setWay, withNode, tick]
        refine ⟨h.laid, fun j x hx => ?_, fun g hg => ?_⟩
        · have hx : (withNode (tick st) (newNd name dir m.d)).nodes[j]? = some x := hx
          rw [get_withNode] at hx
          split at hx
          · rename_i ej
            cases hx
            have : j = st.nodes.length := ej
            simp [newNd]
            omega
          · exact h.inn j x hx
        · rw [e] at hg
          rcases List.mem_or_eq_of_mem_set hg with hg | rfl
          · exact h.way g hg
          · exact (h.way f hm).snoc hsp (by show sp.n < st.nodes.length; exact ((ok.way f hm).2 sp hspm).1) (come_row (st := withNode (tick st) (newNd name dir m.d)) h.laid st.nodes.length)
      · rw [mCreate_err hf hi hop hsp he]
        exact h.tick

/-! ### How many nodes there are -/
theorem mAttach_len (st : St) (n : Int) : (mAttach st n).1.nodes = st.nodes := by
  unfold mAttach
  split
  · split <;> rfl
  · rfl
theorem mClunk_len (st : St) (n : Int) : (mClunk st n).1.nodes = st.nodes := by
  unfold mClunk
  split <;> rfl
theorem mOpen_len (st : St) (n : Int) : (mOpen st n).1.nodes = st.nodes := by
  unfold mOpen
  split
  · rfl
  · split
    · rfl
    · split
      · rfl
      · split <;> rfl
theorem mWalk_len (st : St) (n tto : Int) (names : List ByteArray) : (mWalk st n tto names).1.nodes = st.nodes := by
  unfold mWalk
  split
  · rfl
  · split
    · rfl
    · split
      · split
        · unfold mWalkTo; split <;> rfl
        · rfl
      · rfl
theorem mCreate_len {st : St} (ok : POk st) (n : Int) (name : ByteArray) (dir : Bool) : (mCreate st n name dir).1.nodes.length ≤ st.nodes.length + 1 := by
  cases hf : find st n with
  | none => unfold mCreate; rw [hf]; simp [tick]
  | some i =>
    obtain ⟨f, hi, hn, _⟩ := fidAt_find hf
    cases hop : f.op with
    | true => unfold mCreate; rw [hf]; simp only; rw [hi]; simp only; rw [if_pos hop]; simp [tick]
    | false =>
      have hm := List.mem_of_getElem? hi
      have hne := (ok.way f hm).1
      have hsp : f.way.getLast? = some (f.way.getLast hne) := List.getLast?_eq_some_getLast hne
      generalize f.way.getLast hne = sp at hsp
      by_cases he : createE st sp name = 0
      · obtain ⟨_, _, hnm, _, ⟨m, hmk⟩, hlive⟩ := createE_zero he
        rw [mCreate_ok hf hi hop hsp he hmk]
        simp [mCreateAt, setOpen, setWay, withNode, tick]
      · rw [mCreate_err hf hi hop hsp he]
        simp [tick]
end Go.Proofs.YtdmdgnghaceibaaGreat.P
/- The program's place.file, opened, openedFile. -/
namespace Go.Proofs.YtdmdgnghaceibaaGreat.P
open M Go.ChangeShapes Go.WideShapes Go.ChangeAt Go.RowKit
set_option linter.unusedVariables false

def fileE (st : St) (i : Nat) : Int := if isGone st i then 4 else if isDir st i then 5 else 0
def fileV (st : St) (L : Lay) (i : Nat) : Value := if fileE st i = 0 then .pointer (some ⟨L.nb i, 0, none⟩) else .pointer none

set_option maxRecDepth 20000 in
set_option maxHeartbeats 1000000 in
theorem file_any {w : World} {F : Nat → Prop} {t : Nat} {st : St} {L : Lay} {bv : Nat → Value} (p i : Nat) (h : TreeIs w F t st L bv) (hi : i < st.nodes.length) (c0 : w.cell? ⟨p, 0, none⟩ = some (nodeV L i)) :
    Calls Tryz.prog 92 #[.pointer (some ⟨p, 0, none⟩)] w fun e w' => e = .returned (.tuple #[fileV st L i, .int .i64 (fileE st i)]) ∧ w' = w := by
  have hnot : ∀ (x : Bool) (w : World), (Op.unary .not (.bool x)).run Tryz.prog w = .ok (.bool (!x)) w := fun _ _ => rfl
  have hg := h.gone hi
  have hd := h.isDir hi
  have m1 := m_isGoneD
  have m2 := m_isGoneF
  have a1 := asFile
  have a2 := notFile
  clear h
  cases hgv : isGone st i with
  | true =>
    have H := hide (show fileE st i = 4 by simp [fileE, hgv])
    rw [hgv] at hg
    rcases nodeV_cases L i with e | e
    all_goals
      rw [e] at c0
      clear hd hgv e
      go_enter Tryz.func92, Tryz.ntmps92
      go_wp2_with (go_at_call 94; refine (isGone_any _ _ _ hg).mono ?_; rintro e w' ⟨rfl, hw⟩; obtain rfl := hw.symm)
      go_ret2
      exact ⟨by rw [fileV, H.out]; rfl, rfl⟩
  | false =>
    rw [hgv] at hg
    cases hdv : isDir st i with
    | true =>
      have H := hide (show fileE st i = 5 by simp [fileE, hgv, hdv])
      have e : nodeV L i = .iface 87 (.pointer (some ⟨L.nb i, 0, none⟩)) := by rw [nodeV, hd, hdv]; rfl
      rw [e] at c0
      clear hd hgv hdv e
      go_enter Tryz.func92, Tryz.ntmps92
      go_wp2_with (go_at_call 94; refine (isGone_any _ _ _ hg).mono ?_; rintro e w' ⟨rfl, hw⟩; obtain rfl := hw.symm)
      go_ret2
      exact ⟨by rw [fileV, H.out]; rfl, rfl⟩
    | false =>
      have H := hide (show fileE st i = 0 by simp [fileE, hgv, hdv])
      have e : nodeV L i = .iface 122 (.pointer (some ⟨L.nb i, 0, none⟩)) := by rw [nodeV, hd, hdv]; rfl
      rw [e] at c0
      clear hd hgv hdv e
      go_enter Tryz.func92, Tryz.ntmps92
      go_wp2_with (go_at_call 94; refine (isGone_any _ _ _ hg).mono ?_; rintro e w' ⟨rfl, hw⟩; obtain rfl := hw.symm)
      go_ret2
      exact ⟨by rw [fileV, H.out]; rfl, rfl⟩

set_option maxRecDepth 20000 in
theorem opened_none {w : World} {s : Nat} {n : Int} (hno : (fidOk n = false) ∨ ∃ k : Nat, n = k ∧ k < 51 ∧ w.cell? ⟨s, 7 + k * 2, none⟩ = some (.pointer none) ∧ w.cell? ⟨s, 7 + k * 2 + 1, none⟩ = some (.bool false)) :
    Calls Tryz.prog 53 #[.pointer (some ⟨s, 0, none⟩), .int .i64 n] w fun e w' => e = .returned (.tuple #[.pointer none, .int .i64 2]) ∧ w' = w := by
  go_enter Tryz.func53, Tryz.ntmps53
  go_wp2_with (go_at_call 45; refine (standing_no hno).mono ?_; rintro e w' ⟨rfl, hw⟩; obtain rfl := hw.symm)
  go_ret2
  exact ⟨rfl, rfl⟩

set_option maxRecDepth 20000 in
theorem opened_shut {w : World} {s k p : Nat} (hk : k < 51) (c7 : w.cell? ⟨s, 7 + k * 2, none⟩ = some (.pointer (some ⟨p, 0, none⟩))) (c8 : w.cell? ⟨s, 7 + k * 2 + 1, none⟩ = some (.bool false)) :
    Calls Tryz.prog 53 #[.pointer (some ⟨s, 0, none⟩), .int .i64 k] w fun e w' => e = .returned (.tuple #[.pointer none, .int .i64 3]) ∧ w' = w := by
  have hnot : ∀ (x : Bool) (w : World), (Op.unary .not (.bool x)).run Tryz.prog w = .ok (.bool (!x)) w := fun _ _ => rfl
  go_enter Tryz.func53, Tryz.ntmps53
  go_wp2_with (go_at_call 45; refine (standing_some s k p hk _ c7).mono ?_; rintro e w' ⟨rfl, hw⟩; obtain rfl := hw.symm)
  go_ret2
  exact ⟨rfl, rfl⟩

set_option maxRecDepth 20000 in
theorem opened_open {w : World} {s k p : Nat} (hk : k < 51) (c7 : w.cell? ⟨s, 7 + k * 2, none⟩ = some (.pointer (some ⟨p, 0, none⟩))) (c8 : w.cell? ⟨s, 7 + k * 2 + 1, none⟩ = some (.bool true)) :
    Calls Tryz.prog 53 #[.pointer (some ⟨s, 0, none⟩), .int .i64 k] w fun e w' => e = .returned (.tuple #[.pointer (some ⟨p, 0, none⟩), .int .i64 0]) ∧ w' = w := by
  have hnot : ∀ (x : Bool) (w : World), (Op.unary .not (.bool x)).run Tryz.prog w = .ok (.bool (!x)) w := fun _ _ => rfl
  go_enter Tryz.func53, Tryz.ntmps53
  go_wp2_with (go_at_call 45; refine (standing_some s k p hk _ c7).mono ?_; rintro e w' ⟨rfl, hw⟩; obtain rfl := hw.symm)
  go_ret2
  exact ⟨rfl, rfl⟩

/-- Which file an open fid stands at. -/
def openFileV (st : St) (L : Lay) (n : Int) : Value :=
  match find st n with
  | none => .pointer none
  | some i => match st.fids[i]? with
    | none => .pointer none
    | some f => if mFile st (some i) = 0 then .pointer (some ⟨L.nb (nodeOf f), 0, none⟩) else .pointer none

set_option maxRecDepth 20000 in
set_option maxHeartbeats 1000000 in
theorem openedFile_any {w : World} {F : Nat → Prop} {s t : Nat} {st : St} {lk : Int} {L : Lay} {bv : Nat → Value} (n : Int) (hS : SrvHas w F s st lk t L bv) (ok : POk st) :
    Calls Tryz.prog 50 #[.pointer (some ⟨s, 0, none⟩), .int .i64 n] w fun e w' => e = .returned (.tuple #[openFileV st L n, .int .i64 (mFile st (find st n))]) ∧ w' = w := by
  rcases fid_cases hS ok.fids n with ⟨hf, hno⟩ | ⟨k, i, f, p, rfl, hk, hf, hi, hn, ha, c7, c8, hp⟩
  · have H1 := hide (show openFileV st L n = .pointer none by unfold openFileV; rw [hf])
    have H2 := hide (show mFile st (find st n) = 2 by rw [hf]; rfl)
    clear hf
    go_enter Tryz.func50, Tryz.ntmps50
    go_wp2_with (go_at_call 53; refine (opened_none hno).mono ?_; rintro e w' ⟨rfl, hw⟩; obtain rfl := hw.symm)
    go_ret2
    exact ⟨by rw [H1.out, H2.out]; rfl, rfl⟩
  · obtain ⟨sp, hsp, d0, _, _⟩ := place_last hp
    have hno : nodeOf f = sp.n := by simp [nodeOf, hsp]
    have hin := ((ok.way f (List.mem_of_getElem? hi)).2 sp (List.mem_of_getLast? hsp)).1
    have e2 : mFile st (find st k) = if f.op then fileE st sp.n else 3 := by
      rw [hf]
      unfold mFile fileE
      simp only
      rw [hi]
      simp only
      rw [hno]
    have e1 : openFileV st L k = if f.op then fileV st L sp.n else .pointer none := by
      rw [hf] at e2
      unfold openFileV fileV
      rw [hf]
      simp only
      rw [hi]
      simp only
      rw [e2, hno]
      cases f.op <;> simp
    have HT := hide hS.tree
    clear hf hi hn ha hp hS
    cases hop : f.op with
    | false =>
      rw [hop] at c8 e1 e2
      have H1 := hide e1
      have H2 := hide e2
      clear e1 e2
      go_enter Tryz.func50, Tryz.ntmps50
      go_wp2_with (go_at_call 53; refine (opened_shut hk c7 c8).mono ?_; rintro e w' ⟨rfl, hw⟩; obtain rfl := hw.symm)
      go_ret2
      exact ⟨by rw [H1.out, H2.out]; rfl, rfl⟩
    | true =>
      rw [hop] at c8 e1 e2
      have H1 := hide e1
      have H2 := hide e2
      clear e1 e2
      go_enter Tryz.func50, Tryz.ntmps50
      go_wp2_with (first | (go_at_call 53; refine (opened_open hk c7 c8).mono ?_; rintro e w' ⟨rfl, hw⟩; obtain rfl := hw.symm) | (go_at_call 92; refine (file_any p sp.n HT.out hin d0).mono ?_; rintro e w' ⟨rfl, hw⟩; obtain rfl := hw.symm))
      go_ret2
      exact ⟨by rw [H1.out, H2.out]; rfl, rfl⟩
end Go.Proofs.YtdmdgnghaceibaaGreat.P
/- The program's file.read. -/
namespace Go.Proofs.YtdmdgnghaceibaaGreat.P
open M Go.ChangeShapes Go.WideShapes Go.ChangeAt Go.RowKit
set_option linter.unusedVariables false

theorem infoByte : (Tryz.prog.info? 5).map (fun i => (i.zero, i.size, i.bytes)) = some (some (.int .u8 0), 1, 1) := by kernel_rfl

/-- 'make([]byte, m)'. -/
theorem make_bytes (m : Nat) (hm : m ≤ 1000000) : ∃ M : Array Value, M.size = m ∧ ∀ W : World, (Instr.makeSlice 31 (.int .i64 (m : Int)) (.int .i64 (m : Int))).run Tryz.prog W = .ok (.slice (some ⟨W.heap.size, 0, none⟩) m m) (W.alloc (.cells M 5)) := by
  obtain ⟨i0, hi, hz0, hz1, hz2⟩ := info_parts infoByte
  refine ⟨madeCells (Value.int .u8 0).cells (((m : Nat) : Int).toNat * i0.size), by rw [size_madeCells, hz1]; simp, fun W => ?_⟩
  have h := run_make (P := Tryz.prog) W 31 5 i0 (.int .u8 0) Tryz.underlying31 hi hz0 .i64 .i64 (m : Int) (m : Int) (by omega) (by omega) (by rw [hz2]; omega) (by omega)
  simpa using h

theorem sizeByte : (Tryz.prog.info? 5).map (·.size) = some 1 := by
  obtain ⟨i0, hi, _, hz1, _⟩ := info_parts infoByte
  rw [hi]
  simp [hz1]

set_option maxRecDepth 20000 in
set_option maxHeartbeats 1000000 in
/-- There are bytes from there on; m of them are asked and are there. -/
theorem read_mid {w : World} {b g len cap : Nat} (a n m : Nat) (cs : List Value) (hlt : a < len) (hlen : len ≤ cap) (hcap : cap ≤ 9223372036854775807) (hlm : len ≤ 1000000) (hm : (m = n ∧ n ≤ len - a) ∨ (m = len - a ∧ len - a < n)) (b3 : w.cell? ⟨b, 3, none⟩ = some (.slice (some ⟨g, 0, none⟩) len cap))
    (hcs : cs.length = m) (hcell : ∀ j v, cs[j]? = some v → w.cell? ⟨g, a + j, none⟩ = some v) (hone : ∀ v ∈ cs, v.oneCell' = true) :
    Calls Tryz.prog 51 #[.pointer (some ⟨b, 0, none⟩), .int .i64 a, .int .i64 n] w fun e w' => e = .returned (.slice (some ⟨w.heap.size, 0, none⟩) m m) ∧ w'.heap[w.heap.size]? = some (.cells cs.toArray 5 (0, 0)) ∧ w'.heap.size = w.heap.size + 1 ∧ Below w.heap.size w w' := by
  have hml : m ≤ len - a := by omega
  obtain ⟨M, hMs, hmk⟩ := make_bytes m (by omega)
  have hg : g < w.heap.size ∨ m = 0 := by
    cases hc : cs with
    | nil => right; rw [← hcs, hc]; rfl
    | cons v l => left; exact World.block_lt_of_cell? w _ (hcell 0 v (by rw [hc]; rfl))
  have hcp := run_copy_row (P := Tryz.prog) (w.alloc (.cells M 5)).drew 31 31 3 5 w.heap.size 0 m m ⟨g, a, none⟩ (len - a) (cap - a) M 5 cs Tryz.underlying31 sizeByte (heap_alloc_new w _) (by rw [hcs]; show m = min (len - a) m; omega)
    (fun j v hj => by rw [Addr.add_lit]; exact up (hcell j v hj) _) (by omega) hone
  have hY : (M.toList.take 0 ++ cs ++ M.toList.drop (0 + cs.length)).toArray = cs.toArray := by
    rw [List.take_zero, List.nil_append, Nat.zero_add, List.drop_of_length_le (by rw [Array.length_toList]; omega), List.append_nil]
  rw [hY, hcs] at hcp
  have e1 : ¬ len < a := by omega
  have e2 : ¬ cap = a := by omega
  have Hcs := hide hcs
  have HM := hide hMs
  clear hcell hone hY hMs hcs
  rcases hm with ⟨rfl, hn⟩ | ⟨rfl, hn⟩
  · have e3 : ¬ len - a < m := by omega
    have z1 : min (a : Int) (len : Int) = (a : Int) := by omega
    have z2 : min (m : Int) ((len - a : Nat) : Int) = (m : Int) := by omega
    go_enter Tryz.func51, Tryz.ntmps51
    go_wp2
    go_region
    go_wp2
    go_ret
    have hgY : ((w.alloc (.cells M 5)).drew.setRow w.heap.size cs.toArray).heap[w.heap.size]? = some (.cells cs.toArray 5 (0, 0)) := setRow_heap _ _ M _ 5 (0, 0) (heap_alloc_new w _)
    have hb1 : Below w.heap.size w (w.alloc (.cells M 5)).drew := ((Below.refl _ w).alloc (Nat.le_refl _) _).drew
    have hb2 : Below w.heap.size (w.alloc (.cells M 5)).drew ((w.alloc (.cells M 5)).drew.setRow w.heap.size cs.toArray) := ⟨rfl, rfl, rfl, by simp, fun k hk => setRow_other _ _ _ _ (by omega)⟩
    exact ⟨rfl, hgY, by simp, hb1.trans hb2⟩
  · have e3 : len - a < n := by omega
    have z1 : min (a : Int) (len : Int) = (a : Int) := by omega
    have z2 : min (n : Int) ((len - a : Nat) : Int) = ((len - a : Nat) : Int) := by omega
    go_enter Tryz.func51, Tryz.ntmps51
    go_wp2
    go_region
    go_wp2
    go_ret
    have hgY : ((w.alloc (.cells M 5)).drew.setRow w.heap.size cs.toArray).heap[w.heap.size]? = some (.cells cs.toArray 5 (0, 0)) := setRow_heap _ _ M _ 5 (0, 0) (heap_alloc_new w _)
    have hb1 : Below w.heap.size w (w.alloc (.cells M 5)).drew := ((Below.refl _ w).alloc (Nat.le_refl _) _).drew
    have hb2 : Below w.heap.size (w.alloc (.cells M 5)).drew ((w.alloc (.cells M 5)).drew.setRow w.heap.size cs.toArray) := ⟨rfl, rfl, rfl, by simp, fun k hk => setRow_other _ _ _ _ (by omega)⟩
    exact ⟨rfl, hgY, by simp, hb1.trans hb2⟩

theorem made_none {M : Array Value} (h : M.size = 0) : M = #[] := Array.eq_empty_of_size_eq_zero h

set_option maxRecDepth 20000 in
set_option maxHeartbeats 1000000 in
/-- There are no bytes from there on. -/
theorem read_end {w : World} {b g len cap : Nat} (a n : Nat) (hle : len ≤ a) (hlen : len ≤ cap) (hcap : cap ≤ 9223372036854775807) (b3 : w.cell? ⟨b, 3, none⟩ = some (.slice (some ⟨g, 0, none⟩) len cap)) :
    Calls Tryz.prog 51 #[.pointer (some ⟨b, 0, none⟩), .int .i64 a, .int .i64 n] w fun e w' => e = .returned (.slice (some ⟨w.heap.size, 0, none⟩) 0 0) ∧ w'.heap[w.heap.size]? = some (.cells #[] 5 (0, 0)) ∧ w'.heap.size = w.heap.size + 1 ∧ Below w.heap.size w w' := by
  obtain ⟨M, hMs, hmk⟩ := make_bytes 0 (by omega)
  obtain rfl := made_none hMs
  have hcp := fun (x : Option Addr) (sc : Nat) => run_copy_none (P := Tryz.prog) (w.alloc (.cells #[] 5)).drew 31 31 3 5 (some ⟨w.heap.size, 0, none⟩) x 0 0 0 sc Tryz.underlying31 sizeByte rfl
  have hmk0 : ∀ W : World, (Instr.makeSlice 31 (.int .i64 0) (.int .i64 0)).run Tryz.prog W = .ok (.slice (some ⟨W.heap.size, 0, none⟩) 0 0) (W.alloc (.cells #[] 5)) := hmk
  clear hMs hmk
  have z1 : min (a : Int) (len : Int) = (len : Int) := by omega
  have z2 : min (n : Int) 0 = 0 := by omega
  by_cases hlt : len < a
  · skip
    by_cases hn : 0 < n
    · skip
      by_cases hc : cap = len
      · subst hc
        go_enter Tryz.func51, Tryz.ntmps51
        go_wp2
        go_region
        go_wp2
        go_ret
        exact ⟨rfl, heap_alloc_new w _, by simp, ((Below.refl _ w).alloc (Nat.le_refl _) _).drew⟩
      · skip
        go_enter Tryz.func51, Tryz.ntmps51
        go_wp2
        go_region
        go_wp2
        go_ret
        exact ⟨rfl, heap_alloc_new w _, by simp, ((Below.refl _ w).alloc (Nat.le_refl _) _).drew⟩
    · obtain rfl : n = 0 := by omega
      by_cases hc : cap = len
      · subst hc
        go_enter Tryz.func51, Tryz.ntmps51
        go_wp2
        go_region
        go_wp2
        go_ret
        exact ⟨rfl, heap_alloc_new w _, by simp, ((Below.refl _ w).alloc (Nat.le_refl _) _).drew⟩
      · skip
        go_enter Tryz.func51, Tryz.ntmps51
        go_wp2
        go_region
        go_wp2
        go_ret
        exact ⟨rfl, heap_alloc_new w _, by simp, ((Below.refl _ w).alloc (Nat.le_refl _) _).drew⟩
  · obtain rfl : len = a := by omega
    by_cases hn : 0 < n
    · skip
      by_cases hc : cap = len
      · subst hc
        go_enter Tryz.func51, Tryz.ntmps51
        go_wp2
        go_region
        go_wp2
        go_ret
        exact ⟨rfl, heap_alloc_new w _, by simp, ((Below.refl _ w).alloc (Nat.le_refl _) _).drew⟩
      · skip
        go_enter Tryz.func51, Tryz.ntmps51
        go_wp2
        go_region
        go_wp2
        go_ret
        exact ⟨rfl, heap_alloc_new w _, by simp, ((Below.refl _ w).alloc (Nat.le_refl _) _).drew⟩
    · obtain rfl : n = 0 := by omega
      by_cases hc : cap = len
      · subst hc
        go_enter Tryz.func51, Tryz.ntmps51
        go_wp2
        go_region
        go_wp2
        go_ret
        exact ⟨rfl, heap_alloc_new w _, by simp, ((Below.refl _ w).alloc (Nat.le_refl _) _).drew⟩
      · skip
        go_enter Tryz.func51, Tryz.ntmps51
        go_wp2
        go_region
        go_wp2
        go_ret
        exact ⟨rfl, heap_alloc_new w _, by simp, ((Below.refl _ w).alloc (Nat.le_refl _) _).drew⟩

set_option maxRecDepth 20000 in
set_option maxHeartbeats 1000000 in
theorem read_nil {w : World} {b : Nat} (a n : Nat) (b3 : w.cell? ⟨b, 3, none⟩ = some (.slice none 0 0)) :
    Calls Tryz.prog 51 #[.pointer (some ⟨b, 0, none⟩), .int .i64 a, .int .i64 n] w fun e w' => e = .returned (.slice (some ⟨w.heap.size, 0, none⟩) 0 0) ∧ w'.heap[w.heap.size]? = some (.cells #[] 5 (0, 0)) ∧ w'.heap.size = w.heap.size + 1 ∧ Below w.heap.size w w' := by
  obtain ⟨M, hMs, hmk⟩ := make_bytes 0 (by omega)
  obtain rfl := made_none hMs
  have hcp := fun (x : Option Addr) (sc : Nat) => run_copy_none (P := Tryz.prog) (w.alloc (.cells #[] 5)).drew 31 31 3 5 (some ⟨w.heap.size, 0, none⟩) x 0 0 0 sc Tryz.underlying31 sizeByte rfl
  have hmk0 : ∀ W : World, (Instr.makeSlice 31 (.int .i64 0) (.int .i64 0)).run Tryz.prog W = .ok (.slice (some ⟨W.heap.size, 0, none⟩) 0 0) (W.alloc (.cells #[] 5)) := hmk
  clear hMs hmk
  have z1 : min (a : Int) 0 = 0 := by omega
  have z2 : min (n : Int) 0 = 0 := by omega
  by_cases ha : 0 < a
  · by_cases hn : 0 < n
    · skip
      go_enter Tryz.func51, Tryz.ntmps51
      go_wp2
      go_region
      go_wp2
      go_ret
      exact ⟨rfl, heap_alloc_new w _, by simp, ((Below.refl _ w).alloc (Nat.le_refl _) _).drew⟩
    · obtain rfl : n = 0 := by omega
      go_enter Tryz.func51, Tryz.ntmps51
      go_wp2
      go_region
      go_wp2
      go_ret
      exact ⟨rfl, heap_alloc_new w _, by simp, ((Below.refl _ w).alloc (Nat.le_refl _) _).drew⟩
  · obtain rfl : a = 0 := by omega
    by_cases hn : 0 < n
    · skip
      go_enter Tryz.func51, Tryz.ntmps51
      go_wp2
      go_region
      go_wp2
      go_ret
      exact ⟨rfl, heap_alloc_new w _, by simp, ((Below.refl _ w).alloc (Nat.le_refl _) _).drew⟩
    · obtain rfl : n = 0 := by omega
      go_enter Tryz.func51, Tryz.ntmps51
      go_wp2
      go_region
      go_wp2
      go_ret
      exact ⟨rfl, heap_alloc_new w _, by simp, ((Below.refl _ w).alloc (Nat.le_refl _) _).drew⟩
end Go.Proofs.YtdmdgnghaceibaaGreat.P
