/- The reference's 'has', 'within'. -/
import Derived.Test.YtdmdgnghaceibaaGreatPart06
import Derived.Test.YtdmdgnghaceibaaGreatPart09
import Derived.Test.YtdmdgnghaceibaaGreatPart08
import Derived.Test.YtdmdgnghaceibaaGreatPart07
import Derived.Deep.RegionHeld3
import Derived.Test.YtdmdgnghaceibaaGreatPart04
import Derived.Test.YtdmdgnghaceibaaGreatPart01
namespace Go.Proofs.YtdmdgnghaceibaaGreat
open M Go.ChangeShapes Go.WideShapes Go.ChangeAt Go.RowKit
set_option linter.unusedVariables false

set_option maxRecDepth 20000 in
set_option maxHeartbeats 1000000 in
/-- 'has': is a text in a list? -/
theorem has_any {w : World} (l : List ByteArray) (s : ByteArray) (ao : Option Addr) (c : Nat) (hn : NamesAt w ao l) :
    Calls Tryz.prog 152 #[.slice ao l.length c, .string s] w fun e w' => e = .returned (.bool (hasText l s)) ∧ w' = w := by
  have hl := hn.1
  unfold maxLen at hl
  have Hn := hide hn
  clear hn
  go_enter Tryz.func152, Tryz.ntmps152
  go_wp2
  go_loop [5] (fun i => ∃ k : Nat, k ≤ l.length ∧ i = .int .i64 k ∧ (l.take k).any (fun x => decide (x.toList = s.toList)) = false) (fun i => l.length - (intOf i).toNat)
  case atStart => exact ⟨0, Nat.zero_le _, rfl, by simp⟩
  case round =>
    obtain ⟨k, hk, rfl, hany⟩ := hrel
    have Hany := hide hany
    clear hany
    by_cases hlt : k < l.length
    · obtain ⟨t, ht⟩ := getElem?_of_lt hlt
      obtain ⟨hsz, nb, no, rfl, hcs⟩ := Hn.out.2 k t ht
      have Ht := hide ht
      clear ht
      by_cases d : t.toList = s.toList
      · have Hb := hide (show decide (t.toList = s.toList) = true by simpa using d)
        go_wp2
        go_ret
        exact ⟨by rw [show hasText l s = true from any_hit _ Ht.out Hb.out]; rfl, rfl⟩
      · have Hb := hide (show decide (t.toList = s.toList) = false by simpa using d)
        have fb : (t.toList == s.toList) = false := by simpa using d
        go_wp2
        go_round
        case rel => exact ⟨k + 1, by omega, by go_num, any_snoc _ Ht.out Hany.out Hb.out⟩
        case measure => simp [intOf]; omega
    · have Hall := hide (show hasText l s = false by unfold hasText; rw [← Hany.out, List.take_of_length_le (by omega)])
      go_wp2
      go_ret
      exact ⟨by rw [Hall.out]; rfl, rfl⟩

set_option maxHeartbeats 1000000 in
theorem within_core (r g cap : Nat) (st : St) (n : Int) (d : Nat) (w : World) (hl : st.nodes.length ≤ maxLen) (hp : ParentOk st)
    (h0 : w.cell? ⟨r, 0, none⟩ = some (.slice (some ⟨g, 0, none⟩) st.nodes.length cap))
    (hc : ∀ i x, st.nodes[i]? = some x → w.cell? ⟨g, i * 6 + 2, none⟩ = some (.int .i64 x.inn)) (hn : -1 ≤ n) (hn2 : n < st.nodes.length) :
    Calls Tryz.prog 154 #[.pointer (some ⟨r, 0, none⟩), .int .i64 n, .int .i64 d] w fun e w' => e = .returned (.bool (inside st d (n + 1).toNat n)) ∧ w' = w := by
  unfold maxLen at hl
  go_enter Tryz.func154, Tryz.ntmps154
  go_wp2
  go_loop [1] (fun v => ∃ q : Int, v = .int .i64 q ∧ -1 ≤ q ∧ q < st.nodes.length ∧ inside st d (n + 1).toNat n = inside st d (q + 1).toNat q) (fun v => (intOf v + 1).toNat)
  case atStart => exact ⟨n, rfl, hn, hn2, rfl⟩
  case round =>
    obtain ⟨q, rfl, hq, hq2, hin⟩ := hrel
    have Hin := hide hin
    clear hin
    by_cases h1 : 0 ≤ q
    · by_cases h2 : q = (d : Int)
      · have h2' : (q != (d : Int)) = false := by simpa using h2
        have h2'' : (q == (d : Int)) = true := by simpa using h2
        have HE := hide (show inside st d (n + 1).toNat n = true by
          rw [Hin.out]
          cases hz : (q + 1).toNat with
          | zero => simp [inside, h2]
          | succ z => simp only [inside]; rw [if_neg (fun a => a.2 h2)]; exact h2'')
        clear h2
        go_wp2
        go_ret
        exact ⟨by rw [HE.out]; rfl, rfl⟩
      · have h2' : (q != (d : Int)) = true := by simpa using h2
        obtain ⟨qn, rfl⟩ := Int.eq_ofNat_of_zero_le h1
        obtain ⟨x, hx⟩ := getElem?_of_lt (show qn < st.nodes.length by omega)
        have c2 := hc qn x hx
        obtain ⟨p1, p2⟩ := hp qn x hx
        have HE := hide (show inside st d (n + 1).toNat n = inside st d (x.inn + 1).toNat x.inn by
          rw [Hin.out, show ((qn : Int) + 1).toNat = qn + 1 by omega]
          have e1 : inside st d (qn + 1) (qn : Int) = inside st d qn x.inn := by
            simp only [inside]
            rw [if_pos ⟨h1, h2⟩, Int.toNat_natCast, show innOf st qn = x.inn by simp [innOf, hx]]
          rw [e1]
          exact inside_fuel st hp d qn x.inn p1 p2)
        clear hx hc h2
        go_wp2
        go_round
        case rel => exact ⟨x.inn, rfl, p1, by omega, HE.out⟩
        case measure => simp [intOf]; omega
    · have HE := hide (show inside st d (n + 1).toNat n = (q == (d : Int)) by
        rw [Hin.out, show (q + 1).toNat = 0 by omega]
        rfl)
      have h3 : (q == (d : Int)) = false := by simp; omega
      go_wp2
      go_ret
      exact ⟨by rw [HE.out, h3]; rfl, rfl⟩
end Go.Proofs.YtdmdgnghaceibaaGreat
/- The reference's List. -/
namespace Go.Proofs.YtdmdgnghaceibaaGreat.P
open M Go.ChangeShapes Go.WideShapes Go.ChangeAt Go.RowKit
set_option linter.unusedVariables false

/-- How the reference's List ends. -/
def REnds6 (w : World) (F : Nat → Prop) (r : Nat) (p : St × List ByteArray × Int) (e : Ending) (w' : World) : Prop :=
  ∃ v, e = .returned (.tuple #[v, .int .i64 p.2.2]) ∧ TextsAt w' v p.2.1 ∧ (∀ k, v.ownBlock = some k → w.heap.size ≤ k ∧ k < w'.heap.size) ∧ RefIs w' F r p.1 ∧ Ext F w w'

theorem REnds6.err {w w1 w' : World} {F : Nat → Prop} {r : Nat} {p : St × List ByteArray × Int} {c : Int} {st' : St} {e : Ending} (hp : p = (st', [], c)) (he : e = .returned (.tuple #[.slice none 0 0, .int .i64 c])) (h1 : RefIs w1 F r st') (hx : Ext F w w1) (hb : Below w1.heap.size w1 w') : REnds6 w F r p e w' := by
  subst hp
  exact ⟨_, he, Own.nil _ _ _ _, fun k hk => by simp [Value.ownBlock] at hk, h1.below hb, hx.trans' (Ext.below hb)⟩

/-- Texts of a slice of one's own, as a list of texts. -/
theorem namesAt_of_own {w : World} {G : Nat → Prop} {ao : Option Addr} {n c : Nat} {B : List ByteArray} (h : Own w G 9 1 (.slice ao n c) (strRows B)) (hl : B.length ≤ maxLen) (hs : ∀ s ∈ B, s.size ≤ maxLen) : NamesAt w ao B := by
  refine ⟨hl, fun i s hi => ⟨hs s (List.mem_of_getElem? hi), ?_⟩⟩
  rcases h.opened with ⟨e, hn⟩ | ⟨g, cap, e, _, _, _, _, hc, _⟩
  · unfold strRows at hn
    rw [List.map_eq_nil_iff.1 hn] at hi
    simp at hi
  · simp only [Value.slice.injEq] at e
    obtain ⟨rfl, _, _⟩ := e
    refine ⟨g, 0, rfl, ?_⟩
    have := hc i [.string s] 0 _ (by unfold strRows; rw [List.getElem?_map, hi]; rfl) rfl
    simpa using this

theorem told_mem {s : ByteArray} : ∀ {l base : List ByteArray}, s ∈ l.foldl tell base → s ∈ base ∨ s ∈ l
  | [], base, h => .inl h
  | x :: l, base, h => by
    rw [List.foldl_cons] at h
    rcases told_mem h with h | h
    · unfold tell at h
      split at h
      · exact .inl h
      · rcases List.mem_append.1 h with h | h
        · exact .inl h
        · simp at h
          exact .inr (by simp [h])
    · exact .inr (by simp [h])
theorem told_len : ∀ (l base : List ByteArray), (l.foldl tell base).length ≤ base.length + l.length
  | [], base => by simp
  | x :: l, base => by
    rw [List.foldl_cons]
    have h := told_len l (tell base x)
    have h2 : (tell base x).length ≤ base.length + 1 := by
      unfold tell
      split
      · omega
      · simp
    simp only [List.length_cons]
    omega
theorem fold_take_succ (l : List ByteArray) (base : List ByteArray) (q : Nat) (s : ByteArray) (h : l[q]? = some s) : (l.take (q + 1)).foldl tell base = tell ((l.take q).foldl tell base) s := by
  have hlt := M.lt_of_getElem? h
  have e : l[q] = s := by rw [List.getElem?_eq_getElem hlt] at h; exact Option.some.inj h
  rw [List.take_succ_eq_append_getElem hlt, e, List.foldl_append]
  rfl

set_option maxRecDepth 20000 in
set_option maxHeartbeats 4000000 in
theorem rlist_any {w : World} {F : Nat → Prop} {r : Nat} {st : St} (n : Int) (h : RefIs w F r st) (pok : POk st) (hu : UniqL st.nodes) (hF : ∀ k, F k → k < w.heap.size) (hnod : st.nodes.length ≤ 1700000000000) :
    Calls Tryz.prog 115 #[.pointer (some ⟨r, 0, none⟩), .int .i64 n] w fun e w' => REnds6 w F r (mList st n) e w' := by
  have ok : StOk st := ⟨pok.pos, fun f hf => ⟨(pok.way f hf).1, fun s hs => ⟨((pok.way f hf).2 s hs).1, fun m hm => (((pok.way f hf).2 s hs).2.1 m hm).1⟩⟩, fun l hl m hm => ((pok.laid l hl).1 m hm).1, FidsOk.few pok.fids⟩
  cases hf : find st n with
  | none =>
    have H := hide (show mList st n = (tick st, [], 2) by simp [mList, mDirE, hf])
    go_enter Tryz.func115, Tryz.ntmps115
    go_wp2_with fail
    refine (call_any n h).mono ?_
    rintro e w1 ⟨rfl, h1, hx, hsz⟩
    have H1 := hide h1
    have Hx := hide hx
    rw [hf]
    clear hf h h1 hx hsz
    simp only [idxV]
    go_wp2
    go_ret2
    exact REnds6.err H.out rfl H1.out Hx.out (Below.refl _ _)
  | some i =>
    obtain ⟨f, hfi, _⟩ := find_some hf
    have hi := M.lt_of_getElem? hfi
    have hmem := List.mem_of_getElem? hfi
    obtain ⟨s, hs, hsn, hrok, hno⟩ := ok.last hmem
    have hr6 : s.row.length ≤ 6 := ((pok.way f hmem).2 s (List.mem_of_getLast? hs)).2.2
    obtain ⟨x, hx⟩ := getElem?_of_lt hsn
    have HD := hide (show mList st n = if f.op then (if x.gone then (tick st, [], (4 : Int)) else if x.dir then (tick st, listUpto st s.row s.row.length, 0) else (tick st, [], 5)) else (tick st, [], 3) by
      unfold mList mDirE
      rw [hf]
      simp only
      rw [hfi]
      simp only
      rw [hno]
      simp only [isGone, isDir, hx, fidRow, hs]
      cases f.op <;> cases x.gone <;> cases x.dir <;> simp)
    have i0 : (0 : Int) ≤ (i : Int) := by omega
    have i1 : (i : Int) < (st.fids.length : Int) := by omega
    go_enter Tryz.func115, Tryz.ntmps115
    go_wp2_with fail
    refine (call_any n h).mono ?_
    rintro e w1 ⟨rfl, h1, hx1, hsz⟩
    have H1 := hide h1
    have Hx := hide hx1
    have Hsz := hide hsz
    rw [hf]
    clear hf h hx1 hsz
    simp only [idxV]
    obtain ⟨nv, lv, fv, hR⟩ := h1
    obtain ⟨g, cap, rfl, hmax, hFF, hb, hcell, hfz⟩ := hR.nodesAt ok.pos
    obtain ⟨fg, fcap, wv, rfl, hfm, hFg, _, hway, _, cw, co, cfz⟩ := FidsIs.at (fids := st.fids) hR.fids i f hfi
    obtain ⟨gw, wcap, rao, rc, rfl, hwpos, hwmax, hrow, s0, s1⟩ := hway.last s hs
    have c2 := hR.c2
    have hc0 : w1.cell? ⟨r, 0, none⟩ = some (.slice (some ⟨g, 0, none⟩) st.nodes.length cap) := hR.c0
    have hgone := (hcell s.n x hx).2.2.2.2.2
    have hdir := (hcell s.n x hx).2.1
    have HC := hide hcell
    have Hrow := hide hrow
    have Hnode := hide (node_any (st := tick st) i f s hfi hs hsn H1.out)
    have Hspot := hide (fun (W : World) (a1 : W.cell? ⟨fg, i * 3 + 1, none⟩ = some (.slice (some ⟨gw, 0, none⟩) f.way.length wcap)) (a2 : W.cell? ⟨gw, (f.way.length - 1) * 2, none⟩ = some (.int .i64 s.n)) (a3 : W.cell? ⟨gw, (f.way.length - 1) * 2 + 1, none⟩ = some (.slice rao s.row.length rc)) => spot_core fg (i * 3) gw f.way.length wcap s.n rao s.row.length rc W hwpos hwmax a1 a2 a3)
    have Hrok := hide hrok
    have Hok := hide pok
    have Hu := hide hu
    unfold maxLen at hmax hfm
    clear hR hcell hfz cfz hb hFF hx hfi hs hFg hway hrow
    cases ho : f.op with
    | false =>
      rw [ho] at co HD
      go_wp2
      go_ret2
      exact REnds6.err HD.out rfl H1.out Hx.out (Below.refl _ _)
    | true =>
      rw [ho] at co HD
      clear ho
      go_wp2_with fail
      refine Hnode.out.mono ?_
      rintro e w2 ⟨g', cap', hcc, rfl, hb2⟩
      have hgg : g' = g := by rw [hc0] at hcc; simp at hcc; exact hcc.1.symm
      subst hgg
      have HB2 := hide hb2
      have q5 : w2.cell? ⟨g', s.n * 6 + 5, none⟩ = some (.bool x.gone) := (hb2.cell (World.block_lt_of_cell? w1 _ hgone)).trans hgone
      have q1 : w2.cell? ⟨g', s.n * 6 + 1, none⟩ = some (.bool x.dir) := (hb2.cell (World.block_lt_of_cell? w1 _ hdir)).trans hdir
      have q2 : w2.cell? ⟨r, 2, none⟩ = some (.slice (some ⟨fg, 0, none⟩) st.fids.length fcap) := (hb2.cell (World.block_lt_of_cell? w1 _ c2)).trans c2
      have qw : w2.cell? ⟨fg, i * 3 + 1, none⟩ = some (.slice (some ⟨gw, 0, none⟩) f.way.length wcap) := (hb2.cell (World.block_lt_of_cell? w1 _ cw)).trans cw
      have t0 : w2.cell? ⟨gw, (f.way.length - 1) * 2, none⟩ = some (.int .i64 s.n) := (hb2.cell (World.block_lt_of_cell? w1 _ s0)).trans s0
      have t1 : w2.cell? ⟨gw, (f.way.length - 1) * 2 + 1, none⟩ = some (.slice rao s.row.length rc) := (hb2.cell (World.block_lt_of_cell? w1 _ s1)).trans s1
      clear hb2 hcc
      cases hxg : x.gone with
      | true =>
        rw [hxg] at q5 HD
        go_wp2
        go_ret2
        exact REnds6.err HD.out rfl H1.out Hx.out HB2.out
      | false =>
        rw [hxg] at q5 HD
        cases hxd : x.dir with
        | false =>
          rw [hxd] at q1 HD
          go_wp2
          go_ret2
          exact REnds6.err HD.out rfl H1.out Hx.out HB2.out
        | true =>
          rw [hxd] at q1 HD
          have hfd : ∀ (u : Value) (W : World), (Instr.field 212 (.agg #[.int .i64 s.n, u]) 1).run Tryz.prog W = .ok u W := fun _ _ => by kernel_rfl
          have HD2 := hide (show mList st n = (tick st, listUpto st s.row s.row.length, 0) from HD.out)
          clear HD hxg hxd
          go_wp2_with fail
          refine (Hspot.out _ qw t0 t1).mono ?_
          rintro e w3 ⟨rfl, hb3⟩
          have HB3 : Hid (Below w1.heap.size w1 w3) := hide (HB2.out.trans (hb3.mono HB2.out.size))
          have HR3 := hide (H1.out.below HB3.out)
          have Hrow3 := hide (Hrow.out.keepT (T := fun _ => True) (KeepT.below HB3.out) trivial)
          have q0 : w3.cell? ⟨r, 0, none⟩ = some (.slice (some ⟨g', 0, none⟩) st.nodes.length cap) := (HB3.out.cell (World.block_lt_of_cell? w1 _ hc0)).trans hc0
          have HC3 := hide (show ∀ j y, st.nodes[j]? = some y → w3.cell? ⟨g', j * 6 + 5, none⟩ = some (.bool y.gone) from fun j y hy => (HB3.out.cell (World.block_lt_of_cell? w1 _ (HC.out j y hy).2.2.2.2.2)).trans (HC.out j y hy).2.2.2.2.2)
          clear hb3 q5 q1 q2 qw t0 t1 c2 cw co s0 s1 hgone hdir hc0 Hspot Hnode HC
          go_wp2
          go_loopw [8, 10] (fun o i wr => ∃ k : Nat, k ≤ s.row.length ∧ i = .int .i64 k ∧ Told w3 wr (listUpto st s.row k) o) (fun _ i _ => s.row.length - (intOf i).toNat)
          case atStart => exact ⟨0, Nat.zero_le _, rfl, Told.nil w3⟩
          case round =>
            obtain ⟨k, hk, rfl, hTo⟩ := hrel
            have hbel := hTo.below
            have Hbel := hide hbel
            obtain ⟨ao, co, rfl⟩ := hTo.form
            have HTo := hide hTo
            clear hTo
            by_cases hlt : k < s.row.length
            · obtain ⟨m, hm⟩ := M.getElem?_of_lt hlt
              have hmd := Hrok.out m (List.mem_of_getElem? hm)
              obtain ⟨y, hy⟩ := M.getElem?_of_lt hmd
              rcases Hrow3.out.opened with ⟨e, _⟩ | ⟨rg, rcap, e, _, _, _, _, hrc, _⟩
              · simp only [Value.slice.injEq] at e
                omega
              · simp only [Value.slice.injEq] at e
                obtain ⟨rfl, e2, e3⟩ := e
                clear e2 e3
                have cm : wr.cell? ⟨rg, k * 2, none⟩ = some (.int .i64 m.d) := by
                  have h0 := hrc k (memberCells m) 0 _ (by rw [List.getElem?_map, hm]; rfl) rfl
                  exact (hbel.cell (World.block_lt_of_cell? w3 _ h0)).trans h0
                have c5 : wr.cell? ⟨g', m.d * 6 + 5, none⟩ = some (.bool y.gone) := (hbel.cell (World.block_lt_of_cell? w3 _ (HC3.out m.d y hy))).trans (HC3.out m.d y hy)
                have c0 : wr.cell? ⟨r, 0, none⟩ = some (.slice (some ⟨g', 0, none⟩) st.nodes.length cap) := (hbel.cell (World.block_lt_of_cell? w3 _ q0)).trans q0
                have Hg := hide (show isGone st m.d = y.gone by simp [isGone, hy])
                have b1 : (m.d : Int) < (st.nodes.length : Int) := by omega
                have b2 : (k : Int) < (s.row.length : Int) := by omega
                have b3 : (0 : Int) ≤ (m.d : Int) := by omega
                have b4 : (0 : Int) ≤ (k : Int) := by omega
                have Hm := hide hm
                clear hm hy hrc hbel
                cases hyg : y.gone with
                | true =>
                  rw [hyg] at c5 Hg
                  go_wp2
                  go_quiet (fail)
                  go_wp2
                  refine ⟨⟨k + 1, by omega, by go_num, ?_⟩, by simp [intOf]; omega⟩
                  rw [listUpto_gone Hm.out Hg.out]
                  exact HTo.out.kept (below_drewN (Below.refl _ _) nq)
                | false =>
                  rw [hyg] at c5 Hg
                  go_wp2
                  go_quiet (fail)
                  go_wp2_with fail
                  have HTo2 := hide (HTo.out.kept (below_drewN (Below.refl wr.heap.size wr) nq))
                  have HNm := hide (refNames_any (F := F) (r := r) (st := tick st) m.d pok.pos hnod hu (HR3.out.below HTo2.out.below))
                  refine HNm.out.mono ?_
                  rintro e w4 ⟨v4, rfl, hT4⟩
                  rw [show namesOf (tick st) m.d = namesOf st m.d from rfl] at hT4
                  obtain ⟨ao3, c3, rfl⟩ := hT4.form
                  obtain ⟨NL, hNL⟩ : ∃ NL, NL = namesOf st m.d := ⟨_, rfl⟩
                  rw [← hNL] at hT4 ⊢
                  have HNL := hide hNL
                  have hnl : NL.length ≤ 100 := by rw [hNL]; exact names_few Hok.out m.d
                  have hT2 : Told2 w3 w4 (listUpto st s.row k) (.slice ao (listUpto st s.row k).length co) NL (.slice ao3 NL.length c3) := by
                    refine ⟨HTo2.out.kept hT4.below, hT4.own.mono (fun q hq => ⟨Nat.le_trans HTo2.out.below.size hq.1, hq.2⟩), fun b hb e => ?_⟩
                    have h1 := (HTo2.out.own.2.2 b hb).2
                    have h2 := (hT4.own.2.2 b e).1
                    omega
                  have HT2 := hide hT2
                  clear hT4 hT2 hNL HNm
                  go_wp2
                  go_loopw [8, 12] (fun o j wr2 => ∃ q : Nat, q ≤ NL.length ∧ j = .int .i64 q ∧ Told2 w3 wr2 ((NL.take q).foldl tell (listUpto st s.row k)) o NL (.slice ao3 NL.length c3)) (fun _ j _ => NL.length - (intOf j).toNat)
                  case atStart => exact ⟨0, Nat.zero_le _, rfl, by simpa using HT2.out⟩
                  case round =>
                    obtain ⟨q, hq, rfl, h2⟩ := hrel
                    have hsm : ((NL.take q).foldl tell (listUpto st s.row k)).length ≤ 200 := by
                      have h3 := told_len (NL.take q) (listUpto st s.row k)
                      have h4 := listUpto_few Hok.out s.row k hk
                      have h5 : (NL.take q).length ≤ NL.length := List.length_take_le' _ _
                      omega
                    have hsz : ∀ z ∈ (NL.take q).foldl tell (listUpto st s.row k), z.size ≤ maxLen := fun z hz => by
                      have hlv : z ∈ liveNames st := by
                        rcases told_mem hz with hz | hz
                        · exact seenIn_live ((mem_listUpto st s.row z k hk).1 hz)
                        · exact lies_live (d := m.d) (M.mem_names.1 (by rw [← HNL.out]; exact List.mem_of_mem_take hz))
                      obtain ⟨y, hy, rfl⟩ := List.mem_map.1 hlv
                      have := Hok.out.names y (List.mem_filter.1 hy).1
                      unfold maxLen
                      omega
                    obtain ⟨B, hB⟩ : ∃ B, B = (NL.take q).foldl tell (listUpto st s.row k) := ⟨_, rfl⟩
                    rw [← hB] at h2 hsm hsz
                    obtain ⟨ao2, co2, rfl⟩ := h2.told.form
                    have HB := hide hB
                    clear hB
                    by_cases hql : q < NL.length
                    · obtain ⟨z, hz⟩ := M.getElem?_of_lt hql
                      rcases h2.own.opened with ⟨e, _⟩ | ⟨g3, cap3, e, _, _, _, _, hc3, _⟩
                      · injection e with _ e2 _
                        omega
                      · rw [len_strRows] at e
                        simp only [Value.slice.injEq, true_and] at e
                        obtain ⟨rfl, rfl⟩ := e
                        have cs : wr.cell? ⟨g3, q, none⟩ = some (.string z) := by
                          have := hc3 q [.string z] 0 _ (by unfold strRows; rw [List.getElem?_map, hz]; rfl) rfl
                          simpa using this
                        have HHas := hide (has_any B z ao2 co2 (namesAt_of_own h2.told.own (by unfold maxLen; omega) hsz))
                        have H2 := hide h2
                        have Hsuc := hide (fold_take_succ NL (listUpto st s.row k) q z hz)
                        clear h2 hc3 hz hsz
                        have p1 : (q : Int) < (NL.length : Int) := by omega
                        have p0 : (0 : Int) ≤ (q : Int) := by omega
                        cases hh : hasText B z with
                        | true =>
                          rw [hh] at HHas
                          have Hh := hide hh
                          clear hh
                          go_wp2_with (go_at_call 152; refine HHas.out.mono ?_; rintro e w' ⟨rfl, hw⟩; obtain rfl := hw.symm)
                          refine ⟨⟨q + 1, by omega, by go_num, ?_⟩, by simp [intOf]; omega⟩
                          rw [Hsuc.out, ← HB.out]
                          unfold tell
                          rw [if_pos Hh.out]
                          exact H2.out
                        | false =>
                          rw [hh] at HHas
                          have Hh := hide hh
                          clear hh
                          have hTX : ∀ o, Told2 w3 (wr.alloc o) _ _ _ _ := fun o => H2.out.kept ((Below.refl _ _).alloc (Nat.le_refl _) o)
                          have HTX := hide hTX
                          clear hTX
                          go_wp2_with (first | (go_at_call 152; refine HHas.out.mono ?_; rintro e w' ⟨rfl, hw⟩; obtain rfl := hw.symm) | (at_builtin; refine wpList_append_Own _ rfl (.tmp 87) (.tmp 92) 35 rfl (nw w3 (wr.alloc (.cells #[.string z] 9))) 9 (.string ⟨#[]⟩) 1 16 Tryz.underlying35 infoString rfl (by decide) (.slice ao2 B.length co2) (strRows B) rfl (HTX.out _).told.own (.slice (some ⟨wr.heap.size, 0, none⟩) 1 1) [[.string z]] rfl (SrcIs.ofBlock (cs := #[.string z]) (heap_alloc_new wr _) rfl (by simp [Value.oneCell'])) (B.length + 1) (by rw [len_strRows]; rfl) (by unfold maxLen; omega) (by omega) ?_; intro ao6 c6 w6 ho6 hg6 hb6; have HT6 := hide ((HTX.out _).push rfl ho6 hg6 hb6); clear ho6 hg6 hb6))
                          refine ⟨⟨q + 1, by omega, by go_num, ?_⟩, by simp [intOf]; omega⟩
                          rw [Hsuc.out, ← HB.out]
                          unfold tell
                          rw [if_neg (by rw [Hh.out]; decide)]
                          exact HT6.out
                    · have H2 := hide h2
                      clear h2
                      go_wp2
                      refine ⟨⟨k + 1, by omega, by go_num, ?_⟩, by simp [intOf]; omega⟩
                      rw [← list_told st s.row k hlt m Hm.out Hg.out]
                      have e := HB.out
                      rw [show NL.take q = NL from List.take_of_length_le (by omega)] at e
                      rw [← HNL.out, ← e]
                      exact H2.out.told
            · go_wp2
              go_ret2
              have hk2 : k = s.row.length := by omega
              subst hk2
              have hT := HTo.out
              have hbw : Below w1.heap.size w1 wr := HB3.out.trans (Hbel.out.mono HB3.out.size)
              refine ⟨_, by rw [HD2.out]; rfl, ?_, fun b hb => ?_, ?_, Hx.out.trans' (Ext.below hbw)⟩
              · rw [HD2.out]
                exact hT.own.mono (fun _ _ => trivial)
              · have := hT.own.2.2 b hb
                have h1 := HB3.out.size
                have h2 := Hsz.out
                exact ⟨by have := this.1; omega, this.2⟩
              · rw [HD2.out]
                exact H1.out.below hbw
end Go.Proofs.YtdmdgnghaceibaaGreat.P
/- Both halves: List. -/
namespace Go.Proofs.YtdmdgnghaceibaaGreat.P
open M Go.ChangeShapes Go.WideShapes Go.ChangeAt Go.RowKit
set_option linter.unusedVariables false

set_option maxRecDepth 20000 in
set_option maxHeartbeats 1000000 in
/-- 'sameTexts' of two lists that read alike. -/
theorem same_any {w : World} (l : List ByteArray) (a1 : Option Addr) (c1 : Nat) (a2 : Option Addr) (c2 : Nat) (h1 : NamesAt w a1 l) (h2 : NamesAt w a2 l) :
    Calls Tryz.prog 116 #[.slice a1 l.length c1, .slice a2 l.length c2] w fun e w' => e = .returned (.bool true) ∧ Below w.heap.size w w' := by
  have hl := h1.1
  unfold maxLen at hl
  have H1 := hide h1
  have H2 := hide h2
  have hne : ((l.length : Int) != (l.length : Int)) = false := by simp
  clear h1 h2
  go_enter Tryz.func116, Tryz.ntmps116
  go_wp2
  go_loopw [5] (fun i wr => ∃ k : Nat, k ≤ l.length ∧ i = .int .i64 k ∧ Below w.heap.size w wr) (fun i _ => l.length - (intOf i).toNat)
  case atStart => exact ⟨0, Nat.zero_le _, rfl, Below.refl _ _⟩
  case round =>
    obtain ⟨k, hk, rfl, hbel⟩ := hrel
    have Hbel := hide hbel
    by_cases hlt : k < l.length
    · obtain ⟨t, ht⟩ := getElem?_of_lt hlt
      obtain ⟨hsz, nb, no, rfl, hcs⟩ := H1.out.2 k t ht
      obtain ⟨_, nb2, no2, rfl, hcs2⟩ := H2.out.2 k t ht
      have d1 : wr.cell? ⟨nb, no + k, none⟩ = some (.string t) := (hbel.cell (p := ⟨nb, no + k, none⟩) (World.block_lt_of_cell? w _ hcs)).trans hcs
      have d2 : wr.cell? ⟨nb2, no2 + k, none⟩ = some (.string t) := (hbel.cell (p := ⟨nb2, no2 + k, none⟩) (World.block_lt_of_cell? w _ hcs2)).trans hcs2
      have fb : (t.toList != t.toList) = false := by simp
      have fc : (t.toList == t.toList) = true := by simp
      have k0 : (0 : Int) ≤ (k : Int) := by omega
      have k1 : (k : Int) < (l.length : Int) := by omega
      clear ht hbel hcs hcs2
      go_wp2
      go_region
      all_goals go_wp2
      all_goals exact ⟨⟨k + 1, by omega, by go_num, Hbel.out.drew⟩, by simp [intOf]; omega⟩
    · clear hbel
      go_wp2
      go_ret
      exact ⟨rfl, Hbel.out⟩

theorem mList_tick (st : St) (n : Int) : (mList st n).1 = tick st := by
  unfold mList
  split
  · split
    · rfl
    · split <;> rfl
  · rfl

theorem mList_few {st : St} (ok : POk st) (n : Int) : (mList st n).2.1.length ≤ 100 := by
  unfold mList
  split
  · split
    · simp
    · split
      · simp
      · rename_i i _ f _
        exact listUpto_few ok (fidRow f) _ (Nat.le_refl _)
  · simp

theorem mList_names {st : St} (ok : POk st) (n : Int) : ∀ s ∈ (mList st n).2.1, s.size ≤ 12 := by
  intro s hs
  unfold mList at hs
  split at hs
  · split at hs
    · simp at hs
    · split at hs
      · simp at hs
      · rename_i i _ f _
        have h := (mem_listUpto st (fidRow f) s _ (Nat.le_refl _)).1 hs
        have := seenIn_live h
        unfold liveNames at this
        obtain ⟨x, hx, rfl⟩ := List.mem_map.1 this
        exact ok.names x ((List.mem_filter.1 hx).1)
  · simp at hs

/-- How 'listed' of both ends: what came out lies apart. -/
def ListEnds (w : World) (X : Nat → Prop) (b : Nat) (t : List ByteArray) (st' : St) (e : Ending) (w' : World) : Prop :=
  ∃ ao c, e = .returned (.tuple #[.slice ao t.length c, .bool true]) ∧ TextsAt w' (.slice ao t.length c) t ∧ (∀ k, (Value.slice ao t.length c).ownBlock = some k → w.heap.size ≤ k ∧ k < w'.heap.size) ∧ BothIs w' (fun k => X k ∧ (Value.slice ao t.length c).ownBlock ≠ some k) b st' ∧ Ext X w w'

theorem TextsAt.drew {w : World} {v : Value} {t : List ByteArray} (h : TextsAt w v t) : TextsAt w.drew v t := Own.keptBlock h (fun k _ => rfl)
theorem TextsAt.form {w : World} {v : Value} {t : List ByteArray} (h : TextsAt w v t) : ∃ ao c, v = .slice ao t.length c := by
  obtain ⟨ao, c, h⟩ := Own.form h
  refine ⟨ao, c, ?_⟩
  rw [h]
  simp [strRows]

set_option maxRecDepth 20000 in
set_option maxHeartbeats 4000000 in
theorem blist_any {w : World} {X : Nat → Prop} {b : Nat} {st : St} (k fid a bb : Int) (text : ByteArray) (yes : Bool) (ao : Option Addr) (nl nc : Nat) (h : BothIs w X b st) (ok : POk st) (hu : UniqL st.nodes) (hnod : st.nodes.length ≤ 1700000000000) :
    Calls Tryz.prog 69 #[.pointer (some ⟨b, 0, none⟩), .agg #[.int .i64 8, .int .i64 k, .int .i64 fid, .int .i64 a, .int .i64 bb, .string text, .bool yes, .slice ao nl nc]] w fun e w' => ListEnds w X b (mList st fid).2.1 (mList st fid).1 e w' := by
  obtain ⟨s, r, F, G, h⟩ := h
  have c0 := h.c0
  have c1 := h.c1
  have H := hide h
  have Hok := hide ok
  have Hu := hide hu
  have HBox := hide (show ¬ F w.heap.size from fun hk => by have := (h.lo _ (.inl hk)).2; omega)
  have HBoxG := hide (show ¬ G w.heap.size from fun hk => by have := (h.lo _ (.inr hk)).2; omega)
  have hfew := mList_few ok fid
  have hnm := mList_names ok fid
  obtain ⟨t, hR⟩ : ∃ R, (mList st fid).2.1 = R := ⟨_, rfl⟩
  obtain ⟨er, hE⟩ : ∃ er, (mList st fid).2.2 = er := ⟨_, rfl⟩
  obtain ⟨st2, hS⟩ : ∃ st2, (mList st fid).1 = st2 := ⟨_, rfl⟩
  have HM := hide (show mList st fid = (st2, t, er) by rw [← hR, ← hE, ← hS])
  rw [hR] at hfew hnm
  rw [hS, hR]
  have Hnm := hide hnm
  clear h ok hu hR hE hS hnm
  have u0 := fun o => up c0 o
  have u1 := fun o => up c1 o
  obtain ⟨W0, hW0⟩ : ∃ W0, W0 = (w.alloc (.cells #[.int .i64 8, .int .i64 k, .int .i64 fid, .int .i64 a, .int .i64 bb, .string text, .bool yes, .slice ao nl nc] 57)) := ⟨_, rfl⟩
  have HW0 := hide hW0
  have HB0 := hide (show Below w.heap.size w W0 by rw [hW0]; exact (Below.refl _ w).alloc (Nat.le_refl _) _)
  have HZ0 := hide (show W0.heap.size = w.heap.size + 1 by rw [hW0]; simp)
  go_enter Tryz.func69, Tryz.ntmps69
  go_wp2
  rw [← HW0.out]
  have v0 : W0.cell? ⟨b, 0, none⟩ = some (.pointer (some ⟨s, 0, none⟩)) := by rw [hW0]; exact u0 _
  have v1 : W0.cell? ⟨b, 1, none⟩ = some (.pointer (some ⟨r, 0, none⟩)) := by rw [hW0]; exact u1 _
  have x2 : W0.cell? ⟨w.heap.size, 2, none⟩ = some (.int .i64 fid) := by rw [hW0]; simp
  clear hW0 u0 u1
  go_cut [6, 7] (fun s7 s8 wc => s8 = .int .i64 er ∧ (∃ ao c, s7 = .slice ao t.length c) ∧ TextsAt wc s7 t ∧ (∀ k, s7.ownBlock = some k → w.heap.size ≤ k ∧ k < wc.heap.size) ∧ Ext X w wc ∧ (∃ F', (∀ k, s7.ownBlock = some k → ¬ F' k) ∧ TwoIs wc X b s r F' G st2 st) ∧ wc.cell? ⟨w.heap.size, 2, none⟩ = some (.int .i64 fid))
  case first =>
    go_region_with (go_at_call 19; refine (slist_any (F := F) (st := st) fid ?_ Hok.out ?_ hnod ?_).mono ?_; exact (H.out.below HB0.out.drew).srv; exact (fun k hk => by have := (H.out.lo k (.inl hk)).2; have := HZ0.out; show k < W0.heap.size; omega); exact (fun row k _ hk => Nat.le_trans (listUpto_few Hok.out row k hk) (by decide)); rintro e w2 he2; rw [HM.out] at he2; obtain ⟨v, F2, rfl, hb2, hk2, hs2, hF2, hx2⟩ := he2; have HV2 := hide hb2; have HK2 := hide hk2; have HS2 := hide hs2; have HF2 := hide hF2; have HX := hide hx2; have q2 : w2.cell? ⟨w.heap.size, 2, none⟩ = some (.int .i64 fid) := ext_cell HX.out HBox.out x2; clear hb2 hk2 hs2 hF2 hx2)
    all_goals go_wp2
    all_goals go_meet
    all_goals
      have hT2 := (H.out.below HB0.out.drew).srvStep' HS2.out HF2.out HX.out
      have e1 : Ext X w W0.drew := Ext.below HB0.out.drew
      have e2 := HX.out.weak (fun k hk => (H.out.lo k (.inl hk)).1)
      exact ⟨rfl, HV2.out.form, HV2.out, fun k hk => ⟨by have h1 : W0.heap.size ≤ k := (HK2.out k hk).1; have := HZ0.out; omega, (HK2.out k hk).2.1⟩, e1.trans' e2, ⟨_, fun k hk => (HK2.out k hk).2.2, hT2⟩, q2⟩
  case rest =>
    obtain ⟨rfl, ⟨vo, vc, rfl⟩, hbv, hbk, hbc, ⟨F', hF', hT⟩, q2⟩ := hcut
    have v1 := hT.c1
    have HT := hide hT
    have HBc := hide hbc
    have HBv := hide hbv
    have HBk := hide hbk
    have HF' := hide hF'
    clear hT hbc hbv hbk hF'
    go_wp2
    go_cut [8, 9] (fun s9 s10 wd => (∃ ao c, s9 = .slice ao t.length c) ∧ TextsAt wd s9 t ∧ s10 = .int .i64 er ∧ TextsAt wd (.slice vo t.length vc) t ∧ (∀ k, (Value.slice vo t.length vc).ownBlock = some k → w.heap.size ≤ k ∧ k < wd.heap.size) ∧ Ext X w wd ∧ ∃ F' G', (∀ k, (Value.slice vo t.length vc).ownBlock = some k → ¬ F' k ∧ ¬ G' k) ∧ TwoIs wd X b s r F' G' st2 st2)
    case first =>
      go_region_with (go_at_call 115; refine (rlist_any (F := G) (st := st) fid ?_ Hok.out Hu.out ?_ hnod).mono ?_; exact HT.out.ref.drew; exact (fun k hk => (HT.out.lo k (.inr hk)).2); rintro e w3 he3; rw [HM.out] at he3; obtain ⟨v, rfl, hv3, hk3, hr3, hx3⟩ := he3; have HV3 := hide hv3; have HR3 := hide hr3; have HX3 := hide hx3; clear hv3 hk3 hr3 hx3)
      all_goals go_wp2
      all_goals go_meet
      all_goals
        have hT3 := (HT.out.below ((Below.refl _ wc).drew)).refStep' HR3.out (fun k hk => .inl hk) HX3.out
        have e3 := HX3.out.weak (fun k hk => (HT.out.lo k (.inr hk)).1)
        have hnG : ∀ k, (Value.slice vo t.length vc).ownBlock = some k → ¬ G k := fun k hk hG => by have := (H.out.lo k (.inr hG)).2; have := (HBk.out k hk).1; omega
        exact ⟨HV3.out.form, HV3.out, rfl, Own.keptBlock HBv.out.drew (fun k hk => HX3.out.block k (HBk.out k hk).2 (hnG k hk)), fun k hk => ⟨(HBk.out k hk).1, Nat.lt_of_lt_of_le (HBk.out k hk).2 HX3.out.size⟩, HBc.out.trans' (((Ext.refl X wc).drew).trans' e3), _, _, fun k hk => ⟨HF'.out k hk, fun q => hnG k hk q⟩, hT3⟩
    case rest =>
      obtain ⟨⟨wo, wc2, rfl⟩, hwv, rfl, hbv, hbk, hbd, F2, G2, hFG, hT⟩ := hcut
      have HT2 := hide hT
      have HBd := hide hbd
      have HBv2 := hide hbv
      have HBk2 := hide hbk
      have HFG := hide hFG
      have q5 : (er == er) = true := by simp
      have hml : t.length ≤ maxLen := by unfold maxLen; omega
      have hms : ∀ s ∈ t, s.size ≤ maxLen := fun s hs => by have := Hnm.out s hs; unfold maxLen; omega
      have HSame := hide (same_any t vo vc wo wc2 (namesAt_of_own hbv hml hms) (namesAt_of_own hwv hml hms))
      clear hT hbd hbv hbk hFG hwv hml hms
      go_wp2_with (first | (go_at_call 116; refine HSame.out.mono ?_; rintro e w4 ⟨rfl, hb4⟩; have HB4 := hide hb4; clear hb4) | (go_at_call 27; refine (num_any _ _).mono ?_; rintro e w' ⟨rfl, hw⟩; obtain rfl := hw.symm))
      go_ret2
      exact ⟨vo, vc, by simp, Own.keptBlock HBv2.out (fun k hk => HB4.out.block k (HBk2.out k hk).2), fun k hk => ⟨(HBk2.out k hk).1, Nat.lt_of_lt_of_le (HBk2.out k hk).2 HB4.out.size⟩, ⟨s, r, F2, G2, (HT2.out.below HB4.out).less (fun k hk => ⟨(HT2.out.lo k hk).1, fun q => by rcases hk with hk | hk; exact (HFG.out k q).1 hk; exact (HFG.out k q).2 hk⟩) (fun k hk => ⟨HT2.out.up k (Nat.le_trans HB4.out.size hk), fun q => by have := (HBk2.out k q).2; have := HB4.out.size; have : w4.heap.size ≤ k := hk; omega⟩)⟩, HBd.out.trans' (Ext.below HB4.out)⟩
end Go.Proofs.YtdmdgnghaceibaaGreat.P
/- The program's Server by itself: its calls, as the laws without the document's answer use them. -/
namespace Go.Proofs.YtdmdgnghaceibaaGreat.P
open M Go.ChangeShapes Go.WideShapes Go.ChangeAt Go.RowKit
set_option linter.unusedVariables false

/-- A Server whose blocks are of X, to which all new ones belong. -/
def KSrv (w : World) (X : Nat → Prop) (s : Nat) (st : St) : Prop := ∃ F : Nat → Prop, SrvIs w F s st ∧ (∀ k, F k → X k ∧ k < w.heap.size) ∧ (∀ k, w.heap.size ≤ k → X k)

/-- What of the model's state is always so. -/
structure KOk (st : St) : Prop where
  ok : POk st
  tree : Treed st
  small : Small st
  len : st.nodes.length ≤ 100000

section
variable {w w2 : World} {X Y : Nat → Prop} {s : Nat} {st st2 : St}

theorem KSrv.below (h : KSrv w X s st) (hb : Below w.heap.size w w2) : KSrv w2 X s st := by
  obtain ⟨F, h, lo, hi⟩ := h
  have hz := hb.size
  exact ⟨F, h.kept (KeepX.below hb), fun k hk => ⟨(lo k hk).1, by have := (lo k hk).2; omega⟩, fun k hk => hi k (by omega)⟩
theorem KSrv.more (h : KSrv w X s st) (hX : ∀ k, X k → Y k) : KSrv w Y s st := by
  obtain ⟨F, h, lo, hi⟩ := h
  exact ⟨F, h, fun k hk => ⟨hX k (lo k hk).1, (lo k hk).2⟩, fun k hk => hX k (hi k hk)⟩
/-- New blocks are not the Server's. -/
theorem KSrv.apart (h : KSrv w X s st) (hb : Below w.heap.size w w2) (p : Nat → Prop) (hp : ∀ k, p k → w.heap.size ≤ k ∧ k < w2.heap.size) : KSrv w2 (fun k => X k ∧ ¬ p k) s st := by
  obtain ⟨F, h, lo, hi⟩ := h
  have hz := hb.size
  exact ⟨F, h.kept (KeepX.below hb), fun k hk => ⟨⟨(lo k hk).1, fun q => by have := (hp k q).1; have := (lo k hk).2; omega⟩, by have := (lo k hk).2; omega⟩, fun k hk => ⟨hi k (by omega), fun q => by have := (hp k q).2; omega⟩⟩
theorem KSrv.step {F F' : Nat → Prop} (hs : SrvIs w2 F' s st2) (hF : ∀ k, F' k → ext F w w2 k) (hx : Ext F w w2) (lo : ∀ k, F k → X k ∧ k < w.heap.size) (hi : ∀ k, w.heap.size ≤ k → X k) : KSrv w2 X s st2 ∧ Ext X w w2 := by
  have hz := hx.size
  refine ⟨⟨F', hs, fun k hk => ?_, fun k hk => hi k (by omega)⟩, hx.weak (fun k hk => (lo k hk).1)⟩
  rcases hF k hk with q | q
  · exact ⟨(lo k q).1, by have := (lo k q).2; omega⟩
  · exact ⟨hi k q.1, q.2⟩

theorem k_attach (n : Int) (h : KSrv w X s st) (ok : POk st) :
    Calls Tryz.prog 13 #[.pointer (some ⟨s, 0, none⟩), .int .i64 n] w fun e w' => e = .returned (.int .i64 (mAttach st n).2) ∧ KSrv w' X s (mAttach st n).1 ∧ Ext X w w' := by
  obtain ⟨F, h, lo, hi⟩ := h
  refine (attach_any n h ok).mono ?_
  rintro e w' ⟨rfl, hs, hx⟩
  exact ⟨rfl, KSrv.step hs (fun k hk => hk) hx lo hi⟩
theorem k_clunk (n : Int) (h : KSrv w X s st) (ok : POk st) :
    Calls Tryz.prog 22 #[.pointer (some ⟨s, 0, none⟩), .int .i64 n] w fun e w' => e = .returned (.int .i64 (mClunk st n).2) ∧ KSrv w' X s (mClunk st n).1 ∧ Ext X w w' := by
  obtain ⟨F, h, lo, hi⟩ := h
  refine (clunk_any n h ok).mono ?_
  rintro e w' ⟨rfl, hs, hx⟩
  exact ⟨rfl, KSrv.step hs (fun k hk => hk) hx lo hi⟩
theorem k_open (n : Int) (h : KSrv w X s st) (ok : POk st) :
    Calls Tryz.prog 15 #[.pointer (some ⟨s, 0, none⟩), .int .i64 n] w fun e w' => e = .returned (.int .i64 (mOpen st n).2) ∧ KSrv w' X s (mOpen st n).1 ∧ Ext X w w' := by
  obtain ⟨F, h, lo, hi⟩ := h
  refine (open_any n h ok).mono ?_
  rintro e w' ⟨rfl, hs, hx⟩
  exact ⟨rfl, KSrv.step hs (fun k hk => hk) hx lo hi⟩
theorem k_create (n : Int) (name : ByteArray) (dir : Bool) (h : KSrv w X s st) (ok : KOk st) (hname : name.size ≤ maxLen) :
    Calls Tryz.prog 16 #[.pointer (some ⟨s, 0, none⟩), .int .i64 n, .string name, .bool dir] w fun e w' => e = .returned (.int .i64 (mCreate st n name dir).2) ∧ KSrv w' X s (mCreate st n name dir).1 ∧ Ext X w w' := by
  obtain ⟨F, h, lo, hi⟩ := h
  refine (create_any n name dir h ok.ok hname (by have := ok.len; unfold maxLen; omega)).mono ?_
  rintro e w' ⟨rfl, hs, hx⟩
  exact ⟨rfl, KSrv.step hs (fun k hk => hk) hx lo hi⟩
theorem k_walk (n t : Int) (names : List ByteArray) (ao : Option Addr) (nc : Nat) (h : KSrv w X s st) (ok : POk st) (hnm : NamesAt w ao names) (hnX : ∀ a, ao = some a → names ≠ [] → ¬ X a.block) :
    Calls Tryz.prog 14 #[.pointer (some ⟨s, 0, none⟩), .int .i64 n, .int .i64 t, .slice ao names.length nc] w fun e w' => e = .returned (.tuple #[.int .i64 (mWalk st n t names).2.1, .int .i64 (mWalk st n t names).2.2]) ∧ KSrv w' X s (mWalk st n t names).1 ∧ Ext X w w' := by
  obtain ⟨F, h, lo, hi⟩ := h
  refine (walk_any n t names ao nc h ok hnm (fun a ha hne hF => hnX a ha hne (lo _ hF).1)).mono ?_
  rintro e w' ⟨rfl, hs, hx⟩
  exact ⟨rfl, KSrv.step hs (fun k hk => hk) hx lo hi⟩
theorem k_stat (n : Int) (h : KSrv w X s st) (ok : KOk st) :
    Calls Tryz.prog 20 #[.pointer (some ⟨s, 0, none⟩), .int .i64 n] w fun e w' => e = .returned (.tuple #[pStatV (mStat st n).2.1, .int .i64 (mStat st n).2.2]) ∧ KSrv w' X s (mStat st n).1 ∧ Ext X w w' := by
  obtain ⟨F, h, lo, hi⟩ := h
  refine (stat_any n h ok.ok (fun k hk => (lo k hk).2) (fun x hx => Nat.le_trans (ok.small x hx) (by decide))).mono ?_
  rintro e w' ⟨rfl, hs, hx⟩
  exact ⟨rfl, KSrv.step hs (fun k hk => hk) hx lo hi⟩
theorem k_remove (n : Int) (h : KSrv w X s st) (ok : KOk st) :
    Calls Tryz.prog 21 #[.pointer (some ⟨s, 0, none⟩), .int .i64 n] w fun e w' => e = .returned (.int .i64 (mRemove st n).2) ∧ KSrv w' X s (mRemove st n).1 ∧ Ext X w w' := by
  obtain ⟨F, h, lo, hi⟩ := h
  refine (sremove_any n h ok.ok ok.tree).mono ?_
  rintro e w' ⟨rfl, hs, hx⟩
  exact ⟨rfl, KSrv.step hs (fun k hk => hk) hx lo hi⟩
theorem k_write (n a : Int) (ha : a ≤ 9223372036854775807) (ad : Option Addr) (cd : Nat) (t : ByteArray) (h : KSrv w X s st) (ok : KOk st) (hsrc : SrcIs w 1 (.slice ad t.size cd) (byteCells t)) (hap : ∀ q, ad = some q → 0 < t.size → ¬ X q.block) (ht : t.size ≤ 140737488355328) :
    Calls Tryz.prog 18 #[.pointer (some ⟨s, 0, none⟩), .int .i64 n, .int .i64 a, .slice ad t.size cd] w fun e w' => e = .returned (.tuple #[.int .i64 (mWrite st n a t).2.1, .int .i64 (mWrite st n a t).2.2]) ∧ KSrv w' X s (mWrite st n a t).1 ∧ Ext X w w' := by
  obtain ⟨F, h, lo, hi⟩ := h
  refine (swrite_any n a ha _ t h ok.ok hsrc (fun ad' n c e hn hF => ?_) ht (fun x hx => Nat.le_trans (ok.small x hx) (by decide))).mono ?_
  · simp only [Value.slice.injEq] at e
    obtain ⟨e1, rfl, _⟩ := e
    exact hap ad' e1 hn (lo _ hF).1
  · rintro e w' ⟨rfl, hs, hx⟩
    exact ⟨rfl, KSrv.step hs (fun k hk => hk) hx lo hi⟩

/-- What Read hands out: its own block is not the Server's. -/
def KRead (w : World) (X : Nat → Prop) (s : Nat) (p : St × ByteArray × Int) (e : Ending) (w' : World) : Prop :=
  ∃ ao n c, e = .returned (.tuple #[.slice ao n c, .int .i64 p.2.2]) ∧ BytesAt w' (.slice ao n c) p.2.1 ∧ (∀ k, (Value.slice ao n c).ownBlock = some k → w.heap.size ≤ k ∧ k < w'.heap.size) ∧ KSrv w' (fun k => X k ∧ (Value.slice ao n c).ownBlock ≠ some k) s p.1 ∧ Ext X w w'
def KList (w : World) (X : Nat → Prop) (s : Nat) (p : St × List ByteArray × Int) (e : Ending) (w' : World) : Prop :=
  ∃ ao c, e = .returned (.tuple #[.slice ao p.2.1.length c, .int .i64 p.2.2]) ∧ TextsAt w' (.slice ao p.2.1.length c) p.2.1 ∧ (∀ k, (Value.slice ao p.2.1.length c).ownBlock = some k → w.heap.size ≤ k ∧ k < w'.heap.size) ∧ KSrv w' (fun k => X k ∧ (Value.slice ao p.2.1.length c).ownBlock ≠ some k) s p.1 ∧ Ext X w w'

theorem k_read (n a c : Int) (h : KSrv w X s st) (ok : KOk st) :
    Calls Tryz.prog 17 #[.pointer (some ⟨s, 0, none⟩), .int .i64 n, .int .i64 a, .int .i64 c] w fun e w' => KRead w X s (mRead st n a c) e w' := by
  obtain ⟨F, h, lo, hi⟩ := h
  refine (sread_any n a c h ok.ok (fun k hk => (lo k hk).2) (fun x hx => Nat.le_trans (ok.small x hx) (by decide))).mono ?_
  rintro e w' ⟨v, F', rfl, hv, hk, hs, hF, hx⟩
  obtain ⟨ao, n, c, rfl⟩ := hv.form
  obtain ⟨h1, h2⟩ := KSrv.step hs hF hx lo hi
  obtain ⟨_, _, _, hi2⟩ := h1
  have hz := hx.size
  refine ⟨ao, n, c, rfl, hv, fun k q => ⟨(hk k q).1, (hk k q).2.1⟩, ⟨F', hs, fun k q => ⟨⟨?_, fun e => (hk k e).2.2 q⟩, ?_⟩, fun k q => ⟨hi k (by omega), fun e => by have := (hk k e).2.1; omega⟩⟩, h2⟩
  · rcases hF k q with q | q
    · exact (lo k q).1
    · exact hi k q.1
  · rcases hF k q with q | q
    · have := (lo k q).2; omega
    · exact q.2
theorem k_list (n : Int) (h : KSrv w X s st) (ok : KOk st) :
    Calls Tryz.prog 19 #[.pointer (some ⟨s, 0, none⟩), .int .i64 n] w fun e w' => KList w X s (mList st n) e w' := by
  obtain ⟨F, h, lo, hi⟩ := h
  refine (slist_any n h ok.ok (fun k hk => (lo k hk).2) (by have := ok.len; omega) (fun row k _ hk => Nat.le_trans (listUpto_few ok.ok row k hk) (by decide))).mono ?_
  rintro e w' ⟨v, F', rfl, hv, hk, hs, hF, hx⟩
  obtain ⟨ao, c, rfl⟩ := hv.form
  obtain ⟨h1, h2⟩ := KSrv.step hs hF hx lo hi
  have hz := hx.size
  refine ⟨ao, c, rfl, hv, fun k q => ⟨(hk k q).1, (hk k q).2.1⟩, ⟨F', hs, fun k q => ⟨⟨?_, fun e => (hk k e).2.2 q⟩, ?_⟩, fun k q => ⟨hi k (by omega), fun e => by have := (hk k e).2.1; omega⟩⟩, h2⟩
  · rcases hF k q with q | q
    · exact (lo k q).1
    · exact hi k q.1
  · rcases hF k q with q | q
    · have := (lo k q).2; omega
    · exact q.2
theorem k_calls (h : KSrv w X s st) :
    Calls Tryz.prog 26 #[.pointer (some ⟨s, 0, none⟩)] w fun e w' => e = .returned (.int .i64 st.calls) ∧ w' = w := by
  obtain ⟨F, h, lo, hi⟩ := h
  exact calls_any h
end

/-! ### The invariant is kept -/
theorem KOk.same {st st' : St} (h : KOk st) (hok : POk st') (hn : st'.nodes = st.nodes) (hl : st'.laid = st.laid) : KOk st' := ⟨hok, h.tree.same hn hl, h.small.same hn, by rw [hn]; exact h.len⟩
theorem KOk.attach {st : St} (h : KOk st) (n : Int) : KOk (mAttach st n).1 := h.same (mAttach_ok h.ok _) (mAttach_len _ _) (mAttach_laid _ _)
theorem KOk.clunk {st : St} (h : KOk st) (n : Int) : KOk (mClunk st n).1 := h.same (mClunk_ok h.ok _) (mClunk_len _ _) (mClunk_laid _ _)
theorem KOk.open {st : St} (h : KOk st) (n : Int) : KOk (mOpen st n).1 := h.same (mOpen_ok h.ok _) (mOpen_len _ _) (mOpen_laid _ _)
theorem KOk.walk {st : St} (h : KOk st) (n t : Int) (names : List ByteArray) : KOk (mWalk st n t names).1 := h.same (mWalk_ok h.ok _ _ _) (mWalk_len _ _ _ _) (mWalk_laid _ _ _ _)
theorem KOk.tick {st : St} (h : KOk st) : KOk (tick st) := h.same h.ok.tick rfl rfl
theorem KOk.create {st : St} (h : KOk st) (n : Int) (name : ByteArray) (dir : Bool) (hl : st.nodes.length < 100000) : KOk (mCreate st n name dir).1 :=
  ⟨mCreate_keeps h.ok _ _ _, mCreate_treed h.ok h.tree _ _ _, mCreate_small h.ok h.small _ _ _, by have := mCreate_len h.ok n name dir; omega⟩
theorem KOk.write {st : St} (h : KOk st) (n a : Int) (t : ByteArray) : KOk (mWrite st n a t).1 :=
  ⟨mWrite_ok h.ok _ _ _, mWrite_treed h.tree _ _ _, mWrite_small h.small _ _ _, by rw [mWrite_len]; exact h.len⟩
theorem KOk.remove {st : St} (h : KOk st) (n : Int) : KOk (mRemove st n).1 :=
  ⟨mRemove_ok h.ok _, mRemove_treed h.tree _, mRemove_small h.small _, by rw [mRemove_len]; exact h.len⟩
end Go.Proofs.YtdmdgnghaceibaaGreat.P
/- The model, as the laws without the document's answer go about it: one fid walks out from the root and is given up again. (No program.) -/
namespace Go.Proofs.YtdmdgnghaceibaaGreat.P
open M
set_option linter.unusedVariables false

def W0 : List Spot := [⟨0, [⟨0, true⟩]⟩]
def f0 : Fid := ⟨0, W0, false⟩

/-- Fid 0 stands at the root, fid 1 nowhere. -/
structure Zero (st : St) : Prop where
  fid : ∃ rest, st.fids = f0 :: rest
  one : find st 1 = none

def withFid (st : St) (f : Fid) : St := { st with fids := st.fids ++ [f] }
/-- The same but for the count. -/
def counted (st : St) (c : Int) : St := { st with calls := c }
/-- A node more. -/
def made (st : St) (x : Nd) (c : Int) : St := { st with nodes := st.nodes ++ [x], calls := c }

section
variable {st : St}
theorem Zero.find (z : Zero st) : M.find st 0 = some 0 := by
  obtain ⟨rest, h⟩ := z.fid
  unfold M.find
  rw [h]
  rfl
theorem Zero.get (z : Zero st) : st.fids[0]? = some f0 := by
  obtain ⟨rest, h⟩ := z.fid
  rw [h]
  rfl
theorem Zero.same {st' : St} (z : Zero st) (h : st'.fids = st.fids) : Zero st' := ⟨by rw [h]; exact z.fid, by unfold M.find; rw [h]; exact z.one⟩

theorem find_with {f : Fid} (h : M.find st f.n = none) : M.find (withFid st f) f.n = some st.fids.length := by
  unfold M.find withFid at *
  simp only
  rw [List.findIdx?_append, h]
  simp [List.findIdx?_cons]
theorem find_other {f : Fid} {n : Int} (h : f.n ≠ n) : M.find (withFid st f) n = M.find st n := by
  unfold M.find withFid
  simp only
  rw [List.findIdx?_append]
  have : (f.n == n) = false := by simpa using h
  simp [List.findIdx?_cons, this]
theorem get_with (f : Fid) : (withFid st f).fids[st.fids.length]? = some f := by simp [withFid]
theorem drop_with (f : Fid) : mDrop (withFid st f) st.fids.length = st := by
  unfold mDrop withFid
  simp
theorem set_with (f g : Fid) : (withFid st f).fids.set st.fids.length g = st.fids ++ [g] := by
  unfold withFid
  simp only
  rw [List.set_append_right _ _ (Nat.le_refl _)]
  simp

/-! ### The calls -/
theorem mWalk_new {n t : Int} {i : Nat} {f : Fid} {names : List ByteArray} (hf : M.find st n = some i) (hi : st.fids[i]? = some f) (hn : f.n = n) (ho : f.op = false) (ht : fidOk t = true) (hne : t ≠ n) (hno : M.find st t = none) (hlen : names.length ≤ 16) (hok : names.any nameBad = false) :
    mWalk st n t names = if (wayGo st names f.way).2.1 = 0 then (withFid (tick st) ⟨t, (wayGo st names f.way).2.2, false⟩, (names.length : Int), 0) else (tick st, ((wayGo st names f.way).1 : Int), (wayGo st names f.way).2.1) := by
  have ha : mAllowed (tick st) f t names = 0 := by
    unfold mAllowed
    rw [if_neg (by simp [ho]), if_pos ht, if_neg (fun q => by have := q.2; rw [show M.find (tick st) t = M.find st t from rfl, hno] at this; simp at this), if_neg (by omega), if_neg (by simp [hok])]
  unfold mWalk
  rw [hf]
  simp only
  rw [hi]
  simp only
  rw [if_pos ha]
  unfold mWalkTo
  rw [if_neg hne]
  rfl

theorem mClunk_with {f : Fid} (h : M.find st f.n = none) : mClunk (withFid st f) f.n = (tick st, 0) := by
  unfold mClunk
  rw [find_with h]
  simp only
  rw [show tick (withFid st f) = withFid (tick st) f from rfl, show st.fids.length = (tick st).fids.length from rfl, drop_with]

theorem mOpen_with {n : Int} {way : List Spot} {sp : Spot} (h : M.find st n = none) (hsp : way.getLast? = some sp) (hg : isGone st sp.n = false) : mOpen (withFid st ⟨n, way, false⟩) n = (withFid (tick st) ⟨n, way, true⟩, 0) := by
  unfold mOpen
  rw [show M.find (withFid st ⟨n, way, false⟩) n = some st.fids.length from find_with (f := ⟨n, way, false⟩) h]
  simp only
  rw [get_with]
  simp only
  rw [if_neg (by simp), show nodeOf ⟨n, way, false⟩ = sp.n by simp [nodeOf, hsp], show isGone (withFid st ⟨n, way, false⟩) sp.n = isGone st sp.n from rfl, hg]
  simp only [Bool.false_eq_true, if_false]
  unfold setOpen
  rw [show (tick (withFid st ⟨n, way, false⟩)).fids = (withFid st ⟨n, way, false⟩).fids from rfl, set_with]
  rfl

theorem mCreate_with {n : Int} {way : List Spot} {sp : Spot} {name : ByteArray} {dir : Bool} {m : Member} (h : M.find st n = none) (hsp : way.getLast? = some sp) (hg : isGone st sp.n = false) (hd : isDir st sp.n = true) (hn : isName name = true) (hs : seenIn st name sp.row = none) (hm : makerOf st sp.row = some m) (hl : liveNodes st.nodes < 100) :
    ∃ x, mCreate (withFid st ⟨n, way, false⟩) n name dir = (withFid { tick st with nodes := st.nodes ++ [newNd name dir m.d] } ⟨n, way ++ [x], true⟩, 0) ∧ x.n = st.nodes.length := by
  unfold mCreate
  rw [show M.find (withFid st ⟨n, way, false⟩) n = some st.fids.length from find_with (f := ⟨n, way, false⟩) h]
  simp only
  rw [get_with]
  simp only
  rw [if_neg (by simp), hsp]
  simp only
  have e1 : isGone (withFid st ⟨n, way, false⟩) sp.n = false := hg
  have e2 : isDir (withFid st ⟨n, way, false⟩) sp.n = true := hd
  have e3 : ∀ row, seenIn (withFid st ⟨n, way, false⟩) name row = seenIn st name row := fun row => by
    induction row with
    | nil => rfl
    | cons a r ih => unfold seenIn; rw [ih]; rfl
  have e4 : ∀ row, makerOf (withFid st ⟨n, way, false⟩) row = makerOf st row := fun row => by
    induction row with
    | nil => rfl
    | cons a r ih => unfold makerOf; rw [ih]; rfl
  rw [e1, e2, hn, e3, hs, e4, hm]
  simp only [Bool.false_eq_true, if_false, if_true]
  rw [if_neg (by show ¬ 100 ≤ liveNodes st.nodes; omega)]
  refine ⟨come (withNode (tick (withFid st ⟨n, way, false⟩)) (newNd name dir m.d)) st.nodes.length, ?_, rfl⟩
  unfold mCreateAt setOpen setWay withNode
  simp only [Prod.mk.injEq, and_true]
  have hz : (tick (withFid st ⟨n, way, false⟩)).fids = (withFid st ⟨n, way, false⟩).fids := rfl
  rw [hz, set_with, List.set_append_right _ _ (Nat.le_refl _)]
  simp [withFid, tick]

theorem mFile_with {n : Int} {way : List Spot} {c : Nat} {x : Nd} (h : M.find st n = none) (hc : nodeOf ⟨n, way, true⟩ = c) (hx : st.nodes[c]? = some x) (hg : x.gone = false) (hd : x.dir = false) : mFile (withFid st ⟨n, way, true⟩) (M.find (withFid st ⟨n, way, true⟩) n) = 0 := by
  rw [show M.find (withFid st ⟨n, way, true⟩) n = some st.fids.length from find_with (f := ⟨n, way, true⟩) h]
  unfold mFile
  simp only
  rw [get_with]
  simp only
  rw [if_pos trivial, hc, show isGone (withFid st ⟨n, way, true⟩) c = false by simp only [isGone, withFid, hx]; exact hg, show isDir (withFid st ⟨n, way, true⟩) c = false by simp only [isDir, withFid, hx]; exact hd]
  simp

theorem mWrite_with {n a : Int} {t : ByteArray} {way : List Spot} {c : Nat} {x : Nd} (h : M.find st n = none) (hc : nodeOf ⟨n, way, true⟩ = c) (hx : st.nodes[c]? = some x) (hg : x.gone = false) (hd : x.dir = false) (ha : 0 ≤ a) (hb : a + t.size ≤ 300) :
    mWrite (withFid st ⟨n, way, true⟩) n a t = (withFid (setNode (tick st) c (wroteNd x a.toNat t)) ⟨n, way, true⟩, (t.size : Int), 0) := by
  unfold mWrite
  rw [if_pos (mFile_with h hc hx hg hd), if_neg (by omega), if_neg (by omega)]
  rw [show M.find (withFid st ⟨n, way, true⟩) n = some st.fids.length from find_with (f := ⟨n, way, true⟩) h]
  simp only
  rw [get_with]
  simp only
  rw [hc, show (withFid st ⟨n, way, true⟩).nodes[c]? = some x from hx]
  rfl

theorem mRead_with {n a q : Int} {way : List Spot} {c : Nat} {x : Nd} (h : M.find st n = none) (hc : nodeOf ⟨n, way, true⟩ = c) (hx : st.nodes[c]? = some x) (hg : x.gone = false) (hd : x.dir = false) (ha : 0 ≤ a) (hq : 0 ≤ q) :
    mRead (withFid st ⟨n, way, true⟩) n a q = (withFid (tick st) ⟨n, way, true⟩, textAt x.data a.toNat q.toNat, 0) := by
  unfold mRead
  rw [if_pos (mFile_with h hc hx hg hd), if_neg (by omega)]
  rw [show M.find (withFid st ⟨n, way, true⟩) n = some st.fids.length from find_with (f := ⟨n, way, true⟩) h]
  simp only
  rw [get_with]
  simp only
  rw [show dataOf (withFid st ⟨n, way, true⟩) ⟨n, way, true⟩ = x.data by unfold dataOf; rw [hc, show (withFid st ⟨n, way, true⟩).nodes[c]? = some x from hx]]
  rfl

theorem listUpto_fids {st' : St} (hn : st'.nodes = st.nodes) (hl : st'.laid = st.laid) (row : List Member) : ∀ k, listUpto st' row k = listUpto st row k := by
  obtain ⟨n', l', f', c'⟩ := st'
  obtain ⟨n, l, f, c⟩ := st
  simp only at hn hl
  subst hn hl
  have e3 : ∀ s row, seenIn ⟨n', l', f', c'⟩ s row = seenIn ⟨n', l', f, c⟩ s row := fun s row => by
    induction row with
    | nil => rfl
    | cons a r ih => unfold seenIn; rw [ih]; rfl
  intro k
  induction k with
  | zero => rfl
  | succ k ih =>
    unfold listUpto
    rw [ih]
    simp only [e3]
    rfl

theorem mList_with {n : Int} {way : List Spot} {sp : Spot} (h : M.find st n = none) (hsp : way.getLast? = some sp) (hg : isGone st sp.n = false) (hd : isDir st sp.n = true) :
    mList (withFid st ⟨n, way, true⟩) n = (withFid (tick st) ⟨n, way, true⟩, listUpto st sp.row sp.row.length, 0) := by
  have hf := find_with (f := ⟨n, way, true⟩) h
  have hno : nodeOf ⟨n, way, true⟩ = sp.n := by simp [nodeOf, hsp]
  have he : mDirE (withFid st ⟨n, way, true⟩) (M.find (withFid st ⟨n, way, true⟩) n) = 0 := by
    rw [show M.find (withFid st ⟨n, way, true⟩) n = some st.fids.length from hf]
    unfold mDirE
    simp only
    rw [get_with]
    simp only
    rw [if_pos trivial, hno, show isGone (withFid st ⟨n, way, true⟩) sp.n = false from hg, show isDir (withFid st ⟨n, way, true⟩) sp.n = true from hd]
    simp
  unfold mList
  rw [if_pos he, show M.find (withFid st ⟨n, way, true⟩) n = some st.fids.length from hf]
  simp only
  rw [get_with]
  simp only
  rw [show fidRow ⟨n, way, true⟩ = sp.row by simp [fidRow, hsp]]
  rw [listUpto_fids (st := st) (st' := withFid st ⟨n, way, true⟩) rfl rfl]
  rfl

/-! ### Ways -/
theorem nameBad_no {s : ByteArray} (h : isName s = true) : nameBad s = false := by simp [nameBad, h]
theorem not_dot {s : ByteArray} (h : isName s = true) : s.toList ≠ [46] ∧ s.toList ≠ [46, 46] := by
  have hb : ¬ badText s = true := fun hb => by simp [isName, hb] at h
  simp only [badText, decide_eq_true_eq, not_or] at hb
  exact ⟨hb.2.1, hb.2.2.1⟩

theorem wayStep_in {way : List Spot} {sp : Spot} {s : ByteArray} {c : Nat} (hn : isName s = true) (hsp : way.getLast? = some sp) (hg : isGone st sp.n = false) (hd : isDir st sp.n = true) (hs : seenIn st s sp.row = some c) : wayStep st way s = (0, way ++ [come st c]) := by
  obtain ⟨h1, h2⟩ := not_dot hn
  unfold wayStep
  rw [if_neg h1, if_neg h2, hsp]
  simp only
  rw [hg, hd, hs]
  simp
theorem wayStep_none {way : List Spot} {sp : Spot} {s : ByteArray} (hn : isName s = true) (hsp : way.getLast? = some sp) (hg : isGone st sp.n = false) (hd : isDir st sp.n = true) (hs : seenIn st s sp.row = none) : wayStep st way s = (7, way) := by
  obtain ⟨h1, h2⟩ := not_dot hn
  unfold wayStep
  rw [if_neg h1, if_neg h2, hsp]
  simp only
  rw [hg, hd, hs]
  simp
theorem wayStep_back {way : List Spot} {a : Spot} (hw : 1 ≤ way.length) : wayStep st (way ++ [a]) ⟨#[46, 46]⟩ = (0, way) := by
  unfold wayStep
  rw [if_neg (by simp [ByteArray.toList_eq]), if_pos (by simp [ByteArray.toList_eq]), if_pos (by simp; omega)]
  simp

theorem root_live (T : Treed st) : isGone st 0 = false ∧ isDir st 0 = true := by
  obtain ⟨x, hx, hd, hg, _⟩ := T.root
  exact ⟨by simp only [isGone, hx]; exact hg, by simp only [isDir, hx]; exact hd⟩
theorem seen_one (d : Nat) (s : ByteArray) (hg : isGone st d = false) : seenIn st s [⟨d, true⟩] = lies st d s := by
  unfold seenIn
  rw [hg]
  simp only [Bool.false_eq_true, if_false]
  cases lies st d s <;> rfl
theorem maker_one (d : Nat) (hg : isGone st d = false) : makerOf st [⟨d, true⟩] = some ⟨d, true⟩ := by
  unfold makerOf
  rw [hg]
  rfl
theorem W0_last : W0.getLast? = some ⟨0, [⟨0, true⟩]⟩ := rfl

theorem go1 {s : ByteArray} {way way' : List Spot} (h : wayStep st way s = (0, way')) : wayGo st [s] way = (1, 0, way') := by
  unfold wayGo
  rw [h]
  rfl
theorem go1_no {s : ByteArray} {way : List Spot} {e : Int} (h : wayStep st way s = (e, way)) (he : e ≠ 0) : wayGo st [s] way = (0, e, way) := by
  unfold wayGo
  rw [h]
  simp only [if_neg he]
theorem go2 {s t : ByteArray} {way w1 w2 : List Spot} (h : wayStep st way s = (0, w1)) (h2 : wayStep st w1 t = (0, w2)) : wayGo st [s, t] way = (2, 0, w2) := by
  have := go1 h2
  unfold wayGo
  rw [h]
  simp only [if_true]
  rw [this]
theorem go2_no {s t : ByteArray} {way w1 : List Spot} {e : Int} (h : wayStep st way s = (0, w1)) (h2 : wayStep st w1 t = (e, w1)) (he : e ≠ 0) : wayGo st [s, t] way = (1, e, w1) := by
  have := go1_no h2 he
  unfold wayGo
  rw [h]
  simp only [if_true]
  rw [this]

/-- The bytes of a file, whole. -/
theorem textAt_all {d : ByteArray} (h : d.size ≤ 300) : textAt d 0 300 = d := by
  unfold textAt
  by_cases h0 : 0 < d.size
  · rw [if_pos h0, show min (0 + 300) d.size = d.size by omega, ByteArray.extract_zero_size]
  · rw [if_neg h0]
    apply ByteArray.ext
    have : d.data.size = 0 := by have : d.size = d.data.size := rfl; omega
    exact (Array.eq_empty_of_size_eq_zero this).symm
theorem over_new (t : ByteArray) : over ⟨#[]⟩ 0 t = t := by
  have h0 : (padded ⟨#[]⟩ 0).size = 0 := by rw [size_padded]; rfl
  unfold over
  rw [if_neg (by omega)]
  apply ByteArray.ext
  simp [padded, zeros, ByteArray.data_append]
end
end Go.Proofs.YtdmdgnghaceibaaGreat.P
/- Both halves: Attach, Clunk, Open. -/
namespace Go.Proofs.YtdmdgnghaceibaaGreat.P
open M Go.ChangeShapes Go.WideShapes Go.ChangeAt Go.RowKit
set_option linter.unusedVariables false

/-! ### The calls -/

set_option maxRecDepth 20000 in
set_option maxHeartbeats 1000000 in
theorem turned_attach {w : World} {X : Nat → Prop} {b : Nat} {st : St} (k fid a bb : Int) (text : ByteArray) (yes : Bool) (ao : Option Addr) (nl nc : Nat) (h : BothIs w X b st) (ok : POk st) :
    Calls Tryz.prog 65 #[.pointer (some ⟨b, 0, none⟩), .agg #[.int .i64 1, .int .i64 k, .int .i64 fid, .int .i64 a, .int .i64 bb, .string text, .bool yes, .slice ao nl nc]] w fun e w' => e = .returned (.bool true) ∧ BothIs w' X b (mAttach st fid).1 ∧ Ext X w w' := by
  obtain ⟨s, r, F, G, h⟩ := h
  have c0 := h.c0
  have c1 := h.c1
  have H := hide h
  have Hok := hide ok
  have HBox := hide (show ¬ F w.heap.size from fun hk => by have := (h.lo _ (.inl hk)).2; omega)
  have HbF := hide h.bF
  clear h ok
  have u0 := fun o => up c0 o
  have u1 := fun o => up c1 o
  go_enter Tryz.func65, Tryz.ntmps65
  go_wp2
  go_cut [5] (fun s5 wc => s5 = .int .i64 (mAttach st fid).2 ∧ Ext X w wc ∧ (∃ F', TwoIs wc X b s r F' G (mAttach st fid).1 st) ∧ wc.cell? ⟨w.heap.size, 2, none⟩ = some (.int .i64 fid))
  case first =>
    go_region_with (go_at_call 13; refine (attach_any (F := F) (st := st) fid ?_ Hok.out).mono ?_; exact (H.out.below (((Below.refl _ w).alloc (Nat.le_refl _) _).drew)).srv; rintro e w2 ⟨rfl, hs2, hx2⟩; have HS2 := hide hs2; have HX := hide hx2; have q2 : w2.cell? ⟨w.heap.size, 2, none⟩ = some (.int .i64 fid) := ext_cell HX.out HBox.out (by simp); clear hs2 hx2)
    all_goals go_wp2
    all_goals go_meet
    all_goals
      have hT2 := (H.out.below (((Below.refl _ w).alloc (Nat.le_refl _) (.cells #[.int .i64 1, .int .i64 k, .int .i64 fid, .int .i64 a, .int .i64 bb, .string text, .bool yes, .slice ao nl nc] 57)).drew)).srvStep HS2.out HX.out
      have e1 : Ext X w ((w.alloc (.cells #[.int .i64 1, .int .i64 k, .int .i64 fid, .int .i64 a, .int .i64 bb, .string text, .bool yes, .slice ao nl nc] 57)).drew) := Ext.below (((Below.refl _ w).alloc (Nat.le_refl _) _).drew)
      have e2 := HX.out.weak (fun k hk => (H.out.lo k (.inl hk)).1)
      exact ⟨rfl, e1.trans' e2, ⟨_, hT2⟩, q2⟩
  case rest =>
    obtain ⟨rfl, hbc, ⟨F', hT⟩, q2⟩ := hcut
    have v1 := hT.c1
    have HT := hide hT
    have HBc := hide hbc
    clear hT hbc
    go_wp2
    go_region_with (go_at_call 105; refine (Go.Proofs.YtdmdgnghaceibaaGreat.attach_any (F := G) (st := st) fid ?_ Hok.out.pos (by have := Hok.out.stOk.few; omega)).mono ?_; exact HT.out.ref.drew; rintro e w3 ⟨rfl, hr3, hx3⟩; have HR3 := hide hr3; have HX3 := hide hx3; clear hr3 hx3)
    all_goals
      have hT3 := (HT.out.below ((Below.refl _ wc).drew)).refStep HR3.out HX3.out
      have e3 := HX3.out.weak (fun k hk => (HT.out.lo k (.inr hk)).1)
      have HT2 := hide hT3
      have HBd := hide (HBc.out.trans' (((Ext.refl X wc).drew).trans' e3))
      clear hT3 e3
      go_wp2_with (go_at_call 27; refine (num_any _ _).mono ?_; rintro e w' ⟨rfl, hw⟩; obtain rfl := hw.symm)
      go_ret
      exact ⟨by simp, ⟨s, r, _, _, HT2.out⟩, HBd.out⟩

set_option maxRecDepth 20000 in
set_option maxHeartbeats 1000000 in
theorem turned_clunk {w : World} {X : Nat → Prop} {b : Nat} {st : St} (k fid a bb : Int) (text : ByteArray) (yes : Bool) (ao : Option Addr) (nl nc : Nat) (h : BothIs w X b st) (ok : POk st) :
    Calls Tryz.prog 65 #[.pointer (some ⟨b, 0, none⟩), .agg #[.int .i64 2, .int .i64 k, .int .i64 fid, .int .i64 a, .int .i64 bb, .string text, .bool yes, .slice ao nl nc]] w fun e w' => e = .returned (.bool true) ∧ BothIs w' X b (mClunk st fid).1 ∧ Ext X w w' := by
  obtain ⟨s, r, F, G, h⟩ := h
  have c0 := h.c0
  have c1 := h.c1
  have H := hide h
  have Hok := hide ok
  have HBox := hide (show ¬ F w.heap.size from fun hk => by have := (h.lo _ (.inl hk)).2; omega)
  have HbF := hide h.bF
  clear h ok
  have u0 := fun o => up c0 o
  have u1 := fun o => up c1 o
  go_enter Tryz.func65, Tryz.ntmps65
  go_wp2
  go_cut [5] (fun s5 wc => s5 = .int .i64 (mClunk st fid).2 ∧ Ext X w wc ∧ (∃ F', TwoIs wc X b s r F' G (mClunk st fid).1 st) ∧ wc.cell? ⟨w.heap.size, 2, none⟩ = some (.int .i64 fid))
  case first =>
    go_region_with (go_at_call 22; refine (clunk_any (F := F) (st := st) fid ?_ Hok.out).mono ?_; exact (H.out.below (((Below.refl _ w).alloc (Nat.le_refl _) _).drew)).srv; rintro e w2 ⟨rfl, hs2, hx2⟩; have HS2 := hide hs2; have HX := hide hx2; have q2 : w2.cell? ⟨w.heap.size, 2, none⟩ = some (.int .i64 fid) := ext_cell HX.out HBox.out (by simp); clear hs2 hx2)
    all_goals go_wp2
    all_goals go_meet
    all_goals
      have hT2 := (H.out.below (((Below.refl _ w).alloc (Nat.le_refl _) (.cells #[.int .i64 2, .int .i64 k, .int .i64 fid, .int .i64 a, .int .i64 bb, .string text, .bool yes, .slice ao nl nc] 57)).drew)).srvStep HS2.out HX.out
      have e1 : Ext X w ((w.alloc (.cells #[.int .i64 2, .int .i64 k, .int .i64 fid, .int .i64 a, .int .i64 bb, .string text, .bool yes, .slice ao nl nc] 57)).drew) := Ext.below (((Below.refl _ w).alloc (Nat.le_refl _) _).drew)
      have e2 := HX.out.weak (fun k hk => (H.out.lo k (.inl hk)).1)
      exact ⟨rfl, e1.trans' e2, ⟨_, hT2⟩, q2⟩
  case rest =>
    obtain ⟨rfl, hbc, ⟨F', hT⟩, q2⟩ := hcut
    have v1 := hT.c1
    have HT := hide hT
    have HBc := hide hbc
    clear hT hbc
    go_wp2
    go_region_with (go_at_call 106; refine (Go.Proofs.YtdmdgnghaceibaaGreat.clunk_any (F := G) (st := st) fid ?_ (by have := Hok.out.stOk.few; omega)).mono ?_; exact HT.out.ref.drew; rintro e w3 ⟨rfl, hr3, hx3⟩; have HR3 := hide hr3; have HX3 := hide hx3; clear hr3 hx3)
    all_goals
      have hT3 := (HT.out.below ((Below.refl _ wc).drew)).refStep HR3.out HX3.out
      have e3 := HX3.out.weak (fun k hk => (HT.out.lo k (.inr hk)).1)
      have HT2 := hide hT3
      have HBd := hide (HBc.out.trans' (((Ext.refl X wc).drew).trans' e3))
      clear hT3 e3
      go_wp2_with (go_at_call 27; refine (num_any _ _).mono ?_; rintro e w' ⟨rfl, hw⟩; obtain rfl := hw.symm)
      go_ret
      exact ⟨by simp, ⟨s, r, _, _, HT2.out⟩, HBd.out⟩

set_option maxRecDepth 20000 in
set_option maxHeartbeats 1000000 in
theorem turned_open {w : World} {X : Nat → Prop} {b : Nat} {st : St} (k fid a bb : Int) (text : ByteArray) (yes : Bool) (ao : Option Addr) (nl nc : Nat) (h : BothIs w X b st) (ok : POk st) :
    Calls Tryz.prog 65 #[.pointer (some ⟨b, 0, none⟩), .agg #[.int .i64 4, .int .i64 k, .int .i64 fid, .int .i64 a, .int .i64 bb, .string text, .bool yes, .slice ao nl nc]] w fun e w' => e = .returned (.bool true) ∧ BothIs w' X b (mOpen st fid).1 ∧ Ext X w w' := by
  obtain ⟨s, r, F, G, h⟩ := h
  have c0 := h.c0
  have c1 := h.c1
  have H := hide h
  have Hok := hide ok
  have HBox := hide (show ¬ F w.heap.size from fun hk => by have := (h.lo _ (.inl hk)).2; omega)
  have HbF := hide h.bF
  clear h ok
  have u0 := fun o => up c0 o
  have u1 := fun o => up c1 o
  go_enter Tryz.func65, Tryz.ntmps65
  go_wp2
  go_cut [5] (fun s5 wc => s5 = .int .i64 (mOpen st fid).2 ∧ Ext X w wc ∧ (∃ F', TwoIs wc X b s r F' G (mOpen st fid).1 st) ∧ wc.cell? ⟨w.heap.size, 2, none⟩ = some (.int .i64 fid))
  case first =>
    go_region_with (go_at_call 15; refine (open_any (F := F) (st := st) fid ?_ Hok.out).mono ?_; exact (H.out.below (((Below.refl _ w).alloc (Nat.le_refl _) _).drew)).srv; rintro e w2 ⟨rfl, hs2, hx2⟩; have HS2 := hide hs2; have HX := hide hx2; have q2 : w2.cell? ⟨w.heap.size, 2, none⟩ = some (.int .i64 fid) := ext_cell HX.out HBox.out (by simp); clear hs2 hx2)
    all_goals go_wp2
    all_goals go_meet
    all_goals
      have hT2 := (H.out.below (((Below.refl _ w).alloc (Nat.le_refl _) (.cells #[.int .i64 4, .int .i64 k, .int .i64 fid, .int .i64 a, .int .i64 bb, .string text, .bool yes, .slice ao nl nc] 57)).drew)).srvStep HS2.out HX.out
      have e1 : Ext X w ((w.alloc (.cells #[.int .i64 4, .int .i64 k, .int .i64 fid, .int .i64 a, .int .i64 bb, .string text, .bool yes, .slice ao nl nc] 57)).drew) := Ext.below (((Below.refl _ w).alloc (Nat.le_refl _) _).drew)
      have e2 := HX.out.weak (fun k hk => (H.out.lo k (.inl hk)).1)
      exact ⟨rfl, e1.trans' e2, ⟨_, hT2⟩, q2⟩
  case rest =>
    obtain ⟨rfl, hbc, ⟨F', hT⟩, q2⟩ := hcut
    have v1 := hT.c1
    have HT := hide hT
    have HBc := hide hbc
    clear hT hbc
    go_wp2
    go_region_with (go_at_call 107; refine (Go.Proofs.YtdmdgnghaceibaaGreat.open_any (F := G) (st := st) fid ?_ Hok.out.stOk).mono ?_; exact HT.out.ref.drew; rintro e w3 ⟨rfl, hr3, hx3⟩; have HR3 := hide hr3; have HX3 := hide hx3; clear hr3 hx3)
    all_goals
      have hT3 := (HT.out.below ((Below.refl _ wc).drew)).refStep HR3.out HX3.out
      have e3 := HX3.out.weak (fun k hk => (HT.out.lo k (.inr hk)).1)
      have HT2 := hide hT3
      have HBd := hide (HBc.out.trans' (((Ext.refl X wc).drew).trans' e3))
      clear hT3 e3
      go_wp2_with (go_at_call 27; refine (num_any _ _).mono ?_; rintro e w' ⟨rfl, hw⟩; obtain rfl := hw.symm)
      go_ret
      exact ⟨by simp, ⟨s, r, _, _, HT2.out⟩, HBd.out⟩

end Go.Proofs.YtdmdgnghaceibaaGreat.P
/- Both halves: Create. -/
namespace Go.Proofs.YtdmdgnghaceibaaGreat.P
open M Go.ChangeShapes Go.WideShapes Go.ChangeAt Go.RowKit
set_option linter.unusedVariables false

set_option maxRecDepth 20000 in
set_option maxHeartbeats 4000000 in
theorem turned_create {w : World} {X : Nat → Prop} {b : Nat} {st : St} (k fid a bb : Int) (text : ByteArray) (yes : Bool) (ao : Option Addr) (nl nc : Nat) (h : BothIs w X b st) (ok : POk st) (htext : text.size ≤ maxLen) (hnod : st.nodes.length ≤ 1700000000000) (hlong : ∀ f ∈ st.fids, f.way.length ≤ 1700000000000) :
    Calls Tryz.prog 65 #[.pointer (some ⟨b, 0, none⟩), .agg #[.int .i64 5, .int .i64 k, .int .i64 fid, .int .i64 a, .int .i64 bb, .string text, .bool yes, .slice ao nl nc]] w fun e w' => e = .returned (.bool true) ∧ BothIs w' X b (mCreate st fid text yes).1 ∧ Ext X w w' := by
  obtain ⟨s, r, F, G, h⟩ := h
  have c0 := h.c0
  have c1 := h.c1
  have H := hide h
  have Hok := hide ok
  have HbG := hide h.bG
  have HBoxG := hide (show ¬ G w.heap.size from fun hk => by have := (h.lo _ (.inr hk)).2; omega)
  have HBox := hide (show ¬ F w.heap.size from fun hk => by have := (h.lo _ (.inl hk)).2; omega)
  have HbF := hide h.bF
  clear h ok
  have u0 := fun o => up c0 o
  have u1 := fun o => up c1 o
  go_enter Tryz.func65, Tryz.ntmps65
  go_wp2
  go_cut [5] (fun s5 wc => s5 = .int .i64 (mCreate st fid text yes).2 ∧ Ext X w wc ∧ (∃ F', TwoIs wc X b s r F' G (mCreate st fid text yes).1 st) ∧ wc.cell? ⟨w.heap.size, 2, none⟩ = some (.int .i64 fid) ∧ wc.cell? ⟨w.heap.size, 5, none⟩ = some (.string text) ∧ wc.cell? ⟨w.heap.size, 6, none⟩ = some (.bool yes))
  case first =>
    go_region_held3 (fun ww => ww.cell? ⟨b, 0, none⟩ = some (.pointer (some ⟨s, 0, none⟩)) ∧ ww.cell? ⟨w.heap.size, 2, none⟩ = some (.int .i64 fid) ∧ ww.cell? ⟨w.heap.size, 5, none⟩ = some (.string text) ∧ ww.cell? ⟨w.heap.size, 6, none⟩ = some (.bool yes)) (go_keep) (first | (go_at_call 16; refine (create_any (F := F) (st := st) fid text yes ?_ Hok.out htext (by unfold maxLen; omega)).mono ?_; exact (H.out.below (((Below.refl _ w).alloc (Nat.le_refl _) _).drew)).srv; rintro e w2 ⟨rfl, hs2, hx2⟩; have HS2 := hide hs2; have HX := hide hx2; have q0 : w2.cell? ⟨b, 0, none⟩ = some (.pointer (some ⟨s, 0, none⟩)) := ext_cell HX.out HbF.out (u0 _); have q2 : w2.cell? ⟨w.heap.size, 2, none⟩ = some (.int .i64 fid) := ext_cell HX.out HBox.out (by simp); have q5 : w2.cell? ⟨w.heap.size, 5, none⟩ = some (.string text) := ext_cell HX.out HBox.out (by simp); have q6 : w2.cell? ⟨w.heap.size, 6, none⟩ = some (.bool yes) := ext_cell HX.out HBox.out (by simp); clear hs2 hx2))
    all_goals go_wp2
    all_goals go_meet
    all_goals
      have hT2 := (H.out.below (((Below.refl _ w).alloc (Nat.le_refl _) (.cells #[.int .i64 5, .int .i64 k, .int .i64 fid, .int .i64 a, .int .i64 bb, .string text, .bool yes, .slice ao nl nc] 57)).drew)).srvStep HS2.out HX.out
      have e1 : Ext X w ((w.alloc (.cells #[.int .i64 5, .int .i64 k, .int .i64 fid, .int .i64 a, .int .i64 bb, .string text, .bool yes, .slice ao nl nc] 57)).drew) := Ext.below (((Below.refl _ w).alloc (Nat.le_refl _) _).drew)
      have e2 := HX.out.weak (fun k hk => (H.out.lo k (.inl hk)).1)
      exact ⟨rfl, e1.trans' e2, ⟨_, hT2⟩, q2, q5, q6⟩
  case rest =>
    obtain ⟨rfl, hbc, ⟨F', hT⟩, q2, q5, q6⟩ := hcut
    have v1 := hT.c1
    have HT := hide hT
    have HBc := hide hbc
    clear hT hbc
    go_wp2
    go_region_held3 (fun ww => ww.cell? ⟨b, 1, none⟩ = some (.pointer (some ⟨r, 0, none⟩)) ∧ ww.cell? ⟨w.heap.size, 2, none⟩ = some (.int .i64 fid) ∧ ww.cell? ⟨w.heap.size, 5, none⟩ = some (.string text) ∧ ww.cell? ⟨w.heap.size, 6, none⟩ = some (.bool yes)) (go_keep) (first | (go_at_call 108; refine (Go.Proofs.YtdmdgnghaceibaaGreat.create_any (F := G) (st := st) fid text yes ?_ Hok.out.stOk htext hnod hlong).mono ?_; exact HT.out.ref.drew; rintro e w3 ⟨rfl, hr3, hx3⟩; have HR3 := hide hr3; have HX3 := hide hx3; have p1 : w3.cell? ⟨b, 1, none⟩ = some (.pointer (some ⟨r, 0, none⟩)) := ext_cell hx3 HbG.out v1; have p2 : w3.cell? ⟨w.heap.size, 2, none⟩ = some (.int .i64 fid) := ext_cell hx3 HBoxG.out q2; have p5 : w3.cell? ⟨w.heap.size, 5, none⟩ = some (.string text) := ext_cell hx3 HBoxG.out q5; have p6 : w3.cell? ⟨w.heap.size, 6, none⟩ = some (.bool yes) := ext_cell hx3 HBoxG.out q6; clear hr3 hx3))
    all_goals
      have hT3 := (HT.out.below ((Below.refl _ wc).drew)).refStep HR3.out HX3.out
      have e3 := HX3.out.weak (fun k hk => (HT.out.lo k (.inr hk)).1)
      have HT2 := hide hT3
      have HBd := hide (HBc.out.trans' (((Ext.refl X wc).drew).trans' e3))
      clear hT3 e3
      go_wp2_with (go_at_call 27; refine (num_any _ _).mono ?_; rintro e w' ⟨rfl, hw⟩; obtain rfl := hw.symm)
      go_ret
      exact ⟨by simp, ⟨s, r, _, _, HT2.out⟩, HBd.out⟩

end Go.Proofs.YtdmdgnghaceibaaGreat.P
/- Both halves: Walk. -/
namespace Go.Proofs.YtdmdgnghaceibaaGreat.P
open M Go.ChangeShapes Go.WideShapes Go.ChangeAt Go.RowKit
set_option linter.unusedVariables false

/-! ### Walk -/
set_option maxRecDepth 20000 in
set_option maxHeartbeats 8000000 in
theorem walked_any {w : World} {X : Nat → Prop} {b : Nat} {st : St} (k fid a bb : Int) (text : ByteArray) (yes : Bool) (names : List ByteArray) (ao : Option Addr) (nc : Nat) (h : BothIs w X b st) (ok : POk st) (hn : NamesAt w ao names) (hnB : ∀ a, ao = some a → names ≠ [] → ¬ X a.block) (hlong : ∀ f ∈ st.fids, f.way.length ≤ 1700000000000) :
    Calls Tryz.prog 66 #[.pointer (some ⟨b, 0, none⟩), .agg #[.int .i64 3, .int .i64 k, .int .i64 fid, .int .i64 a, .int .i64 bb, .string text, .bool yes, .slice ao names.length nc], .slice ao names.length nc] w fun e w' => e = .returned (.bool true) ∧ BothIs w' X b (mWalk st fid bb names).1 ∧ Ext X w w' := by
  obtain ⟨s, r, F, G, h⟩ := h
  have c0 := h.c0
  have c1 := h.c1
  have H := hide h
  have Hok := hide ok
  have Hn := hide hn
  have HbG := hide h.bG
  have HBoxG := hide (show ¬ G w.heap.size from fun hk => by have := (h.lo _ (.inr hk)).2; omega)
  have HBox := hide (show ¬ F w.heap.size from fun hk => by have := (h.lo _ (.inl hk)).2; omega)
  have HbF := hide h.bF
  have Hlong := hide hlong
  clear h ok hn hlong
  have u0 := fun o => up c0 o
  have u1 := fun o => up c1 o
  obtain ⟨W0, hW0⟩ : ∃ W0, W0 = (w.alloc (.cells #[.int .i64 3, .int .i64 k, .int .i64 fid, .int .i64 a, .int .i64 bb, .string text, .bool yes, .slice ao names.length nc] 57)) := ⟨_, rfl⟩
  have HW0 := hide hW0
  have HB0 := hide (show Below w.heap.size w W0 by rw [hW0]; exact (Below.refl _ w).alloc (Nat.le_refl _) _)
  have HN0 := hide (Hn.out.ext (Ext.below (F := X) HB0.out) hnB)
  go_enter Tryz.func66, Tryz.ntmps66
  go_wp2
  rw [← HW0.out]
  have v0 : W0.cell? ⟨b, 0, none⟩ = some (.pointer (some ⟨s, 0, none⟩)) := by rw [hW0]; exact u0 _
  have v1 : W0.cell? ⟨b, 1, none⟩ = some (.pointer (some ⟨r, 0, none⟩)) := by rw [hW0]; exact u1 _
  have x2 : W0.cell? ⟨w.heap.size, 2, none⟩ = some (.int .i64 fid) := by rw [hW0]; simp
  have x4 : W0.cell? ⟨w.heap.size, 4, none⟩ = some (.int .i64 bb) := by rw [hW0]; simp
  have x7 : W0.cell? ⟨w.heap.size, 7, none⟩ = some (.slice ao names.length nc) := by rw [hW0]; simp
  clear hW0
  go_cut [7, 8] (fun s7 s8 wc => s7 = .int .i64 (mWalk st fid bb names).2.1 ∧ s8 = .int .i64 (mWalk st fid bb names).2.2 ∧ Ext X w wc ∧ (∃ F', TwoIs wc X b s r F' G (mWalk st fid bb names).1 st) ∧ wc.cell? ⟨w.heap.size, 2, none⟩ = some (.int .i64 fid) ∧ wc.cell? ⟨w.heap.size, 4, none⟩ = some (.int .i64 bb) ∧ wc.cell? ⟨w.heap.size, 7, none⟩ = some (.slice ao names.length nc))
  case first =>
    go_region_held3 (fun ww => ww.cell? ⟨b, 0, none⟩ = some (.pointer (some ⟨s, 0, none⟩)) ∧ ww.cell? ⟨w.heap.size, 2, none⟩ = some (.int .i64 fid) ∧ ww.cell? ⟨w.heap.size, 4, none⟩ = some (.int .i64 bb) ∧ ww.cell? ⟨w.heap.size, 7, none⟩ = some (.slice ao names.length nc)) (go_keep) (first | (go_at_call 14; refine (walk_any (F := F) (st := st) fid bb names ao nc ?_ Hok.out ?_ ?_).mono ?_; exact (H.out.below HB0.out.drew).srv; exact HN0.out; exact (fun a ha hne hF => hnB a ha hne (H.out.lo _ (.inl hF)).1); rintro e w2 ⟨rfl, hs2, hx2⟩; have HS2 := hide hs2; have HX := hide hx2; have q0 : w2.cell? ⟨b, 0, none⟩ = some (.pointer (some ⟨s, 0, none⟩)) := ext_cell HX.out HbF.out v0; have q2 : w2.cell? ⟨w.heap.size, 2, none⟩ = some (.int .i64 fid) := ext_cell HX.out HBox.out x2; have q4 : w2.cell? ⟨w.heap.size, 4, none⟩ = some (.int .i64 bb) := ext_cell HX.out HBox.out x4; have q7 : w2.cell? ⟨w.heap.size, 7, none⟩ = some (.slice ao names.length nc) := ext_cell HX.out HBox.out x7; clear hs2 hx2))
    all_goals go_wp2
    all_goals go_meet
    all_goals
      have hT2 := (H.out.below HB0.out.drew).srvStep HS2.out HX.out
      have e1 : Ext X w W0.drew := Ext.below HB0.out.drew
      have e2 := HX.out.weak (fun k hk => (H.out.lo k (.inl hk)).1)
      exact ⟨rfl, rfl, e1.trans' e2, ⟨_, hT2⟩, q2, q4, q7⟩
  case rest =>
    obtain ⟨rfl, rfl, hbc, ⟨F', hT⟩, q2, q4, q7⟩ := hcut
    have v1 := hT.c1
    have HT := hide hT
    have HBc := hide hbc
    have HN2 := hide (Hn.out.ext hbc hnB)
    clear hT hbc
    go_wp2
    go_cut [9, 10] (fun s9 s10 wd => s9 = .int .i64 (mWalk st fid bb names).2.1 ∧ s10 = .int .i64 (mWalk st fid bb names).2.2 ∧ Ext X w wd ∧ ∃ F' G', TwoIs wd X b s r F' G' (mWalk st fid bb names).1 (mWalk st fid bb names).1)
    case first =>
      go_region_held3 (fun ww => ww.cell? ⟨b, 1, none⟩ = some (.pointer (some ⟨r, 0, none⟩)) ∧ ww.cell? ⟨w.heap.size, 2, none⟩ = some (.int .i64 fid) ∧ ww.cell? ⟨w.heap.size, 4, none⟩ = some (.int .i64 bb) ∧ ww.cell? ⟨w.heap.size, 7, none⟩ = some (.slice ao names.length nc)) (go_keep) (first | (go_at_call 112; refine (Go.Proofs.YtdmdgnghaceibaaGreat.walk_any (F := G) (st := st) fid bb names ao nc ?_ Hok.out.stOk ?_ ?_ Hlong.out).mono ?_; exact HT.out.ref.drew; exact HN2.out; exact (fun a ha hne hG => hnB a ha hne (H.out.lo _ (.inr hG)).1); rintro e w3 ⟨rfl, hr3, hx3⟩; have HR3 := hide hr3; have HX3 := hide hx3; have p1 : w3.cell? ⟨b, 1, none⟩ = some (.pointer (some ⟨r, 0, none⟩)) := ext_cell hx3 HbG.out v1; have p2 : w3.cell? ⟨w.heap.size, 2, none⟩ = some (.int .i64 fid) := ext_cell hx3 HBoxG.out q2; have p4 : w3.cell? ⟨w.heap.size, 4, none⟩ = some (.int .i64 bb) := ext_cell hx3 HBoxG.out q4; have p7 : w3.cell? ⟨w.heap.size, 7, none⟩ = some (.slice ao names.length nc) := ext_cell hx3 HBoxG.out q7; clear hr3 hx3))
      all_goals go_wp2
      all_goals go_meet
      all_goals
        have hT3 := (HT.out.below ((Below.refl _ wc).drew)).refStep HR3.out HX3.out
        have e3 := HX3.out.weak (fun k hk => (HT.out.lo k (.inr hk)).1)
        exact ⟨rfl, rfl, HBc.out.trans' (((Ext.refl X wc).drew).trans' e3), _, _, hT3⟩
    case rest =>
      obtain ⟨rfl, rfl, hbd, F2, G2, hT⟩ := hcut
      have HT2 := hide hT
      have HBd := hide hbd
      clear hT hbd
      go_wp2_with (go_at_call 27; refine (num_any _ _).mono ?_; rintro e w' ⟨rfl, hw⟩; obtain rfl := hw.symm)
      go_ret
      exact ⟨by simp, ⟨s, r, F2, G2, HT2.out⟩, HBd.out⟩
end Go.Proofs.YtdmdgnghaceibaaGreat.P
/- The reference's New. -/
namespace Go.Proofs.YtdmdgnghaceibaaGreat
open M Go.ChangeShapes Go.WideShapes Go.ChangeAt Go.RowKit
set_option linter.unusedVariables false

set_option maxRecDepth 20000 in
theorem new_any (w : World) : Calls Tryz.prog 64 #[] w fun e w' => e = .returned (.pointer (some ⟨w.heap.size + 1, 0, none⟩)) ∧
    w' = (w.alloc (.cells #[.string ⟨#[47]⟩, .bool true, .int .i64 (-1), .string ⟨#[]⟩, .int .i64 0, .bool false] 184)).alloc (.cells #[.slice (some ⟨w.heap.size, 0, none⟩) 1 1, .slice none 0 0, .slice none 0 0, .int .i64 0] 81) := by
  go_enter Tryz.func64, Tryz.ntmps64
  go_wp2
  go_ret
  exact ⟨rfl, rfl⟩

theorem new_is (w : World) : RefIs ((w.alloc (.cells #[.string ⟨#[47]⟩, .bool true, .int .i64 (-1), .string ⟨#[]⟩, .int .i64 0, .bool false] 184)).alloc (.cells #[.slice (some ⟨w.heap.size, 0, none⟩) 1 1, .slice none 0 0, .slice none 0 0, .int .i64 0] 81))
    (fun k => k = w.heap.size ∨ k = w.heap.size + 1) (w.heap.size + 1) St0 := by
  have h0 := Own.lit w #[.string ⟨#[47]⟩, .bool true, .int .i64 (-1), .string ⟨#[]⟩, .int .i64 0, .bool false] 184 6 rfl
  have h1 := heap_alloc_new (w.alloc (.cells #[.string ⟨#[47]⟩, .bool true, .int .i64 (-1), .string ⟨#[]⟩, .int .i64 0, .bool false] 184)) (.cells #[.slice (some ⟨w.heap.size, 0, none⟩) 1 1, .slice none 0 0, .slice none 0 0, .int .i64 0] 81)
  rw [show (w.alloc (.cells #[.string ⟨#[47]⟩, .bool true, .int .i64 (-1), .string ⟨#[]⟩, .int .i64 0, .bool false] 184)).heap.size = w.heap.size + 1 by simp] at h1
  refine ⟨_, _, _, h1, .inr rfl, ?_, ⟨[], ⟨rfl, fun i v x hv => by simp at hv⟩, Own.nil _ _ _ _⟩, ⟨[], ⟨rfl, fun i v x hv => by simp at hv⟩, Own.nil _ _ _ _⟩⟩
  exact (h0.keepT (T := fun _ => True) ((KeepT.refl _ _ _).alloc _) trivial).mono (fun k hk => .inl hk)
end Go.Proofs.YtdmdgnghaceibaaGreat
/- 'begun': a zero Server beside the document's. -/
namespace Go.Proofs.YtdmdgnghaceibaaGreat.P
open M Go.ChangeShapes Go.WideShapes Go.ChangeAt Go.RowKit
set_option linter.unusedVariables false

def nilPtr : Option Value → Bool
  | some (.pointer none) => true
  | _ => false
def noBool : Option Value → Bool
  | some (.bool false) => true
  | _ => false
theorem nilPtr_eq {o : Option Value} (h : nilPtr o = true) : o = some (.pointer none) := by
  unfold nilPtr at h
  split at h
  · rfl
  · cases h
theorem noBool_eq {o : Option Value} (h : noBool o = true) : o = some (.bool false) := by
  unfold noBool at h
  split at h
  · rfl
  · cases h

theorem zeroStands (n : Nat) (hn : n < 51) : Tryz.zeroCells110[7 + n * 2]? = some (.pointer none) ∧ Tryz.zeroCells110[7 + n * 2 + 1]? = some (.bool false) := by
  have h : (List.range 51).all (fun n => nilPtr (Tryz.zeroCells110[7 + n * 2]?) && noBool (Tryz.zeroCells110[7 + n * 2 + 1]?)) = true := by kernel_rfl
  rw [List.all_eq_true] at h
  have := h n (List.mem_range.2 hn)
  simp only [Bool.and_eq_true] at this
  exact ⟨nilPtr_eq this.1, noBool_eq this.2⟩

theorem fresh_zero {w : World} {F : Nat → Prop} {s : Nat} (hb : w.heap[s]? = some (.cells Tryz.zeroCells110 110 (0, 0))) (hF : F s) : Fresh w F s := by
  have c : ∀ j, w.cell? ⟨s, j, none⟩ = Tryz.zeroCells110[j]? := fun j => by simp [World.cell?, hb]
  refine ⟨⟨⟨_, hb⟩, hF⟩, ?_, ?_, ?_, ?_, ?_, fun n hn => ?_⟩
  · rw [c]; kernel_rfl
  · rw [c]; kernel_rfl
  · rw [c]; kernel_rfl
  · rw [c]; kernel_rfl
  · rw [c]; kernel_rfl
  · rw [c, c]; exact zeroStands n hn

theorem St0_ok : POk St0 := by
  refine ⟨⟨by simp [St0], by simp [St0]⟩, ⟨root, rfl, rfl⟩, by simp [St0], by simp [St0], ?_, ?_, ?_⟩
  · intro x hx
    simp [St0] at hx
    subst hx
    decide
  · intro x hx
    simp [St0] at hx
    subst hx
    simp [root, St0]
  · simp [liveNodes, St0, root]
theorem St0_plain : Plain St0 := by
  refine ⟨rfl, fun i x hx => ?_, by simp [St0]⟩
  have := M.lt_of_getElem? hx
  simp [St0] at this
  subst this
  simp [St0] at hx
  subst hx
  simp [root]

set_option maxRecDepth 20000 in
theorem begun_any (w : World) {X : Nat → Prop} (hX : ∀ k, w.heap.size ≤ k → X k) : Calls Tryz.prog 28 #[] w fun e w' => e = .returned (.pointer (some ⟨w.heap.size + 1 + 1 + 1, 0, none⟩)) ∧ BothIs w' X (w.heap.size + 1 + 1 + 1) St0 ∧ Below w.heap.size w w' := by
  go_enter Tryz.func28, Tryz.ntmps28
  go_wp2_with (go_at_call 64; refine (Go.Proofs.YtdmdgnghaceibaaGreat.new_any _).mono ?_; rintro e w' ⟨rfl, rfl⟩)
  go_ret
  obtain ⟨w1, hw1⟩ : ∃ w1, w1 = w.alloc (.cells Tryz.zeroCells110 110) := ⟨_, rfl⟩
  have hz1 : w1.heap.size = w.heap.size + 1 := by rw [hw1]; simp
  have hb1 : w1.heap[w.heap.size]? = some (.cells Tryz.zeroCells110 110 (0, 0)) := by rw [hw1]; exact heap_alloc_new w _
  have hn := Go.Proofs.YtdmdgnghaceibaaGreat.new_is w1
  rw [hz1] at hn
  rw [← hw1]
  obtain ⟨w2, hw2⟩ : ∃ w2, w2 = (w1.alloc (.cells #[.string ⟨#[47]⟩, .bool true, .int .i64 (-1), .string ⟨#[]⟩, .int .i64 0, .bool false] 184)).alloc (.cells #[.slice (some ⟨w.heap.size + 1, 0, none⟩) 1 1, .slice none 0 0, .slice none 0 0, .int .i64 0] 81) := ⟨_, rfl⟩
  rw [← hw2] at hn ⊢
  have hz2 : w2.heap.size = w.heap.size + 1 + 1 + 1 := by rw [hw2]; simp [hz1]
  have hB2 : Below w1.heap.size w1 w2 := by rw [hw2]; exact ((Below.refl _ w1).alloc (Nat.le_refl _) _).alloc (by simp) _
  obtain ⟨w3, hw3⟩ : ∃ w3, w3 = w2.alloc (.cells #[.pointer (some ⟨w.heap.size, 0, none⟩), .pointer (some ⟨w.heap.size + 1 + 1, 0, none⟩)] 76) := ⟨_, rfl⟩
  rw [← hw3]
  have hblk : w3.heap[w.heap.size + 1 + 1 + 1]? = some (.cells #[.pointer (some ⟨w.heap.size, 0, none⟩), .pointer (some ⟨w.heap.size + 1 + 1, 0, none⟩)] 76 (0, 0)) := by
    have := heap_alloc_new w2 (.cells #[.pointer (some ⟨w.heap.size, 0, none⟩), .pointer (some ⟨w.heap.size + 1 + 1, 0, none⟩)] 76)
    rw [hz2] at this
    rw [hw3]
    exact this
  have hB3 : Below w2.heap.size w2 w3 := by rw [hw3]; exact (Below.refl _ w2).alloc (Nat.le_refl _) _
  have hz3 : w3.heap.size = w.heap.size + 1 + 1 + 1 + 1 := by rw [hw3]; simp [hz2]
  refine ⟨rfl, ⟨w.heap.size, w.heap.size + 1 + 1, fun k => k = w.heap.size, _, ⟨_, hblk⟩, by simp [World.cell?, hblk], by simp [World.cell?, hblk], .inl ⟨fresh_zero ?_ rfl, rfl⟩, hn.below hB3, ?_, ?_, ?_, ?_, fun k hk => hX k (by omega)⟩, ?_⟩
  · exact (hB3.block _ (by omega)).trans ((hB2.block _ (by omega)).trans hb1)
  · intro k hk hG
    omega
  · omega
  · omega
  · intro k hk
    have hk' : w.heap.size ≤ k ∧ k < w3.heap.size := by omega
    exact ⟨hX k hk'.1, hk'.2⟩
  · have e1 : Below w.heap.size w w1 := by rw [hw1]; exact (Below.refl _ w).alloc (Nat.le_refl _) _
    exact (e1.trans (hB2.mono (by omega))).trans (hB3.mono (by omega))
end Go.Proofs.YtdmdgnghaceibaaGreat.P
