/- The tree with a node more. -/
import Derived.Test.YtdmdgnghaceibaaGreatPart02
namespace Go.Proofs.YtdmdgnghaceibaaGreat.P
open M Go.ChangeShapes Go.WideShapes Go.ChangeAt Go.RowKit
set_option linter.unusedVariables false

theorem inV_lt {L : Lay} {n nb mb : Nat} {d : Bool} {i : Int} (h : i < (n : Int)) : inV (L.put n nb mb d) i = inV L i := by
  unfold inV
  split
  · rfl
  · rw [Lay.nb_lt (by omega)]

theorem lies_lt' {st : St} {d : Nat} {name : ByteArray} {j : Nat} (h : lies st d name = some j) : j < st.nodes.length := by
  unfold lies at h
  rw [List.findIdx?_eq_some_iff_getElem] at h
  exact h.1

theorem Ty.ne_map {w : World} {b k : Nat} {e : TypeId} (h : Ty w b e) {es : Array MapEntry} {c : Nat} (hk : w.heap[k]? = some (.map es c)) : b ≠ k := by
  intro heq
  subst heq
  obtain ⟨cur, hb⟩ := h
  rw [hb] at hk
  cases hk
theorem Ty.ne_ty {w : World} {b k : Nat} {e e' : TypeId} (h : Ty w b e) (hk : Ty w k e') (hne : e ≠ e') : b ≠ k := by
  intro heq
  subst heq
  obtain ⟨cur, hb⟩ := h
  obtain ⟨cur', hk⟩ := hk
  rw [hb] at hk
  cases hk
  exact hne rfl

theorem liesHere_new (name : ByteArray) (dir : Bool) (d i : Nat) (s : ByteArray) : liesHere i s (newNd name dir d) = decide (i = d ∧ s = name) := by
  unfold liesHere newNd
  simp only [Bool.not_false, Bool.and_true]
  by_cases e : i = d
  · subst e
    simp only [beq_self_eq_true, Bool.true_and, true_and]
    by_cases e2 : s = name
    · simp [e2]
    · have : ¬ name.toList = s.toList := fun h => e2 (bytes_eq (by rw [toList_data, toList_data] at h; exact h.symm))
      simp [this, e2]
  · have : ((d : Int) == (i : Int)) = false := beq_false_of_ne (by omega)
    simp [this, e]

theorem lies_none_of_inn {st : St} (h : ∀ x ∈ st.nodes, x.inn < (st.nodes.length : Int)) (s : ByteArray) : lies st st.nodes.length s = none := by
  unfold lies
  rw [List.findIdx?_eq_none_iff]
  intro x hx
  have := h x hx
  unfold liesHere
  have : (x.inn == (st.nodes.length : Int)) = false := by simpa using (by omega : ¬ x.inn = (st.nodes.length : Int))
  simp [this]

/-- The blocks of a new node. -/
def NewIs (w : World) (F : Nat → Prop) (nb mb : Nat) (name : ByteArray) (dir : Bool) (q : Nat) : Prop :=
  F nb ∧ F mb ∧ if dir then w.heap[nb]? = some (dirObj name (.pointer (some ⟨q, 0, none⟩)) mb) ∧ w.heap[mb]? = some (.map #[] 0) else w.heap[nb]? = some (fileObj name (.pointer (some ⟨q, 0, none⟩)))

theorem TreeIs.grow {w W : World} {F F' : Nat → Prop} {t : Nat} {st : St} {L : Lay} {bv : Nat → Value} (h : TreeIs w F t st L bv) (ok : POk st) {name : ByteArray} {dir : Bool} {d nb mb : Nat} (hd : d < st.nodes.length) (hdir : M.isDir st d = true) (hl : lies st d name = none)
    (hF : ∀ k, F k → F' k) (kept : ∀ b, F b → b ≠ t → b ≠ L.mb d → b < w.heap.size → W.heap[b]? = w.heap[b]?)
    (tT : Ty W t 89) (t0 : W.cell? ⟨t, 0, none⟩ = w.cell? ⟨t, 0, none⟩) (t1 : W.cell? ⟨t, 1, none⟩ = some (.int .i64 ((liveNodes st.nodes : Int) + 1)))
    (hm : MapIs W (L.mb d) (st.nodes.length + 1) (fun s => if s = name then some (nodeV (L.put st.nodes.length nb mb dir) st.nodes.length) else (lies st d s).map (nodeV L)))
    (hnb : w.heap.size ≤ nb) (hmb : w.heap.size ≤ mb) (hnew : NewIs W F' nb mb name dir (L.nb d)) :
    TreeIs W F' t (withNode st (newNd name dir d)) (L.put st.nodes.length nb mb dir) (fun i => if i = st.nodes.length then .slice none 0 0 else bv i) := by
  obtain ⟨xd, hxd⟩ := getElem?_of_lt hd
  have hxdd : xd.dir = true := by simpa [M.isDir, hxd] using hdir
  have Dd := h.dir d xd hxd hxdd
  obtain ⟨esd, cd, hmd⟩ := Dd.map.blk
  have hlen : (withNode st (newNd name dir d)).nodes.length = st.nodes.length + 1 := by simp [withNode]
  have keepBlk : ∀ {b : Nat} {e : TypeId}, Blk w F b e → e ≠ 89 → W.heap[b]? = w.heap[b]? := fun {b e} hb he =>
    kept b hb.own (Ty.ne_ty hb.ty h.blk.ty he) (Ty.ne_map hb.ty hmd) hb.lt
  have keepOwn : ∀ {e : TypeId} {size : Nat} {v : Value} {rows : List (List Value)}, Own w F e size v rows → e ≠ 89 → Own W F e size v rows := fun {e size v rows} ho he =>
    ho.keptBlock (fun k hk => by
      rcases ho.opened with ⟨rfl, _⟩ | ⟨g, cap, rfl, _, _, hg, ⟨cur, hb⟩, _⟩
      · simp [Value.ownBlock] at hk
      · simp [Value.ownBlock] at hk
        subst hk
        exact keepBlk (e := e) ⟨⟨cur, hb⟩, hg⟩ he)
  have kb : ∀ {b : Nat} {e : TypeId}, Blk w F b e → e ≠ 89 → Blk W F' b e := fun {b e} hb he => by
    have e1 := keepBlk hb he
    obtain ⟨⟨cur, hc⟩, hF0⟩ := hb
    exact ⟨⟨cur, e1.trans hc⟩, hF _ hF0⟩
  have old : ∀ {i : Nat} {x : Nd}, (withNode st (newNd name dir d)).nodes[i]? = some x → i ≠ st.nodes.length → st.nodes[i]? = some x ∧ i < st.nodes.length := fun {i x} hx hi => by
    rw [get_withNode, if_neg hi] at hx
    exact ⟨hx, M.lt_of_getElem? hx⟩
  have new : ∀ {x : Nd}, (withNode st (newNd name dir d)).nodes[st.nodes.length]? = some x → x = newNd name dir d := fun {x} hx => by
    rw [get_withNode, if_pos rfl] at hx
    exact (Option.some.inj hx).symm
  have inDir : inV (L.put st.nodes.length nb mb dir) (newNd name dir d).inn = .pointer (some ⟨L.nb d, 0, none⟩) := by
    rw [inV_lt (show (newNd name dir d).inn < (st.nodes.length : Int) by simp [newNd]; omega)]
    unfold inV newNd
    simp only
    rw [if_neg (by omega), Int.toNat_natCast]
  have nbN : (L.put st.nodes.length nb mb dir).nb st.nodes.length = nb := by simp [Lay.put]
  have mbN : (L.put st.nodes.length nb mb dir).mb st.nodes.length = mb := by simp [Lay.put]
  have nbL : ∀ i, i < st.nodes.length → L.nb i < w.heap.size := fun i hi => by
    obtain ⟨x, hx⟩ := getElem?_of_lt hi
    cases hxd : x.dir with
    | true => exact (h.dir i x hx hxd).blk.lt
    | false => exact (h.file i x hx hxd).blk.lt
  refine ⟨⟨tT, hF _ h.blk.own⟩, ?_, ?_, fun i x hx => ?_, fun i x hx hdx => ?_, fun i x hx hdx => ?_, fun i j hi hj hij => ?_, fun i j x y hx hy hdx hdy hij => ?_, fun i j x y k hx hy hdx hdy hne hk => ?_⟩
  · rw [t0, h.c0]
    unfold dirPtr
    rw [Lay.nb_lt ok.pos]
  · rw [t1, live_withNode _ _ rfl]
    simp
  · by_cases e : i = st.nodes.length
    · subst e
      rw [new hx]
      simp [Lay.put, newNd]
    · obtain ⟨hx, hi⟩ := old hx e
      rw [Lay.dirs_lt hi]
      exact h.kind i x hx
  · by_cases e : i = st.nodes.length
    · subst e
      rw [new hx] at hdx ⊢
      have hdt : dir = true := hdx
      obtain ⟨f1, f2, hn⟩ := hnew
      rw [if_pos hdt] at hn
      obtain ⟨hb, hmn⟩ := hn
      refine ⟨⟨⟨_, by rw [nbN]; exact hb⟩, by rw [nbN]; exact f1⟩, ?_, ?_, ?_, ?_, ?_, ?_, ?_⟩
      · rw [nbN]; simp [World.cell?, hb, dirObj, newNd]
      · rw [nbN, inDir]; simp [World.cell?, hb, dirObj]
      · rw [nbN]; simp [World.cell?, hb, dirObj, newNd]
      · rw [nbN, mbN]; simp [World.cell?, hb, dirObj]
      · rw [mbN]; exact f2
      · rw [mbN]
        have h0 : MapIs W mb 0 (fun _ => none) := by
          have := MapIs.made (w := ⟨(Array.replicate mb (.map #[] 0)), W.tape, W.drawn, W.os, W.output⟩)
          have hz : (⟨(Array.replicate mb (.map #[] 0)), W.tape, W.drawn, W.os, W.output⟩ : World).heap.size = mb := by simp
          rw [hz] at this
          refine this.kept ?_
          rw [hmn]
          have := heap_alloc_new (⟨(Array.replicate mb (.map #[] 0)), W.tape, W.drawn, W.os, W.output⟩ : World) (.map #[] 0)
          rw [hz] at this
          exact this.symm
        refine (h0.mono (Nat.zero_le _)).congr (fun s _ => ?_)
        rw [lies_withNode, lies_none_of_inn ok.inn s, liesHere_new]
        simp
        omega
      · refine ⟨.slice none 0 0, by rw [nbN]; simp [World.cell?, hb, dirObj], ?_⟩
        have : (withNode st (newNd name dir d)).laid.find? (fun l => l.onto == st.nodes.length) = none := by
          rw [List.find?_eq_none]
          intro l hl
          have := (ok.laid l hl).2.2
          simp
          omega
        rw [this]
        rfl
    · obtain ⟨hx, hi⟩ := old hx e
      have D := h.dir i x hx hdx
      have hblk := keepBlk D.blk (by decide)
      have c : ∀ j, W.cell? ⟨L.nb i, j, none⟩ = w.cell? ⟨L.nb i, j, none⟩ := fun j => World.cell?_of_block hblk
      obtain ⟨v, c4, hv⟩ := D.bound
      refine ⟨by rw [Lay.nb_lt hi]; exact kb D.blk (by decide), ?_, ?_, ?_, ?_, ?_, ?_, v, ?_, ?_⟩
      · rw [Lay.nb_lt hi, c]; exact D.c0
      · rw [Lay.nb_lt hi, c, inV_lt (ok.inn x (List.mem_of_getElem? hx))]; exact D.c1
      · rw [Lay.nb_lt hi, c]; exact D.c2
      · rw [Lay.nb_lt hi, Lay.mb_lt hi, c]; exact D.c3
      · rw [Lay.mb_lt hi]; exact hF _ D.mapF
      · rw [Lay.mb_lt hi, hlen]
        by_cases ed : i = d
        · subst ed
          refine hm.congr (fun s _ => ?_)
          rw [lies_withNode, liesHere_new]
          by_cases es : s = name
          · subst es
            rw [hl]
            simp
          · simp only [es, and_false, decide_false]
            cases hls : lies st i s with
            | none => simp
            | some j =>
              simp [Lay.nodeV_lt (lies_lt' hls)]
        · obtain ⟨es, cl, hmi⟩ := D.map.blk
          have hk : W.heap[L.mb i]? = w.heap[L.mb i]? := kept _ D.mapF (Ne.symm (Ty.ne_map h.blk.ty hmi)) (fun heq => ed (h.mbInj i d x xd hx hxd hdx hxdd heq)) D.map.lt
          refine ((D.map.kept hk).mono (Nat.le_succ _)).congr (fun s _ => ?_)
          rw [lies_withNode, liesHere_new]
          simp only [ed, false_and, decide_false]
          cases hls : lies st i s with
          | none => simp
          | some j => simp [Lay.nodeV_lt (lies_lt' hls)]
      · rw [Lay.nb_lt hi, c]; exact c4
      · have e1 : (withNode st (newNd name dir d)).laid = st.laid := rfl
        rw [e1]
        cases hlf : st.laid.find? (fun l => l.onto == i) with
        | none => rw [hlf] at hv; exact hv
        | some l =>
          rw [hlf] at hv
          have hlm := List.mem_of_find?_eq_some hlf
          have hp : PRow W F' L v l.row := Own.mono (keepOwn hv.1 (by decide)) hF
          exact ⟨PRow.put hp (fun m hm => ((ok.laid l hlm).1 m hm).1), hv.2⟩
  · by_cases e : i = st.nodes.length
    · subst e
      rw [new hx] at hdx ⊢
      have hdf : dir = false := hdx
      obtain ⟨f1, f2, hn⟩ := hnew
      rw [if_neg (by simp [hdf])] at hn
      refine ⟨⟨⟨_, by rw [nbN]; exact hn⟩, by rw [nbN]; exact f1⟩, ?_, ?_, ?_, ?_, ?_, ?_⟩
      · rw [nbN]; simp [World.cell?, hn, fileObj, newNd]
      · rw [nbN, inDir]; simp [World.cell?, hn, fileObj]
      · rw [nbN]; simp [World.cell?, hn, fileObj, newNd]
      · rw [nbN, if_pos rfl]; simp [World.cell?, hn, fileObj]
      · rw [nbN]; simp [World.cell?, hn, fileObj, newNd]
      · rw [if_pos rfl]
        exact Own.nil _ _ _ _
    · obtain ⟨hx, hi⟩ := old hx e
      have D := h.file i x hx hdx
      have hblk := keepBlk D.blk (by decide)
      have c : ∀ j, W.cell? ⟨L.nb i, j, none⟩ = w.cell? ⟨L.nb i, j, none⟩ := fun j => World.cell?_of_block hblk
      rw [if_neg e]
      refine ⟨by rw [Lay.nb_lt hi]; exact kb D.blk (by decide), ?_, ?_, ?_, ?_, ?_, Own.mono (keepOwn D.data (by decide)) hF⟩
      · rw [Lay.nb_lt hi, c]; exact D.c0
      · rw [Lay.nb_lt hi, c, inV_lt (ok.inn x (List.mem_of_getElem? hx))]; exact D.c1
      · rw [Lay.nb_lt hi, c]; exact D.c2
      · rw [Lay.nb_lt hi, c]; exact D.c3
      · rw [Lay.nb_lt hi, c]; exact D.c4
  · rw [hlen] at hi hj
    by_cases ei : i = st.nodes.length
    · by_cases ej : j = st.nodes.length
      · omega
      · rw [ei, nbN, Lay.nb_lt (by omega)] at hij
        have := nbL j (by omega)
        omega
    · by_cases ej : j = st.nodes.length
      · rw [ej, nbN, Lay.nb_lt (by omega)] at hij
        have := nbL i (by omega)
        omega
      · rw [Lay.nb_lt (by omega), Lay.nb_lt (by omega)] at hij
        exact h.nbInj i j (by omega) (by omega) hij
  · by_cases ei : i = st.nodes.length
    · by_cases ej : j = st.nodes.length
      · omega
      · obtain ⟨hy, hj⟩ := old hy ej
        rw [ei, mbN, Lay.mb_lt hj] at hij
        have := (h.dir j y hy hdy).map.lt
        omega
    · obtain ⟨hx, hi⟩ := old hx ei
      by_cases ej : j = st.nodes.length
      · rw [ej, mbN, Lay.mb_lt hi] at hij
        have := (h.dir i x hx hdx).map.lt
        omega
      · obtain ⟨hy, hj⟩ := old hy ej
        rw [Lay.mb_lt hi, Lay.mb_lt hj] at hij
        exact h.mbInj i j x y hx hy hdx hdy hij
  · by_cases ei : i = st.nodes.length
    · simp [ei, Value.ownBlock] at hk
    · obtain ⟨hx, hi⟩ := old hx ei
      rw [if_neg ei] at hk
      by_cases ej : j = st.nodes.length
      · simp [ej, Value.ownBlock]
      · obtain ⟨hy, hj⟩ := old hy ej
        rw [if_neg ej]
        exact h.bvApart i j x y k hx hy hdx hdy hne hk
end Go.Proofs.YtdmdgnghaceibaaGreat.P
/- The program's step, walk. -/
namespace Go.Proofs.YtdmdgnghaceibaaGreat.P
open M Go.ChangeShapes Go.WideShapes Go.ChangeAt Go.RowKit
set_option linter.unusedVariables false

theorem ifNilD (b : Nat) (w : World) : (binOp .eql 115 (.iface 87 (.pointer (some ⟨b, 0, none⟩))) .nilIface).run Tryz.prog w = .ok (.bool false) w := by kernel_rfl
theorem ifNilF (b : Nat) (w : World) : (binOp .eql 115 (.iface 122 (.pointer (some ⟨b, 0, none⟩))) .nilIface).run Tryz.prog w = .ok (.bool false) w := by kernel_rfl
theorem ifNilN (w : World) : (binOp .eql 115 .nilIface .nilIface).run Tryz.prog w = .ok (.bool true) w := by kernel_rfl

theorem lies_lt {st : St} {d : Nat} {name : ByteArray} {j : Nat} (h : lies st d name = some j) : j < st.nodes.length := by
  unfold lies at h
  rw [List.findIdx?_eq_some_iff_getElem] at h
  exact h.1
theorem seenIn_lt {st : St} {name : ByteArray} : ∀ {row : List Member} {j : Nat}, seenIn st name row = some j → j < st.nodes.length
  | [], j, h => by simp [seenIn] at h
  | m :: r, j, h => by
    unfold seenIn at h
    split at h
    · exact seenIn_lt h
    · split at h
      · rename_i n hn
        cases h
        exact lies_lt hn
      · exact seenIn_lt h

/-- How a step ends. -/
def Stepped (w : World) (F : Nat → Prop) (L : Lay) (x : Int × List Spot) (e : Ending) (w' : World) : Prop :=
  ∃ pv, e = .returned (.tuple #[pv, .int .i64 x.1]) ∧ Below w.heap.size w w' ∧ ((x.1 ≠ 0 ∧ pv = .pointer none) ∨ (x.1 = 0 ∧ ∃ p', pv = .pointer (some ⟨p', 0, none⟩) ∧ PlaceIs w' (ext F w w') L p' x.2.reverse))

theorem ext_refl {F : Nat → Prop} {w : World} : ∀ k, F k → ext F w w k := fun k h => .inl h

set_option maxRecDepth 20000 in
set_option maxHeartbeats 1000000 in
theorem step_any {w : World} {F : Nat → Prop} {t : Nat} {st : St} {L : Lay} {bv : Nat → Value} (p : Nat) (way : List Spot) (name : ByteArray) (h : TreeIs w F t st L bv) (hp : PlaceIs w F L p way.reverse) (hok : ∀ s ∈ way, s.n < st.nodes.length ∧ RowDirs st s.row) (hname : name.size ≤ maxLen) :
    Calls Tryz.prog 86 #[.pointer (some ⟨p, 0, none⟩), .string name] w fun e w' => Stepped w F L (wayStep st way name) e w' := by
  by_cases e1 : name.toList = [46]
  · have H := hide (show wayStep st way name = (0, way) by simp [wayStep, e1])
    have HP := hide hp
    clear hp h hok
    go_enter Tryz.func86, Tryz.ntmps86
    go_wp2
    go_ret2
    rw [H.out]
    exact ⟨_, rfl, Below.refl _ _, .inr ⟨rfl, p, rfl, HP.out.mono ext_refl⟩⟩
  · have f1 : (name.toList == [46]) = false := by simpa using e1
    obtain ⟨sp, hsp, c0, ⟨v, c1, hv⟩, hplt⟩ := place_last hp
    have hmem := List.mem_of_getLast? hsp
    by_cases e2 : name.toList = [46, 46]
    · have H := hide (show wayStep st way name = (0, if 1 < way.length then way.take (way.length - 1) else way) by unfold wayStep; rw [if_neg e1, if_pos e2])
      have HP := hide hp
      cases hw : way.reverse with
      | nil => rw [hw] at hp; exact absurd hp (by simp [PlaceIs])
      | cons s0 r =>
        rw [hw] at hp
        obtain ⟨hb, _, _, q, c2, hr⟩ := hp
        have hway : way = r.reverse ++ [s0] := by have := congrArg List.reverse hw; simpa using this
        have HR := hide (show PlaceIs w F L q (wayStep st way name).2.reverse by
          rw [H.out]
          simp only
          cases r with
          | nil =>
            have hr : q = p := hr
            rw [if_neg (by rw [hway]; simp), hr]
            exact HP.out
          | cons x r =>
            rw [if_pos (by rw [hway]; simp)]
            have : way.take (way.length - 1) = (x :: r).reverse := by
              rw [hway, List.length_append, List.length_singleton, Nat.add_sub_cancel]
              exact List.take_left
            rw [this, List.reverse_reverse]
            exact hr)
        have H0 := hide (show (wayStep st way name).1 = 0 by rw [H.out])
        clear hb hr h hok hv c0 c1 hsp hmem hw hway
        go_enter Tryz.func86, Tryz.ntmps86
        go_wp2
        go_ret2
        refine ⟨_, ?_, Below.refl _ _, .inr ⟨H0.out, q, rfl, HR.out.mono ext_refl⟩⟩
        rw [H0.out]
        rfl
    · have f2 : (name.toList == [46, 46]) = false := by simpa using e2
      obtain ⟨hin, hrd⟩ := hok sp hmem
      have e0 : wayStep st way name = (if isGone st sp.n then (4, way) else if M.isDir st sp.n then (match seenIn st name sp.row with | none => (7, way) | some c => (0, way ++ [M.come st c])) else (5, way) : Int × List Spot) := by
        unfold wayStep
        rw [if_neg e1, if_neg e2, hsp]
        rfl
      have HT := hide h
      have HP := hide hp
      have HV := hide hv
      clear hp h hok hv
      cases hg : isGone st sp.n with
      | true =>
        have H := hide (e0.trans (by rw [if_pos hg]))
        have hE : notDirE st sp.n = 4 := by simp [notDirE, hg]
        clear e0 hg
        go_enter Tryz.func86, Tryz.ntmps86
        go_wp2_with (go_at_call 54; refine (checkDirectory_any p sp.n HT.out hin c0).mono ?_; rintro e w' ⟨rfl, hw⟩; obtain rfl := hw.symm; rw [hE])
        go_ret2
        rw [H.out]
        exact ⟨_, rfl, Below.refl _ _, .inl ⟨by simp, rfl⟩⟩
      | false =>
        cases hd : isDir st sp.n with
        | false =>
          have H := hide (e0.trans (by rw [if_neg (by simp [hg]), if_neg (by simp [hd])]))
          have hE : notDirE st sp.n = 5 := by simp [notDirE, hg, hd]
          clear e0 hg hd
          go_enter Tryz.func86, Tryz.ntmps86
          go_wp2_with (go_at_call 54; refine (checkDirectory_any p sp.n HT.out hin c0).mono ?_; rintro e w' ⟨rfl, hw⟩; obtain rfl := hw.symm; rw [hE])
          go_ret2
          rw [H.out]
          exact ⟨_, rfl, Below.refl _ _, .inl ⟨by simp, rfl⟩⟩
        | true =>
          have hE : notDirE st sp.n = 0 := by simp [notDirE, hg, hd]
          have H1 := hide (e0.trans (by rw [if_neg (by simp [hg]), if_pos hd]))
          clear e0 hg hd
          obtain ⟨ao, vc, hvv⟩ := HV.out.form
          rw [List.length_map] at hvv
          subst hvv
          cases hs : seenIn st name sp.row with
          | none =>
            have H := hide (H1.out.trans (by rw [hs]))
            have q := ifNilN
            clear H1
            go_enter Tryz.func86, Tryz.ntmps86
            go_wp2_with (first | (go_at_call 54; refine (checkDirectory_any p sp.n HT.out hin c0).mono ?_; rintro e w' ⟨rfl, hw⟩; obtain rfl := hw.symm; rw [hE]) | (go_at_call 88; refine (find_any sp.row name _ HT.out HV.out hrd hname).mono ?_; rintro e w2 ⟨rfl, hb⟩; rw [hs]; unfold foundV; have HB := hide hb; clear hb))
            go_ret2
            rw [H.out]
            exact ⟨_, rfl, HB.out, .inl ⟨by simp, rfl⟩⟩
          | some j =>
            have H := hide (H1.out.trans (by rw [hs]))
            have hj := seenIn_lt hs
            have q1 := ifNilD
            have q2 := ifNilF
            clear H1
            have HC := hide (show ∀ (W : World), Below w.heap.size w W → Calls Tryz.prog 46 #[nodeV L j, .pointer (some ⟨p, 0, none⟩)] W (fun e w' => Came W F L (come st j) (some p) e w') from
              fun W hW => come_any (HT.out.kept (KeepX.below hW)) j hj (some p))
            rcases nodeV_cases L j with e | e
            all_goals
              rw [e] at HC
              go_enter Tryz.func86, Tryz.ntmps86
              go_wp2_with (first | (go_at_call 54; refine (checkDirectory_any p sp.n HT.out hin c0).mono ?_; rintro e w' ⟨rfl, hw⟩; obtain rfl := hw.symm; rw [hE]) | (go_at_call 88; refine (find_any sp.row name _ HT.out HV.out hrd hname).mono ?_; rintro e' w2 ⟨rfl, hb⟩; rw [hs]; unfold foundV; simp only [e]; have HB := hide hb; clear hb) | (go_at_call 46; refine (HC.out _ HB.out).mono ?_; rintro e' w3 hc; have HCm := hide hc; obtain ⟨v', rfl, hc⟩ := hc; clear hc))
              go_ret2
              rw [H.out]
              have hCm := HCm.out
              have hpl := hCm.place (r := way.reverse) (HP.out.kept (KeepX.below (T := fun _ => True) (M := True) HB.out) trivial trivial)
              obtain ⟨v', _, hb3, _⟩ := hCm
              refine ⟨_, rfl, HB.out.trans (hb3.mono HB.out.size), .inr ⟨rfl, _, rfl, ?_⟩⟩
              rw [List.reverse_append]
              exact PlaceIs.mono (ext_le HB.out.size (Nat.le_refl _)) hpl
end Go.Proofs.YtdmdgnghaceibaaGreat.P
/- The program's tree.create. -/
namespace Go.Proofs.YtdmdgnghaceibaaGreat.P
open M Go.ChangeShapes Go.WideShapes Go.ChangeAt Go.RowKit
set_option linter.unusedVariables false

theorem ifNotD (b : Nat) (w : World) : (binOp .neq 115 (.iface 87 (.pointer (some ⟨b, 0, none⟩))) .nilIface).run Tryz.prog w = .ok (.bool true) w := by kernel_rfl
theorem ifNotF (b : Nat) (w : World) : (binOp .neq 115 (.iface 122 (.pointer (some ⟨b, 0, none⟩))) .nilIface).run Tryz.prog w = .ok (.bool true) w := by kernel_rfl
theorem ifNotN (w : World) : (binOp .neq 115 .nilIface .nilIface).run Tryz.prog w = .ok (.bool false) w := by kernel_rfl

/-- What keeps an entry from being made at a spot. -/
def createE (st : St) (sp : Spot) (name : ByteArray) : Int :=
  if isGone st sp.n then 4 else if isDir st sp.n then
    (if isName name then (match seenIn st name sp.row with
      | some _ => 8
      | none => match makerOf st sp.row with
        | none => 9
        | some _ => if 100 ≤ liveNodes st.nodes then 11 else 0) else 6) else 5

section
variable {w : World} {F : Nat → Prop} {t : Nat} {st : St} {L : Lay} {bv : Nat → Value}

set_option maxRecDepth 20000 in
set_option maxHeartbeats 1000000 in
theorem create_err (p : Nat) (way : List Spot) (sp : Spot) (hsp : way.getLast? = some sp) (name : ByteArray) (dir : Bool) (h : TreeIs w F t st L bv) (hp : PlaceIs w F L p way.reverse) (hok : sp.n < st.nodes.length ∧ RowDirs st sp.row) (hname : name.size ≤ maxLen) (hlive : liveNodes st.nodes ≤ 1000000000) (he : createE st sp name ≠ 0) :
    Calls Tryz.prog 49 #[.pointer (some ⟨t, 0, none⟩), .pointer (some ⟨p, 0, none⟩), .string name, .bool dir] w fun e w' => e = .returned (.tuple #[.pointer none, .int .i64 (createE st sp name)]) ∧ Below w.heap.size w w' := by
  have hnot : ∀ (x : Bool) (w : World), (Op.unary .not (.bool x)).run Tryz.prog w = .ok (.bool (!x)) w := fun _ _ => rfl
  obtain ⟨sp', hsp', c0, ⟨v, c1, hv⟩, hplt⟩ := place_last hp
  rw [hsp] at hsp'
  cases hsp'
  obtain ⟨ao, vc, hvv⟩ := hv.form
  rw [List.length_map] at hvv
  subst hvv
  obtain ⟨hin, hrd⟩ := hok
  have HT := hide h
  have HV := hide hv
  have HE := hide he
  have htlt := h.blk.lt
  clear hv h hp he hsp
  cases hg : isGone st sp.n with
  | true =>
    have H := hide (show createE st sp name = 4 by simp [createE, hg])
    have hE : notDirE st sp.n = 4 := by simp [notDirE, hg]
    clear hg
    go_enter Tryz.func49, Tryz.ntmps49
    go_wp2_with (go_at_call 54; refine (checkDirectory_any p sp.n HT.out hin c0).mono ?_; rintro e w' ⟨rfl, hw⟩; obtain rfl := hw.symm; rw [hE])
    go_ret2
    exact ⟨by rw [H.out]; rfl, Below.refl _ _⟩
  | false =>
    cases hd : isDir st sp.n with
    | false =>
      have H := hide (show createE st sp name = 5 by simp [createE, hg, hd])
      have hE : notDirE st sp.n = 5 := by simp [notDirE, hg, hd]
      clear hg hd
      go_enter Tryz.func49, Tryz.ntmps49
      go_wp2_with (go_at_call 54; refine (checkDirectory_any p sp.n HT.out hin c0).mono ?_; rintro e w' ⟨rfl, hw⟩; obtain rfl := hw.symm; rw [hE])
      go_ret2
      exact ⟨by rw [H.out]; rfl, Below.refl _ _⟩
    | true =>
      have hE : notDirE st sp.n = 0 := by simp [notDirE, hg, hd]
      cases hnm : isName name with
      | false =>
        have H := hide (show createE st sp name = 6 by simp [createE, hg, hd, hnm])
        clear hg hd
        go_enter Tryz.func49, Tryz.ntmps49
        go_wp2_with (first | (go_at_call 54; refine (checkDirectory_any p sp.n HT.out hin c0).mono ?_; rintro e w' ⟨rfl, hw⟩; obtain rfl := hw.symm; rw [hE]) | (go_at_call 87; refine (isName_any name _ hname).mono ?_; rintro e w' ⟨rfl, hw⟩; obtain rfl := hw.symm; rw [hnm]))
        go_ret2
        exact ⟨by rw [H.out]; rfl, Below.refl _ _⟩
      | true =>
        cases hs : seenIn st name sp.row with
        | some j =>
          have H := hide (show createE st sp name = 8 by simp [createE, hg, hd, hnm, hs])
          have q1 := ifNotD
          have q2 := ifNotF
          clear hg hd
          rcases nodeV_cases L j with e | e
          all_goals
            go_enter Tryz.func49, Tryz.ntmps49
            go_wp2_with (first | (go_at_call 54; refine (checkDirectory_any p sp.n HT.out hin c0).mono ?_; rintro e w' ⟨rfl, hw⟩; obtain rfl := hw.symm; rw [hE]) | (go_at_call 87; refine (isName_any name _ hname).mono ?_; rintro e w' ⟨rfl, hw⟩; obtain rfl := hw.symm; rw [hnm]) | (go_at_call 88; refine (find_any sp.row name _ HT.out HV.out hrd hname).mono ?_; rintro e' w2 ⟨rfl, hb⟩; rw [hs]; unfold foundV; simp only [e]; have HB := hide hb; clear hb))
            go_ret2
            exact ⟨by rw [H.out]; rfl, HB.out⟩
        | none =>
          have q3 := ifNotN
          cases hmk : makerOf st sp.row with
          | none =>
            have H := hide (show createE st sp name = 9 by simp [createE, hg, hd, hnm, hs, hmk])
            clear hg hd
            go_enter Tryz.func49, Tryz.ntmps49
            go_wp2_with (first | (go_at_call 54; refine (checkDirectory_any p sp.n HT.out hin c0).mono ?_; rintro e w' ⟨rfl, hw⟩; obtain rfl := hw.symm; rw [hE]) | (go_at_call 87; refine (isName_any name _ hname).mono ?_; rintro e w' ⟨rfl, hw⟩; obtain rfl := hw.symm; rw [hnm]) | (go_at_call 88; refine (find_any sp.row name _ HT.out HV.out hrd hname).mono ?_; rintro e' w2 ⟨rfl, hb⟩; rw [hs]; unfold foundV; have c1' := (hb.cell (p := ⟨p, 1, none⟩) hplt).trans c1; have HB := hide hb; clear hb) | (go_at_call 89; refine (maker_any sp.row _ (HT.out.kept (KeepX.below HB.out)) (HV.out.kept (KeepX.below (T := fun _ => True) (M := True) HB.out) trivial) hrd).mono ?_; rintro e' w3 ⟨rfl, hb3⟩; rw [hmk]; unfold makerV; have HB3 := hide hb3; clear hb3))
            go_ret2
            exact ⟨by rw [H.out]; rfl, HB.out.trans (HB3.out.mono HB.out.size)⟩
          | some m =>
            have h100 : 100 ≤ liveNodes st.nodes := by
              cases Nat.lt_or_ge (liveNodes st.nodes) 100 with
              | inr h => exact h
              | inl h => exact absurd (by simp [createE, hg, hd, hnm, hs, hmk]; omega) HE.out
            have H := hide (show createE st sp name = 11 by simp [createE, hg, hd, hnm, hs, hmk, h100])
            have h100' : (100 : Int) ≤ (liveNodes st.nodes : Int) := by omega
            have t1 := HT.out.c1
            clear hg hd h100
            go_enter Tryz.func49, Tryz.ntmps49
            go_wp2_with (first | (go_at_call 54; refine (checkDirectory_any p sp.n HT.out hin c0).mono ?_; rintro e w' ⟨rfl, hw⟩; obtain rfl := hw.symm; rw [hE]) | (go_at_call 87; refine (isName_any name _ hname).mono ?_; rintro e w' ⟨rfl, hw⟩; obtain rfl := hw.symm; rw [hnm]) | (go_at_call 88; refine (find_any sp.row name _ HT.out HV.out hrd hname).mono ?_; rintro e' w2 ⟨rfl, hb⟩; rw [hs]; unfold foundV; have c1' := (hb.cell (p := ⟨p, 1, none⟩) hplt).trans c1; have HB := hide hb; clear hb) | (go_at_call 89; refine (maker_any sp.row _ (HT.out.kept (KeepX.below HB.out)) (HV.out.kept (KeepX.below (T := fun _ => True) (M := True) HB.out) trivial) hrd).mono ?_; rintro e' w3 ⟨rfl, hb3⟩; rw [hmk]; unfold makerV dirPtr; have t1' : w3.cell? ⟨t, 1, none⟩ = some (.int .i64 (liveNodes st.nodes)) := ((HB.out.trans (hb3.mono HB.out.size)).cell (p := ⟨t, 1, none⟩) htlt).trans t1; have HB3 := hide hb3; clear hb3))
            go_ret2
            exact ⟨by rw [H.out]; rfl, HB.out.trans (HB3.out.mono HB.out.size)⟩
end
end Go.Proofs.YtdmdgnghaceibaaGreat.P
/- The program's tree.create, where an entry is made. -/
namespace Go.Proofs.YtdmdgnghaceibaaGreat.P
open M Go.ChangeShapes Go.WideShapes Go.ChangeAt Go.RowKit
set_option linter.unusedVariables false

theorem createE_zero {st : St} {sp : Spot} {name : ByteArray} (h : createE st sp name = 0) : isGone st sp.n = false ∧ isDir st sp.n = true ∧ isName name = true ∧ seenIn st name sp.row = none ∧ (∃ m, makerOf st sp.row = some m) ∧ liveNodes st.nodes < 100 := by
  unfold createE at h
  split at h
  · exact absurd h (by decide)
  · rename_i hg
    split at h
    · rename_i hd
      split at h
      · rename_i hn
        split at h
        · exact absurd h (by decide)
        · rename_i hs
          split at h
          · exact absurd h (by decide)
          · rename_i m hm
            split at h
            · exact absurd h (by decide)
            · rename_i hl
              exact ⟨by simpa using hg, hd, hn, hs, ⟨m, hm⟩, by omega⟩
      · exact absurd h (by decide)
    · exact absurd h (by decide)

theorem makerOf_mem {st : St} : ∀ {row : List Member} {m : Member}, makerOf st row = some m → m ∈ row ∧ isGone st m.d = false
  | [], m, h => by simp [makerOf] at h
  | a :: r, m, h => by
    unfold makerOf at h
    split at h
    · obtain ⟨h1, h2⟩ := makerOf_mem h
      exact ⟨by simp [h1], h2⟩
    · rename_i hg
      split at h
      · cases h
        exact ⟨by simp, by simpa using hg⟩
      · obtain ⟨h1, h2⟩ := makerOf_mem h
        exact ⟨by simp [h1], h2⟩

theorem seenIn_none {st : St} {name : ByteArray} : ∀ {row : List Member}, seenIn st name row = none → ∀ m ∈ row, isGone st m.d = false → lies st m.d name = none
  | [], _, m, hm, _ => by simp at hm
  | a :: r, h, m, hm, hg => by
    unfold seenIn at h
    split at h
    · rename_i ha
      rcases List.mem_cons.1 hm with rfl | hm
      · rw [hg] at ha; exact absurd ha (by simp)
      · exact seenIn_none h m hm hg
    · split at h
      · exact absurd h (by simp)
      · rename_i hl
        rcases List.mem_cons.1 hm with rfl | hm
        · exact hl
        · exact seenIn_none h m hm hg

/-- The numbers of a way's spots and rows are nodes'. -/
def WayLt (st : St) (way : List Spot) : Prop := ∀ s ∈ way, s.n < st.nodes.length ∧ ∀ m ∈ s.row, m.d < st.nodes.length

/-- How 'create' ends where it makes an entry: the tree has a node more, all that is no tree's block is as it was, the place of the new node. -/
def Created (w : World) (F : Nat → Prop) (t : Nat) (st : St) (L : Lay) (way : List Spot) (name : ByteArray) (dir : Bool) (d : Nat) (e : Ending) (w' : World) : Prop :=
  ∃ nb mb p' bv', e = .returned (.tuple #[.pointer (some ⟨p', 0, none⟩), .int .i64 0]) ∧ TreeIs w' (ext F w w') t (withNode st (newNd name dir d)) (L.put st.nodes.length nb mb dir) bv' ∧ KeepX (fun e => e ≠ 89) False F w w' ∧ Ext F w w' ∧
    PlaceIs w' (ext F w w') (L.put st.nodes.length nb mb dir) p' (come (withNode st (newNd name dir d)) st.nodes.length :: way.reverse)

theorem turned_keep {T : TypeId → Prop} {F : Nat → Prop} {w w1 w2 : World} {mb : Nat} (h : KeepX T False F w w1) (ht : w1.mapTurned w2 mb) : KeepX T False F w w2 :=
  ⟨fun b cur e hF hb hT => by
    have e1 := h.cells b cur e hF hb hT
    obtain ⟨es, c, es', c', hm, rfl⟩ := ht
    by_cases heq : b = mb
    · subst heq
      rw [e1, hb] at hm
      cases hm
    · exact (Go.ChangeMaps.heap_setBlock_other hm _ heq).trans e1, fun h => h.elim⟩

theorem turned_ext {F : Nat → Prop} {w w1 w2 : World} {mb : Nat} (h : Ext F w w1) (ht : w1.mapTurned w2 mb) (hmb : F mb) : Ext F w w2 := by
  obtain ⟨es, c, es', c', hm, rfl⟩ := ht
  exact ⟨h.os, h.tape, h.output, by simpa [Go.ChangeMaps.setBlock] using h.size, fun k hk hF => (Go.ChangeMaps.heap_setBlock_other hm _ (fun e => hF (by rw [e]; exact hmb))).trans (h.block k hk hF)⟩

theorem turned_ty {w w2 : World} {mb b : Nat} {e : TypeId} (h : Ty w b e) (ht : w.mapTurned w2 mb) : Ty w2 b e := by
  obtain ⟨es, c, es', c', hm, rfl⟩ := ht
  have hne := Ty.ne_map h hm
  obtain ⟨cur, hb⟩ := h
  exact ⟨cur, (Go.ChangeMaps.heap_setBlock_other hm _ hne).trans hb⟩

theorem turned_heap {w w2 : World} {mb b : Nat} (ht : w.mapTurned w2 mb) (hb : b ≠ mb) : w2.heap[b]? = w.heap[b]? := by
  obtain ⟨es, c, es', c', hm, rfl⟩ := ht
  exact Go.ChangeMaps.heap_setBlock_other hm _ hb

theorem turned_size {w w2 : World} {mb : Nat} (ht : w.mapTurned w2 mb) : w2.heap.size = w.heap.size := by
  obtain ⟨es, c, es', c', hm, rfl⟩ := ht
  simp [Go.ChangeMaps.setBlock]

theorem KeepX.below' {T : TypeId → Prop} {F : Nat → Prop} {w w1 w2 : World} (hs : w.heap.size ≤ w1.heap.size) (hb : Below w1.heap.size w1 w2) : KeepX T False F w1 w2 := KeepX.below hb

section
variable {w : World} {F : Nat → Prop} {t : Nat} {st : St} {L : Lay} {bv : Nat → Value}

/-- All that 'create' did ahead of the new place: the tree is the tree with a node more. -/
theorem grown_close {w2 w3 w4' : World} {way : List Spot} {p nb mb : Nat} {name : ByteArray} {dir : Bool} {m : Member} (h : TreeIs w F t st L bv) (ok : POk st) (hd : m.d < st.nodes.length) (hdir : M.isDir st m.d = true) (hl : lies st m.d name = none) (hp : PlaceIs w F L p way.reverse) (hway : WayLt st way)
    (hb : Below w.heap.size w w2) (h23 : Below w2.heap.size w2 w3) (hnb : w.heap.size ≤ nb) (hmb : w.heap.size ≤ mb) (hnbl : nb < w3.heap.size) (hmbl : mb < w3.heap.size) (hnew : NewIs w3 (fun _ => True) nb mb name dir (L.nb m.d))
    (hm4 : MapIs w4' (L.mb m.d) (st.nodes.length + 1) (fun s => if s = name then some (nodeV (L.put st.nodes.length nb mb dir) st.nodes.length) else (lies st m.d s).map (nodeV L))) (ht4 : w3.drew.mapTurned w4' (L.mb m.d)) :
    let w4 := w4'.setCell ⟨t, 1, none⟩ (.int .i64 ((liveNodes st.nodes : Int) + 1))
    TreeIs w4 (ext F w w4) t (withNode st (newNd name dir m.d)) (L.put st.nodes.length nb mb dir) (fun i => if i = st.nodes.length then .slice none 0 0 else bv i) ∧
      KeepX (fun e => e ≠ 89) False F w w4 ∧ Ext F w w4 ∧ PlaceIs w4 (ext F w w4) (L.put st.nodes.length nb mb dir) p way.reverse := by
  intro w4
  obtain ⟨x, hx, D, _, _⟩ := h.member hd hdir
  have hB : Below w.heap.size w w3 := hb.trans (h23.mono hb.size)
  have hBd : Below w.heap.size w w3.drew := hB.drew
  have k3 : KeepX (fun e => e ≠ 89) False F w w3.drew := KeepX.below hBd
  have k4' := turned_keep k3 ht4
  have x3 : Ext F w w3.drew := Ext.below hBd
  have x4' := turned_ext x3 ht4 D.mapF
  have tT3 : Ty w3.drew t 89 := h.blk.ty.below hBd h.blk.lt
  have tT4 := turned_ty tT3 ht4
  have k4 : KeepX (fun e => e ≠ 89) False F w w4 := k4'.setTy (a := ⟨t, 1, none⟩) tT4 (by simp) _
  have x4 : Ext F w w4 := x4'.setCell (a := ⟨t, 1, none⟩) (.inl h.blk.own) _
  have z4' : w4'.heap.size = w3.heap.size := (turned_size ht4 : w4'.heap.size = w3.drew.heap.size)
  have z4 : w4.heap.size = w3.heap.size := by simp [w4, z4']
  have cellt : ∀ j, w4'.cell? ⟨t, j, none⟩ = w.cell? ⟨t, j, none⟩ := fun j => (turned_cell ht4 _).trans (hBd.cell (p := ⟨t, j, none⟩) h.blk.lt)
  have hnbm : nb ≠ L.mb m.d := by have := D.map.lt; omega
  have hmbm : mb ≠ L.mb m.d := by have := D.map.lt; omega
  have htl := h.blk.lt
  have new4 : ∀ b, w.heap.size ≤ b → b ≠ L.mb m.d → w4.heap[b]? = w3.heap[b]? := fun b hb hne => by
    refine (Below.heap_setCell w4' ⟨t, 1, none⟩ _ b (by show b ≠ t; omega)).trans ?_
    exact (turned_heap ht4 hne : w4'.heap[b]? = w3.drew.heap[b]?)
  refine ⟨?_, k4, x4, ?_⟩
  · refine h.grow ok hd hdir hl (fun k hk => .inl hk) (fun b hF hbt hbm hbl => ?_) (tT4.setCell _ _) ?_ ?_ ?_ hnb hmb ?_
    · refine (Below.heap_setCell w4' ⟨t, 1, none⟩ _ b hbt).trans ?_
      exact (turned_heap ht4 hbm).trans (hBd.block b hbl)
    · exact (cell_other _ _ _ _ _ (by decide)).trans (cellt 0)
    · exact cell_same _ _ _ _ _ ((cellt 1).trans h.c1)
    · refine hm4.kept ?_
      refine Below.heap_setCell w4' ⟨t, 1, none⟩ _ _ ?_
      obtain ⟨es, cl, hmm⟩ := D.map.blk
      exact Ne.symm (Ty.ne_map h.blk.ty hmm)
    · obtain ⟨_, _, hn⟩ := hnew
      refine ⟨.inr ⟨hnb, by omega⟩, .inr ⟨hmb, by omega⟩, ?_⟩
      split
      · rename_i hdr
        rw [if_pos hdr] at hn
        exact ⟨(new4 nb hnb hnbm).trans hn.1, (new4 mb hmb hmbm).trans hn.2⟩
      · rename_i hdr
        rw [if_neg hdr] at hn
        exact (new4 nb hnb hnbm).trans hn
  · refine PlaceIs.put ?_ (fun s hs => hway s (by simpa using hs))
    exact PlaceIs.mono (fun k hk => .inl hk) (hp.kept k4 (by decide) (by decide))

set_option maxRecDepth 20000 in
set_option maxHeartbeats 2000000 in
theorem create_ok (p : Nat) (way : List Spot) (sp : Spot) (hsp : way.getLast? = some sp) (name : ByteArray) (dir : Bool) (m : Member) (h : TreeIs w F t st L bv) (ok : POk st) (hp : PlaceIs w F L p way.reverse) (hok : sp.n < st.nodes.length ∧ RowDirs st sp.row) (hway : WayLt st way) (hname : name.size ≤ maxLen) (hnod : st.nodes.length < maxLen) (he : createE st sp name = 0) (hmk : makerOf st sp.row = some m) :
    Calls Tryz.prog 49 #[.pointer (some ⟨t, 0, none⟩), .pointer (some ⟨p, 0, none⟩), .string name, .bool dir] w fun e w' => Created w F t st L way name dir m.d e w' := by
  have hnot : ∀ (x : Bool) (w : World), (Op.unary .not (.bool x)).run Tryz.prog w = .ok (.bool (!x)) w := fun _ _ => rfl
  obtain ⟨hg, hd, hnm, hs, _, hlive⟩ := createE_zero he
  obtain ⟨sp', hsp', c0, ⟨v, c1, hv⟩, hplt⟩ := place_last hp
  rw [hsp] at hsp'
  cases hsp'
  obtain ⟨ao, vc, hvv⟩ := hv.form
  rw [List.length_map] at hvv
  subst hvv
  obtain ⟨hin, hrd⟩ := hok
  obtain ⟨hmem, hmg⟩ := makerOf_mem hmk
  obtain ⟨hmd, hmdir⟩ := hrd m hmem
  have hlies := seenIn_none hs m hmem hmg
  have hE : notDirE st sp.n = 0 := by simp [notDirE, hg, hd]
  obtain ⟨xd, hxd, D, _, hdlt⟩ := h.member hmd hmdir
  have t1 := h.c1
  have htlt := h.blk.lt
  have tfz := h.blk.fz 1
  have d3 := D.c3
  have hlim : name.size ≤ 281474976710656 := by
    have : ¬ badText name = true := by
      intro hb
      simp [isName, hb] at hnm
    simp only [badText, decide_eq_true_eq, not_or] at this
    omega
  have h100 : ¬ (100 : Int) ≤ (liveNodes st.nodes : Int) := by omega
  have h100' : decide ((100 : Int) ≤ (liveNodes st.nodes : Int)) = false := by simpa using h100
  have q3 := ifNotN
  have HT := hide h
  have HV := hide hv
  have HP := hide hp
  have HD := hide D
  have Hok := hide ok
  have Hl := hide hlies
  have Hw := hide hway
  have Hmk := hide hmk
  have Hs := hide hs
  clear hv h hp he hsp hg hd D ok hlies hway hxd hmem hmg
  go_enter Tryz.func49, Tryz.ntmps49
  go_wp2_with (first | (go_at_call 54; refine (checkDirectory_any p sp.n HT.out hin c0).mono ?_; rintro e w' ⟨rfl, hw⟩; obtain rfl := hw.symm; rw [hE]) | (go_at_call 87; refine (isName_any name _ hname).mono ?_; rintro e w' ⟨rfl, hw⟩; obtain rfl := hw.symm; rw [hnm]) | (go_at_call 88; refine (find_any sp.row name _ HT.out HV.out hrd hname).mono ?_; rintro e' w2 ⟨rfl, hb⟩; rw [Hs.out]; unfold foundV; have c1' := (hb.cell (p := ⟨p, 1, none⟩) hplt).trans c1; have HB := hide hb; clear hb) | (go_at_call 89; refine (maker_any sp.row _ (HT.out.kept (KeepX.below HB.out)) (HV.out.kept (KeepX.below (T := fun _ => True) (M := True) HB.out) trivial) hrd).mono ?_; rintro e' w3 ⟨rfl, hb3⟩; rw [Hmk.out]; unfold makerV dirPtr; have t1' : w3.cell? ⟨t, 1, none⟩ = some (.int .i64 (liveNodes st.nodes)) := ((HB.out.trans (hb3.mono HB.out.size)).cell (p := ⟨t, 1, none⟩) htlt).trans t1; have HB3 := hide (HB.out.trans (hb3.mono HB.out.size)); clear hb3))
  cases dir with
  | true =>
    refine (newNode_dir name (L.nb m.d) w3 hlim).mono ?_
    rintro e w' ⟨w5, hb5, rfl, hw'⟩
    unfold dirI
    obtain ⟨W, hW⟩ : ∃ W, W = (w5.alloc (.map #[] 0)).alloc (dirObj name (.pointer (some ⟨L.nb m.d, 0, none⟩)) w5.heap.size) := ⟨_, rfl⟩
    rw [← hW] at hw'
    obtain rfl := hw'.symm
    have hb3W : Below w3.heap.size w3 W := by rw [hW]; exact (hb5.alloc hb5.size _).alloc (by have := hb5.size; simp; omega) _
    have hbW : Below w.heap.size w W := HB3.out.trans (hb3W.mono HB3.out.size)
    have hblk : W.heap[w5.heap.size + 1]? = some (dirObj name (.pointer (some ⟨L.nb m.d, 0, none⟩)) w5.heap.size) := by
      have := heap_alloc_new (w5.alloc (.map #[] 0)) (dirObj name (.pointer (some ⟨L.nb m.d, 0, none⟩)) w5.heap.size)
      rw [show (w5.alloc (.map #[] 0)).heap.size = w5.heap.size + 1 by simp] at this
      rw [hW]
      exact this
    have hmblk : W.heap[w5.heap.size]? = some (.map #[] 0) := by
      rw [hW]
      exact (Below.heap_alloc _ _ _ (by simp)).trans (heap_alloc_new w5 _)
    have hWz : W.heap.size = w5.heap.size + 2 := by rw [hW]; simp
    have z3 := HB3.out.size
    have z5 := hb5.size
    have b0 : W.cell? ⟨(w5.heap.size + 1), 0, none⟩ = some (.string name) := by simp [World.cell?, hblk, dirObj]
    have b1 : W.cell? ⟨(w5.heap.size + 1), 1, none⟩ = some (.pointer (some ⟨L.nb m.d, 0, none⟩)) := by simp [World.cell?, hblk, dirObj]
    have d3W : W.cell? ⟨L.nb m.d, 3, none⟩ = some (.map (some (L.mb m.d))) := (hbW.cell (p := ⟨L.nb m.d, 3, none⟩) hdlt).trans d3
    have t1W : W.cell? ⟨t, 1, none⟩ = some (.int .i64 (liveNodes st.nodes)) := (hbW.cell (p := ⟨t, 1, none⟩) htlt).trans t1
    have tzW : W.frozen? ⟨t, 1, none⟩ = false := (hbW.frozen (p := ⟨t, 1, none⟩) htlt).trans tfz
    have hmW : MapIs W (L.mb m.d) st.nodes.length (fun s => (lies st m.d s).map (nodeV L)) := HD.out.map.kept (hbW.block _ HD.out.map.lt)
    have HAdd := hide (add_dir (b := (w5.heap.size + 1)) hname hnod (show 0 ≤ (liveNodes st.nodes : Int) ∧ (liveNodes st.nodes : Int) < 1000 by omega) b0 b1 d3W t1W tzW hmW)
    have HC := hide (show ∀ w4', MapIs w4' (L.mb m.d) (st.nodes.length + 1) (fun s => if s = name then some (.iface 87 (.pointer (some ⟨(w5.heap.size + 1), 0, none⟩))) else (lies st m.d s).map (nodeV L)) → W.drew.mapTurned w4' (L.mb m.d) → _ from fun w4' hm4 ht4 =>
      grown_close (nb := (w5.heap.size + 1)) (mb := w5.heap.size) (dir := true) HT.out Hok.out hmd hmdir Hl.out HP.out Hw.out HB3.out hb3W (by omega) (by omega) (by omega) (by omega) ⟨trivial, trivial, by rw [if_pos rfl]; exact ⟨hblk, hmblk⟩⟩ (by
        have e : nodeV (L.put st.nodes.length (w5.heap.size + 1) w5.heap.size true) st.nodes.length = .iface 87 (.pointer (some ⟨(w5.heap.size + 1), 0, none⟩)) := by simp [nodeV, Lay.put, nodeT]
        rw [e]
        exact hm4) ht4)
    clear b0 b1 d3W t1W tzW hmW hbW hb3W hblk hW
    go_wp2_with fail
    refine HAdd.out.mono ?_
    rintro e w4 ⟨w4', rfl, hm4, ht4, hw4⟩
    have hcl := HC.out w4' hm4 ht4
    rw [← hw4] at hcl
    have Hcl := hide hcl
    have HCome := hide (show Calls Tryz.prog 46 #[.iface 87 (.pointer (some ⟨(w5.heap.size + 1), 0, none⟩)), .pointer (some ⟨p, 0, none⟩)] w4 (fun e w' => Came w4 (ext F w w4) (L.put st.nodes.length (w5.heap.size + 1) w5.heap.size true) (come (withNode st (newNd name true m.d)) st.nodes.length) (some p) e w') from by
      have := come_any Hcl.out.1 st.nodes.length (by simp [withNode]) (some p)
      have e : nodeV (L.put st.nodes.length (w5.heap.size + 1) w5.heap.size true) st.nodes.length = .iface 87 (.pointer (some ⟨(w5.heap.size + 1), 0, none⟩)) := by simp [nodeV, Lay.put, nodeT]
      rw [e] at this
      exact this)
    clear hcl hm4 ht4 hw4
    go_wp2_with fail
    refine HCome.out.mono ?_
    rintro e w6 hc
    have HCm := hide hc
    obtain ⟨v', rfl, hc⟩ := hc
    clear hc
    go_wp2
    go_ret2
    obtain ⟨hT4, k4, x4, hp4⟩ := Hcl.out
    have hpl := HCm.out.place (r := way.reverse) hp4
    obtain ⟨v', _, hb6, _⟩ := HCm.out
    have hE6 : ∀ j, ext (ext F w w4) w4 w6 j → ext F w w6 j := ext_trans x4.size hb6.size
    refine ⟨(w5.heap.size + 1), w5.heap.size, w4.heap.size, _, rfl, (hT4.kept (KeepX.below hb6)).mono (fun j hj => hE6 j (.inl hj)), k4.trans (KeepX.below' x4.size hb6), x4.trans' (Ext.below hb6), PlaceIs.mono hE6 hpl⟩
  | false =>
    refine (newNode_file name (L.nb m.d) w3 hlim).mono ?_
    rintro e w' ⟨w5, hb5, rfl, hw'⟩
    unfold fileI
    obtain ⟨W, hW⟩ : ∃ W, W = w5.alloc (fileObj name (.pointer (some ⟨L.nb m.d, 0, none⟩))) := ⟨_, rfl⟩
    rw [← hW] at hw'
    obtain rfl := hw'.symm
    have hb3W : Below w3.heap.size w3 W := by rw [hW]; exact hb5.alloc hb5.size _
    have hbW : Below w.heap.size w W := HB3.out.trans (hb3W.mono HB3.out.size)
    have hblk : W.heap[w5.heap.size]? = some (fileObj name (.pointer (some ⟨L.nb m.d, 0, none⟩))) := by
      rw [hW]
      exact heap_alloc_new w5 _
    have hWz : W.heap.size = w5.heap.size + 1 := by rw [hW]; simp
    have z3 := HB3.out.size
    have z5 := hb5.size
    have b0 : W.cell? ⟨w5.heap.size, 0, none⟩ = some (.string name) := by simp [World.cell?, hblk, fileObj]
    have b1 : W.cell? ⟨w5.heap.size, 1, none⟩ = some (.pointer (some ⟨L.nb m.d, 0, none⟩)) := by simp [World.cell?, hblk, fileObj]
    have d3W : W.cell? ⟨L.nb m.d, 3, none⟩ = some (.map (some (L.mb m.d))) := (hbW.cell (p := ⟨L.nb m.d, 3, none⟩) hdlt).trans d3
    have t1W : W.cell? ⟨t, 1, none⟩ = some (.int .i64 (liveNodes st.nodes)) := (hbW.cell (p := ⟨t, 1, none⟩) htlt).trans t1
    have tzW : W.frozen? ⟨t, 1, none⟩ = false := (hbW.frozen (p := ⟨t, 1, none⟩) htlt).trans tfz
    have hmW : MapIs W (L.mb m.d) st.nodes.length (fun s => (lies st m.d s).map (nodeV L)) := HD.out.map.kept (hbW.block _ HD.out.map.lt)
    have HAdd := hide (add_file (b := w5.heap.size) hname hnod (show 0 ≤ (liveNodes st.nodes : Int) ∧ (liveNodes st.nodes : Int) < 1000 by omega) b0 b1 d3W t1W tzW hmW)
    have HC := hide (show ∀ w4', MapIs w4' (L.mb m.d) (st.nodes.length + 1) (fun s => if s = name then some (.iface 122 (.pointer (some ⟨w5.heap.size, 0, none⟩))) else (lies st m.d s).map (nodeV L)) → W.drew.mapTurned w4' (L.mb m.d) → _ from fun w4' hm4 ht4 =>
      grown_close (nb := w5.heap.size) (mb := w5.heap.size) (dir := false) HT.out Hok.out hmd hmdir Hl.out HP.out Hw.out HB3.out hb3W (by omega) (by omega) (by omega) (by omega) ⟨trivial, trivial, by rw [if_neg (by simp)]; exact hblk⟩ (by
        have e : nodeV (L.put st.nodes.length w5.heap.size w5.heap.size false) st.nodes.length = .iface 122 (.pointer (some ⟨w5.heap.size, 0, none⟩)) := by simp [nodeV, Lay.put, nodeT]
        rw [e]
        exact hm4) ht4)
    clear b0 b1 d3W t1W tzW hmW hbW hb3W hblk hW
    go_wp2_with fail
    refine HAdd.out.mono ?_
    rintro e w4 ⟨w4', rfl, hm4, ht4, hw4⟩
    have hcl := HC.out w4' hm4 ht4
    rw [← hw4] at hcl
    have Hcl := hide hcl
    have HCome := hide (show Calls Tryz.prog 46 #[.iface 122 (.pointer (some ⟨w5.heap.size, 0, none⟩)), .pointer (some ⟨p, 0, none⟩)] w4 (fun e w' => Came w4 (ext F w w4) (L.put st.nodes.length w5.heap.size w5.heap.size false) (come (withNode st (newNd name false m.d)) st.nodes.length) (some p) e w') from by
      have := come_any Hcl.out.1 st.nodes.length (by simp [withNode]) (some p)
      have e : nodeV (L.put st.nodes.length w5.heap.size w5.heap.size false) st.nodes.length = .iface 122 (.pointer (some ⟨w5.heap.size, 0, none⟩)) := by simp [nodeV, Lay.put, nodeT]
      rw [e] at this
      exact this)
    clear hcl hm4 ht4 hw4
    go_wp2_with fail
    refine HCome.out.mono ?_
    rintro e w6 hc
    have HCm := hide hc
    obtain ⟨v', rfl, hc⟩ := hc
    clear hc
    go_wp2
    go_ret2
    obtain ⟨hT4, k4, x4, hp4⟩ := Hcl.out
    have hpl := HCm.out.place (r := way.reverse) hp4
    obtain ⟨v', _, hb6, _⟩ := HCm.out
    have hE6 : ∀ j, ext (ext F w w4) w4 w6 j → ext F w w6 j := ext_trans x4.size hb6.size
    refine ⟨w5.heap.size, w5.heap.size, w4.heap.size, _, rfl, (hT4.kept (KeepX.below hb6)).mono (fun j hj => hE6 j (.inl hj)), k4.trans (KeepX.below' x4.size hb6), x4.trans' (Ext.below hb6), PlaceIs.mono hE6 hpl⟩
end
end Go.Proofs.YtdmdgnghaceibaaGreat.P
/- The program's walk from a place. -/
namespace Go.Proofs.YtdmdgnghaceibaaGreat.P
open M Go.ChangeShapes Go.WideShapes Go.ChangeAt Go.RowKit
set_option linter.unusedVariables false

/-- The spots of a way lead somewhere. -/
def WayOk (st : St) (way : List Spot) : Prop := ∀ s ∈ way, s.n < st.nodes.length ∧ RowDirs st s.row

theorem come_ok {st : St} (ok : POk st) {c : Nat} (hc : c < st.nodes.length) : (come st c).n < st.nodes.length ∧ RowDirs st (come st c).row := by
  refine ⟨hc, ?_⟩
  unfold come
  simp only
  split
  · rename_i hd
    unfold rowOf
    split
    · rename_i l hl
      exact (ok.laid l (List.mem_of_find?_eq_some hl)).1
    · intro m hm
      simp at hm
      subst hm
      exact ⟨hc, hd⟩
  · intro m hm
    simp at hm

theorem wayStep_ok {st : St} (ok : POk st) {way : List Spot} (h : WayOk st way) (name : ByteArray) : WayOk st (wayStep st way name).2 := by
  unfold wayStep
  split
  · exact h
  · split
    · simp only
      split
      · exact fun s hs => h s (List.mem_of_mem_take hs)
      · exact h
    · split
      · exact h
      · split
        · exact h
        · split
          · split
            · exact h
            · rename_i c hc
              intro s hs
              rcases List.mem_append.1 hs with hs | hs
              · exact h s hs
              · simp at hs
                subst hs
                exact come_ok ok (seenIn_lt hc)
          · exact h

/-- How a walk ends. -/
def Walked (w : World) (F : Nat → Prop) (L : Lay) (x : Nat × Int × List Spot) (e : Ending) (w' : World) : Prop :=
  ∃ pv, e = .returned (.tuple #[pv, .int .i64 x.1, .int .i64 x.2.1]) ∧ Below w.heap.size w w' ∧ ((x.2.1 ≠ 0 ∧ pv = .pointer none) ∨ (x.2.1 = 0 ∧ ∃ p', pv = .pointer (some ⟨p', 0, none⟩) ∧ PlaceIs w' (ext F w w') L p' x.2.2.reverse))

set_option maxRecDepth 20000 in
set_option maxHeartbeats 1000000 in
theorem go_any {w : World} {F : Nat → Prop} {t : Nat} {st : St} {L : Lay} {bv : Nat → Value} (p : Nat) (way : List Spot) (names : List ByteArray) (ao : Option Addr) (nc : Nat) (h : TreeIs w F t st L bv) (hp : PlaceIs w F L p way.reverse) (ok : POk st) (hok : WayOk st way) (hn : NamesAt w ao names) :
    Calls Tryz.prog 48 #[.pointer (some ⟨p, 0, none⟩), .slice ao names.length nc] w fun e w' => Walked w F L (wayGo st names way) e w' := by
  have hl := hn.1
  unfold maxLen at hl
  rcases names_form hn with rfl | ⟨nb, no, rfl⟩
  · have HP := hide hp
    clear hp h hok hn
    go_enter Tryz.func48, Tryz.ntmps48
    go_wp2
    go_loop [0, 13] (fun pv i => i = .int .i64 0 ∧ pv = .pointer (some ⟨p, 0, none⟩)) (fun _ _ => 0)
    case atStart => exact ⟨rfl, rfl⟩
    case round =>
      obtain ⟨rfl, rfl⟩ := hrel
      go_wp2
      go_ret3
      exact ⟨_, rfl, Below.refl _ _, .inr ⟨rfl, p, rfl, HP.out.mono ext_refl⟩⟩
  · have HT := hide h
    have HP := hide hp
    have Hn := hide hn
    have Hok := hide hok
    clear h hp hn hok
    go_enter Tryz.func48, Tryz.ntmps48
    go_wp2
    go_loopw [0, 13] (fun pv i wr => ∃ (k p' : Nat) (way' : List Spot), k ≤ names.length ∧ i = .int .i64 k ∧ pv = .pointer (some ⟨p', 0, none⟩) ∧ Below w.heap.size w wr ∧ PlaceIs wr (ext F w wr) L p' way'.reverse ∧ WaySoFar st names way k way' ∧ WayOk st way') (fun _ i _ => names.length - (intOf i).toNat)
    case atStart => exact ⟨0, p, way, Nat.zero_le _, rfl, rfl, Below.refl _ _, HP.out.mono ext_refl, WaySoFar.start _ _ _, Hok.out⟩
    case round =>
      obtain ⟨k, p', way', hk, rfl, rfl, hbel, hpl, hso, hwok⟩ := hrel
      have Hbel := hide hbel
      have Hpl := hide hpl
      have Hso := hide hso
      have Hwok := hide hwok
      by_cases hlt : k < names.length
      · obtain ⟨s, hs⟩ := M.getElem?_of_lt hlt
        obtain ⟨hsz, nb', no', heq, hcell⟩ := Hn.out.2 k s hs
        cases heq
        have hc : wr.cell? ⟨nb, no + k, none⟩ = some (.string s) := (hbel.cell (p := ⟨nb, no + k, none⟩) (World.block_lt_of_cell? w _ hcell)).trans hcell
        have Hs := hide hs
        have k0 : (0 : Int) ≤ (k : Int) := by omega
        have k1 : (k : Int) < (names.length : Int) := by omega
        have HStep := hide (step_any p' way' s ((HT.out.kept (KeepX.below hbel)).mono (fun k hk => .inl hk)) hpl hwok hsz)
        clear hs hbel hpl hso hwok hcell
        obtain ⟨y, hy⟩ : ∃ y, y = wayStep st way' s := ⟨_, rfl⟩
        by_cases he : (wayStep st way' s).1 = 0
        · go_wp2_with (go_at_call 86; refine HStep.out.mono ?_; rintro e w2 ⟨pv, rfl, hb2, hc2⟩; rw [he])
          rcases hc2 with ⟨h0, _⟩ | ⟨_, p2, rfl, hp2⟩
          · exact absurd he h0
          · refine ⟨⟨k + 1, p2, (wayStep st way' s).2, by omega, by go_num, rfl, Hbel.out.trans (hb2.mono Hbel.out.size), hp2.mono (ext_trans Hbel.out.size hb2.size), Hso.out.step Hs.out he, wayStep_ok ok Hwok.out s⟩, by simp [intOf]; omega⟩
        · have he' : ((wayStep st way' s).1 != 0) = true := by simpa using he
          have he2 : ((wayStep st way' s).1 == 0) = false := by simpa using he
          go_wp2_with (go_at_call 86; refine HStep.out.mono ?_; rintro e w2 ⟨pv, rfl, hb2, hc2⟩; have Hb2 := hide hb2; clear hb2 hc2)
          go_ret3
          rw [Hso.out.stop Hs.out he]
          exact ⟨_, rfl, Hbel.out.trans (Hb2.out.mono Hbel.out.size), .inl ⟨he, rfl⟩⟩
      · go_wp2
        go_ret3
        have hkn : names.length = k := by omega
        rw [Hso.out.done (by omega)]
        refine ⟨_, ?_, Hbel.out, .inr ⟨rfl, p', rfl, Hpl.out⟩⟩
        rw [← hkn]
        rfl
end Go.Proofs.YtdmdgnghaceibaaGreat.P
/- The program's Attach. -/
namespace Go.Proofs.YtdmdgnghaceibaaGreat.P
open M Go.ChangeShapes Go.WideShapes Go.ChangeAt Go.RowKit
set_option linter.unusedVariables false

theorem srv_drew {w : World} {F : Nat → Prop} {s t : Nat} {st : St} {lk : Int} {L : Lay} {bv : Nat → Value} (h : SrvHas w F s st lk t L bv) : SrvHas w.drew F s st lk t L bv := h.kept ((KeepX.refl _ _ _ _).drew)

set_option maxRecDepth 20000 in
set_option maxHeartbeats 800000 in
theorem attach_any {w : World} {F : Nat → Prop} {s : Nat} {st : St} (n : Int) (h : SrvIs w F s st) (ok : POk st) :
    Calls Tryz.prog 13 #[.pointer (some ⟨s, 0, none⟩), .int .i64 n] w fun e w' => PEnds w F s (mAttach st n) e w' := by
  have hnot : ∀ (x : Bool) (w : World), (Op.unary .not (.bool x)).run Tryz.prog w = .ok (.bool (!x)) w := fun _ _ => rfl
  go_enter_defers Tryz.func13, Tryz.ntmps13
  go_wp2_with fail
  refine (enter_any h).mono ?_
  rintro e w1 ⟨rfl, hH, hx⟩
  clear h
  obtain ⟨t, L, bv, hS⟩ := hH
  have hx := hide hx
  cases hok : fidOk n with
  | false =>
    have H := hide (show mAttach st n = (tick st, 1) by simp [mAttach, hok])
    have hS := hide hS
    go_wp2_with (go_at_call 44; refine (isFid_any _ _).mono ?_; rintro e w' ⟨rfl, hw⟩; obtain rfl := hw.symm; rw [hok])
    have hD : Held w1 (ext F w w1) s (tick st) := ⟨t, L, bv, hS.out⟩
    refine leaves_cons (f := 43) (args := #[.pointer (some ⟨s, 0, none⟩)]) (by simp) (by simp [go_sem]) ?_
    refine (leave_deferred .returning hD).mono ?_
    rintro e u' w'' ⟨rfl, rfl, rfl⟩
    refine ⟨_, results_tmp rfl _ _ _, ?_⟩
    exact PEnds.close H.out hD hx.out
  | true =>
    rcases fid_cases hS ok.tick.fids n with ⟨hf, hno⟩ | ⟨k, i, f, p, rfl, hk, hf, hi, hn, ha, c7, c8, hp⟩
    · rcases hno with hno | ⟨k, rfl, hk, c7, c8⟩
      · exact absurd hok (by simp [hno])
      · have H := hide (show mAttach st k = ({ tick st with fids := st.fids ++ [⟨k, [come st 0], false⟩] }, 0) by unfold mAttach; rw [if_pos hok, show find st k = none from hf])
        have hT := hS.tree
        have k6 := hS.k6
        have t0 := hT.c0
        unfold dirPtr at t0
        have hfz := hS.blk.fz
        have hslt := hS.blk.lt
        have HC := hide (show ∀ (W : World), TreeIs W (ext F w w1) t (tick st) L bv → Calls Tryz.prog 46 #[.iface 87 (.pointer (some ⟨L.nb 0, 0, none⟩)), .pointer none] W (fun e w' => Came W (ext F w w1) L (come (tick st) 0) none e w') from
          fun W hW => by
            have := come_any hW 0 ok.pos none
            rw [hW.root ok.tick] at this
            exact this)
        have hS := hide hS
        have hf := hide hf
        have b0 : (0 : Int) ≤ (k : Int) := by omega
        have b1 : (k : Int) < 51 := by omega
        clear hT
        go_wp2_with (first | (go_at_call 44; refine (isFid_any _ _).mono ?_; rintro e w' ⟨rfl, hw⟩; obtain rfl := hw.symm; rw [hok]) | (go_at_call 45; refine (standing_none s k hk _ c7).mono ?_; rintro e w' ⟨rfl, hw⟩; obtain rfl := hw.symm))
        refine wp_strict ?_
        go_region_with (go_at_call 46; refine (HC.out _ (srv_drew hS.out).tree).mono ?_; rintro e w2 hc; have HCm := hide hc; obtain ⟨v, rfl, hb, hblk, hv⟩ := hc; have q7 : w2.cell? ⟨s, 7 + k * 2, none⟩ = some (.pointer none) := (hb.cell (p := ⟨s, 7 + k * 2, none⟩) hslt).trans c7; have q8 : w2.cell? ⟨s, 7 + k * 2 + 1, none⟩ = some (.bool false) := (hb.cell (p := ⟨s, 7 + k * 2 + 1, none⟩) hslt).trans c8; have z7 : w2.frozen? ⟨s, 7 + k * 2, none⟩ = false := (hb.frozen (p := ⟨s, 7 + k * 2, none⟩) hslt).trans (hfz _); have z8 : w2.frozen? ⟨s, 7 + k * 2 + 1, none⟩ = false := (hb.frozen (p := ⟨s, 7 + k * 2 + 1, none⟩) hslt).trans (hfz _); clear hb hblk hv)
        go_wp2
        have hCm := HCm.out
        have hpl : PlaceIs w2 (ext (ext F w w1) w1 w2) L w1.heap.size [come st 0] := hCm.place (r := []) rfl
        obtain ⟨v, _, hb, hblk, hv⟩ := hCm
        have hb : Below w1.heap.size w1 w2 := ((Below.refl _ w1).drew).trans hb
        have hS2 : SrvHas w2 (ext (ext F w w1) w1 w2) s (tick st) 1 t L bv := (hS.out.below hb).mono (fun k hk => .inl hk)
        have hx2 : Ext F w w2 := hx.out.trans' (Ext.below hb)
        have hG : ∀ j, ext (ext F w w1) w1 w2 j → ext F w w2 j := ext_trans hx.out.size hb.size
        have hset := (hS2.setStand (st' := { tick st with fids := st.fids ++ [⟨k, [come st 0], false⟩] }) hk (pv := .pointer (some ⟨w1.heap.size, 0, none⟩)) (op := false) (o := some ⟨k, [come st 0], false⟩) ⟨w1.heap.size, rfl, rfl, hpl⟩ rfl rfl rfl (fun m => fidAt_snoc (tick st) ⟨k, [come st 0], false⟩ hf.out m)).mono hG
        obtain ⟨W, hW⟩ : ∃ W, W = ((w2.setCell ⟨s, 7 + k * 2, none⟩ (.pointer (some ⟨w1.heap.size, 0, none⟩))).setCell ⟨s, 7 + k * 2 + 1, none⟩ (.bool false)) := ⟨_, rfl⟩
        rw [← hW] at hset ⊢
        have hWz : W.heap.size = w2.heap.size := by rw [hW]; simp
        have hD : Held W (ext F w W) s { tick st with fids := st.fids ++ [⟨k, [come st 0], false⟩] } := ⟨t, L, bv, hset.mono (ext_mono (by rw [hWz]; exact Nat.le_refl _))⟩
        have hxW : Ext F w W := by
          have ho : F s ∨ w.heap.size ≤ s := by rcases hS.out.blk.own with h | h; exact .inl h; exact .inr h.1
          rw [hW]
          exact (hx2.setCell ho _).setCell ho _
        refine leaves_cons (f := 43) (args := #[.pointer (some ⟨s, 0, none⟩)]) (by simp) (by simp [go_sem]) ?_
        refine (leave_deferred .returning hD).mono ?_
        rintro e u' w'' ⟨rfl, rfl, rfl⟩
        refine ⟨_, results_tmp rfl _ _ _, ?_⟩
        exact PEnds.close H.out hD hxW
    · have H := hide (show mAttach st k = (tick st, 2) by unfold mAttach; rw [if_pos hok, show find st k = some i from hf])
      have hS := hide hS
      clear hf
      go_wp2_with (first | (go_at_call 44; refine (isFid_any _ _).mono ?_; rintro e w' ⟨rfl, hw⟩; obtain rfl := hw.symm; rw [hok]) | (go_at_call 45; refine (standing_some s k p hk _ c7).mono ?_; rintro e w' ⟨rfl, hw⟩; obtain rfl := hw.symm))
      have hD : Held w1 (ext F w w1) s (tick st) := ⟨t, L, bv, hS.out⟩
      refine leaves_cons (f := 43) (args := #[.pointer (some ⟨s, 0, none⟩)]) (by simp) (by simp [go_sem]) ?_
      refine (leave_deferred .returning hD).mono ?_
      rintro e u' w'' ⟨rfl, rfl, rfl⟩
      refine ⟨_, results_tmp rfl _ _ _, ?_⟩
      exact PEnds.close H.out hD hx.out
end Go.Proofs.YtdmdgnghaceibaaGreat.P
/- The program's checkWalk, Walk. -/
namespace Go.Proofs.YtdmdgnghaceibaaGreat.P
open M Go.ChangeShapes Go.WideShapes Go.ChangeAt Go.RowKit
set_option linter.unusedVariables false

/-- 'standing' of a number, whichever: whether it is nil. -/
theorem standing_any {w : World} {F : Nat → Prop} {s t : Nat} {st : St} {lk : Int} {L : Lay} {bv : Nat → Value} (h : SrvHas w F s st lk t L bv) (ok : FidsOk st) (n : Int) :
    Calls Tryz.prog 45 #[.pointer (some ⟨s, 0, none⟩), .int .i64 n] w fun e w' => (∃ a, e = .returned (.pointer a) ∧ a.isSome = (find st n).isSome) ∧ w' = w := by
  rcases fid_cases h ok n with ⟨hf, hno⟩ | ⟨k, i, f, p, rfl, hk, hf, hi, hn, ha, c7, c8, hp⟩
  · refine (standing_no hno).mono ?_
    rintro e w' ⟨rfl, rfl⟩
    exact ⟨⟨none, rfl, by rw [hf]; rfl⟩, rfl⟩
  · refine (standing_some s k p hk _ c7).mono ?_
    rintro e w' ⟨rfl, rfl⟩
    exact ⟨⟨_, rfl, by rw [hf]; rfl⟩, rfl⟩

theorem standing_at (s k p : Nat) (n : Int) (hnk : n = (k : Int)) (hk : k < 51) (w : World) (h7 : w.cell? ⟨s, 7 + k * 2, none⟩ = some (.pointer (some ⟨p, 0, none⟩))) : Calls Tryz.prog 45 #[.pointer (some ⟨s, 0, none⟩), .int .i64 n] w fun e w' => e = .returned (.pointer (some ⟨s, 7 + k * 2, none⟩)) ∧ w' = w := by
  subst hnk
  exact standing_some s k p hk w h7

set_option maxRecDepth 20000 in
set_option maxHeartbeats 1000000 in
theorem checkWalk_some {w : World} {F : Nat → Prop} {s t : Nat} {st : St} {lk : Int} {L : Lay} {bv : Nat → Value} (h : SrvHas w F s st lk t L bv) (ok : FidsOk st) {k p : Nat} {f : Fid} (n : Int) (hnk : n = (k : Int)) (hk : k < 51) (hn : f.n = n)
    (c7 : w.cell? ⟨s, 7 + k * 2, none⟩ = some (.pointer (some ⟨p, 0, none⟩))) (c8 : w.cell? ⟨s, 7 + k * 2 + 1, none⟩ = some (.bool f.op)) (tto : Int) (names : List ByteArray) (ao : Option Addr) (nc : Nat) (hnm : NamesAt w ao names) :
    Calls Tryz.prog 47 #[.pointer (some ⟨s, 0, none⟩), .int .i64 n, .int .i64 tto, .slice ao names.length nc] w fun e w' => e = .returned (.int .i64 (mAllowed st f tto names)) ∧ w' = w := by
  have hnot : ∀ (x : Bool) (w : World), (Op.unary .not (.bool x)).run Tryz.prog w = .ok (.bool (!x)) w := fun _ _ => rfl
  have HS := hide h
  have Hnm := hide hnm
  have Hnk := hide hnk
  have Hn := hide hn
  clear h hnm hnk hn
  cases hop : f.op with
  | true =>
    rw [hop] at c8
    have H := hide (show mAllowed st f tto names = 3 by simp [mAllowed, hop])
    clear hop
    go_enter Tryz.func47, Tryz.ntmps47
    go_wp2_with (go_at_call 45; refine (standing_at s k p _ Hnk.out hk _ c7).mono ?_; rintro e w' ⟨rfl, hw⟩; obtain rfl := hw.symm)
    go_ret
    exact ⟨by rw [H.out]; rfl, rfl⟩
  | false =>
    rw [hop] at c8
    cases ht : fidOk tto with
    | false =>
      have H := hide (show mAllowed st f tto names = 1 by simp [mAllowed, hop, ht])
      clear hop
      go_enter Tryz.func47, Tryz.ntmps47
      go_wp2_with (first | (go_at_call 45; refine (standing_at s k p _ Hnk.out hk _ c7).mono ?_; rintro e w' ⟨rfl, hw⟩; obtain rfl := hw.symm) | (go_at_call 44; refine (isFid_any _ _).mono ?_; rintro e w' ⟨rfl, hw⟩; obtain rfl := hw.symm; rw [ht]))
      go_ret
      exact ⟨by rw [H.out]; rfl, rfl⟩
    | true =>
      have e0 : mAllowed st f tto names = if tto ≠ f.n ∧ (find st tto).isSome = true then 2 else badNames names := by
        unfold mAllowed badNames
        rw [if_neg (by simp [hop]), if_pos ht]
      clear hop
      by_cases e : tto = n
      · have H := hide (e0.trans (by rw [if_neg (fun x => x.1 (e.trans Hn.out.symm))]))
        subst e
        have q : (tto != tto) = false := by simp
        clear e0
        go_enter Tryz.func47, Tryz.ntmps47
        go_wp2_with (first | (go_at_call 45; refine (standing_at s k p _ Hnk.out hk _ c7).mono ?_; rintro e w' ⟨rfl, hw⟩; obtain rfl := hw.symm) | (go_at_call 44; refine (isFid_any _ _).mono ?_; rintro e w' ⟨rfl, hw⟩; obtain rfl := hw.symm; rw [ht]) | (go_at_call 85; refine (checkNames_any names ao nc Hnm.out).mono ?_; rintro e w' ⟨rfl, hw⟩; obtain rfl := hw.symm))
        go_ret
        exact ⟨by rw [H.out]; rfl, rfl⟩
      · have q : (tto != n) = true := by simpa using e
        rcases fid_cases HS.out ok tto with ⟨hf, hno⟩ | ⟨k2, i2, f2, p2, hk3, hk2, hf, hi, hn2, ha, d7, d8, hp⟩
        · have H := hide (e0.trans (by rw [if_neg (fun x => by rw [hf] at x; exact absurd x.2 (by simp))]))
          clear e0 hf
          go_enter Tryz.func47, Tryz.ntmps47
          go_wp2_with fail
          refine (standing_at s k p _ Hnk.out hk _ c7).mono ?_
          rintro e w' ⟨rfl, hw⟩
          obtain rfl := hw.symm
          go_wp2_with (go_at_call 44; refine (isFid_any _ _).mono ?_; rintro e w' ⟨rfl, hw⟩; obtain rfl := hw.symm; rw [ht])
          refine (standing_no hno).mono ?_
          rintro e w' ⟨rfl, hw⟩
          obtain rfl := hw.symm
          go_wp2_with (go_at_call 85; refine (checkNames_any names ao nc Hnm.out).mono ?_; rintro e w' ⟨rfl, hw⟩; obtain rfl := hw.symm)
          go_ret
          exact ⟨by rw [H.out]; rfl, rfl⟩
        · have H := hide (e0.trans (by rw [if_pos ⟨fun x => e (x.trans Hn.out), by rw [hf]; rfl⟩]))
          have Hk3 := hide hk3
          clear e0 hf hi hn2 ha hp hk3
          go_enter Tryz.func47, Tryz.ntmps47
          go_wp2_with fail
          refine (standing_at s k p _ Hnk.out hk _ c7).mono ?_
          rintro e w' ⟨rfl, hw⟩
          obtain rfl := hw.symm
          go_wp2_with (go_at_call 44; refine (isFid_any _ _).mono ?_; rintro e w' ⟨rfl, hw⟩; obtain rfl := hw.symm; rw [ht])
          refine (standing_at s k2 p2 tto Hk3.out hk2 _ d7).mono ?_
          rintro e w' ⟨rfl, hw⟩
          obtain rfl := hw.symm
          go_wp2_with (go_at_call 85; refine (checkNames_any names ao nc Hnm.out).mono ?_; rintro e w' ⟨rfl, hw⟩; obtain rfl := hw.symm)
          go_ret
          exact ⟨by rw [H.out]; rfl, rfl⟩

set_option maxRecDepth 20000 in
theorem checkWalk_none {w : World} {s : Nat} {n : Int} (hno : (fidOk n = false) ∨ ∃ k : Nat, n = k ∧ k < 51 ∧ w.cell? ⟨s, 7 + k * 2, none⟩ = some (.pointer none) ∧ w.cell? ⟨s, 7 + k * 2 + 1, none⟩ = some (.bool false)) (tto : Int) (nv : Value) :
    Calls Tryz.prog 47 #[.pointer (some ⟨s, 0, none⟩), .int .i64 n, .int .i64 tto, nv] w fun e w' => e = .returned (.int .i64 2) ∧ w' = w := by
  go_enter Tryz.func47, Tryz.ntmps47
  go_wp2_with (go_at_call 45; refine (standing_no hno).mono ?_; rintro e w' ⟨rfl, hw⟩; obtain rfl := hw.symm)
  go_ret
  exact ⟨rfl, rfl⟩

/-- How a call ends that answers a number and an error. -/
def PEnds2 (w : World) (F : Nat → Prop) (s : Nat) (p : St × Int × Int) (e : Ending) (w' : World) : Prop := e = .returned (.tuple #[.int .i64 p.2.1, .int .i64 p.2.2]) ∧ SrvIs w' (ext F w w') s p.1 ∧ Ext F w w'
theorem PEnds2.close {w w2 : World} {F : Nat → Prop} {s : Nat} {p : St × Int × Int} {c d : Int} {st' : St} (hp : p = (st', c, d)) (h : Held w2 (ext F w w2) s st') (hx : Ext F w w2) : PEnds2 w F s p (.returned (.tuple #[.int .i64 c, .int .i64 d])) (left w2 s) := by
  subst hp
  obtain ⟨h1, h2⟩ := left_close (w1 := w) h hx
  exact ⟨rfl, h1, h2⟩

theorem find_of_fidAt {st : St} {n : Int} (h : fidAt st n = none) : find st n = none := by
  cases hf : find st n with
  | none => rfl
  | some i =>
    obtain ⟨f, _, _, ha⟩ := fidAt_find hf
    rw [ha] at h
    exact absurd h (by simp)

/-- The fids behind a walk. -/
theorem fidAt_walkTo {st : St} (ok : FidsOk st) {i : Nat} {f : Fid} {n tto : Int} (hi : st.fids[i]? = some f) (hn : f.n = n) (hto : tto = n ∨ find st tto = none) (way : List Spot) (m : Int) : fidAt (mWalkTo st i n tto way) m = if m = tto then some ⟨tto, way, false⟩ else fidAt st m := by
  unfold mWalkTo
  split
  · rename_i e
    have hd : ∀ m, fidAt (mDrop st i) m = if m = f.n then none else fidAt st m := fidAt_drop ok hi
    have h0 : find (mDrop st i) tto = none := find_of_fidAt (by rw [hd, if_pos (e.trans hn.symm)])
    have := fidAt_snoc (mDrop st i) ⟨tto, way, false⟩ h0 m
    unfold fidAt at this ⊢
    simp only at this ⊢
    rw [this]
    split
    · rfl
    · rename_i hne
      have h2 := hd m
      unfold fidAt at h2
      rw [h2, if_neg (by rw [hn, ← e]; exact hne)]
  · rename_i e
    rcases hto with h | h
    · exact absurd h e
    · exact fidAt_snoc st ⟨tto, way, false⟩ h m
end Go.Proofs.YtdmdgnghaceibaaGreat.P
/- The program's Walk. -/
namespace Go.Proofs.YtdmdgnghaceibaaGreat.P
open M Go.ChangeShapes Go.WideShapes Go.ChangeAt Go.RowKit
set_option linter.unusedVariables false

theorem mAllowed_zero {st : St} {f : Fid} {tto : Int} {names : List ByteArray} (h : mAllowed st f tto names = 0) : fidOk tto = true ∧ (tto = f.n ∨ find st tto = none) := by
  unfold mAllowed at h
  split at h
  · exact absurd h (by decide)
  · split at h
    · rename_i ht
      refine ⟨ht, ?_⟩
      split at h
      · exact absurd h (by decide)
      · rename_i hc
        by_cases e : tto = f.n
        · exact .inl e
        · refine .inr ?_
          cases hf : find st tto with
          | none => rfl
          | some j => exact absurd ⟨e, by rw [hf]; rfl⟩ hc
    · exact absurd h (by decide)

theorem wayGo_len (st : St) : ∀ (names : List ByteArray) (way : List Spot), (wayGo st names way).2.1 = 0 → (wayGo st names way).1 = names.length
  | [], way, _ => rfl
  | s :: l, way, h => by
    unfold wayGo at h ⊢
    split
    · rename_i h0
      rw [if_pos h0] at h
      simp only at h ⊢
      rw [wayGo_len st l _ h]
      rfl
    · rename_i h0
      rw [if_neg h0] at h
      exact absurd h h0

theorem seenIn_tick (st : St) (name : ByteArray) : ∀ row : List Member, seenIn (tick st) name row = seenIn st name row
  | [] => rfl
  | m :: r => by
    have e1 : isGone (tick st) m.d = isGone st m.d := rfl
    have e2 : lies (tick st) m.d name = lies st m.d name := rfl
    unfold seenIn
    rw [e1, e2, seenIn_tick st name r]
theorem wayStep_tick (st : St) (way : List Spot) (s : ByteArray) : wayStep (tick st) way s = wayStep st way s := by
  have e1 : ∀ n, isGone (tick st) n = isGone st n := fun _ => rfl
  have e2 : ∀ n, isDir (tick st) n = isDir st n := fun _ => rfl
  have e3 : ∀ n, come (tick st) n = come st n := fun _ => rfl
  unfold wayStep
  simp only [e1, e2, e3, seenIn_tick]

theorem wayGo_tick (st : St) : ∀ (names : List ByteArray) (way : List Spot), wayGo (tick st) names way = wayGo st names way
  | [], way => rfl
  | s :: l, way => by
    unfold wayGo
    rw [wayStep_tick, wayGo_tick st l]

theorem SrvHas.standCell {w : World} {F : Nat → Prop} {s t : Nat} {st : St} {lk : Int} {L : Lay} {bv : Nat → Value} (h : SrvHas w F s st lk t L bv) {k : Nat} (hk : k < 51) : ∃ x, w.cell? ⟨s, 7 + k * 2, none⟩ = some x := by
  have hold := h.fids k hk
  cases hf0 : fidAt st k with
  | none => rw [hf0] at hold; exact ⟨_, hold.1⟩
  | some f => rw [hf0] at hold; obtain ⟨p, c7, _⟩ := hold; exact ⟨_, c7⟩
theorem SrvHas.openCell {w : World} {F : Nat → Prop} {s t : Nat} {st : St} {lk : Int} {L : Lay} {bv : Nat → Value} (h : SrvHas w F s st lk t L bv) {k : Nat} (hk : k < 51) : ∃ x, w.cell? ⟨s, 7 + k * 2 + 1, none⟩ = some x := by
  have hold := h.fids k hk
  cases hf0 : fidAt st k with
  | none => rw [hf0] at hold; exact ⟨_, hold.2⟩
  | some f => rw [hf0] at hold; obtain ⟨p, _, c8, _⟩ := hold; exact ⟨_, c8⟩

theorem way_ok {st : St} (ok : POk st) {f : Fid} (hf : f ∈ st.fids) : WayOk st f.way := fun s hs => ⟨((ok.way f hf).2 s hs).1, ((ok.way f hf).2 s hs).2.1⟩

set_option maxRecDepth 20000 in
set_option maxHeartbeats 1000000 in
theorem walk_any {w : World} {F : Nat → Prop} {s : Nat} {st : St} (n tto : Int) (names : List ByteArray) (ao : Option Addr) (nc : Nat) (h : SrvIs w F s st) (ok : POk st) (hnm : NamesAt w ao names) (hnF : ∀ a, ao = some a → names ≠ [] → ¬ F a.block) :
    Calls Tryz.prog 14 #[.pointer (some ⟨s, 0, none⟩), .int .i64 n, .int .i64 tto, .slice ao names.length nc] w fun e w' => PEnds2 w F s (mWalk st n tto names) e w' := by
  go_enter_defers Tryz.func14, Tryz.ntmps14
  go_wp2_with fail
  refine (enter_any h).mono ?_
  rintro e w1 ⟨rfl, hH, hx⟩
  clear h
  obtain ⟨t, L, bv, hS⟩ := hH
  have Hnm := hide (hnm.ext hx hnF)
  have hx := hide hx
  clear hnm hnF
  rcases fid_cases hS ok.tick.fids n with ⟨hf, hno⟩ | ⟨k, i, f, p, hnk, hk, hf, hi, hn, ha, c7, c8, hp⟩
  · have H := hide (show mWalk st n tto names = (tick st, 0, 2) by unfold mWalk; rw [show find st n = none from hf])
    have hS := hide hS
    clear hf
    go_wp2_with (go_at_call 47; refine (checkWalk_none hno tto _).mono ?_; rintro e w' ⟨rfl, hw⟩; obtain rfl := hw.symm)
    have hD : Held w1 (ext F w w1) s (tick st) := ⟨t, L, bv, hS.out⟩
    refine leaves_cons (f := 43) (args := #[.pointer (some ⟨s, 0, none⟩)]) (by simp) (by simp [go_sem]) ?_
    refine (leave_deferred .returning hD).mono ?_
    rintro e u' w'' ⟨rfl, rfl, rfl⟩
    refine ⟨_, results_tmp2 rfl _ _ _, ?_⟩
    exact PEnds2.close H.out hD hx.out
  · have e0 : mWalk st n tto names = if mAllowed (tick st) f tto names = 0 then (if (wayGo st names f.way).2.1 = 0 then (mWalkTo (tick st) i n tto (wayGo st names f.way).2.2, (names.length : Int), 0) else (tick st, ((wayGo st names f.way).1 : Int), (wayGo st names f.way).2.1)) else (tick st, 0, mAllowed (tick st) f tto names) := by
      unfold mWalk
      rw [show find st n = some i from hf]
      simp only
      rw [show st.fids[i]? = some f from hi]
    have HCW := hide (checkWalk_some hS ok.tick.fids n hnk hk hn c7 c8 tto names ao nc Hnm.out)
    by_cases hal : mAllowed (tick st) f tto names = 0
    · obtain ⟨hto, hwho⟩ := mAllowed_zero hal
      obtain ⟨k2, hk2, rfl⟩ : ∃ k2 : Nat, k2 < 51 ∧ tto = (k2 : Int) := by
        have := of_decide_eq_true hto
        obtain ⟨k2, e⟩ := Int.eq_ofNat_of_zero_le this.1
        exact ⟨k2, by omega, e⟩
      subst hnk
      rw [hal] at HCW
      have e1 := e0.trans (if_pos hal)
      have hmem := List.mem_of_getElem? hi
      have HG := hide (go_any p f.way names ao nc (st := tick st) hS.tree hp ok.tick (way_ok ok.tick hmem) Hnm.out)
      obtain ⟨x7, y7⟩ : ∃ x, w1.cell? ⟨s, 7 + k2 * 2, none⟩ = some x := hS.standCell hk2
      obtain ⟨x8, y8⟩ : ∃ x, w1.cell? ⟨s, 7 + k2 * 2 + 1, none⟩ = some x := hS.openCell hk2
      have hfz := hS.blk.fz
      have hslt := hS.blk.lt
      have b0 : (0 : Int) ≤ (k : Int) := by omega
      have b1 : (k : Int) < 51 := by omega
      have b2 : (0 : Int) ≤ (k2 : Int) := by omega
      have b3 : (k2 : Int) < 51 := by omega
      have hgo : wayGo (tick st) names f.way = wayGo st names f.way := wayGo_tick st names f.way
      rw [hgo] at HG
      by_cases hwe : (wayGo st names f.way).2.1 = 0
      · have H := hide (e1.trans (if_pos hwe))
        have hlen := wayGo_len st names f.way hwe
        have Hfid := hide (fun m => fidAt_walkTo (tto := (k2 : Int)) ok.tick.fids hi hn (by rw [← hn]; exact hwho) (wayGo st names f.way).2.2 m)
        have Hl := hide hlen
        have HW := hide hwe
        have hS := hide hS
        clear hf hi hn ha hp e0 e1 hal hwho hgo hmem hlen
        go_wp2_with (first | (go_at_call 47; refine HCW.out.mono ?_; rintro e w' ⟨rfl, hw⟩; obtain rfl := hw.symm) | (go_at_call 48; refine HG.out.mono ?_; rintro e w2 ⟨pv, rfl, hb, hc⟩; rw [hwe]; rcases hc with ⟨h0, _⟩ | ⟨_, p', rfl, hp'⟩; (exact absurd HW.out h0); have q7 : w2.cell? ⟨s, 7 + k2 * 2, none⟩ = some x7 := (hb.cell (p := ⟨s, 7 + k2 * 2, none⟩) hslt).trans y7; have q8 : w2.cell? ⟨s, 7 + k2 * 2 + 1, none⟩ = some x8 := (hb.cell (p := ⟨s, 7 + k2 * 2 + 1, none⟩) hslt).trans y8; have z7 : w2.frozen? ⟨s, 7 + k2 * 2, none⟩ = false := (hb.frozen (p := ⟨s, 7 + k2 * 2, none⟩) hslt).trans (hfz _); have z8 : w2.frozen? ⟨s, 7 + k2 * 2 + 1, none⟩ = false := (hb.frozen (p := ⟨s, 7 + k2 * 2 + 1, none⟩) hslt).trans (hfz _); have HB := hide hb; have HP' := hide hp'; clear hb hp'))
        have hS2 : SrvHas w2 (ext (ext F w w1) w1 w2) s (tick st) 1 t L bv := (hS.out.below HB.out).mono (fun k hk => .inl hk)
        have hx2 : Ext F w w2 := hx.out.trans' (Ext.below HB.out)
        have hG : ∀ j, ext (ext F w w1) w1 w2 j → ext F w w2 j := ext_trans hx.out.size HB.out.size
        have hset := (hS2.setStand (st' := mWalkTo (tick st) i k k2 (wayGo st names f.way).2.2) hk2 (pv := .pointer (some ⟨p', 0, none⟩)) (op := false) (o := some ⟨k2, (wayGo st names f.way).2.2, false⟩) ⟨p', rfl, rfl, HP'.out⟩ (by unfold mWalkTo; split <;> rfl) (by unfold mWalkTo; split <;> rfl) (by unfold mWalkTo; split <;> rfl) Hfid.out).mono hG
        obtain ⟨W, hW⟩ : ∃ W, W = ((w2.setCell ⟨s, 7 + k2 * 2, none⟩ (.pointer (some ⟨p', 0, none⟩))).setCell ⟨s, 7 + k2 * 2 + 1, none⟩ (.bool false)) := ⟨_, rfl⟩
        rw [← hW] at hset ⊢
        have hWz : W.heap.size = w2.heap.size := by rw [hW]; simp
        have hD : Held W (ext F w W) s (mWalkTo (tick st) i k k2 (wayGo st names f.way).2.2) := ⟨t, L, bv, hset.mono (ext_mono (by rw [hWz]; exact Nat.le_refl _))⟩
        have hxW : Ext F w W := by
          have ho : F s ∨ w.heap.size ≤ s := by rcases hS.out.blk.own with h | h; exact .inl h; exact .inr h.1
          rw [hW]
          exact (hx2.setCell ho _).setCell ho _
        refine leaves_cons (f := 43) (args := #[.pointer (some ⟨s, 0, none⟩)]) (by simp) (by simp [go_sem]) ?_
        refine (leave_deferred .returning hD).mono ?_
        rintro e u' w'' ⟨rfl, rfl, rfl⟩
        refine ⟨_, results_tmp2 rfl _ _ _, ?_⟩
        have Hf := H.out
        rw [← Hl.out] at Hf
        exact PEnds2.close Hf hD hxW
      · have H := hide (e1.trans (if_neg hwe))
        have q1 : ((wayGo st names f.way).2.1 != 0) = true := by simpa using hwe
        have q2 : ((wayGo st names f.way).2.1 == 0) = false := by simpa using hwe
        have hS := hide hS
        clear hf hi hn ha hp e0 e1 hal hwho hgo hmem hwe
        go_wp2_with (first | (go_at_call 47; refine HCW.out.mono ?_; rintro e w' ⟨rfl, hw⟩; obtain rfl := hw.symm) | (go_at_call 48; refine HG.out.mono ?_; rintro e w2 ⟨pv, rfl, hb, hc⟩; have HB := hide hb; clear hb hc))
        have hS2 : SrvHas w2 (ext F w w1) s (tick st) 1 t L bv := hS.out.below HB.out
        have hx2 : Ext F w w2 := hx.out.trans' (Ext.below HB.out)
        have hD : Held w2 (ext F w w2) s (tick st) := ⟨t, L, bv, hS2.mono (ext_mono HB.out.size)⟩
        refine leaves_cons (f := 43) (args := #[.pointer (some ⟨s, 0, none⟩)]) (by simp) (by simp [go_sem]) ?_
        refine (leave_deferred .returning hD).mono ?_
        rintro e u' w'' ⟨rfl, rfl, rfl⟩
        refine ⟨_, results_tmp2 rfl _ _ _, ?_⟩
        exact PEnds2.close H.out hD hx2
    · have H := hide (e0.trans (by rw [if_neg hal]))
      have q1 : (mAllowed (tick st) f tto names != 0) = true := by simpa using hal
      have q2 : (mAllowed (tick st) f tto names == 0) = false := by simpa using hal
      have hS := hide hS
      clear hf hi hn ha hp e0 hnk
      go_wp2_with (go_at_call 47; refine HCW.out.mono ?_; rintro e w' ⟨rfl, hw⟩; obtain rfl := hw.symm)
      have hD : Held w1 (ext F w w1) s (tick st) := ⟨t, L, bv, hS.out⟩
      refine leaves_cons (f := 43) (args := #[.pointer (some ⟨s, 0, none⟩)]) (by simp) (by simp [go_sem]) ?_
      refine (leave_deferred .returning hD).mono ?_
      rintro e u' w'' ⟨rfl, rfl, rfl⟩
      refine ⟨_, results_tmp2 rfl _ _ _, ?_⟩
      exact PEnds2.close H.out hD hx.out
end Go.Proofs.YtdmdgnghaceibaaGreat.P
