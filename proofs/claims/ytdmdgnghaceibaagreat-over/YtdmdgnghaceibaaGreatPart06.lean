/- What every state of a script keeps, more: Write, Remove; the tree; how few names there are. (No walk.) -/
import Derived.Test.YtdmdgnghaceibaaGreatPart04
import Derived.Test.YtdmdgnghaceibaaGreatPart05
import Derived.Test.YtdmdgnghaceibaaGreatPart03
import Derived.Maps.RangeWalk
import Derived.Sort.KeysCollected
import Derived.Laws.Cover3
namespace Go.Proofs.YtdmdgnghaceibaaGreat.P
open M
set_option linter.unusedVariables false

/-! ### One node is another one -/
section
variable {st : St} {i : Nat} {x y : Nd}
theorem isDir_setNode (hx : st.nodes[i]? = some x) (hd : y.dir = x.dir) (d : Nat) : isDir (setNode st i y) d = isDir st d := by
  unfold isDir setNode
  simp only
  by_cases e : i = d
  · subst e
    rw [List.getElem?_set_self (M.lt_of_getElem? hx), hx]
    exact hd
  · rw [List.getElem?_set_ne e]
theorem isGone_setNode (hx : st.nodes[i]? = some x) (d : Nat) : isGone (setNode st i y) d = if d = i then y.gone else isGone st d := by
  unfold isGone setNode
  simp only
  by_cases e : d = i
  · subst e
    rw [List.getElem?_set_self (M.lt_of_getElem? hx), if_pos rfl]
  · rw [List.getElem?_set_ne (fun q => e q.symm), if_neg e]
theorem setNode_len : (setNode st i y).nodes.length = st.nodes.length := by simp [setNode]

theorem setNode_ok (ok : POk st) (hx : st.nodes[i]? = some x) (hn : y.name = x.name) (hd : y.dir = x.dir) (hi : y.inn = x.inn) (hl : liveNodes (setNode st i y).nodes ≤ 100) : POk (setNode st i y) := by
  have hm := List.mem_of_getElem? hx
  refine ⟨⟨ok.fids.once, ok.fids.small⟩, ?_, fun f hf => ⟨(ok.way f hf).1, fun s hs => ?_⟩, fun l hl => ?_, fun z hz => ?_, fun z hz => ?_, hl⟩
  · obtain ⟨r, hr, hrd⟩ := ok.root
    by_cases e : i = 0
    · subst e
      rw [hr] at hx
      cases hx
      exact ⟨y, by simp only [setNode]; exact List.getElem?_set_self (M.lt_of_getElem? hr), hd.trans hrd⟩
    · exact ⟨r, by simp only [setNode]; rw [List.getElem?_set_ne e]; exact hr, hrd⟩
  · obtain ⟨h1, h2, h3⟩ := (ok.way f hf).2 s hs
    exact ⟨by rw [setNode_len]; exact h1, fun m hm => ⟨by rw [setNode_len]; exact (h2 m hm).1, by rw [isDir_setNode hx hd]; exact (h2 m hm).2⟩, h3⟩
  · obtain ⟨h1, h2, h3⟩ := ok.laid l hl
    exact ⟨fun m hm => ⟨by rw [setNode_len]; exact (h1 m hm).1, by rw [isDir_setNode hx hd]; exact (h1 m hm).2⟩, h2, by rw [setNode_len]; exact h3⟩
  · rcases List.mem_or_eq_of_mem_set hz with hz | rfl
    · exact ok.names z hz
    · rw [hn]; exact ok.names x hm
  · rw [setNode_len]
    rcases List.mem_or_eq_of_mem_set hz with hz | rfl
    · exact ok.inn z hz
    · rw [hi]; exact ok.inn x hm

theorem setNode_plain (h : Plain st) (hx : st.nodes[i]? = some x) (hi : y.inn = x.inn) : Plain (setNode st i y) := by
  refine ⟨h.laid, fun j z hz => ?_, h.way⟩
  rcases get_setNode (M.lt_of_getElem? hx) hz with ⟨rfl, rfl⟩ | ⟨_, hz⟩
  · rw [hi]; exact h.inn j x hx
  · exact h.inn j z hz
end

/-! ### The tree -/
theorem _root_.Go.Proofs.YtdmdgnghaceibaaGreat.M.Treed.same {st st' : St} (h : Treed st) (hn : st'.nodes = st.nodes) (hl : st'.laid = st.laid) : Treed st' := by
  obtain ⟨n', l', f', c'⟩ := st'
  obtain ⟨n, l, f, c⟩ := st
  simp only at hn hl
  subst hn hl
  exact ⟨h.root, h.inn, h.uniq, h.laid, h.one⟩

theorem mAttach_laid (st : St) (n : Int) : (mAttach st n).1.laid = st.laid := by
  unfold mAttach
  split
  · split <;> rfl
  · rfl
theorem mClunk_laid (st : St) (n : Int) : (mClunk st n).1.laid = st.laid := by
  unfold mClunk
  split <;> rfl
theorem mOpen_laid (st : St) (n : Int) : (mOpen st n).1.laid = st.laid := by
  unfold mOpen
  split
  · rfl
  · split
    · rfl
    · split
      · rfl
      · split <;> rfl
theorem mWalk_laid (st : St) (n tto : Int) (names : List ByteArray) : (mWalk st n tto names).1.laid = st.laid := by
  unfold mWalk
  split
  · rfl
  · split
    · rfl
    · split
      · split
        · unfold mWalkTo; split <;> rfl
        · rfl
      · rfl

theorem lies_none {st : St} {d : Nat} {s : ByteArray} (h : lies st d s = none) {j : Nat} {y : Nd} (hy : st.nodes[j]? = some y) (hi : y.inn = (d : Int)) (hg : y.gone = false) : y.name ≠ s := by
  rintro rfl
  unfold lies at h
  rw [List.findIdx?_eq_none_iff] at h
  have := h y (List.mem_of_getElem? hy)
  unfold liesHere at this
  simp [hi, hg] at this

theorem isGone_withNode {st : St} {x : Nd} {d : Nat} (hd : d < st.nodes.length) : isGone (withNode st x) d = isGone st d := by
  unfold isGone
  rw [get_withNode, if_neg (by omega)]

theorem _root_.Go.Proofs.YtdmdgnghaceibaaGreat.M.Treed.withNode {st : St} (T : Treed st) {name : ByteArray} {dir : Bool} {d : Nat} (hd : d < st.nodes.length) (hdir : isDir st d = true) (hg : isGone st d = false) (hno : lies st d name = none) : Treed (withNode st (newNd name dir d)) := by
  have h0 : 0 < st.nodes.length := by omega
  refine ⟨?_, fun i x hx hi => ?_, fun i j x y hx hy gx gy hin hname => ?_, fun l hl => ?_, T.one⟩
  · obtain ⟨x, hx, r⟩ := T.root
    exact ⟨x, by rw [get_withNode, if_neg (by omega)]; exact hx, r⟩
  · rw [get_withNode] at hx
    split at hx
    · rename_i e
      cases hx
      exact ⟨d, rfl, by omega, by rw [isDir_withNode hd]; exact hdir, fun _ => by rw [isGone_withNode hd]; exact hg⟩
    · obtain ⟨p, h1, h2, h3, h4⟩ := T.inn i x hx hi
      have hp : p < st.nodes.length := by have := M.lt_of_getElem? hx; omega
      exact ⟨p, h1, h2, by rw [isDir_withNode hp]; exact h3, fun hg => by rw [isGone_withNode hp]; exact h4 hg⟩
  · have hx : (M.withNode st (newNd name dir d)).nodes[i]? = some x := hx
    have hy : (M.withNode st (newNd name dir d)).nodes[j]? = some y := hy
    rw [get_withNode] at hx hy
    split at hx
    · rename_i e1
      cases hx
      split at hy
      · omega
      · exact absurd hname.symm (lies_none hno hy hin.symm gy)
    · split at hy
      · rename_i e2
        cases hy
        exact absurd hname (lies_none hno hx hin gx)
      · exact T.uniq i j x y hx hy gx gy hin hname
  · obtain ⟨h1, h2, h3, h4⟩ := T.laid l hl
    exact ⟨by simp [M.withNode]; omega, by rw [isGone_withNode h1]; exact h2, by rw [isDir_withNode h1]; exact h3, h4⟩

theorem mCreate_treed {st : St} (ok : POk st) (T : Treed st) (n : Int) (name : ByteArray) (dir : Bool) : Treed (mCreate st n name dir).1 := by
  have Tt : Treed (tick st) := T.same rfl rfl
  cases hf : find st n with
  | none => unfold mCreate; rw [hf]; exact Tt
  | some i =>
    obtain ⟨f, hi, hn, _⟩ := fidAt_find hf
    cases hop : f.op with
    | true => unfold mCreate; rw [hf]; simp only; rw [hi]; simp only; rw [if_pos hop]; exact Tt
    | false =>
      have hm := List.mem_of_getElem? hi
      have hne := (ok.way f hm).1
      have hsp : f.way.getLast? = some (f.way.getLast hne) := List.getLast?_eq_some_getLast hne
      generalize f.way.getLast hne = sp at hsp
      by_cases he : createE st sp name = 0
      · obtain ⟨_, _, hnm, hsee, ⟨m, hmk⟩, hlive⟩ := createE_zero he
        rw [mCreate_ok hf hi hop hsp he hmk]
        obtain ⟨hmr, hmg⟩ := makerOf_mem hmk
        have hmd := (((ok.way f hm).2 sp (List.mem_of_getLast? hsp)).2.1 m hmr)
        exact (Treed.withNode (dir := dir) Tt hmd.1 hmd.2 hmg (seenIn_none hsee m hmr hmg)).same rfl rfl
      · rw [mCreate_err hf hi hop hsp he]
        exact Tt

theorem _root_.Go.Proofs.YtdmdgnghaceibaaGreat.M.Treed.setSame {st : St} (T : Treed st) {i : Nat} {x y : Nd} (hx : st.nodes[i]? = some x) (hs : SameNd x y) : Treed (setNode st i y) := by
  have hi := M.lt_of_getElem? hx
  have dirs := fun d => isDir_setNode (y := y) hx hs.dir d
  have gones : ∀ d, isGone (setNode st i y) d = isGone st d := fun d => by
    rw [isGone_setNode hx]
    split
    · rename_i e
      subst e
      simp [isGone, hx, hs.gone]
    · rfl
  have back : ∀ (j : Nat) (z : Nd), (setNode st i y).nodes[j]? = some z → ∃ z', st.nodes[j]? = some z' ∧ SameNd z' z := fun j z hz => by
    rcases get_setNode hi hz with ⟨rfl, rfl⟩ | ⟨_, hz⟩
    · exact ⟨x, hx, hs⟩
    · exact ⟨z, hz, rfl, rfl, rfl, rfl⟩
  refine ⟨?_, fun j z hz hj => ?_, fun a b za zb ha hb ga gb hin hname => ?_, fun l hl => ?_, T.one⟩
  · obtain ⟨r, hr, h1, h2, h3⟩ := T.root
    by_cases e : i = 0
    · subst e
      rw [hr] at hx
      cases hx
      exact ⟨y, by simp only [setNode]; exact List.getElem?_set_self hi, hs.dir.trans h1, hs.gone.trans h2, hs.inn.trans h3⟩
    · exact ⟨r, by simp only [setNode]; rw [List.getElem?_set_ne e]; exact hr, h1, h2, h3⟩
  · obtain ⟨z', hz', hsz⟩ := back j z hz
    obtain ⟨p, h1, h2, h3, h4⟩ := T.inn j z' hz' hj
    exact ⟨p, hsz.inn.trans h1, h2, by rw [dirs]; exact h3, fun hg => by rw [gones]; exact h4 (hsz.gone.symm.trans hg)⟩
  · obtain ⟨za', ha', sa⟩ := back a za ha
    obtain ⟨zb', hb', sb⟩ := back b zb hb
    exact T.uniq a b za' zb' ha' hb' (sa.gone.symm.trans ga) (sb.gone.symm.trans gb) (sa.inn.symm.trans (hin.trans sb.inn)) (sa.name.symm.trans (hname.trans sb.name))
  · obtain ⟨h1, h2, h3, h4⟩ := T.laid l hl
    exact ⟨by rw [setNode_len]; exact h1, by rw [gones]; exact h2, by rw [dirs]; exact h3, h4⟩

theorem _root_.Go.Proofs.YtdmdgnghaceibaaGreat.M.Treed.setGone {st : St} (T : Treed st) {i : Nat} {x : Nd} (hx : st.nodes[i]? = some x) (h0 : i ≠ 0) (hb : x.dir = true → mBusy st i = false) : Treed (setNode st i (goneNd x)) := by
  have hi := M.lt_of_getElem? hx
  have dirs := fun d => isDir_setNode (y := goneNd x) hx rfl d
  have gones := fun d => isGone_setNode (y := goneNd x) hx d
  have noEntry : ∀ j z, st.nodes[j]? = some z → z.gone = false → 0 < j → z.inn ≠ (i : Int) := fun j z hz hg hj hin => by
    obtain ⟨p, h1, h2, h3, h4⟩ := T.inn j z hz hj
    have hpi : p = i := by omega
    subst hpi
    have hxd : x.dir = true := by simpa [isDir, hx] using h3
    have := hb hxd
    rw [busy_split] at this
    have he : hasEntry st p = true := by
      unfold hasEntry
      rw [List.any_eq_true]
      exact ⟨z, List.mem_of_getElem? hz, by simp [isEntry, hin, hg]⟩
    rw [he] at this
    simp at this
  have back : ∀ (j : Nat) (z : Nd), (setNode st i (goneNd x)).nodes[j]? = some z → ∃ z' : Nd, st.nodes[j]? = some z' ∧ z.name = z'.name ∧ z.inn = z'.inn ∧ (z.gone = false → z'.gone = false) := fun j z hz => by
    rcases get_setNode hi hz with ⟨rfl, rfl⟩ | ⟨_, hz⟩
    · exact ⟨x, hx, rfl, rfl, fun h => by simp [goneNd] at h⟩
    · exact ⟨z, hz, rfl, rfl, fun h => h⟩
  refine ⟨?_, fun j z hz hj => ?_, fun a b za zb ha hb ga gb hin hname => ?_, fun l hl => ?_, T.one⟩
  · obtain ⟨r, hr, h1, h2, h3⟩ := T.root
    exact ⟨r, by simp only [setNode]; rw [List.getElem?_set_ne h0]; exact hr, h1, h2, h3⟩
  · obtain ⟨z', hz', _, hin, hgg⟩ := back j z hz
    obtain ⟨p, h1, h2, h3, h4⟩ := T.inn j z' hz' hj
    refine ⟨p, hin.trans h1, h2, by rw [dirs]; exact h3, fun hg => ?_⟩
    rw [gones, if_neg (fun e => noEntry j z' hz' (hgg hg) hj (by rw [h1, e]))]
    exact h4 (hgg hg)
  · obtain ⟨za', ha', na, ia, ga'⟩ := back a za ha
    obtain ⟨zb', hb', nb, ib, gb'⟩ := back b zb hb
    exact T.uniq a b za' zb' ha' hb' (ga' ga) (gb' gb) (ia.symm.trans (hin.trans ib)) (na.symm.trans (hname.trans nb))
  · obtain ⟨h1, h2, h3, h4⟩ := T.laid l hl
    refine ⟨by rw [setNode_len]; exact h1, ?_, by rw [dirs]; exact h3, h4⟩
    rw [gones, if_neg (fun e => ?_)]
    · exact h2
    · have hxd : x.dir = true := by rw [e] at h3; simpa [isDir, hx] using h3
      have := hb hxd
      rw [busy_split] at this
      have hs : (st.laid.find? (fun l => l.onto == i)).isSome = true := by
        rw [List.find?_isSome]
        exact ⟨l, hl, by simpa using e⟩
      rw [hs] at this
      simp at this

/-! ### Write, Remove -/
/-- What Write makes of a state. -/
theorem mWrite_cases (st : St) (n a : Int) (t : ByteArray) : (mWrite st n a t).1 = tick st ∨ ∃ i x, st.nodes[i]? = some x ∧ 0 ≤ a ∧ a + t.size ≤ 300 ∧ (mWrite st n a t).1 = setNode (tick st) i (wroteNd x a.toNat t) := by
  unfold mWrite
  split
  · split
    · exact .inl rfl
    · split
      · exact .inl rfl
      · rename_i h1 h2
        split
        · exact .inl rfl
        · split
          · exact .inl rfl
          · split
            · exact .inl rfl
            · rename_i f _ _ x hx
              exact .inr ⟨nodeOf f, x, hx, by omega, by omega, rfl⟩
  · exact .inl rfl

/-- What Remove makes of a state. -/
theorem mRemove_cases (st : St) (n : Int) : (mRemove st n).1 = tick st ∨ (∃ i, (mRemove st n).1 = mDrop (tick st) i) ∨
    ∃ i k x, st.nodes[k]? = some x ∧ x.gone = false ∧ k ≠ 0 ∧ (x.dir = true → mBusy st k = false) ∧ (mRemove st n).1 = setNode (mDrop (tick st) i) k (goneNd x) := by
  unfold mRemove
  split
  · exact .inl rfl
  · split
    · exact .inl rfl
    · split
      · exact .inl rfl
      · rename_i i _ _ f _ _ x hx
        split
        · exact .inr (.inl ⟨i, rfl⟩)
        · split
          · exact .inr (.inl ⟨i, rfl⟩)
          · split
            · exact .inr (.inl ⟨i, rfl⟩)
            · rename_i h1 h2 h3
              refine .inr (.inr ⟨i, nodeOf f, x, hx, by simpa using h1, h2, fun hd => ?_, rfl⟩)
              rw [hd] at h3
              simpa using h3

theorem mWrite_ok {st : St} (ok : POk st) (n a : Int) (t : ByteArray) : POk (mWrite st n a t).1 := by
  rcases mWrite_cases st n a t with e | ⟨i, x, hx, _, _, e⟩
  · rw [e]; exact ok.tick
  · rw [e]
    have hs := wrote_same x a.toNat t
    exact setNode_ok (st := tick st) ok.tick hx hs.name hs.dir hs.inn (by rw [live_setNode (st := tick st) hx hs]; exact ok.live)
theorem mWrite_plain {st : St} (h : Plain st) (n a : Int) (t : ByteArray) : Plain (mWrite st n a t).1 := by
  rcases mWrite_cases st n a t with e | ⟨i, x, hx, _, _, e⟩
  · rw [e]; exact h.tick
  · rw [e]; exact setNode_plain (st := tick st) h.tick hx (wrote_same x a.toNat t).inn
theorem mWrite_treed {st : St} (T : Treed st) (n a : Int) (t : ByteArray) : Treed (mWrite st n a t).1 := by
  have Tt : Treed (tick st) := T.same rfl rfl
  rcases mWrite_cases st n a t with e | ⟨i, x, hx, _, _, e⟩
  · rw [e]; exact Tt
  · rw [e]; exact Tt.setSame hx (wrote_same x a.toNat t)
theorem mWrite_len (st : St) (n a : Int) (t : ByteArray) : (mWrite st n a t).1.nodes.length = st.nodes.length := by
  rcases mWrite_cases st n a t with e | ⟨i, x, hx, _, _, e⟩
  · rw [e]; rfl
  · rw [e, setNode_len]; rfl

theorem mRemove_ok {st : St} (ok : POk st) (n : Int) : POk (mRemove st n).1 := by
  rcases mRemove_cases st n with e | ⟨i, e⟩ | ⟨i, k, x, hx, hg, _, _, e⟩
  · rw [e]; exact ok.tick
  · rw [e]; exact mDrop_ok ok.tick i
  · rw [e]
    refine setNode_ok (st := mDrop (tick st) i) (mDrop_ok ok.tick i) hx rfl rfl rfl ?_
    have h1 := live_gone (st := mDrop (tick st) i) hx hg
    have h2 : liveNodes (mDrop (tick st) i).nodes ≤ 100 := ok.live
    omega
theorem mRemove_plain {st : St} (h : Plain st) (n : Int) : Plain (mRemove st n).1 := by
  rcases mRemove_cases st n with e | ⟨i, e⟩ | ⟨i, k, x, hx, hg, _, _, e⟩
  · rw [e]; exact h.tick
  · rw [e]; exact mDrop_plain h.tick i
  · rw [e]; exact setNode_plain (st := mDrop (tick st) i) (mDrop_plain h.tick i) hx rfl
theorem mRemove_treed {st : St} (T : Treed st) (n : Int) : Treed (mRemove st n).1 := by
  have Tt : Treed (tick st) := T.same rfl rfl
  rcases mRemove_cases st n with e | ⟨i, e⟩ | ⟨i, k, x, hx, hg, h0, hb, e⟩
  · rw [e]; exact Tt
  · rw [e]; exact T.same rfl rfl
  · rw [e]; exact Treed.setGone (st := mDrop (tick st) i) (T.same rfl rfl) hx h0 hb
theorem mRemove_len (st : St) (n : Int) : (mRemove st n).1.nodes.length = st.nodes.length := by
  rcases mRemove_cases st n with e | ⟨i, e⟩ | ⟨i, k, x, hx, hg, _, _, e⟩
  · rw [e]; rfl
  · rw [e]; rfl
  · rw [e, setNode_len]; rfl

/-! ### How many bytes a file has -/
def Small (st : St) : Prop := ∀ x ∈ st.nodes, x.data.size ≤ 300
theorem Small.same {st st' : St} (h : Small st) (hn : st'.nodes = st.nodes) : Small st' := by unfold Small; rw [hn]; exact h
theorem over_size {d t : ByteArray} {a : Nat} (hd : d.size ≤ 300) (ht : a + t.size ≤ 300) : (over d a t).size ≤ 300 := by
  have hp := size_padded d a
  unfold over
  split
  · rw [ByteArray.size_append, ByteArray.size_append, ByteArray.size_extract, ByteArray.size_extract]
    omega
  · rw [ByteArray.size_append, ByteArray.size_append, ByteArray.size_extract]
    have : (⟨#[]⟩ : ByteArray).size = 0 := rfl
    omega
theorem mWrite_small {st : St} (h : Small st) (n a : Int) (t : ByteArray) : Small (mWrite st n a t).1 := by
  rcases mWrite_cases st n a t with e | ⟨i, x, hx, h0, h3, e⟩
  · rw [e]; exact h
  · rw [e]
    intro z hz
    rcases List.mem_or_eq_of_mem_set hz with hz | rfl
    · exact h z hz
    · have hd := h x (List.mem_of_getElem? hx)
      unfold wroteNd
      split
      · exact hd
      · exact over_size hd (by omega)
theorem mRemove_small {st : St} (h : Small st) (n : Int) : Small (mRemove st n).1 := by
  rcases mRemove_cases st n with e | ⟨i, e⟩ | ⟨i, k, x, hx, hg, _, _, e⟩
  · rw [e]; exact h
  · rw [e]; exact h
  · rw [e]
    intro z hz
    rcases List.mem_or_eq_of_mem_set hz with hz | rfl
    · exact h z hz
    · exact h x (List.mem_of_getElem? hx)
theorem mCreate_small {st : St} (ok : POk st) (h : Small st) (n : Int) (name : ByteArray) (dir : Bool) : Small (mCreate st n name dir).1 := by
  cases hf : find st n with
  | none => unfold mCreate; rw [hf]; exact h
  | some i =>
    obtain ⟨f, hi, hn, _⟩ := fidAt_find hf
    cases hop : f.op with
    | true => unfold mCreate; rw [hf]; simp only; rw [hi]; simp only; rw [if_pos hop]; exact h
    | false =>
      have hm := List.mem_of_getElem? hi
      have hne := (ok.way f hm).1
      have hsp : f.way.getLast? = some (f.way.getLast hne) := List.getLast?_eq_some_getLast hne
      generalize f.way.getLast hne = sp at hsp
      by_cases he : createE st sp name = 0
      · obtain ⟨_, _, hnm, hsee, ⟨m, hmk⟩, hlive⟩ := createE_zero he
        rw [mCreate_ok hf hi hop hsp he hmk]
        intro z hz
        have hz : z ∈ st.nodes ++ [newNd name dir m.d] := hz
        rcases List.mem_append.1 hz with hz | hz
        · exact h z hz
        · simp at hz; subst hz; simp [newNd, ByteArray.size]
      · rw [mCreate_err hf hi hop hsp he]
        exact h

/-! ### How few names there are -/
theorem nodup_le {α : Type} [DecidableEq α] : ∀ (l k : List α), l.Nodup → (∀ a ∈ l, a ∈ k) → l.length ≤ k.length
  | [], k, _, _ => by simp
  | a :: l, k, hn, hs => by
    obtain ⟨ha, hl⟩ := List.nodup_cons.1 hn
    have hak : a ∈ k := hs a (by simp)
    have h1 := nodup_le l (k.erase a) hl (fun b hb => (List.mem_erase_of_ne (fun (e : b = a) => ha (by rw [← e]; exact hb))).2 (hs b (by simp [hb])))
    have h2 := List.length_erase_of_mem hak
    have h3 := List.length_pos_of_mem hak
    simp only [List.length_cons]
    omega

def liveNames (st : St) : List ByteArray := (st.nodes.filter fun x => !x.gone).map (·.name)
theorem liveNames_len (st : St) : (liveNames st).length = liveNodes st.nodes := by simp [liveNames, liveNodes]
theorem lies_live {st : St} {d : Nat} {s : ByteArray} (h : (lies st d s).isSome = true) : s ∈ liveNames st := by
  unfold lies at h
  rw [List.findIdx?_isSome, List.any_eq_true] at h
  obtain ⟨x, hx, hl⟩ := h
  unfold liesHere at hl
  simp only [Bool.and_eq_true, beq_iff_eq, decide_eq_true_eq, Bool.not_eq_true'] at hl
  exact List.mem_map.2 ⟨x, List.mem_filter.2 ⟨hx, by simp [hl.2]⟩, bytes_same hl.1.2⟩
theorem seenIn_live {st : St} {s : ByteArray} {row : List Member} (h : (seenIn st s row).isSome = true) : s ∈ liveNames st := by
  obtain ⟨c, hc⟩ := Option.isSome_iff_exists.1 h
  obtain ⟨m, _, hl⟩ := seenIn_in hc
  exact lies_live (d := m.d) (by rw [hl]; rfl)
theorem names_nodup (st : St) (d : Nat) : (namesOf st d).Nodup := List.Pairwise.imp (fun {a b} (hab : ltB a b) (e : a = b) => by subst e; exact ltB_irrefl a hab) (names_sorted st d)

instance : DecidableEq ByteArray := fun a b => if h : a.data = b.data then .isTrue (by cases a; cases b; simpa using h) else .isFalse (fun e => h (by rw [e]))

theorem names_few {st : St} (ok : POk st) (d : Nat) : (namesOf st d).length ≤ 100 := by
  have := nodup_le (namesOf st d) (liveNames st) (names_nodup st d) (fun s hs => lies_live (M.mem_names.1 hs))
  rw [liveNames_len] at this
  exact Nat.le_trans this ok.live

theorem listUpto_nodup (st : St) (row : List Member) : ∀ k, k ≤ row.length → (listUpto st row k).Nodup
  | 0, _ => by simp [listUpto]
  | k + 1, hk => by
    have ih := listUpto_nodup st row k (by omega)
    obtain ⟨m, hm⟩ := M.getElem?_of_lt (show k < row.length by omega)
    cases hg : isGone st m.d with
    | true => rw [upto_gone hm hg]; exact ih
    | false =>
      rw [upto_live hm hg, List.nodup_append]
      refine ⟨ih, (names_nodup st m.d).filter _, fun a ha b hb e => ?_⟩
      subst e
      have h1 := (mem_listUpto st row a k (by omega)).1 ha
      have h2 := (List.mem_filter.1 hb).2
      rw [Option.isNone_iff_eq_none] at h2
      rw [h2] at h1
      cases h1
theorem listUpto_few {st : St} (ok : POk st) (row : List Member) (k : Nat) (hk : k ≤ row.length) : (listUpto st row k).length ≤ 100 := by
  have := nodup_le (listUpto st row k) (liveNames st) (listUpto_nodup st row k hk) (fun s hs => seenIn_live ((mem_listUpto st row s k hk).1 hs))
  rw [liveNames_len] at this
  exact Nat.le_trans this ok.live
end Go.Proofs.YtdmdgnghaceibaaGreat.P
/- The program's directory.carries. -/
namespace Go.Proofs.YtdmdgnghaceibaaGreat.P
open M Go.ChangeShapes Go.WideShapes Go.ChangeAt Go.RowKit
set_option linter.unusedVariables false

/-- A directory, or one that lies in it, has another one laid onto it. -/
noncomputable def carB (st : St) (i d : Nat) : Bool := @decide (∃ j l, Under st i j ∧ st.laid.find? (fun z => z.onto == j) = some l ∧ rowHas l.row d = true) (Classical.propDecidable _)

theorem carB_iff {st : St} {i d : Nat} : carB st i d = true ↔ ∃ j l, Under st i j ∧ st.laid.find? (fun z => z.onto == j) = some l ∧ rowHas l.row d = true := by
  unfold carB
  exact @decide_eq_true_iff _ (Classical.propDecidable _)

theorem carB_child {st : St} {i c d : Nat} {x : Nd} (hx : st.nodes[c]? = some x) (hi : x.inn = (i : Int)) (hg : x.gone = false) (hd : x.dir = true) (h : carB st c d = true) : carB st i d = true := by
  obtain ⟨j, l, hu, r⟩ := carB_iff.1 h
  exact carB_iff.2 ⟨j, l, .down hx hi hg hd hu, r⟩

theorem lies_at {st : St} {i c : Nat} {s : ByteArray} (h : lies st i s = some c) : ∃ x, st.nodes[c]? = some x ∧ x.inn = (i : Int) ∧ x.gone = false ∧ x.name = s := by
  unfold lies at h
  rw [List.findIdx?_eq_some_iff_getElem] at h
  obtain ⟨hc, hp, _⟩ := h
  unfold liesHere at hp
  simp only [Bool.and_eq_true, beq_iff_eq, decide_eq_true_eq, Bool.not_eq_true'] at hp
  exact ⟨st.nodes[c], List.getElem?_eq_getElem hc, hp.1.1, hp.2, bytes_same hp.1.2⟩

theorem lies_of {st : St} (hu : UniqL st.nodes) {i c : Nat} {x : Nd} (hx : st.nodes[c]? = some x) (hi : x.inn = (i : Int)) (hg : x.gone = false) : lies st i x.name = some c := by
  have hs : (lies st i x.name).isSome = true := by
    unfold lies
    rw [List.findIdx?_isSome, List.any_eq_true]
    exact ⟨x, List.mem_of_getElem? hx, by simp [liesHere, hi, hg]⟩
  obtain ⟨c', hc'⟩ := Option.isSome_iff_exists.1 hs
  obtain ⟨y, hy, h1, h2, h3⟩ := lies_at hc'
  rw [hc', hu c' c y x hy hx h2 hg (h1.trans hi.symm) h3]

theorem carB_no {st : St} (hu : UniqL st.nodes) {i d : Nat} (h0 : ∀ l, st.laid.find? (fun z => z.onto == i) = some l → rowHas l.row d = false) (h1 : ∀ s c, lies st i s = some c → isDir st c = true → carB st c d = false) : carB st i d = false := by
  cases hc : carB st i d with
  | false => rfl
  | true =>
    exfalso
    obtain ⟨j, l, hu', hf, hr⟩ := carB_iff.1 hc
    cases hu' with
    | here => rw [h0 l hf] at hr; cases hr
    | down hx hi hg hd h =>
      rename_i c x
      have := h1 x.name c (lies_of hu hx hi hg) (by simp [isDir, hx, hd])
      have h2 := carB_iff.2 ⟨j, l, h, hf, hr⟩
      rw [this] at h2
      cases h2

/-- The row that is bound onto a directory; none: nothing is. -/
def boundRow (st : St) (i : Nat) : List Member := match st.laid.find? (fun l => l.onto == i) with | some l => l.row | none => []

theorem DirIs.boundRow {w : World} {F : Nat → Prop} {L : Lay} {st : St} {i : Nat} {x : Nd} (h : DirIs w F L st i x) : ∃ ao c, w.cell? ⟨L.nb i, 4, none⟩ = some (.slice ao (boundRow st i).length c) ∧ PRow w F L (.slice ao (boundRow st i).length c) (boundRow st i) ∧ ((st.laid.find? (fun l => l.onto == i)).isSome = false → ao = none ∧ c = 0) ∧ ((st.laid.find? (fun l => l.onto == i)).isSome = true → ∃ g, ao = some ⟨g, 0, none⟩) := by
  obtain ⟨v, c4, hv⟩ := h.bound
  unfold P.boundRow
  cases ho : st.laid.find? (fun l => l.onto == i) with
  | none =>
    rw [ho] at hv
    have hv : v = .slice none 0 0 := hv
    subst hv
    exact ⟨none, 0, c4, Own.nil _ _ _ _, fun _ => ⟨rfl, rfl⟩, fun h => by cases h⟩
  | some l =>
    rw [ho] at hv
    obtain ⟨h1, h2⟩ := hv
    rcases h1.opened with ⟨rfl, hn⟩ | ⟨g, cap, rfl, _⟩
    · exact absurd (List.map_eq_nil_iff.1 hn) h2
    · have e : (l.row.map (mCells L)).length = l.row.length := by simp
      rw [e] at c4 h1
      exact ⟨some ⟨g, 0, none⟩, cap, c4, h1, fun h => by simp at h, fun _ => ⟨g, rfl⟩⟩

theorem ownsMap_kept {w w' : World} {b n : Nat} {D : DataW Value} (h : w.ownsMap Tryz.prog 9 rawElem b n D) (hk : w'.heap[b]? = w.heap[b]?) : w'.ownsMap Tryz.prog 9 rawElem b n D := by
  obtain ⟨es, c, hb, r⟩ := h
  exact ⟨es, c, hk.trans hb, r⟩

theorem grown_of_below {w w' : World} (h : Below w.heap.size w w') : w.grownBy w' none := ⟨h.os, h.tape, h.output, h.size, fun k hk _ => h.block k hk⟩

/-- What an entry that has come is. -/
theorem entry_is {f : ByteArray → Option Value} {D : DataW Value} (hf : ∀ s : ByteArray, s.size ≤ maxLen → Go.Maps.has D (.string s.data.toList) = (f s).isSome ∧ ∀ v, f s = some v → ∀ z, D.atKey (.string s.data.toList) z = .held v)
    {x : List UInt8} {c : Value} {y : DataW Value × List MemPlace} (hx : x.length ≤ maxLen) (hv : rawElem c = some y) (hat : ∀ zd, D.atKey (.string x) zd = y.1) : f ⟨x.toArray⟩ = some c := by
  have hs : (⟨x.toArray⟩ : ByteArray).size ≤ maxLen := by simpa [ByteArray.size] using hx
  obtain ⟨h1, h2⟩ := hf ⟨x.toArray⟩ hs
  unfold rawElem at hv
  simp only [Option.some.injEq] at hv
  subst hv
  cases hh : f ⟨x.toArray⟩ with
  | none =>
    rw [hh] at h1
    have e1 := Go.Maps.atKey_of_not_has (z := .held (.bool true)) h1
    have e2 := Go.Maps.atKey_of_not_has (z := .held (.bool false)) h1
    have k1 := hat (.held (.bool true))
    have k2 := hat (.held (.bool false))
    simp only at e1 e2 k1 k2
    rw [e1] at k1
    rw [e2] at k2
    rw [← k2] at k1
    simp at k1
  | some v =>
    have e := h2 v hh (.held .nilIface)
    simp only at e
    rw [hat] at e
    simp at e
    rw [e]

set_option maxRecDepth 20000 in
set_option maxHeartbeats 2000000 in
theorem carries_any {F : Nat → Prop} {t : Nat} {st : St} {L : Lay} {bv : Nat → Value} (T : Treed st) (ok : POk st) (d : Nat) (hd : d < st.nodes.length) (hdd : M.isDir st d = true) : ∀ (n i : Nat) (w : World), st.nodes.length ≤ i + n → i < st.nodes.length → isDir st i = true → TreeIs w F t st L bv →
    Calls Tryz.prog 133 #[.pointer (some ⟨L.nb i, 0, none⟩), .pointer (some ⟨L.nb d, 0, none⟩)] w fun e w' => e = .returned (.bool (carB st i d)) ∧ Below w.heap.size w w'
  | 0, i, w, hn, hi, _, _ => by omega
  | n + 1, i, w, hn, hi, hdir, h => by
    have IH := hide (carries_any (F := F) (t := t) (L := L) (bv := bv) T ok d hd hdd n)
    obtain ⟨x, hx, D, _, hlt⟩ := h.member hi hdir
    obtain ⟨ao, bc, c4, hrow, _, _⟩ := D.boundRow
    have c3 := D.c3
    obtain ⟨Dm, hown, hfm⟩ := D.map
    have hmlt := D.map.lt
    have hrd : RowDirs st (boundRow st i) := fun m hm => by
      unfold boundRow at hm
      split at hm
      · rename_i l hl
        exact (ok.laid l (List.mem_of_find?_eq_some hl)).1 m hm
      · simp at hm
    have HH := hide (has_any (boundRow st i) _ d h hrow hrd hd hdd)
    unfold dirPtr at HH
    have HT := hide h
    have HF := hide hfm
    have HO := hide hown
    cases hb : rowHas (boundRow st i) d with
    | true =>
      rw [hb] at HH
      have HC := hide (show carB st i d = true by
        unfold boundRow at hb
        split at hb
        · rename_i l hl
          exact carB_iff.2 ⟨i, l, .here i, hl, hb⟩
        · simp [rowHas] at hb)
      clear hfm hown h D hrow hrd hx hb
      go_enter Tryz.func133, Tryz.ntmps133
      go_wp2_with (go_at_call 168; refine HH.out.mono ?_; rintro e w1 ⟨rfl, hb1⟩; have HB1 := hide hb1; clear hb1)
      go_ret
      exact ⟨by rw [HC.out]; rfl, HB1.out⟩
    | false =>
      rw [hb] at HH
      have HC0 := hide (show ∀ l, st.laid.find? (fun z => z.onto == i) = some l → rowHas l.row d = false from fun l hl => by
        unfold boundRow at hb
        rw [hl] at hb
        exact hb)
      clear hfm hown h D hrow hrd hx hb
      go_enter Tryz.func133, Tryz.ntmps133
      go_wp2_with fail
      refine HH.out.mono ?_
      rintro e w1 ⟨rfl, hb1⟩
      have HB1 := hide hb1
      have d3 : w1.cell? ⟨L.nb i, 3, none⟩ = some (.map (some (L.mb i))) := (hb1.cell (p := ⟨L.nb i, 3, none⟩) hlt).trans c3
      have hown1 := ownsMap_kept HO.out (hb1.block _ hmlt)
      clear hb1
      go_wp2_with (at_range; refine wpList_range_own _ rfl _ 166 rfl 9 115 strKeyed Tryz.underlying166 rawElem (L.mb i) st.nodes.length Dm rfl hown1 ?_; intro w0 hrg0 hg0 hs0)
      go_frame
      have Hrg0 := hide hrg0
      have HB0 := hide (show Below w.heap.size w w0 from HB1.out.trans ⟨hg0.os, hg0.tape, hg0.output, hg0.size, fun k hk => hg0.block k (by have := HB1.out.size; omega) (by simp)⟩)
      clear hrg0 hg0 hs0 hown1
      go_loopw [6] (fun _ wr => ∃ (left : Lit → Bool) (cnt : Nat), wr.ranges Tryz.prog 9 rawElem (L.mb i) w1.heap.size st.nodes.length Dm left cnt ∧ Below w.heap.size w wr ∧ ∀ (s : ByteArray) (c : Nat), s.size ≤ maxLen → left (.string s.data.toList) = false → lies st i s = some c → isDir st c = true → carB st c d = false) (fun _ wr => wr.rangeLeft (L.mb i) w1.heap.size)
      case atStart =>
        refine ⟨_, _, Hrg0.out, HB0.out, fun s c hs hl hc _ => ?_⟩
        rw [(HF.out s hs).1, hc] at hl
        cases hl
      case round =>
        obtain ⟨left, cnt, hrg, hbel, hdone⟩ := hrel
        have Hbel := hide hbel
        have Hdone := hide hdone
        have Hrg := hide hrg
        clear hbel hdone
        go_wp2_with (at_next; refine wpList_next_ranges _ rfl _ rfl 9 strKeyed rawElem encStr (fun v : Value => v) (fun key kl hk => by obtain ⟨x, hx, _⟩ := Maps.keyOf_str Tryz.underlying9 hk; exact ⟨x, hx⟩) (fun v y hv => ⟨v, rfl⟩) (L.mb i) w1.heap.size st.nodes.length _ _ _ rfl hrg ?_ ?_)
        · intro _ hl0
          have HC := hide (show carB st i d = false from carB_no T.uniq HC0.out (fun s c hc hcd => by
            obtain ⟨y, hy, _, _, hny⟩ := lies_at hc
            have := ok.names y (List.mem_of_getElem? hy)
            exact Hdone.out s c (by rw [← hny]; unfold maxLen; omega) (hl0 _) hc hcd))
          clear hl0
          go_wp2
          go_ret
          exact ⟨by rw [HC.out]; rfl, Hbel.out⟩
        · intro x c kl yd yp w2 cnt2 hkey hlk hv hat hrg2 hlt2 hg2 hs2 hen
          obtain ⟨x', ex, rfl, hxl⟩ := Maps.keyOf_str Tryz.underlying9 hkey
          obtain rfl : x = x' := encStr_inj ex
          have hfc := entry_is HF.out hxl hv hat
          obtain ⟨ch, hch, rfl⟩ : ∃ ch, lies st i ⟨x.toArray⟩ = some ch ∧ nodeV L ch = c := by
            cases hl : lies st i ⟨x.toArray⟩ with
            | none => rw [hl] at hfc; simp at hfc
            | some ch => rw [hl] at hfc; exact ⟨ch, rfl, by simpa using hfc⟩
          obtain ⟨y, hy, hyi, hyg, hyn⟩ := lies_at hch
          have hclt : ch < st.nodes.length := M.lt_of_getElem? hy
          have hic : i < ch := by
            rcases Nat.eq_zero_or_pos ch with rfl | h0
            · obtain ⟨r, hr, _, _, hri⟩ := T.root
              rw [hr] at hy
              cases hy
              omega
            · obtain ⟨p, h1, h2, _⟩ := T.inn ch y hy h0
              omega
          have hb2 : Below w.heap.size w w2 := Hbel.out.trans ⟨hg2.os, hg2.tape, hg2.output, hg2.size, fun k hk => hg2.block k (by have := Hbel.out.size; omega) (by have := HB1.out.size; simp; omega)⟩
          have Hrg2 := hide hrg2
          have Hlt2 := hide hlt2
          have HB2 := hide hb2
          have Hfid := hide (show ∀ (cnt' : Nat) (b : Bool), carB st ch d = b ∨ isDir st ch = false → b = false → ∀ (s : ByteArray) (c : Nat), s.size ≤ maxLen → (left (.string s.data.toList) && !(Lit.string s.data.toList).sameKey (.string x)) = false → lies st i s = some c → isDir st c = true → carB st c d = false from fun _ b hb hbf s c hs hl hc hcd => by
            cases hls : left (.string s.data.toList) with
            | false => exact Hdone.out s c hs hls hc hcd
            | true =>
              rw [hls] at hl
              have e : s = ⟨x.toArray⟩ := by
                have : (Lit.string s.data.toList).sameKey (.string x) = true := by simpa using hl
                have h2 : s.data.toList = x := by simpa [Lit.sameKey] using this
                exact bytes_eq (by rw [h2])
              subst e
              rw [hch] at hc
              cases hc
              rcases hb with hb | hb
              · rw [hb]; exact hbf
              · rw [hb] at hcd; cases hcd)
          have hk := HT.out.kind ch y hy
          clear hrg2 hlt2 hb2 hs2 hg2 hv hat hkey hlk ex hfc hxl
          cases hyd : y.dir with
          | true =>
            have e : nodeV L ch = .iface 87 (.pointer (some ⟨L.nb ch, 0, none⟩)) := by rw [nodeV, hk, hyd]; rfl
            have hcd : isDir st ch = true := by simp [isDir, hy, hyd]
            have HI := hide (IH.out ch w2 (by omega) hclt hcd (HT.out.kept ((KeepX.below HB2.out))))
            have HY := hide (show carB st ch d = true → carB st i d = true from fun hc => carB_child hy hyi hyg hyd hc)
            have a1 := asDir
            rw [e] at hen
            clear hy hk hyd e hch
            cases hcc : carB st ch d with
            | true =>
              rw [hcc] at HI
              have Hcc := hide hcc
              clear hcc
              go_wp2_with (go_at_call 133; refine HI.out.mono ?_; rintro e w3 ⟨rfl, hb3⟩; have HB3 := hide hb3; clear hb3)
              go_ret
              refine ⟨by rw [HY.out Hcc.out]; rfl, HB2.out.trans (HB3.out.mono HB2.out.size)⟩
            | false =>
              rw [hcc] at HI
              have Hcc := hide hcc
              clear hcc
              go_wp2_with (go_at_call 133; refine HI.out.mono ?_; rintro e w3 ⟨rfl, hb3⟩; have HB3 := hide hb3; clear hb3)
              have hrg3 := Hrg2.out.kept (grown_of_below HB3.out) (by simp) (by simp)
              refine ⟨⟨_, _, hrg3, HB2.out.trans (HB3.out.mono HB2.out.size), Hfid.out 0 false (.inl Hcc.out) rfl⟩, ?_⟩
              rw [hrg3.left_eq, Hrg.out.left_eq]
              exact Hlt2.out
          | false =>
            have e : nodeV L ch = .iface 122 (.pointer (some ⟨L.nb ch, 0, none⟩)) := by rw [nodeV, hk, hyd]; rfl
            have hcd : isDir st ch = false := by simp [isDir, hy, hyd]
            have Hcd := hide hcd
            have a2 := notDir
            rw [e] at hen
            clear hy hk hyd e hch hcd
            go_wp2
            refine ⟨⟨_, _, Hrg2.out, HB2.out, Hfid.out 0 false (.inr Hcd.out) rfl⟩, ?_⟩
            rw [Hrg2.out.left_eq, Hrg.out.left_eq]
            exact Hlt2.out
end Go.Proofs.YtdmdgnghaceibaaGreat.P
/- The program's tree.drop, tree.isBusy, tree.remove. -/
namespace Go.Proofs.YtdmdgnghaceibaaGreat.P
open M Go.ChangeShapes Go.WideShapes Go.ChangeAt Go.RowKit
set_option linter.unusedVariables false

theorem m_goAwayD (b : Nat) (w : World) : (method 413 87 (.pointer (some ⟨b, 0, none⟩)) "warren/warren.goAway").run Tryz.prog w = .ok (246, .pointer (some ⟨b, 0, none⟩)) w := by kernel_rfl
theorem m_goAwayF (b : Nat) (w : World) : (method 413 122 (.pointer (some ⟨b, 0, none⟩)) "warren/warren.goAway").run Tryz.prog w = .ok (246, .pointer (some ⟨b, 0, none⟩)) w := by kernel_rfl

theorem goAway_any (b : Nat) (x : Value) (w : World) (h : w.cell? ⟨b, 2, none⟩ = some x) (hz : w.frozen? ⟨b, 2, none⟩ = false) : Calls Tryz.prog 246 #[.pointer (some ⟨b, 0, none⟩)] w fun e w' => e = .returned (.tuple #[]) ∧ w' = w.setCell ⟨b, 2, none⟩ (.bool true) := by
  go_enter Tryz.func246, Tryz.ntmps246
  go_wp2
  go_end0
  exact ⟨rfl, rfl⟩

/-- What 'drop' leaves: a map has one entry less, a node is gone, the tree counts one less. -/
def Dropped (w : World) (t mb n b : Nat) (f : ByteArray → Option Value) (name : ByteArray) (c : Int) (e : Ending) (w' : World) : Prop :=
  ∃ w3, e = .returned (.tuple #[]) ∧ MapIs w3 mb n (fun s => if s = name then none else f s) ∧ w.drew.mapTurned w3 mb ∧ w' = (w3.setCell ⟨b, 2, none⟩ (.bool true)).setCell ⟨t, 1, none⟩ (.int .i64 c)

set_option maxRecDepth 20000 in
set_option maxHeartbeats 1000000 in
theorem drop_dir {w : World} {t mb n b d : Nat} {f : ByteArray → Option Value} {name : ByteArray} {c : Int} {x2 : Value} (hname : name.size ≤ maxLen) (hc : 0 < c ∧ c < 1000) (hbt : b ≠ t)
    (b0 : w.cell? ⟨b, 0, none⟩ = some (.string name)) (b1 : w.cell? ⟨b, 1, none⟩ = some (.pointer (some ⟨d, 0, none⟩))) (b2 : w.cell? ⟨b, 2, none⟩ = some x2) (bz : w.frozen? ⟨b, 2, none⟩ = false) (d3 : w.cell? ⟨d, 3, none⟩ = some (.map (some mb))) (t1 : w.cell? ⟨t, 1, none⟩ = some (.int .i64 c)) (tz : w.frozen? ⟨t, 1, none⟩ = false) (hm : MapIs w mb n f) :
    Calls Tryz.prog 100 #[.pointer (some ⟨t, 0, none⟩), .iface 87 (.pointer (some ⟨b, 0, none⟩))] w fun e w' => Dropped w t mb n b f name (c - 1) e w' := by
  have hm' : MapIs w.drew mb n f := hm
  obtain ⟨w3, hst, hm3, ht⟩ := hm'.drop name hname 0
  have m1 := m_liesInD
  have m2 := m_calledD
  have m3 := m_goAwayD
  have b2' : w3.cell? ⟨b, 2, none⟩ = some x2 := (turned_cell ht _).trans b2
  have bz' : w3.frozen? ⟨b, 2, none⟩ = false := (ht.frozen _).trans bz
  have t1' : (w3.setCell ⟨b, 2, none⟩ (.bool true)).cell? ⟨t, 1, none⟩ = some (.int .i64 c) := (World.cell?_setCell_other _ _ _ _ (fun e => hbt (congrArg Addr.block e))).trans ((turned_cell ht _).trans t1)
  have tz' : (w3.setCell ⟨b, 2, none⟩ (.bool true)).frozen? ⟨t, 1, none⟩ = false := (World.frozen?_setCell _ _ _ _).trans ((ht.frozen _).trans tz)
  have hwr : IntKind.i64.wrap (c - 1) = c - 1 := by simp only [IntKind.wrap_i64]; omega
  have Hm3 := hide hm3
  have Ht := hide ht
  have HG := hide (goAway_any b x2 w3 b2' bz')
  clear hm hm' hm3 ht
  go_enter Tryz.func100, Tryz.ntmps100
  go_wp2
  go_region_with (first | (go_at_call 247; refine (liesIn_any b (some ⟨d, 0, none⟩) w.drew b1).mono ?_; rintro e w' ⟨rfl, hw⟩; obtain rfl := hw.symm) | (go_at_call 245; refine (called_any b name w.drew b0).mono ?_; rintro e w' ⟨rfl, hw⟩; obtain rfl := hw.symm))
  all_goals (go_wp2_with (go_at_call 246; refine HG.out.mono ?_; rintro e w' ⟨rfl, hw⟩; subst hw); go_end0; exact ⟨w3, rfl, Hm3.out, Ht.out, rfl⟩)

set_option maxRecDepth 20000 in
set_option maxHeartbeats 1000000 in
theorem drop_file {w : World} {t mb n b d : Nat} {f : ByteArray → Option Value} {name : ByteArray} {c : Int} {x2 : Value} (hname : name.size ≤ maxLen) (hc : 0 < c ∧ c < 1000) (hbt : b ≠ t)
    (b0 : w.cell? ⟨b, 0, none⟩ = some (.string name)) (b1 : w.cell? ⟨b, 1, none⟩ = some (.pointer (some ⟨d, 0, none⟩))) (b2 : w.cell? ⟨b, 2, none⟩ = some x2) (bz : w.frozen? ⟨b, 2, none⟩ = false) (d3 : w.cell? ⟨d, 3, none⟩ = some (.map (some mb))) (t1 : w.cell? ⟨t, 1, none⟩ = some (.int .i64 c)) (tz : w.frozen? ⟨t, 1, none⟩ = false) (hm : MapIs w mb n f) :
    Calls Tryz.prog 100 #[.pointer (some ⟨t, 0, none⟩), .iface 122 (.pointer (some ⟨b, 0, none⟩))] w fun e w' => Dropped w t mb n b f name (c - 1) e w' := by
  have hm' : MapIs w.drew mb n f := hm
  obtain ⟨w3, hst, hm3, ht⟩ := hm'.drop name hname 0
  have m1 := m_liesInF
  have m2 := m_calledF
  have m3 := m_goAwayF
  have b2' : w3.cell? ⟨b, 2, none⟩ = some x2 := (turned_cell ht _).trans b2
  have bz' : w3.frozen? ⟨b, 2, none⟩ = false := (ht.frozen _).trans bz
  have t1' : (w3.setCell ⟨b, 2, none⟩ (.bool true)).cell? ⟨t, 1, none⟩ = some (.int .i64 c) := (World.cell?_setCell_other _ _ _ _ (fun e => hbt (congrArg Addr.block e))).trans ((turned_cell ht _).trans t1)
  have tz' : (w3.setCell ⟨b, 2, none⟩ (.bool true)).frozen? ⟨t, 1, none⟩ = false := (World.frozen?_setCell _ _ _ _).trans ((ht.frozen _).trans tz)
  have hwr : IntKind.i64.wrap (c - 1) = c - 1 := by simp only [IntKind.wrap_i64]; omega
  have Hm3 := hide hm3
  have Ht := hide ht
  have HG := hide (goAway_any b x2 w3 b2' bz')
  clear hm hm' hm3 ht
  go_enter Tryz.func100, Tryz.ntmps100
  go_wp2
  go_region_with (first | (go_at_call 247; refine (liesIn_any b (some ⟨d, 0, none⟩) w.drew b1).mono ?_; rintro e w' ⟨rfl, hw⟩; obtain rfl := hw.symm) | (go_at_call 245; refine (called_any b name w.drew b0).mono ?_; rintro e w' ⟨rfl, hw⟩; obtain rfl := hw.symm))
  all_goals (go_wp2_with (go_at_call 246; refine HG.out.mono ?_; rintro e w' ⟨rfl, hw⟩; subst hw); go_end0; exact ⟨w3, rfl, Hm3.out, Ht.out, rfl⟩)

/-- How many entries a map has. -/
theorem MapIs.len {w : World} {b n : Nat} {f : ByteArray → Option Value} (h : MapIs w b n f) : ∃ N : Nat, (∀ ty, (Builtin.len_ #[166] ty #[.map (some b)]).run Tryz.prog w = .ok (.int .i64 N) w) ∧ (0 < N ↔ ∃ s : ByteArray, s.size ≤ maxLen ∧ (f s).isSome = true) := by
  obtain ⟨D, hD, hf⟩ := h
  refine ⟨Go.Maps.size D, fun ty => hD.len Tryz.underlying166 ty, ?_⟩
  obtain ⟨es, rfl, hko⟩ := hD.keysOf
  rw [Go.Maps.size_eq]
  constructor
  · intro h0
    obtain ⟨p, hp⟩ := List.exists_mem_of_length_pos h0
    obtain ⟨v, hv⟩ := hko p hp
    obtain ⟨y, _, hy, hyl⟩ := Maps.keyOf_str Tryz.underlying9 hv
    have hs : (⟨y.toArray⟩ : ByteArray).size ≤ maxLen := by simpa [ByteArray.size] using hyl
    refine ⟨⟨y.toArray⟩, hs, ?_⟩
    rw [← (hf ⟨y.toArray⟩ hs).1, Go.Maps.has_eq, List.any_eq_true]
    exact ⟨p, hp, by rw [hy]; simp [Lit.sameKey]⟩
  · rintro ⟨s, hs, h1⟩
    rw [← (hf s hs).1, Go.Maps.has_eq, List.any_eq_true] at h1
    obtain ⟨p, hp, _⟩ := h1
    exact List.length_pos_of_mem hp

theorem rowNotNil (w : World) (a : Option Addr) (n c : Nat) : (binOp .neq 117 (.slice a n c) (.slice none 0 0)).run Tryz.prog w = .ok (.bool (!a.isNone)) w := run_neq_slice_nil w _ _ a n c Tryz.underlying117

set_option maxRecDepth 20000 in
set_option maxHeartbeats 1000000 in
theorem isBusy_any {w : World} {F : Nat → Prop} {t : Nat} {st : St} {L : Lay} {bv : Nat → Value} (h : TreeIs w F t st L bv) (T : Treed st) (ok : POk st) (d : Nat) (hd : d < st.nodes.length) (hdd : M.isDir st d = true) :
    Calls Tryz.prog 99 #[.pointer (some ⟨t, 0, none⟩), .pointer (some ⟨L.nb d, 0, none⟩)] w fun e w' => e = .returned (.bool (mBusy st d)) ∧ Below w.heap.size w w' := by
  obtain ⟨x, hx, D, _, hlt⟩ := h.member hd hdd
  obtain ⟨ao, bc, c4, hrow, hnone, hsome⟩ := D.boundRow
  have c3 := D.c3
  obtain ⟨N, hlen, hN⟩ := D.map.len
  have c0 := h.c0
  unfold dirPtr at c0
  have hE : hasEntry st d = true ↔ 0 < N := by
    rw [hN, hasEntry_iff]
    constructor
    · rintro ⟨s, hs⟩
      obtain ⟨c, hc⟩ := Option.isSome_iff_exists.1 hs
      obtain ⟨y, hy, _, _, hn⟩ := lies_at hc
      have := ok.names y (List.mem_of_getElem? hy)
      exact ⟨s, by rw [← hn]; unfold maxLen; omega, by simpa using hs⟩
    · rintro ⟨s, _, hs⟩
      exact ⟨s, by simpa using hs⟩
  have HS := hide (busy_split st d)
  have q := rowNotNil
  cases he : hasEntry st d with
  | true =>
    have hp : (0 : Int) < (N : Int) := by have := hE.1 he; omega
    have HB := hide (show mBusy st d = true by rw [HS.out, he]; rfl)
    clear h D hrow hE hN hnone hsome hx he
    go_enter Tryz.func99, Tryz.ntmps99
    go_wp2
    go_ret
    exact ⟨by rw [HB.out]; rfl, Below.refl _ _⟩
  | false =>
    have hp : ¬ (0 : Int) < (N : Int) := fun q => by
      have := hE.2 (by omega)
      rw [he] at this
      cases this
    cases hb : (st.laid.find? (fun l => l.onto == d)).isSome with
    | true =>
      obtain ⟨g, rfl⟩ := hsome hb
      have HB := hide (show mBusy st d = true by rw [HS.out, he, hb]; rfl)
      clear h D hrow hE hN hnone hsome hx he hb
      go_enter Tryz.func99, Tryz.ntmps99
      go_wp2
      go_ret
      exact ⟨by rw [HB.out]; rfl, Below.refl _ _⟩
    | false =>
      obtain ⟨rfl, rfl⟩ := hnone hb
      have hbr : boundRow st d = [] := by
        unfold boundRow
        cases ho : st.laid.find? (fun l => l.onto == d) with
        | none => rfl
        | some l => rw [ho] at hb; cases hb
      rw [hbr] at c4
      simp only [List.length_nil] at c4
      have h00 : M.isDir st 0 = true := by
        obtain ⟨r, hr, hrd, _⟩ := T.root
        simp [M.isDir, hr, hrd]
      have HC := hide (carries_any T ok d hd hdd st.nodes.length 0 w (by omega) (by omega) h00 h)
      have HB := hide (show mBusy st d = carB st 0 d by
        rw [HS.out, he, hb, Bool.false_or, Bool.false_or]
        rw [Bool.eq_iff_iff, carB_iff, T.carries])
      clear h D hrow hE hN hnone hsome hx he hb
      go_enter Tryz.func99, Tryz.ntmps99
      go_wp2_with (go_at_call 133; refine HC.out.mono ?_; rintro e w1 ⟨rfl, hb1⟩; have HB1 := hide hb1; clear hb1)
      go_ret
      exact ⟨by rw [HB.out]; rfl, HB1.out⟩

/-- What keeps a node from being removed. -/
def removeE (st : St) (i : Nat) (x : Nd) : Int := if x.gone then 4 else if i = 0 then 9 else if x.dir && mBusy st i then 10 else 0
end Go.Proofs.YtdmdgnghaceibaaGreat.P
/- The program's tree.remove. -/
namespace Go.Proofs.YtdmdgnghaceibaaGreat.P
open M Go.ChangeShapes Go.WideShapes Go.ChangeAt Go.RowKit
set_option linter.unusedVariables false

/-- What taking a node away leaves. -/
structure Went (w w' : World) (F : Nat → Prop) (t : Nat) (st : St) (L : Lay) (bv : Nat → Value) (i p : Nat) (x : Nd) : Prop where
  tree : TreeIs w' F t (setNode st i (goneNd x)) L bv
  os : w'.os = w.os
  tape : w'.tape = w.tape
  output : w'.output = w.output
  size : w.heap.size ≤ w'.heap.size
  block : ∀ k, k < w.heap.size → k ≠ t → k ≠ L.mb p → k ≠ L.nb i → w'.heap[k]? = w.heap[k]?

theorem Went.of {w w1 w' : World} {F : Nat → Prop} {t : Nat} {st : St} {L : Lay} {bv : Nat → Value} {i p : Nat} {x : Nd} {e : Ending} (h : TreeIs w F t st L bv) (T : Treed st) (hx : st.nodes[i]? = some x) (hg : x.gone = false) (hp : x.inn = (p : Int)) (hpl : p < st.nodes.length) (hpd : M.isDir st p = true) (hb : Below w.heap.size w w1)
    (hD : Dropped w1 t (L.mb p) st.nodes.length (L.nb i) (fun s => (lies st p s).map (nodeV L)) x.name ((liveNodes st.nodes : Int) - 1) e w') : Went w w' F t st L bv i p x := by
  have hi := M.lt_of_getElem? hx
  have h1 : TreeIs w1 F t st L bv := h.kept (KeepX.below hb)
  obtain ⟨w3, _, hm3, ht, rfl⟩ := hD
  obtain ⟨xp, hxp⟩ := getElem?_of_lt hpl
  have hxpd : xp.dir = true := by simpa [M.isDir, hxp] using hpd
  obtain ⟨es, cl, hmb⟩ := (h1.dir p xp hxp hxpd).map.blk
  have tyI : ∃ e, Ty w1 (L.nb i) e ∧ e ≠ 89 := by
    cases hxd : x.dir with
    | true => exact ⟨_, (h1.dir i x hx hxd).blk.ty, by decide⟩
    | false => exact ⟨_, (h1.file i x hx hxd).blk.ty, by decide⟩
  obtain ⟨ei, tyI, hei⟩ := tyI
  have n1 : L.nb i ≠ t := Ty.ne_ty tyI h1.blk.ty hei
  have n2 : L.nb i ≠ L.mb p := Ty.ne_map tyI hmb
  have n3 : t ≠ L.mb p := Ty.ne_map h1.blk.ty hmb
  have hg3 := ht.grown
  have blk : ∀ k, k ≠ t → k ≠ L.mb p → k ≠ L.nb i → k < w1.heap.size → ((w3.setCell ⟨L.nb i, 2, none⟩ (.bool true)).setCell ⟨t, 1, none⟩ (.int .i64 ((liveNodes st.nodes : Int) - 1))).heap[k]? = w1.heap[k]? := fun k k1 k2 k3 hk => by
    rw [Below.heap_setCell _ _ _ _ k1, Below.heap_setCell _ _ _ _ k3]
    exact hg3.block k hk (by simpa using k2)
  have cellW : ∀ (b j : Nat), ((b : Nat), j) ≠ (L.nb i, 2) → (b, j) ≠ (t, 1) → ((w3.setCell ⟨L.nb i, 2, none⟩ (.bool true)).setCell ⟨t, 1, none⟩ (.int .i64 ((liveNodes st.nodes : Int) - 1))).cell? ⟨b, j, none⟩ = w1.cell? ⟨b, j, none⟩ := fun b j h1 h2 => by
    rw [World.cell?_setCell_other _ _ _ _ (fun e => h2 (by simp only [Addr.mk.injEq] at e; simp [e.1, e.2.1])), World.cell?_setCell_other _ _ _ _ (fun e => h1 (by simp only [Addr.mk.injEq] at e; simp [e.1, e.2.1])), turned_cell ht]
    rfl
  have tyW : ∀ (b : Nat) (e : TypeId), Ty w1 b e → Ty ((w3.setCell ⟨L.nb i, 2, none⟩ (.bool true)).setCell ⟨t, 1, none⟩ (.int .i64 ((liveNodes st.nodes : Int) - 1))) b e := fun b e hb => by
    refine Ty.setCell (Ty.setCell ?_ _ _) _ _
    obtain ⟨cur, hc⟩ := hb
    exact ⟨cur, (hg3.block b (Array.getElem?_eq_some_iff.1 hc).1 (fun q => by
      have q' : b = L.mb p := by simpa using q
      subst q'
      rw [hmb] at hc
      cases hc)).trans hc⟩
  have c1 : (w3.setCell ⟨L.nb i, 2, none⟩ (.bool true)).cell? ⟨t, 1, none⟩ = some (.int .i64 (liveNodes st.nodes)) := (World.cell?_setCell_other _ _ _ _ (fun e => n1 (congrArg Addr.block e))).trans ((turned_cell ht _).trans h1.c1)
  have c2 : ∃ v, w3.cell? ⟨L.nb i, 2, none⟩ = some v := by
    have := h1.gone hi
    exact ⟨_, (turned_cell ht _).trans this⟩
  obtain ⟨v2, c2⟩ := c2
  refine ⟨?_, ?_, ?_, ?_, ?_, fun k hk k1 k2 k3 => (blk k k1 k2 k3 (by have := hb.size; omega)).trans (hb.block k hk)⟩
  · refine h1.dropNode T.uniq hx hg hp hpl hpd (fun _ h => h) (fun b _ b1 b2 b3 hlt => blk b b1 b2 b3 hlt) (tyW t _ h1.blk.ty) (cellW t 0 (fun e => n1 (by simp only [Prod.mk.injEq] at e; exact e.1.symm)) (by simp)) ?_ (fun e he => tyW _ e he) (fun j hj => cellW (L.nb i) j (by simp [hj]) (fun e => n1 (by simp only [Prod.mk.injEq] at e; exact e.1))) ?_ ?_
    · exact cell_same _ _ _ _ _ c1
    · exact (World.cell?_setCell_other _ _ _ _ (fun e => n1 (congrArg Addr.block e).symm)).trans (cell_same _ _ _ _ _ c2)
    · refine hm3.kept ?_
      rw [Below.heap_setCell _ _ _ _ (Ne.symm n3), Below.heap_setCell _ _ _ _ (Ne.symm n2)]
  · exact hg3.os.trans hb.os
  · exact hg3.tape.trans hb.tape
  · exact hg3.output.trans hb.output
  · have h1 := hg3.size
    have h2 := hb.size
    have hz : ((w3.setCell ⟨L.nb i, 2, none⟩ (.bool true)).setCell ⟨t, 1, none⟩ (.int .i64 ((liveNodes st.nodes : Int) - 1))).heap.size = w3.heap.size := by simp
    have : w1.drew.heap.size = w1.heap.size := rfl
    omega

section
variable {w : World} {F : Nat → Prop} {t : Nat} {st : St} {L : Lay} {bv : Nat → Value}

set_option maxRecDepth 20000 in
set_option maxHeartbeats 1000000 in
theorem remove_err (h : TreeIs w F t st L bv) (T : Treed st) (ok : POk st) {i : Nat} {x : Nd} (hx : st.nodes[i]? = some x) (hE : removeE st i x ≠ 0) :
    Calls Tryz.prog 58 #[.pointer (some ⟨t, 0, none⟩), nodeV L i] w fun e w' => e = .returned (.int .i64 (removeE st i x)) ∧ Below w.heap.size w w' := by
  have hi := M.lt_of_getElem? hx
  have hg2 := h.gone hi
  have m1 := m_isGoneD
  have m2 := m_isGoneF
  have m3 := m_liesInD
  have m4 := m_liesInF
  have a1 := asDir
  have a2 := notDir
  rw [show isGone st i = x.gone by simp [isGone, hx]] at hg2
  cases hgv : x.gone with
  | true =>
    rw [hgv] at hg2
    have H := hide (show removeE st i x = 4 by simp [removeE, hgv])
    rcases nodeV_cases L i with e | e
    all_goals
      rw [e]
      clear h hx hE hgv e
      go_enter Tryz.func58, Tryz.ntmps58
      go_wp2_with (go_at_call 94; refine (isGone_any _ _ _ hg2).mono ?_; rintro e w' ⟨rfl, hw⟩; obtain rfl := hw.symm)
      go_ret
      exact ⟨by rw [H.out]; rfl, Below.refl _ _⟩
  | false =>
    rw [hgv] at hg2
    by_cases h0 : i = 0
    · subst h0
      obtain ⟨r, hr, hrd, _, hri⟩ := T.root
      rw [hr] at hx
      cases hx
      have H := hide (show removeE st 0 x = 9 by simp [removeE, hgv])
      have c1 := (h.dir 0 x hr hrd).c1
      rw [hri] at c1
      have c1 : w.cell? ⟨L.nb 0, 1, none⟩ = some (.pointer none) := c1
      rcases nodeV_cases L 0 with e | e
      all_goals
        rw [e]
        clear h hE hgv e hr
        go_enter Tryz.func58, Tryz.ntmps58
        go_wp2_with (first | (go_at_call 94; refine (isGone_any _ _ _ hg2).mono ?_; rintro e w' ⟨rfl, hw⟩; obtain rfl := hw.symm) | (go_at_call 247; refine (liesIn_any _ _ _ c1).mono ?_; rintro e w' ⟨rfl, hw⟩; obtain rfl := hw.symm))
        go_ret
        exact ⟨by rw [H.out]; rfl, Below.refl _ _⟩
    · cases hxd : x.dir with
      | false => exact absurd (by simp [removeE, hgv, h0, hxd]) hE
      | true =>
        cases hb : mBusy st i with
        | false => exact absurd (by simp [removeE, hgv, h0, hb]) hE
        | true =>
          have H := hide (show removeE st i x = 10 by simp [removeE, hgv, h0, hxd, hb])
          obtain ⟨p, hp, _⟩ := T.inn i x hx (by omega)
          have c1 := (h.dir i x hx hxd).c1
          rw [hp] at c1
          have c1 : w.cell? ⟨L.nb i, 1, none⟩ = some (.pointer (some ⟨L.nb p, 0, none⟩)) := by
            rw [c1]
            unfold inV
            rw [if_neg (by omega), Int.toNat_natCast]
          have HI := hide (isBusy_any h T ok i hi (by simp [M.isDir, hx, hxd]))
          rw [hb] at HI
          have e : nodeV L i = .iface 87 (.pointer (some ⟨L.nb i, 0, none⟩)) := by rw [nodeV, h.kind i x hx, hxd]; rfl
          rw [e]
          clear h hE hgv e hx hb hxd
          go_enter Tryz.func58, Tryz.ntmps58
          go_wp2_with (first | (go_at_call 94; refine (isGone_any _ _ _ hg2).mono ?_; rintro e w' ⟨rfl, hw⟩; obtain rfl := hw.symm) | (go_at_call 247; refine (liesIn_any _ _ _ c1).mono ?_; rintro e w' ⟨rfl, hw⟩; obtain rfl := hw.symm) | (go_at_call 99; refine HI.out.mono ?_; rintro e w1 ⟨rfl, hb1⟩; have HB1 := hide hb1; clear hb1))
          go_ret
          exact ⟨by rw [H.out]; rfl, HB1.out⟩

theorem live_pos {st : St} {i : Nat} {x : Nd} (hx : st.nodes[i]? = some x) (hg : x.gone = false) : 0 < liveNodes st.nodes := by
  unfold liveNodes
  exact List.length_pos_of_mem (List.mem_filter.2 ⟨List.mem_of_getElem? hx, by simp [hg]⟩)

set_option maxRecDepth 20000 in
set_option maxHeartbeats 1000000 in
theorem remove_ok (h : TreeIs w F t st L bv) (T : Treed st) (ok : POk st) {i p : Nat} {x : Nd} (hx : st.nodes[i]? = some x) (hE : removeE st i x = 0) (hp : x.inn = (p : Int)) :
    Calls Tryz.prog 58 #[.pointer (some ⟨t, 0, none⟩), nodeV L i] w fun e w' => e = .returned (.int .i64 0) ∧ Went w w' F t st L bv i p x := by
  have hi := M.lt_of_getElem? hx
  have hg2 := h.gone hi
  have m1 := m_isGoneD
  have m2 := m_isGoneF
  have m3 := m_liesInD
  have m4 := m_liesInF
  have a1 := asDir
  have a2 := notDir
  rw [show isGone st i = x.gone by simp [isGone, hx]] at hg2
  have hgv : x.gone = false := by
    cases hgv : x.gone with
    | false => rfl
    | true => simp [removeE, hgv] at hE
  have h0 : i ≠ 0 := fun e => by simp [removeE, hgv, e] at hE
  rw [hgv] at hg2
  obtain ⟨p', hp', hpi, hpd, _⟩ := T.inn i x hx (by omega)
  have hpp : p' = p := by omega
  subst hpp
  have hpl : p' < st.nodes.length := by omega
  obtain ⟨xp, hxp⟩ := getElem?_of_lt hpl
  have hxpd : xp.dir = true := by simpa [M.isDir, hxp] using hpd
  have Dp := h.dir p' xp hxp hxpd
  have hname := ok.names x (List.mem_of_getElem? hx)
  have hname' : x.name.size ≤ maxLen := by unfold maxLen; omega
  have hl1 := live_pos hx hgv
  have hl2 := ok.live
  have inE : inV L x.inn = .pointer (some ⟨L.nb p', 0, none⟩) := by
    unfold inV
    rw [hp, if_neg (by omega), Int.toNat_natCast]
  cases hxd : x.dir with
  | false =>
    have FI := h.file i x hx hxd
    have c1 : w.cell? ⟨L.nb i, 1, none⟩ = some (.pointer (some ⟨L.nb p', 0, none⟩)) := FI.c1.trans (by rw [inE])
    have HD := hide (drop_file (t := t) (n := st.nodes.length) (c := (liveNodes st.nodes : Int)) hname' ⟨by omega, by omega⟩ (Ty.ne_ty FI.blk.ty h.blk.ty (by decide)) FI.c0 c1 FI.c2 (FI.blk.fz 2) Dp.c3 h.c1 (h.blk.fz 1) Dp.map)
    have HW := hide (fun e w' => Went.of (w1 := w) (w' := w') (e := e) h T hx hgv hp hpl hpd (Below.refl _ w))
    have e : nodeV L i = .iface 122 (.pointer (some ⟨L.nb i, 0, none⟩)) := by rw [nodeV, h.kind i x hx, hxd]; rfl
    rw [e]
    clear h hE hgv e hx hxd FI Dp hxp
    go_enter Tryz.func58, Tryz.ntmps58
    go_wp2_with (first | (go_at_call 94; refine (isGone_any _ _ _ hg2).mono ?_; rintro e w' ⟨rfl, hw⟩; obtain rfl := hw.symm) | (go_at_call 247; refine (liesIn_any _ _ _ c1).mono ?_; rintro e w' ⟨rfl, hw⟩; obtain rfl := hw.symm) | (go_at_call 100; refine HD.out.mono ?_; rintro e w2 hd; have HD2 := hide (HW.out _ _ hd); have he : e = .returned (.tuple #[]) := (by obtain ⟨_, h, _⟩ := hd; exact h); subst he; clear hd))
    go_ret
    exact ⟨rfl, HD2.out⟩
  | true =>
    have DI := h.dir i x hx hxd
    have c1 : w.cell? ⟨L.nb i, 1, none⟩ = some (.pointer (some ⟨L.nb p', 0, none⟩)) := DI.c1.trans (by rw [inE])
    have hb : mBusy st i = false := by
      cases hb : mBusy st i with
      | false => rfl
      | true => simp [removeE, hgv, h0, hxd, hb] at hE
    have HI := hide (isBusy_any h T ok i hi (by simp [M.isDir, hx, hxd]))
    rw [hb] at HI
    have HW := hide (fun w1 e w' => Went.of (w1 := w1) (w' := w') (e := e) h T hx hgv hp hpl hpd)
    have HD := hide (fun (w1 : World) (hb1 : Below w.heap.size w w1) => by
      have h1 : TreeIs w1 F t st L bv := h.kept (KeepX.below hb1)
      have DI := h1.dir i x hx hxd
      exact drop_dir (t := t) (n := st.nodes.length) (c := (liveNodes st.nodes : Int)) hname' ⟨by omega, by omega⟩ (Ty.ne_ty DI.blk.ty h1.blk.ty (by decide)) DI.c0 (DI.c1.trans (by rw [inE])) DI.c2 (DI.blk.fz 2) (h1.dir p' xp hxp hxpd).c3 h1.c1 (h1.blk.fz 1) (h1.dir p' xp hxp hxpd).map)
    have e : nodeV L i = .iface 87 (.pointer (some ⟨L.nb i, 0, none⟩)) := by rw [nodeV, h.kind i x hx, hxd]; rfl
    rw [e]
    clear h hE hgv e hx hxd DI Dp hxp hb
    go_enter Tryz.func58, Tryz.ntmps58
    go_wp2_with (first | (go_at_call 94; refine (isGone_any _ _ _ hg2).mono ?_; rintro e w' ⟨rfl, hw⟩; obtain rfl := hw.symm) | (go_at_call 247; refine (liesIn_any _ _ _ c1).mono ?_; rintro e w' ⟨rfl, hw⟩; obtain rfl := hw.symm) | (go_at_call 99; refine HI.out.mono ?_; rintro e w1 ⟨rfl, hb1⟩; have HB1 := hide hb1; clear hb1) | (go_at_call 100; refine (HD.out _ HB1.out).mono ?_; rintro e w2 hd; have HD2 := hide (HW.out _ _ _ HB1.out hd); have he : e = .returned (.tuple #[]) := (by obtain ⟨_, h, _⟩ := hd; exact h); subst he; clear hd))
    go_ret
    exact ⟨rfl, HD2.out⟩
end

/-- The Server with a node gone. -/
theorem SrvHas.went {w w' : World} {F : Nat → Prop} {s t : Nat} {st : St} {lk : Int} {L : Lay} {bv : Nat → Value} {i p : Nat} {x : Nd} (h : SrvHas w F s st lk t L bv) (hx : st.nodes[i]? = some x) (hpl : p < st.nodes.length) (hpd : M.isDir st p = true) (hW : Went w w' F t st L bv i p x) :
    SrvHas w' F s (setNode st i (goneNd x)) lk t L bv ∧ Ext F w w' := by
  obtain ⟨xp, hxp, Dp, _, _⟩ := h.tree.member hpl hpd
  obtain ⟨es, cl, hmb⟩ := Dp.map.blk
  have tyI : Ty w (L.nb i) (if x.dir then 168 else 162) ∧ F (L.nb i) := by
    cases hxd : x.dir with
    | true => exact ⟨(h.tree.dir i x hx hxd).blk.ty, (h.tree.dir i x hx hxd).blk.own⟩
    | false => exact ⟨(h.tree.file i x hx hxd).blk.ty, (h.tree.file i x hx hxd).blk.own⟩
  have hk : KeepX (fun e => e ≠ 89 ∧ e ≠ 168 ∧ e ≠ 162) False F w w' := by
    refine ⟨fun k cur e hFk hb hT => hW.block k (Array.getElem?_eq_some_iff.1 hb).1 (fun q => ?_) (fun q => ?_) (fun q => ?_), fun hf => hf.elim⟩
    · subst q
      exact Ty.ne_ty h.tree.blk.ty ⟨cur, hb⟩ (fun q => hT.1 q.symm) rfl
    · subst q
      rw [hmb] at hb
      cases hb
    · subst q
      refine Ty.ne_ty tyI.1 ⟨cur, hb⟩ (fun q => ?_) rfl
      split at q
      · exact hT.2.1 q.symm
      · exact hT.2.2 q.symm
  have c := h.blk.cell hk (by decide)
  refine ⟨⟨h.blk.kept hk (by decide), (c 0).trans h.k0, (c 1).trans h.k1, (c 3).trans h.k3, (c 5).trans h.k5, (c 6).trans h.k6, fun n hn => (h.fids n hn).kept hk (by decide) (by decide) (c _) (c _), hW.tree⟩,
    ⟨hW.os, hW.tape, hW.output, hW.size, fun k hk hF => hW.block k hk (fun e => hF (e ▸ h.tree.blk.own)) (fun e => hF (e ▸ Dp.mapF)) (fun e => hF (e ▸ tyI.2))⟩⟩
end Go.Proofs.YtdmdgnghaceibaaGreat.P
/- The program's Remove. -/
namespace Go.Proofs.YtdmdgnghaceibaaGreat.P
open M Go.ChangeShapes Go.WideShapes Go.ChangeAt Go.RowKit
set_option linter.unusedVariables false

set_option maxRecDepth 20000 in
theorem giveUp_deferred (s k : Nat) (x y : Value) (u : FrameMode) (w : World) (h7 : w.cell? ⟨s, 7 + k * 2, none⟩ = some x) (h8 : w.cell? ⟨s, 7 + k * 2 + 1, none⟩ = some y) (fz : ∀ j, w.frozen? ⟨s, j, none⟩ = false) :
    CallsD Tryz.prog 57 #[.pointer (some ⟨s, 7 + k * 2, none⟩)] u w fun e u' w' => u' = u ∧ (e = .returned (.tuple #[]) ∧ w' = (w.setCell ⟨s, 7 + k * 2, none⟩ (.pointer none)).setCell ⟨s, 7 + k * 2 + 1, none⟩ (.bool false)) := by
  have f0 := fz (7 + k * 2)
  have f1 : (w.setCell ⟨s, 7 + k * 2, none⟩ (.pointer none)).frozen? ⟨s, 7 + k * 2 + 1, none⟩ = false := fz_set _ _ _ _ (fz _)
  have g8 : (w.setCell ⟨s, 7 + k * 2, none⟩ (.pointer none)).cell? ⟨s, 7 + k * 2 + 1, none⟩ = some y := (cell_other _ _ _ _ _ (by omega)).trans h8
  go_enter_d Tryz.func57, Tryz.ntmps57
  go_wp2
  go_end0
  exact ⟨rfl, rfl⟩

theorem mRemove_eq {st : St} {n : Int} {i : Nat} {f : Fid} {x : Nd} (hf : find st n = some i) (hi : st.fids[i]? = some f) (hx : st.nodes[nodeOf f]? = some x) :
    mRemove st n = (if removeE st (nodeOf f) x = 0 then setNode (mDrop (tick st) i) (nodeOf f) (goneNd x) else mDrop (tick st) i, removeE st (nodeOf f) x) := by
  unfold mRemove
  rw [hf]
  simp only
  rw [hi]
  simp only
  rw [hx]
  simp only
  unfold removeE
  by_cases h1 : x.gone = true
  · rw [if_pos h1, if_pos h1, if_neg (by decide)]
  · rw [if_neg h1, if_neg h1]
    by_cases h2 : nodeOf f = 0
    · rw [if_pos h2, if_pos h2, if_neg (by decide)]
    · rw [if_neg h2, if_neg h2]
      by_cases h3 : (x.dir && mBusy st (nodeOf f)) = true
      · rw [if_pos h3, if_pos h3, if_neg (by decide)]
      · rw [if_neg h3, if_neg h3, if_pos rfl]

theorem removeE_zero {st : St} {i : Nat} {x : Nd} (h : removeE st i x = 0) : i ≠ 0 := by
  intro e
  unfold removeE at h
  rw [if_pos e] at h
  split at h <;> cases h

set_option maxRecDepth 20000 in
set_option maxHeartbeats 1000000 in
theorem sremove_any {w : World} {F : Nat → Prop} {s : Nat} {st : St} (n : Int) (h : SrvIs w F s st) (ok : POk st) (T : Treed st) :
    Calls Tryz.prog 21 #[.pointer (some ⟨s, 0, none⟩), .int .i64 n] w fun e w' => PEnds w F s (mRemove st n) e w' := by
  go_enter_defers Tryz.func21, Tryz.ntmps21
  go_wp2_with fail
  refine (enter_any h).mono ?_
  rintro e w1 ⟨rfl, hH, hx⟩
  clear h
  obtain ⟨t, L, bv, hS⟩ := hH
  have hx := hide hx
  rcases fid_cases hS ok.tick.fids n with ⟨hf, hno⟩ | ⟨k, i, f, p, rfl, hk, hf, hi, hn, ha, c7, c8, hp⟩
  · have H := hide (show mRemove st n = (tick st, 2) by unfold mRemove; rw [show find st n = none from hf])
    have hS := hide hS
    clear hf
    go_wp2_with (go_at_call 45; refine (standing_no hno).mono ?_; rintro e w' ⟨rfl, hw⟩; obtain rfl := hw.symm)
    have hD : Held w1 (ext F w w1) s (tick st) := ⟨t, L, bv, hS.out⟩
    refine leaves_cons (f := 43) (args := #[.pointer (some ⟨s, 0, none⟩)]) (by simp) (by simp [go_sem]) ?_
    refine (leave_deferred .returning hD).mono ?_
    rintro e u' w'' ⟨rfl, rfl, rfl⟩
    refine ⟨_, results_tmp rfl _ _ _, ?_⟩
    exact PEnds.close H.out hD hx.out
  · obtain ⟨sp, hsp, d0, _, _⟩ := place_last hp
    have hno : nodeOf f = sp.n := by simp [nodeOf, hsp]
    have hin := ((ok.way f (List.mem_of_getElem? hi)).2 sp (List.mem_of_getLast? hsp)).1
    obtain ⟨x, hxn⟩ := getElem?_of_lt hin
    have H := hide (mRemove_eq (show find st k = some i from hf) (show st.fids[i]? = some f from hi) (by rw [hno]; exact hxn))
    rw [hno] at H
    have Tt : Treed (tick st) := T.same rfl rfl
    have hSd := srv_drew hS
    have k6 := hS.k6
    have hslt := hS.blk.lt
    have HS := hide hS
    have Hi := hide hi
    have Hn := hide hn
    have Hxn := hide hxn
    by_cases hE : removeE st sp.n x = 0
    · rw [if_pos hE, hE] at H
      have h0 : sp.n ≠ 0 := removeE_zero hE
      obtain ⟨q, hq, hqi, hqd, _⟩ := T.inn sp.n x hxn (by omega)
      have HR := hide (remove_ok hSd.tree Tt ok.tick (show (tick st).nodes[sp.n]? = some x from hxn) hE hq)
      have hql : q < st.nodes.length := by omega
      have Hq : q < (tick st).nodes.length ∧ M.isDir (tick st) q = true := ⟨hql, hqd⟩
      have Hfa := hide (show fidAt (setNode (tick st) sp.n (goneNd x)) (k : Int) = some f from ha)
      rcases nodeV_cases L sp.n with e | e
      all_goals
        rw [e] at d0 HR
        clear hf hi ha hp hn hS hSd hsp hxn e
        go_wp2_with (go_at_call 45; refine (standing_some s k p hk _ c7).mono ?_; rintro e w' ⟨rfl, hw⟩; obtain rfl := hw.symm)
        refine wp_strict ?_
        go_region_with (go_at_call 58; refine HR.out.mono ?_; rintro e w2 ⟨rfl, hwent⟩; have HWent := hide hwent; clear hwent)
        all_goals
          go_wp2
          obtain ⟨hS2, hx2⟩ := (srv_drew HS.out).went (show (tick st).nodes[sp.n]? = some x from Hxn.out) Hq.1 Hq.2 HWent.out
          have st2 := hS2.fids k hk
          rw [Hfa.out] at st2
          obtain ⟨p2, q7, q8, _⟩ := st2
          have hsF := hS2.blk.own
          refine leaves_cons (f := 57) (args := #[.pointer (some ⟨s, 7 + k * 2, none⟩)]) (by simp) (by simp [go_sem]) ?_
          refine (giveUp_deferred s k _ _ .returning _ q7 q8 hS2.blk.fz).mono ?_
          rintro e u' w3 ⟨rfl, rfl, rfl⟩
          have hset : SrvHas ((w2.setCell ⟨s, 7 + k * 2, none⟩ (.pointer none)).setCell ⟨s, 7 + k * 2 + 1, none⟩ (.bool false)) (ext F w w1) s (mDrop (setNode (tick st) sp.n (goneNd x)) i) 1 t L bv :=
            hS2.setStand (st' := mDrop (setNode (tick st) sp.n (goneNd x)) i) hk (o := none) ⟨rfl, rfl⟩ rfl rfl rfl (fun m => by rw [fidAt_drop (st := setNode (tick st) sp.n (goneNd x)) ⟨ok.tick.fids.once, ok.tick.fids.small⟩ Hi.out m, Hn.out])
          have hxx : Ext F w ((w2.setCell ⟨s, 7 + k * 2, none⟩ (.pointer none)).setCell ⟨s, 7 + k * 2 + 1, none⟩ (.bool false)) := by
            have ho : F s ∨ w.heap.size ≤ s := by rcases hsF with h | h; exact .inl h; exact .inr h.1
            have hx3 : Ext F w w2 := by
              have z1 := hx.out.size
              exact ⟨hx2.os.trans hx.out.os, hx2.tape.trans hx.out.tape, hx2.output.trans hx.out.output, Nat.le_trans z1 hx2.size, fun j hj hF => (hx2.block j (Nat.lt_of_lt_of_le hj z1) (fun q => by rcases q with q | q; exact hF q; omega)).trans (hx.out.block j hj hF)⟩
            exact (hx3.setCell ho _).setCell ho _
          have hz2 : w1.heap.size ≤ w2.heap.size := hx2.size
          have hD : Held ((w2.setCell ⟨s, 7 + k * 2, none⟩ (.pointer none)).setCell ⟨s, 7 + k * 2 + 1, none⟩ (.bool false)) (ext F w ((w2.setCell ⟨s, 7 + k * 2, none⟩ (.pointer none)).setCell ⟨s, 7 + k * 2 + 1, none⟩ (.bool false))) s (setNode (mDrop (tick st) i) sp.n (goneNd x)) :=
            ⟨t, L, bv, hset.mono (ext_mono (by simpa using hz2))⟩
          refine leaves_cons (f := 43) (args := #[.pointer (some ⟨s, 0, none⟩)]) (by simp [settle]) (by simp [go_sem]) ?_
          refine (leave_deferred .returning hD).mono ?_
          rintro e u' w'' ⟨rfl, rfl, rfl⟩
          refine ⟨_, results_tmp rfl _ _ _, ?_⟩
          exact PEnds.close H.out hD hxx
    · rw [if_neg hE] at H
      have HR := hide (remove_err hSd.tree Tt ok.tick (show (tick st).nodes[sp.n]? = some x from hxn) hE)
      rw [show removeE (tick st) sp.n x = removeE st sp.n x from rfl] at HR
      generalize removeE st sp.n x = c at H HR
      rcases nodeV_cases L sp.n with e | e
      all_goals
        rw [e] at d0 HR
        clear hf hi ha hp hn hS hSd hsp hxn e hE
        go_wp2_with (go_at_call 45; refine (standing_some s k p hk _ c7).mono ?_; rintro e w' ⟨rfl, hw⟩; obtain rfl := hw.symm)
        refine wp_strict ?_
        go_region_with (go_at_call 58; refine HR.out.mono ?_; rintro e w2 ⟨rfl, hb⟩; have HB := hide hb; clear hb)
        all_goals
          go_wp2
          have hb2 : Below w1.heap.size w1 w2 := ((Below.refl _ w1).drew).trans HB.out
          have hS2 : SrvHas w2 (ext F w w1) s (tick st) 1 t L bv := HS.out.below hb2
          have hx2 : Ext F w w2 := hx.out.trans' (Ext.below hb2)
          have q7 := (hb2.cell (p := ⟨s, 7 + k * 2, none⟩) hslt).trans c7
          have q8 := (hb2.cell (p := ⟨s, 7 + k * 2 + 1, none⟩) hslt).trans c8
          have hsF := hS2.blk.own
          refine leaves_cons (f := 57) (args := #[.pointer (some ⟨s, 7 + k * 2, none⟩)]) (by simp) (by simp [go_sem]) ?_
          refine (giveUp_deferred s k _ _ .returning _ q7 q8 hS2.blk.fz).mono ?_
          rintro e u' w3 ⟨rfl, rfl, rfl⟩
          have hset : SrvHas ((w2.setCell ⟨s, 7 + k * 2, none⟩ (.pointer none)).setCell ⟨s, 7 + k * 2 + 1, none⟩ (.bool false)) (ext F w w1) s (mDrop (tick st) i) 1 t L bv :=
            hS2.setStand (st' := mDrop (tick st) i) hk (o := none) ⟨rfl, rfl⟩ rfl rfl rfl (fun m => by rw [fidAt_drop ok.tick.fids Hi.out m, Hn.out])
          have hxx : Ext F w ((w2.setCell ⟨s, 7 + k * 2, none⟩ (.pointer none)).setCell ⟨s, 7 + k * 2 + 1, none⟩ (.bool false)) := by
            have ho : F s ∨ w.heap.size ≤ s := by rcases hsF with h | h; exact .inl h; exact .inr h.1
            exact (hx2.setCell ho _).setCell ho _
          have hz2 : w1.heap.size ≤ w2.heap.size := hb2.size
          have hD : Held ((w2.setCell ⟨s, 7 + k * 2, none⟩ (.pointer none)).setCell ⟨s, 7 + k * 2 + 1, none⟩ (.bool false)) (ext F w ((w2.setCell ⟨s, 7 + k * 2, none⟩ (.pointer none)).setCell ⟨s, 7 + k * 2 + 1, none⟩ (.bool false))) s (mDrop (tick st) i) :=
            ⟨t, L, bv, hset.mono (ext_mono (by simpa using hz2))⟩
          refine leaves_cons (f := 43) (args := #[.pointer (some ⟨s, 0, none⟩)]) (by simp [settle]) (by simp [go_sem]) ?_
          refine (leave_deferred .returning hD).mono ?_
          rintro e u' w'' ⟨rfl, rfl, rfl⟩
          refine ⟨_, results_tmp rfl _ _ _, ?_⟩
          exact PEnds.close H.out hD hxx
end Go.Proofs.YtdmdgnghaceibaaGreat.P
/- The program's row.count. -/
namespace Go.Proofs.YtdmdgnghaceibaaGreat.P
open M Go.ChangeShapes Go.WideShapes Go.ChangeAt Go.RowKit
set_option linter.unusedVariables false

set_option maxRecDepth 20000 in
set_option maxHeartbeats 1000000 in
theorem count_any {w : World} {F : Nat → Prop} {t : Nat} {st : St} {L : Lay} {bv : Nat → Value} (row : List Member) (v : Value) (h : TreeIs w F t st L bv) (hv : PRow w F L v row) (hok : RowDirs st row) (hlen6 : row.length ≤ 6) :
    Calls Tryz.prog 98 #[v] w fun e w' => e = .returned (.int .i64 (liveRow st row)) ∧ Below w.heap.size w w' := by
  have hnot : ∀ (x : Bool) (w : World), (Op.unary .not (.bool x)).run Tryz.prog w = .ok (.bool (!x)) w := fun _ _ => rfl
  rcases hv.opened with ⟨rfl, hn⟩ | ⟨g, cap, rfl, hcap, hmax, hF, hb, hcell, hfz⟩
  · have h0 : row = [] := List.map_eq_nil_iff.1 hn
    subst h0
    clear hv hn h hok
    go_enter Tryz.func98, Tryz.ntmps98
    go_wp2
    go_loop [3, 8] (fun n i => i = .int .i64 0 ∧ n = .int .i64 0) (fun _ _ => 0)
    case atStart => exact ⟨rfl, rfl⟩
    case round =>
      obtain ⟨rfl, rfl⟩ := hrel
      go_wp2
      go_ret
      exact ⟨rfl, Below.refl _ _⟩
  · have hlen : (row.map (mCells L)).length = row.length := by simp
    rw [hlen] at hcap hv
    rw [hlen]
    have HT := hide h
    have Hc := hide hcell
    have hglt : g < w.heap.size := by obtain ⟨cur, hb⟩ := hb; exact (Array.getElem?_eq_some_iff.1 hb).1
    have Hok := hide hok
    clear h hb hcell hfz hv hok hF hlen hmax
    go_enter Tryz.func98, Tryz.ntmps98
    go_wp2
    go_loopw [3, 8] (fun n i wr => ∃ k : Nat, k ≤ row.length ∧ i = .int .i64 k ∧ n = .int .i64 (liveRow st (row.take k)) ∧ Below w.heap.size w wr) (fun _ i _ => row.length - (intOf i).toNat)
    case atStart => exact ⟨0, Nat.zero_le _, rfl, by simp [liveRow], Below.refl _ _⟩
    case round =>
      obtain ⟨k, hk, rfl, rfl, hbel⟩ := hrel
      have Hbel := hide hbel
      have hle := liveRow_le st row k
      by_cases hlt : k < row.length
      · obtain ⟨m, hm⟩ := M.getElem?_of_lt hlt
        have hmm := List.mem_of_getElem? hm
        obtain ⟨hd, hdir⟩ := Hok.out m hmm
        obtain ⟨x, hx, D, hg2, hnlt⟩ := HT.out.member hd hdir
        have hrow : (row.map (mCells L))[k]? = some (mCells L m) := by rw [List.getElem?_map, hm]; rfl
        have r0 : wr.cell? ⟨g, k * 2, none⟩ = some (dirPtr L m.d) := (hbel.cell (p := ⟨g, k * 2, none⟩) hglt).trans (Hc.out k _ 0 _ hrow rfl)
        have r1 : wr.cell? ⟨g, k * 2 + 1, none⟩ = some (.bool m.leave) := (hbel.cell (p := ⟨g, k * 2 + 1, none⟩) hglt).trans (Hc.out k _ 1 _ hrow rfl)
        have g2 : wr.cell? ⟨L.nb m.d, 2, none⟩ = some (.bool (isGone st m.d)) := (hbel.cell (p := ⟨L.nb m.d, 2, none⟩) hnlt).trans hg2
        have Hs := hide (liveRow_snoc st row k m hm)
        unfold dirPtr at r0
        clear hm hx D hrow hbel hmm hg2
        have k0 : (0 : Int) ≤ (k : Int) := by omega
        have k1 : (k : Int) < (row.length : Int) := by omega
        have g2' := fun o => up g2 o
        have hwr : IntKind.i64.wrap ((liveRow st (row.take k) : Int) + 1) = (liveRow st (row.take k) : Int) + 1 := by simp only [IntKind.wrap_i64]; omega
        cases hgv : isGone st m.d with
        | true =>
          rw [hgv] at g2'
          go_wp2_with (go_at_call 94; refine (isGone_any _ _ _ (g2' _)).mono ?_; rintro e w' ⟨rfl, hw⟩; obtain rfl := hw.symm)
          refine ⟨⟨k + 1, by omega, by go_num, ?_, Hbel.out.alloc Hbel.out.size _⟩, by simp [intOf]; omega⟩
          rw [Hs.out, hgv]
          rfl
        | false =>
          rw [hgv] at g2'
          go_wp2_with (go_at_call 94; refine (isGone_any _ _ _ (g2' _)).mono ?_; rintro e w' ⟨rfl, hw⟩; obtain rfl := hw.symm)
          refine ⟨⟨k + 1, by omega, by go_num, ?_, Hbel.out.alloc Hbel.out.size _⟩, by simp [intOf]; omega⟩
          rw [Hs.out, hgv]
          simp
      · go_wp2
        go_ret
        refine ⟨?_, Hbel.out⟩
        rw [List.take_of_length_le (by omega)]
        rfl
end Go.Proofs.YtdmdgnghaceibaaGreat.P
/- The program's place.stat. -/
namespace Go.Proofs.YtdmdgnghaceibaaGreat.P
open M Go.ChangeShapes Go.WideShapes Go.ChangeAt Go.RowKit
set_option linter.unusedVariables false

def pStatV (r : StatR) : Value := .agg #[.string r.name, .bool r.dir, .int .i64 r.size, .int .i64 r.version, .int .i64 r.row]

theorem five (W : World) (b : Nat) (x0 x1 x2 x3 x4 v0 v1 v2 v3 v4 : Value) (e0 : W.cell? ⟨b, 0, none⟩ = some x0) (e1 : W.cell? ⟨b, 1, none⟩ = some x1) (e2 : W.cell? ⟨b, 2, none⟩ = some x2) (e3 : W.cell? ⟨b, 3, none⟩ = some x3) (e4 : W.cell? ⟨b, 4, none⟩ = some x4) :
    (W.setCell ⟨b, 0, none⟩ v0).cell? ⟨b, 0, none⟩ = some v0 ∧ ((W.setCell ⟨b, 0, none⟩ v0).setCell ⟨b, 1, none⟩ v1).cell? ⟨b, 1, none⟩ = some v1 ∧ (((W.setCell ⟨b, 0, none⟩ v0).setCell ⟨b, 1, none⟩ v1).setCell ⟨b, 2, none⟩ v2).cell? ⟨b, 2, none⟩ = some v2 ∧
    ((((W.setCell ⟨b, 0, none⟩ v0).setCell ⟨b, 1, none⟩ v1).setCell ⟨b, 2, none⟩ v2).setCell ⟨b, 3, none⟩ v3).cell? ⟨b, 3, none⟩ = some v3 ∧ (((((W.setCell ⟨b, 0, none⟩ v0).setCell ⟨b, 1, none⟩ v1).setCell ⟨b, 2, none⟩ v2).setCell ⟨b, 3, none⟩ v3).setCell ⟨b, 4, none⟩ v4).cell? ⟨b, 4, none⟩ = some v4 :=
  ⟨cell_same _ _ _ _ _ e0, cell_same _ _ _ _ _ ((cell_other _ _ _ _ _ (by decide)).trans e1), cell_same _ _ _ _ _ ((cell_other _ _ _ _ _ (by decide)).trans ((cell_other _ _ _ _ _ (by decide)).trans e2)),
    cell_same _ _ _ _ _ ((cell_other _ _ _ _ _ (by decide)).trans ((cell_other _ _ _ _ _ (by decide)).trans ((cell_other _ _ _ _ _ (by decide)).trans e3))), cell_same _ _ _ _ _ ((cell_other _ _ _ _ _ (by decide)).trans ((cell_other _ _ _ _ _ (by decide)).trans ((cell_other _ _ _ _ _ (by decide)).trans ((cell_other _ _ _ _ _ (by decide)).trans e4))))⟩

set_option maxRecDepth 20000 in
set_option maxHeartbeats 1000000 in
theorem stat_file {w : World} {p b : Nat} {name : ByteArray} {ao : Option Addr} {len cap : Nat} {ver : Int} (hname : name.size ≤ 12) (hlen : len ≤ 1000000)
    (c0 : w.cell? ⟨p, 0, none⟩ = some (.iface 122 (.pointer (some ⟨b, 0, none⟩)))) (b0 : w.cell? ⟨b, 0, none⟩ = some (.string name)) (b3 : w.cell? ⟨b, 3, none⟩ = some (.slice ao len cap)) (b4 : w.cell? ⟨b, 4, none⟩ = some (.int .i64 ver)) :
    Calls Tryz.prog 56 #[.pointer (some ⟨p, 0, none⟩)] w fun e w' => e = .returned (pStatV ⟨name, false, len, ver, 0⟩) ∧ Below w.heap.size w w' := by
  have m1 := m_calledF
  have a1 := asFile
  have hp : p < w.heap.size := World.block_lt_of_cell? w _ c0
  have hb : b < w.heap.size := World.block_lt_of_cell? w _ b0
  have u0 := fun o => up c0 o
  have v0 := fun o => up b0 o
  have v3 := fun o => up b3 o
  have v4 := fun o => up b4 o
  have hz : (w.alloc (.cells #[.string ⟨#[]⟩, .bool false, .int .i64 0, .int .i64 0, .int .i64 0] 39)).heap.size = w.heap.size + 1 := by simp
  clear c0 b0 b3 b4
  go_enter Tryz.func56, Tryz.ntmps56
  go_wp2_with (first | (go_at_call 245; refine (called_any b name _ (v0 _)).mono ?_; rintro e w' ⟨rfl, hw⟩; obtain rfl := hw.symm) | (go_at_call 97; refine (clone_any name _ (by omega)).mono ?_; rintro e w1 ⟨rfl, hb1⟩; have x0 : w1.cell? ⟨p, 0, none⟩ = some (.iface 122 (.pointer (some ⟨b, 0, none⟩))) := (hb1.cell (p := ⟨p, 0, none⟩) (by simp; omega)).trans (u0 _); have x3 : w1.cell? ⟨b, 3, none⟩ = some (.slice ao len cap) := (hb1.cell (p := ⟨b, 3, none⟩) (by simp; omega)).trans (v3 _); have x4 : w1.cell? ⟨b, 4, none⟩ = some (.int .i64 ver) := (hb1.cell (p := ⟨b, 4, none⟩) (by simp; omega)).trans (v4 _); have hblk : w1.heap[w.heap.size]? = some (.cells #[.string ⟨#[]⟩, .bool false, .int .i64 0, .int .i64 0, .int .i64 0] 39 (0, 0)) := (hb1.block w.heap.size (by simp)).trans (heap_alloc_new w _); have HB1 := hide hb1; have x0' := (fun o => up x0 o); have x3' := (fun o => up x3 o); have x4' := (fun o => up x4 o); have HBlk := hide hblk; clear hb1 hblk))
  have hblk := HBlk.out
  have s0 : w1.cell? ⟨w.heap.size, 0, none⟩ = some (.string ⟨#[]⟩) := by simp [World.cell?, hblk]
  have s1 : w1.cell? ⟨w.heap.size, 1, none⟩ = some (.bool false) := by simp [World.cell?, hblk]
  have s2 : w1.cell? ⟨w.heap.size, 2, none⟩ = some (.int .i64 0) := by simp [World.cell?, hblk]
  have s3 : w1.cell? ⟨w.heap.size, 3, none⟩ = some (.int .i64 0) := by simp [World.cell?, hblk]
  have s4 : w1.cell? ⟨w.heap.size, 4, none⟩ = some (.int .i64 0) := by simp [World.cell?, hblk]
  have sf : ∀ j, w1.frozen? ⟨w.heap.size, j, none⟩ = false := fun j => by simp [World.frozen?, hblk]
  clear hblk
  have T0 : ∀ o : Obj, (w1.alloc o).cell? ⟨w.heap.size, 0, none⟩ = some (.string ⟨#[]⟩) := fun o => up s0 o
  have Z0 := fun o => upz s0 o (sf 0)
  have T1 : ∀ o : Obj, ((w1.alloc o).setCell ⟨w.heap.size, 0, none⟩ (.string name)).cell? ⟨w.heap.size, 1, none⟩ = some (.bool false) := fun o => (cell_other _ _ _ _ _ (by decide)).trans (up s1 o)
  have Z1 := fun o => upz s1 o (sf 1)
  have T2 : ∀ o : Obj, (((w1.alloc o).setCell ⟨w.heap.size, 0, none⟩ (.string name)).setCell ⟨w.heap.size, 1, none⟩ (.bool false)).cell? ⟨w.heap.size, 2, none⟩ = some (.int .i64 0) := fun o => (cell_other _ _ _ _ _ (by decide)).trans ((cell_other _ _ _ _ _ (by decide)).trans (up s2 o))
  have Z2 := fun o => upz s2 o (sf 2)
  have T3 : ∀ o : Obj, ((((w1.alloc o).setCell ⟨w.heap.size, 0, none⟩ (.string name)).setCell ⟨w.heap.size, 1, none⟩ (.bool false)).setCell ⟨w.heap.size, 2, none⟩ (.int .i64 len)).cell? ⟨w.heap.size, 3, none⟩ = some (.int .i64 0) := fun o => (cell_other _ _ _ _ _ (by decide)).trans ((cell_other _ _ _ _ _ (by decide)).trans ((cell_other _ _ _ _ _ (by decide)).trans (up s3 o)))
  have Z3 := fun o => upz s3 o (sf 3)
  have T4 : ∀ o : Obj, (((((w1.alloc o).setCell ⟨w.heap.size, 0, none⟩ (.string name)).setCell ⟨w.heap.size, 1, none⟩ (.bool false)).setCell ⟨w.heap.size, 2, none⟩ (.int .i64 len)).setCell ⟨w.heap.size, 3, none⟩ (.int .i64 ver)).cell? ⟨w.heap.size, 4, none⟩ = some (.int .i64 0) := fun o => (cell_other _ _ _ _ _ (by decide)).trans ((cell_other _ _ _ _ _ (by decide)).trans ((cell_other _ _ _ _ _ (by decide)).trans ((cell_other _ _ _ _ _ (by decide)).trans (up s4 o))))
  have Z4 := fun o => upz s4 o (sf 4)
  go_region
  go_wp2
  clear T0 T1 T2 T3 T4 Z0 Z1 Z2 Z3 Z4
  obtain ⟨q0, q1, q2, q3, q4⟩ := five (w1.alloc (.cells #[.string name, .bool false, .int .i64 len, .int .i64 ver, .int .i64 0] 39)) w.heap.size _ _ _ _ _ (.string name) (.bool false) (.int .i64 len) (.int .i64 ver) (.int .i64 0) (up s0 _) (up s1 _) (up s2 _) (up s3 _) (up s4 _)
  refine bodyPost_ret (v := pStatV ⟨name, false, len, ver, 0⟩) (by simp [results, Tryz.results56, go_sem, q0, q1, q2, q3, q4, pStatV]) rfl ?_
  refine ⟨rfl, ?_⟩
  have e1 : Below w.heap.size w w1 := ((Below.refl _ w).alloc (Nat.le_refl _) _).trans (HB1.out.mono (by simp))
  exact ((((((e1.alloc e1.size _).setCell (Nat.le_refl _) _).setCell (Nat.le_refl _) _).setCell (Nat.le_refl _) _).setCell (Nat.le_refl _) _).setCell (Nat.le_refl _) _).drew

set_option maxRecDepth 20000 in
set_option maxHeartbeats 1000000 in
theorem stat_dir {w : World} {p b : Nat} {name : ByteArray} {ao : Option Addr} {len cap : Nat} {n : Int} (hname : name.size ≤ 12)
    (c0 : w.cell? ⟨p, 0, none⟩ = some (.iface 87 (.pointer (some ⟨b, 0, none⟩)))) (c1 : w.cell? ⟨p, 1, none⟩ = some (.slice ao len cap)) (b0 : w.cell? ⟨b, 0, none⟩ = some (.string name))
    (hcount : ∀ W, Below w.heap.size w W → Calls Tryz.prog 98 #[.slice ao len cap] W fun e w' => e = .returned (.int .i64 n) ∧ Below W.heap.size W w') :
    Calls Tryz.prog 56 #[.pointer (some ⟨p, 0, none⟩)] w fun e w' => e = .returned (pStatV ⟨name, true, 0, 0, n⟩) ∧ Below w.heap.size w w' := by
  have m1 := m_calledD
  have a1 := asDir
  have a2 := notFile
  have hp : p < w.heap.size := World.block_lt_of_cell? w _ c0
  have u0 := fun o => up c0 o
  have u1 := fun o => up c1 o
  have v0 := fun o => up b0 o
  have HCount := hide hcount
  clear c0 b0 c1 hcount
  go_enter Tryz.func56, Tryz.ntmps56
  go_wp2_with (first | (go_at_call 245; refine (called_any b name _ (v0 _)).mono ?_; rintro e w' ⟨rfl, hw⟩; obtain rfl := hw.symm) | (go_at_call 97; refine (clone_any name _ (by omega)).mono ?_; rintro e w1 ⟨rfl, hb1⟩; have x0 : w1.cell? ⟨p, 0, none⟩ = some (.iface 87 (.pointer (some ⟨b, 0, none⟩))) := (hb1.cell (p := ⟨p, 0, none⟩) (by simp; omega)).trans (u0 _); have x1 : w1.cell? ⟨p, 1, none⟩ = some (.slice ao len cap) := (hb1.cell (p := ⟨p, 1, none⟩) (by simp; omega)).trans (u1 _); have hblk : w1.heap[w.heap.size]? = some (.cells #[.string ⟨#[]⟩, .bool false, .int .i64 0, .int .i64 0, .int .i64 0] 39 (0, 0)) := (hb1.block w.heap.size (by simp)).trans (heap_alloc_new w _); have HB1 := hide (show Below w.heap.size w w1 from ((Below.refl _ w).alloc (Nat.le_refl _) _).trans (hb1.mono (by simp))); have x0' := (fun o => up x0 o); have x1' := (fun o => up x1 o); have HBlk := hide hblk; clear hb1 hblk))
  refine (HCount.out _ (HB1.out.alloc HB1.out.size _)).mono ?_
  rintro e w2 ⟨rfl, hb2⟩
  have HB2 := hide (show Below w.heap.size w w2 from (HB1.out.alloc HB1.out.size _).trans (hb2.mono (by have := HB1.out.size; simp; omega)))
  have hz1 : w.heap.size < w1.heap.size := (Array.getElem?_eq_some_iff.1 HBlk.out).1
  have hblk : w2.heap[w.heap.size]? = some (.cells #[.string ⟨#[]⟩, .bool false, .int .i64 0, .int .i64 0, .int .i64 0] 39 (0, 0)) := (hb2.block w.heap.size (by simp; omega)).trans ((Below.heap_alloc _ _ _ hz1).trans HBlk.out)
  have hout : w2.heap[w1.heap.size]? = some (.cells #[.string name, .bool false, .int .i64 0, .int .i64 0, .int .i64 0] 39 (0, 0)) := (hb2.block w1.heap.size (by simp)).trans (heap_alloc_new w1 _)
  obtain ⟨O, hO⟩ : ∃ O, O = w1.heap.size := ⟨_, rfl⟩
  have hne : w.heap.size ≠ O := by omega
  clear hb2
  rw [← hO] at hout ⊢
  have y0 : w2.cell? ⟨O, 0, none⟩ = some (.string name) := by simp [World.cell?, hout]
  have y1 : w2.cell? ⟨O, 1, none⟩ = some (.bool false) := by simp [World.cell?, hout]
  have y2 : w2.cell? ⟨O, 2, none⟩ = some (.int .i64 0) := by simp [World.cell?, hout]
  have y3 : w2.cell? ⟨O, 3, none⟩ = some (.int .i64 0) := by simp [World.cell?, hout]
  have y4 : w2.cell? ⟨O, 4, none⟩ = some (.int .i64 0) := by simp [World.cell?, hout]
  have yf : ∀ j, w2.frozen? ⟨O, j, none⟩ = false := fun j => by simp [World.frozen?, hout]
  have s0 : w2.cell? ⟨w.heap.size, 0, none⟩ = some (.string ⟨#[]⟩) := by simp [World.cell?, hblk]
  have s1 : w2.cell? ⟨w.heap.size, 1, none⟩ = some (.bool false) := by simp [World.cell?, hblk]
  have s2 : w2.cell? ⟨w.heap.size, 2, none⟩ = some (.int .i64 0) := by simp [World.cell?, hblk]
  have s3 : w2.cell? ⟨w.heap.size, 3, none⟩ = some (.int .i64 0) := by simp [World.cell?, hblk]
  have s4 : w2.cell? ⟨w.heap.size, 4, none⟩ = some (.int .i64 0) := by simp [World.cell?, hblk]
  have sf : ∀ j, w2.frozen? ⟨w.heap.size, j, none⟩ = false := fun j => by simp [World.frozen?, hblk]
  have HO := hide hO
  have ne1 : ¬ w.heap.size = O := hne
  have ne2 : ¬ O = w.heap.size := fun h => hne h.symm
  clear hout hblk hO hne
  go_wp2
  have ob : ∀ (j : Nat) (v : Value), w2.cell? ⟨w.heap.size, j, none⟩ = some v → ((w2.setCell ⟨O, 1, none⟩ (.bool true)).setCell ⟨O, 4, none⟩ (.int .i64 n)).cell? ⟨w.heap.size, j, none⟩ = some v := fun j v h =>
    (World.cell?_setCell_other _ ⟨O, 4, none⟩ ⟨w.heap.size, j, none⟩ _ (fun e => ne2 (congrArg Addr.block e))).trans ((World.cell?_setCell_other _ ⟨O, 1, none⟩ ⟨w.heap.size, j, none⟩ _ (fun e => ne2 (congrArg Addr.block e))).trans h)
  obtain ⟨q0, q1, q2, q3, q4⟩ := five ((w2.setCell ⟨O, 1, none⟩ (.bool true)).setCell ⟨O, 4, none⟩ (.int .i64 n)) w.heap.size _ _ _ _ _ (.string name) (.bool true) (.int .i64 0) (.int .i64 0) (.int .i64 n) (ob _ _ s0) (ob _ _ s1) (ob _ _ s2) (ob _ _ s3) (ob _ _ s4)
  refine bodyPost_ret (v := pStatV ⟨name, true, 0, 0, n⟩) (by simp [results, Tryz.results56, go_sem, q0, q1, q2, q3, q4, pStatV]) rfl ?_
  refine ⟨rfl, ?_⟩
  have hO1 : w.heap.size ≤ O := by have := HB1.out.size; rw [HO.out]; exact this
  exact ((((((HB2.out.setCell hO1 _).setCell hO1 _).setCell (Nat.le_refl _) _).setCell (Nat.le_refl _) _).setCell (Nat.le_refl _) _).setCell (Nat.le_refl _) _).setCell (Nat.le_refl _) _
end Go.Proofs.YtdmdgnghaceibaaGreat.P
