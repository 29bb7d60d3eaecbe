/- The scripts of package prunetop as lists, and its helpers, walked. -/
import Derived.Test.YtihedgnachophaaGreatWdPure
import Derived.Test.YtihedgnachophaaGreatStY
import Derived.Test.YtihedgnachophaaGreatWdD
namespace Go.Proofs.YtihedgnachophaaGreat
open Go.RowKit

section
variable {n : Int} {A : List Upd} {w : WdS}
theorem nodup_len {α : Type} : ∀ (l : List α) {A : List α}, l.Nodup → (∀ x ∈ l, x ∈ A) → l.length ≤ A.length
 | [], _, _, _ => Nat.zero_le _
 | x :: r, A, hn, hs => by
  obtain ⟨s, t, rfl⟩ := List.append_of_mem (hs x (by simp))
  obtain ⟨h1, h2⟩ := List.nodup_cons.1 hn
  have := nodup_len r (A := s ++ t) h2 fun y hy => by
   have hy' := hs y (by simp [hy])
   rcases List.mem_append.1 hy' with h | h
   ·exact List.mem_append.2 (.inl h)
   ·rcases List.mem_cons.1 h with h | h
    ·subst h; exact absurd hy h1
    ·exact List.mem_append.2 (.inr h)
  simp only [List.length_append, List.length_cons] at this ⊢
  omega
theorem getD_out {xs : List Int} {j : Nat} (h : xs.length ≤ j) : xs.getD j 0 = 0 := by
 rw [List.getD_eq_getElem?_getD, List.getElem?_eq_none h]
 rfl
theorem log_few {xs : List Int} {l : List Upd} (hg : wrongC xs n = 0) (hf : errL n xs l = 0) (hs : ∀ u ∈ l, u ∈ A) : l.length ≤ A.length := nodup_len l (once_nodup (errL_once l hg hf).2) hs
theorem InD.few {d : NdS} (h : InD n A d) : d.log.length ≤ A.length := log_few h.okm.base h.okm.fits h.log
theorem InP.ok {d : NdS} {i : Int} {ca : List Int} {p : Pcl} (h : InD n A d) (hA : errL n (zeroC n.toNat) A = 0) (hp : InP n A ca d.st.clock p) (hs : otherE d i = 0) (hf : A.length ≤ 150) : ¬ takeE d i p = 5 := by
 rcases InP.taken h hA hp hs with ⟨t1, -⟩ | t1
 ·omega
 ·obtain ⟨hok, hi0, hi1, hno⟩ := other_zero.1 hs
  have hpc : wrongC p.clock d.st.clock.length = 0 := by rw [h.okm.len]; exact hp.good
  obtain ⟨q1, q2, q3⟩ := h.tstX hA (p := p) fun hw => by
   obtain ⟨h1, h2, h3, h4⟩ := hp.whole hw
   rw [h2]
   exact ⟨h3, h4⟩
  have main : upsE (tstX d p) p.ups = 0 := by
   cases hw : p.whole
   ·obtain ⟨xs, l, k, h1, h2, h3, h4, h5, h6, h7, h8⟩ := hp.part hw
    have hx : tstX d p = d := by unfold tstX; rw [if_neg (by rw [hw]; decide)]
    rw [hx, h7]
    have f1 := h.few
    have f2 := log_few h1 h2 h8
    have f3 : (lacksL l k).length ≤ l.length := lacks_few
    exact (ups_lack h4 l h1 h2 h.okm h5 h6 (by omega)).1
   ·obtain ⟨h1, -⟩ := hp.whole hw
    rw [h1]
    rfl
  unfold takeE
  rw [if_pos hs, if_pos hpc, if_pos q1, if_pos main]
  split <;> decide

def noUpd : Upd := ⟨0, [], 0, 0, 0⟩
def sendD (a b : Nat) : DoS := ⟨2, a, b, noUpd⟩
def delD (a b : Nat) : DoS := ⟨3, a, b, noUpd⟩
def pruneD (a : Nat) : DoS := ⟨5, a, 0, noUpd⟩
theorem isNB_of {a : Nat} (ha : a < w.nodes.length) : isNB w a = true := isNB_iff.2 ⟨by omega, by omega⟩
theorem wayAt_set {a b c d : Nat} {l : List Pcl} (h : WInv n A w) (ha : a < w.nodes.length) (hb : b < w.nodes.length) : wayAt (setWay w a b l) c d = if c = a ∧ d = b then l else wayAt w c d := by
 unfold wayAt setWay
 simp only [Int.toNat_natCast]
 rw [getD_setN (by rw [h.wl]; exact ha)]
 by_cases hc : c = a
 ·subst hc
  rw [if_pos rfl, getD_setN (by rw [h.wr c ha]; exact hb)]
  by_cases hd : d = b
  ·rw [if_pos hd, if_pos ⟨rfl, hd⟩]
  ·rw [if_neg hd, if_neg (fun hh => hd hh.2)]
 ·rw [if_neg hc, if_neg (fun hh => hc hh.1)]
def Still (w : WdS) : Prop := ∀ a b : Nat, a < w.nodes.length → b < w.nodes.length → wayAt w a b = []
theorem tell_two (h : WInv n A w) (hs : Still w) (hf : A.length ≤ 150) {a b : Nat} (ha : a < w.nodes.length) (hb : b < w.nodes.length) (hne : a ≠ b) :
  ∃ d, WInv n A (runX w [sendD a b, delD a b]) ∧ Still (runX w [sendD a b, delD a b]) ∧ (runX w [sendD a b, delD a b]).nodes = w.nodes.set b d ∧ d.st.clock = joinC (w.nodes.getD b noNode).st.clock (w.nodes.getD a noNode).st.clock ∧ d.known = ((w.nodes.getD b noNode).known.set a (joinC ((w.nodes.getD b noNode).known.getD a []) (w.nodes.getD a noNode).st.clock)).set b (joinC (w.nodes.getD b noNode).st.clock (w.nodes.getD a noNode).st.clock) ∧ runE w [sendD a b, delD a b] = [0, 0] := by
 have na := isNB_of ha
 have nb := isNB_of hb
 have nab : ¬ ((a : Int) = (b : Int)) := by omega
 have hw := hs a b ha hb
 have ho := h.other ha hb hne
 have hoa : otherE (nodeAt w a) b = 0 := ho
 have e1 : wsendE w a b = 0 := by unfold wsendE; rw [hw, if_neg (by simp)]; exact hoa
 have s1 : stepX w (sendD a b) = setWay w a b [sendX (nodeAt w a) b] := by
  unfold stepX sendD twoX wsendX
  simp only
  rw [if_neg (by decide), if_pos True.intro, if_pos ⟨na, nb, nab⟩, if_pos e1, hw]
  rfl
 have s1E : stepE w (sendD a b) = 0 := by
  unfold stepE sendD twoE
  simp only
  rw [if_neg (by decide), if_pos True.intro, if_pos ⟨na, nb⟩, if_neg nab]
  exact e1
 obtain ⟨p, hp⟩ : ∃ p, sendX (nodeAt w a) b = p := ⟨_, rfl⟩
 rw [hp] at s1
 have hpc : p.clock = (w.nodes.getD a noNode).st.clock := by
  rw [← hp]
  unfold sendX
  rw [if_pos hoa]
  split <;> rfl
 have hin : InP n A (w.nodes.getD a noNode).st.clock (w.nodes.getD b noNode).st.clock p := by
  rw [← hp]
  exact InP.sent (h.nd a ha).1 ho fun j => h.kn a b ha hb j
 have i1 : WInv n A (setWay w a b [p]) := h.setW ha hb fun q hq => by rw [List.mem_singleton] at hq; rw [hq]; exact hin
 obtain ⟨w1, hw1⟩ : ∃ w1, setWay w a b [p] = w1 := ⟨_, rfl⟩
 have hn1 : w1.nodes = w.nodes := by rw [← hw1]; rfl
 have hway : ∀ c d : Nat, wayAt w1 c d = if c = a ∧ d = b then [p] else wayAt w c d := fun c d => by rw [← hw1]; exact wayAt_set h ha hb
 rw [hw1] at s1 i1
 have hw2 : wayAt w1 a b = [p] := by rw [hway, if_pos ⟨rfl, rfl⟩]
 have hnx : nextX w1 a b = setWay w1 a b [] := by unfold nextX; rw [hw2, if_neg (by simp)]; rfl
 have hnp : nextP w1 a b = p := by unfold nextP; rw [hw2]; rfl
 have hne' : nextE w1 a b = 0 := by unfold nextE; rw [hw2, if_neg (by simp)]
 have ha1 : a < w1.nodes.length := by rw [hn1]; exact ha
 have hb1 : b < w1.nodes.length := by rw [hn1]; exact hb
 have i2 : WInv n A (setWay w1 a b []) := i1.setW ha1 hb1 fun q hq => by simp at hq
 have hn2 : (setWay w1 a b []).nodes = w.nodes := hn1
 have hp2 : InP n A ((setWay w1 a b []).nodes.getD a noNode).st.clock ((setWay w1 a b []).nodes.getD b noNode).st.clock p := by rw [hn2]; exact hin
 have hto : takeE (w.nodes.getD b noNode) a p = 0 ∧ (takeX (w.nodes.getD b noNode) a p).st.clock = joinC (w.nodes.getD b noNode).st.clock p.clock ∧ (takeX (w.nodes.getD b noNode) a p).known = ((w.nodes.getD b noNode).known.set a (joinC ((w.nodes.getD b noNode).known.getD a []) p.clock)).set b (joinC (w.nodes.getD b noNode).st.clock p.clock) ∧ WInv n A ⟨w.nodes.set b (takeX (w.nodes.getD b noNode) a p), (setWay w1 a b []).way⟩ := by
  rcases i2.take (by rw [hn2]; exact ha) (by rw [hn2]; exact hb) hne hp2 with t | t
  ·rw [hn2] at t; exact t
  ·rw [hn2] at t
   exact absurd t (InP.ok (h.nd b hb).1 h.fit hin (h.other hb ha (fun e => hne e.symm)) hf)
 obtain ⟨t1, t2, t3, t4⟩ := hto
 have hat : nodeAt w1 b = w.nodes.getD b noNode := by unfold nodeAt; rw [hn1]; rfl
 have s2 : stepX w1 (delD a b) = ⟨w.nodes.set b (takeX (w.nodes.getD b noNode) a p), (setWay w1 a b []).way⟩ := by
  unfold stepX delD twoX wdelX changeX
  simp only
  rw [if_neg (by decide), if_neg (by decide), if_pos True.intro, if_pos ⟨isNB_of ha1, isNB_of hb1, nab⟩, if_pos hne', hnx, hnp, hat, if_pos ⟨isNB_of (by rw [hn2]; exact hb), t1⟩]
  unfold setNode
  rw [hn2]
  rfl
 have s2E : stepE w1 (delD a b) = 0 := by
  unfold stepE delD twoE wdelE
  simp only
  rw [if_neg (by decide), if_neg (by decide), if_pos True.intro, if_pos ⟨isNB_of ha1, isNB_of hb1⟩, if_neg nab, if_pos hne', hnp, hat]
  exact t1
 have hrun : runX w [sendD a b, delD a b] = ⟨w.nodes.set b (takeX (w.nodes.getD b noNode) a p), (setWay w1 a b []).way⟩ := by
  show stepX (stepX w (sendD a b)) (delD a b) = _
  rw [s1, s2]
 have hrunE : runE w [sendD a b, delD a b] = [0, 0] := by
  show [stepE w (sendD a b), stepE (stepX w (sendD a b)) (delD a b)] = _
  rw [s1E, s1, s2E]
 refine ⟨takeX (w.nodes.getD b noNode) a p, by rw [hrun]; exact t4, ?_, by rw [hrun], by rw [t2, hpc], by rw [t3, hpc], hrunE⟩
 rw [hrun]
 intro c d hc hd
 rw [List.length_set] at hc hd
 show wayAt (setWay w1 a b []) c d = []
 rw [wayAt_set i1 ha1 hb1]
 split
 ·rfl
 ·next hcd =>
  rw [hway, if_neg hcd]
  exact hs c d hc hd
end
end Go.Proofs.YtihedgnachophaaGreat

namespace Go.Proofs.YtihedgnachophaaGreat
open Go.RowKit

def issD (i : Nat) (kd ky it : Int) : DoS := ⟨1, i, 0, ⟨0, [], kd, ky, it⟩⟩
def FitK (kd ky it : Int) : Prop := 1 ≤ kd ∧ kd ≤ 5 ∧ 0 ≤ ky ∧ ky ≤ 15 ∧ -1000 ≤ it ∧ it ≤ 1000 ∧ (kd = 2 → it = 0)
theorem tickL_few {n : Int} : ∀ (l : List Upd) {xs : List Int}, wrongC xs n = 0 → errL n xs l = 0 → ∀ i, (tickL xs l).getD i 0 ≤ xs.getD i 0 + l.length
 | [], xs, _, _, i => by simp [tickL]
 | u :: r, xs, hg, h, i => by
  obtain ⟨hw, hr⟩ := errL_cons h
  obtain ⟨g1, g2⟩ := fits_tick hg hw
  have h1 := tickL_few r g1 hr i
  have h2 := g2 i
  rw [tickL, List.length_cons]
  split at h2 <;> omega
section
variable {n : Int} {A : List Upd} {w : WdS}
theorem issue_run (h : WInv n A w) (hs : Still w) (hf : A.length ≤ 150) {i : Nat} (hi : i < w.nodes.length) {kd ky it : Int} (hk : FitK kd ky it) :
  ∃ d, stepE w (issD i kd ky it) = 0 ∧ WInv n (A ++ [⟨i, (w.nodes.getD i noNode).st.clock, kd, ky, it⟩]) (stepX w (issD i kd ky it)) ∧ Still (stepX w (issD i kd ky it)) ∧ (stepX w (issD i kd ky it)).nodes = w.nodes.set i d ∧ d.st.clock = tickC (w.nodes.getD i noNode).st.clock i := by
 obtain ⟨hD, hN, hS, hO⟩ := h.nd i hi
 obtain ⟨d, hd⟩ : ∃ d, w.nodes.getD i noNode = d := ⟨_, rfl⟩
 rw [hd] at hD hN hS hO
 have hz := zeroC_good hD.ina.good
 have hfew : d.st.clock.getD i 0 ≤ 150 := by
  have h1 := hD.ina.le i
  have h2 := tickL_few A hz h.fit i
  rw [zeroC_getD] at h2
  unfold totC at h1
  omega
 have hu : ownU d ⟨0, [], kd, ky, it⟩ = ⟨i, d.st.clock, kd, ky, it⟩ := by unfold ownU; rw [hS]
 obtain ⟨k1, k2, k3, k4, k5, k6, k7⟩ := hk
 have hin : (i : Int) < n := by have := h.len; omega
 have hwu : wrongU ⟨i, d.st.clock, kd, ky, it⟩ n = 0 := by
  unfold wrongU lateU farU
  simp only [hD.ina.good, ne_eq, not_true, if_false, Int.toNat_natCast]
  rw [if_neg (by simp only [decide_eq_true_eq]; omega), if_neg (by omega), if_neg (by simp only [decide_eq_true_eq]; omega), if_neg (by rintro ⟨a, b⟩; exact b (k7 a))]
 have hp : playN d (ownU d ⟨0, [], kd, ky, it⟩) = 0 := by
  rw [hu]
  exact (playN_zero hD.okm).2 ⟨by have := hD.few; omega, (fits_iff hD.ina.good).2 ⟨hwu, rfl, fun j => Int.le_refl _⟩⟩
 have he : issueE d ⟨0, [], kd, ky, it⟩ = 0 := by
  unfold issueE
  rw [if_pos (nodeE_zero.2 (by rw [hD.okm.len]; exact hN))]
  exact hp
 have hI := h.issue hi (u := ⟨0, [], kd, ky, it⟩) (by rw [hd]; exact he)
 rw [hd, hu] at hI
 have nb := isNB_of hi
 have e1 : stepE w (issD i kd ky it) = 0 := by
  show (if (1 : Int) = 1 then changeE w i (issueE (nodeAt w i) ⟨0, [], kd, ky, it⟩) else _) = 0
  rw [if_pos rfl]
  unfold changeE nodeAt
  rw [if_pos nb, Int.toNat_natCast, hd]
  exact he
 have x1 : stepX w (issD i kd ky it) = ⟨w.nodes.set i (issueX d ⟨0, [], kd, ky, it⟩), w.way⟩ := by
  show (if (1 : Int) = 1 then changeX w i (issueE (nodeAt w i) ⟨0, [], kd, ky, it⟩) (issueX (nodeAt w i) ⟨0, [], kd, ky, it⟩) else _) = _
  rw [if_pos rfl]
  unfold changeX nodeAt setNode
  rw [Int.toNat_natCast, hd, if_pos ⟨nb, he⟩]
 obtain ⟨-, pc, -, -, -⟩ := hD.okm.play hp
 have hc : (issueX d ⟨0, [], kd, ky, it⟩).st.clock = tickC d.st.clock i := by
  unfold issueX
  rw [if_pos he]
  show (playD d (ownU d ⟨0, [], kd, ky, it⟩)).st.clock = _
  rw [pc, hu]
 refine ⟨issueX d ⟨0, [], kd, ky, it⟩, e1, by rw [x1, hd]; exact hI, ?_, by rw [x1], by rw [hd]; exact hc⟩
 rw [x1]
 intro a b ha hb
 exact hs a b (by simpa using ha) (by simpa using hb)
end
structure At (k : Nat) (A : List Upd) (cs : List (List Int)) (l : List DoS) : Prop where
 inv : WInv k A (runX (beginW k) l)
 still : Still (runX (beginW k) l)
 cl : (runX (beginW k) l).nodes.map (fun d => d.st.clock) = cs
 er : ∀ e ∈ runE (beginW k) l, e = 0
section
variable {k : Nat} {A : List Upd} {cs : List (List Int)} {l : List DoS}
theorem At.len (h : At k A cs l) : (runX (beginW k) l).nodes.length = k := by have := h.inv.len; omega
theorem At.lc (h : At k A cs l) : cs.length = k := by rw [← h.cl, List.length_map, h.len]
theorem At.at (h : At k A cs l) (i : Nat) : cs.getD i [] = ((runX (beginW k) l).nodes.getD i noNode).st.clock := by
 rw [← h.cl, List.getD_eq_getElem?_getD, List.getElem?_map, List.getD_eq_getElem?_getD]
 cases (runX (beginW k) l).nodes[i]? <;> rfl
theorem At.start (h1 : 1 ≤ k) (h6 : k ≤ 6) : At k [] (List.replicate k (zeroC k)) [] := by
 refine ⟨begin_inv h1 h6, fun a b _ _ => ?_, ?_, fun e he => by simp [runE] at he⟩
 ·show ((beginW k).way.getD (a : Int).toNat []).getD (b : Int).toNat [] = []
  rw [Int.toNat_natCast, Int.toNat_natCast]
  exact begin_way
 ·show (beginW k).nodes.map _ = _
  unfold beginW
  rw [List.map_map, List.eq_replicate_iff]
  refine ⟨by simp, fun b hb => ?_⟩
  obtain ⟨i, hi, rfl⟩ := List.mem_map.1 hb
  show (startX i k).st.clock = _
  rw [(start_ok h1 h6 (List.mem_range.1 hi)).1]
theorem At.iss (h : At k A cs l) (hf : A.length ≤ 150) {i : Nat} (hi : i < k) {kd ky it : Int} (hk : FitK kd ky it) :
  At k (A ++ [⟨i, cs.getD i [], kd, ky, it⟩]) (cs.set i (tickC (cs.getD i []) i)) (l ++ [issD i kd ky it]) := by
 obtain ⟨d, e, i1, i2, i3, i4⟩ := issue_run h.inv h.still hf (by rw [h.len]; exact hi) hk
 refine ⟨by rw [runX_snoc, h.at]; exact i1, by rw [runX_snoc]; exact i2, by rw [runX_snoc, i3, List.map_set, h.cl, i4, h.at], fun x hx => ?_⟩
 rw [runE_snoc] at hx
 rcases List.mem_append.1 hx with hx | hx
 ·exact h.er x hx
 ·rw [List.mem_singleton.1 hx]
  exact e
theorem At.tell (h : At k A cs l) (hf : A.length ≤ 150) {a b : Nat} (ha : a < k) (hb : b < k) (hne : a ≠ b) :
  At k A (cs.set b (joinC (cs.getD b []) (cs.getD a []))) (l ++ [sendD a b, delD a b]) := by
 obtain ⟨d, i1, i2, i3, i4, -, i6⟩ := tell_two h.inv h.still hf (by rw [h.len]; exact ha) (by rw [h.len]; exact hb) hne
 refine ⟨by rw [runX_append]; exact i1, by rw [runX_append]; exact i2, by rw [runX_append, i3, List.map_set, h.cl, i4, h.at, h.at], fun x hx => ?_⟩
 rw [runE_append, i6] at hx
 rcases List.mem_append.1 hx with hx | hx
 ·exact h.er x hx
 ·simp at hx
  exact hx
theorem set_own {α : Type} {d : α} : ∀ (l : List α) (i : Nat), i < l.length → l.set i (l.getD i d) = l
 | [], _, h => by simp at h
 | x :: r, 0, _ => rfl
 | x :: r, i + 1, h => by
  rw [put3]
  show x :: r.set i (r.getD i d) = _
  rw [set_own r i (by simpa using h)]
theorem At.prune (h : At k A cs l) {a : Nat} (ha : a < k) : At k A cs (l ++ [pruneD a]) := by
 have ha' : a < (runX (beginW k) l).nodes.length := by rw [h.len]; exact ha
 obtain ⟨p1, p2⟩ := h.inv.prune ha'
 obtain ⟨-, q2, -⟩ := prune_right p1
 have nb := isNB_of ha'
 have e1 : stepE (runX (beginW k) l) (pruneD a) = 0 := by
  show (if (5 : Int) = 1 then _ else if (5 : Int) = 2 then _ else if (5 : Int) = 3 then _ else if (5 : Int) = 4 then _ else if (5 : Int) = 5 then changeE (runX (beginW k) l) a (nodeE (nodeAt (runX (beginW k) l) a)) else _) = 0
  rw [if_neg (by decide), if_neg (by decide), if_neg (by decide), if_neg (by decide), if_pos rfl]
  unfold changeE nodeAt
  rw [if_pos nb, Int.toNat_natCast]
  exact p1
 have x1 : stepX (runX (beginW k) l) (pruneD a) = ⟨(runX (beginW k) l).nodes.set a (pruneX ((runX (beginW k) l).nodes.getD a noNode)), (runX (beginW k) l).way⟩ := by
  show (if (5 : Int) = 1 then _ else if (5 : Int) = 2 then _ else if (5 : Int) = 3 then _ else if (5 : Int) = 4 then _ else if (5 : Int) = 5 then changeX (runX (beginW k) l) a (nodeE (nodeAt (runX (beginW k) l) a)) (pruneX (nodeAt (runX (beginW k) l) a)) else _) = _
  rw [if_neg (by decide), if_neg (by decide), if_neg (by decide), if_neg (by decide), if_pos rfl]
  unfold changeX nodeAt setNode
  rw [Int.toNat_natCast, if_pos ⟨nb, p1⟩]
 refine ⟨by rw [runX_snoc, x1]; exact p2, ?_, ?_, fun x hx => ?_⟩
 ·rw [runX_snoc, x1]
  intro a b ha hb
  exact h.still a b (by simpa using ha) (by simpa using hb)
 ·rw [runX_snoc, x1]
  show ((runX (beginW k) l).nodes.set a _).map _ = cs
  rw [List.map_set, h.cl, q2, ← h.at]
  exact set_own cs a (by rw [h.lc]; exact ha)
 ·rw [runE_snoc] at hx
  rcases List.mem_append.1 hx with hx | hx
  ·exact h.er x hx
  ·rw [List.mem_singleton.1 hx]
   exact e1
theorem At.le (h : At k A cs l) {i : Nat} (hi : i < k) (j : Nat) : (cs.getD i []).getD j 0 ≤ (totC k A).getD j 0 := by
 rw [h.at]
 exact (h.inv.nd i (by rw [h.len]; exact hi)).1.ina.le j
theorem At.own (h : At k A cs l) {i : Nat} (hi : i < k) : (cs.getD i []).getD i 0 = (totC k A).getD i 0 := by
 rw [h.at]
 exact (h.inv.nd i (by rw [h.len]; exact hi)).2.2.2
theorem At.full (h : At k A cs l) {i : Nat} (hi : i < k) (hj : ∀ j, j < k → (totC k A).getD j 0 ≤ (cs.getD i []).getD j 0) : cs.getD i [] = totC k A := by
 have hD := (h.inv.nd i (by rw [h.len]; exact hi)).1
 have hz := zeroC_good hD.ina.good
 obtain ⟨tg, -⟩ := tickL_good A hz h.inv.fit
 obtain ⟨-, -, tl, -⟩ := goodC_iff.1 tg
 obtain ⟨-, -, gl, -⟩ := goodC_iff.1 hD.ina.good
 have e := h.at i
 have l1 : (cs.getD i []).length = k := by rw [e]; omega
 have l2 : (totC k A).length = k := by unfold totC; omega
 refine eq_getD (by rw [l1, l2]) fun j => ?_
 rcases Nat.lt_or_ge j k with hjk | hjk
 ·have := h.le hi j
  have := hj j hjk
  omega
 ·rw [getD_out (by omega), getD_out (by omega)]
theorem At.st (h : At k A cs l) {i : Nat} (hi : i < k) : ((runX (beginW k) l).nodes.getD i noNode).st = ofS k A (cs.getD i []) ∧ stE (ofS k A (cs.getD i [])) (ofS k A (cs.getD i [])).clock.length = 0 ∧ OkS k (ofS k A (cs.getD i [])).clock (ofS k A (cs.getD i [])).lives (ofS k A (cs.getD i [])).tals := by
 have hD := (h.inv.nd i (by rw [h.len]; exact hi)).1
 have e : ((runX (beginW k) l).nodes.getD i noNode).st = ofS k A (cs.getD i []) := by rw [h.at]; exact hD.of
 have o := hD.okm.st
 have hl := hD.okm.len
 rw [e] at o hl
 exact ⟨e, stE_ok.2 (by rw [hl]; exact o), o⟩
theorem readX_ok {s : StS} (h : stE s s.clock.length = 0) : readX s = ⟨cellsL false s.lives [], cellsL true s.lives [], countL s.tals []⟩ := by unfold readX; rw [if_pos h]
theorem At.reg (h : At k A cs l) {i : Nat} (hi : i < k) (key : Int) {xs : List Int} (hx : xs.Pairwise fun p q : Int => p < q) (hm : ∀ x, x ∈ xs ↔ ∃ y ∈ playLv [] (mine (cs.getD i []) A), y.set = false ∧ y.key = key ∧ y.item = x) : ofL (readX (ofS k A (cs.getD i []))).regs key = xs := by
 obtain ⟨-, h2, h3⟩ := h.st hi
 rw [readX_ok h2]
 obtain ⟨o1, o2⟩ := ofL_mem (cells_all false h3.order) key
 exact inc_ext o1 hx fun x => (o2 x).trans (hm x).symm
theorem At.sets (h : At k A cs l) {i : Nat} (hi : i < k) (key : Int) {xs : List Int} (hx : xs.Pairwise fun p q : Int => p < q) (hm : ∀ x, x ∈ xs ↔ ∃ y ∈ playLv [] (mine (cs.getD i []) A), y.set = true ∧ y.key = key ∧ y.item = x) : ofL (readX (ofS k A (cs.getD i []))).sets key = xs := by
 obtain ⟨-, h2, h3⟩ := h.st hi
 rw [readX_ok h2]
 obtain ⟨o1, o2⟩ := ofL_mem (cells_all true h3.order) key
 exact inc_ext o1 hx fun x => (o2 x).trans (hm x).symm
theorem At.num (h : At k A cs l) {i : Nat} (hi : i < k) (key : Int) : numL (readX (ofS k A (cs.getD i []))).cnts key = sumK (playT [] (mine (cs.getD i []) A)) key := by
 obtain ⟨-, h2, h3⟩ := h.st hi
 rw [readX_ok h2]
 exact numL_sum (count_all h3.ord) key
theorem mine_all (h : At k A cs l) : mine (totC k A) A = A := by
 unfold mine
 rw [List.filter_eq_self]
 intro u hu
 have hk : 0 < k := by have := h.inv.n1; omega
 have hz := zeroC_good (h.inv.nd 0 (by rw [h.len]; exact hk)).1.ina.good
 have := entry_lt hz h.inv.fit hu
 unfold mineB totC
 exact decide_eq_true (by omega)
end
def lineL (key item : Int) : Nat → List DoS
 | 0 => [issD 0 1 key item]
 | j + 1 => lineL key item j ++ [sendD j (j + 1), delD j (j + 1)]
theorem lineL_len (key item : Int) : ∀ j, (lineL key item j).length = 1 + j * 2
 | 0 => rfl
 | j + 1 => by
  rw [lineL, List.length_append, lineL_len key item j]
  simp
  omega
theorem line_run {k : Nat} (h1 : 1 ≤ k) (h6 : k ≤ 6) {key item : Int} (hf : FitK 1 key item) : ∀ j, j < k → ∃ cs, At k [⟨0, zeroC k, 1, key, item⟩] cs (lineL key item j) ∧ cs.getD j [] = totC k [⟨0, zeroC k, 1, key, item⟩]
 | 0, hj => by
  have h := (At.start h1 h6).iss (by simp) hj hf
  have e : (List.replicate k (zeroC k)).getD 0 [] = zeroC k := by rw [List.getD_eq_getElem?_getD, List.getElem?_replicate, if_pos hj]; rfl
  rw [e] at h
  refine ⟨_, h, ?_⟩
  rw [getD_setN (by simpa using hj), if_pos rfl]
  rfl
 | j + 1, hj => by
  obtain ⟨cs, h, hc⟩ := line_run h1 h6 hf j (by omega)
  have h' := h.tell (by simp) (a := j) (b := j + 1) (by omega) hj (by omega)
  refine ⟨_, h', h'.full hj fun i hi => ?_⟩
  rw [getD_setN (by rw [h.lc]; exact hj), if_pos rfl, joinC_getD, hc]
  exact joinI_le.2
theorem line_read {k : Nat} {key item : Int} {cs : List (List Int)} {l : List DoS} (h : At k [⟨0, zeroC k, 1, key, item⟩] cs l) {i : Nat} (hi : i < k) (hc : cs.getD i [] = totC k [⟨0, zeroC k, 1, key, item⟩]) : ofL (readX (ofS k [⟨0, zeroC k, 1, key, item⟩] (cs.getD i []))).regs key = [item] := by
 refine h.reg hi key (by simp) fun x => ?_
 rw [hc, mine_all h]
 show x ∈ [item] ↔ ∃ y ∈ applyLv [] ⟨0, zeroC k, 1, key, item⟩, y.set = false ∧ y.key = key ∧ y.item = x
 have e : newL ⟨0, zeroC k, 1, key, item⟩ = some ⟨false, key, item, 0, entU ⟨0, zeroC k, 1, key, item⟩ + 1⟩ := rfl
 constructor
 ·intro hx
  rw [List.mem_singleton.1 hx]
  exact ⟨_, mem_applyLv.2 (.inl e), rfl, rfl, rfl⟩
 ·rintro ⟨y, hy, -, -, h3⟩
  rcases mem_applyLv.1 hy with hy | ⟨hy, -⟩
  ·rw [e] at hy
   rw [← h3, ← Option.some.inj hy]
   simp
  ·simp at hy
theorem At.cast {k : Nat} {A : List Upd} {cs cs' : List (List Int)} {l : List DoS} (h : At k A cs l) (e : cs = cs') : At k A cs' l := e ▸ h
end Go.Proofs.YtihedgnachophaaGreat

namespace Go.Proofs.YtihedgnachophaaGreat
open Go.RowKit

theorem Tryz.infoDoT : (Tryz.prog.info? 39).map (fun i => (i.zero, i.size, i.bytes)) = some (some (.agg #[.int .i64 0, .int .i64 0, .int .i64 0, .int .i64 0, .slice none 0 0, .int .i64 0, .int .i64 0, .int .i64 0]), 8, 80) := by kernel_rfl
theorem flatD_len (l : List DoS) : (l.flatMap cellsD).length = l.length * 8 := by
 induction l with
 | nil => rfl
 | cons q r ih =>
  rw [List.flatMap_cons, List.length_append, ih, List.length_cons]
  show 8 + _ = _
  omega
theorem flatD_one (l : List DoS) : ∀ q ∈ l.flatMap cellsD, q.oneCell' = true := by
 intro q hq
 obtain ⟨o, -, ho⟩ := List.mem_flatMap.1 hq
 simp only [cellsD, List.mem_cons, List.not_mem_nil, or_false] at ho
 rcases ho with rfl | rfl | rfl | rfl | rfl | rfl | rfl | rfl <;> rfl
theorem alloc_cells (w : World) (cs : List Value) (t : TypeId) : ∀ (j : Nat) (q : Value), cs[j]? = some q → (w.alloc (.cells cs.toArray t)).cell? ((⟨w.heap.size, 0, none⟩ : Addr).add j) = some q := by
 intro j q hj
 have e : (⟨w.heap.size, 0, none⟩ : Addr).add j = ⟨w.heap.size, j, none⟩ := by cases j <;> simp [Addr.add]
 rw [e]
 exact (Box.new w cs t).get j hj
def OwnT (w : World) (B : Nat) (v : Value) (l : List DoS) : Prop := w.ownsRow B 39 8 v l.length (l.flatMap cellsD) ∧ ∀ o ∈ l, o.upd.seen = []
theorem OwnT.step {w w' : World} {B C : Nat} {v : Value} {l : List DoS} (h : OwnT w B v l) (hb : Below C w w') (hC : w.heap.size ≤ C) : OwnT w' B v l := ⟨ownsRow_below h.1 hb hC, h.2⟩
theorem OwnT.nil (w : World) (B : Nat) : OwnT w B (.slice none 0 0) [] := ⟨World.ownsRow_nil _ _ _ _, fun p hp => by simp at hp⟩
theorem OwnT.box {w : World} {B g : Nat} {l : List DoS} (h : Box w g (l.flatMap cellsD) 39) (hg : B ≤ g) (hs : ∀ o ∈ l, o.upd.seen = []) (hl : l.length ≤ 1000) : OwnT w B (.slice (some ⟨g, 0, none⟩) l.length l.length) l :=
 ⟨⟨by rw [flatD_len], .inr ⟨g, l.length, _, rfl, hg, h, nlr _, by unfold maxLen; omega, by have := flatD_len l; simp at this ⊢; omega, List.take_of_length_le (by have := flatD_len l; simp at this ⊢; omega)⟩⟩, hs⟩
theorem OwnT.more {w w' : World} {B : Nat} {v v' : Value} {l m : List DoS} (h : OwnT w B v l) (hs : ∀ o ∈ m, o.upd.seen = []) (ho : w'.ownsRow B 39 8 v' (l.length + m.length) (l.flatMap cellsD ++ m.flatMap cellsD)) : OwnT w' B v' (l ++ m) := by
 refine ⟨by rw [List.flatMap_append, List.length_append]; exact ho, fun o hm => ?_⟩
 rcases List.mem_append.1 hm with hm | hm
 ·exact h.2 o hm
 ·exact hs o hm
theorem OwnT.form {w : World} {B : Nat} {v : Value} {l : List DoS} (h : OwnT w B v l) : ∃ a c, v = .slice a l.length c := by
 rcases h.1.2 with ⟨rfl, h0⟩ | ⟨g, cap, cur, rfl, -⟩
 ·exact ⟨none, 0, by rw [h0]⟩
 ·exact ⟨_, _, rfl⟩
theorem OwnT.dos {w : World} {B : Nat} {v : Value} {l : List DoS} (h : OwnT w B v l) : DoV w v l := by
 obtain ⟨h, hs⟩ := h
 rcases h.2 with ⟨rfl, h0⟩ | ⟨g, cap, cur, rfl, hg, hh, h1, h2, h3, h4⟩
 ·have : l = [] := List.eq_nil_of_length_eq_zero h0
  subst this
  exact ⟨none, 0, rfl, by simp, by unfold maxLen; omega, fun i o hi => by simp at hi⟩
 ·refine ⟨some ⟨g, 0, none⟩, cap, rfl, h1, h2, fun i u hi => ⟨g, 0, rfl, ?_⟩⟩
  have hil : i < l.length := (List.getElem?_eq_some_iff.1 hi).1
  have cell : ∀ j, j < 8 → w.cell? ⟨g, 0 + i * 8 + j, none⟩ = (cellsD u)[j]? := by
   intro j hj
   rw [Nat.zero_add, ← flat8 l hi j hj, ← h4]
   have : i * 8 + j < l.length * 8 := by omega
   rw [List.getElem?_take_of_lt this]
   simp [World.cell?, hh]
  exact ⟨.slice none 0 0, by rw [hs u (List.mem_of_getElem? hi)]; exact Row.nil w, cell 0 (by omega), cell 1 (by omega), cell 2 (by omega), cell 3 (by omega), cell 4 (by omega), cell 5 (by omega), cell 6 (by omega), cell 7 (by omega)⟩
theorem OwnT.at {w : World} {B : Nat} {a : Option Addr} {n c : Nat} {l : List DoS} (h : OwnT w B (.slice a n c) l) {i : Nat} {o : DoS} (ho : l[i]? = some o) : ∃ g, a = some ⟨g, 0, none⟩ ∧ w.cell? ⟨g, i * 8, none⟩ = some (.int .i64 o.kind) ∧ w.cell? ⟨g, i * 8 + 1, none⟩ = some (.int .i64 o.n) ∧ w.cell? ⟨g, i * 8 + 2, none⟩ = some (.int .i64 o.dst) ∧ w.cell? ⟨g, i * 8 + 3, none⟩ = some (.int .i64 o.upd.author) ∧ w.cell? ⟨g, i * 8 + 4, none⟩ = some (.slice none 0 0) ∧ w.cell? ⟨g, i * 8 + 5, none⟩ = some (.int .i64 o.upd.kind) ∧ w.cell? ⟨g, i * 8 + 6, none⟩ = some (.int .i64 o.upd.key) ∧ w.cell? ⟨g, i * 8 + 7, none⟩ = some (.int .i64 o.upd.item) := by
 have hil : i < l.length := (List.getElem?_eq_some_iff.1 ho).1
 rcases h.1.2 with ⟨h0, h1⟩ | ⟨g, cap, cur, hv, hg, hh, h1, h2, h3, h4⟩
 ·omega
 ·simp only [Value.slice.injEq] at hv
  obtain ⟨rfl, -, -⟩ := hv
  have cell : ∀ j, j < 8 → w.cell? ⟨g, i * 8 + j, none⟩ = (cellsD o)[j]? := by
   intro j hj
   rw [← flat8 l ho j hj, ← h4]
   have : i * 8 + j < l.length * 8 := by omega
   rw [List.getElem?_take_of_lt this]
   simp [World.cell?, hh]
  exact ⟨g, rfl, cell 0 (by omega), cell 1 (by omega), cell 2 (by omega), cell 3 (by omega), cell 4 (by omega), cell 5 (by omega), cell 6 (by omega), cell 7 (by omega)⟩
theorem rowLit (w : World) (xs : List Int) (h : xs.length ≤ 1000) : Row (w.alloc (.cells (xs.map (Value.int .i64)).toArray 3)) (.slice (some ⟨w.heap.size, 0, none⟩) xs.length xs.length) xs := (own_of_block (B := 0) (heap_alloc_new w _) (Nat.zero_le _) (by unfold maxLen; omega)).row
theorem keepsT {w w' : World} {B : Nat} {v : Value} {l : List DoS} (h : OwnT w B v l) (hg : w.grownBy w' v.ownBlock) : Keeps [39] w w' := by
 rcases h.1.2 with ⟨rfl, -⟩ | ⟨g, cap, cur, rfl, -, hc, -⟩
 ·exact keeps_grown0 hg
 ·exact keeps_grown hc hg
theorem ViewR.form {w : World} {v : Value} {x : Vw} (h : ViewR w v x) : ∃ a1 c1 a2 c2 a3 c3, v = .agg #[.slice a1 x.regs.length c1, .slice a2 x.sets.length c2, .slice a3 x.cnts.length c3] := by
 obtain ⟨rv, sv, cv, rfl, h1, h2, h3⟩ := h
 obtain ⟨a1, c1, rfl, -⟩ := h1
 obtain ⟨a2, c2, rfl, -⟩ := h2
 obtain ⟨a3, c3, rfl, -⟩ := h3
 exact ⟨a1, c1, a2, c2, a3, c3, rfl⟩
theorem ViewO.base {w : World} {B C : Nat} {v : Value} {x : Vw} (h : ViewO w B v x) (hB : C ≤ B) : ViewO w C v x := by
 obtain ⟨rv, sv, cv, pr, ps, e, h1, h2, h3, h4, h5⟩ := h
 exact ⟨rv, sv, cv, pr, ps, e, h1.base hB, h2, h3.base hB, h4, ownsRow_base h5 hB⟩
theorem ViewR.parts {w : World} {a b c : Value} {x : Vw} (h : ViewR w (.agg #[a, b, c]) x) : CellR w a x.regs ∧ CellR w b x.sets ∧ SliceV 2 encC w c x.cnts := by
 obtain ⟨rv, sv, cv, he, h1, h2, h3⟩ := h
 simp only [Value.agg.injEq, Array.mk.injEq, List.cons.injEq, and_true] at he
 obtain ⟨rfl, rfl, rfl⟩ := he
 exact ⟨h1, h2, h3⟩

set_option maxRecDepth 100000 in
set_option maxHeartbeats 4000000 in
theorem tellT_w (a b : Nat) (v : Value) (l : List DoS) (B : Nat) (w0 : World) (hl : l.length ≤ 1000) (hB : B ≤ w0.heap.size) (h : OwnT w0 B v l) :
  Calls Tryz.prog 17 #[v, .int .i64 a, .int .i64 b] w0 fun e w' => ∃ v', e = .returned v' ∧ OwnT w' B v' (l ++ [sendD a b, delD a b]) ∧ Below B w0 w' ∧ Keeps [39] w0 w' := by
 obtain ⟨i0, hi, hz0, hz1, hz2⟩ := info_parts Tryz.infoDoT
 have HPL := hide hl
 have O0 := hide h
 have HS0 := hide hB
 clear hl h hB
 go_enter Tryz.func17, Tryz.ntmps17
 go_wp2_with fail
 refine (doT_fn _ _ _ _).mono ?_
 rintro e w3 ⟨rfl, hb3⟩
 have O3 := hide (O0.out.step hb3 (nlr _))
 have HB3 := hide (hb3.mono HS0.out)
 have K3 : Hid (Keeps [39] w0 w3) := Keeps.below hb3
 have HS3 := hide (Nat.le_trans HS0.out hb3.size)
 clear hb3 O0
 go_wp2_with fail
 refine (doT_fn _ _ _ _).mono ?_
 rintro e w4 ⟨rfl, hb4⟩
 have O4 := hide (O3.out.step hb4 (nlr _))
 have HB4 := hide (HB3.out.trans (hb4.mono HS3.out))
 have K4 : Hid (Keeps [39] w0 w4) := K3.out.trans (Keeps.below hb4)
 have HS4 := hide (Nat.le_trans HS3.out hb4.size)
 clear hb4 O3 HB3
 go_wp2_with (at_builtin; refine wpList_append_own _ rfl (.tmp 7) (.tmp 14) 22 rfl B 39 i0 (.agg #[.int .i64 0, .int .i64 0, .int .i64 0, .int .i64 0, .slice none 0 0, .int .i64 0, .int .i64 0, .int .i64 0]) 8 80 Tryz.underlying22 hi hz0 hz1 hz2 rfl (by decide) _ _ _ rfl ((O4.out.step ((Below.refl w4.heap.size w4).alloc (nlr _) _) (nlr _)).1) ⟨w4.heap.size, 0, none⟩ 2 2 ([sendD a b, delD a b].flatMap cellsD) rfl rfl ?c1 ?c2 ?c3 ?c4 ?c5 ?_)
 case c1 => exact alloc_cells w4 ([sendD a b, delD a b].flatMap cellsD) 39
 case c2 => exact flatD_one _
 case c3 => unfold maxLen; have := HPL.out; omega
 case c4 => have := HPL.out; omega
 case c5 => have := HS4.out; simp; omega
 intro v' w5 hown' hgrow _
 have HB5 := hide (HB4.out.trans (((Below.refl B w4).alloc HS4.out _).grown hgrow (by have := HS4.out; simp; omega) (fun g hg => (World.ownsRow.lt O4.out.1 g hg).1)))
 have KK : Hid (Keeps [39] w4 w5) := (Keeps.below ((Below.refl w4.heap.size w4).alloc (nlr _) _)).trans (keepsT (O4.out.step ((Below.refl w4.heap.size w4).alloc (nlr _) _) (nlr _)) hgrow)
 have O5 : Hid (OwnT w5 B v' (l ++ [sendD a b, delD a b])) := OwnT.more O4.out (by simp [sendD, delD, noUpd]) hown'
 clear hown' hgrow
 go_wp2_with fail
 go_ret
 exact ⟨_, rfl, O5.out, HB5.out, K4.out.trans KK.out⟩

def rightB (key : Int) (xs : List Int) : Bool := (xs.all fun x => decide (-1000 ≤ x ∧ x ≤ 1000)) && decide (0 ≤ key ∧ key ≤ 15)
set_option maxRecDepth 100000 in
set_option maxHeartbeats 2000000 in
theorem rightT_w (key : Int) (v : Value) (xs : List Int) (w : World) (h : Row w v xs) :
  Calls Tryz.prog 15 #[.int .i64 key, v] w fun e w' => e = .returned (.bool (rightB key xs)) ∧ Below w.heap.size w w' := by
 obtain ⟨b, HBb⟩ : ∃ b, Hid (rightB key xs = b) := ⟨_, rfl⟩
 rw [HBb.out]
 have C0 := hide h
 obtain ⟨a, cap, rfl, hcap, hmax, -⟩ := id h
 have hl : xs.length ≤ 9223372036854775807 := by unfold maxLen at hmax; omega
 clear h hcap hmax
 go_enter Tryz.func15, Tryz.ntmps15
 go_wp2_with fail
 go_loopw [9] (fun i wr => ∃ k : Nat, k ≤ xs.length ∧ i = .int .i64 k ∧ Hid (∀ x ∈ xs.take k, -1000 ≤ x ∧ x ≤ 1000) ∧ wr = w) (fun i _ => xs.length - (intOf i).toNat)
 case atStart => exact ⟨0, Nat.zero_le _, rfl, fun x hx => by simp at hx, rfl⟩
 case round =>
  obtain ⟨k, hk, rfl, HN, rfl⟩ := hrel
  by_cases hlt : k < xs.length
  ·have hlt' : (k : Int) < (xs.length : Int) := by omega
   obtain ⟨x, HX⟩ : ∃ x, Hid (xs[k]? = some x) := ⟨_, List.getElem?_eq_getElem hlt⟩
   obtain ⟨ad, rfl, hcx⟩ := C0.out.cells.2.2.2 (by omega)
   have hc := hcx k (.int .i64 x) (by rw [List.getElem?_map, HX.out]; rfl)
   clear hcx
   by_cases h1 : x < -1000
   ·obtain rfl : false = b := by
     rw [← HBb.out]; unfold rightB
     rw [List.all_eq_false.2 ⟨x, List.mem_of_getElem? HX.out, by simp only [decide_eq_true_eq]; omega⟩, Bool.false_and]
    go_wp2_with fail
    go_ret
    exact ⟨rfl, Below.refl _ _⟩
   ·by_cases h2 : 1000 < x
    ·obtain rfl : false = b := by
      rw [← HBb.out]; unfold rightB
      rw [List.all_eq_false.2 ⟨x, List.mem_of_getElem? HX.out, by simp only [decide_eq_true_eq]; omega⟩, Bool.false_and]
     go_wp2_with fail
     go_ret
     exact ⟨rfl, Below.refl _ _⟩
    ·have HN1 : Hid (∀ y ∈ xs.take (k + 1), -1000 ≤ y ∧ y ≤ 1000) := fun y hy => by
      rw [take_snoc HX.out] at hy
      rcases List.mem_append.1 hy with hy | hy
      ·exact HN.out y hy
      ·rw [List.mem_singleton.1 hy]; omega
     go_wp2_with fail
     go_roundw
     case rel => exact ⟨k + 1, by omega, by go_num, HN1, by trivial⟩
     case measure => simp [intOf]; omega
  ·have hkl : xs.take k = xs := List.take_of_length_le (by omega)
   rw [hkl] at HN
   have hlt' : ¬ (k : Int) < (xs.length : Int) := by omega
   have hall : (xs.all fun x => decide (-1000 ≤ x ∧ x ≤ 1000)) = true := List.all_eq_true.2 fun x hx => decide_eq_true (HN.out x hx)
   by_cases h0 : 0 ≤ key
   ·by_cases h15 : key ≤ 15
    ·obtain rfl : true = b := by rw [← HBb.out]; unfold rightB; rw [hall, decide_eq_true ⟨h0, h15⟩]; rfl
     clear hall hkl
     go_wp2_with fail
     go_ret
     exact ⟨rfl, Below.refl _ _⟩
    ·obtain rfl : false = b := by rw [← HBb.out]; unfold rightB; rw [decide_eq_false (fun h => h15 h.2), Bool.and_false]
     clear hall hkl
     go_wp2_with fail
     go_ret
     exact ⟨rfl, Below.refl _ _⟩
   ·obtain rfl : false = b := by rw [← HBb.out]; unfold rightB; rw [decide_eq_false (fun h => h0 h.1), Bool.and_false]
    clear hall hkl
    go_wp2_with fail
    go_ret
    exact ⟨rfl, Below.refl _ _⟩
theorem right_ok {key : Int} {xs : List Int} (h : rightB key xs = true) : (∀ x ∈ xs, -1000 ≤ x ∧ x ≤ 1000) ∧ 0 ≤ key ∧ key ≤ 15 := by
 unfold rightB at h
 rw [Bool.and_eq_true, List.all_eq_true, decide_eq_true_iff] at h
 exact ⟨fun x hx => of_decide_eq_true (h.1 x hx), h.2⟩
theorem find_step {α : Type} {p : α → Bool} {l : List α} {k : Nat} {x : α} (h : l[k]? = some x) (hn : (l.take k).find? p = none) : (p x = true → l.find? p = some x) ∧ (p x = false → (l.take (k + 1)).find? p = none) := by
 obtain ⟨hk, rfl⟩ := List.getElem?_eq_some_iff.1 h
 constructor
 ·intro hp
  have hs : l = l.take k ++ l[k] :: l.drop (k + 1) := by rw [← List.drop_eq_getElem_cons hk, List.take_append_drop]
  generalize l[k] = x at hs hp
  rw [hs, List.find?_append, hn]
  simp [hp]
 ·intro hp
  rw [List.take_succ_eq_append_getElem hk, List.find?_append, hn]
  simp [hp]

set_option maxRecDepth 100000 in
set_option maxHeartbeats 2000000 in
theorem ofT_fn (v : Value) (cs : List (Int × List Int)) (key : Int) (w : World) (h : CellR w v cs) :
  Calls Tryz.prog 20 #[v, .int .i64 key] w fun e w' => ∃ rv, e = .returned rv ∧ Row w' rv (ofL cs key) ∧ Below w.heap.size w w' := by
 have hl := h.len_le
 have C0 := hide h
 obtain ⟨a, cap, rfl, -, -, -⟩ := h
 go_enter Tryz.func20, Tryz.ntmps20
 go_wp2_with fail
 go_loopw [9] (fun i wr => ∃ k : Nat, k ≤ cs.length ∧ i = .int .i64 k ∧ Hid ((cs.take k).find? (fun p => decide (p.1 = key)) = none) ∧ Hid (Below w.heap.size w wr)) (fun i _ => cs.length - (intOf i).toNat)
 case atStart => exact ⟨0, Nat.zero_le _, rfl, rfl, hide (Below.refl _ _)⟩
 case round =>
  obtain ⟨k, hk, rfl, HN, HB1⟩ := hrel
  obtain ⟨w1, rfl⟩ : ∃ w1, w1 = wr := ⟨wr, rfl⟩
  have C1 := hide (C0.out.below HB1.out (nlr _))
  clear C0
  by_cases hlt : k < cs.length
  ·obtain ⟨c, hc⟩ : ∃ c, cs[k]? = some c := ⟨_, List.getElem?_eq_getElem hlt⟩
   obtain ⟨ax, cx, hvx, -, -, h4⟩ := C1.out
   simp only [Value.slice.injEq] at hvx
   obtain ⟨rfl, -, rfl⟩ := hvx
   obtain ⟨g1, o1, v1, rfl, e1', e2', e3'⟩ := h4 k c hc
   obtain ⟨t1, u1, rfl, -, -, -⟩ := id e3'
   have HFS := hide (find_step hc HN.out)
   have hbp := bpl w1 (.cells #[.int .i64 c.1, .slice t1 c.2.length u1] 84)
   have R2 := hide (e3'.below hbp (nlr _))
   have HB2 := hide (below_step HB1.out hbp)
   have hlt' : (k : Int) < (cs.length : Int) := by omega
   clear h4 C1 HB1 hbp e3'
   by_cases hq : c.1 = key
   ·have hq' : (c.1 == key) = true := by simp [hq]
    have HF : Hid (ofL cs key = c.2) := by unfold Hid ofL; rw [HFS.out.1 (by simp [hq])]
    clear hq
    go_wp2_with fail
    go_ret
    exact ⟨_, rfl, by rw [HF.out]; exact R2.out, HB2.out⟩
   ·have hq' : (c.1 == key) = false := by simp [hq]
    have HF := hide (HFS.out.2 (by simp [hq]))
    clear hq
    go_wp2_with fail
    go_roundw
    case rel => exact ⟨k + 1, by omega, by go_num, HF, HB2⟩
    case measure => simp [intOf]; omega
  ·have hkl : cs.take k = cs := List.take_of_length_le (by omega)
   rw [hkl] at HN
   have HF : Hid (ofL cs key = []) := by unfold Hid ofL; rw [HN.out]
   have hlt' : ¬ (k : Int) < (cs.length : Int) := by omega
   go_wp2_with fail
   go_ret
   exact ⟨_, rfl, by rw [HF.out]; exact (own_none _ 0).row, HB1.out⟩

set_option maxRecDepth 100000 in
set_option maxHeartbeats 4000000 in
theorem readsT_w {k : Nat} {A : List Upd} {cs : List (List Int)} {l : List DoS} (hA : At k A cs l) (h150 : l.length ≤ 150) (i : Nat) (hi : i < k) (lv : Value) (w0 : World) (hl : DoV w0 lv l) :
  Calls Tryz.prog 18 #[.int .i64 k, lv, .int .i64 i] w0 fun e w' => ∃ rv, e = .returned (.tuple #[rv, .bool true]) ∧ ViewO w' w0.heap.size rv (readX (ofS k A (cs.getD i []))) ∧ Below w0.heap.size w0 w' := by
 have hk1 : 1 ≤ k := by have := hA.inv.n1; omega
 have hk6 : k ≤ 6 := by have := hA.inv.n6; omega
 obtain ⟨hE, hX, hC⟩ := playWE_ok hk1 hk6 h150
 obtain ⟨st1, st2, -⟩ := hA.st hi
 obtain ⟨X, HX⟩ : ∃ X, Hid (playWX k l = X) := ⟨_, rfl⟩
 obtain ⟨C, HC⟩ : ∃ C, Hid (playWC k l = C) := ⟨_, rfl⟩
 have HXL : Hid (X.nodes.length = k) := by unfold Hid; rw [← HX.out, hX]; exact hA.len
 have HC0 : Hid (∀ e ∈ C, e = 0) := by unfold Hid; rw [← HC.out, hC]; exact hA.er
 have hcl : C.length ≤ 150 := by rw [← HC.out, hC, runE_length]; exact h150
 obtain ⟨d, HD⟩ : ∃ d, Hid (X.nodes.getD i noNode = d) := ⟨_, rfl⟩
 have HST : Hid (d.st = ofS k A (cs.getD i [])) := by unfold Hid; rw [← HD.out, ← HX.out, hX]; exact st1
 obtain ⟨S, HS⟩ : ∃ S, Hid (ofS k A (cs.getD i []) = S) := ⟨_, rfl⟩
 rw [HS.out] at HST st2 ⊢
 obtain ⟨V, HV⟩ : ∃ V, Hid (readX S = V) := ⟨_, rfl⟩
 rw [HV.out]
 have HE := hide hE
 have HR := hide st2
 have hix : i < X.nodes.length := by rw [HXL.out]; exact hi
 have hix1 : (i : Int) < (X.nodes.length : Int) := by omega
 have hix2 : ¬ (i : Int) ≥ (X.nodes.length : Int) := by omega
 have hix0 : ¬ (i : Int) < 0 := by omega
 have hlen := hl.len_le
 have R0 := hide (Box.new w0 [.slice none 0 0, .slice none 0 0, .slice none 0 0] 58)
 have HB1 := hide (bpl w0 (.cells #[.slice none 0 0, .slice none 0 0, .slice none 0 0] 58))
 have L1 := hide (hl.below HB1.out (nlr _))
 obtain ⟨w1, HW1⟩ : ∃ W, Hid (w0.alloc (.cells #[.slice none 0 0, .slice none 0 0, .slice none 0 0] 58) = W) := ⟨_, rfl⟩
 rw [HW1.out] at R0 HB1 L1
 obtain ⟨la, lc, hlv, -, -, -⟩ := id hl
 subst hlv
 clear hE hX hC st1 st2 hl hA hk1 hk6 hi
 go_enter Tryz.func18, Tryz.ntmps18
 go_upto_region 1 with fail
 rw [HW1.out]
 go_wp2_with fail
 refine (play_w k _ l _ L1.out).mono ?_
 rintro e w2 ⟨wv, cv, rfl, hW, hC, hb2⟩
 rw [HE.out]
 rw [HX.out] at hW
 rw [HC.out] at hC
 obtain ⟨a1, a2, hwv, hx6⟩ := hW.form
 subst hwv
 obtain ⟨ca, cc, hcv⟩ := hC.form
 subst hcv
 have hbp := bpl w2 (.cells #[.slice a1 X.nodes.length X.nodes.length, .slice a2 X.nodes.length X.nodes.length] 27)
 have W3 := hW.below hbp
 have C3 := hC.below hbp
 have B3 := Box.new w2 [.slice a1 X.nodes.length X.nodes.length, .slice a2 X.nodes.length X.nodes.length] 27
 have hb3 := below_step hb2 hbp
 have R3 := hide (R0.out.below hb3 (nlr _))
 obtain ⟨w3, HW3⟩ : ∃ W, Hid (w2.alloc (.cells #[.slice a1 X.nodes.length X.nodes.length, .slice a2 X.nodes.length X.nodes.length] 27) = W) := ⟨_, rfl⟩
 rw [HW3.out] at W3 C3 B3 hb3 R3
 have HB3 := hide (below_step HB1.out hb3)
 have HWO := hide W3
 have HCO := hide C3
 have HBX := hide B3
 clear hW hC hbp W3 C3 B3 hb3 hb2 HB1 L1 R0
 have z0 := HBX.out.get 0 rfl
 go_upto_region 2 with fail
 rw [HW3.out]
 go_wp2_with fail
 clear z0
 go_loopw [38] (fun q wr => ∃ j : Nat, j ≤ C.length ∧ q = .int .i64 j ∧ wr = w3) (fun q _ => C.length - (intOf q).toNat)
 case atStart => exact ⟨0, Nat.zero_le _, rfl, rfl⟩
 case round =>
  obtain ⟨j, hj, rfl, rfl⟩ := hrel
  by_cases hlt : j < C.length
  ·have hlt' : (j : Int) < (C.length : Int) := by omega
   obtain ⟨z, HZ⟩ : ∃ z, Hid (C[j]? = some z) := ⟨_, List.getElem?_eq_getElem hlt⟩
   obtain ⟨zg, hzg, hzc⟩ := HCO.out.at HZ.out
   subst hzg
   have hz0 : z = 0 := HC0.out z (List.mem_of_getElem? HZ.out)
   rw [hz0] at hzc
   clear hz0 HZ
   go_wp2_with fail
   go_roundw
   case rel => exact ⟨j + 1, by omega, by go_num, by trivial⟩
   case measure => simp [intOf]; omega
  ·have hlt' : ¬ (j : Int) < (C.length : Int) := by omega
   obtain ⟨gn, ba1, bc1, ba2, bc2, ba3, bc3, ba4, bc4, ba5, bc5, ba6, bc6, hga, hno, q0, q1, q2, q3, q4, q5, q6⟩ := HWO.out.at (getD_some (z := noNode) hix)
   rw [HD.out] at hno q0 q1 q2 q3 q4 q5 q6
   subst hga
   have HSV := hide hno.clk.2.2.1
   clear hno
   have z0 := HBX.out.get 0 rfl
   clear q0 q4 q5 q6
   go_wp2_with fail
   refine (read_state _ S _ (st_cast HSV.out HST.out)).mono ?_
   rintro e w5 ⟨rv, rfl, hV, hb5⟩
   rw [HR.out]
   rw [HV.out] at hV
   obtain ⟨p1, c1, p2, c2, p3, c3, hrv⟩ := hV.read.form
   subst hrv
   clear z0 q1 q2 q3
   obtain ⟨q5, HQ5⟩ : ∃ q, Hid (stA S S.clock.length = q) := ⟨_, rfl⟩
   rw [HQ5.out]
   have hbp := Below.plus (bpl w5 (.cells #[.slice p1 V.regs.length c1, .slice p2 V.sets.length c2, .slice p3 V.cnts.length c3] 58)) (.cells #[.int .i64 0, .int .i64 q5] 80)
   have R7 := (R3.out.below hb5 (nlr _)).below hbp (nlr _)
   have V7 := (Box.new w5 [.slice p1 V.regs.length c1, .slice p2 V.sets.length c2, .slice p3 V.cnts.length c3] 58).plus (.cells #[.int .i64 0, .int .i64 q5] 80)
   have F7 := Box.new (w5.alloc (.cells #[.slice p1 V.regs.length c1, .slice p2 V.sets.length c2, .slice p3 V.cnts.length c3] 58)) [.int .i64 0, .int .i64 q5] 80
   rw [World.size_alloc] at F7
   have HVR := hide (hV.below hbp (nlr _))
   have hg5 : w0.heap.size < w5.heap.size := Nat.lt_of_lt_of_le R3.out.lt hb5.size
   have hn1 : ¬ w0.heap.size = w5.heap.size := by omega
   have hn2 : ¬ w0.heap.size = w5.heap.size + 1 := by omega
   have hn3 : ¬ w5.heap.size + 1 = w0.heap.size := by omega
   have hn4 : ¬ w5.heap.size = w0.heap.size := by omega
   have HGE : Hid (w0.heap.size < wr.heap.size + 3) := by unfold Hid; have := R3.out.lt; omega
   have HB7 := hide (below_step (below_step HB3.out hb5) hbp)
   obtain ⟨w7, HW7⟩ : ∃ W, Hid ((w5.alloc (.cells #[.slice p1 V.regs.length c1, .slice p2 V.sets.length c2, .slice p3 V.cnts.length c3] 58)).alloc (.cells #[.int .i64 0, .int .i64 q5] 80) = W) := ⟨_, rfl⟩
   rw [HW7.out] at R7 V7 F7 HVR HB7
   clear hbp hV hb5
   have r0 := R7.get 0 rfl
   have r1 := R7.get 1 rfl
   have r2 := R7.get 2 rfl
   have s0 := R7.free 0
   have s1 := R7.free 1
   have s2 := R7.free 2
   have y0 := V7.get 0 rfl
   have y1 := V7.get 1 rfl
   have y2 := V7.get 2 rfl
   have x0 := F7.get 0 rfl
   have H7 := hide (((R7.set 0 (.slice p1 V.regs.length c1)).set 1 (.slice p2 V.sets.length c2)).set 2 (.slice p3 V.cnts.length c3))
   go_upto_region 11 with fail
   rw [HW7.out]
   go_region
   all_goals go_wp2
   refine bodyPost_ret (results_cell_tmp rfl _ _ w0.heap.size 58 _ (0, 0) _ rfl H7.out.drew Tryz.underlying58 rfl Tryz.sizeView) rfl ⟨_, rfl, ?_, ?_⟩
   ·exact ((((HVR.out.away HGE.out 0 _).away HGE.out 1 _).away HGE.out 2 _).below (grew_drew (grew_refl _)) (nlr _)).base (Nat.le_of_lt HGE.out)
   ·exact grew_drew (((HB7.out.setCell (p := ⟨w0.heap.size, 0, none⟩) (nlr _) _).setCell (p := ⟨w0.heap.size, 1, none⟩) (nlr _) _).setCell (p := ⟨w0.heap.size, 2, none⟩) (nlr _) _)

set_option maxRecDepth 100000 in
set_option maxHeartbeats 4000000 in
theorem aliveT (w : World) : Calls Tryz.prog 14 #[] w fun e w' => e = .returned (.bool true) ∧ Below w.heap.size w w' := by
 obtain ⟨w0, rfl⟩ : ∃ w0, w0 = w := ⟨w, rfl⟩
 obtain ⟨cs, hAt, hc⟩ := line_run (k := 2) (by decide) (by decide) (key := 1) (item := 5) (by unfold FitK; omega) 1 (by decide)
 have HR := hide (line_read hAt (i := 1) (by decide) hc)
 have HAT := hide hAt
 clear hAt hc
 obtain ⟨V, HVV⟩ : ∃ V, Hid (readX (ofS (2 : Nat) [⟨0, zeroC 2, 1, 1, 5⟩] (cs.getD 1 [])) = V) := ⟨_, rfl⟩
 rw [HVV.out] at HR
 have HB0 := hide (Below.refl w0.heap.size w0)
 have HS0 := hide (nlr w0.heap.size)
 go_enter Tryz.func14, Tryz.ntmps14
 go_wp2_with fail
 refine (issueT_fn 0 1 1 5 _).mono ?_
 rintro e w1 ⟨rfl, hb⟩
 have HB1 := hide (HB0.out.trans (hb.mono HS0.out))
 have HS1 := hide (Nat.le_trans HS0.out hb.size)
 clear HB0 HS0  hb
 have hbp := bpl w1 (.cells #[.int .i64 1, .int .i64 0, .int .i64 0, .int .i64 0, .slice none 0 0, .int .i64 1, .int .i64 1, .int .i64 5] 39)
 have xO := (show OwnT (w1.alloc (.cells #[.int .i64 1, .int .i64 0, .int .i64 0, .int .i64 0, .slice none 0 0, .int .i64 1, .int .i64 1, .int .i64 5] 39)) w0.heap.size (.slice (some ⟨w1.heap.size, 0, none⟩) 1 1) [issD 0 1 1 5] from OwnT.box (l := [issD 0 1 1 5]) (Box.new w1 ([issD 0 1 1 5].flatMap cellsD) 39) HS1.out (by simp [issD]) (by decide))
 obtain ⟨w2, HW2⟩ : ∃ W, Hid (w1.alloc (.cells #[.int .i64 1, .int .i64 0, .int .i64 0, .int .i64 0, .slice none 0 0, .int .i64 1, .int .i64 1, .int .i64 5] 39) = W) := ⟨_, rfl⟩
 rw [HW2.out] at hbp xO
 have HB2 := hide (HB1.out.trans (hbp.mono HS1.out))
 have HS2 := hide (Nat.le_trans HS1.out hbp.size)
 have O2 := hide xO
 clear HB1 HS1  hbp
 clear xO
 go_wp2_with fail
 rw [HW2.out]
 refine (tellT_w 0 1 _ [issD 0 1 1 5] _ _ (by decide) HS2.out O2.out).mono ?_
 rintro e w3 ⟨lv3, rfl, hO, hb, hk⟩
 have HB3 := hide (HB2.out.trans hb)
 have HS3 := hide (Nat.le_trans HS2.out hb.size)
 have O3 := hide hO
 clear HB2 HS2  hb
 clear hO hk O2
 go_wp2_with fail
 refine (readsT_w HAT.out (by decide) 1 (by decide) _ _ O3.out.dos).mono ?_
 rintro e w4 ⟨rv, rfl, hV, hb⟩
 rw [HVV.out] at hV
 obtain ⟨Vxa1, Vxc1, Vxa2, Vxc2, Vxa3, Vxc3, hrv⟩ := hV.read.form
 subst hrv
 have HB4 := hide (HB3.out.trans (hb.mono HS3.out))
 have HS4 := hide (Nat.le_trans HS3.out hb.size)
 have O4 := hide (O3.out.step hb (nlr _))
 have Vx4 := hide hV
 clear HB3 HS3 O3 hb
 clear O4
 have HGx := HS4
 have hbp := bpl w4 (.cells #[.slice Vxa1 V.regs.length Vxc1, .slice Vxa2 V.sets.length Vxc2, .slice Vxa3 V.cnts.length Vxc3] 58)
 have xx := Box.new w4 [.slice Vxa1 V.regs.length Vxc1, .slice Vxa2 V.sets.length Vxc2, .slice Vxa3 V.cnts.length Vxc3] 58
 obtain ⟨w5, HW5⟩ : ∃ W, Hid (w4.alloc (.cells #[.slice Vxa1 V.regs.length Vxc1, .slice Vxa2 V.sets.length Vxc2, .slice Vxa3 V.cnts.length Vxc3] 58) = W) := ⟨_, rfl⟩
 rw [HW5.out] at hbp xx
 have HB5 := hide (HB4.out.trans (hbp.mono HS4.out))
 have HS5 := hide (Nat.le_trans HS4.out hbp.size)
 have Vx5 := hide (Vx4.out.below hbp (nlr _))
 have x5 := hide xx
 clear HB4 HS4 Vx4 hbp
 clear xx
 have z0 := x5.out.get 0 rfl
 go_wp2_with fail
 rw [HW5.out]
 refine (ofT_fn _ V.regs 1 _ Vx5.out.read.parts.1).mono ?_
 rintro e w6 ⟨fv, rfl, hF, hb⟩
 rw [HR.out] at hF
 have HB6 := hide (HB5.out.trans (hb.mono HS5.out))
 have HS6 := hide (Nat.le_trans HS5.out hb.size)
 have Vx6 := hide (Vx5.out.below hb (nlr _))
 have x6 := hide (x5.out.below hb (nlr _))
 have F6 := hide hF
 clear HB5 HS5 Vx5 x5 hb
 clear z0 hF
 have hbp := bpl w6 (.cells #[.int .i64 5] 3)
 have xU := (show Row (w6.alloc (.cells #[.int .i64 5] 3)) (.slice (some ⟨w6.heap.size, 0, none⟩) 1 1) [5] from rowLit w6 [5] (by simp))
 obtain ⟨w7, HW7⟩ : ∃ W, Hid (w6.alloc (.cells #[.int .i64 5] 3) = W) := ⟨_, rfl⟩
 rw [HW7.out] at hbp xU
 have HB7 := hide (HB6.out.trans (hbp.mono HS6.out))
 have HS7 := hide (Nat.le_trans HS6.out hbp.size)
 have Vx7 := hide (Vx6.out.below hbp (nlr _))
 have x7 := hide (x6.out.below hbp (nlr _))
 have F7 := hide (F6.out.below hbp (nlr _))
 have U7 := hide xU
 clear HB6 HS6 Vx6 x6 F6 hbp
 clear xU
 go_wp2_with fail
 rw [HW7.out]
 refine (same_ref _ _ [5] [5] _ F7.out U7.out).mono ?_
 rintro e w8 ⟨rfl, hb⟩
 rw [decide_eq_true (rfl : ([5] : List Int) = [5])]
 have HB8 := hide (HB7.out.trans (hb.mono HS7.out))
 have HS8 := hide (Nat.le_trans HS7.out hb.size)
 have Vx8 := hide (Vx7.out.below hb (nlr _))
 have x8 := hide (x7.out.below hb (nlr _))
 have F8 := hide (F7.out.below hb (nlr _))
 have U8 := hide (U7.out.below hb (nlr _))
 clear HB7 HS7 Vx7 x7 F7 U7 hb
 go_wp2_with fail
 go_ret
 exact ⟨rfl, HB8.out⟩
end Go.Proofs.YtihedgnachophaaGreat

