/- WorldSettles: worlds as lists, the end; the helper round and the law, walked. -/
import Derived.Test.YtihedgnachophaaGreatWdPure
import Derived.Test.YtihedgnachophaaGreatWdD
import Derived.Test.YtihedgnachophaaGreatGrow
namespace Go.Proofs.YtihedgnachophaaGreat
open Go.RowKit

section
variable {n : Int} {A : List Upd} {w : WdS}
theorem nodup_len {α : Type} : ∀ (l : List α) {A : List α}, l.Nodup → (∀ x ∈ l, x ∈ A) → l.length ≤ A.length
 | [], _, _, _ => Nat.zero_le _
 | x :: r, A, hn, hs => by
  obtain ⟨s, t, rfl⟩ := List.append_of_mem (hs x (by simp))
  obtain ⟨h1, h2⟩ := List.nodup_cons.1 hn
  have := nodup_len r (A := s ++ t) h2 fun y hy => by
   have hy' := hs y (by simp [hy])
   rcases List.mem_append.1 hy' with h | h
   ·exact List.mem_append.2 (.inl h)
   ·rcases List.mem_cons.1 h with h | h
    ·subst h; exact absurd hy h1
    ·exact List.mem_append.2 (.inr h)
  simp only [List.length_append, List.length_cons] at this ⊢
  omega
theorem getD_out {xs : List Int} {j : Nat} (h : xs.length ≤ j) : xs.getD j 0 = 0 := by
 rw [List.getD_eq_getElem?_getD, List.getElem?_eq_none h]
 rfl
theorem log_few {xs : List Int} {l : List Upd} (hg : wrongC xs n = 0) (hf : errL n xs l = 0) (hs : ∀ u ∈ l, u ∈ A) : l.length ≤ A.length := nodup_len l (once_nodup (errL_once l hg hf).2) hs
theorem InD.few {d : NdS} (h : InD n A d) : d.log.length ≤ A.length := log_few h.okm.base h.okm.fits h.log
theorem InP.ok {d : NdS} {i : Int} {ca : List Int} {p : Pcl} (h : InD n A d) (hA : errL n (zeroC n.toNat) A = 0) (hp : InP n A ca d.st.clock p) (hs : otherE d i = 0) (hf : A.length ≤ 150) : ¬ takeE d i p = 5 := by
 rcases InP.taken h hA hp hs with ⟨t1, -⟩ | t1
 ·omega
 ·obtain ⟨hok, hi0, hi1, hno⟩ := other_zero.1 hs
  have hpc : wrongC p.clock d.st.clock.length = 0 := by rw [h.okm.len]; exact hp.good
  obtain ⟨q1, q2, q3⟩ := h.tstX hA (p := p) fun hw => by
   obtain ⟨h1, h2, h3, h4⟩ := hp.whole hw
   rw [h2]
   exact ⟨h3, h4⟩
  have main : upsE (tstX d p) p.ups = 0 := by
   cases hw : p.whole
   ·obtain ⟨xs, l, k, h1, h2, h3, h4, h5, h6, h7, h8⟩ := hp.part hw
    have hx : tstX d p = d := by unfold tstX; rw [if_neg (by rw [hw]; decide)]
    rw [hx, h7]
    have f1 := h.few
    have f2 := log_few h1 h2 h8
    have f3 : (lacksL l k).length ≤ l.length := lacks_few
    exact (ups_lack h4 l h1 h2 h.okm h5 h6 (by omega)).1
   ·obtain ⟨h1, -⟩ := hp.whole hw
    rw [h1]
    rfl
  unfold takeE
  rw [if_pos hs, if_pos hpc, if_pos q1, if_pos main]
  split <;> decide

def noUpd : Upd := ⟨0, [], 0, 0, 0⟩
def dropD (a b : Nat) : DoS := ⟨4, a, b, noUpd⟩
def sendD (a b : Nat) : DoS := ⟨2, a, b, noUpd⟩
def delD (a b : Nat) : DoS := ⟨3, a, b, noUpd⟩
def pruneD (a : Nat) : DoS := ⟨5, a, 0, noUpd⟩
theorem isNB_of {a : Nat} (ha : a < w.nodes.length) : isNB w a = true := isNB_iff.2 ⟨by omega, by omega⟩
theorem wayAt_set {a b c d : Nat} {l : List Pcl} (h : WInv n A w) (ha : a < w.nodes.length) (hb : b < w.nodes.length) : wayAt (setWay w a b l) c d = if c = a ∧ d = b then l else wayAt w c d := by
 unfold wayAt setWay
 simp only [Int.toNat_natCast]
 rw [getD_setN (by rw [h.wl]; exact ha)]
 by_cases hc : c = a
 ·subst hc
  rw [if_pos rfl, getD_setN (by rw [h.wr c ha]; exact hb)]
  by_cases hd : d = b
  ·rw [if_pos hd, if_pos ⟨rfl, hd⟩]
  ·rw [if_neg hd, if_neg (fun hh => hd hh.2)]
 ·rw [if_neg hc, if_neg (fun hh => hc hh.1)]
def Still (w : WdS) : Prop := ∀ a b : Nat, a < w.nodes.length → b < w.nodes.length → wayAt w a b = []
theorem tell_two (h : WInv n A w) (hs : Still w) (hf : A.length ≤ 150) {a b : Nat} (ha : a < w.nodes.length) (hb : b < w.nodes.length) (hne : a ≠ b) :
  ∃ d, WInv n A (runX w [sendD a b, delD a b]) ∧ Still (runX w [sendD a b, delD a b]) ∧ (runX w [sendD a b, delD a b]).nodes = w.nodes.set b d ∧ d.st.clock = joinC (w.nodes.getD b noNode).st.clock (w.nodes.getD a noNode).st.clock ∧ d.known = ((w.nodes.getD b noNode).known.set a (joinC ((w.nodes.getD b noNode).known.getD a []) (w.nodes.getD a noNode).st.clock)).set b (joinC (w.nodes.getD b noNode).st.clock (w.nodes.getD a noNode).st.clock) ∧ runE w [sendD a b, delD a b] = [0, 0] := by
 have na := isNB_of ha
 have nb := isNB_of hb
 have nab : ¬ ((a : Int) = (b : Int)) := by omega
 have hw := hs a b ha hb
 have ho := h.other ha hb hne
 have hoa : otherE (nodeAt w a) b = 0 := ho
 have e1 : wsendE w a b = 0 := by unfold wsendE; rw [hw, if_neg (by simp)]; exact hoa
 have s1 : stepX w (sendD a b) = setWay w a b [sendX (nodeAt w a) b] := by
  unfold stepX sendD twoX wsendX
  simp only
  rw [if_neg (by decide), if_pos True.intro, if_pos ⟨na, nb, nab⟩, if_pos e1, hw]
  rfl
 have s1E : stepE w (sendD a b) = 0 := by
  unfold stepE sendD twoE
  simp only
  rw [if_neg (by decide), if_pos True.intro, if_pos ⟨na, nb⟩, if_neg nab]
  exact e1
 obtain ⟨p, hp⟩ : ∃ p, sendX (nodeAt w a) b = p := ⟨_, rfl⟩
 rw [hp] at s1
 have hpc : p.clock = (w.nodes.getD a noNode).st.clock := by
  rw [← hp]
  unfold sendX
  rw [if_pos hoa]
  split <;> rfl
 have hin : InP n A (w.nodes.getD a noNode).st.clock (w.nodes.getD b noNode).st.clock p := by
  rw [← hp]
  exact InP.sent (h.nd a ha).1 ho fun j => h.kn a b ha hb j
 have i1 : WInv n A (setWay w a b [p]) := h.setW ha hb fun q hq => by rw [List.mem_singleton] at hq; rw [hq]; exact hin
 obtain ⟨w1, hw1⟩ : ∃ w1, setWay w a b [p] = w1 := ⟨_, rfl⟩
 have hn1 : w1.nodes = w.nodes := by rw [← hw1]; rfl
 have hway : ∀ c d : Nat, wayAt w1 c d = if c = a ∧ d = b then [p] else wayAt w c d := fun c d => by rw [← hw1]; exact wayAt_set h ha hb
 rw [hw1] at s1 i1
 have hw2 : wayAt w1 a b = [p] := by rw [hway, if_pos ⟨rfl, rfl⟩]
 have hnx : nextX w1 a b = setWay w1 a b [] := by unfold nextX; rw [hw2, if_neg (by simp)]; rfl
 have hnp : nextP w1 a b = p := by unfold nextP; rw [hw2]; rfl
 have hne' : nextE w1 a b = 0 := by unfold nextE; rw [hw2, if_neg (by simp)]
 have ha1 : a < w1.nodes.length := by rw [hn1]; exact ha
 have hb1 : b < w1.nodes.length := by rw [hn1]; exact hb
 have i2 : WInv n A (setWay w1 a b []) := i1.setW ha1 hb1 fun q hq => by simp at hq
 have hn2 : (setWay w1 a b []).nodes = w.nodes := hn1
 have hp2 : InP n A ((setWay w1 a b []).nodes.getD a noNode).st.clock ((setWay w1 a b []).nodes.getD b noNode).st.clock p := by rw [hn2]; exact hin
 have hto : takeE (w.nodes.getD b noNode) a p = 0 ∧ (takeX (w.nodes.getD b noNode) a p).st.clock = joinC (w.nodes.getD b noNode).st.clock p.clock ∧ (takeX (w.nodes.getD b noNode) a p).known = ((w.nodes.getD b noNode).known.set a (joinC ((w.nodes.getD b noNode).known.getD a []) p.clock)).set b (joinC (w.nodes.getD b noNode).st.clock p.clock) ∧ WInv n A ⟨w.nodes.set b (takeX (w.nodes.getD b noNode) a p), (setWay w1 a b []).way⟩ := by
  rcases i2.take (by rw [hn2]; exact ha) (by rw [hn2]; exact hb) hne hp2 with t | t
  ·rw [hn2] at t; exact t
  ·rw [hn2] at t
   exact absurd t (InP.ok (h.nd b hb).1 h.fit hin (h.other hb ha (fun e => hne e.symm)) hf)
 obtain ⟨t1, t2, t3, t4⟩ := hto
 have hat : nodeAt w1 b = w.nodes.getD b noNode := by unfold nodeAt; rw [hn1]; rfl
 have s2 : stepX w1 (delD a b) = ⟨w.nodes.set b (takeX (w.nodes.getD b noNode) a p), (setWay w1 a b []).way⟩ := by
  unfold stepX delD twoX wdelX changeX
  simp only
  rw [if_neg (by decide), if_neg (by decide), if_pos True.intro, if_pos ⟨isNB_of ha1, isNB_of hb1, nab⟩, if_pos hne', hnx, hnp, hat, if_pos ⟨isNB_of (by rw [hn2]; exact hb), t1⟩]
  unfold setNode
  rw [hn2]
  rfl
 have s2E : stepE w1 (delD a b) = 0 := by
  unfold stepE delD twoE wdelE
  simp only
  rw [if_neg (by decide), if_neg (by decide), if_pos True.intro, if_pos ⟨isNB_of ha1, isNB_of hb1⟩, if_neg nab, if_pos hne', hnp, hat]
  exact t1
 have hrun : runX w [sendD a b, delD a b] = ⟨w.nodes.set b (takeX (w.nodes.getD b noNode) a p), (setWay w1 a b []).way⟩ := by
  show stepX (stepX w (sendD a b)) (delD a b) = _
  rw [s1, s2]
 have hrunE : runE w [sendD a b, delD a b] = [0, 0] := by
  show [stepE w (sendD a b), stepE (stepX w (sendD a b)) (delD a b)] = _
  rw [s1E, s1, s2E]
 refine ⟨takeX (w.nodes.getD b noNode) a p, by rw [hrun]; exact t4, ?_, by rw [hrun], by rw [t2, hpc], by rw [t3, hpc], hrunE⟩
 rw [hrun]
 intro c d hc hd
 rw [List.length_set] at hc hd
 show wayAt (setWay w1 a b []) c d = []
 rw [wayAt_set i1 ha1 hb1]
 split
 ·rfl
 ·next hcd =>
  rw [hway, if_neg hcd]
  exact hs c d hc hd
def tellsL (ps : List (Nat × Nat)) : List DoS := ps.flatMap fun q => [sendD q.1 q.2, delD q.1 q.2]
def OkPs (w : WdS) (ps : List (Nat × Nat)) : Prop := ∀ q ∈ ps, q.1 < w.nodes.length ∧ q.2 < w.nodes.length ∧ q.1 ≠ q.2
theorem tells_run (hf : A.length ≤ 150) : ∀ (ps : List (Nat × Nat)) {w : WdS}, WInv n A w → Still w → OkPs w ps →
  WInv n A (runX w (tellsL ps)) ∧ Still (runX w (tellsL ps)) ∧ (runX w (tellsL ps)).nodes.length = w.nodes.length ∧
  (∀ k, k < w.nodes.length → ∀ j, (w.nodes.getD k noNode).st.clock.getD j 0 ≤ ((runX w (tellsL ps)).nodes.getD k noNode).st.clock.getD j 0) ∧
  (∀ k m, k < w.nodes.length → m < w.nodes.length → ∀ j, ((w.nodes.getD k noNode).known.getD m []).getD j 0 ≤ (((runX w (tellsL ps)).nodes.getD k noNode).known.getD m []).getD j 0) ∧
  (∀ q ∈ ps, ∀ j, (w.nodes.getD q.1 noNode).st.clock.getD j 0 ≤ ((runX w (tellsL ps)).nodes.getD q.2 noNode).st.clock.getD j 0 ∧ (w.nodes.getD q.1 noNode).st.clock.getD j 0 ≤ (((runX w (tellsL ps)).nodes.getD q.2 noNode).known.getD q.1 []).getD j 0) ∧
  (∀ e ∈ runE w (tellsL ps), e = 0)
 | [], w, h, hs, _ => ⟨h, hs, rfl, fun _ _ _ => Int.le_refl _, fun _ _ _ _ _ => Int.le_refl _, fun q hq => by simp at hq, fun e he => by simp [tellsL, runE] at he⟩
 | (a, b) :: r, w, h, hs, hps => by
  obtain ⟨ha, hb, hne⟩ := hps (a, b) (by simp)
  obtain ⟨d, i1, i2, i3, i4, i5, i6⟩ := tell_two h hs hf ha hb hne
  have hrun : runX w (tellsL ((a, b) :: r)) = runX (runX w [sendD a b, delD a b]) (tellsL r) := by
   rw [← runX_append]
   rfl
  have hrunE : runE w (tellsL ((a, b) :: r)) = [0, 0] ++ runE (runX w [sendD a b, delD a b]) (tellsL r) := by
   have : tellsL ((a, b) :: r) = [sendD a b, delD a b] ++ tellsL r := rfl
   rw [this, runE_append, i6]
  obtain ⟨w1, hw1⟩ : ∃ w1, runX w [sendD a b, delD a b] = w1 := ⟨_, rfl⟩
  rw [hw1] at i1 i2 i3 hrun hrunE
  have hl1 : w1.nodes.length = w.nodes.length := by rw [i3, List.length_set]
  obtain ⟨r1, r2, r3, r4, r5, r6, r7⟩ := tells_run hf r i1 i2 fun q hq => by rw [hl1]; exact hps q (by simp [hq])
  rw [hrun, hrunE]
  have c1 : ∀ k, k < w.nodes.length → ∀ j, (w.nodes.getD k noNode).st.clock.getD j 0 ≤ (w1.nodes.getD k noNode).st.clock.getD j 0 := by
   intro k hk j
   rw [i3, getD_setN hb]
   split
   ·next e => subst e; rw [i4, joinC_getD]; exact joinI_le.1
   ·exact Int.le_refl _
  have hkl : (w.nodes.getD b noNode).known.length = w.nodes.length := by have := (h.nd b hb).1.okm.kl; have := h.len; omega
  have k1 : ∀ k m, k < w.nodes.length → m < w.nodes.length → ∀ j, ((w.nodes.getD k noNode).known.getD m []).getD j 0 ≤ ((w1.nodes.getD k noNode).known.getD m []).getD j 0 := by
   intro k m hk hm j
   rw [i3, getD_setN hb]
   split
   ·next e =>
    subst e
    rw [i5, getD_setN (by rw [List.length_set, hkl]; exact hb)]
    split
    ·next e =>
     subst e
     rw [joinC_getD]
     exact Int.le_trans (h.kn m m hm hm j) joinI_le.1
    ·rw [getD_setN (by rw [hkl]; exact ha)]
     split
     ·next e => subst e; rw [joinC_getD]; exact joinI_le.1
     ·exact Int.le_refl _
   ·exact Int.le_refl _
  have t1 : ∀ j, (w.nodes.getD a noNode).st.clock.getD j 0 ≤ (w1.nodes.getD b noNode).st.clock.getD j 0 ∧ (w.nodes.getD a noNode).st.clock.getD j 0 ≤ ((w1.nodes.getD b noNode).known.getD a []).getD j 0 := by
   intro j
   rw [i3, getD_setN hb, if_pos rfl]
   refine ⟨by rw [i4, joinC_getD]; exact joinI_le.2, ?_⟩
   rw [i5, getD_setN (by rw [List.length_set, hkl]; exact hb), if_neg hne, getD_setN (by rw [hkl]; exact ha), if_pos rfl, joinC_getD]
   exact joinI_le.2
  refine ⟨r1, r2, by rw [r3, hl1], fun k hk j => Int.le_trans (c1 k hk j) (r4 k (by rw [hl1]; exact hk) j), fun k m hk hm j => Int.le_trans (k1 k m hk hm j) (r5 k m (by rw [hl1]; exact hk) (by rw [hl1]; exact hm) j), fun q hq j => ?_, fun e he => ?_⟩
  ·rcases List.mem_cons.1 hq with rfl | hq'
   ·exact ⟨Int.le_trans (t1 j).1 (r4 b (by rw [hl1]; exact hb) j), Int.le_trans (t1 j).2 (r5 b a (by rw [hl1]; exact hb) (by rw [hl1]; exact ha) j)⟩
   ·obtain ⟨g1, g2, -⟩ := hps q hq
    obtain ⟨s1, s2⟩ := r6 q hq' j
    exact ⟨Int.le_trans (c1 q.1 g1 j) s1, Int.le_trans (c1 q.1 g1 j) s2⟩
  ·rcases List.mem_append.1 he with he | he
   ·simp at he; exact he
   ·exact r7 e he
end
end Go.Proofs.YtihedgnachophaaGreat

namespace Go.Proofs.YtihedgnachophaaGreat
open Go.RowKit

section
variable {n : Int} {A : List Upd} {w : WdS}
def allPs (k : Nat) : List (Nat × Nat) := (List.range k).flatMap fun a => (List.range k).flatMap fun b => if a = b then [] else [(a, b)]
theorem mem_allPs {k : Nat} {q : Nat × Nat} : q ∈ allPs k ↔ q.1 < k ∧ q.2 < k ∧ q.1 ≠ q.2 := by
 obtain ⟨a, b⟩ := q
 unfold allPs
 simp only [List.mem_flatMap, List.mem_range]
 constructor
 ·rintro ⟨x, hx, y, hy, h⟩
  split at h
  ·simp at h
  ·next hne =>
   simp only [List.mem_singleton, Prod.mk.injEq] at h
   obtain ⟨rfl, rfl⟩ := h
   exact ⟨hx, hy, hne⟩
 ·rintro ⟨h1, h2, h3⟩
  refine ⟨a, h1, b, h2, ?_⟩
  rw [if_neg h3]
  simp
theorem round_one (h : WInv n A w) (hs : Still w) (hf : A.length ≤ 150) : ∀ i, i < w.nodes.length → ((runX w (tellsL (allPs w.nodes.length))).nodes.getD i noNode).st.clock = totC n A := by
 intro i hi
 obtain ⟨r1, r2, r3, r4, r5, r6, r7⟩ := tells_run hf (allPs w.nodes.length) h hs fun q hq => mem_allPs.1 hq
 obtain ⟨hD, -, -, hO⟩ := r1.nd i (by rw [r3]; exact hi)
 obtain ⟨-, -, l1, -⟩ := goodC_iff.1 hD.ina.good
 have tg := (InA.total (zeroC_good hD.ina.good) h.fit).good
 obtain ⟨-, -, l2, -⟩ := goodC_iff.1 tg
 refine eq_getD (by omega) fun j => ?_
 by_cases hj : j < w.nodes.length
 ·by_cases hij : j = i
  ·subst hij; exact hO
  ·have := (r6 (j, i) (mem_allPs.2 ⟨hj, hi, hij⟩) j).1
   have h2 := (h.nd j hj).2.2.2
   have h3 := hD.ina.le j
   show _ = _
   have h4 : (w.nodes.getD j noNode).st.clock.getD j 0 ≤ ((runX w (tellsL (allPs w.nodes.length))).nodes.getD i noNode).st.clock.getD j 0 := this
   omega
 ·have hl := h.len
  rw [getD_out (by omega), getD_out (by omega)]
theorem round_two (h : WInv n A w) (hs : Still w) (hf : A.length ≤ 150) (hall : ∀ i, i < w.nodes.length → (w.nodes.getD i noNode).st.clock = totC n A) : ∀ i k, i < w.nodes.length → k < w.nodes.length → ((runX w (tellsL (allPs w.nodes.length))).nodes.getD i noNode).known.getD k [] = totC n A := by
 intro i k hi hk
 obtain ⟨r1, r2, r3, r4, r5, r6, r7⟩ := tells_run hf (allPs w.nodes.length) h hs fun q hq => mem_allPs.1 hq
 obtain ⟨hD, hN, hS, hO⟩ := r1.nd i (by rw [r3]; exact hi)
 have hc := round_one h hs hf i hi
 have hkk : k < ((runX w (tellsL (allPs w.nodes.length))).nodes.getD i noNode).known.length := by have := hD.okm.kl; have := h.len; omega
 obtain ⟨kg1, kg2⟩ := hD.okm.kg k hkk
 obtain ⟨-, -, l1, -⟩ := goodC_iff.1 kg1
 have tg := (InA.total (zeroC_good hD.ina.good) h.fit).good
 obtain ⟨-, -, l2, -⟩ := goodC_iff.1 tg
 by_cases hik : k = i
 ·subst hik
  have := hN.ks
  rw [hS] at this
  have h2 : ((runX w (tellsL (allPs w.nodes.length))).nodes.getD k noNode).known.getD k [] = ((runX w (tellsL (allPs w.nodes.length))).nodes.getD k noNode).st.clock := this
  rw [h2, hc]
 ·refine eq_getD (by omega) fun j => ?_
  have h1 := (r6 (k, i) (mem_allPs.2 ⟨hk, hi, hik⟩) j).2
  have h1' : (w.nodes.getD k noNode).st.clock.getD j 0 ≤ (((runX w (tellsL (allPs w.nodes.length))).nodes.getD i noNode).known.getD k []).getD j 0 := h1
  rw [hall k hk] at h1'
  have h2 := kg2 j
  rw [hc] at h2
  omega
theorem prune_empty {d : NdS} (h : InD n A d) (hA : errL n (zeroC n.toNat) A = 0) (hN : OkN n d) (hc : d.st.clock = totC n A) (hk : ∀ k, k < d.known.length → d.known.getD k [] = totC n A) : (pruneX d).log = [] ∧ (pruneX d).st = d.st := by
 have he : nodeE d = 0 := nodeE_zero.2 (by rw [h.okm.len]; exact hN)
 have hX : pruneX d = forgetN d (allC d) := by unfold pruneX; rw [if_pos he]
 have hall : allC d = totC n A := by
  unfold allC
  rw [hc]
  have hz := zeroC_good h.ina.good
  have tg := (InA.total hz hA).good
  have hm : meetC (totC n A) (totC n A) = totC n A := by
   obtain ⟨m1, -⟩ := meet_good tg tg
   obtain ⟨-, -, l1, -⟩ := goodC_iff.1 m1
   obtain ⟨-, -, l2, -⟩ := goodC_iff.1 tg
   refine eq_getD (by omega) fun j => ?_
   rw [meetC_getD]
   unfold meetI
   split <;> omega
  have : ∀ (l : List (List Int)), (∀ c ∈ l, c = totC n A) → l.foldl meetC (totC n A) = totC n A := by
   intro l
   induction l with
   | nil => exact fun _ => rfl
   | cons c r ih =>
    intro hl
    rw [List.foldl_cons, hl c (by simp), hm]
    exact ih fun x hx => hl x (by simp [hx])
  refine this d.known fun c hcm => ?_
  obtain ⟨i, hi, rfl⟩ := List.getElem_of_mem hcm
  have := hk i hi
  rw [List.getD_eq_getElem?_getD, List.getElem?_eq_getElem hi] at this
  exact this
 rw [hX, hall]
 refine ⟨?_, rfl⟩
 show lacksL d.log (joinC d.base (totC n A)) = []
 unfold lacksL
 rw [List.filter_eq_nil_iff]
 intro u hu
 have hz := zeroC_good h.ina.good
 have hwu := small_all A hA u (h.log u hu)
 have tg := (InA.total hz hA).good
 have hj := join_good h.okm.base tg
 obtain ⟨-, -, l1, -⟩ := goodC_iff.1 hj
 have hs : seenU u (joinC d.base (totC n A)) = true := by
  rw [seenU_iff hwu l1, joinC_getD]
  exact Int.le_trans (entry_lt hz hA (h.log u hu)) joinI_le.2
 rw [hs]
 simp
end
end Go.Proofs.YtihedgnachophaaGreat

namespace Go.Proofs.YtihedgnachophaaGreat
open Go.RowKit
section
variable {n : Int} {A : List Upd} {w : WdS}

theorem wayAt_next (h : WInv n A w) {a b c d : Nat} (ha : a < w.nodes.length) (hb : b < w.nodes.length) : wayAt (nextX w a b) c d = if c = a ∧ d = b then (wayAt w a b).tail else wayAt w c d := by
 unfold nextX
 by_cases h0 : (wayAt w a b).length = 0
 ·rw [if_pos h0]
  by_cases hc : c = a ∧ d = b
  ·obtain ⟨rfl, rfl⟩ := hc
   rw [if_pos ⟨rfl, rfl⟩, List.eq_nil_of_length_eq_zero h0]
   rfl
  ·rw [if_neg hc]
 ·rw [if_neg h0]
  exact wayAt_set h ha hb
theorem drop_step {a b : Nat} (ha : a < w.nodes.length) (hb : b < w.nodes.length) (hne : a ≠ b) : stepX w (dropD a b) = nextX w a b := by
 unfold stepX dropD
 simp only [show ¬ ((4 : Int) = 1) by decide, show ¬ ((4 : Int) = 2) by decide, show ¬ ((4 : Int) = 3) by decide, if_false, if_true]
 unfold twoX
 rw [if_pos ⟨isNB_of ha, isNB_of hb, by omega⟩]
theorem drop_many {a b : Nat} (hne : a ≠ b) : ∀ (r : Nat) {w : WdS}, WInv n A w → a < w.nodes.length → b < w.nodes.length →
  WInv n A (runX w (List.replicate r (dropD a b))) ∧ (runX w (List.replicate r (dropD a b))).nodes = w.nodes ∧ ∀ c d : Nat, wayAt (runX w (List.replicate r (dropD a b))) c d = if c = a ∧ d = b then (wayAt w a b).drop r else wayAt w c d
 | 0, w, h, _, _ => ⟨h, rfl, fun c d => by
   show wayAt w c d = _
   by_cases hc : c = a ∧ d = b
   ·rw [if_pos hc, hc.1, hc.2]; rfl
   ·rw [if_neg hc]⟩
 | r + 1, w, h, ha, hb => by
  have hs : runX w (List.replicate (r + 1) (dropD a b)) = runX (nextX w a b) (List.replicate r (dropD a b)) := by
   rw [List.replicate_succ]
   unfold runX
   rw [List.foldl_cons, drop_step ha hb hne]
  have hn := nextX_nodes w a b
  obtain ⟨r1, r2, r3⟩ := drop_many hne r (h.next ha hb) (by rw [hn]; exact ha) (by rw [hn]; exact hb)
  rw [hs]
  refine ⟨r1, by rw [r2, hn], fun c d => ?_⟩
  have e1 : wayAt (nextX w a b) a b = (wayAt w a b).tail := by rw [wayAt_next h ha hb, if_pos ⟨rfl, rfl⟩]
  rw [r3, e1]
  by_cases hc : c = a ∧ d = b
  ·rw [if_pos hc, if_pos hc, List.drop_tail]
  ·rw [if_neg hc, if_neg hc, wayAt_next h ha hb, if_neg hc]
def Diag (w : WdS) : Prop := ∀ a : Nat, a < w.nodes.length → wayAt w a a = []
theorem wayAt_node (w : WdS) (i : Int) (d : NdS) (a b : Int) : wayAt (setNode w i d) a b = wayAt w a b := rfl
theorem Diag.step (h : WInv n A w) (hd : Diag w) (o : DoS) : Diag (stepX w o) := by
 intro a ha
 rw [stepX_len] at ha
 have hch : ∀ (i e : Int) (d : NdS), wayAt (changeX w i e d) a a = [] := by
  intro i e d
  unfold changeX
  split
  ·rw [wayAt_node]; exact hd a ha
  ·exact hd a ha
 have htwo : ∀ x : WdS, (∀ p q : Nat, o.n = p → o.dst = q → p < w.nodes.length → q < w.nodes.length → p ≠ q → wayAt x a a = []) → wayAt (twoX w o.n o.dst x) a a = [] := by
  intro x hx
  unfold twoX
  split
  ·next hc =>
   obtain ⟨p, hp, hpl⟩ := isNB_nat hc.1
   obtain ⟨q, hq, hql⟩ := isNB_nat hc.2.1
   exact hx p q hp hq hpl hql (fun e => hc.2.2 (by rw [hp, hq, e]))
  ·exact hd a ha
 have hset : ∀ (p q : Nat) (l : List Pcl), p < w.nodes.length → q < w.nodes.length → p ≠ q → wayAt (setWay w p q l) a a = [] := by
  intro p q l hp hq hne
  rw [wayAt_set h hp hq, if_neg (fun hh => hne (by rw [← hh.1, ← hh.2]))]
  exact hd a ha
 have hnx : ∀ p q : Nat, p < w.nodes.length → q < w.nodes.length → p ≠ q → wayAt (nextX w p q) a a = [] := by
  intro p q hp hq hne
  rw [wayAt_next h hp hq, if_neg (fun hh => hne (by rw [← hh.1, ← hh.2]))]
  exact hd a ha
 unfold stepX
 split
 ·exact hch _ _ _
 ·split
  ·refine htwo _ fun p q hp hq hpl hql hne => ?_
   rw [hp, hq]
   unfold wsendX
   split
   ·exact hset p q _ hpl hql hne
   ·exact hd a ha
  ·split
   ·refine htwo _ fun p q hp hq hpl hql hne => ?_
    rw [hp, hq]
    unfold wdelX
    split
    ·unfold changeX
     split
     ·rw [wayAt_node]; exact hnx p q hpl hql hne
     ·exact hnx p q hpl hql hne
    ·exact hd a ha
   ·split
    ·refine htwo _ fun p q hp hq hpl hql hne => ?_
     rw [hp, hq]
     exact hnx p q hpl hql hne
    ·split
     ·exact hch _ _ _
     ·exact hd a ha
theorem Diag.run : ∀ (l : List DoS) {A : List Upd} {w : WdS}, WInv n A w → Diag w → Diag (runX w l)
 | [], _, _, _, hd => hd
 | o :: l, _, _, h, hd => Diag.run l (h.step o).1 (hd.step h o)
theorem diag_all {k : Nat} (h1 : 1 ≤ k) (h6 : k ≤ 6) (l : List DoS) : Diag (runX (beginW k) l) :=
 Diag.run l (begin_inv h1 h6) fun a _ => by unfold wayAt; rw [Int.toNat_natCast]; exact begin_way
def dropsL (f : Nat → Nat → Nat) (ps : List (Nat × Nat)) : List DoS := ps.flatMap fun q => List.replicate (f q.1 q.2) (dropD q.1 q.2)
theorem drops_run (f : Nat → Nat → Nat) : ∀ (ps : List (Nat × Nat)) {w : WdS}, WInv n A w → Diag w → ps.Nodup → (∀ q ∈ ps, q.1 < w.nodes.length ∧ q.2 < w.nodes.length ∧ f q.1 q.2 = (wayAt w q.1 q.2).length) →
  WInv n A (runX w (dropsL f ps)) ∧ (runX w (dropsL f ps)).nodes = w.nodes ∧ (∀ c d : Nat, (c, d) ∈ ps → wayAt (runX w (dropsL f ps)) c d = []) ∧ ∀ c d : Nat, (c, d) ∉ ps → wayAt (runX w (dropsL f ps)) c d = wayAt w c d
 | [], w, h, _, _, _ => ⟨h, rfl, fun c d hc => by simp at hc, fun _ _ _ => rfl⟩
 | (a, b) :: ps, w, h, hd, hnd, hps => by
  obtain ⟨ha, hb, hf⟩ := hps (a, b) (List.mem_cons_self ..)
  simp only at ha hb hf
  obtain ⟨hna, hnd⟩ := List.nodup_cons.1 hnd
  have hsp : runX w (dropsL f ((a, b) :: ps)) = runX (runX w (List.replicate (f a b) (dropD a b))) (dropsL f ps) := by
   show runX w (List.replicate (f a b) (dropD a b) ++ dropsL f ps) = _
   rw [runX_append]
  have one : ∃ w1, runX w (List.replicate (f a b) (dropD a b)) = w1 ∧ WInv n A w1 ∧ w1.nodes = w.nodes ∧ ∀ c d : Nat, wayAt w1 c d = if c = a ∧ d = b then [] else wayAt w c d := by
   refine ⟨_, rfl, ?_⟩
   by_cases hab : a = b
   ·subst hab
    have h0 : f a a = 0 := by rw [hf, hd a ha]; rfl
    rw [h0]
    refine ⟨h, rfl, fun c d => ?_⟩
    by_cases hc : c = a ∧ d = a
    ·rw [if_pos hc, hc.1, hc.2]; exact hd a ha
    ·rw [if_neg hc]; rfl
   ·obtain ⟨r1, r2, r3⟩ := drop_many hab (f a b) h ha hb
    refine ⟨r1, r2, fun c d => ?_⟩
    rw [r3, hf, List.drop_length]
  obtain ⟨w1, e1, i1, n1, y1⟩ := one
  have d1 : Diag w1 := fun c hc => by
   rw [y1]
   split
   ·rfl
   ·exact hd c (by rw [← n1]; exact hc)
  obtain ⟨r1, r2, r3, r4⟩ := drops_run f ps i1 d1 hnd fun q hq => by
   obtain ⟨q1, q2, q3⟩ := hps q (List.mem_cons_of_mem _ hq)
   refine ⟨by rw [n1]; exact q1, by rw [n1]; exact q2, ?_⟩
   rw [y1, if_neg (fun hh => hna (by obtain ⟨x, y⟩ := q; simp only at hh; rw [← hh.1, ← hh.2]; exact hq))]
   exact q3
  rw [hsp, e1]
  refine ⟨r1, by rw [r2, n1], fun c d hc => ?_, fun c d hc => ?_⟩
  ·by_cases hm : (c, d) ∈ ps
   ·exact r3 c d hm
   ·rw [r4 c d hm, y1, if_pos]
    rcases List.mem_cons.1 hc with he | he
    ·simp only [Prod.mk.injEq] at he; exact he
    ·exact absurd he hm
  ·rw [r4 c d (fun hh => hc (List.mem_cons_of_mem _ hh)), y1, if_neg]
   intro hh
   exact hc (by rw [hh.1, hh.2]; exact List.mem_cons_self ..)
theorem prune_step (h : WInv n A w) {a : Nat} (ha : a < w.nodes.length) : stepX w (pruneD a) = ⟨w.nodes.set a (pruneX (w.nodes.getD a noNode)), w.way⟩ := by
 have he := (h.prune ha).1
 unfold stepX pruneD
 simp only [show ¬ ((5 : Int) = 1) by decide, show ¬ ((5 : Int) = 2) by decide, show ¬ ((5 : Int) = 3) by decide, show ¬ ((5 : Int) = 4) by decide, if_false, if_true]
 unfold changeX
 rw [if_pos ⟨isNB_of ha, he⟩]
 rfl
theorem prunes_run : ∀ (js : List Nat) {w : WdS}, WInv n A w → js.Nodup → (∀ a ∈ js, a < w.nodes.length) →
  ∀ i, i < w.nodes.length → (runX w (js.map pruneD)).nodes.getD i noNode = if i ∈ js then pruneX (w.nodes.getD i noNode) else w.nodes.getD i noNode
 | [], w, _, _, _ => fun i _ => by rw [if_neg (by simp)]; rfl
 | a :: js, w, h, hnd, hjs => by
  intro i hi
  obtain ⟨hna, hnd⟩ := List.nodup_cons.1 hnd
  have ha := hjs a (List.mem_cons_self ..)
  have hs : runX w ((a :: js).map pruneD) = runX ⟨w.nodes.set a (pruneX (w.nodes.getD a noNode)), w.way⟩ (js.map pruneD) := by
   unfold runX
   rw [List.map_cons, List.foldl_cons, prune_step h ha]
  have hl : (w.nodes.set a (pruneX (w.nodes.getD a noNode))).length = w.nodes.length := List.length_set ..
  rw [hs, prunes_run js (h.prune ha).2 hnd (fun b hb => by rw [hl]; exact hjs b (List.mem_cons_of_mem _ hb)) i (by rw [hl]; exact hi)]
  show (if i ∈ js then pruneX ((w.nodes.set a (pruneX (w.nodes.getD a noNode))).getD i noNode) else (w.nodes.set a (pruneX (w.nodes.getD a noNode))).getD i noNode) = _
  rw [getD_setN ha]
  by_cases hia : i = a
  ·subst hia
   rw [if_pos rfl, if_neg hna, if_pos (List.mem_cons_self ..)]
  ·rw [if_neg hia]
   by_cases him : i ∈ js
   ·rw [if_pos him, if_pos (List.mem_cons_of_mem _ him)]
   ·rw [if_neg him, if_neg (by intro hh; rcases List.mem_cons.1 hh with h1 | h1; exact hia h1; exact him h1)]
def pairsL (k : Nat) : List (Nat × Nat) := (List.range k).flatMap fun a => (List.range k).map fun b => (a, b)
theorem mem_pairsL {k a b : Nat} : (a, b) ∈ pairsL k ↔ a < k ∧ b < k := by
 unfold pairsL
 simp [List.mem_flatMap, List.mem_map, List.mem_range]
set_option maxRecDepth 100000 in
theorem nodup_pairsL : ∀ k, k ≤ 6 → (pairsL k).Nodup := by decide
theorem settles {k : Nat} (h1 : 1 ≤ k) (h6 : k ≤ 6) {l : List DoS} (hl : l.length ≤ 150) {f : Nat → Nat → Nat} (hf : ∀ a b, a < k → b < k → f a b = (wayAt (runX (beginW k) l) a b).length)
  {m : List DoS} (hm : m = l ++ dropsL f (pairsL k) ++ tellsL (allPs k) ++ tellsL (allPs k)) {i : Nat} (hi : i < k) :
  ((runX (beginW k) m).nodes.getD i noNode).st = ((runX (beginW k) m).nodes.getD 0 noNode).st ∧
  ((runX (beginW k) (m ++ tellsL (allPs k) ++ (List.range k).map pruneD)).nodes.getD i noNode).log = [] ∧
  ((runX (beginW k) (m ++ tellsL (allPs k) ++ (List.range k).map pruneD)).nodes.getD i noNode).st = ((runX (beginW k) m).nodes.getD i noNode).st := by
 have I0 := run_all h1 h6 l
 have hA : (runU (beginW k) l).length ≤ 150 := Nat.le_trans (runU_few l (beginW k)) hl
 have D0 := diag_all h1 h6 l
 have n0 : (runX (beginW k) l).nodes.length = k := by rw [runX_len, begin_len]
 generalize runU (beginW k) l = A at I0 hA
 have hYe : runX (beginW k) (m ++ tellsL (allPs k) ++ (List.range k).map pruneD) = runX (runX (runX (beginW k) m) (tellsL (allPs k))) ((List.range k).map pruneD) := by rw [runX_append, runX_append]
 have hXe : runX (beginW k) m = runX (runX (runX (runX (beginW k) l) (dropsL f (pairsL k))) (tellsL (allPs k))) (tellsL (allPs k)) := by rw [hm, runX_append, runX_append, runX_append]
 rw [hYe, hXe]
 generalize runX (beginW k) l = w0 at I0 D0 n0 hf
 obtain ⟨I1, e1, y1, -⟩ := drops_run f (pairsL k) I0 D0 (nodup_pairsL k h6) fun q hq => by
  obtain ⟨a, b⟩ := q
  obtain ⟨ha, hb⟩ := mem_pairsL.1 hq
  exact ⟨by rw [n0]; exact ha, by rw [n0]; exact hb, hf a b ha hb⟩
 generalize runX w0 (dropsL f (pairsL k)) = w1 at I1 e1 y1
 have n1 : w1.nodes.length = k := by rw [e1, n0]
 have S1 : Still w1 := fun a b ha hb => y1 a b (mem_pairsL.2 ⟨by omega, by omega⟩)
 have ok : ∀ {w : WdS}, w.nodes.length = k → OkPs w (allPs k) := fun hw q hq => by rw [hw]; exact mem_allPs.1 hq
 have c2 := round_one I1 S1 hA
 obtain ⟨I2, S2, n2, -⟩ := tells_run hA (allPs k) I1 S1 (ok n1)
 rw [n1] at c2 n2
 generalize runX w1 (tellsL (allPs k)) = w2 at I2 S2 n2 c2
 have c3 := round_one I2 S2 hA
 have k3 := round_two I2 S2 hA (by rw [n2]; exact c2)
 obtain ⟨I3, S3, n3, -⟩ := tells_run hA (allPs k) I2 S2 (ok n2)
 rw [n2] at c3 n3 k3
 generalize runX w2 (tellsL (allPs k)) = w3 at I3 S3 n3 c3 k3
 have c4 := round_one I3 S3 hA
 have k4 := round_two I3 S3 hA (by rw [n3]; exact c3)
 obtain ⟨I4, S4, n4, -⟩ := tells_run hA (allPs k) I3 S3 (ok n3)
 rw [n3] at c4 n4 k4
 generalize runX w3 (tellsL (allPs k)) = w4 at I4 S4 n4 c4 k4
 have st3 : ∀ j, j < k → (w3.nodes.getD j noNode).st = ofS k A (totC k A) := fun j hj => by
  have := (I3.nd j (by rw [n3]; exact hj)).1.of
  rw [c3 j hj] at this
  exact this
 have st4 : (w4.nodes.getD i noNode).st = ofS k A (totC k A) := by
  have := (I4.nd i (by rw [n4]; exact hi)).1.of
  rw [c4 i hi] at this
  exact this
 obtain ⟨hD, hN, -, -⟩ := I4.nd i (by rw [n4]; exact hi)
 obtain ⟨p1, p2⟩ := prune_empty hD I4.fit hN (c4 i hi) (fun j hj => k4 i j hi (by have := hN.kl; omega))
 rw [prunes_run (List.range k) I4 List.nodup_range (fun a ha => by rw [n4]; exact List.mem_range.1 ha) i (by rw [n4]; exact hi), if_pos (List.mem_range.2 hi)]
 exact ⟨by rw [st3 i hi, st3 0 (by omega)], p1, by rw [p2, st4, st3 i hi]⟩
end
end Go.Proofs.YtihedgnachophaaGreat

namespace Go.Proofs.YtihedgnachophaaGreat
open Go.RowKit

theorem Tryz.infoDo : (Tryz.prog.info? 39).map (fun i => (i.zero, i.size, i.bytes)) = some (some (.agg #[.int .i64 0, .int .i64 0, .int .i64 0, .int .i64 0, .slice none 0 0, .int .i64 0, .int .i64 0, .int .i64 0]), 8, 80) := by kernel_rfl
def cells8 (o : DoS) (sv : Value) : List Value := [.int .i64 o.kind, .int .i64 o.n, .int .i64 o.dst, .int .i64 o.upd.author, sv, .int .i64 o.upd.kind, .int .i64 o.upd.key, .int .i64 o.upd.item]
def cells8s (ps : List (DoS × Value)) : List Value := ps.flatMap fun p => cells8 p.1 p.2
theorem cells8s_snoc (ps : List (DoS × Value)) (u : DoS) (sv : Value) : cells8s (ps ++ [(u, sv)]) = cells8s ps ++ cells8 u sv := by simp [cells8s]
theorem cells8s_get : ∀ (ps : List (DoS × Value)) (i j : Nat) (p : DoS × Value), ps[i]? = some p → j < 8 → (cells8s ps)[i * 8 + j]? = (cells8 p.1 p.2)[j]?
 | [], i, _, _, h, _ => by simp at h
 | q :: r, 0, j, p, h, hj => by
  simp at h
  subst h
  simp only [cells8s, List.flatMap_cons, Nat.zero_mul, Nat.zero_add]
  rw [List.getElem?_append_left (by simp [cells8]; exact hj)]
 | q :: r, i + 1, j, p, h, hj => by
  have ih := cells8s_get r i j p (by simpa using h) hj
  simp only [cells8s, List.flatMap_cons] at ih ⊢
  rw [List.getElem?_append_right (by simp [cells8]; omega)]
  rw [← ih]
  congr 1
  simp [cells8]; omega
theorem cells8s_one (ps : List (DoS × Value)) (h : ∀ p ∈ ps, p.2.oneCell' = true) : ∀ q ∈ cells8s ps, q.oneCell' = true := by
 intro q hq
 obtain ⟨p, hp, ho⟩ := List.mem_flatMap.1 hq
 simp only [cells8, List.mem_cons, List.not_mem_nil, or_false] at ho
 rcases ho with rfl | rfl | rfl | rfl | rfl | rfl | rfl | rfl <;> first | rfl | exact h p hp
theorem alloc_cellsD (w : World) (cs : List Value) (t : TypeId) : ∀ (j : Nat) (q : Value), cs[j]? = some q → (w.alloc (.cells cs.toArray t)).cell? ((⟨w.heap.size, 0, none⟩ : Addr).add j) = some q := by
 intro j q hj
 have e : (⟨w.heap.size, 0, none⟩ : Addr).add j = ⟨w.heap.size, j, none⟩ := by cases j <;> simp [Addr.add]
 rw [e]
 exact (Box.new w cs t).get j hj
def OwnD (R : Value → List Int → Prop) (w : World) (B : Nat) (v : Value) (ps : List (DoS × Value)) : Prop := w.ownsRow B 39 8 v ps.length (cells8s ps) ∧ ∀ p ∈ ps, R p.2 p.1.upd.seen
theorem OwnD.step {R : Value → List Int → Prop} {w w' : World} {B C : Nat} {v : Value} {ps : List (DoS × Value)} (h : OwnD R w B v ps) (hb : Below C w w') (hC : w.heap.size ≤ C) : OwnD R w' B v ps := ⟨ownsRow_below h.1 hb hC, h.2⟩
theorem OwnD.snoc {R : Value → List Int → Prop} {w : World} {B : Nat} {v sv : Value} {ps : List (DoS × Value)} {u : DoS} (h : ∀ p ∈ ps, R p.2 p.1.upd.seen) (hs : R sv u.upd.seen) (ho : w.ownsRow B 39 8 v (ps.length + 1) (cells8s ps ++ cells8 u sv)) : OwnD R w B v (ps ++ [(u, sv)]) := by
 refine ⟨by rw [cells8s_snoc]; simpa using ho, fun p hp => ?_⟩
 rcases List.mem_append.1 hp with hp | hp
 ·exact h p hp
 ·simp at hp
  subst hp
  exact hs
theorem OwnD.dos {R : Value → List Int → Prop} {w : World} {B : Nat} {v : Value} {ps : List (DoS × Value)} (h : OwnD R w B v ps) (hR : ∀ sv xs, R sv xs → Row w sv xs) : DoV w v (ps.map (·.1)) := by
 obtain ⟨h, hs⟩ := h
 rcases h.2 with ⟨rfl, h0⟩ | ⟨g, cap, cur, rfl, hg, hh, h1, h2, h3, h4⟩
 ·have : ps = [] := List.eq_nil_of_length_eq_zero h0
  subst this
  exact ⟨none, 0, rfl, by simp, by unfold maxLen; omega, fun i o hi => by simp at hi⟩
 ·refine ⟨some ⟨g, 0, none⟩, cap, by simp, by simpa using h1, h2, fun i u hi => ⟨g, 0, rfl, ?_⟩⟩
  simp only [List.getElem?_map, Option.map_eq_some_iff] at hi
  obtain ⟨p, hp, rfl⟩ := hi
  have hil : i < ps.length := (List.getElem?_eq_some_iff.1 hp).1
  have cell : ∀ j, j < 8 → w.cell? ⟨g, 0 + i * 8 + j, none⟩ = (cells8 p.1 p.2)[j]? := by
   intro j hj
   rw [Nat.zero_add, ← cells8s_get ps i j p hp hj, ← h4]
   have : i * 8 + j < ps.length * 8 := by omega
   rw [List.getElem?_take_of_lt this]
   simp [World.cell?, hh]
  exact ⟨p.2, hR _ _ (hs p (List.mem_of_getElem? hp)), cell 0 (by omega), cell 1 (by omega), cell 2 (by omega), cell 3 (by omega), cell 4 (by omega), cell 5 (by omega), cell 6 (by omega), cell 7 (by omega)⟩
theorem keepsD {R : Value → List Int → Prop} {w w' : World} {B : Nat} {v : Value} {ps : List (DoS × Value)} (h : OwnD R w B v ps) (hg : w.grownBy w' v.ownBlock) : Keeps [39] w w' := by
 rcases h.1.2 with ⟨rfl, -⟩ | ⟨g, cap, cur, rfl, -, hc, -⟩
 ·exact keeps_grown0 hg
 ·exact keeps_grown hc hg
theorem tellsL_append (x y : List (Nat × Nat)) : tellsL (x ++ y) = tellsL x ++ tellsL y := by unfold tellsL; rw [List.flatMap_append]
def rowB (a b : Nat) : List (Nat × Nat) := (List.range b).flatMap fun b => if a = b then [] else [(a, b)]
def rowsA (k a : Nat) : List (Nat × Nat) := (List.range a).flatMap fun a => rowB a k
theorem rowB_succ (a b : Nat) : rowB a (b + 1) = rowB a b ++ if a = b then [] else [(a, b)] := by unfold rowB; rw [List.range_succ, List.flatMap_append]; simp
theorem rowsA_succ (k a : Nat) : rowsA k (a + 1) = rowsA k a ++ rowB a k := by unfold rowsA; rw [List.range_succ, List.flatMap_append]; simp
theorem rowB_len (a : Nat) : ∀ b, (rowB a b).length ≤ b
 | 0 => by simp [rowB]
 | b + 1 => by
  have := rowB_len a b
  rw [rowB_succ, List.length_append]
  split <;> simp <;> omega
theorem rowsA_len (k : Nat) : ∀ a, (rowsA k a).length ≤ a * k
 | 0 => by simp [rowsA]
 | a + 1 => by
  have := rowsA_len k a
  have := rowB_len a k
  rw [rowsA_succ, List.length_append, Nat.succ_mul]
  omega
theorem tellsL_len (x : List (Nat × Nat)) : (tellsL x).length = x.length * 2 := by
 induction x with
 | nil => rfl
 | cons q r ih => unfold tellsL at ih ⊢; rw [List.flatMap_cons, List.length_append, ih]; simp; omega
theorem allPs_rows (k : Nat) : allPs k = rowsA k k := rfl

set_option maxRecDepth 100000 in
set_option maxHeartbeats 4000000 in
theorem round_w (R : Value → List Int → Prop) (hR0 : R (.slice none 0 0) []) (k : Nat) (hk6 : k ≤ 6) (v : Value) (ps : List (DoS × Value)) (B : Nat) (w0 : World) (hps : ps.length ≤ 1000) (hB : B ≤ w0.heap.size) (h : OwnD R w0 B v ps) :
  Calls Tryz.prog 12 #[v, .int .i64 k] w0 fun e w' => ∃ v', e = .returned v' ∧ ∃ qs, qs.map (·.1) = ps.map (·.1) ++ tellsL (allPs k) ∧ OwnD R w' B v' qs ∧ Below B w0 w' ∧ Keeps [39] w0 w' := by
 obtain ⟨i0, hi, hz0, hz1, hz2⟩ := info_parts Tryz.infoDo
 have HR0 := hide hR0
 have HPS := hide hps
 have H0 := hide h
 have HBS := hide hB
 clear hR0 hps h hB
 go_enter Tryz.func12, Tryz.ntmps12
 go_wp2_with fail
 go_loopw [0, 8] (fun o q wr => ∃ (a : Nat) (qs : List (DoS × Value)), a ≤ k ∧ q = .int .i64 a ∧ Hid (qs.map (·.1) = ps.map (·.1) ++ tellsL (rowsA k a)) ∧ Hid (OwnD R wr B o qs) ∧ Hid (Below B w0 wr) ∧ Hid (Keeps [39] w0 wr)) (fun _ q _ => k - (intOf q).toNat)
 case atStart => exact ⟨0, ps, Nat.zero_le _, rfl, hide (by simp [rowsA, tellsL]), H0, hide (Below.refl _ _), hide (Keeps.refl _ _)⟩
 case round =>
  obtain ⟨a, qs, ha, rfl, HQ, O1, HB1, KP1⟩ := hrel
  obtain ⟨w1, rfl⟩ : ∃ w1, w1 = wr := ⟨wr, rfl⟩
  by_cases hlt : a < k
  ·have hlt' : (a : Int) < (k : Int) := by omega
   go_wp2_with fail
   go_loopw [0, 12] (fun o q wr => ∃ (b : Nat) (qs : List (DoS × Value)), b ≤ k ∧ q = .int .i64 b ∧ Hid (qs.map (·.1) = ps.map (·.1) ++ tellsL (rowsA k a) ++ tellsL (rowB a b)) ∧ Hid (OwnD R wr B o qs) ∧ Hid (Below B w0 wr) ∧ Hid (Keeps [39] w0 wr)) (fun _ q _ => k - (intOf q).toNat)
   case atStart => exact ⟨0, qs, Nat.zero_le _, rfl, hide (by rw [HQ.out]; simp [rowB, tellsL]), O1, HB1, KP1⟩
   case round =>
    obtain ⟨b, qs, hb, rfl, HQ, O2, HB2, KP2⟩ := hrel
    obtain ⟨w2, rfl⟩ : ∃ w2, w2 = wr := ⟨wr, rfl⟩
    by_cases hbt : b < k
    ·have hbt' : (b : Int) < (k : Int) := by omega
     have HPL : Hid (qs.length ≤ 1100) := by
      have h1 := congrArg List.length HQ.out
      rw [List.length_append, List.length_append, List.length_map, List.length_map, tellsL_len, tellsL_len] at h1
      have h2 := rowB_len a b
      have h3 := rowsA_len k a
      have h4 : a * k ≤ 6 * 6 := Nat.mul_le_mul (by omega) hk6
      have h5 := HPS.out
      unfold Hid
      omega
     have HT := hide (rowB_succ a b)
     by_cases hab : a = b
     ·subst hab
      rw [if_pos rfl, List.append_nil] at HT
      go_wp2_with fail
      go_roundw
      case rel => exact ⟨a + 1, qs, by omega, by go_num, hide (by rw [HT.out]; exact HQ.out), O2, HB2, KP2⟩
      case measure => simp [intOf]; omega
     ·have hab' : ((a : Int) != (b : Int)) = true := by simp; omega
      rw [if_neg hab] at HT
      clear hab
      go_wp2_with fail
      refine (do7_fn _ _ _ _).mono ?_
      rintro e w3 ⟨rfl, hb3⟩
      have O3 := hide (O2.out.step hb3 (nlr _))
      have HS2 := hide (Nat.le_trans HBS.out HB2.out.size)
      have HB3 := hide (HB2.out.trans (hb3.mono HS2.out))
      have KP3 : Hid (Keeps [39] w0 w3) := KP2.out.trans (Keeps.below hb3)
      clear hb3 O2 HB2
      go_wp2_with fail
      refine (do7_fn _ _ _ _).mono ?_
      rintro e w4 ⟨rfl, hb4⟩
      have HS3 := hide (Nat.le_trans HBS.out HB3.out.size)
      have O4 := hide (O3.out.step hb4 (nlr _))
      have HB4 := hide (HB3.out.trans (hb4.mono HS3.out))
      have KP4 : Hid (Keeps [39] w0 w4) := KP3.out.trans (Keeps.below hb4)
      clear hb4 O3 HB3
      go_wp2_with (at_builtin; refine wpList_append_own _ rfl (.tmp 18) (.tmp 25) 22 rfl B 39 i0 (.agg #[.int .i64 0, .int .i64 0, .int .i64 0, .int .i64 0, .slice none 0 0, .int .i64 0, .int .i64 0, .int .i64 0]) 8 80 Tryz.underlying22 hi hz0 hz1 hz2 rfl (by decide) _ _ _ rfl ((O4.out.step ((Below.refl w4.heap.size w4).alloc (nlr _) _) (nlr _)).1) ⟨w4.heap.size, 0, none⟩ 2 2 (cells8 (sendD a b) (.slice none 0 0) ++ cells8 (delD a b) (.slice none 0 0)) rfl rfl ?c1 ?c2 ?c3 ?c4 ?c5 ?_)
      case c1 => exact alloc_cellsD w4 (cells8 (sendD a b) (.slice none 0 0) ++ cells8 (delD a b) (.slice none 0 0)) 39
      case c2 => exact cells8s_one [(sendD a b, .slice none 0 0), (delD a b, .slice none 0 0)] (by intro p hp; simp only [List.mem_cons, List.not_mem_nil, or_false] at hp; rcases hp with rfl | rfl <;> rfl)
      case c3 => unfold maxLen; have := HPL.out; omega
      case c4 => have := HPL.out; omega
      case c5 => have := HB4.out.size; have := HBS.out; simp; omega
      intro v' w5 hown' hgrow _
      have KP5 : Hid (Keeps [39] w0 w5) := KP4.out.trans ((Keeps.below ((Below.refl w4.heap.size w4).alloc (nlr _) _)).trans (keepsD (O4.out.step ((Below.refl w4.heap.size w4).alloc (nlr _) _) (nlr _)) hgrow))
      have HB5 := hide (((HB4.out.alloc (Nat.le_trans HBS.out HB4.out.size) _).grown hgrow (by have := HB4.out.size; have := HBS.out; simp; omega) (fun g hg => (World.ownsRow.lt O4.out.1 g hg).1)))
      have O5 : Hid (OwnD R w5 B v' (qs ++ [(sendD a b, .slice none 0 0)] ++ [(delD a b, .slice none 0 0)])) := by
       refine OwnD.snoc (u := delD a b) (fun p hp => ?_) HR0.out ?_
       ·rcases List.mem_append.1 hp with hp | hp
        ·exact O4.out.2 p hp
        ·simp at hp; subst hp; exact HR0.out
       ·rw [cells8s_snoc, List.append_assoc, List.length_append, List.length_singleton]
        exact hown'
      clear hown' hgrow
      go_wp2_with fail
      go_roundw
      case rel => exact ⟨b + 1, _, by omega, by go_num, hide (by rw [HT.out, tellsL_append, List.map_append, List.map_append, HQ.out]; simp [tellsL]), O5, HB5, KP5⟩
      case measure => simp [intOf]; omega
    ·have hbt' : ¬ (b : Int) < (k : Int) := by omega
     obtain rfl : b = k := by omega
     have HT := hide (rowsA_succ b a)
     go_wp2_with fail
     go_roundw
     case rel => exact ⟨a + 1, qs, by omega, by go_num, hide (by rw [HT.out, tellsL_append, ← List.append_assoc]; exact HQ.out), O2, HB2, KP2⟩
     case measure => simp [intOf]; omega
  ·have hlt' : ¬ (a : Int) < (k : Int) := by omega
   obtain rfl : a = k := by omega
   go_wp2_with fail
   go_ret
   exact ⟨_, rfl, qs, HQ.out, O1.out, HB1.out, KP1.out⟩
end Go.Proofs.YtihedgnachophaaGreat

namespace Go.Proofs.YtihedgnachophaaGreat
open Go.RowKit

section
variable {P : Program} (w : World)

theorem run_append_own_srcW (base : Nat) (t tx ty e : TypeId) (i : TypeInfo) (z : Value) (size bytes : Nat) (ht : P.underlying t = some (.slice e)) (hi : P.info? e = some i) (hz : i.zero = some z)
  (hsize : i.size = size) (hby : i.bytes = bytes) (hzs : z.cells.size = size)
  (v : Value) (n : Nat) (xs : List Value) (hown : w.ownsRow base e size v n xs)
  (x : Value) (m : Nat) (news : List Value) (hs : Src P size tx x m news w)
  (h63 : n + m ≤ maxLen) (hbytes : (n + m) * bytes ≤ 140737488355328) (hbase : base ≤ w.heap.size) :
  ∃ v' w', (Builtin.append_ #[t, tx] ty #[v, x]).run P w = .ok v' w' ∧ w'.ownsRow base e size v' (n + m) (xs ++ news) ∧ w.grownBy w' v.ownBlock := by
 subst hsize
 subst hby
 have hsmall : n + m ≤ 9223372036854775807 := by simp only [maxLen] at h63; omega
 have hlen : (xs ++ news).length = (n + m) * i.size := by rw [List.length_append, hown.1, hs.newsLen, Nat.add_mul]
 have grown : ∀ (old : Nat), old < n + m → ∀ (row : Option Nat),
   (w.drew.alloc (.cells ((xs ++ news).toArray ++ Builtin.zeroCells z.cells (grownCap w (n + m) old e - (n + m))) e)).ownsRow base e i.size
    (.slice (some ⟨w.heap.size, 0, none⟩) (n + m) (grownCap w (n + m) old e)) (n + m) (xs ++ news) ∧
   w.grownBy (w.drew.alloc (.cells ((xs ++ news).toArray ++ Builtin.zeroCells z.cells (grownCap w (n + m) old e - (n + m))) e)) row := by
  intro old ho row
  have hge := grownCap_ge w (n + m) old e
  have hcm : grownCap w (n + m) old e ≤ maxLen := grownCap_le_maxLen w (n + m) old e h63
  refine ⟨⟨hlen, .inr ⟨w.heap.size, _, _, rfl, hbase, heap_alloc_new w.drew _, hge, hcm, ?_, ?_⟩⟩, ⟨rfl, rfl, rfl, by simp, fun k hk _ => heap_alloc_old w.drew _ hk⟩⟩
  ·simp only [Array.size_append, List.size_toArray, size_zeroCells, hzs, hlen, ← Nat.add_mul]
   congr 1
   omega
  ·simp only [Array.toList_append, ← hlen]
   exact List.take_left
 rcases hown.2 with ⟨rfl, rfl⟩ | ⟨g, cap, cur, rfl, hbg, hg, hnc, hcm, hcs, htake⟩
 ·have hx : xs = [] := List.eq_nil_of_length_eq_zero (by simpa using hown.1)
  subst hx
  by_cases hm : m = 0
  ·subst hm
   have hn : news = [] := List.eq_nil_of_length_eq_zero (by simpa using hs.newsLen)
   subst hn
   refine ⟨.slice none 0 0, w, ?_, World.ownsRow_nil w base e i.size, World.grownBy.refl _ _⟩
   rcases hs.kind with ⟨e', hk⟩ | hk <;> simp [Builtin.append_, run_underlying ht, run_underlying hk, sizeOf, typeInfo, hi, hs.len, hs.cells]
  ·have hr := run_append_grow_src (P := P) w t tx ty e i z ht hi hz none 0 0 [] (run_firstCells_none w.drew i.size 0 0 0) x m news hs (by omega) (by omega) (growslice_fits (by omega) hbytes)
   have hgr := grown 0 (by omega) (Value.ownBlock (.slice none 0 0))
   exact ⟨_, _, hr, hgr.1, hgr.2⟩
 ·by_cases hroom : n + m ≤ cap
  ·have hfit : n * i.size + news.length ≤ cur.size := by rw [hs.newsLen, hcs, ← Nat.add_mul]; exact Nat.mul_le_mul_right _ hroom
   have hr := run_append_room_src (P := P) w t tx ty e i ht hi g 0 n cap x m news hs hroom
    (fun j hj => by rw [cell_of_row w g _ cur e (0, 0) hg, Array.getElem?_eq_getElem (by omega)]; rfl)
    (fun j hj => frozen_of_row w g _ cur e hg)
   rw [Nat.zero_add] at hr
   obtain ⟨⟨cur', h1, h2, h3⟩, h4⟩ := row_setCells g e news (n * i.size) w cur hg hfit
   refine ⟨_, _, hr, ⟨hlen, .inr ⟨g, cap, cur', rfl, hbg, h1, hroom, hcm, by rw [h2, hcs], ?_⟩⟩, h4⟩
   rw [Nat.add_mul, ← hs.newsLen, h3, htake]
  ·have holds : ∀ j u, xs[j]? = some u → w.cell? ((⟨g, 0, none⟩ : Addr).add j) = some u := hown.cells (g := g) rfl
   have hr := run_append_grow_src (P := P) w t tx ty e i z ht hi hz (some ⟨g, 0, none⟩) n cap xs (run_firstCells_some w.drew i.size n ⟨g, 0, none⟩ n cap xs hown.1 (by simpa using holds)) x m news hs (by omega) (by omega) (growslice_fits (by omega) hbytes)
   have hgr := grown cap (by omega) (Value.ownBlock (.slice (some ⟨g, 0, none⟩) n cap))
   exact ⟨_, _, hr, hgr.1, hgr.2⟩

theorem wpList_append_own_srcW {ops : Array Oper} {rest : List Oper} {o : Oper} {a : Act} {Q : Exit → Act → World → Prop} (hgd : o.guard = none) (s x : Operand) (t tx : TypeId)
  (ho : o.op = .call { callee := .builtin .append, args := #[s, x], argTypes := #[t, tx] })
  (base : Nat) (e : TypeId) (i : TypeInfo) (z : Value) (size bytes : Nat) (ht : P.underlying t = some (.slice e)) (hi : P.info? e = some i) (hz : i.zero = some z)
  (hsize : i.size = size) (hby : i.bytes = bytes) (hzs : z.cells.size = size)
  (v : Value) (n : Nat) (xs : List Value) (hv : a.eval s = v) (hown : w.ownsRow base e size v n xs)
  (xv : Value) (hx : a.eval x = xv) (m : Nat) (news : List Value) (hs : Src P size tx xv m news w)
  (h63 : n + m ≤ maxLen) (hbytes : (n + m) * bytes ≤ 140737488355328) (hbase : base ≤ w.heap.size)
  (h : ∀ v' w', w'.ownsRow base e size v' (n + m) (xs ++ news) → w.grownBy w' v.ownBlock → wpList P ops Q rest (a.put o.dst v') w') : wpList P ops Q (o :: rest) a w := by
 refine wpList_plain hgd fun K hK => ?_
 obtain ⟨v', w', hrun, r1, r2⟩ := run_append_own_srcW (P := P) w base t tx o.type e i z size bytes ht hi hz hsize hby hzs v n xs hown xv m news hs h63 hbytes hbase
 unfold Oper.wp
 simp [execOp, ho, resolve, invoke, builtin, hv, hx, hrun, Result.andThen]
 exact hK _ _ (h v' w' r1 r2)
end
def FewW (w : WdS) : Prop := ∀ a b : Nat, a < w.nodes.length → b < w.nodes.length → (wayAt w a b).length ≤ 20
section
variable {n : Int} {A : List Upd} {w : WdS}
theorem FewW.step (h : WInv n A w) (hd : FewW w) (o : DoS) : FewW (stepX w o) := by
 intro a b ha hb
 rw [stepX_len] at ha hb
 have hch : ∀ (i e : Int) (d : NdS), (wayAt (changeX w i e d) a b).length ≤ 20 := by
  intro i e d
  unfold changeX
  split
  ·rw [wayAt_node]; exact hd a b ha hb
  ·exact hd a b ha hb
 have htwo : ∀ x : WdS, (∀ p q : Nat, o.n = p → o.dst = q → p < w.nodes.length → q < w.nodes.length → (wayAt x a b).length ≤ 20) → (wayAt (twoX w o.n o.dst x) a b).length ≤ 20 := by
  intro x hx
  unfold twoX
  split
  ·next hc =>
   obtain ⟨p, hp, hpl⟩ := isNB_nat hc.1
   obtain ⟨q, hq, hql⟩ := isNB_nat hc.2.1
   exact hx p q hp hq hpl hql
  ·exact hd a b ha hb
 have hnx : ∀ p q : Nat, p < w.nodes.length → q < w.nodes.length → (wayAt (nextX w p q) a b).length ≤ 20 := by
  intro p q hp hq
  rw [wayAt_next h hp hq]
  split
  ·have := hd p q hp hq
   rw [List.length_tail]
   omega
  ·exact hd a b ha hb
 unfold stepX
 split
 ·exact hch _ _ _
 ·split
  ·refine htwo _ fun p q hp hq hpl hql => ?_
   rw [hp, hq]
   unfold wsendX
   split
   ·next he =>
    rw [wayAt_set h hpl hql]
    split
    ·unfold wsendE at he
     split at he
     ·cases he
     ·rw [List.length_append]
      simp
      omega
    ·exact hd a b ha hb
   ·exact hd a b ha hb
  ·split
   ·refine htwo _ fun p q hp hq hpl hql => ?_
    rw [hp, hq]
    unfold wdelX
    split
    ·unfold changeX
     split
     ·rw [wayAt_node]; exact hnx p q hpl hql
     ·exact hnx p q hpl hql
    ·exact hd a b ha hb
   ·split
    ·refine htwo _ fun p q hp hq hpl hql => ?_
     rw [hp, hq]
     exact hnx p q hpl hql
    ·split
     ·exact hch _ _ _
     ·exact hd a b ha hb
theorem FewW.run : ∀ (l : List DoS) {A : List Upd} {w : WdS}, WInv n A w → FewW w → FewW (runX w l)
 | [], _, _, _, hd => hd
 | o :: l, _, _, h, hd => FewW.run l (h.step o).1 (hd.step h o)
end
theorem few_all {k : Nat} (h1 : 1 ≤ k) (h6 : k ≤ 6) (l : List DoS) : FewW (runX (beginW k) l) :=
 FewW.run l (begin_inv h1 h6) fun a b _ _ => by
  have e : wayAt (beginW k) a b = [] := by unfold wayAt; rw [Int.toNat_natCast, Int.toNat_natCast]; exact begin_way
  rw [e]
  simp
def dropRow (F : Nat → Nat → Nat) (a b : Nat) : List DoS := (List.range b).flatMap fun b => List.replicate (F a b) (dropD a b)
def dropRows (F : Nat → Nat → Nat) (k a : Nat) : List DoS := (List.range a).flatMap fun a => dropRow F a k
theorem dropRow_succ (F : Nat → Nat → Nat) (a b : Nat) : dropRow F a (b + 1) = dropRow F a b ++ List.replicate (F a b) (dropD a b) := by unfold dropRow; rw [List.range_succ, List.flatMap_append]; simp
theorem dropRows_succ (F : Nat → Nat → Nat) (k a : Nat) : dropRows F k (a + 1) = dropRows F k a ++ dropRow F a k := by unfold dropRows; rw [List.range_succ, List.flatMap_append]; simp
theorem dropRow_len {F : Nat → Nat → Nat} {k a : Nat} (ha : a < k) (hF : ∀ a b : Nat, a < k → b < k → F a b ≤ 20) : ∀ b, b ≤ k → (dropRow F a b).length ≤ 20 * b
 | 0, _ => by simp [dropRow]
 | b + 1, hb => by
  have h1 := dropRow_len ha hF b (by omega)
  have h2 := hF a b ha (by omega)
  rw [dropRow_succ, List.length_append, List.length_replicate]
  omega
theorem dropRows_len {F : Nat → Nat → Nat} {k : Nat} (hk : k ≤ 3) (hF : ∀ a b : Nat, a < k → b < k → F a b ≤ 20) : ∀ a, a ≤ k → (dropRows F k a).length ≤ 60 * a
 | 0, _ => by simp [dropRows]
 | a + 1, ha => by
  have h1 := dropRows_len hk hF a (by omega)
  have h2 := dropRow_len (show a < k by omega) hF k (nlr _)
  rw [dropRows_succ, List.length_append]
  omega
theorem dropRows_all (F : Nat → Nat → Nat) (k : Nat) : dropRows F k k = dropsL F (pairsL k) := by
 unfold dropsL pairsL dropRows dropRow
 rw [List.flatMap_assoc]
 simp only [List.flatMap_map]
abbrev SlP := Option Addr × Nat × Nat
def encQ (q : DoS × SlP) : List Value := cells8 q.1 (.slice q.2.1 q.2.2.1 q.2.2.2)
def toV (q : DoS × SlP) : DoS × Value := (q.1, .slice q.2.1 q.2.2.1 q.2.2.2)
theorem encQ_one (q : DoS × SlP) : ∀ v ∈ encQ q, v.oneCell' = true := by
 intro v hv
 simp only [encQ, cells8, List.mem_cons, List.not_mem_nil, or_false] at hv
 rcases hv with rfl | rfl | rfl | rfl | rfl | rfl | rfl | rfl <;> rfl
theorem choose_list : ∀ (l : List DoS) {P : Nat → DoS → SlP → Prop}, (∀ i o, l[i]? = some o → ∃ s, P i o s) → ∃ qs : List (DoS × SlP), qs.map (·.1) = l ∧ ∀ i q, qs[i]? = some q → P i q.1 q.2
 | [], _, _ => ⟨[], rfl, fun i p h => by simp at h⟩
 | o :: r, P, h => by
  obtain ⟨sv, h0⟩ := h 0 o rfl
  obtain ⟨qs, e, hp⟩ := choose_list r (P := fun i => P (i + 1)) (fun i o ho => h (i + 1) o (by simpa using ho))
  refine ⟨(o, sv) :: qs, by simp [e], fun i q hi => ?_⟩
  cases i with
  | zero => simp at hi; subst hi; exact h0
  | succ i => exact hp i q (by simpa using hi)
theorem DoV.pairs {w : World} {v : Value} {l : List DoS} (h : DoV w v l) : ∃ qs : List (DoS × SlP), qs.map (·.1) = l ∧ (∀ q ∈ qs, Row w (toV q).2 q.1.upd.seen) ∧ SliceV 8 encQ w v qs := by
 obtain ⟨a, cap, h1, h2, h3, h4⟩ := h
 obtain ⟨qs, e, hq⟩ := choose_list l (P := fun i o s => Row w (.slice s.1 s.2.1 s.2.2) o.upd.seen ∧ ∃ b off, a = some ⟨b, off, none⟩ ∧ ∀ j u, (cells8 o (.slice s.1 s.2.1 s.2.2))[j]? = some u → w.cell? ⟨b, off + i * 8 + j, none⟩ = some u) (fun i o ho => by
  obtain ⟨b, off, ea, sv, hs, c0, c1, c2, c3, c4, c5, c6, c7⟩ := h4 i o ho
  obtain ⟨sa, sc, rfl, -, -, -⟩ := id hs
  refine ⟨(sa, o.upd.seen.length, sc), hs, b, off, ea, fun j u hj => ?_⟩
  match j, hj with
  | 0, hj => simp only [cells8, List.getElem?_cons_zero, Option.some.injEq] at hj; subst hj; exact c0
  | 1, hj => simp only [cells8, List.getElem?_cons_zero, List.getElem?_cons_succ, Option.some.injEq] at hj; subst hj; exact c1
  | 2, hj => simp only [cells8, List.getElem?_cons_zero, List.getElem?_cons_succ, Option.some.injEq] at hj; subst hj; exact c2
  | 3, hj => simp only [cells8, List.getElem?_cons_zero, List.getElem?_cons_succ, Option.some.injEq] at hj; subst hj; exact c3
  | 4, hj => simp only [cells8, List.getElem?_cons_zero, List.getElem?_cons_succ, Option.some.injEq] at hj; subst hj; exact c4
  | 5, hj => simp only [cells8, List.getElem?_cons_zero, List.getElem?_cons_succ, Option.some.injEq] at hj; subst hj; exact c5
  | 6, hj => simp only [cells8, List.getElem?_cons_zero, List.getElem?_cons_succ, Option.some.injEq] at hj; subst hj; exact c6
  | 7, hj => simp only [cells8, List.getElem?_cons_zero, List.getElem?_cons_succ, Option.some.injEq] at hj; subst hj; exact c7
  | (j + 8), hj => simp [cells8] at hj)
 have hl : qs.length = l.length := by rw [← e, List.length_map]
 refine ⟨qs, e, fun q hm => ?_, a, cap, by rw [hl]; exact h1, by rw [hl]; exact h2, h3, fun i q hi => ?_⟩
 ·obtain ⟨i, hi, rfl⟩ := List.getElem_of_mem hm
  exact (hq i _ (List.getElem?_eq_getElem hi)).1
 ·obtain ⟨-, b, off, ea, hc⟩ := hq i q hi
  exact ⟨b, off, ea, hc⟩
theorem cells_toV (qs : List (DoS × SlP)) : cells8s (qs.map toV) = cellsS encQ qs := by unfold cells8s cellsS; rw [List.flatMap_map]; rfl
theorem OwnD.form {R : Value → List Int → Prop} {w : World} {B : Nat} {v : Value} {ps : List (DoS × Value)} (h : OwnD R w B v ps) : ∃ a c, v = .slice a ps.length c := by
 rcases h.1.2 with ⟨rfl, h0⟩ | ⟨g, cap, cur, rfl, -⟩
 ·exact ⟨none, 0, by rw [h0]⟩
 ·exact ⟨_, _, rfl⟩
theorem WorldO.keptD {w w' : World} {B : Nat} {v : Value} {W : WdS} (h : WorldO w B v W) (hk : Keeps [39] w w') : WorldO w' B v W := by
 rcases h with ⟨gn, gw, gr, rv, e, hx⟩ | h
 ·exact Or.inl ⟨gn, gw, gr, rv, e, hx.kept hk ⟨by decide, by decide, by decide, by decide, by decide⟩ (by decide) (by decide) (by decide) (by decide)⟩
 ·exact Or.inr h
theorem WorldO.way {w : World} {B : Nat} {a1 a2 : Option Addr} {n1 c1 n2 c2 : Nat} {W : WdS} (h : WorldO w B (.agg #[.slice a1 n1 c1, .slice a2 n2 c2]) W) {a b : Nat} (ha : a < W.nodes.length) (hb : b < W.nodes.length) :
  ∃ gw gr av c, a2 = some ⟨gw, 0, none⟩ ∧ w.cell? ⟨gw, a, none⟩ = some (.slice (some ⟨gr, 0, none⟩) W.nodes.length W.nodes.length) ∧ w.cell? ⟨gr, b, none⟩ = some (.slice av (wayAt W a b).length c) := by
 rcases h with ⟨gn, gw, gr, rv, e, hx⟩ | ⟨-, rfl⟩
 ·simp only [Value.agg.injEq, Array.mk.injEq, List.cons.injEq, and_true, Value.slice.injEq] at e
  obtain ⟨-, rfl, -, -⟩ := e
  obtain ⟨r1, r2, r3⟩ := hx.rows a ha
  have hp := hx.pcl a b ha hb (by simp)
  have hw : wayAt W a b = (W.way.getD a []).getD b [] := rfl
  rw [← hw] at hp
  obtain ⟨av, c, e⟩ := hp.form
  refine ⟨gw, gr a, av, c, rfl, hx.way.get a (by rw [List.getElem?_map, List.getElem?_range ha]; rfl), ?_⟩
  rw [← e]
  refine r2.get b ?_
  rw [List.getD_eq_getElem?_getD, List.getElem?_eq_getElem (by rw [r3]; exact hb)]
  rfl
 ·simp at ha
theorem cell_grewW {w w' : World} {p : Addr} {v : Value} (hg : Grew w w') (h : w.cell? p = some v) : w'.cell? p = some v := (hg.cell (p := p) (World.block_lt_of_cell? w _ h)).trans h

set_option maxRecDepth 100000 in
set_option maxHeartbeats 2000000 in
theorem wsettles_law (n : Int) (lv : Value) (l : List DoS) (w0 : World) (hl : DoV w0 lv l) :
  Calls Tryz.prog 3 #[.int .i64 n, lv] w0 fun e w' => e = .returned (.bool true) ∧ Below w0.heap.size w0 w' := by
 have HB0 := hide (Below.refl w0.heap.size w0)
 have L0 := hide hl
 obtain ⟨la, lc, hlv, hcap, hmax, -⟩ := id hl
 subst hlv
 have hlen := hl.len_le
 obtain ⟨E, HE⟩ : ∃ E, Hid (playWE n l = E) := ⟨_, rfl⟩
 obtain ⟨X, HX⟩ : ∃ X, Hid (playWX n l = X) := ⟨_, rfl⟩
 obtain ⟨C, HC⟩ : ∃ C, Hid (playWC n l = C) := ⟨_, rfl⟩
 clear hl
 by_cases hE : E = 0
 ·subst hE
  obtain ⟨k, hk, hk1, hk6, hl150, hXr, -, hXn⟩ := played HE.out
  subst hk
  rw [HX.out] at hXr hXn
  have HXR := hide hXr
  have HXN := hide hXn
  clear hXr hXn
  by_cases h20 : (20 : Int) < (l.length : Int)
  ·skip
   go_enter Tryz.func3, Tryz.ntmps3
   go_wp2_with fail
   refine (alive7 _).mono ?_
   rintro e w1 ⟨rfl, hb1⟩
   have HB1 := hide (below_step HB0.out hb1)
   have L1 := hide (L0.out.below hb1 (nlr _))
   clear hb1 HB0 L0
   go_wp2_with fail
   refine (play_w k _ l _ L1.out).mono ?_
   rintro e w2 ⟨wv, cv, rfl, hW, hC, hb2⟩
   rw [HE.out]
   rw [HX.out] at hW
   rw [HC.out] at hC
   obtain ⟨a1, a2, hwv, hx6⟩ := hW.form
   subst hwv
   obtain ⟨ca, cc, hcv⟩ := hC.form
   subst hcv
   have hbp := bpl w2 (.cells #[.slice a1 X.nodes.length X.nodes.length, .slice a2 X.nodes.length X.nodes.length] 27)
   have W3 := hW.below hbp
   have C3 := hC.below hbp
   have B3 := Box.new w2 [.slice a1 X.nodes.length X.nodes.length, .slice a2 X.nodes.length X.nodes.length] 27
   have hb3 := below_step hb2 hbp
   obtain ⟨w3, HW3⟩ : ∃ W, Hid (w2.alloc (.cells #[.slice a1 X.nodes.length X.nodes.length, .slice a2 X.nodes.length X.nodes.length] 27) = W) := ⟨_, rfl⟩
   rw [HW3.out] at W3 C3 B3 hb3
   have HB3 := hide (below_step HB1.out hb3)
   have L3 := hide (L1.out.below hb3 (nlr _))
   have HWO := hide W3
   have HCO := hide C3
   have HBX := hide B3
   clear hW hC hbp W3 C3 B3 hb3 hb2 HB1 L1
   go_wp2_with fail
   go_ret
   rw [HW3.out]
   exact ⟨rfl, HB3.out⟩
  ·by_cases h3 : (3 : Int) < (k : Int)
   ·skip
    go_enter Tryz.func3, Tryz.ntmps3
    go_wp2_with fail
    refine (alive7 _).mono ?_
    rintro e w1 ⟨rfl, hb1⟩
    have HB1 := hide (below_step HB0.out hb1)
    have L1 := hide (L0.out.below hb1 (nlr _))
    clear hb1 HB0 L0
    go_wp2_with fail
    refine (play_w k _ l _ L1.out).mono ?_
    rintro e w2 ⟨wv, cv, rfl, hW, hC, hb2⟩
    rw [HE.out]
    rw [HX.out] at hW
    rw [HC.out] at hC
    obtain ⟨a1, a2, hwv, hx6⟩ := hW.form
    subst hwv
    obtain ⟨ca, cc, hcv⟩ := hC.form
    subst hcv
    have hbp := bpl w2 (.cells #[.slice a1 X.nodes.length X.nodes.length, .slice a2 X.nodes.length X.nodes.length] 27)
    have W3 := hW.below hbp
    have C3 := hC.below hbp
    have B3 := Box.new w2 [.slice a1 X.nodes.length X.nodes.length, .slice a2 X.nodes.length X.nodes.length] 27
    have hb3 := below_step hb2 hbp
    obtain ⟨w3, HW3⟩ : ∃ W, Hid (w2.alloc (.cells #[.slice a1 X.nodes.length X.nodes.length, .slice a2 X.nodes.length X.nodes.length] 27) = W) := ⟨_, rfl⟩
    rw [HW3.out] at W3 C3 B3 hb3
    have HB3 := hide (below_step HB1.out hb3)
    have L3 := hide (L1.out.below hb3 (nlr _))
    have HWO := hide W3
    have HCO := hide C3
    have HBX := hide B3
    clear hW hC hbp W3 C3 B3 hb3 hb2 HB1 L1
    go_wp2_with fail
    go_ret
    rw [HW3.out]
    exact ⟨rfl, HB3.out⟩
   ·have hl20 : l.length ≤ 20 := by omega
    have hk3 : k ≤ 3 := by omega
    obtain ⟨i0, hi, hz0, hz1, hz2⟩ := info_parts Tryz.infoDo
    have hfew := few_all hk1 hk6 l
    obtain ⟨F, HF⟩ : ∃ F : Nat → Nat → Nat, Hid (∀ a b : Nat, a < k → b < k → F a b = (wayAt X a b).length ∧ F a b ≤ 20) := ⟨fun a b => (wayAt X a b).length, fun a b ha hb => ⟨rfl, by rw [HXR.out]; exact hfew a b (by rw [runX_len, begin_len]; exact ha) (by rw [runX_len, begin_len]; exact hb)⟩⟩
    clear hfew
    have HF20 : Hid (∀ a b : Nat, a < k → b < k → F a b ≤ 20) := fun a b ha hb => (HF.out a b ha hb).2
    go_enter Tryz.func3, Tryz.ntmps3
    go_wp2_with fail
    refine (alive7 _).mono ?_
    rintro e w1 ⟨rfl, hb1⟩
    have HB1 := hide (below_step HB0.out hb1)
    have L1 := hide (L0.out.below hb1 (nlr _))
    clear hb1 HB0 L0
    go_wp2_with fail
    refine (play_w k _ l _ L1.out).mono ?_
    rintro e w2 ⟨wv, cv, rfl, hW, hC, hb2⟩
    rw [HE.out]
    rw [HX.out] at hW
    rw [HC.out] at hC
    obtain ⟨a1, a2, hwv, hx6⟩ := hW.form
    subst hwv
    obtain ⟨ca, cc, hcv⟩ := hC.form
    subst hcv
    have hbp := bpl w2 (.cells #[.slice a1 X.nodes.length X.nodes.length, .slice a2 X.nodes.length X.nodes.length] 27)
    have W3 := hW.below hbp
    have C3 := hC.below hbp
    have B3 := Box.new w2 [.slice a1 X.nodes.length X.nodes.length, .slice a2 X.nodes.length X.nodes.length] 27
    have hb3 := below_step hb2 hbp
    obtain ⟨w3, HW3⟩ : ∃ W, Hid (w2.alloc (.cells #[.slice a1 X.nodes.length X.nodes.length, .slice a2 X.nodes.length X.nodes.length] 27) = W) := ⟨_, rfl⟩
    rw [HW3.out] at W3 C3 B3 hb3
    have HB3 := hide (below_step HB1.out hb3)
    have L3 := hide (L1.out.below hb3 (nlr _))
    have HWO := hide W3
    have HCO := hide C3
    have HBX := hide B3
    clear hW hC hbp W3 C3 B3 hb3 hb2 HB1 L1
    obtain ⟨ps, hpl, hps, hsl⟩ := L3.out.pairs
    have hplen : ps.length = l.length := by rw [← hpl, List.length_map]
    have HPLEN := hide hplen
    have hbe := bpl w3 (.cells #[] 39)
    have SR := hide (SliceV.src (P := Tryz.prog) (enc := encQ) (sz := 8) (fun _ => rfl) encQ_one (hsl.below hbe (nlr _)) Tryz.underlying22)
    have OE : Hid ((w3.alloc (.cells #[] 39)).ownsRow w3.heap.size 39 8 (.slice (some ⟨w3.heap.size, 0, none⟩) 0 0) 0 []) := ⟨rfl, .inr ⟨w3.heap.size, 0, #[], rfl, nlr _, heap_alloc_new w3 _, nlr _, by unfold maxLen; omega, rfl, rfl⟩⟩
    have HPL := hide hpl
    have HPS := hide hps
    clear hplen hpl hps hsl
    go_upto_region 4 with fail
    rw [HW3.out]
    go_wp2_with (at_builtin; refine wpList_append_own_srcW _ rfl (.tmp 40) (.tmp 41) 22 22 rfl w3.heap.size 39 i0 (.agg #[.int .i64 0, .int .i64 0, .int .i64 0, .int .i64 0, .slice none 0 0, .int .i64 0, .int .i64 0, .int .i64 0]) 8 80 Tryz.underlying22 hi hz0 hz1 hz2 rfl _ _ _ rfl OE.out _ rfl _ _ SR.out ?c3 ?c4 ?c5 ?_)
    case c3 => unfold maxLen; have := HPLEN.out; omega
    case c4 => have := HPLEN.out; omega
    case c5 => simp
    intro v' w4 hown' hgrow
    have O4 : Hid (OwnD (Row w3) w4 w3.heap.size v' (ps.map toV)) := by
     refine ⟨?_, fun p hp => ?_⟩
     ·rw [cells_toV, List.length_map]
      exact hown'
     ·obtain ⟨q, hq, rfl⟩ := List.mem_map.1 hp
      exact HPS.out q hq
    have HB4 : Hid (Below w3.heap.size w3 w4) := (((Below.refl w3.heap.size w3).alloc (nlr _) _).grown hgrow (by simp) (fun g hg => (World.ownsRow.lt OE.out g hg).1))
    have HQ4 : Hid ((ps.map toV).map (·.1) = l) := by unfold Hid; rw [List.map_map]; exact HPL.out
    obtain ⟨qs0, HQ0⟩ : ∃ qs, Hid (ps.map toV = qs) := ⟨_, rfl⟩
    rw [HQ0.out] at O4 HQ4
    clear hown' hgrow SR OE hbe HPS HPL
    go_wp2_with fail
    go_loopw [8, 44] (fun o q wr => ∃ (a : Nat) (qs : List (DoS × Value)), a ≤ k ∧ q = .int .i64 a ∧ Hid (qs.map (·.1) = l ++ dropRows F k a) ∧ Hid (OwnD (Row w3) wr w3.heap.size o qs) ∧ Hid (Below w3.heap.size w3 wr)) (fun _ q _ => k - (intOf q).toNat)
    case atStart => exact ⟨0, qs0, Nat.zero_le _, rfl, hide (by rw [HQ4.out]; simp [dropRows]), O4, HB4⟩
    case round =>
     obtain ⟨a, qs, ha, rfl, HQ, O5, HB5⟩ := hrel
     obtain ⟨w5, rfl⟩ : ∃ w5, w5 = wr := ⟨wr, rfl⟩
     clear O4 HB4
     by_cases hlt : a < k
     ·have hlt' : (a : Int) < (k : Int) := by omega
      go_wp2_with fail
      go_loopw [8, 48] (fun o q wr => ∃ (b : Nat) (qs : List (DoS × Value)), b ≤ k ∧ q = .int .i64 b ∧ Hid (qs.map (·.1) = l ++ dropRows F k a ++ dropRow F a b) ∧ Hid (OwnD (Row w3) wr w3.heap.size o qs) ∧ Hid (Below w3.heap.size w3 wr)) (fun _ q _ => k - (intOf q).toNat)
      case atStart => exact ⟨0, qs, Nat.zero_le _, rfl, hide (by rw [HQ.out]; simp [dropRow]), O5, HB5⟩
      case round =>
       obtain ⟨b, qs, hb, rfl, HQ, O6, HB6⟩ := hrel
       obtain ⟨w6, rfl⟩ : ∃ w6, w6 = wr := ⟨wr, rfl⟩
       clear O5 HB5
       by_cases hbt : b < k
       ·have hbt' : (b : Int) < (k : Int) := by omega
        obtain ⟨gw, gr, av, ac, hga, y1, y2⟩ := (HWO.out.below HB6.out).way (a := a) (b := b) (by rw [HXN.out]; exact hlt) (by rw [HXN.out]; exact hbt)
        subst hga
        obtain ⟨G, HG⟩ : ∃ G, Hid (F a b = G) := ⟨_, rfl⟩
        rw [← (HF.out a b hlt hbt).1, HG.out] at y2
        have hG20 : G ≤ 20 := by rw [← HG.out]; exact HF20.out a b hlt hbt
        have hax : (a : Int) < (X.nodes.length : Int) := by rw [HXN.out]; omega
        have hbx : (b : Int) < (X.nodes.length : Int) := by rw [HXN.out]; omega
        have ha0 : ¬ (a : Int) < 0 := by omega
        have hb0 : ¬ (b : Int) < 0 := by omega
        have y0 := (HBX.out.below HB6.out (nlr _)).get 1 rfl
        have HLEN : Hid (qs.length ≤ 300) := by
         have h1 := congrArg List.length HQ.out
         rw [List.length_append, List.length_append, List.length_map] at h1
         have h2 := dropRows_len hk3 HF20.out a (by omega)
         have h3 := dropRow_len hlt HF20.out b (by omega)
         unfold Hid
         omega
        go_wp2_with fail
        clear y0 y1 y2
        go_loopw [8, 60] (fun o q wr => ∃ (c : Nat) (rs : List (DoS × Value)), c ≤ G ∧ q = .int .i64 c ∧ Hid (rs.map (·.1) = l ++ dropRows F k a ++ dropRow F a b ++ List.replicate c (dropD a b)) ∧ Hid (rs.length = qs.length + c) ∧ Hid (OwnD (Row w3) wr w3.heap.size o rs) ∧ Hid (Below w3.heap.size w3 wr)) (fun _ q _ => G - (intOf q).toNat)
        case atStart => exact ⟨0, qs, Nat.zero_le _, rfl, hide (by rw [HQ.out]; simp), rfl, O6, HB6⟩
        case round =>
         obtain ⟨c, rs, hc, rfl, HR, HRL, O7, HB7⟩ := hrel
         obtain ⟨w7, rfl⟩ : ∃ w7, w7 = wr := ⟨wr, rfl⟩
         clear O6 HB6
         by_cases hct : c < G
         ·have hct' : (c : Int) < (G : Int) := by omega
          go_wp2_with fail
          refine (do7_fn _ _ _ _).mono ?_
          rintro e w8 ⟨rfl, hb8⟩
          have O8 := hide (O7.out.step hb8 (nlr _))
          have HB8 := hide (HB7.out.trans (hb8.mono HB7.out.size))
          clear hb8 O7 HB7
          have HSB := hide HB8.out.size
          go_wp2_with (at_builtin; refine wpList_append_own _ rfl (.tmp 62) (.tmp 66) 22 rfl w3.heap.size 39 i0 (.agg #[.int .i64 0, .int .i64 0, .int .i64 0, .int .i64 0, .slice none 0 0, .int .i64 0, .int .i64 0, .int .i64 0]) 8 80 Tryz.underlying22 hi hz0 hz1 hz2 rfl (by decide) _ _ _ rfl ((O8.out.step ((Below.refl w8.heap.size w8).alloc (nlr _) _) (nlr _)).1) ⟨w8.heap.size, 0, none⟩ 1 1 (cells8 (dropD a b) (.slice none 0 0)) rfl rfl ?c1 ?c2 ?c3 ?c4 ?c5 ?_)
          case c1 => exact alloc_cellsD w8 (cells8 (dropD a b) (.slice none 0 0)) 39
          case c2 => exact cells8s_one [(dropD a b, .slice none 0 0)] (by intro p hp; simp only [List.mem_cons, List.not_mem_nil, or_false] at hp; rcases hp with rfl; rfl)
          case c3 => unfold maxLen; have := (show rs.length ≤ 1000 by rw [HRL.out]; have := HLEN.out; omega); omega
          case c4 => have := (show rs.length ≤ 1000 by rw [HRL.out]; have := HLEN.out; omega); omega
          case c5 => have := HSB.out; simp; omega
          intro v' w9 hown' hgrow _
          have HB9 := hide (HB8.out.trans (((Below.refl w3.heap.size w8).alloc HSB.out _).grown hgrow (by have := HSB.out; simp; omega) (fun g hg => (World.ownsRow.lt O8.out.1 g hg).1)))
          have KK : Hid (Keeps [39] w8 w9) := (Keeps.below ((Below.refl w8.heap.size w8).alloc (nlr _) _)).trans (keepsD (O8.out.step ((Below.refl w8.heap.size w8).alloc (nlr _) _) (nlr _)) hgrow)
          have O9 := hide (OwnD.snoc (u := dropD a b) O8.out.2 (Row.nil w3) hown')
          clear hown' hgrow HSB O8 HB8
          go_wp2_with fail
          go_roundw
          case rel => exact ⟨c + 1, _, by omega, by go_num, hide (by rw [List.map_append, HR.out, List.replicate_succ', ← List.append_assoc]; rfl), hide (by rw [List.length_append, HRL.out]; rfl), O9, HB9⟩
          case measure => simp [intOf]; omega
         ·have hct' : ¬ (c : Int) < (G : Int) := by omega
          obtain rfl : c = G := by omega
          have HT := hide (dropRow_succ F a b)
          rw [HG.out] at HT
          go_wp2_with fail
          go_roundw
          case rel => exact ⟨b + 1, rs, by omega, by go_num, hide (by rw [HT.out, ← List.append_assoc]; exact HR.out), O7, HB7⟩
          case measure => simp [intOf]; omega
       ·have hbt' : ¬ (b : Int) < (k : Int) := by omega
        obtain rfl : b = k := by omega
        have HT := hide (dropRows_succ F b a)
        go_wp2_with fail
        go_roundw
        case rel => exact ⟨a + 1, qs, by omega, by go_num, hide (by rw [HT.out, ← List.append_assoc]; exact HQ.out), O6, HB6⟩
        case measure => simp [intOf]; omega
     ·have hlt' : ¬ (a : Int) < (k : Int) := by omega
      obtain rfl : a = k := by omega
      have HLEN : Hid (qs.length ≤ 300) := by
       have h1 := congrArg List.length HQ.out
       rw [List.length_append, List.length_map] at h1
       have h2 := dropRows_len hk3 HF20.out a (nlr _)
       unfold Hid
       omega
      have HAP : Hid ((tellsL (allPs a)).length ≤ 2 * a * a) := by
       have h1 := rowsA_len a a
       unfold Hid
       rw [tellsL_len, allPs_rows, Nat.mul_assoc]
       omega
      have HAA : Hid (2 * a * a ≤ 18) := by
       have : a * a ≤ 3 * 3 := Nat.mul_le_mul hk3 hk3
       unfold Hid
       rw [Nat.mul_assoc]
       omega
      have HR0 := hide (Row.nil w3)
      go_wp2_with fail
      refine (round_w (Row w3) HR0.out a hk6 _ qs w3.heap.size _ (Nat.le_trans HLEN.out (by decide)) HB5.out.size O5.out).mono ?_
      rintro e w6 ⟨v6, rfl, qs6, hq6, hO6, hb6, -⟩
      have O6 := hide hO6
      have HQ6 := hide hq6
      have HB6 := hide (HB5.out.trans hb6)
      have HL6 : Hid (qs6.length ≤ 400) := by
       have h1 := congrArg List.length HQ6.out
       rw [List.length_append, List.length_map, List.length_map] at h1
       have h2 := HLEN.out
       have h3 := HAP.out
       have h4 := HAA.out
       unfold Hid
       omega
      clear hO6 hq6 hb6 O5 HB5
      go_wp2_with fail
      refine (round_w (Row w3) HR0.out a hk6 _ qs6 w3.heap.size _ (Nat.le_trans HL6.out (by decide)) HB6.out.size O6.out).mono ?_
      rintro e w7 ⟨v7, rfl, qs7, hq7, hO7, hb7, -⟩
      obtain ⟨M, HM⟩ : ∃ M, Hid (l ++ dropsL F (pairsL a) ++ tellsL (allPs a) ++ tellsL (allPs a) = M) := ⟨_, rfl⟩
      have HQ7 : Hid (qs7.map (·.1) = M) := by unfold Hid; rw [hq7, HQ6.out, HQ.out, dropRows_all, HM.out]
      have O7 := hide hO7
      have HB7 := hide (HB6.out.trans hb7)
      have HML : Hid (qs7.length = M.length) := by have h1 := congrArg List.length HQ7.out; rw [List.length_map] at h1; exact h1
      obtain ⟨ma, mc, hmv⟩ := O7.out.form
      subst hmv
      clear hO7 hq7 hb7 O6 HB6
      have hkkc : ((2 * a * a : Nat) : Int) = 2 * (a : Int) * (a : Int) := by simp
      have hkk0 : 0 ≤ 2 * (a : Int) * (a : Int) := by rw [← hkkc]; omega
      have hkk1 : 2 * (a : Int) * (a : Int) ≤ 18 := by rw [← hkkc]; have := HAA.out; omega
      clear hkkc
      have hq800 : qs7.length ≤ 1000 := by
       have h1 := HML.out
       rw [← HM.out, List.length_append, List.length_append, List.length_append, ← dropRows_all] at h1
       have h2 := dropRows_len hk3 HF20.out a (nlr _)
       have h3 := HAP.out
       have h4 := HAA.out
       omega
      by_cases hlen : 150 - 2 * (a : Int) * (a : Int) - (a : Int) < (qs7.length : Int)
      ·have HBr := hide (below_step HB3.out HB7.out)
       go_wp2_with fail
       go_ret
       exact ⟨rfl, HBr.out⟩
      ·have HM150 : Hid (M.length + (2 * a * a) + a ≤ 150) := by
        unfold Hid
        rw [← HML.out]
        have h1 : ((2 * a * a : Nat) : Int) = 2 * (a : Int) * (a : Int) := by simp
        omega
       obtain ⟨hE2, hX2, -⟩ := playWE_ok hk1 hk6 (l := M) (by have := HM150.out; omega)
       obtain ⟨Y, HY⟩ : ∃ Y, Hid (playWX a M = Y) := ⟨_, rfl⟩
       obtain ⟨D, HD⟩ : ∃ D, Hid (playWC a M = D) := ⟨_, rfl⟩
       have HYR : Hid (Y = runX (beginW a) M) := by unfold Hid; rw [← HY.out]; exact hX2
       have HYN : Hid (Y.nodes.length = a) := by unfold Hid; rw [HYR.out, runX_len, begin_len]
       have HE2 := hide hE2
       clear hE2 hX2
       have DV7 := hide (O7.out.dos (fun sv xs hr => hr.below HB7.out (nlr _)))
       rw [HQ7.out] at DV7
       go_wp2_with fail
       refine (play_w a _ M _ DV7.out).mono ?_
       rintro e w8 ⟨yv, dv, rfl, hW, hC, hb8⟩
       rw [HE2.out]
       clear hlen
       rw [HY.out] at hW
       rw [HD.out] at hC
       obtain ⟨e1, e2, hyv, hy6⟩ := hW.form
       subst hyv
       obtain ⟨da, dc, hdv⟩ := hC.form
       subst hdv
       have hbp := bpl w8 (.cells #[.slice e1 Y.nodes.length Y.nodes.length, .slice e2 Y.nodes.length Y.nodes.length] 27)
       have B9 := Box.new w8 [.slice e1 Y.nodes.length Y.nodes.length, .slice e2 Y.nodes.length Y.nodes.length] 27
       have Y9 := hW.below hbp
       have hb9 := below_step hb8 hbp
       have P9 := O7.out.step hb9 (nlr _)
       obtain ⟨w9, HW9⟩ : ∃ W, Hid (w8.alloc (.cells #[.slice e1 Y.nodes.length Y.nodes.length, .slice e2 Y.nodes.length Y.nodes.length] 27) = W) := ⟨_, rfl⟩
       rw [HW9.out] at B9 Y9 hb9 P9
       have HB9 := hide (HB7.out.trans (hb9.mono HB7.out.size))
       have O9 := hide P9
       have HY9 := hide Y9
       have E9 := hide B9
       clear hW hC hbp B9 Y9 hb9 hb8 P9 O7 HB7 DV7
       have y0 := E9.out.get 0 rfl
       go_upto_region 23 with fail
       rw [HW9.out]
       go_wp2_with fail
       clear y0
       go_loopw [98] (fun q wr => ∃ i : Nat, i ≤ Y.nodes.length ∧ q = .int .i64 i ∧ Hid (Below w9.heap.size w9 wr)) (fun q _ => Y.nodes.length - (intOf q).toNat)
       case atStart => exact ⟨0, Nat.zero_le _, rfl, hide (Below.refl _ _)⟩
       case round =>
        obtain ⟨i, hiy, rfl, HBi⟩ := hrel
        obtain ⟨w10, rfl⟩ : ∃ w10, w10 = wr := ⟨wr, rfl⟩
        by_cases hltY : i < Y.nodes.length
        ·have hltY' : (i : Int) < (Y.nodes.length : Int) := by omega
         have h0Y : 0 < Y.nodes.length := by omega
         have h0Y' : (0 : Int) < (Y.nodes.length : Int) := by omega
         obtain ⟨d, HDD⟩ : ∃ d, Hid (Y.nodes.getD i noNode = d) := ⟨_, rfl⟩
         obtain ⟨f, HFF⟩ : ∃ f, Hid (Y.nodes.getD 0 noNode = f) := ⟨_, rfl⟩
         have HST : Hid (f.st = d.st) := by
          unfold Hid
          rw [← HDD.out, ← HFF.out, HYR.out]
          exact (settles hk1 hk6 hl150 (fun a' b' h h' => by rw [← HXR.out]; exact (HF.out a' b' h h').1) HM.out.symm (by have := HYN.out; omega)).1.symm
         obtain ⟨gn, ba1, bc1, ba2, bc2, ba3, bc3, ba4, bc4, ba5, bc5, ba6, bc6, hga, hno, q0, q1, q2, q3, q4, q5, q6⟩ := (HY9.out.below HBi.out).at (getD_some (z := noNode) hltY)
         obtain ⟨gm, ca1, cc1, ca2, cc2, ca3, cc3, ca4, cc4, ca5, cc5, ca6, cc6, hgb, hnf, r0, r1, r2, r3, r4, r5, r6⟩ := (HY9.out.below HBi.out).at (getD_some (z := noNode) h0Y)
         rw [HDD.out] at hno q0 q1 q2 q3 q4 q5 q6
         rw [HFF.out] at hnf r0 r1 r2 r3 r4 r5 r6
         subst hga
         simp only [Option.some.injEq, Addr.mk.injEq, and_true] at hgb
         subst hgb
         simp only [Nat.zero_mul, Nat.zero_add] at r1 r2 r3
         have hbp := bpl w10 (.cells #[.int .i64 d.self, .slice ba1 d.st.clock.length bc1, .slice ba2 d.st.lives.length bc2, .slice ba3 d.st.tals.length bc3, .slice ba4 d.base.length bc4, .slice ba5 d.log.length bc5, .slice ba6 d.known.length bc6] 49)
         have A11 := Box.new w10 [.int .i64 d.self, .slice ba1 d.st.clock.length bc1, .slice ba2 d.st.lives.length bc2, .slice ba3 d.st.tals.length bc3, .slice ba4 d.base.length bc4, .slice ba5 d.log.length bc5, .slice ba6 d.known.length bc6] 49
         have N11 := hide (hno.clk.2.2.1.below hbp (nlr _))
         have M11 := hide ((st_cast hnf.clk.2.2.1 HST.out).below hbp (nlr _))
         have s1 := cell_grewW hbp r1
         have s2 := cell_grewW hbp r2
         have s3 := cell_grewW hbp r3
         have E11 := hide ((E9.out.below HBi.out (nlr _)).below hbp (nlr _))
         obtain ⟨w11, HW11⟩ : ∃ W, Hid (w10.alloc (.cells #[.int .i64 d.self, .slice ba1 d.st.clock.length bc1, .slice ba2 d.st.lives.length bc2, .slice ba3 d.st.tals.length bc3, .slice ba4 d.base.length bc4, .slice ba5 d.log.length bc5, .slice ba6 d.known.length bc6] 49) = W) := ⟨_, rfl⟩
         rw [HW11.out] at hbp A11 N11 M11 E11 s1 s2 s3
         have HB11 := hide (below_step HBi.out hbp)
         have HA11 := hide A11
         have HK : Hid (∀ w', Grew w11 w' → w'.cell? ⟨w8.heap.size, 0, none⟩ = some (.slice (some ⟨gn, 0, none⟩) Y.nodes.length Y.nodes.length) ∧ w'.cell? ⟨w10.heap.size, 1, none⟩ = some (.slice ba1 d.st.clock.length bc1) ∧ w'.cell? ⟨w10.heap.size, 2, none⟩ = some (.slice ba2 d.st.lives.length bc2) ∧ w'.cell? ⟨w10.heap.size, 3, none⟩ = some (.slice ba3 d.st.tals.length bc3) ∧ w'.cell? ⟨gn, 1, none⟩ = some (.slice ca1 f.st.clock.length cc1) ∧ w'.cell? ⟨gn, 2, none⟩ = some (.slice ca2 f.st.lives.length cc2) ∧ w'.cell? ⟨gn, 3, none⟩ = some (.slice ca3 f.st.tals.length cc3)) := fun w' hg => ⟨(E11.out.below hg (nlr _)).get 0 rfl, (HA11.out.below hg (nlr _)).get 1 rfl, (HA11.out.below hg (nlr _)).get 2 rfl, (HA11.out.below hg (nlr _)).get 3 rfl, cell_grewW hg s1, cell_grewW hg s2, cell_grewW hg s3⟩
         clear hno hnf hbp A11 s1 s2 s3 r0 r1 r2 r3 r4 r5 r6
         go_upto_region 28 with fail
         rw [HW11.out]
         clear q0 q1 q2 q3 q4 q5 q6
         go_cut [110] (fun c wx => c = .bool false ∧ Hid (Grew w11 wx))
         case first =>
          refine wp_region_held_drew (S := fun w' => w'.cell? ⟨w8.heap.size, 0, none⟩ = some (.slice (some ⟨gn, 0, none⟩) Y.nodes.length Y.nodes.length) ∧ w'.cell? ⟨w10.heap.size, 1, none⟩ = some (.slice ba1 d.st.clock.length bc1) ∧ w'.cell? ⟨w10.heap.size, 2, none⟩ = some (.slice ba2 d.st.lives.length bc2) ∧ w'.cell? ⟨w10.heap.size, 3, none⟩ = some (.slice ba3 d.st.tals.length bc3) ∧ w'.cell? ⟨gn, 1, none⟩ = some (.slice ca1 f.st.clock.length cc1) ∧ w'.cell? ⟨gn, 2, none⟩ = some (.slice ca2 f.st.lives.length cc2) ∧ w'.cell? ⟨gn, 3, none⟩ = some (.slice ca3 f.st.tals.length cc3)) (by kernel_rfl) (HK.out _ (grew_drew (grew_refl _))) (fun hHeld => ?_)
          obtain ⟨wd, HWD⟩ : ∃ wd, Hid (w11.drew = wd) := ⟨_, rfl⟩
          have hgd : Grew w11 wd := by rw [← HWD.out]; exact grew_drew (grew_refl w11)
          rw [HWD.out] at hHeld ⊢
          refine ty 0 102 (.pointer (some ⟨w10.heap.size, 1, none⟩)) rfl rfl (by kernel_rfl) (fun _ _ _ h => h) rfl (by intro w hSw; (try dsimp only at hSw); go_simp) (by assumption) ?_
          simp only [Act.put, put1, put2, put3]
          refine ty 1 103 (.agg #[.slice ba1 d.st.clock.length bc1, .slice ba2 d.st.lives.length bc2, .slice ba3 d.st.tals.length bc3]) rfl rfl (by kernel_rfl) (fun _ _ _ h => h) rfl (by intro w hSw; (try dsimp only at hSw); go_simp) (by assumption) ?_
          simp only [Act.put, put1, put2, put3]
          refine ty 2 104 (.pointer (some ⟨w8.heap.size, 0, none⟩)) rfl rfl (by kernel_rfl) (fun _ _ _ h => h) rfl (by intro w hSw; (try dsimp only at hSw); go_simp) (by assumption) ?_
          simp only [Act.put, put1, put2, put3]
          refine ty 3 105 (.slice (some ⟨gn, 0, none⟩) Y.nodes.length Y.nodes.length) rfl rfl (by kernel_rfl) (fun _ _ _ h => h) rfl (by intro w hSw; (try dsimp only at hSw); go_simp) (by assumption) ?_
          simp only [Act.put, put1, put2, put3]
          refine ty 4 106 (.pointer (some ⟨gn, 0, none⟩)) rfl rfl (by kernel_rfl) (fun _ _ _ h => h) rfl (by intro w hSw; (try dsimp only at hSw); go_simp) (by assumption) ?_
          simp only [Act.put, put1, put2, put3]
          refine ty 5 107 (.pointer (some ⟨gn, 1, none⟩)) rfl rfl (by kernel_rfl) (fun _ _ _ h => h) rfl (by intro w hSw; (try dsimp only at hSw); go_simp) (by assumption) ?_
          simp only [Act.put, put1, put2, put3]
          refine ty 6 108 (.agg #[.slice ca1 f.st.clock.length cc1, .slice ca2 f.st.lives.length cc2, .slice ca3 f.st.tals.length cc3]) rfl rfl (by kernel_rfl) (fun _ _ _ h => h) rfl (by intro w hSw; (try dsimp only at hSw); go_simp) (by assumption) ?_
          simp only [Act.put, put1, put2, put3]
          refine wpAnyH_ready (rs := [7]) (by kernel_rfl) (by simp) ?_
          refine (rd1 rfl (fun K hK => ?_))
          go_simp
          refine (same_st _ _ d.st _ (N11.out.below hgd (nlr _)) (M11.out.below hgd (nlr _))).mono ?_
          rintro e w_7 ⟨rfl, hb_7⟩
          have hg_7 : Grew w11 w_7 := grew_step hgd hb_7
          refine hK.out _ _ (HK.out _ hg_7) (fun _ => ?_)
          clear hK K
          try simp only [Act.put, put1, put2, put3]
          refine ty 8 110 (.bool false) rfl rfl (by kernel_rfl) (fun _ _ _ h => h) rfl (by intro w hSw; (try dsimp only at hSw); go_simp) (by assumption) ?_
          simp only [Act.put, put1, put2, put3]
          refine wpAnyH_done (by kernel_rfl) ?_ _
          go_wp2_with fail
          go_meet
          exact ⟨rfl, hg_7⟩
         case rest =>
          obtain ⟨rfl, HGR⟩ := hcut
          obtain ⟨w12, rfl⟩ : ∃ w12, w12 = wc := ⟨wc, rfl⟩
          have HB12 := hide (below_step HB11.out HGR.out)
          go_wp2_with fail
          go_roundw
          case rel => exact ⟨i + 1, by omega, by go_num, HB12⟩
          case measure => simp [intOf]; omega
        ·have hltY' : ¬ (i : Int) < (Y.nodes.length : Int) := by omega
         have O10 := hide (O9.out.step HBi.out (nlr _))
         have HB10 := hide (HB9.out.trans (HBi.out.mono HB9.out.size))
         have Y10 := hide (HY9.out.below HBi.out)
         have E10 := hide (E9.out.below HBi.out (nlr _))
         clear O9 HB9 HY9 E9 HBi
         go_wp2_with fail
         refine (round_w (Row w3) HR0.out a hk6 _ qs7 w3.heap.size _ hq800 HB10.out.size O10.out).mono ?_
         rintro e w11 ⟨v11, rfl, qs11, hq11, hO11, hb11, hk11⟩
         have O11 := hide hO11
         have HQ11 : Hid (qs11.map (·.1) = M ++ tellsL (allPs a)) := by unfold Hid; rw [hq11, HQ7.out]
         have HB11 := hide (HB10.out.trans hb11)
         have Y11 := hide (Y10.out.keptD hk11)
         have E11 := hide (hk11.box E10.out (by decide))
         clear hO11 hq11 hb11 hk11 O10 HB10 Y10 E10
         go_wp2_with fail
         go_loopw [8, 116] (fun o q wr => ∃ (b : Nat) (qs : List (DoS × Value)), b ≤ a ∧ q = .int .i64 b ∧ Hid (qs.map (·.1) = M ++ tellsL (allPs a) ++ (List.range b).map pruneD) ∧ Hid (OwnD (Row w3) wr w3.heap.size o qs) ∧ Hid (Below w3.heap.size w3 wr) ∧ Hid (Keeps [39] w11 wr)) (fun _ q _ => a - (intOf q).toNat)
         case atStart => exact ⟨0, qs11, Nat.zero_le _, rfl, hide (by rw [HQ11.out]; simp), O11, HB11, hide (Keeps.refl _ _)⟩
         case round =>
          obtain ⟨b, rs, hb, rfl, HQ12, O12, HB12, KP12⟩ := hrel
          obtain ⟨w12, rfl⟩ : ∃ w12, w12 = wr := ⟨wr, rfl⟩
          have HRL : Hid (rs.length = M.length + (tellsL (allPs a)).length + b) := by have h1 := congrArg List.length HQ12.out; rw [List.length_append, List.length_append, List.length_map, List.length_map, List.length_range] at h1; exact h1
          by_cases hbt : b < a
          ·have hbt' : (b : Int) < (a : Int) := by omega
           go_wp2_with fail
           refine (do7_fn _ _ _ _).mono ?_
           rintro e w13 ⟨rfl, hb13⟩
           have O13 := hide (O12.out.step hb13 (nlr _))
           have HB13 := hide (HB12.out.trans (hb13.mono HB12.out.size))
           have KP13 : Hid (Keeps [39] w11 w13) := KP12.out.trans (Keeps.below hb13)
           clear hb13 O12 HB12
           have HSB := hide HB13.out.size
           go_wp2_with (at_builtin; refine wpList_append_own _ rfl (.tmp 119) (.tmp 122) 22 rfl w3.heap.size 39 i0 (.agg #[.int .i64 0, .int .i64 0, .int .i64 0, .int .i64 0, .slice none 0 0, .int .i64 0, .int .i64 0, .int .i64 0]) 8 80 Tryz.underlying22 hi hz0 hz1 hz2 rfl (by decide) _ _ _ rfl ((O13.out.step ((Below.refl w13.heap.size w13).alloc (nlr _) _) (nlr _)).1) ⟨w13.heap.size, 0, none⟩ 1 1 (cells8 (pruneD b) (.slice none 0 0)) rfl rfl ?c1 ?c2 ?c3 ?c4 ?c5 ?_)
           case c1 => exact alloc_cellsD w13 (cells8 (pruneD b) (.slice none 0 0)) 39
           case c2 => exact cells8s_one [(pruneD b, .slice none 0 0)] (by intro p hp; simp only [List.mem_cons, List.not_mem_nil, or_false] at hp; rcases hp with rfl; rfl)
           case c3 => unfold maxLen; have := (show rs.length ≤ 1000 by rw [HRL.out]; have := HM150.out; have := HAP.out; omega); omega
           case c4 => have := (show rs.length ≤ 1000 by rw [HRL.out]; have := HM150.out; have := HAP.out; omega); omega
           case c5 => have := HSB.out; simp; omega
           intro v' w14 hown' hgrow _
           have HB14 := hide (HB13.out.trans (((Below.refl w3.heap.size w13).alloc HSB.out _).grown hgrow (by have := HSB.out; simp; omega) (fun g hg => (World.ownsRow.lt O13.out.1 g hg).1)))
           have KK : Hid (Keeps [39] w13 w14) := (Keeps.below ((Below.refl w13.heap.size w13).alloc (nlr _) _)).trans (keepsD (O13.out.step ((Below.refl w13.heap.size w13).alloc (nlr _) _) (nlr _)) hgrow)
           have O14 := hide (OwnD.snoc (u := pruneD b) O13.out.2 (Row.nil w3) hown')
           clear hown' hgrow HSB O13 HB13
           have KP14 : Hid (Keeps [39] w11 w14) := KP13.out.trans KK.out
           go_wp2_with fail
           go_roundw
           case rel => exact ⟨b + 1, _, by omega, by go_num, hide (by rw [List.map_append, HQ12.out, List.range_succ, List.map_append, ← List.append_assoc]; rfl), O14, HB14, KP14⟩
           case measure => simp [intOf]; omega
          ·have hbt' : ¬ (b : Int) < (a : Int) := by omega
           obtain rfl : b = a := by omega
           obtain ⟨N, HN⟩ : ∃ N, Hid (M ++ tellsL (allPs b) ++ (List.range b).map pruneD = N) := ⟨_, rfl⟩
           rw [HN.out] at HQ12
           have HN150 : Hid (N.length ≤ 150) := by unfold Hid; rw [← HN.out, List.length_append, List.length_append, List.length_map, List.length_range]; have := HM150.out; have := HAP.out; omega
           obtain ⟨hE3, hX3, -⟩ := playWE_ok hk1 hk6 (l := N) HN150.out
           obtain ⟨Z, HZ⟩ : ∃ Z, Hid (playWX b N = Z) := ⟨_, rfl⟩
           obtain ⟨D3, HD3⟩ : ∃ D, Hid (playWC b N = D) := ⟨_, rfl⟩
           have HZR : Hid (Z = runX (beginW b) N) := by unfold Hid; rw [← HZ.out]; exact hX3
           have HZN : Hid (Z.nodes.length = b) := by unfold Hid; rw [HZR.out, runX_len, begin_len]
           have HE3 := hide hE3
           clear hE3 hX3
           have Y12 := hide (Y11.out.keptD KP12.out)
           have E12 := hide (KP12.out.box E11.out (by decide))
           clear Y11 E11 O11 HB11
           have DV12 := hide (O12.out.dos (fun sv xs hr => hr.below HB12.out (nlr _)))
           rw [HQ12.out] at DV12
           go_wp2_with fail
           refine (play_w b _ N _ DV12.out).mono ?_
           rintro e w13 ⟨zv, dv, rfl, hW, hC, hb13⟩
           rw [HE3.out]
           rw [HZ.out] at hW
           rw [HD3.out] at hC
           obtain ⟨f1, f2, hzv, hz6⟩ := hW.form
           subst hzv
           obtain ⟨fa, fc, hdv⟩ := hC.form
           subst hdv
           have hbp := bpl w13 (.cells #[.slice f1 Z.nodes.length Z.nodes.length, .slice f2 Z.nodes.length Z.nodes.length] 27)
           have B14 := Box.new w13 [.slice f1 Z.nodes.length Z.nodes.length, .slice f2 Z.nodes.length Z.nodes.length] 27
           have Z14 := hW.below hbp
           have hb14 := below_step hb13 hbp
           have Y14 := hide (Y12.out.below hb14)
           have E14 := hide (E12.out.below hb14 (nlr _))
           obtain ⟨w14, HW14⟩ : ∃ W, Hid (w13.alloc (.cells #[.slice f1 Z.nodes.length Z.nodes.length, .slice f2 Z.nodes.length Z.nodes.length] 27) = W) := ⟨_, rfl⟩
           rw [HW14.out] at B14 Z14 hb14 Y14 E14
           have HB14 := hide (HB12.out.trans (hb14.mono HB12.out.size))
           have HZ14 := hide Z14
           have G14 := hide B14
           clear hW hC hbp B14 Z14 hb14 hb13 O12 HB12 DV12 Y12 E12
           have y0 := G14.out.get 0 rfl
           go_upto_region 38 with fail
           rw [HW14.out]
           go_wp2_with fail
           clear y0
           go_loopw [137] (fun q wr => ∃ i : Nat, i ≤ Z.nodes.length ∧ q = .int .i64 i ∧ Hid (Below w14.heap.size w14 wr)) (fun q _ => Z.nodes.length - (intOf q).toNat)
           case atStart => exact ⟨0, Nat.zero_le _, rfl, hide (Below.refl _ _)⟩
           case round =>
            obtain ⟨i, hiz, rfl, HBi⟩ := hrel
            obtain ⟨w15, rfl⟩ : ∃ w15, w15 = wr := ⟨wr, rfl⟩
            by_cases hltZ : i < Z.nodes.length
            ·have hltZ' : (i : Int) < (Z.nodes.length : Int) := by omega
             have hltY : i < Y.nodes.length := by rw [HYN.out, ← HZN.out]; exact hltZ
             have hltY2 : (i : Int) < (Y.nodes.length : Int) := by omega
             have hi0 : ¬ (i : Int) < 0 := by omega
             obtain ⟨d, HDD⟩ : ∃ d, Hid (Z.nodes.getD i noNode = d) := ⟨_, rfl⟩
             obtain ⟨f, HFF⟩ : ∃ f, Hid (Y.nodes.getD i noNode = f) := ⟨_, rfl⟩
             have HSET : Hid (d.log = [] ∧ f.st = d.st) := by
              unfold Hid
              rw [← HDD.out, ← HFF.out, HYR.out, HZR.out, ← HN.out]
              have := settles hk1 hk6 hl150 (fun a' b' h h' => by rw [← HXR.out]; exact (HF.out a' b' h h').1) HM.out.symm (i := i) (by have := HYN.out; omega)
              exact ⟨this.2.1, this.2.2.symm⟩
             obtain ⟨gn, ba1, bc1, ba2, bc2, ba3, bc3, ba4, bc4, ba5, bc5, ba6, bc6, hga, hno, q0, q1, q2, q3, q4, q5, q6⟩ := (HZ14.out.below HBi.out).at (getD_some (z := noNode) hltZ)
             obtain ⟨gm, ca1, cc1, ca2, cc2, ca3, cc3, ca4, cc4, ca5, cc5, ca6, cc6, hgb, hnf, r0, r1, r2, r3, r4, r5, r6⟩ := (Y14.out.below HBi.out).at (getD_some (z := noNode) hltY)
             rw [HDD.out] at hno q0 q1 q2 q3 q4 q5 q6
             rw [HFF.out] at hnf r0 r1 r2 r3 r4 r5 r6
             rw [HSET.out.1, List.length_nil] at q5
             subst hga
             subst hgb
             have hbp := bpl w15 (.cells #[.int .i64 d.self, .slice ba1 d.st.clock.length bc1, .slice ba2 d.st.lives.length bc2, .slice ba3 d.st.tals.length bc3, .slice ba4 d.base.length bc4, .slice ba5 0 bc5, .slice ba6 d.known.length bc6] 49)
             have A16 := Box.new w15 [.int .i64 d.self, .slice ba1 d.st.clock.length bc1, .slice ba2 d.st.lives.length bc2, .slice ba3 d.st.tals.length bc3, .slice ba4 d.base.length bc4, .slice ba5 0 bc5, .slice ba6 d.known.length bc6] 49
             have N16 := hide (hno.clk.2.2.1.below hbp (nlr _))
             have M16 := hide ((st_cast hnf.clk.2.2.1 HSET.out.2).below hbp (nlr _))
             have s1 := cell_grewW hbp r1
             have s2 := cell_grewW hbp r2
             have s3 := cell_grewW hbp r3
             have E16 := hide ((E14.out.below HBi.out (nlr _)).below hbp (nlr _))
             obtain ⟨w16, HW16⟩ : ∃ W, Hid (w15.alloc (.cells #[.int .i64 d.self, .slice ba1 d.st.clock.length bc1, .slice ba2 d.st.lives.length bc2, .slice ba3 d.st.tals.length bc3, .slice ba4 d.base.length bc4, .slice ba5 0 bc5, .slice ba6 d.known.length bc6] 49) = W) := ⟨_, rfl⟩
             rw [HW16.out] at hbp A16 N16 M16 E16 s1 s2 s3
             have HB16 := hide (below_step HBi.out hbp)
             have HA16 := hide A16
             have HK : Hid (∀ w', Grew w16 w' → w'.cell? ⟨w8.heap.size, 0, none⟩ = some (.slice (some ⟨gm, 0, none⟩) Y.nodes.length Y.nodes.length) ∧ w'.cell? ⟨w15.heap.size, 1, none⟩ = some (.slice ba1 d.st.clock.length bc1) ∧ w'.cell? ⟨w15.heap.size, 2, none⟩ = some (.slice ba2 d.st.lives.length bc2) ∧ w'.cell? ⟨w15.heap.size, 3, none⟩ = some (.slice ba3 d.st.tals.length bc3) ∧ w'.cell? ⟨w15.heap.size, 5, none⟩ = some (.slice ba5 0 bc5) ∧ w'.cell? ⟨gm, i * 7 + 1, none⟩ = some (.slice ca1 f.st.clock.length cc1) ∧ w'.cell? ⟨gm, i * 7 + 2, none⟩ = some (.slice ca2 f.st.lives.length cc2) ∧ w'.cell? ⟨gm, i * 7 + 3, none⟩ = some (.slice ca3 f.st.tals.length cc3)) := fun w' hg => ⟨(E16.out.below hg (nlr _)).get 0 rfl, (HA16.out.below hg (nlr _)).get 1 rfl, (HA16.out.below hg (nlr _)).get 2 rfl, (HA16.out.below hg (nlr _)).get 3 rfl, (HA16.out.below hg (nlr _)).get 5 rfl, cell_grewW hg s1, cell_grewW hg s2, cell_grewW hg s3⟩
             clear hno hnf hbp A16 s1 s2 s3 r0 r1 r2 r3 r4 r5 r6
             go_upto_region 43 with fail
             rw [HW16.out]
             clear q0 q1 q2 q3 q4 q5 q6
             go_cut [157] (fun c wx => c = .bool false ∧ Hid (Grew w16 wx))
             case first =>
              refine wp_region_held_drew (S := fun w' => w'.cell? ⟨w8.heap.size, 0, none⟩ = some (.slice (some ⟨gm, 0, none⟩) Y.nodes.length Y.nodes.length) ∧ w'.cell? ⟨w15.heap.size, 1, none⟩ = some (.slice ba1 d.st.clock.length bc1) ∧ w'.cell? ⟨w15.heap.size, 2, none⟩ = some (.slice ba2 d.st.lives.length bc2) ∧ w'.cell? ⟨w15.heap.size, 3, none⟩ = some (.slice ba3 d.st.tals.length bc3) ∧ w'.cell? ⟨w15.heap.size, 5, none⟩ = some (.slice ba5 0 bc5) ∧ w'.cell? ⟨gm, i * 7 + 1, none⟩ = some (.slice ca1 f.st.clock.length cc1) ∧ w'.cell? ⟨gm, i * 7 + 2, none⟩ = some (.slice ca2 f.st.lives.length cc2) ∧ w'.cell? ⟨gm, i * 7 + 3, none⟩ = some (.slice ca3 f.st.tals.length cc3)) (by kernel_rfl) (HK.out _ (grew_drew (grew_refl _))) (fun hHeld => ?_)
              obtain ⟨wd, HWD⟩ : ∃ wd, Hid (w16.drew = wd) := ⟨_, rfl⟩
              have hgd : Grew w16 wd := by rw [← HWD.out]; exact grew_drew (grew_refl w16)
              rw [HWD.out] at hHeld ⊢
              refine ty 0 142 (.pointer (some ⟨w15.heap.size, 5, none⟩)) rfl rfl (by kernel_rfl) (fun _ _ _ h => h) rfl (by intro w hSw; (try dsimp only at hSw); go_simp) (by assumption) ?_
              simp only [Act.put, put1, put2, put3]
              refine ty 1 143 (.slice ba5 0 bc5) rfl rfl (by kernel_rfl) (fun _ _ _ h => h) rfl (by intro w hSw; (try dsimp only at hSw); go_simp) (by assumption) ?_
              simp only [Act.put, put1, put2, put3]
              refine ty 2 144 (.int .i64 0) rfl rfl (by kernel_rfl) (fun _ _ _ h => h) rfl (by intro w hSw; (try dsimp only at hSw); go_simp) (by assumption) ?_
              simp only [Act.put, put1, put2, put3]
              refine ty 3 145 (.bool false) rfl rfl (by kernel_rfl) (fun _ _ _ h => h) rfl (by intro w hSw; (try dsimp only at hSw); go_simp) (by assumption) ?_
              simp only [Act.put, put1, put2, put3]
              refine ty 4 146 (.bool false) rfl rfl (by kernel_rfl) (fun _ _ _ h => h) rfl (by intro w hSw; (try dsimp only at hSw); go_simp) (by assumption) ?_
              simp only [Act.put, put1, put2, put3]
              refine ty 5 147 (.pointer (some ⟨w15.heap.size, 1, none⟩)) rfl rfl (by kernel_rfl) (fun _ _ _ h => h) rfl (by intro w hSw; (try dsimp only at hSw); go_simp) (by assumption) ?_
              simp only [Act.put, put1, put2, put3]
              refine ty 6 148 (.agg #[.slice ba1 d.st.clock.length bc1, .slice ba2 d.st.lives.length bc2, .slice ba3 d.st.tals.length bc3]) rfl rfl (by kernel_rfl) (fun _ _ _ h => h) rfl (by intro w hSw; (try dsimp only at hSw); go_simp) (by assumption) ?_
              simp only [Act.put, put1, put2, put3]
              refine ty 7 149 (.pointer (some ⟨w8.heap.size, 0, none⟩)) rfl rfl (by kernel_rfl) (fun _ _ _ h => h) rfl (by intro w hSw; (try dsimp only at hSw); go_simp) (by assumption) ?_
              simp only [Act.put, put1, put2, put3]
              refine ty 8 150 (.slice (some ⟨gm, 0, none⟩) Y.nodes.length Y.nodes.length) rfl rfl (by kernel_rfl) (fun _ _ _ h => h) rfl (by intro w hSw; (try dsimp only at hSw); go_simp) (by assumption) ?_
              simp only [Act.put, put1, put2, put3]
              refine ty 9 151 (.int .i64 (i : Int)) rfl rfl (by kernel_rfl) (fun _ _ _ h => h) rfl (by intro w hSw; (try dsimp only at hSw); go_simp) (by assumption) ?_
              simp only [Act.put, put1, put2, put3]
              refine ty 10 152 (.pointer (some ⟨gm, i * 7, none⟩)) rfl rfl (by kernel_rfl) (fun _ _ _ h => h) rfl (by intro w hSw; (try dsimp only at hSw); go_simp) (by assumption) ?_
              simp only [Act.put, put1, put2, put3]
              refine ty 11 153 (.pointer (some ⟨gm, i * 7 + 1, none⟩)) rfl rfl (by kernel_rfl) (fun _ _ _ h => h) rfl (by intro w hSw; (try dsimp only at hSw); go_simp) (by assumption) ?_
              simp only [Act.put, put1, put2, put3]
              refine ty 12 154 (.agg #[.slice ca1 f.st.clock.length cc1, .slice ca2 f.st.lives.length cc2, .slice ca3 f.st.tals.length cc3]) rfl rfl (by kernel_rfl) (fun _ _ _ h => h) rfl (by intro w hSw; (try dsimp only at hSw); go_simp) (by assumption) ?_
              simp only [Act.put, put1, put2, put3]
              refine wpAnyH_ready (rs := [13]) (by kernel_rfl) (by simp) ?_
              refine (rd1 rfl (fun K hK => ?_))
              go_simp
              refine (same_st _ _ d.st _ (N16.out.below hgd (nlr _)) (M16.out.below hgd (nlr _))).mono ?_
              rintro e w_13 ⟨rfl, hb_13⟩
              have hg_13 : Grew w16 w_13 := grew_step hgd hb_13
              refine hK.out _ _ (HK.out _ hg_13) (fun _ => ?_)
              clear hK K
              try simp only [Act.put, put1, put2, put3]
              refine ty 14 156 (.bool false) rfl rfl (by kernel_rfl) (fun _ _ _ h => h) rfl (by intro w hSw; (try dsimp only at hSw); go_simp) (by assumption) ?_
              simp only [Act.put, put1, put2, put3]
              refine ty 15 157 (.bool false) rfl rfl (by kernel_rfl) (fun _ _ _ h => h) rfl (by intro w hSw; (try dsimp only at hSw); go_simp) (by assumption) ?_
              simp only [Act.put, put1, put2, put3]
              refine wpAnyH_done (by kernel_rfl) ?_ _
              go_wp2_with fail
              go_meet
              exact ⟨rfl, hg_13⟩
             case rest =>
              obtain ⟨rfl, HGR⟩ := hcut
              obtain ⟨w17, rfl⟩ : ∃ w17, w17 = wc := ⟨wc, rfl⟩
              have HB17 := hide (below_step HB16.out HGR.out)
              go_wp2_with fail
              go_roundw
              case rel => exact ⟨i + 1, by omega, by go_num, HB17⟩
              case measure => simp [intOf]; omega
            ·have hltZ' : ¬ (i : Int) < (Z.nodes.length : Int) := by omega
             have HBr := hide (below_step HB3.out (HB14.out.trans (HBi.out.mono HB14.out.size)))
             go_wp2_with fail
             go_ret
             exact ⟨rfl, HBr.out⟩
 ·have hE' : (E != 0) = true := by simp [hE]
  clear hE
  go_enter Tryz.func3, Tryz.ntmps3
  go_wp2_with fail
  refine (alive7 _).mono ?_
  rintro e w1 ⟨rfl, hb1⟩
  have HB1 := hide (below_step HB0.out hb1)
  have L1 := hide (L0.out.below hb1 (nlr _))
  clear hb1 HB0 L0
  go_wp2_with fail
  refine (play_w n _ l _ L1.out).mono ?_
  rintro e w2 ⟨wv, cv, rfl, hW, hC, hb2⟩
  rw [HE.out]
  rw [HX.out] at hW
  rw [HC.out] at hC
  obtain ⟨a1, a2, hwv, hx6⟩ := hW.form
  subst hwv
  obtain ⟨ca, cc, hcv⟩ := hC.form
  subst hcv
  have hbp := bpl w2 (.cells #[.slice a1 X.nodes.length X.nodes.length, .slice a2 X.nodes.length X.nodes.length] 27)
  have W3 := hW.below hbp
  have C3 := hC.below hbp
  have B3 := Box.new w2 [.slice a1 X.nodes.length X.nodes.length, .slice a2 X.nodes.length X.nodes.length] 27
  have hb3 := below_step hb2 hbp
  obtain ⟨w3, HW3⟩ : ∃ W, Hid (w2.alloc (.cells #[.slice a1 X.nodes.length X.nodes.length, .slice a2 X.nodes.length X.nodes.length] 27) = W) := ⟨_, rfl⟩
  rw [HW3.out] at W3 C3 B3 hb3
  have HB3 := hide (below_step HB1.out hb3)
  have L3 := hide (L1.out.below hb3 (nlr _))
  have HWO := hide W3
  have HCO := hide C3
  have HBX := hide B3
  clear hW hC hbp W3 C3 B3 hb3 hb2 HB1 L1
  go_wp2_with fail
  go_ret
  rw [HW3.out]
  exact ⟨rfl, HB3.out⟩
end Go.Proofs.YtihedgnachophaaGreat

