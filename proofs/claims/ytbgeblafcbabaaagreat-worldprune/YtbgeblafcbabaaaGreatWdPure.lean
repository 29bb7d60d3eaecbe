/- Worlds, as lists: what comes of each thing that happens, and what stays true whatever happens. -/
import Derived.Test.YtbgeblafcbabaaaGreatNdPure
namespace Go.Proofs.YtbgeblafcbabaaaGreat
open Go.RowKit

structure WdS where
 nodes : List NdS
 way : List (List (List Pcl))
structure DoS where
 kind : Int
 n : Int
 dst : Int
 upd : Upd

def nodeAt (w : WdS) (i : Int) : NdS := w.nodes.getD i.toNat noNode
def wayAt (w : WdS) (a b : Int) : List Pcl := (w.way.getD a.toNat []).getD b.toNat []
def setNode (w : WdS) (i : Int) (d : NdS) : WdS := ⟨w.nodes.set i.toNat d, w.way⟩
def setWay (w : WdS) (a b : Int) (l : List Pcl) : WdS := ⟨w.nodes, w.way.set a.toNat ((w.way.getD a.toNat []).set b.toNat l)⟩
def isNB (w : WdS) (i : Int) : Bool := decide (0 ≤ i ∧ i < w.nodes.length)
/-- A thing that happens between two. -/
def twoE (w : WdS) (a b e : Int) : Int := if isNB w a = true ∧ isNB w b = true then (if a = b then 7 else e) else 6
def changeE (w : WdS) (i e : Int) : Int := if isNB w i = true then e else 6
def changeX (w : WdS) (i e : Int) (d : NdS) : WdS := if isNB w i = true ∧ e = 0 then setNode w i d else w
def wsendE (w : WdS) (a b : Int) : Int := if 20 ≤ (wayAt w a b).length then 5 else otherE (nodeAt w a) b
def wsendX (w : WdS) (a b : Int) : WdS := if wsendE w a b = 0 then setWay w a b (wayAt w a b ++ [sendX (nodeAt w a) b]) else w
def nextE (w : WdS) (a b : Int) : Int := if (wayAt w a b).length = 0 then 6 else 0
def nextP (w : WdS) (a b : Int) : Pcl := (wayAt w a b).headD noPcl
def nextX (w : WdS) (a b : Int) : WdS := if (wayAt w a b).length = 0 then w else setWay w a b (wayAt w a b).tail
def wdelE (w : WdS) (a b : Int) : Int := if nextE w a b = 0 then takeE (nodeAt w b) a (nextP w a b) else nextE w a b
def wdelX (w : WdS) (a b : Int) : WdS := if nextE w a b = 0 then changeX (nextX w a b) b (takeE (nodeAt w b) a (nextP w a b)) (takeX (nodeAt w b) a (nextP w a b)) else w
def stepE (w : WdS) (o : DoS) : Int :=
 if o.kind = 1 then changeE w o.n (issueE (nodeAt w o.n) o.upd)
 else if o.kind = 2 then twoE w o.n o.dst (wsendE w o.n o.dst)
 else if o.kind = 3 then twoE w o.n o.dst (wdelE w o.n o.dst)
 else if o.kind = 4 then twoE w o.n o.dst (nextE w o.n o.dst)
 else if o.kind = 5 then changeE w o.n (nodeE (nodeAt w o.n))
 else 1
def twoX (w : WdS) (a b : Int) (x : WdS) : WdS := if isNB w a = true ∧ isNB w b = true ∧ ¬ a = b then x else w
def stepX (w : WdS) (o : DoS) : WdS :=
 if o.kind = 1 then changeX w o.n (issueE (nodeAt w o.n) o.upd) (issueX (nodeAt w o.n) o.upd)
 else if o.kind = 2 then twoX w o.n o.dst (wsendX w o.n o.dst)
 else if o.kind = 3 then twoX w o.n o.dst (wdelX w o.n o.dst)
 else if o.kind = 4 then twoX w o.n o.dst (nextX w o.n o.dst)
 else if o.kind = 5 then changeX w o.n (nodeE (nodeAt w o.n)) (pruneX (nodeAt w o.n))
 else w
def beginW (n : Nat) : WdS := ⟨(List.range n).map fun (i : Nat) => startX (i : Int) n, List.replicate n (List.replicate n [])⟩
def runX (w : WdS) (l : List DoS) : WdS := l.foldl stepX w
def runE : WdS → List DoS → List Int
 | _, [] => []
 | w, o :: r => stepE w o :: runE (stepX w o) r
/-- The update that is issued, if one is. -/
def newU (w : WdS) (o : DoS) : List Upd := if o.kind = 1 ∧ stepE w o = 0 then [ownU (nodeAt w o.n) o.upd] else []
def runU : WdS → List DoS → List Upd
 | _, [] => []
 | w, o :: r => newU w o ++ runU (stepX w o) r
theorem runX_snoc (w : WdS) (l : List DoS) (o : DoS) : runX w (l ++ [o]) = stepX (runX w l) o := by unfold runX; rw [List.foldl_append]; rfl
theorem runE_snoc (o : DoS) : ∀ (l : List DoS) (w : WdS), runE w (l ++ [o]) = runE w l ++ [stepE (runX w l) o]
 | [], w => rfl
 | p :: r, w => by rw [List.cons_append, runE, runE_snoc o r]; rfl
theorem runU_snoc (o : DoS) : ∀ (l : List DoS) (w : WdS), runU w (l ++ [o]) = runU w l ++ newU (runX w l) o
 | [], w => by simp [runU, runX]
 | p :: r, w => by rw [List.cons_append, runU, runU_snoc o r, runU, List.append_assoc]; rfl
theorem runE_length : ∀ (l : List DoS) (w : WdS), (runE w l).length = l.length
 | [], _ => rfl
 | o :: r, w => by rw [runE, List.length_cons, runE_length r, List.length_cons]
theorem runU_few : ∀ (l : List DoS) (w : WdS), (runU w l).length ≤ l.length
 | [], _ => by simp [runU]
 | o :: r, w => by
  have := runU_few r (stepX w o)
  rw [runU, List.length_append, List.length_cons]
  have : (newU w o).length ≤ 1 := by unfold newU; split <;> simp
  omega

/-- Every thing of one log is there once. -/
theorem errL_once {n : Int} : ∀ (l : List Upd) {xs : List Int}, wrongC xs n = 0 → errL n xs l = 0 → (∀ u ∈ l, xs.getD u.author.toNat 0 ≤ entU u) ∧ l.Pairwise fun u v => u.author.toNat = v.author.toNat → entU u < entU v
 | [], _, _, _ => ⟨fun u hu => by simp at hu, List.Pairwise.nil⟩
 | u :: r, xs, hg, he => by
  obtain ⟨hw, hr⟩ := errL_cons he
  obtain ⟨hg', ht⟩ := fits_tick hg hw
  obtain ⟨hwu, hent, -⟩ := (fits_iff hg).1 hw
  obtain ⟨h1, h2⟩ := errL_once r hg' hr
  refine ⟨fun v hv => ?_, List.pairwise_cons.2 ⟨fun v hv ha => ?_, h2⟩⟩
  ·rcases List.mem_cons.1 hv with rfl | hv
   ·omega
   ·have := h1 v hv
    rw [ht] at this
    split at this <;> omega
  ·have := h1 v hv
   rw [ht, if_pos ha.symm, ← ha] at this
   omega
theorem once_eq {l : List Upd} (h : l.Pairwise fun u v => u.author.toNat = v.author.toNat → entU u < entU v) {u v : Upd} (hu : u ∈ l) (hv : v ∈ l) (ha : u.author.toNat = v.author.toNat) (he : entU u = entU v) : u = v := by
 induction l with
 | nil => simp at hu
 | cons x r ih =>
  obtain ⟨h1, h2⟩ := List.pairwise_cons.1 h
  rcases List.mem_cons.1 hu with hx | hu'
  ·rcases List.mem_cons.1 hv with hy | hv'
   ·rw [hx, hy]
   ·have := h1 v hv' (by rw [← hx]; exact ha)
    rw [← hx] at this
    omega
  ·rcases List.mem_cons.1 hv with hy | hv'
   ·have := h1 u hu' (by rw [← hy]; exact ha.symm)
    rw [← hy] at this
    omega
   ·exact ih h2 hu' hv'
theorem once_nodup {l : List Upd} (h : l.Pairwise fun u v => u.author.toNat = v.author.toNat → entU u < entU v) : l.Nodup := by
 refine h.imp_of_mem fun {a b} _ _ hab he => ?_
 subst he
 have := hab rfl
 omega
theorem playLv_snoc : ∀ (l : List Upd) (lv : List Live) (u : Upd), playLv lv (l ++ [u]) = applyLv (playLv lv l) u
 | [], _, _ => rfl
 | x :: r, lv, u => by rw [List.cons_append, playLv, playLv]; exact playLv_snoc r _ u
theorem playT_snoc : ∀ (l : List Upd) (ts : List Tal) (u : Upd), playT ts (l ++ [u]) = applyT (playT ts l) u
 | [], _, _ => rfl
 | x :: r, ts, u => by rw [List.cons_append, playT, playT]; exact playT_snoc r _ u

section
variable {n : Int} {A : List Upd}
/-- What has been issued comes to so much. -/
def totC (n : Int) (A : List Upd) : List Int := tickL (zeroC n.toNat) A
/-- A clock of what was issued: with an update all that it saw. -/
structure InA (n : Int) (A : List Upd) (c : List Int) : Prop where
 good : wrongC c n = 0
 cl : Closed c A
 le : ∀ j, c.getD j 0 ≤ (totC n A).getD j 0
theorem InA.clock {c : List Int} (h : InA n A c) (hA : errL n (zeroC n.toNat) A = 0) : (ofS n A c).clock = c := by
 obtain ⟨h1, h6, hl, -⟩ := goodC_iff.1 h.good
 obtain ⟨t1, -⟩ := tickL_good _ (zeroC_good h.good) ((of_fits h.good hA).2 h.cl)
 obtain ⟨-, -, tl, -⟩ := goodC_iff.1 t1
 show tickL (zeroC n.toNat) (mine c A) = c
 refine eq_getD (by omega) fun i => ?_
 rw [of_clock h.good hA i]
 have := h.le i
 unfold totC at this
 omega
/-- One more of those that were issued, which fits. -/
theorem InA.play {c : List Int} {u : Upd} (h : InA n A c) (hA : errL n (zeroC n.toNat) A = 0) (hu : u ∈ A) (hw : wrongL u c n = 0) :
  InA n A (tickC c u.author) ∧ (⟨tickC c u.author, applyLv (ofS n A c).lives u, applyT (ofS n A c).tals u⟩ : StS) = ofS n A (tickC c u.author) := by
 have hz := zeroC_good h.good
 obtain ⟨o1, o2⟩ := errL_once A hz hA
 obtain ⟨hwu, hent, hsee⟩ := (fits_iff h.good).1 hw
 obtain ⟨hg', ht⟩ := fits_tick h.good hw
 have hmem : ∀ v ∈ A, (entU v < (tickC c u.author).getD v.author.toNat 0 ↔ entU v < c.getD v.author.toNat 0 ∨ v = u) := by
  intro v hv
  rw [ht]
  split
  ·next e =>
   constructor
   ·intro hh
    by_cases hlt : entU v < c.getD v.author.toNat 0
    ·exact .inl hlt
    ·refine .inr (once_eq o2 hv hu e ?_)
     rw [e] at hlt hh
     omega
   ·rintro (hh | rfl)
    ·omega
    ·omega
  ·next e =>
   constructor
   ·exact fun hh => .inl hh
   ·rintro (hh | rfl)
    ·exact hh
    ·exact absurd rfl e
 have hle : ∀ j, c.getD j 0 ≤ (tickC c u.author).getD j 0 := by
  intro j
  rw [ht]
  split <;> omega
 have hcl : Closed (tickC c u.author) A := by
  intro v hv hlt i
  rcases (hmem v hv).1 hlt with hh | rfl
  ·exact Int.le_trans (h.cl v hv hh i) (hle i)
  ·exact Int.le_trans (hsee i) (hle i)
 have hI : InA n A (tickC c u.author) := by
  refine ⟨hg', hcl, fun j => ?_⟩
  rw [ht]
  split
  ·next e =>
   have := entry_lt hz hA hu
   unfold totC
   rw [e]
   omega
  ·exact h.le j
 refine ⟨hI, ?_⟩
 have hf : errL n (zeroC n.toNat) (mine c A) = 0 := (of_fits h.good hA).2 h.cl
 have hf' : errL n (zeroC n.toNat) (mine (tickC c u.author) A) = 0 := (of_fits hg' hA).2 hcl
 have hclk := h.clock hA
 have htl : tickL (zeroC n.toNat) (mine c A) = c := hclk
 have hs : errL n (zeroC n.toNat) (mine c A ++ [u]) = 0 := errL_snoc _ hf (by rw [htl]; exact hw)
 have hnot : u ∉ mine c A := by
  intro hh
  have := (mem_mine.1 hh).2
  omega
 have hp : (mine c A ++ [u]).Perm (mine (tickC c u.author) A) := by
  refine (List.perm_ext_iff_of_nodup ?_ ?_).2 fun v => ?_
  ·refine List.nodup_append.2 ⟨List.Nodup.sublist List.filter_sublist (once_nodup o2), by simp, fun a ha b hb => ?_⟩
   rw [List.mem_singleton] at hb
   subst hb
   exact fun e => hnot (e ▸ ha)
  ·exact List.Nodup.sublist List.filter_sublist (once_nodup o2)
  ·rw [List.mem_append, mem_mine, mem_mine, List.mem_singleton]
   constructor
   ·rintro (⟨h1, h2⟩ | rfl)
    ·exact ⟨h1, (hmem v h1).2 (.inl h2)⟩
    ·exact ⟨hu, (hmem v hu).2 (.inr rfl)⟩
   ·rintro ⟨h1, h2⟩
    rcases (hmem v h1).1 h2 with hh | rfl
    ·exact .inl ⟨h1, hh⟩
    ·exact .inr rfl
 have e1 := play_perm hz hf' hs hp (bound_nil _) List.Pairwise.nil
 have e2 := playT_perm hp ord_nil.1 ord_nil.2
 rw [playLv_snoc] at e1
 rw [playT_snoc] at e2
 have e3 := hI.clock hA
 have e4 : tickL (zeroC n.toNat) (mine (tickC c u.author) A) = tickC c u.author := e3
 unfold ofS
 rw [e1, ← e2, e4]
theorem InA.join {a b : List Int} (ha : InA n A a) (hb : InA n A b) (hA : errL n (zeroC n.toNat) A = 0) : InA n A (joinC a b) ∧ joinX (ofS n A a) (ofS n A b) = ofS n A (joinC a b) := by
 refine ⟨⟨join_good ha.good hb.good, closed_join ha.cl hb.cl, fun j => ?_⟩, (union_main ha.good hb.good hA ha.cl hb.cl).2⟩
 rw [joinC_getD]
 exact joinI_lub (ha.le j) (hb.le j)
/-- A new update is issued behind all: what others have seen stays what it was. -/
theorem InA.more {c : List Int} {u : Upd} (h : InA n A c) (hA : errL n (zeroC n.toNat) A = 0) (hw : wrongL u (totC n A) n = 0) : InA n (A ++ [u]) c ∧ ofS n (A ++ [u]) c = ofS n A c := by
 obtain ⟨tg, -⟩ := tickL_good A (zeroC_good h.good) hA
 obtain ⟨hwu, hent, hsee⟩ := (fits_iff tg).1 hw
 obtain ⟨-, ht⟩ := fits_tick tg hw
 have hnot : ¬ entU u < c.getD u.author.toNat 0 := by
  have := h.le u.author.toNat
  unfold totC at this
  omega
 have hm : mine c (A ++ [u]) = mine c A := by
  unfold mine
  have hb : mineB c u = false := decide_eq_false hnot
  rw [List.filter_append, List.filter_cons, hb]
  simp
 refine ⟨⟨h.good, fun v hv hlt i => ?_, fun j => ?_⟩, by unfold ofS; rw [hm]⟩
 ·rcases List.mem_append.1 hv with hv | hv
  ·exact h.cl v hv hlt i
  ·rw [List.mem_singleton] at hv
   subst hv
   exact absurd hlt hnot
 ·have := h.le j
  unfold totC at this ⊢
  rw [tickL_snoc, ht]
  split <;> omega
theorem InA.total (hz : wrongC (zeroC n.toNat) n = 0) (hA : errL n (zeroC n.toNat) A = 0) : InA n A (totC n A) := by
 obtain ⟨tg, -⟩ := tickL_good A hz hA
 refine ⟨tg, fun u hu _ i => ?_, fun _ => Int.le_refl _⟩
 have h1 : Closed (tickL (zeroC n.toNat) A) (A ++ []) := (more_main hz (p := A) (q := []) (by rw [List.append_nil]; exact hA)).2.2.1
 rw [List.append_nil] at h1
 exact h1 u hu (by have := entry_lt hz hA hu; omega) i

/-- A node's state is what all updates come to that it has seen. -/
structure InD (n : Int) (A : List Upd) (d : NdS) : Prop where
 okm : OkM n d
 ina : InA n A d.st.clock
 of : d.st = ofS n A d.st.clock
 log : ∀ u ∈ d.log, u ∈ A
theorem InD.playD {d : NdS} {u : Upd} (h : InD n A d) (hA : errL n (zeroC n.toNat) A = 0) (hu : u ∈ A) (hp : playN d u = 0) : InD n A (playD d u) := by
 obtain ⟨h1, h2, h3, h4, h5⟩ := h.okm.play hp
 obtain ⟨-, hw⟩ := (playN_zero h.okm).1 hp
 obtain ⟨k1, k2⟩ := h.ina.play hA hu hw
 refine ⟨h1, by rw [h2]; exact k1, ?_, fun v hv => ?_⟩
 ·rw [h2, ← k2]
  show playX d.st [u] = _
  rw [playX_one h.okm hw, ← h.of]
 ·have hv' : v ∈ d.log ++ [u] := hv
  rcases List.mem_append.1 hv' with hv | hv
  ·exact h.log v hv
  ·rw [List.mem_singleton] at hv
   rw [hv]; exact hu
theorem InD.tuX {d : NdS} {u : Upd} (h : InD n A d) (hA : errL n (zeroC n.toNat) A = 0) (hu : u ∈ A) (hp : tuE d u = 0) : InD n A (tuX d u) := by
 unfold tuE at hp
 unfold Go.Proofs.YtbgeblafcbabaaaGreat.tuX
 split at hp
 ·next hs => rw [if_pos hs]; exact h
 ·next hs => rw [if_neg hs]; exact h.playD hA hu hp
theorem InD.upsX (hA : errL n (zeroC n.toNat) A = 0) : ∀ (l : List Upd) {d : NdS}, InD n A d → (∀ u ∈ l, u ∈ A) → upsE d l = 0 → InD n A (upsX d l)
 | [], _, h, _, _ => h
 | u :: r, d, h, hl, he => by
  rw [upsE] at he
  split at he
  ·next hu => exact InD.upsX hA r (h.tuX hA (hl u (by simp)) hu) (fun v hv => hl v (by simp [hv])) he
  ·next hu => exact absurd he hu
theorem InD.forgetN {d : NdS} {c : List Int} (h : InD n A d) (hc : wrongC c n = 0) (hs : ∀ j, c.getD j 0 ≤ d.st.clock.getD j 0) : InD n A (forgetN d c) :=
 ⟨h.okm.forget hc hs, h.ina, h.of, fun u hu => h.log u (List.mem_filter.1 hu).1⟩
theorem InD.tstX {d : NdS} {p : Pcl} (h : InD n A d) (hA : errL n (zeroC n.toNat) A = 0) (hp : p.whole = true → InA n A p.st.clock ∧ p.st = ofS n A p.st.clock) : tstE d p = 0 ∧ InD n A (tstX d p) ∧ (p.whole = true → (tstX d p).st.clock = joinC d.st.clock p.st.clock) := by
 by_cases hw : p.whole = true
 ·obtain ⟨p1, p2⟩ := hp hw
  have ho : OkS n p.st.clock p.st.lives p.st.tals := by
   have := ofS_ok p1.good hA p1.cl
   rw [← p2] at this
   exact this
  have hj : joinE d.st p.st = 0 := joinE_zero.2 ⟨by rw [h.okm.len]; exact h.okm.st, by rw [h.okm.len]; exact ho⟩
  have ht : tstE d p = 0 := by unfold tstE; rw [if_pos hw]; exact hj
  obtain ⟨m1, -⟩ := h.okm.tst ht
  obtain ⟨q1, q2⟩ := h.ina.join p1 hA
  have hst : (Go.Proofs.YtbgeblafcbabaaaGreat.tstX d p).st = joinX d.st p.st := by unfold Go.Proofs.YtbgeblafcbabaaaGreat.tstX; rw [if_pos hw]; rfl
  have hcl : (Go.Proofs.YtbgeblafcbabaaaGreat.tstX d p).st.clock = joinC d.st.clock p.st.clock := by rw [hst, joinX_zero hj]
  refine ⟨ht, ⟨m1, by rw [hcl]; exact q1, ?_, fun u hu => ?_⟩, fun _ => hcl⟩
  ·rw [hcl, hst, ← q2, ← h.of, ← p2]
  ·have hu' : u ∈ lacksL d.log (joinC d.base p.st.clock) := by
    have e : (Go.Proofs.YtbgeblafcbabaaaGreat.tstX d p).log = lacksL d.log (joinC d.base p.st.clock) := by unfold Go.Proofs.YtbgeblafcbabaaaGreat.tstX; rw [if_pos hw]; rfl
    rw [← e]; exact hu
   exact h.log u (List.mem_filter.1 hu').1
 ·have ht : tstE d p = 0 := by unfold tstE; rw [if_neg hw]
  have hx : Go.Proofs.YtbgeblafcbabaaaGreat.tstX d p = d := by unfold Go.Proofs.YtbgeblafcbabaaaGreat.tstX; rw [if_neg hw]
  exact ⟨ht, by rw [hx]; exact h, fun hh => absurd hh hw⟩
theorem InD.more {d : NdS} {u : Upd} (h : InD n A d) (hA : errL n (zeroC n.toNat) A = 0) (hw : wrongL u (totC n A) n = 0) : InD n (A ++ [u]) d := by
 obtain ⟨h1, h2⟩ := h.ina.more hA hw
 exact ⟨h.okm, h1, by rw [h2]; exact h.of, fun v hv => List.mem_append.2 (.inl (h.log v hv))⟩
/-- What one lacks of a log takes it to what both come to, if the log is not full. -/
theorem ups_lackM {k : List Int} (hk : (k.length : Int) = n) : ∀ (l : List Upd) {xs : List Int} {e : NdS}, wrongC xs n = 0 → errL n xs l = 0 → OkM n e → (∀ i, xs.getD i 0 ≤ e.st.clock.getD i 0) → (∀ i, k.getD i 0 ≤ e.st.clock.getD i 0) →
  (upsE e (lacksL l k) = 0 ∧ ∀ i, (upsX e (lacksL l k)).st.clock.getD i 0 = joinI (e.st.clock.getD i 0) ((tickL xs l).getD i 0)) ∨ upsE e (lacksL l k) = 5
 | [], xs, e, _, _, _, h, _ => .inl ⟨rfl, fun i => by
   show e.st.clock.getD i 0 = joinI (e.st.clock.getD i 0) (xs.getD i 0)
   have := h i
   unfold joinI
   rw [if_neg (by omega)]⟩
 | u :: r, xs, e, hg, he, ho, h, hke => by
  obtain ⟨hw, hr⟩ := errL_cons he
  obtain ⟨hg', ht⟩ := fits_tick hg hw
  obtain ⟨hwu, hent, hsee⟩ := (fits_iff hg).1 hw
  have hs := seenU_iff hwu hk
  rw [tickL]
  by_cases hsu : seenU u k = true
  ·have el : lacksL (u :: r) k = lacksL r k := by unfold lacksL; rw [List.filter_cons, hsu]; simp
   rw [el]
   refine ups_lackM hk r hg' hr ho (fun i => ?_) hke
   rw [ht i]
   have := hs.1 hsu
   have := hke u.author.toNat
   split
   ·next e => rw [e, hent]; omega
   ·exact h i
  ·have el : lacksL (u :: r) k = u :: lacksL r k := by unfold lacksL; rw [List.filter_cons]; simp [hsu]
   rw [el, upsE]
   have hse := seenU_iff hwu ho.len
   by_cases hsk : skipB e u = true
   ·have e1 : tuE e u = 0 := by unfold tuE; rw [if_pos hsk]
    have e2 : tuX e u = e := by unfold tuX; rw [if_pos hsk]
    have hle : ∀ i, (tickC xs u.author).getD i 0 ≤ e.st.clock.getD i 0 := by
     intro i
     rw [ht i]
     have := hse.1 ((skipB_iff ho).1 hsk).2
     split
     ·next e => rw [e, hent]; omega
     ·exact h i
    have hrec := ups_lackM hk r hg' hr ho hle hke
    rw [if_pos e1, e2]
    have e3 : upsX e (u :: lacksL r k) = upsX e (lacksL r k) := by show upsX (tuX e u) (lacksL r k) = _; rw [e2]
    rw [e3]
    exact hrec
   ·have hns : ¬ seenU u e.st.clock = true := fun hh => hsk ((skipB_iff ho).2 ⟨hwu, hh⟩)
    have hlt : ¬ entU u + 1 ≤ e.st.clock.getD u.author.toNat 0 := fun hh => hns (hse.2 hh)
    have hge := h u.author.toNat
    have hfit : wrongL u e.st.clock n = 0 := (fits_iff ho.st.clock).2 ⟨hwu, by omega, fun i => Int.le_trans (hsee i) (h i)⟩
    by_cases hfew : e.log.length < 300
    ·have hp : playN e u = 0 := (playN_zero ho).2 ⟨hfew, hfit⟩
     have e1 : tuE e u = 0 := by unfold tuE; rw [if_neg hsk]; exact hp
     have e2 : tuX e u = playD e u := by unfold tuX; rw [if_neg hsk]
     obtain ⟨p1, p2, p3, -, -⟩ := ho.play hp
     obtain ⟨-, q2⟩ := fits_tick ho.st.clock hfit
     have hle : ∀ i, (tickC xs u.author).getD i 0 ≤ (playD e u).st.clock.getD i 0 := by
      intro i
      rw [p2, q2 i, ht i]
      have := h i
      split <;> omega
     have hrec := ups_lackM hk r hg' hr p1 hle (fun i => Int.le_trans (hke i) (p3 i))
     have e3 : upsX e (u :: lacksL r k) = upsX (playD e u) (lacksL r k) := by show upsX (tuX e u) (lacksL r k) = _; rw [e2]
     rw [if_pos e1, e2, e3]
     rcases hrec with ⟨k1, k2⟩ | k1
     ·refine .inl ⟨k1, fun i => ?_⟩
      rw [k2 i, p2, q2 i]
      obtain ⟨-, tg⟩ := tickL_good r hg' hr
      have := tg i
      rw [ht i] at this
      split
      ·next ei =>
       rw [if_pos ei] at this
       subst ei
       unfold joinI
       split <;> split <;> omega
      ·rfl
     ·exact .inr k1
    ·have hp : playN e u = 5 := by unfold playN; rw [if_pos (by omega)]
     have e1 : tuE e u = 5 := by unfold tuE; rw [if_neg hsk]; exact hp
     rw [e1]
     exact .inr rfl
/-- A parcel on its way, whose sender has seen ca, and whose receiver cb. -/
structure InP (n : Int) (A : List Upd) (ca cb : List Int) (p : Pcl) : Prop where
 good : wrongC p.clock n = 0
 le : ∀ j, p.clock.getD j 0 ≤ ca.getD j 0
 whole : p.whole = true → p.ups = [] ∧ p.st.clock = p.clock ∧ InA n A p.clock ∧ p.st = ofS n A p.clock
 part : p.whole = false → ∃ xs l k, wrongC xs n = 0 ∧ errL n xs l = 0 ∧ tickL xs l = p.clock ∧ ((List.length k : Nat) : Int) = n ∧ (∀ j, xs.getD j 0 ≤ cb.getD j 0) ∧ (∀ j, k.getD j 0 ≤ cb.getD j 0) ∧ p.ups = lacksL l k ∧ ∀ u ∈ l, u ∈ A
theorem InP.mono {ca cb ca' cb' : List Int} {p : Pcl} (h : InP n A ca cb p) (ha : ∀ j, ca.getD j 0 ≤ ca'.getD j 0) (hb : ∀ j, cb.getD j 0 ≤ cb'.getD j 0) : InP n A ca' cb' p := by
 refine ⟨h.good, fun j => Int.le_trans (h.le j) (ha j), h.whole, fun hw => ?_⟩
 obtain ⟨xs, l, k, h1, h2, h3, h4, h5, h6, h7, h8⟩ := h.part hw
 exact ⟨xs, l, k, h1, h2, h3, h4, fun j => Int.le_trans (h5 j) (hb j), fun j => Int.le_trans (h6 j) (hb j), h7, h8⟩
theorem InP.more {ca cb : List Int} {p : Pcl} {u : Upd} (h : InP n A ca cb p) (hA : errL n (zeroC n.toNat) A = 0) (hw : wrongL u (totC n A) n = 0) : InP n (A ++ [u]) ca cb p := by
 refine ⟨h.good, h.le, fun hh => ?_, fun hh => ?_⟩
 ·obtain ⟨h1, h2, h3, h4⟩ := h.whole hh
  obtain ⟨k1, k2⟩ := h3.more hA hw
  exact ⟨h1, h2, k1, by rw [k2]; exact h4⟩
 ·obtain ⟨xs, l, k, h1, h2, h3, h4, h5, h6, h7, h8⟩ := h.part hh
  exact ⟨xs, l, k, h1, h2, h3, h4, h5, h6, h7, fun v hv => List.mem_append.2 (.inl (h8 v hv))⟩
/-- What a right node sends. -/
theorem InP.sent {d : NdS} {i : Int} {cb : List Int} (h : InD n A d) (hs : otherE d i = 0) (hk : ∀ j, (d.known.getD i.toNat []).getD j 0 ≤ cb.getD j 0) : InP n A d.st.clock cb (sendX d i) := by
 obtain ⟨hok, hi0, hi1, hno⟩ := other_zero.1 hs
 unfold sendX
 rw [if_pos hs]
 have hl := h.okm.len
 split
 ·next hw =>
  have hi : i.toNat < d.known.length := by have := h.okm.kl; omega
  obtain ⟨-, -, k3, -⟩ := goodC_iff.1 (h.okm.kg _ hi).1
  exact ⟨h.ina.good, fun _ => Int.le_refl _, fun hh => (by cases hh), fun _ => ⟨d.base, d.log, d.known.getD i.toNat [], h.okm.base, h.okm.fits, h.okm.come, k3, fun j => Int.le_trans (seesC_iff.1 hw j) (hk j), hk, rfl, h.log⟩⟩
 ·exact ⟨h.ina.good, fun _ => Int.le_refl _, fun _ => ⟨rfl, rfl, h.ina, h.of⟩, fun hh => (by cases hh)⟩
/-- A parcel is taken, or the log is too long. -/
theorem InP.taken {d : NdS} {i : Int} {ca : List Int} {p : Pcl} (h : InD n A d) (hA : errL n (zeroC n.toNat) A = 0) (hp : InP n A ca d.st.clock p) (hs : otherE d i = 0) :
  (takeE d i p = 0 ∧ InD n A (takeX d i p) ∧ OkN n (takeX d i p) ∧ (takeX d i p).self = d.self ∧ (takeX d i p).st.clock = joinC d.st.clock p.clock ∧ (takeX d i p).known = (d.known.set i.toNat (joinC (d.known.getD i.toNat []) p.clock)).set d.self.toNat (joinC d.st.clock p.clock)) ∨ takeE d i p = 5 := by
 obtain ⟨hok, hi0, hi1, hno⟩ := other_zero.1 hs
 have hl := h.okm.len
 have hpc : wrongC p.clock d.st.clock.length = 0 := by rw [hl]; exact hp.good
 have htst := h.tstX hA (p := p) fun hw => by
  obtain ⟨h1, h2, h3, h4⟩ := hp.whole hw
  rw [h2]
  exact ⟨h3, h4⟩
 obtain ⟨t1, t2, t3⟩ := htst
 obtain ⟨m1, m2, m3, m4, m5⟩ := h.okm.tst t1
 have hjg := join_good h.okm.st.clock hp.good
 obtain ⟨-, -, jl, -⟩ := goodC_iff.1 hjg
 have main : (upsE (tstX d p) p.ups = 0 ∧ (∀ u ∈ p.ups, u ∈ A) ∧ (upsX (tstX d p) p.ups).st.clock = joinC d.st.clock p.clock) ∨ upsE (tstX d p) p.ups = 5 := by
  cases hw : p.whole
  ·obtain ⟨xs, l, k, h1, h2, h3, h4, h5, h6, h7, h8⟩ := hp.part hw
   have hx : tstX d p = d := by unfold tstX; rw [if_neg (by rw [hw]; decide)]
   rw [hx, h7]
   rcases ups_lackM h4 l h1 h2 h.okm h5 h6 with ⟨u1, u2⟩ | u1
   ·refine .inl ⟨u1, fun u hu => h8 u (List.mem_filter.1 hu).1, ?_⟩
    obtain ⟨v1, -⟩ := OkM.ups _ h.okm u1
    have := v1.len
    refine eq_getD (by omega) fun j => ?_
    rw [u2 j, h3, joinC_getD]
   ·exact .inr u1
  ·obtain ⟨h1, h2, h3, h4⟩ := hp.whole hw
   rw [h1]
   refine .inl ⟨rfl, fun u hu => by simp at hu, ?_⟩
   show (tstX d p).st.clock = _
   rw [t3 hw, h2]
 rcases main with ⟨u1, u2, u3⟩ | u1
 ·have hT : Took d i p := ⟨hok, hi0, hi1, hno, hpc, t1, u1, fun j => by rw [u3, joinC_getD]; exact joinI_le.2⟩
  have he := take_zero.2 hT
  have hX : takeX d i p = selfN (tellN (upsX (tstX d p) p.ups) i p.clock) := by unfold takeX; rw [if_pos he]
  have hI := InD.upsX hA p.ups t2 u2 u1
  obtain ⟨r1, -, -⟩ := hT.right
  obtain ⟨b1, b2, b3, b4, b5, b6⟩ := OkM.ups p.ups m1 u1
  rw [hl] at r1
  refine .inl ⟨he, ?_, by rw [hX]; exact r1, by rw [hX]; show (upsX (tstX d p) p.ups).self = _; rw [b4, m4], by rw [hX]; exact u3, ?_⟩
  ·rw [hX]
   exact ⟨r1.toOkM, hI.ina, hI.of, hI.log⟩
  ·rw [hX]
   show ((upsX (tstX d p) p.ups).known.set i.toNat (joinC ((upsX (tstX d p) p.ups).known.getD i.toNat []) p.clock)).set (upsX (tstX d p) p.ups).self.toNat (upsX (tstX d p) p.ups).st.clock = _
   rw [b5, m5, b4, m4, u3]
 ·refine .inr ?_
  unfold takeE
  rw [if_pos hs, if_pos hpc, if_pos t1, u1, if_neg (by decide)]
end
end Go.Proofs.YtbgeblafcbabaaaGreat
/- What stays true of a world, whatever happens. -/
namespace Go.Proofs.YtbgeblafcbabaaaGreat
open Go.RowKit

section
variable {n : Int} {A : List Upd} {w : WdS}
structure WInv (n : Int) (A : List Upd) (w : WdS) : Prop where
 n1 : 1 ≤ n
 n6 : n ≤ 6
 len : (w.nodes.length : Int) = n
 wl : w.way.length = w.nodes.length
 wr : ∀ a, a < w.nodes.length → (w.way.getD a []).length = w.nodes.length
 fit : errL n (zeroC n.toNat) A = 0
 nd : ∀ i, i < w.nodes.length → InD n A (w.nodes.getD i noNode) ∧ OkN n (w.nodes.getD i noNode) ∧ (w.nodes.getD i noNode).self = i ∧ (w.nodes.getD i noNode).st.clock.getD i 0 = (totC n A).getD i 0
 kn : ∀ i k, i < w.nodes.length → k < w.nodes.length → ∀ j, ((w.nodes.getD i noNode).known.getD k []).getD j 0 ≤ (w.nodes.getD k noNode).st.clock.getD j 0
 pc : ∀ a b, a < w.nodes.length → b < w.nodes.length → ∀ p ∈ (w.way.getD a []).getD b [], InP n A (w.nodes.getD a noNode).st.clock (w.nodes.getD b noNode).st.clock p

theorem getD_setN {α : Type} {l : List α} {i k : Nat} {x d : α} (h : i < l.length) : (l.set i x).getD k d = if k = i then x else l.getD k d := by
 rw [List.getD_eq_getElem?_getD, List.getD_eq_getElem?_getD, List.getElem?_set]
 by_cases e : i = k
 ·subst e
  rw [if_pos rfl, if_pos h, if_pos rfl]
  rfl
 ·rw [if_neg e, if_neg (fun hh => e hh.symm)]
theorem isNB_iff {i : Int} : isNB w i = true ↔ 0 ≤ i ∧ i < w.nodes.length := by unfold isNB; exact decide_eq_true_iff
/-- A node is put in another one's place, which has seen no less. -/
theorem WInv.setN (h : WInv n A w) {i : Nat} {d : NdS} (hi : i < w.nodes.length) (h1 : InD n A d) (h2 : OkN n d) (h3 : d.self = i) (h4 : ∀ j, (w.nodes.getD i noNode).st.clock.getD j 0 ≤ d.st.clock.getD j 0) (h5 : d.st.clock.getD i 0 = (totC n A).getD i 0) (h6 : ∀ k, k < w.nodes.length → k ≠ i → ∀ j, (d.known.getD k []).getD j 0 ≤ (w.nodes.getD k noNode).st.clock.getD j 0) : WInv n A ⟨w.nodes.set i d, w.way⟩ := by
 have hm : ∀ k, k < w.nodes.length → ∀ j, (w.nodes.getD k noNode).st.clock.getD j 0 ≤ ((w.nodes.set i d).getD k noNode).st.clock.getD j 0 := by
  intro k hk j
  rw [getD_setN hi]
  split
  ·next e => subst e; exact h4 j
  ·exact Int.le_refl _
 refine ⟨h.n1, h.n6, by rw [List.length_set]; exact h.len, by rw [List.length_set]; exact h.wl, fun a ha => ?_, h.fit, fun k hk => ?_, fun k m hk hm' j => ?_, fun a b ha hb p hp => ?_⟩
 ·rw [List.length_set] at ha ⊢
  exact h.wr a ha
 ·rw [List.length_set] at hk
  show InD n A ((w.nodes.set i d).getD k noNode) ∧ OkN n ((w.nodes.set i d).getD k noNode) ∧ ((w.nodes.set i d).getD k noNode).self = k ∧ ((w.nodes.set i d).getD k noNode).st.clock.getD k 0 = (totC n A).getD k 0
  rw [getD_setN hi]
  split
  ·next e => subst e; exact ⟨h1, h2, h3, h5⟩
  ·exact h.nd k hk
 ·rw [List.length_set] at hk hm'
  show (((w.nodes.set i d).getD k noNode).known.getD m []).getD j 0 ≤ ((w.nodes.set i d).getD m noNode).st.clock.getD j 0
  by_cases hki : k = i
  ·subst hki
   rw [getD_setN hi, if_pos rfl]
   by_cases hmi : m = k
   ·subst hmi
    rw [getD_setN hi, if_pos rfl]
    have hs := h2.ks
    rw [h3] at hs
    have hs' : d.known.getD m [] = d.st.clock := hs
    rw [hs']
    exact Int.le_refl _
   ·rw [getD_setN hi, if_neg hmi]
    exact h6 m hm' hmi j
  ·rw [getD_setN hi, if_neg hki]
   exact Int.le_trans (h.kn k m hk hm' j) (hm m hm' j)
 ·rw [List.length_set] at ha hb
  exact (h.pc a b ha hb p hp).mono (hm a ha) (hm b hb)
theorem WInv.setW (h : WInv n A w) {a b : Nat} {l : List Pcl} (ha : a < w.nodes.length) (hb : b < w.nodes.length) (hl : ∀ p ∈ l, InP n A (w.nodes.getD a noNode).st.clock (w.nodes.getD b noNode).st.clock p) : WInv n A ⟨w.nodes, w.way.set a ((w.way.getD a []).set b l)⟩ := by
 have ha' : a < w.way.length := by rw [h.wl]; exact ha
 have hb' : b < (w.way.getD a []).length := by rw [h.wr a ha]; exact hb
 refine ⟨h.n1, h.n6, h.len, by rw [List.length_set]; exact h.wl, fun k hk => ?_, h.fit, h.nd, h.kn, fun k m hk hm p hp => ?_⟩
 ·show ((w.way.set a ((w.way.getD a []).set b l)).getD k []).length = w.nodes.length
  rw [getD_setN ha']
  split
  ·rw [List.length_set]; exact h.wr a ha
  ·exact h.wr k hk
 ·have hp' : p ∈ ((w.way.set a ((w.way.getD a []).set b l)).getD k []).getD m [] := hp
  rw [getD_setN ha'] at hp'
  split at hp'
  ·next e =>
   subst e
   rw [getD_setN hb'] at hp'
   split at hp'
   ·next e => subst e; exact hl p hp'
   ·exact h.pc k m hk hm p hp'
  ·exact h.pc k m hk hm p hp'
/-- One more update is issued, by a node that has seen all of its own. -/
theorem WInv.issue (h : WInv n A w) {i : Nat} {u : Upd} (hi : i < w.nodes.length) (he : issueE (w.nodes.getD i noNode) u = 0) : WInv n (A ++ [ownU (w.nodes.getD i noNode) u]) ⟨w.nodes.set i (issueX (w.nodes.getD i noNode) u), w.way⟩ := by
 obtain ⟨hD, hN, hS, hO⟩ := h.nd i hi
 obtain ⟨d, hd⟩ : ∃ d, w.nodes.getD i noNode = d := ⟨_, rfl⟩
 rw [hd] at he hD hN hS hO ⊢
 have hz := zeroC_good hD.ina.good
 obtain ⟨r1, r2, r3⟩ := issue_right he
 have hX : issueX d u = selfN (playD d (ownU d u)) := by unfold issueX; rw [if_pos he]
 have hp : playN d (ownU d u) = 0 := by
  unfold issueE at he
  split at he
  ·exact he
  ·next h0 => exact absurd he h0
 rw [hD.okm.len] at r1
 obtain ⟨-, hw⟩ := (playN_zero hD.okm).1 hp
 obtain ⟨hwu, hent, hsee⟩ := (fits_iff hD.ina.good).1 hw
 obtain ⟨-, htk⟩ := fits_tick hD.ina.good hw
 obtain ⟨tg, -⟩ := tickL_good A hz h.fit
 have hau : (ownU d u).author.toNat = i := by show d.self.toNat = i; rw [hS]; rfl
 have hwt : wrongL (ownU d u) (totC n A) n = 0 := by
  refine (fits_iff tg).2 ⟨hwu, ?_, fun j => Int.le_trans (hsee j) (hD.ina.le j)⟩
  rw [hau] at hent ⊢
  have := hO
  unfold totC at this
  omega
 obtain ⟨-, htt⟩ := fits_tick tg hwt
 have htot : ∀ j, (totC n (A ++ [ownU d u])).getD j 0 = if j = i then (totC n A).getD j 0 + 1 else (totC n A).getD j 0 := by
  intro j
  unfold totC
  rw [tickL_snoc]
  have := htt j
  unfold totC at this
  rw [this, hau]
 have hA' : errL n (zeroC n.toNat) (A ++ [ownU d u]) = 0 := errL_snoc _ h.fit hwt
 have hD' : InD n (A ++ [ownU d u]) (playD d (ownU d u)) := (hD.more h.fit hwt).playD hA' (by simp) hp
 obtain ⟨pm, pc, ple, -, -⟩ := hD.okm.play hp
 -- the others, first
 have h0 : ∀ k, k < w.nodes.length → k ≠ i → InD n (A ++ [ownU d u]) (w.nodes.getD k noNode) ∧ OkN n (w.nodes.getD k noNode) ∧ (w.nodes.getD k noNode).self = k ∧ (w.nodes.getD k noNode).st.clock.getD k 0 = (totC n (A ++ [ownU d u])).getD k 0 := by
  intro k hk hki
  obtain ⟨k1, k2, k3, k4⟩ := h.nd k hk
  refine ⟨k1.more h.fit hwt, k2, k3, ?_⟩
  rw [htot, if_neg hki]
  exact k4
 have hXc : (issueX d u).st.clock = tickC d.st.clock (ownU d u).author := by rw [hX]; exact pc
 have hXs : (issueX d u).self = i := by rw [hX]; exact hS
 have hXk : (issueX d u).known = d.known.set i (issueX d u).st.clock := by
  rw [hX]
  show d.known.set d.self.toNat _ = _
  rw [hS]
  rfl
 have hm : ∀ k, k < w.nodes.length → ∀ j, (w.nodes.getD k noNode).st.clock.getD j 0 ≤ ((w.nodes.set i (issueX d u)).getD k noNode).st.clock.getD j 0 := by
  intro k hk j
  rw [getD_setN hi]
  split
  ·next e => subst e; rw [hd]; exact r2 j
  ·exact Int.le_refl _
 have hil : i < d.known.length := by have := hD.okm.kl; have := h.len; omega
 refine ⟨h.n1, h.n6, by rw [List.length_set]; exact h.len, by rw [List.length_set]; exact h.wl, fun a ha => ?_, hA', fun k hk => ?_, fun k m hk hm' j => ?_, fun a b ha hb p hp' => ?_⟩
 ·rw [List.length_set] at ha ⊢
  exact h.wr a ha
 ·rw [List.length_set] at hk
  show InD n _ ((w.nodes.set i (issueX d u)).getD k noNode) ∧ OkN n ((w.nodes.set i (issueX d u)).getD k noNode) ∧ ((w.nodes.set i (issueX d u)).getD k noNode).self = k ∧ ((w.nodes.set i (issueX d u)).getD k noNode).st.clock.getD k 0 = _
  rw [getD_setN hi]
  split
  ·next e =>
   subst e
   refine ⟨⟨r1.toOkM, ?_, ?_, ?_⟩, r1, hXs, ?_⟩
   ·rw [hXc, ← pc]; exact hD'.ina
   ·rw [hX]; exact hD'.of
   ·rw [hX]; exact hD'.log
   ·rw [hXc, htk, hau, if_pos rfl, htot, if_pos rfl, hO]
  ·next e => exact h0 k hk e
 ·rw [List.length_set] at hk hm'
  show (((w.nodes.set i (issueX d u)).getD k noNode).known.getD m []).getD j 0 ≤ ((w.nodes.set i (issueX d u)).getD m noNode).st.clock.getD j 0
  by_cases hki : k = i
  ·subst hki
   rw [getD_setN hi, if_pos rfl, hXk, getD_setN hil]
   split
   ·next e => subst e; rw [getD_setN hi, if_pos rfl]; exact Int.le_refl _
   ·next e =>
    have := h.kn k m hk hm' j
    rw [hd] at this
    exact Int.le_trans this (hm m hm' j)
  ·rw [getD_setN hi, if_neg hki]
   exact Int.le_trans (h.kn k m hk hm' j) (hm m hm' j)
 ·rw [List.length_set] at ha hb
  exact ((h.pc a b ha hb p hp').more h.fit hwt).mono (hm a ha) (hm b hb)
theorem WInv.other (h : WInv n A w) {a b : Nat} (ha : a < w.nodes.length) (hb : b < w.nodes.length) (hne : a ≠ b) : otherE (w.nodes.getD a noNode) b = 0 := by
 obtain ⟨hD, hN, hS, -⟩ := h.nd a ha
 have hl := hD.okm.len
 have := h.len
 refine other_zero.2 ⟨by rw [hl]; exact hN, by omega, by omega, ?_⟩
 rw [hS]
 omega
/-- A parcel comes, or the log is too long. -/
theorem WInv.take (h : WInv n A w) {a b : Nat} {p : Pcl} (ha : a < w.nodes.length) (hb : b < w.nodes.length) (hne : a ≠ b) (hp : InP n A (w.nodes.getD a noNode).st.clock (w.nodes.getD b noNode).st.clock p) :
  (takeE (w.nodes.getD b noNode) a p = 0 ∧ (takeX (w.nodes.getD b noNode) a p).st.clock = joinC (w.nodes.getD b noNode).st.clock p.clock ∧ (takeX (w.nodes.getD b noNode) a p).known = ((w.nodes.getD b noNode).known.set a (joinC ((w.nodes.getD b noNode).known.getD a []) p.clock)).set b (joinC (w.nodes.getD b noNode).st.clock p.clock) ∧ WInv n A ⟨w.nodes.set b (takeX (w.nodes.getD b noNode) a p), w.way⟩) ∨ takeE (w.nodes.getD b noNode) a p = 5 := by
 obtain ⟨hD, hN, hS, hO⟩ := h.nd b hb
 obtain ⟨hDa, -, -, -⟩ := h.nd a ha
 have ho := h.other hb ha (fun e => hne e.symm)
 rcases InP.taken hD h.fit hp ho with ⟨t1, t2, t3, t4, t5, t6⟩ | t1
 ·refine .inl ⟨t1, t5, ?_, ?_⟩
  ·rw [t6, hS]; rfl
  ·refine h.setN hb t2 t3 (by rw [t4]; exact hS) (fun j => by rw [t5, joinC_getD]; exact joinI_le.1) ?_ (fun k hk hkb j => ?_)
   ·rw [t5, joinC_getD]
    have h1 := hp.le b
    have h2 := hDa.ina.le b
    unfold joinI
    rw [if_neg (by omega)]
    exact hO
   ·have hal : a < (w.nodes.getD b noNode).known.length := by have := hD.okm.kl; have := h.len; omega
    rw [t6, hS]
    have e1 : (((w.nodes.getD b noNode).known.set ((a : Int)).toNat (joinC ((w.nodes.getD b noNode).known.getD ((a : Int)).toNat []) p.clock)).set ((b : Int)).toNat (joinC (w.nodes.getD b noNode).st.clock p.clock)).getD k [] = if k = a then joinC ((w.nodes.getD b noNode).known.getD a []) p.clock else (w.nodes.getD b noNode).known.getD k [] := by
     have hbl : b < (w.nodes.getD b noNode).known.length := by have := hD.okm.kl; have := h.len; omega
     rw [Int.toNat_natCast, Int.toNat_natCast, getD_setN (by rw [List.length_set]; exact hbl), if_neg hkb, getD_setN hal]
    rw [e1]
    split
    ·next e =>
     subst e
     rw [joinC_getD]
     exact joinI_lub (h.kn b k hb ha j) (hp.le j)
    ·exact h.kn b k hb hk j
 ·exact .inr t1
theorem WInv.prune (h : WInv n A w) {i : Nat} (hi : i < w.nodes.length) : nodeE (w.nodes.getD i noNode) = 0 ∧ WInv n A ⟨w.nodes.set i (pruneX (w.nodes.getD i noNode)), w.way⟩ := by
 obtain ⟨hD, hN, hS, hO⟩ := h.nd i hi
 have he : nodeE (w.nodes.getD i noNode) = 0 := nodeE_zero.2 (by rw [hD.okm.len]; exact hN)
 obtain ⟨q1, q2, q3, q4, q5, q6, q7⟩ := prune_right he
 rw [hD.okm.len] at q1
 refine ⟨he, h.setN hi ⟨q1.toOkM, by rw [q2]; exact hD.ina, by rw [q2]; exact hD.of, fun u hu => ?_⟩ q1 (by rw [q7]; exact hS) (fun j => by rw [q2]; exact Int.le_refl _) (by rw [q2]; exact hO) (fun k hk hki j => by rw [q6]; exact h.kn i k hi hk j)⟩
 have hX : pruneX (w.nodes.getD i noNode) = forgetN (w.nodes.getD i noNode) (allC (w.nodes.getD i noNode)) := by unfold pruneX; rw [if_pos he]
 rw [hX] at hu
 exact hD.log u (List.mem_filter.1 hu).1
theorem isNB_nat {i : Int} (h : isNB w i = true) : ∃ k : Nat, i = k ∧ k < w.nodes.length := by
 have := isNB_iff.1 h
 exact ⟨i.toNat, by omega, by omega⟩
/-- What is on its way first is taken off. -/
theorem WInv.next (h : WInv n A w) {a b : Nat} (ha : a < w.nodes.length) (hb : b < w.nodes.length) : WInv n A (nextX w a b) := by
 unfold nextX
 split
 ·exact h
 ·exact h.setW ha hb fun p hp => h.pc a b ha hb p (List.mem_of_mem_tail hp)
theorem next_in (h : WInv n A w) {a b : Nat} (ha : a < w.nodes.length) (hb : b < w.nodes.length) (hn : ¬ (wayAt w a b).length = 0) : InP n A (w.nodes.getD a noNode).st.clock (w.nodes.getD b noNode).st.clock (nextP w a b) := by
 unfold nextP
 obtain ⟨l, hl⟩ : ∃ l, wayAt w a b = l := ⟨_, rfl⟩
 have hp := h.pc a b ha hb
 have hl' : (w.way.getD a []).getD b [] = l := hl
 rw [hl'] at hp
 rw [hl] at hn ⊢
 cases l with
 | nil => simp at hn
 | cons p r => exact hp p (by simp)
theorem nextX_nodes (w : WdS) (a b : Int) : (nextX w a b).nodes = w.nodes := by unfold nextX; split <;> rfl
theorem newU_none {o : DoS} (h : ¬ o.kind = 1) : newU w o = [] := by unfold newU; rw [if_neg (fun hh => h hh.1)]
theorem wdel_inv (h : WInv n A w) {a b : Nat} (ha : a < w.nodes.length) (hb : b < w.nodes.length) (hne : a ≠ b) : WInv n A (wdelX w a b) ∧ (wdelE w a b = 0 ∨ wdelE w a b = 5 ∨ wdelE w a b = 6) := by
 unfold wdelX wdelE
 by_cases hn : (wayAt w a b).length = 0
 ·have he : nextE w a b = 6 := by unfold nextE; rw [if_pos hn]
  rw [he, if_neg (by decide), if_neg (by decide)]
  exact ⟨h, .inr (.inr rfl)⟩
 ·have he : nextE w a b = 0 := by unfold nextE; rw [if_neg hn]
  rw [he, if_pos rfl, if_pos rfl]
  have hp := next_in h ha hb hn
  have hx := h.next ha hb
  have hno := nextX_nodes w a b
  have hp' : InP n A ((nextX w a b).nodes.getD a noNode).st.clock ((nextX w a b).nodes.getD b noNode).st.clock (nextP w a b) := by rw [hno]; exact hp
  have hnb : isNB (nextX w a b) b = true := isNB_iff.2 ⟨by omega, by rw [hno]; omega⟩
  have hat : nodeAt w b = w.nodes.getD b noNode := rfl
  rw [hat]
  unfold changeX
  rcases hx.take (by rw [hno]; exact ha) (by rw [hno]; exact hb) hne hp' with ⟨t1, -, -, t4⟩ | t1
  ·rw [hno] at t1 t4
   rw [if_pos ⟨hnb, t1⟩]
   exact ⟨by unfold setNode; rw [hno]; exact t4, .inl t1⟩
  ·rw [hno] at t1
   rw [if_neg (by rw [t1]; exact fun hh => absurd hh.2 (by decide))]
   exact ⟨hx, .inr (.inl t1)⟩
theorem WInv.step (h : WInv n A w) (o : DoS) : WInv n (A ++ newU w o) (stepX w o) ∧ (o.kind = 3 → stepE w o = 0 ∨ stepE w o = 5 ∨ stepE w o = 6 ∨ stepE w o = 7) := by
 unfold stepX
 by_cases h1 : o.kind = 1
 ·rw [if_pos h1]
  refine ⟨?_, fun hh => absurd hh (by omega)⟩
  have hE : stepE w o = changeE w o.n (issueE (nodeAt w o.n) o.upd) := by unfold stepE; rw [if_pos h1]
  unfold changeX
  by_cases hc : isNB w o.n = true ∧ issueE (nodeAt w o.n) o.upd = 0
  ·obtain ⟨k, hk, hkl⟩ := isNB_nat hc.1
   have hz : stepE w o = 0 := by rw [hE]; unfold changeE; rw [if_pos hc.1]; exact hc.2
   rw [if_pos hc]
   unfold newU
   rw [if_pos ⟨h1, hz⟩]
   have he := hc.2
   rw [hk] at he ⊢
   exact h.issue hkl he
  ·rw [if_neg hc]
   have hz : ¬ stepE w o = 0 := by
    rw [hE]
    unfold changeE
    split
    ·next hb => exact fun hh => hc ⟨hb, hh⟩
    ·decide
   unfold newU
   rw [if_neg (fun hh => hz hh.2), List.append_nil]
   exact h
 ·rw [if_neg h1, newU_none h1, List.append_nil]
  by_cases h2 : o.kind = 2
  ·rw [if_pos h2]
   refine ⟨?_, fun hh => absurd hh (by omega)⟩
   unfold twoX
   split
   ·next hc =>
    obtain ⟨a, ha, hal⟩ := isNB_nat hc.1
    obtain ⟨b, hb, hbl⟩ := isNB_nat hc.2.1
    have hab := hc.2.2
    rw [ha, hb] at hab ⊢
    have hne : a ≠ b := fun e => hab (by rw [e])
    unfold wsendX
    split
    ·refine h.setW hal hbl fun p hp => ?_
     rcases List.mem_append.1 hp with hp | hp
     ·exact h.pc a b hal hbl p hp
     ·rw [List.mem_singleton] at hp
      subst hp
      exact InP.sent (h.nd a hal).1 (h.other hal hbl hne) fun j => h.kn a b hal hbl j
    ·exact h
   ·exact h
  ·rw [if_neg h2]
   by_cases h3 : o.kind = 3
   ·rw [if_pos h3]
    have hE : stepE w o = twoE w o.n o.dst (wdelE w o.n o.dst) := by unfold stepE; rw [if_neg h1, if_neg h2, if_pos h3]
    rw [hE]
    unfold twoX twoE
    by_cases hc : isNB w o.n = true ∧ isNB w o.dst = true ∧ ¬ o.n = o.dst
    ·rw [if_pos hc, if_pos ⟨hc.1, hc.2.1⟩, if_neg hc.2.2]
     obtain ⟨a, ha, hal⟩ := isNB_nat hc.1
     obtain ⟨b, hb, hbl⟩ := isNB_nat hc.2.1
     have hab := hc.2.2
     rw [ha, hb] at hab ⊢
     have hne : a ≠ b := fun e => hab (by rw [e])
     obtain ⟨d1, d2⟩ := wdel_inv h hal hbl hne
     exact ⟨d1, fun _ => by omega⟩
    ·rw [if_neg hc]
     refine ⟨h, fun _ => ?_⟩
     split
     ·next hh =>
      split
      ·exact .inr (.inr (.inr rfl))
      ·next hq => exact absurd ⟨hh.1, hh.2, hq⟩ hc
     ·exact .inr (.inr (.inl rfl))
   ·rw [if_neg h3]
    refine ⟨?_, fun hh => absurd hh h3⟩
    by_cases h4 : o.kind = 4
    ·rw [if_pos h4]
     unfold twoX
     split
     ·next hc =>
      obtain ⟨a, ha, hal⟩ := isNB_nat hc.1
      obtain ⟨b, hb, hbl⟩ := isNB_nat hc.2.1
      rw [ha, hb]
      exact h.next hal hbl
     ·exact h
    ·rw [if_neg h4]
     by_cases h5 : o.kind = 5
     ·rw [if_pos h5]
      unfold changeX
      split
      ·next hc =>
       obtain ⟨k, hk, hkl⟩ := isNB_nat hc.1
       rw [hk]
       exact (h.prune hkl).2
      ·exact h
     ·rw [if_neg h5]
      exact h
theorem begin_len (k : Nat) : (beginW k).nodes.length = k := by unfold beginW; simp
theorem begin_at {k i : Nat} (hi : i < k) : (beginW k).nodes.getD i noNode = startX i k := by
 unfold beginW
 simp only
 rw [List.getD_eq_getElem?_getD, List.getElem?_map, List.getElem?_range hi]
 rfl
theorem begin_way {k a b : Nat} : ((beginW k).way.getD a []).getD b [] = [] := by
 unfold beginW
 simp only
 rw [List.getD_eq_getElem?_getD (l := List.replicate k (List.replicate k ([] : List Pcl))), List.getElem?_replicate]
 split
 ·simp only [Option.getD_some]
  rw [List.getD_eq_getElem?_getD, List.getElem?_replicate]
  split <;> rfl
 ·simp
theorem start_ok {k i : Nat} (h1 : 1 ≤ k) (h6 : k ≤ 6) (hi : i < k) : startX i k = ⟨i, ⟨zeroC k, [], []⟩, zeroC k, [], List.replicate k (zeroC k)⟩ ∧ OkN k (startX i k) := by
 have hE : startE i k = 0 := by unfold startE; rw [if_pos (by omega), if_pos (by omega)]
 have hX : startX i k = ⟨i, ⟨zeroC k, [], []⟩, zeroC k, [], List.replicate k (zeroC k)⟩ := by
  unfold startX
  rw [if_pos hE]
  rfl
 have hz : wrongC (zeroC k) k = 0 := goodC_iff.2 ⟨by omega, by omega, by unfold zeroC; simp, fun j => by rw [zeroC_getD]; omega⟩
 refine ⟨hX, ?_⟩
 rw [hX]
 have hl : (zeroC k).length = k := by unfold zeroC; simp
 have hg : ∀ m, m < (List.replicate k (zeroC k)).length → (List.replicate k (zeroC k)).getD m [] = zeroC k := by
  intro m hm
  rw [List.length_replicate] at hm
  rw [List.getD_eq_getElem?_getD, List.getElem?_replicate, if_pos hm]
  rfl
 have hs : OkS k (zeroC k) [] [] := okS_zero (n := k) hz
 refine ⟨⟨by rw [hl], hs, by show (0 : Int) ≤ i; omega, by show (i : Int) < k; omega, hz, by simp, rfl, rfl, by simp, fun m hm => ?_⟩, ?_⟩
 ·rw [hg m hm]
  exact ⟨hz, fun j => Int.le_refl _⟩
 ·exact hg i (by simp; exact hi)
theorem begin_inv {k : Nat} (h1 : 1 ≤ k) (h6 : k ≤ 6) : WInv k [] (beginW k) := by
 have hl := begin_len k
 have hz : wrongC (zeroC k) k = 0 := goodC_iff.2 ⟨by omega, by omega, by unfold zeroC; simp, fun j => by rw [zeroC_getD]; omega⟩
 refine ⟨by omega, by omega, by rw [hl], by unfold beginW; simp, fun a ha => ?_, rfl, fun i hi => ?_, fun i m hi hm j => ?_, fun a b ha hb p hp => ?_⟩
 ·rw [hl] at ha ⊢
  unfold beginW
  simp only
  rw [List.getD_eq_getElem?_getD, List.getElem?_replicate, if_pos ha]
  simp
 ·rw [hl] at hi
  rw [begin_at hi]
  obtain ⟨e, ho⟩ := start_ok h1 h6 hi
  refine ⟨⟨ho.toOkM, ?_, ?_, ?_⟩, ho, by rw [e], ?_⟩
  ·rw [e]
   exact ⟨hz, fun u hu => by simp at hu, fun j => Int.le_refl _⟩
  ·rw [e]
   rfl
  ·rw [e]
   intro u hu
   simp at hu
  ·rw [e]
   rfl
 ·rw [hl] at hi hm
  rw [begin_at hi, begin_at hm]
  obtain ⟨e, -⟩ := start_ok h1 h6 hi
  obtain ⟨e2, -⟩ := start_ok h1 h6 hm
  rw [e, e2]
  show ((List.replicate k (zeroC k)).getD m []).getD j 0 ≤ (zeroC k).getD j 0
  rw [List.getD_eq_getElem?_getD (l := List.replicate k (zeroC k)), List.getElem?_replicate, if_pos hm]
  exact Int.le_refl _
 ·rw [begin_way] at hp
  simp at hp
theorem run_inv : ∀ (l : List DoS) {A : List Upd} {w : WdS}, WInv n A w → WInv n (A ++ runU w l) (runX w l)
 | [], A, w, h => by rw [runU, List.append_nil]; exact h
 | o :: r, A, w, h => by
  have := run_inv r (h.step o).1
  rw [List.append_assoc] at this
  exact this
theorem run_all {k : Nat} (h1 : 1 ≤ k) (h6 : k ≤ 6) (l : List DoS) : WInv k (runU (beginW k) l) (runX (beginW k) l) := by
 have := run_inv l (begin_inv h1 h6)
 rw [List.nil_append] at this
 exact this
end
end Go.Proofs.YtbgeblafcbabaaaGreat
/- What is read in a world, what is refused, and what pruning changes: as lists. -/
namespace Go.Proofs.YtbgeblafcbabaaaGreat
open Go.RowKit

section
variable {n : Int} {A : List Upd} {w x : WdS}
theorem setNode_nodes (w : WdS) (i : Int) (d : NdS) : (setNode w i d).nodes = w.nodes.set i.toNat d := rfl
/-- What is refused changes no node. -/
theorem step_refused {o : DoS} (h : ¬ stepE w o = 0) : (stepX w o).nodes = w.nodes := by
 unfold stepX
 unfold stepE at h
 split
 ·next h1 =>
  rw [if_pos h1] at h
  unfold changeX
  unfold changeE at h
  split
  ·next hc => rw [if_pos hc.1] at h; exact absurd hc.2 h
  ·rfl
 ·next h1 =>
  rw [if_neg h1] at h
  split
  ·unfold twoX
   split
   ·unfold wsendX
    split <;> rfl
   ·rfl
  ·next h2 =>
   rw [if_neg h2] at h
   split
   ·next h3 =>
    rw [if_pos h3] at h
    unfold twoX
    split
    ·next hc =>
     unfold twoE at h
     rw [if_pos ⟨hc.1, hc.2.1⟩, if_neg hc.2.2] at h
     unfold wdelX
     unfold wdelE at h
     split
     ·next he =>
      rw [if_pos he] at h
      unfold changeX
      rw [if_neg (fun hh => h hh.2)]
      exact nextX_nodes w _ _
     ·rfl
    ·rfl
   ·next h3 =>
    rw [if_neg h3] at h
    split
    ·unfold twoX
     split
     ·exact nextX_nodes w _ _
     ·rfl
    ·next h4 =>
     rw [if_neg h4] at h
     split
     ·next h5 =>
      rw [if_pos h5] at h
      unfold changeX
      unfold changeE at h
      split
      ·next hc => rw [if_pos hc.1] at h; exact absurd hc.2 h
      ·rfl
     ·rfl
theorem runX_append (w : WdS) (l m : List DoS) : runX w (l ++ m) = runX (runX w l) m := by unfold runX; rw [List.foldl_append]
theorem runE_append (m : List DoS) : ∀ (l : List DoS) (w : WdS), runE w (l ++ m) = runE w l ++ runE (runX w l) m
 | [], w => rfl
 | o :: r, w => by rw [List.cons_append, runE, runE, runE_append m r]; rfl
theorem runU_append (m : List DoS) : ∀ (l : List DoS) (w : WdS), runU w (l ++ m) = runU w l ++ runU (runX w l) m
 | [], w => by simp [runU, runX]
 | o :: r, w => by rw [List.cons_append, runU, runU, runU_append m r, List.append_assoc]; rfl
theorem take_snoc {α : Type} {l : List α} {k : Nat} {o : α} (h : l[k]? = some o) : l.take (k + 1) = l.take k ++ [o] := by
 rw [List.take_add_one, h]
 rfl
theorem drop_cons_of' {α : Type} {l : List α} {k : Nat} {u : α} (h : l[k]? = some u) : l.drop k = u :: l.drop (k + 1) := by
 obtain ⟨h1, h2⟩ := List.getElem?_eq_some_iff.1 h
 rw [List.drop_eq_getElem_cons h1, h2]
theorem runE_at {l : List DoS} {k : Nat} {o : DoS} (w : WdS) (h : l[k]? = some o) : (runE w l)[k]? = some (stepE (runX w (l.take k)) o) := by
 have hk : k < l.length := (List.getElem?_eq_some_iff.1 h).1
 have hs : l = l.take k ++ (o :: l.drop (k + 1)) := by
  rw [← drop_cons_of' h, List.take_append_drop]
 have hl := runE_length (l.take k) w
 rw [List.length_take, Nat.min_eq_left (by omega)] at hl
 rw [hs, runE_append, List.getElem?_append_right (by rw [runE_length, List.length_take]; omega)]
 rw [← hs, hl, Nat.sub_self]
 rfl
/-- The update that was issued is the last one of its node's log. -/
theorem issued_last {o : DoS} (h1 : o.kind = 1) (h : stepE w o = 0) : isNB w o.n = true ∧ (nodeAt (stepX w o) o.n).log = (nodeAt w o.n).log ++ [ownU (nodeAt w o.n) o.upd] ∧ newU w o = [ownU (nodeAt w o.n) o.upd] ∧ (stepX w o).nodes.length = w.nodes.length := by
 have hE := h
 unfold stepE at hE
 rw [if_pos h1] at hE
 unfold changeE at hE
 split at hE
 ·next hb =>
  obtain ⟨k, hk, hkl⟩ := isNB_nat hb
  have hX : stepX w o = setNode w o.n (issueX (nodeAt w o.n) o.upd) := by unfold stepX changeX; rw [if_pos h1, if_pos ⟨hb, hE⟩]
  have hI : issueX (nodeAt w o.n) o.upd = selfN (playD (nodeAt w o.n) (ownU (nodeAt w o.n) o.upd)) := by unfold issueX; rw [if_pos hE]
  refine ⟨hb, ?_, by unfold newU; rw [if_pos ⟨h1, h⟩], by rw [hX]; unfold setNode; simp⟩
  rw [hX]
  have : nodeAt (setNode w o.n (issueX (nodeAt w o.n) o.upd)) o.n = issueX (nodeAt w o.n) o.upd := by
   unfold nodeAt
   rw [setNode_nodes, getD_setN (by rw [hk]; exact hkl), if_pos rfl]
  rw [this, hI]
  rfl
 ·exact absurd hE (by decide)
theorem stepX_len (w : WdS) (o : DoS) : (stepX w o).nodes.length = w.nodes.length := by
 unfold stepX changeX twoX wsendX wdelX
 split
 ·split <;> simp [setNode]
 ·split
  ·split
   ·split <;> simp [setWay]
   ·rfl
  ·split
   ·split
    ·split
     ·unfold changeX
      split
      ·rw [setNode_nodes, List.length_set, nextX_nodes]
      ·rw [nextX_nodes]
     ·rfl
    ·rfl
   ·split
    ·split
     ·rw [nextX_nodes]
     ·rfl
    ·split
     ·split <;> simp [setNode]
     ·rfl
theorem runX_len : ∀ (l : List DoS) (w : WdS), (runX w l).nodes.length = w.nodes.length
 | [], _ => rfl
 | o :: r, w => by
  show (runX (stepX w o) r).nodes.length = _
  rw [runX_len r, stepX_len]
/-- What is played from the beginning. -/
theorem read_play (h : WInv n A w) {i : Nat} (hi : i < w.nodes.length) (hA : A.length ≤ 300) :
  playE ⟨zeroC n.toNat, [], []⟩ (mine (w.nodes.getD i noNode).st.clock A) = 0 ∧ playX ⟨zeroC n.toNat, [], []⟩ (mine (w.nodes.getD i noNode).st.clock A) = (w.nodes.getD i noNode).st := by
 obtain ⟨hD, -, -, -⟩ := h.nd i hi
 have hz := zeroC_good hD.ina.good
 have hl : ((zeroC n.toNat).length : Int) = n := by unfold zeroC; have := h.n1; simp; omega
 have hf := (of_fits hD.ina.good h.fit).2 hD.ina.cl
 have he : playE ⟨zeroC n.toNat, [], []⟩ (mine (w.nodes.getD i noNode).st.clock A) = 0 := by
  refine playE_iff.2 ⟨?_, Nat.le_trans (List.length_filter_le _ _) hA, ?_⟩
  ·show OkS ((zeroC n.toNat).length : Int) (zeroC n.toNat) [] []
   rw [hl]
   exact okS_zero hD.ina.good
  ·show errL ((zeroC n.toNat).length : Int) (zeroC n.toNat) _ = 0
   rw [hl]
   exact hf
 refine ⟨he, ?_⟩
 unfold playX
 rw [if_pos he]
 exact hD.of.symm
theorem same_clock (h : WInv n A w) {i k : Nat} (hi : i < w.nodes.length) (hk : k < w.nodes.length) (he : (w.nodes.getD i noNode).st.clock = (w.nodes.getD k noNode).st.clock) : (w.nodes.getD i noNode).st = (w.nodes.getD k noNode).st := by
 rw [(h.nd i hi).1.of, (h.nd k hk).1.of, he]
/-- Two worlds that took the same, but for what was pruned. -/
structure SimW (n : Int) (A : List Upd) (w x : WdS) : Prop where
 iw : WInv n A w
 ix : WInv n A x
 ck : ∀ i, i < w.nodes.length → (w.nodes.getD i noNode).st.clock = (x.nodes.getD i noNode).st.clock
 kn : ∀ i, i < w.nodes.length → (w.nodes.getD i noNode).known = (x.nodes.getD i noNode).known
 wy : ∀ a b, a < w.nodes.length → b < w.nodes.length → ((w.way.getD a []).getD b []).map (·.clock) = ((x.way.getD a []).getD b []).map (·.clock)
theorem SimW.len (h : SimW n A w x) : w.nodes.length = x.nodes.length := by have := h.iw.len; have := h.ix.len; omega
theorem SimW.nb (h : SimW n A w x) (i : Int) : isNB w i = isNB x i := by unfold isNB; rw [h.len]
theorem SimW.st (h : SimW n A w x) {i : Nat} (hi : i < w.nodes.length) : (w.nodes.getD i noNode).st = (x.nodes.getD i noNode).st := by
 rw [(h.iw.nd i hi).1.of, (h.ix.nd i (by rw [← h.len]; exact hi)).1.of, h.ck i hi]
theorem SimW.wlen (h : SimW n A w x) {a b : Nat} (ha : a < w.nodes.length) (hb : b < w.nodes.length) : (wayAt w a b).length = (wayAt x a b).length := by
 have := congrArg List.length (h.wy a b ha hb)
 rw [List.length_map, List.length_map] at this
 exact this
/-- Both nodes are replaced. -/
theorem SimW.setN (h : SimW n A w x) {A' : List Upd} {i : Nat} {d e : NdS} (hi : i < w.nodes.length) (hw : WInv n A' ⟨w.nodes.set i d, w.way⟩) (hx : WInv n A' ⟨x.nodes.set i e, x.way⟩) (h1 : d.st.clock = e.st.clock) (h2 : d.known = e.known) : SimW n A' ⟨w.nodes.set i d, w.way⟩ ⟨x.nodes.set i e, x.way⟩ := by
 have hi' : i < x.nodes.length := by rw [← h.len]; exact hi
 refine ⟨hw, hx, fun k hk => ?_, fun k hk => ?_, fun a b ha hb => ?_⟩
 ·rw [List.length_set] at hk
  show ((w.nodes.set i d).getD k noNode).st.clock = ((x.nodes.set i e).getD k noNode).st.clock
  rw [getD_setN hi, getD_setN hi']
  split
  ·exact h1
  ·exact h.ck k hk
 ·rw [List.length_set] at hk
  show ((w.nodes.set i d).getD k noNode).known = ((x.nodes.set i e).getD k noNode).known
  rw [getD_setN hi, getD_setN hi']
  split
  ·exact h2
  ·exact h.kn k hk
 ·rw [List.length_set] at ha hb
  exact h.wy a b ha hb
theorem SimW.setW (h : SimW n A w x) {a b : Nat} {l m : List Pcl} (ha : a < w.nodes.length) (hb : b < w.nodes.length) (hw : WInv n A ⟨w.nodes, w.way.set a ((w.way.getD a []).set b l)⟩) (hx : WInv n A ⟨x.nodes, x.way.set a ((x.way.getD a []).set b m)⟩) (hlm : l.map (·.clock) = m.map (·.clock)) : SimW n A ⟨w.nodes, w.way.set a ((w.way.getD a []).set b l)⟩ ⟨x.nodes, x.way.set a ((x.way.getD a []).set b m)⟩ := by
 have hl := h.len
 refine ⟨hw, hx, h.ck, h.kn, fun c d hc hd => ?_⟩
 show (((w.way.set a ((w.way.getD a []).set b l)).getD c []).getD d []).map (·.clock) = (((x.way.set a ((x.way.getD a []).set b m)).getD c []).getD d []).map (·.clock)
 rw [getD_setN (by rw [h.iw.wl]; exact ha), getD_setN (by rw [h.ix.wl, ← hl]; exact ha)]
 split
 ·next e =>
  subst e
  rw [getD_setN (by rw [h.iw.wr c ha]; exact hb), getD_setN (by rw [h.ix.wr c (by rw [← hl]; exact ha), ← hl]; exact hb)]
  split
  ·exact hlm
  ·exact h.wy c d hc hd
 ·exact h.wy c d hc hd
theorem way_head {l m : List Pcl} (h : l.map (·.clock) = m.map (·.clock)) : (l.headD noPcl).clock = (m.headD noPcl).clock ∧ l.tail.map (·.clock) = m.tail.map (·.clock) := by
 cases l with
 | nil =>
  cases m with
  | nil => exact ⟨rfl, rfl⟩
  | cons y s => simp at h
 | cons a r =>
  cases m with
  | nil => simp at h
  | cons b s =>
   simp only [List.map_cons, List.cons.injEq] at h
   exact ⟨h.1, h.2⟩
theorem SimW.next (h : SimW n A w x) {a b : Nat} (ha : a < w.nodes.length) (hb : b < w.nodes.length) : SimW n A (nextX w a b) (nextX x a b) := by
 have hl := h.wlen ha hb
 have hi1 := h.iw.next ha hb
 have hi2 := h.ix.next (a := a) (b := b) (by rw [← h.len]; exact ha) (by rw [← h.len]; exact hb)
 unfold nextX at hi1 hi2 ⊢
 by_cases hn : (wayAt w a b).length = 0
 ·rw [if_pos hn, if_pos (by omega)]
  exact h
 ·rw [if_neg hn] at hi1
  rw [if_neg (by omega)] at hi2
  rw [if_neg hn, if_neg (by omega)]
  exact h.setW ha hb hi1 hi2 (way_head (h.wy a b ha hb)).2
theorem SimW.step (h : SimW n A w x) (o : DoS) (ho : ¬ o.kind = 5) (hw : ¬ stepE w o = 5) (hx : ¬ stepE x o = 5) : SimW n (A ++ newU w o) (stepX w o) (stepX x o) := by
 have hl := h.len
 have iw := (h.iw.step o).1
 have ix := (h.ix.step o).1
 by_cases h1 : o.kind = 1
 ·have e1 : stepE w o = changeE w o.n (issueE (nodeAt w o.n) o.upd) := by unfold stepE; rw [if_pos h1]
  have e2 : stepE x o = changeE x o.n (issueE (nodeAt x o.n) o.upd) := by unfold stepE; rw [if_pos h1]
  have x1 : stepX w o = changeX w o.n (issueE (nodeAt w o.n) o.upd) (issueX (nodeAt w o.n) o.upd) := by unfold stepX; rw [if_pos h1]
  have x2 : stepX x o = changeX x o.n (issueE (nodeAt x o.n) o.upd) (issueX (nodeAt x o.n) o.upd) := by unfold stepX; rw [if_pos h1]
  by_cases hb : isNB w o.n = true
  ·have hb' : isNB x o.n = true := by rw [← h.nb]; exact hb
   obtain ⟨k, hk, hkl⟩ := isNB_nat hb
   have hkl' : k < x.nodes.length := by rw [← hl]; exact hkl
   obtain ⟨wD, wN, wS, wO⟩ := h.iw.nd k hkl
   obtain ⟨xD, xN, xS, xO⟩ := h.ix.nd k hkl'
   have hnw : nodeAt w o.n = w.nodes.getD k noNode := by rw [hk]; rfl
   have hnx : nodeAt x o.n = x.nodes.getD k noNode := by rw [hk]; rfl
   have hst := h.st hkl
   have hz1 : nodeE (w.nodes.getD k noNode) = 0 := nodeE_zero.2 (by rw [wD.okm.len]; exact wN)
   have hz2 : nodeE (x.nodes.getD k noNode) = 0 := nodeE_zero.2 (by rw [xD.okm.len]; exact xN)
   have hou : ownU (w.nodes.getD k noNode) o.upd = ownU (x.nodes.getD k noNode) o.upd := by unfold ownU; rw [wS, xS, hst]
   rw [e1] at hw
   rw [e2] at hx
   unfold changeE at hw hx
   rw [if_pos hb, hnw] at hw
   rw [if_pos hb', hnx] at hx
   have g1 : issueE (w.nodes.getD k noNode) o.upd = playE (w.nodes.getD k noNode).st [ownU (w.nodes.getD k noNode) o.upd] := by
    unfold issueE at hw ⊢
    rw [if_pos hz1] at hw ⊢
    unfold playN at hw ⊢
    split at hw
    ·exact absurd rfl hw
    ·next hh => rw [if_neg hh]
   have g2 : issueE (x.nodes.getD k noNode) o.upd = playE (x.nodes.getD k noNode).st [ownU (x.nodes.getD k noNode) o.upd] := by
    unfold issueE at hx ⊢
    rw [if_pos hz2] at hx ⊢
    unfold playN at hx ⊢
    split at hx
    ·exact absurd rfl hx
    ·next hh => rw [if_neg hh]
   have gE : issueE (w.nodes.getD k noNode) o.upd = issueE (x.nodes.getD k noNode) o.upd := by rw [g1, g2, hou, hst]
   have gN : newU w o = newU x o := by
    have q1 : stepE w o = stepE x o := by rw [e1, e2]; unfold changeE; rw [if_pos hb, if_pos hb', hnw, hnx, gE]
    unfold newU
    rw [q1, hnw, hnx, hou]
   rw [← gN] at ix
   rw [x1] at iw ⊢
   rw [x2] at ix ⊢
   unfold changeX at iw ix ⊢
   rw [hnw] at iw ⊢
   rw [hnx] at ix ⊢
   by_cases hE : issueE (w.nodes.getD k noNode) o.upd = 0
   ·rw [if_pos ⟨hb, hE⟩] at iw ⊢
    rw [if_pos ⟨hb', by rw [← gE]; exact hE⟩] at ix ⊢
    unfold setNode at iw ix ⊢
    rw [hk] at iw ix ⊢
    have s1 : issueX (w.nodes.getD k noNode) o.upd = selfN (playD (w.nodes.getD k noNode) (ownU (w.nodes.getD k noNode) o.upd)) := by unfold issueX; rw [if_pos hE]
    have s2 : issueX (x.nodes.getD k noNode) o.upd = selfN (playD (x.nodes.getD k noNode) (ownU (x.nodes.getD k noNode) o.upd)) := by unfold issueX; rw [if_pos (by rw [← gE]; exact hE)]
    have c1 : (issueX (w.nodes.getD k noNode) o.upd).st = (issueX (x.nodes.getD k noNode) o.upd).st := by
     rw [s1, s2]
     show playX _ _ = playX _ _
     rw [hou, hst]
    refine h.setN hkl iw ix (by rw [c1]) ?_
    have k1 : (issueX (w.nodes.getD k noNode) o.upd).known = (w.nodes.getD k noNode).known.set (w.nodes.getD k noNode).self.toNat (issueX (w.nodes.getD k noNode) o.upd).st.clock := by rw [s1]; rfl
    have k2 : (issueX (x.nodes.getD k noNode) o.upd).known = (x.nodes.getD k noNode).known.set (x.nodes.getD k noNode).self.toNat (issueX (x.nodes.getD k noNode) o.upd).st.clock := by rw [s2]; rfl
    rw [k1, k2, c1, wS, xS, h.kn k hkl]
   ·rw [if_neg (fun hh => hE hh.2)] at iw ⊢
    rw [if_neg (fun hh => hE (by rw [gE]; exact hh.2))] at ix ⊢
    exact ⟨iw, ix, h.ck, h.kn, h.wy⟩
  ·have hb' : ¬ isNB x o.n = true := by rw [← h.nb]; exact hb
   have gN : newU w o = newU x o := by
    unfold newU
    rw [e1, e2]
    unfold changeE
    rw [if_neg hb, if_neg hb', if_neg (fun hh => absurd hh.2 (by decide)), if_neg (fun hh => absurd hh.2 (by decide))]
   rw [← gN] at ix
   rw [x1] at iw ⊢
   rw [x2] at ix ⊢
   unfold changeX at iw ix ⊢
   rw [if_neg (fun hh => hb hh.1)] at iw ⊢
   rw [if_neg (fun hh => hb' hh.1)] at ix ⊢
   exact ⟨iw, ix, h.ck, h.kn, h.wy⟩
 ·rw [newU_none h1, List.append_nil] at iw ix ⊢
  by_cases h2 : o.kind = 2 ∨ o.kind = 3 ∨ o.kind = 4
  ·by_cases hc : isNB w o.n = true ∧ isNB w o.dst = true ∧ ¬ o.n = o.dst
   ·have hc' : isNB x o.n = true ∧ isNB x o.dst = true ∧ ¬ o.n = o.dst := by rw [← h.nb, ← h.nb]; exact hc
    obtain ⟨a, ha, hal⟩ := isNB_nat hc.1
    obtain ⟨b, hb, hbl⟩ := isNB_nat hc.2.1
    have hab := hc.2.2
    rw [ha, hb] at hab
    have hne : a ≠ b := fun e => hab (by rw [e])
    have hal' : a < x.nodes.length := by rw [← hl]; exact hal
    have hbl' : b < x.nodes.length := by rw [← hl]; exact hbl
    have hlen := h.wlen hal hbl
    rcases h2 with h2 | h2 | h2
    ·have x1 : stepX w o = wsendX w a b := by unfold stepX twoX; rw [if_neg h1, if_pos h2, if_pos hc, ha, hb]
     have x2 : stepX x o = wsendX x a b := by unfold stepX twoX; rw [if_neg h1, if_pos h2, if_pos hc', ha, hb]
     have q1 : wsendE w a b = wsendE x a b := by
      have r1 : otherE (nodeAt w a) b = 0 := h.iw.other hal hbl hne
      have r2 : otherE (nodeAt x a) b = 0 := h.ix.other hal' hbl' hne
      unfold wsendE
      rw [hlen, r1, r2]
     rw [x1] at iw ⊢
     rw [x2] at ix ⊢
     unfold wsendX at iw ix ⊢
     by_cases hE : wsendE w a b = 0
     ·rw [if_pos hE] at iw ⊢
      rw [if_pos (by rw [← q1]; exact hE)] at ix ⊢
      refine h.setW hal hbl iw ix ?_
      have r1 : otherE (nodeAt w a) b = 0 := h.iw.other hal hbl hne
      have r2 : otherE (nodeAt x a) b = 0 := h.ix.other hal' hbl' hne
      have c1 : (sendX (nodeAt w a) b).clock = (nodeAt w a).st.clock := by unfold sendX; rw [if_pos r1]; split <;> rfl
      have c2 : (sendX (nodeAt x a) b).clock = (nodeAt x a).st.clock := by unfold sendX; rw [if_pos r2]; split <;> rfl
      have c3 : (nodeAt w a).st.clock = (nodeAt x a).st.clock := h.ck a hal
      have c4 := h.wy a b hal hbl
      have c5 : (wayAt w a b).map (·.clock) = (wayAt x a b).map (·.clock) := c4
      rw [List.map_append, List.map_append, c5]
      simp only [List.map_cons, List.map_nil, c1, c2, c3]
     ·rw [if_neg hE] at iw ⊢
      rw [if_neg (by rw [← q1]; exact hE)] at ix ⊢
      exact h
    ·have n2 : ¬ o.kind = 2 := by omega
     have x1 : stepX w o = wdelX w a b := by unfold stepX twoX; rw [if_neg h1, if_neg n2, if_pos h2, if_pos hc, ha, hb]
     have x2 : stepX x o = wdelX x a b := by unfold stepX twoX; rw [if_neg h1, if_neg n2, if_pos h2, if_pos hc', ha, hb]
     have e1 : stepE w o = wdelE w a b := by unfold stepE twoE; rw [if_neg h1, if_neg n2, if_pos h2, if_pos ⟨hc.1, hc.2.1⟩, if_neg hc.2.2, ha, hb]
     have e2 : stepE x o = wdelE x a b := by unfold stepE twoE; rw [if_neg h1, if_neg n2, if_pos h2, if_pos ⟨hc'.1, hc'.2.1⟩, if_neg hc'.2.2, ha, hb]
     rw [e1] at hw
     rw [e2] at hx
     rw [x1] at iw ⊢
     rw [x2] at ix ⊢
     unfold wdelX at iw ix ⊢
     unfold wdelE at hw hx
     by_cases hn : (wayAt w a b).length = 0
     ·have z1 : nextE w a b = 6 := by unfold nextE; rw [if_pos hn]
      have z2 : nextE x a b = 6 := by unfold nextE; rw [if_pos (by omega)]
      rw [z1, if_neg (by decide)] at iw ⊢
      rw [z2, if_neg (by decide)] at ix ⊢
      exact h
     ·have z1 : nextE w a b = 0 := by unfold nextE; rw [if_neg hn]
      have z2 : nextE x a b = 0 := by unfold nextE; rw [if_neg (by omega)]
      rw [z1, if_pos rfl] at iw hw ⊢
      rw [z2, if_pos rfl] at ix hx ⊢
      have hs := h.next hal hbl
      have m1 := nextX_nodes w a b
      have m2 := nextX_nodes x a b
      have p1 : InP n A ((nextX w a b).nodes.getD a noNode).st.clock ((nextX w a b).nodes.getD b noNode).st.clock (nextP w a b) := by rw [m1]; exact next_in h.iw hal hbl hn
      have p2 : InP n A ((nextX x a b).nodes.getD a noNode).st.clock ((nextX x a b).nodes.getD b noNode).st.clock (nextP x a b) := by rw [m2]; exact next_in h.ix hal' hbl' (by omega)
      have pc : (nextP w a b).clock = (nextP x a b).clock := (way_head (h.wy a b hal hbl)).1
      have aw : nodeAt w b = w.nodes.getD b noNode := rfl
      have ax : nodeAt x b = x.nodes.getD b noNode := rfl
      rw [aw] at hw iw ⊢
      rw [ax] at hx ix ⊢
      rcases hs.iw.take (by rw [m1]; exact hal) (by rw [m1]; exact hbl) hne p1 with ⟨t1, t2, t3, t4⟩ | t1
      ·rcases hs.ix.take (by rw [m2]; exact hal') (by rw [m2]; exact hbl') hne p2 with ⟨s1, s2, s3, s4⟩ | s1
       ·rw [m1] at t1 t2 t3 t4
        rw [m2] at s1 s2 s3 s4
        have nb1 : isNB (nextX w a b) b = true := isNB_iff.2 ⟨by omega, by rw [m1]; omega⟩
        have nb2 : isNB (nextX x a b) b = true := isNB_iff.2 ⟨by omega, by rw [m2]; omega⟩
        unfold changeX at iw ix ⊢
        rw [if_pos ⟨nb1, t1⟩] at iw ⊢
        rw [if_pos ⟨nb2, s1⟩] at ix ⊢
        have hck := h.ck b hbl
        have hkn := h.kn b hbl
        exact hs.setN (i := b) (by rw [m1]; exact hbl) iw ix (by rw [t2, s2, hck, pc]) (by rw [t3, s3, hck, pc, hkn])
       ·rw [m2] at s1
        exact absurd s1 hx
      ·rw [m1] at t1
       exact absurd t1 hw
    ·have n2 : ¬ o.kind = 2 := by omega
     have n3 : ¬ o.kind = 3 := by omega
     have x1 : stepX w o = nextX w a b := by unfold stepX twoX; rw [if_neg h1, if_neg n2, if_neg n3, if_pos h2, if_pos hc, ha, hb]
     have x2 : stepX x o = nextX x a b := by unfold stepX twoX; rw [if_neg h1, if_neg n2, if_neg n3, if_pos h2, if_pos hc', ha, hb]
     rw [x1, x2]
     exact h.next hal hbl
   ·have hc' : ¬ (isNB x o.n = true ∧ isNB x o.dst = true ∧ ¬ o.n = o.dst) := by rw [← h.nb, ← h.nb]; exact hc
    have two : ∀ (z : WdS), twoX w o.n o.dst z = w := fun z => by unfold twoX; rw [if_neg hc]
    have two' : ∀ (z : WdS), twoX x o.n o.dst z = x := fun z => by unfold twoX; rw [if_neg hc']
    have x1 : stepX w o = w := by
     unfold stepX
     rw [if_neg h1, two, two, two]
     rcases h2 with h2 | h2 | h2
     ·rw [if_pos h2]
     ·rw [if_neg (by omega), if_pos h2]
     ·rw [if_neg (by omega), if_neg (by omega), if_pos h2]
    have x2 : stepX x o = x := by
     unfold stepX
     rw [if_neg h1, two', two', two']
     rcases h2 with h2 | h2 | h2
     ·rw [if_pos h2]
     ·rw [if_neg (by omega), if_pos h2]
     ·rw [if_neg (by omega), if_neg (by omega), if_pos h2]
    rw [x1, x2]
    exact h
  ·have x1 : stepX w o = w := by unfold stepX; rw [if_neg h1, if_neg (by omega), if_neg (by omega), if_neg (by omega), if_neg ho]
   have x2 : stepX x o = x := by unfold stepX; rw [if_neg h1, if_neg (by omega), if_neg (by omega), if_neg (by omega), if_neg ho]
   rw [x1, x2]
   exact h
theorem SimW.prune (h : SimW n A w x) (o : DoS) (ho : o.kind = 5) : SimW n A (stepX w o) x := by
 have x1 : stepX w o = changeX w o.n (nodeE (nodeAt w o.n)) (pruneX (nodeAt w o.n)) := by unfold stepX; rw [if_neg (by omega), if_neg (by omega), if_neg (by omega), if_neg (by omega), if_pos ho]
 rw [x1]
 unfold changeX
 split
 ·next hc =>
  obtain ⟨k, hk, hkl⟩ := isNB_nat hc.1
  have hat : nodeAt w o.n = w.nodes.getD k noNode := by rw [hk]; rfl
  obtain ⟨q1, q2, q3, q4, q5, q6, q7⟩ := prune_right hc.2
  rw [hat] at q2 q6 ⊢
  have hw := (h.iw.prune hkl).2
  unfold setNode
  rw [hk]
  refine ⟨hw, h.ix, fun i hi => ?_, fun i hi => ?_, fun a b ha hb => ?_⟩
  ·rw [List.length_set] at hi
   show ((w.nodes.set k _).getD i noNode).st.clock = _
   rw [getD_setN hkl]
   split
   ·next e => subst e; rw [q2]; exact h.ck i hi
   ·exact h.ck i hi
  ·rw [List.length_set] at hi
   show ((w.nodes.set k _).getD i noNode).known = _
   rw [getD_setN hkl]
   split
   ·next e => subst e; rw [q6]; exact h.kn i hi
   ·exact h.kn i hi
  ·rw [List.length_set] at ha hb
   exact h.wy a b ha hb
 ·exact h
def noPrune (l : List DoS) : List DoS := l.filter fun o => !decide (o.kind = 5)
theorem sim_run : ∀ (l : List DoS) {A : List Upd} {w x : WdS}, SimW n A w x → (∀ e ∈ runE w l, ¬ e = 5) → (∀ e ∈ runE x (noPrune l), ¬ e = 5) → ∃ A', SimW n A' (runX w l) (runX x (noPrune l))
 | [], A, w, x, h, _, _ => ⟨A, h⟩
 | o :: r, A, w, x, h, h1, h2 => by
  rw [runE] at h1
  by_cases ho : o.kind = 5
  ·have e : noPrune (o :: r) = noPrune r := by unfold noPrune; rw [List.filter_cons]; simp [ho]
   rw [e] at h2 ⊢
   exact sim_run r (h.prune o ho) (fun q hq => h1 q (by simp [hq])) h2
  ·have e : noPrune (o :: r) = o :: noPrune r := by unfold noPrune; rw [List.filter_cons]; simp [ho]
   rw [e] at h2 ⊢
   rw [runE] at h2
   exact sim_run r (h.step o ho (h1 _ (by simp)) (h2 _ (by simp))) (fun q hq => h1 q (by simp [hq])) (fun q hq => h2 q (by simp [hq]))
theorem prune_same {k : Nat} (h1 : 1 ≤ k) (h6 : k ≤ 6) (l : List DoS) (hw : ∀ e ∈ runE (beginW k) l, ¬ e = 5) (hx : ∀ e ∈ runE (beginW k) (noPrune l), ¬ e = 5) (i : Nat) (hi : i < k) : ((runX (beginW k) l).nodes.getD i noNode).st = ((runX (beginW k) (noPrune l)).nodes.getD i noNode).st := by
 have hb := begin_inv h1 h6
 obtain ⟨A', h⟩ := sim_run l (n := k) ⟨hb, hb, fun _ _ => rfl, fun _ _ => rfl, fun _ _ _ _ => rfl⟩ hw hx
 exact h.st (by rw [runX_len, begin_len]; exact hi)
end
end Go.Proofs.YtbgeblafcbabaaaGreat
/- In the end all read the same: as lists. -/
namespace Go.Proofs.YtbgeblafcbabaaaGreat
open Go.RowKit

section
variable {n : Int} {A : List Upd} {w : WdS}
theorem nodup_len {α : Type} : ∀ (l : List α) {A : List α}, l.Nodup → (∀ x ∈ l, x ∈ A) → l.length ≤ A.length
 | [], _, _, _ => Nat.zero_le _
 | x :: r, A, hn, hs => by
  obtain ⟨s, t, rfl⟩ := List.append_of_mem (hs x (by simp))
  obtain ⟨h1, h2⟩ := List.nodup_cons.1 hn
  have := nodup_len r (A := s ++ t) h2 fun y hy => by
   have hy' := hs y (by simp [hy])
   rcases List.mem_append.1 hy' with h | h
   ·exact List.mem_append.2 (.inl h)
   ·rcases List.mem_cons.1 h with h | h
    ·subst h; exact absurd hy h1
    ·exact List.mem_append.2 (.inr h)
  simp only [List.length_append, List.length_cons] at this ⊢
  omega
theorem getD_out {xs : List Int} {j : Nat} (h : xs.length ≤ j) : xs.getD j 0 = 0 := by
 rw [List.getD_eq_getElem?_getD, List.getElem?_eq_none h]
 rfl
theorem log_few {xs : List Int} {l : List Upd} (hg : wrongC xs n = 0) (hf : errL n xs l = 0) (hs : ∀ u ∈ l, u ∈ A) : l.length ≤ A.length := nodup_len l (once_nodup (errL_once l hg hf).2) hs
theorem InD.few {d : NdS} (h : InD n A d) : d.log.length ≤ A.length := log_few h.okm.base h.okm.fits h.log
theorem InP.ok {d : NdS} {i : Int} {ca : List Int} {p : Pcl} (h : InD n A d) (hA : errL n (zeroC n.toNat) A = 0) (hp : InP n A ca d.st.clock p) (hs : otherE d i = 0) (hf : A.length ≤ 150) : ¬ takeE d i p = 5 := by
 rcases InP.taken h hA hp hs with ⟨t1, -⟩ | t1
 ·omega
 ·obtain ⟨hok, hi0, hi1, hno⟩ := other_zero.1 hs
  have hpc : wrongC p.clock d.st.clock.length = 0 := by rw [h.okm.len]; exact hp.good
  obtain ⟨q1, q2, q3⟩ := h.tstX hA (p := p) fun hw => by
   obtain ⟨h1, h2, h3, h4⟩ := hp.whole hw
   rw [h2]
   exact ⟨h3, h4⟩
  have main : upsE (tstX d p) p.ups = 0 := by
   cases hw : p.whole
   ·obtain ⟨xs, l, k, h1, h2, h3, h4, h5, h6, h7, h8⟩ := hp.part hw
    have hx : tstX d p = d := by unfold tstX; rw [if_neg (by rw [hw]; decide)]
    rw [hx, h7]
    have f1 := h.few
    have f2 := log_few h1 h2 h8
    have f3 : (lacksL l k).length ≤ l.length := lacks_few
    exact (ups_lack h4 l h1 h2 h.okm h5 h6 (by omega)).1
   ·obtain ⟨h1, -⟩ := hp.whole hw
    rw [h1]
    rfl
  unfold takeE
  rw [if_pos hs, if_pos hpc, if_pos q1, if_pos main]
  split <;> decide

def noUpd : Upd := ⟨0, [], 0, 0, 0⟩
def dropD (a b : Nat) : DoS := ⟨4, a, b, noUpd⟩
def sendD (a b : Nat) : DoS := ⟨2, a, b, noUpd⟩
def delD (a b : Nat) : DoS := ⟨3, a, b, noUpd⟩
def pruneD (a : Nat) : DoS := ⟨5, a, 0, noUpd⟩
theorem isNB_of {a : Nat} (ha : a < w.nodes.length) : isNB w a = true := isNB_iff.2 ⟨by omega, by omega⟩
theorem wayAt_set {a b c d : Nat} {l : List Pcl} (h : WInv n A w) (ha : a < w.nodes.length) (hb : b < w.nodes.length) : wayAt (setWay w a b l) c d = if c = a ∧ d = b then l else wayAt w c d := by
 unfold wayAt setWay
 simp only [Int.toNat_natCast]
 rw [getD_setN (by rw [h.wl]; exact ha)]
 by_cases hc : c = a
 ·subst hc
  rw [if_pos rfl, getD_setN (by rw [h.wr c ha]; exact hb)]
  by_cases hd : d = b
  ·rw [if_pos hd, if_pos ⟨rfl, hd⟩]
  ·rw [if_neg hd, if_neg (fun hh => hd hh.2)]
 ·rw [if_neg hc, if_neg (fun hh => hc hh.1)]
/-- Nothing is on its way. -/
def Still (w : WdS) : Prop := ∀ a b : Nat, a < w.nodes.length → b < w.nodes.length → wayAt w a b = []
/-- One tells another one what it lacks, and that comes. -/
theorem tell_two (h : WInv n A w) (hs : Still w) (hf : A.length ≤ 150) {a b : Nat} (ha : a < w.nodes.length) (hb : b < w.nodes.length) (hne : a ≠ b) :
  ∃ d, WInv n A (runX w [sendD a b, delD a b]) ∧ Still (runX w [sendD a b, delD a b]) ∧ (runX w [sendD a b, delD a b]).nodes = w.nodes.set b d ∧ d.st.clock = joinC (w.nodes.getD b noNode).st.clock (w.nodes.getD a noNode).st.clock ∧ d.known = ((w.nodes.getD b noNode).known.set a (joinC ((w.nodes.getD b noNode).known.getD a []) (w.nodes.getD a noNode).st.clock)).set b (joinC (w.nodes.getD b noNode).st.clock (w.nodes.getD a noNode).st.clock) ∧ runE w [sendD a b, delD a b] = [0, 0] := by
 have na := isNB_of ha
 have nb := isNB_of hb
 have nab : ¬ ((a : Int) = (b : Int)) := by omega
 have hw := hs a b ha hb
 have ho := h.other ha hb hne
 have hoa : otherE (nodeAt w a) b = 0 := ho
 have e1 : wsendE w a b = 0 := by unfold wsendE; rw [hw, if_neg (by simp)]; exact hoa
 have s1 : stepX w (sendD a b) = setWay w a b [sendX (nodeAt w a) b] := by
  unfold stepX sendD twoX wsendX
  simp only
  rw [if_neg (by decide), if_pos True.intro, if_pos ⟨na, nb, nab⟩, if_pos e1, hw]
  rfl
 have s1E : stepE w (sendD a b) = 0 := by
  unfold stepE sendD twoE
  simp only
  rw [if_neg (by decide), if_pos True.intro, if_pos ⟨na, nb⟩, if_neg nab]
  exact e1
 obtain ⟨p, hp⟩ : ∃ p, sendX (nodeAt w a) b = p := ⟨_, rfl⟩
 rw [hp] at s1
 have hpc : p.clock = (w.nodes.getD a noNode).st.clock := by
  rw [← hp]
  unfold sendX
  rw [if_pos hoa]
  split <;> rfl
 have hin : InP n A (w.nodes.getD a noNode).st.clock (w.nodes.getD b noNode).st.clock p := by
  rw [← hp]
  exact InP.sent (h.nd a ha).1 ho fun j => h.kn a b ha hb j
 have i1 : WInv n A (setWay w a b [p]) := h.setW ha hb fun q hq => by rw [List.mem_singleton] at hq; rw [hq]; exact hin
 obtain ⟨w1, hw1⟩ : ∃ w1, setWay w a b [p] = w1 := ⟨_, rfl⟩
 have hn1 : w1.nodes = w.nodes := by rw [← hw1]; rfl
 have hway : ∀ c d : Nat, wayAt w1 c d = if c = a ∧ d = b then [p] else wayAt w c d := fun c d => by rw [← hw1]; exact wayAt_set h ha hb
 rw [hw1] at s1 i1
 have hw2 : wayAt w1 a b = [p] := by rw [hway, if_pos ⟨rfl, rfl⟩]
 have hnx : nextX w1 a b = setWay w1 a b [] := by unfold nextX; rw [hw2, if_neg (by simp)]; rfl
 have hnp : nextP w1 a b = p := by unfold nextP; rw [hw2]; rfl
 have hne' : nextE w1 a b = 0 := by unfold nextE; rw [hw2, if_neg (by simp)]
 have ha1 : a < w1.nodes.length := by rw [hn1]; exact ha
 have hb1 : b < w1.nodes.length := by rw [hn1]; exact hb
 have i2 : WInv n A (setWay w1 a b []) := i1.setW ha1 hb1 fun q hq => by simp at hq
 have hn2 : (setWay w1 a b []).nodes = w.nodes := hn1
 have hp2 : InP n A ((setWay w1 a b []).nodes.getD a noNode).st.clock ((setWay w1 a b []).nodes.getD b noNode).st.clock p := by rw [hn2]; exact hin
 have hto : takeE (w.nodes.getD b noNode) a p = 0 ∧ (takeX (w.nodes.getD b noNode) a p).st.clock = joinC (w.nodes.getD b noNode).st.clock p.clock ∧ (takeX (w.nodes.getD b noNode) a p).known = ((w.nodes.getD b noNode).known.set a (joinC ((w.nodes.getD b noNode).known.getD a []) p.clock)).set b (joinC (w.nodes.getD b noNode).st.clock p.clock) ∧ WInv n A ⟨w.nodes.set b (takeX (w.nodes.getD b noNode) a p), (setWay w1 a b []).way⟩ := by
  rcases i2.take (by rw [hn2]; exact ha) (by rw [hn2]; exact hb) hne hp2 with t | t
  ·rw [hn2] at t; exact t
  ·rw [hn2] at t
   exact absurd t (InP.ok (h.nd b hb).1 h.fit hin (h.other hb ha (fun e => hne e.symm)) hf)
 obtain ⟨t1, t2, t3, t4⟩ := hto
 have hat : nodeAt w1 b = w.nodes.getD b noNode := by unfold nodeAt; rw [hn1]; rfl
 have s2 : stepX w1 (delD a b) = ⟨w.nodes.set b (takeX (w.nodes.getD b noNode) a p), (setWay w1 a b []).way⟩ := by
  unfold stepX delD twoX wdelX changeX
  simp only
  rw [if_neg (by decide), if_neg (by decide), if_pos True.intro, if_pos ⟨isNB_of ha1, isNB_of hb1, nab⟩, if_pos hne', hnx, hnp, hat, if_pos ⟨isNB_of (by rw [hn2]; exact hb), t1⟩]
  unfold setNode
  rw [hn2]
  rfl
 have s2E : stepE w1 (delD a b) = 0 := by
  unfold stepE delD twoE wdelE
  simp only
  rw [if_neg (by decide), if_neg (by decide), if_pos True.intro, if_pos ⟨isNB_of ha1, isNB_of hb1⟩, if_neg nab, if_pos hne', hnp, hat]
  exact t1
 have hrun : runX w [sendD a b, delD a b] = ⟨w.nodes.set b (takeX (w.nodes.getD b noNode) a p), (setWay w1 a b []).way⟩ := by
  show stepX (stepX w (sendD a b)) (delD a b) = _
  rw [s1, s2]
 have hrunE : runE w [sendD a b, delD a b] = [0, 0] := by
  show [stepE w (sendD a b), stepE (stepX w (sendD a b)) (delD a b)] = _
  rw [s1E, s1, s2E]
 refine ⟨takeX (w.nodes.getD b noNode) a p, by rw [hrun]; exact t4, ?_, by rw [hrun], by rw [t2, hpc], by rw [t3, hpc], hrunE⟩
 rw [hrun]
 intro c d hc hd
 rw [List.length_set] at hc hd
 show wayAt (setWay w1 a b []) c d = []
 rw [wayAt_set i1 ha1 hb1]
 split
 ·rfl
 ·next hcd =>
  rw [hway, if_neg hcd]
  exact hs c d hc hd
/-- What is told to whom, one behind the other. -/
def tellsL (ps : List (Nat × Nat)) : List DoS := ps.flatMap fun q => [sendD q.1 q.2, delD q.1 q.2]
def OkPs (w : WdS) (ps : List (Nat × Nat)) : Prop := ∀ q ∈ ps, q.1 < w.nodes.length ∧ q.2 < w.nodes.length ∧ q.1 ≠ q.2
/-- Behind what was told: all the same but clocks and what is known, which have grown; and who was told has what the other one had. -/
theorem tells_run (hf : A.length ≤ 150) : ∀ (ps : List (Nat × Nat)) {w : WdS}, WInv n A w → Still w → OkPs w ps →
  WInv n A (runX w (tellsL ps)) ∧ Still (runX w (tellsL ps)) ∧ (runX w (tellsL ps)).nodes.length = w.nodes.length ∧
  (∀ k, k < w.nodes.length → ∀ j, (w.nodes.getD k noNode).st.clock.getD j 0 ≤ ((runX w (tellsL ps)).nodes.getD k noNode).st.clock.getD j 0) ∧
  (∀ k m, k < w.nodes.length → m < w.nodes.length → ∀ j, ((w.nodes.getD k noNode).known.getD m []).getD j 0 ≤ (((runX w (tellsL ps)).nodes.getD k noNode).known.getD m []).getD j 0) ∧
  (∀ q ∈ ps, ∀ j, (w.nodes.getD q.1 noNode).st.clock.getD j 0 ≤ ((runX w (tellsL ps)).nodes.getD q.2 noNode).st.clock.getD j 0 ∧ (w.nodes.getD q.1 noNode).st.clock.getD j 0 ≤ (((runX w (tellsL ps)).nodes.getD q.2 noNode).known.getD q.1 []).getD j 0) ∧
  (∀ e ∈ runE w (tellsL ps), e = 0)
 | [], w, h, hs, _ => ⟨h, hs, rfl, fun _ _ _ => Int.le_refl _, fun _ _ _ _ _ => Int.le_refl _, fun q hq => by simp at hq, fun e he => by simp [tellsL, runE] at he⟩
 | (a, b) :: r, w, h, hs, hps => by
  obtain ⟨ha, hb, hne⟩ := hps (a, b) (by simp)
  obtain ⟨d, i1, i2, i3, i4, i5, i6⟩ := tell_two h hs hf ha hb hne
  have hrun : runX w (tellsL ((a, b) :: r)) = runX (runX w [sendD a b, delD a b]) (tellsL r) := by
   rw [← runX_append]
   rfl
  have hrunE : runE w (tellsL ((a, b) :: r)) = [0, 0] ++ runE (runX w [sendD a b, delD a b]) (tellsL r) := by
   have : tellsL ((a, b) :: r) = [sendD a b, delD a b] ++ tellsL r := rfl
   rw [this, runE_append, i6]
  obtain ⟨w1, hw1⟩ : ∃ w1, runX w [sendD a b, delD a b] = w1 := ⟨_, rfl⟩
  rw [hw1] at i1 i2 i3 hrun hrunE
  have hl1 : w1.nodes.length = w.nodes.length := by rw [i3, List.length_set]
  obtain ⟨r1, r2, r3, r4, r5, r6, r7⟩ := tells_run hf r i1 i2 fun q hq => by rw [hl1]; exact hps q (by simp [hq])
  rw [hrun, hrunE]
  have c1 : ∀ k, k < w.nodes.length → ∀ j, (w.nodes.getD k noNode).st.clock.getD j 0 ≤ (w1.nodes.getD k noNode).st.clock.getD j 0 := by
   intro k hk j
   rw [i3, getD_setN hb]
   split
   ·next e => subst e; rw [i4, joinC_getD]; exact joinI_le.1
   ·exact Int.le_refl _
  have hkl : (w.nodes.getD b noNode).known.length = w.nodes.length := by have := (h.nd b hb).1.okm.kl; have := h.len; omega
  have k1 : ∀ k m, k < w.nodes.length → m < w.nodes.length → ∀ j, ((w.nodes.getD k noNode).known.getD m []).getD j 0 ≤ ((w1.nodes.getD k noNode).known.getD m []).getD j 0 := by
   intro k m hk hm j
   rw [i3, getD_setN hb]
   split
   ·next e =>
    subst e
    rw [i5, getD_setN (by rw [List.length_set, hkl]; exact hb)]
    split
    ·next e =>
     subst e
     rw [joinC_getD]
     exact Int.le_trans (h.kn m m hm hm j) joinI_le.1
    ·rw [getD_setN (by rw [hkl]; exact ha)]
     split
     ·next e => subst e; rw [joinC_getD]; exact joinI_le.1
     ·exact Int.le_refl _
   ·exact Int.le_refl _
  have t1 : ∀ j, (w.nodes.getD a noNode).st.clock.getD j 0 ≤ (w1.nodes.getD b noNode).st.clock.getD j 0 ∧ (w.nodes.getD a noNode).st.clock.getD j 0 ≤ ((w1.nodes.getD b noNode).known.getD a []).getD j 0 := by
   intro j
   rw [i3, getD_setN hb, if_pos rfl]
   refine ⟨by rw [i4, joinC_getD]; exact joinI_le.2, ?_⟩
   rw [i5, getD_setN (by rw [List.length_set, hkl]; exact hb), if_neg hne, getD_setN (by rw [hkl]; exact ha), if_pos rfl, joinC_getD]
   exact joinI_le.2
  refine ⟨r1, r2, by rw [r3, hl1], fun k hk j => Int.le_trans (c1 k hk j) (r4 k (by rw [hl1]; exact hk) j), fun k m hk hm j => Int.le_trans (k1 k m hk hm j) (r5 k m (by rw [hl1]; exact hk) (by rw [hl1]; exact hm) j), fun q hq j => ?_, fun e he => ?_⟩
  ·rcases List.mem_cons.1 hq with rfl | hq'
   ·exact ⟨Int.le_trans (t1 j).1 (r4 b (by rw [hl1]; exact hb) j), Int.le_trans (t1 j).2 (r5 b a (by rw [hl1]; exact hb) (by rw [hl1]; exact ha) j)⟩
   ·obtain ⟨g1, g2, -⟩ := hps q hq
    obtain ⟨s1, s2⟩ := r6 q hq' j
    exact ⟨Int.le_trans (c1 q.1 g1 j) s1, Int.le_trans (c1 q.1 g1 j) s2⟩
  ·rcases List.mem_append.1 he with he | he
   ·simp at he; exact he
   ·exact r7 e he
/-- All pairs of two. -/
def allPs (k : Nat) : List (Nat × Nat) := (List.range k).flatMap fun a => (List.range k).flatMap fun b => if a = b then [] else [(a, b)]
theorem mem_allPs {k : Nat} {q : Nat × Nat} : q ∈ allPs k ↔ q.1 < k ∧ q.2 < k ∧ q.1 ≠ q.2 := by
 obtain ⟨a, b⟩ := q
 unfold allPs
 simp only [List.mem_flatMap, List.mem_range]
 constructor
 ·rintro ⟨x, hx, y, hy, h⟩
  split at h
  ·simp at h
  ·next hne =>
   simp only [List.mem_singleton, Prod.mk.injEq] at h
   obtain ⟨rfl, rfl⟩ := h
   exact ⟨hx, hy, hne⟩
 ·rintro ⟨h1, h2, h3⟩
  refine ⟨a, h1, b, h2, ?_⟩
  rw [if_neg h3]
  simp
/-- Behind one round all have seen all. -/
theorem round_one (h : WInv n A w) (hs : Still w) (hf : A.length ≤ 150) : ∀ i, i < w.nodes.length → ((runX w (tellsL (allPs w.nodes.length))).nodes.getD i noNode).st.clock = totC n A := by
 intro i hi
 obtain ⟨r1, r2, r3, r4, r5, r6, r7⟩ := tells_run hf (allPs w.nodes.length) h hs fun q hq => mem_allPs.1 hq
 obtain ⟨hD, -, -, hO⟩ := r1.nd i (by rw [r3]; exact hi)
 obtain ⟨-, -, l1, -⟩ := goodC_iff.1 hD.ina.good
 have tg := (InA.total (zeroC_good hD.ina.good) h.fit).good
 obtain ⟨-, -, l2, -⟩ := goodC_iff.1 tg
 refine eq_getD (by omega) fun j => ?_
 by_cases hj : j < w.nodes.length
 ·by_cases hij : j = i
  ·subst hij; exact hO
  ·have := (r6 (j, i) (mem_allPs.2 ⟨hj, hi, hij⟩) j).1
   have h2 := (h.nd j hj).2.2.2
   have h3 := hD.ina.le j
   show _ = _
   have h4 : (w.nodes.getD j noNode).st.clock.getD j 0 ≤ ((runX w (tellsL (allPs w.nodes.length))).nodes.getD i noNode).st.clock.getD j 0 := this
   omega
 ·have hl := h.len
  rw [getD_out (by omega), getD_out (by omega)]
/-- Behind one more, all know that all have all. -/
theorem round_two (h : WInv n A w) (hs : Still w) (hf : A.length ≤ 150) (hall : ∀ i, i < w.nodes.length → (w.nodes.getD i noNode).st.clock = totC n A) : ∀ i k, i < w.nodes.length → k < w.nodes.length → ((runX w (tellsL (allPs w.nodes.length))).nodes.getD i noNode).known.getD k [] = totC n A := by
 intro i k hi hk
 obtain ⟨r1, r2, r3, r4, r5, r6, r7⟩ := tells_run hf (allPs w.nodes.length) h hs fun q hq => mem_allPs.1 hq
 obtain ⟨hD, hN, hS, hO⟩ := r1.nd i (by rw [r3]; exact hi)
 have hc := round_one h hs hf i hi
 have hkk : k < ((runX w (tellsL (allPs w.nodes.length))).nodes.getD i noNode).known.length := by have := hD.okm.kl; have := h.len; omega
 obtain ⟨kg1, kg2⟩ := hD.okm.kg k hkk
 obtain ⟨-, -, l1, -⟩ := goodC_iff.1 kg1
 have tg := (InA.total (zeroC_good hD.ina.good) h.fit).good
 obtain ⟨-, -, l2, -⟩ := goodC_iff.1 tg
 by_cases hik : k = i
 ·subst hik
  have := hN.ks
  rw [hS] at this
  have h2 : ((runX w (tellsL (allPs w.nodes.length))).nodes.getD k noNode).known.getD k [] = ((runX w (tellsL (allPs w.nodes.length))).nodes.getD k noNode).st.clock := this
  rw [h2, hc]
 ·refine eq_getD (by omega) fun j => ?_
  have h1 := (r6 (k, i) (mem_allPs.2 ⟨hk, hi, hik⟩) j).2
  have h1' : (w.nodes.getD k noNode).st.clock.getD j 0 ≤ (((runX w (tellsL (allPs w.nodes.length))).nodes.getD i noNode).known.getD k []).getD j 0 := h1
  rw [hall k hk] at h1'
  have h2 := kg2 j
  rw [hc] at h2
  omega
/-- Who knows that all have all keeps no update when it prunes. -/
theorem prune_empty {d : NdS} (h : InD n A d) (hA : errL n (zeroC n.toNat) A = 0) (hN : OkN n d) (hc : d.st.clock = totC n A) (hk : ∀ k, k < d.known.length → d.known.getD k [] = totC n A) : (pruneX d).log = [] ∧ (pruneX d).st = d.st := by
 have he : nodeE d = 0 := nodeE_zero.2 (by rw [h.okm.len]; exact hN)
 have hX : pruneX d = forgetN d (allC d) := by unfold pruneX; rw [if_pos he]
 have hall : allC d = totC n A := by
  unfold allC
  rw [hc]
  have hz := zeroC_good h.ina.good
  have tg := (InA.total hz hA).good
  have hm : meetC (totC n A) (totC n A) = totC n A := by
   obtain ⟨m1, -⟩ := meet_good tg tg
   obtain ⟨-, -, l1, -⟩ := goodC_iff.1 m1
   obtain ⟨-, -, l2, -⟩ := goodC_iff.1 tg
   refine eq_getD (by omega) fun j => ?_
   rw [meetC_getD]
   unfold meetI
   split <;> omega
  have : ∀ (l : List (List Int)), (∀ c ∈ l, c = totC n A) → l.foldl meetC (totC n A) = totC n A := by
   intro l
   induction l with
   | nil => exact fun _ => rfl
   | cons c r ih =>
    intro hl
    rw [List.foldl_cons, hl c (by simp), hm]
    exact ih fun x hx => hl x (by simp [hx])
  refine this d.known fun c hcm => ?_
  obtain ⟨i, hi, rfl⟩ := List.getElem_of_mem hcm
  have := hk i hi
  rw [List.getD_eq_getElem?_getD, List.getElem?_eq_getElem hi] at this
  exact this
 rw [hX, hall]
 refine ⟨?_, rfl⟩
 show lacksL d.log (joinC d.base (totC n A)) = []
 unfold lacksL
 rw [List.filter_eq_nil_iff]
 intro u hu
 have hz := zeroC_good h.ina.good
 have hwu := small_all A hA u (h.log u hu)
 have tg := (InA.total hz hA).good
 have hj := join_good h.okm.base tg
 obtain ⟨-, -, l1, -⟩ := goodC_iff.1 hj
 have hs : seenU u (joinC d.base (totC n A)) = true := by
  rw [seenU_iff hwu l1, joinC_getD]
  exact Int.le_trans (entry_lt hz hA (h.log u hu)) joinI_le.2
 rw [hs]
 simp
end
end Go.Proofs.YtbgeblafcbabaaaGreat
