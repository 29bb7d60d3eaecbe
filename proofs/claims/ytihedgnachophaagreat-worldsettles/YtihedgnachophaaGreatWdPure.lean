/- Worlds, as lists: what comes of each thing that happens, and what stays true whatever happens. -/
import Derived.Test.YtihedgnachophaaGreatNdPure
namespace Go.Proofs.YtihedgnachophaaGreat
open Go.RowKit

structure WdS where
 nodes : List NdS
 way : List (List (List Pcl))
structure DoS where
 kind : Int
 n : Int
 dst : Int
 upd : Upd

def nodeAt (w : WdS) (i : Int) : NdS := w.nodes.getD i.toNat noNode
def wayAt (w : WdS) (a b : Int) : List Pcl := (w.way.getD a.toNat []).getD b.toNat []
def setNode (w : WdS) (i : Int) (d : NdS) : WdS := ⟨w.nodes.set i.toNat d, w.way⟩
def setWay (w : WdS) (a b : Int) (l : List Pcl) : WdS := ⟨w.nodes, w.way.set a.toNat ((w.way.getD a.toNat []).set b.toNat l)⟩
def isNB (w : WdS) (i : Int) : Bool := decide (0 ≤ i ∧ i < w.nodes.length)
def twoE (w : WdS) (a b e : Int) : Int := if isNB w a = true ∧ isNB w b = true then (if a = b then 7 else e) else 6
def changeE (w : WdS) (i e : Int) : Int := if isNB w i = true then e else 6
def changeX (w : WdS) (i e : Int) (d : NdS) : WdS := if isNB w i = true ∧ e = 0 then setNode w i d else w
def wsendE (w : WdS) (a b : Int) : Int := if 20 ≤ (wayAt w a b).length then 5 else otherE (nodeAt w a) b
def wsendX (w : WdS) (a b : Int) : WdS := if wsendE w a b = 0 then setWay w a b (wayAt w a b ++ [sendX (nodeAt w a) b]) else w
def nextE (w : WdS) (a b : Int) : Int := if (wayAt w a b).length = 0 then 6 else 0
def nextP (w : WdS) (a b : Int) : Pcl := (wayAt w a b).headD noPcl
def nextX (w : WdS) (a b : Int) : WdS := if (wayAt w a b).length = 0 then w else setWay w a b (wayAt w a b).tail
def wdelE (w : WdS) (a b : Int) : Int := if nextE w a b = 0 then takeE (nodeAt w b) a (nextP w a b) else nextE w a b
def wdelX (w : WdS) (a b : Int) : WdS := if nextE w a b = 0 then changeX (nextX w a b) b (takeE (nodeAt w b) a (nextP w a b)) (takeX (nodeAt w b) a (nextP w a b)) else w
def stepE (w : WdS) (o : DoS) : Int :=
 if o.kind = 1 then changeE w o.n (issueE (nodeAt w o.n) o.upd)
 else if o.kind = 2 then twoE w o.n o.dst (wsendE w o.n o.dst)
 else if o.kind = 3 then twoE w o.n o.dst (wdelE w o.n o.dst)
 else if o.kind = 4 then twoE w o.n o.dst (nextE w o.n o.dst)
 else if o.kind = 5 then changeE w o.n (nodeE (nodeAt w o.n))
 else 1
def twoX (w : WdS) (a b : Int) (x : WdS) : WdS := if isNB w a = true ∧ isNB w b = true ∧ ¬ a = b then x else w
def stepX (w : WdS) (o : DoS) : WdS :=
 if o.kind = 1 then changeX w o.n (issueE (nodeAt w o.n) o.upd) (issueX (nodeAt w o.n) o.upd)
 else if o.kind = 2 then twoX w o.n o.dst (wsendX w o.n o.dst)
 else if o.kind = 3 then twoX w o.n o.dst (wdelX w o.n o.dst)
 else if o.kind = 4 then twoX w o.n o.dst (nextX w o.n o.dst)
 else if o.kind = 5 then changeX w o.n (nodeE (nodeAt w o.n)) (pruneX (nodeAt w o.n))
 else w
def beginW (n : Nat) : WdS := ⟨(List.range n).map fun (i : Nat) => startX (i : Int) n, List.replicate n (List.replicate n [])⟩
def runX (w : WdS) (l : List DoS) : WdS := l.foldl stepX w
def runE : WdS → List DoS → List Int
 | _, [] => []
 | w, o :: r => stepE w o :: runE (stepX w o) r
def newU (w : WdS) (o : DoS) : List Upd := if o.kind = 1 ∧ stepE w o = 0 then [ownU (nodeAt w o.n) o.upd] else []
def runU : WdS → List DoS → List Upd
 | _, [] => []
 | w, o :: r => newU w o ++ runU (stepX w o) r
theorem runX_snoc (w : WdS) (l : List DoS) (o : DoS) : runX w (l ++ [o]) = stepX (runX w l) o := by unfold runX; rw [List.foldl_append]; rfl
theorem runE_snoc (o : DoS) : ∀ (l : List DoS) (w : WdS), runE w (l ++ [o]) = runE w l ++ [stepE (runX w l) o]
 | [], w => rfl
 | p :: r, w => by rw [List.cons_append, runE, runE_snoc o r]; rfl
theorem runU_snoc (o : DoS) : ∀ (l : List DoS) (w : WdS), runU w (l ++ [o]) = runU w l ++ newU (runX w l) o
 | [], w => by simp [runU, runX]
 | p :: r, w => by rw [List.cons_append, runU, runU_snoc o r, runU, List.append_assoc]; rfl
theorem runE_length : ∀ (l : List DoS) (w : WdS), (runE w l).length = l.length
 | [], _ => rfl
 | o :: r, w => by rw [runE, List.length_cons, runE_length r, List.length_cons]
theorem runU_few : ∀ (l : List DoS) (w : WdS), (runU w l).length ≤ l.length
 | [], _ => by simp [runU]
 | o :: r, w => by
  have := runU_few r (stepX w o)
  rw [runU, List.length_append, List.length_cons]
  have : (newU w o).length ≤ 1 := by unfold newU; split <;> simp
  omega

theorem errL_once {n : Int} : ∀ (l : List Upd) {xs : List Int}, wrongC xs n = 0 → errL n xs l = 0 → (∀ u ∈ l, xs.getD u.author.toNat 0 ≤ entU u) ∧ l.Pairwise fun u v => u.author.toNat = v.author.toNat → entU u < entU v
 | [], _, _, _ => ⟨fun u hu => by simp at hu, List.Pairwise.nil⟩
 | u :: r, xs, hg, he => by
  obtain ⟨hw, hr⟩ := errL_cons he
  obtain ⟨hg', ht⟩ := fits_tick hg hw
  obtain ⟨hwu, hent, -⟩ := (fits_iff hg).1 hw
  obtain ⟨h1, h2⟩ := errL_once r hg' hr
  refine ⟨fun v hv => ?_, List.pairwise_cons.2 ⟨fun v hv ha => ?_, h2⟩⟩
  ·rcases List.mem_cons.1 hv with rfl | hv
   ·omega
   ·have := h1 v hv
    rw [ht] at this
    split at this <;> omega
  ·have := h1 v hv
   rw [ht, if_pos ha.symm, ← ha] at this
   omega
theorem once_eq {l : List Upd} (h : l.Pairwise fun u v => u.author.toNat = v.author.toNat → entU u < entU v) {u v : Upd} (hu : u ∈ l) (hv : v ∈ l) (ha : u.author.toNat = v.author.toNat) (he : entU u = entU v) : u = v := by
 induction l with
 | nil => simp at hu
 | cons x r ih =>
  obtain ⟨h1, h2⟩ := List.pairwise_cons.1 h
  rcases List.mem_cons.1 hu with hx | hu'
  ·rcases List.mem_cons.1 hv with hy | hv'
   ·rw [hx, hy]
   ·have := h1 v hv' (by rw [← hx]; exact ha)
    rw [← hx] at this
    omega
  ·rcases List.mem_cons.1 hv with hy | hv'
   ·have := h1 u hu' (by rw [← hy]; exact ha.symm)
    rw [← hy] at this
    omega
   ·exact ih h2 hu' hv'
theorem once_nodup {l : List Upd} (h : l.Pairwise fun u v => u.author.toNat = v.author.toNat → entU u < entU v) : l.Nodup := by
 refine h.imp_of_mem fun {a b} _ _ hab he => ?_
 subst he
 have := hab rfl
 omega
theorem playLv_snoc : ∀ (l : List Upd) (lv : List Live) (u : Upd), playLv lv (l ++ [u]) = applyLv (playLv lv l) u
 | [], _, _ => rfl
 | x :: r, lv, u => by rw [List.cons_append, playLv, playLv]; exact playLv_snoc r _ u
theorem playT_snoc : ∀ (l : List Upd) (ts : List Tal) (u : Upd), playT ts (l ++ [u]) = applyT (playT ts l) u
 | [], _, _ => rfl
 | x :: r, ts, u => by rw [List.cons_append, playT, playT]; exact playT_snoc r _ u

section
variable {n : Int} {A : List Upd}
def totC (n : Int) (A : List Upd) : List Int := tickL (zeroC n.toNat) A
structure InA (n : Int) (A : List Upd) (c : List Int) : Prop where
 good : wrongC c n = 0
 cl : Closed c A
 le : ∀ j, c.getD j 0 ≤ (totC n A).getD j 0
theorem InA.clock {c : List Int} (h : InA n A c) (hA : errL n (zeroC n.toNat) A = 0) : (ofS n A c).clock = c := by
 obtain ⟨h1, h6, hl, -⟩ := goodC_iff.1 h.good
 obtain ⟨t1, -⟩ := tickL_good _ (zeroC_good h.good) ((of_fits h.good hA).2 h.cl)
 obtain ⟨-, -, tl, -⟩ := goodC_iff.1 t1
 show tickL (zeroC n.toNat) (mine c A) = c
 refine eq_getD (by omega) fun i => ?_
 rw [of_clock h.good hA i]
 have := h.le i
 unfold totC at this
 omega
theorem InA.play {c : List Int} {u : Upd} (h : InA n A c) (hA : errL n (zeroC n.toNat) A = 0) (hu : u ∈ A) (hw : wrongL u c n = 0) :
  InA n A (tickC c u.author) ∧ (⟨tickC c u.author, applyLv (ofS n A c).lives u, applyT (ofS n A c).tals u⟩ : StS) = ofS n A (tickC c u.author) := by
 have hz := zeroC_good h.good
 obtain ⟨o1, o2⟩ := errL_once A hz hA
 obtain ⟨hwu, hent, hsee⟩ := (fits_iff h.good).1 hw
 obtain ⟨hg', ht⟩ := fits_tick h.good hw
 have hmem : ∀ v ∈ A, (entU v < (tickC c u.author).getD v.author.toNat 0 ↔ entU v < c.getD v.author.toNat 0 ∨ v = u) := by
  intro v hv
  rw [ht]
  split
  ·next e =>
   constructor
   ·intro hh
    by_cases hlt : entU v < c.getD v.author.toNat 0
    ·exact .inl hlt
    ·refine .inr (once_eq o2 hv hu e ?_)
     rw [e] at hlt hh
     omega
   ·rintro (hh | rfl)
    ·omega
    ·omega
  ·next e =>
   constructor
   ·exact fun hh => .inl hh
   ·rintro (hh | rfl)
    ·exact hh
    ·exact absurd rfl e
 have hle : ∀ j, c.getD j 0 ≤ (tickC c u.author).getD j 0 := by
  intro j
  rw [ht]
  split <;> omega
 have hcl : Closed (tickC c u.author) A := by
  intro v hv hlt i
  rcases (hmem v hv).1 hlt with hh | rfl
  ·exact Int.le_trans (h.cl v hv hh i) (hle i)
  ·exact Int.le_trans (hsee i) (hle i)
 have hI : InA n A (tickC c u.author) := by
  refine ⟨hg', hcl, fun j => ?_⟩
  rw [ht]
  split
  ·next e =>
   have := entry_lt hz hA hu
   unfold totC
   rw [e]
   omega
  ·exact h.le j
 refine ⟨hI, ?_⟩
 have hf : errL n (zeroC n.toNat) (mine c A) = 0 := (of_fits h.good hA).2 h.cl
 have hf' : errL n (zeroC n.toNat) (mine (tickC c u.author) A) = 0 := (of_fits hg' hA).2 hcl
 have hclk := h.clock hA
 have htl : tickL (zeroC n.toNat) (mine c A) = c := hclk
 have hs : errL n (zeroC n.toNat) (mine c A ++ [u]) = 0 := errL_snoc _ hf (by rw [htl]; exact hw)
 have hnot : u ∉ mine c A := by
  intro hh
  have := (mem_mine.1 hh).2
  omega
 have hp : (mine c A ++ [u]).Perm (mine (tickC c u.author) A) := by
  refine (List.perm_ext_iff_of_nodup ?_ ?_).2 fun v => ?_
  ·refine List.nodup_append.2 ⟨List.Nodup.sublist List.filter_sublist (once_nodup o2), by simp, fun a ha b hb => ?_⟩
   rw [List.mem_singleton] at hb
   subst hb
   exact fun e => hnot (e ▸ ha)
  ·exact List.Nodup.sublist List.filter_sublist (once_nodup o2)
  ·rw [List.mem_append, mem_mine, mem_mine, List.mem_singleton]
   constructor
   ·rintro (⟨h1, h2⟩ | rfl)
    ·exact ⟨h1, (hmem v h1).2 (.inl h2)⟩
    ·exact ⟨hu, (hmem v hu).2 (.inr rfl)⟩
   ·rintro ⟨h1, h2⟩
    rcases (hmem v h1).1 h2 with hh | rfl
    ·exact .inl ⟨h1, hh⟩
    ·exact .inr rfl
 have e1 := play_perm hz hf' hs hp (bound_nil _) List.Pairwise.nil
 have e2 := playT_perm hp ord_nil.1 ord_nil.2
 rw [playLv_snoc] at e1
 rw [playT_snoc] at e2
 have e3 := hI.clock hA
 have e4 : tickL (zeroC n.toNat) (mine (tickC c u.author) A) = tickC c u.author := e3
 unfold ofS
 rw [e1, ← e2, e4]
theorem InA.join {a b : List Int} (ha : InA n A a) (hb : InA n A b) (hA : errL n (zeroC n.toNat) A = 0) : InA n A (joinC a b) ∧ joinX (ofS n A a) (ofS n A b) = ofS n A (joinC a b) := by
 refine ⟨⟨join_good ha.good hb.good, closed_join ha.cl hb.cl, fun j => ?_⟩, (union_main ha.good hb.good hA ha.cl hb.cl).2⟩
 rw [joinC_getD]
 exact joinI_lub (ha.le j) (hb.le j)
theorem InA.more {c : List Int} {u : Upd} (h : InA n A c) (hA : errL n (zeroC n.toNat) A = 0) (hw : wrongL u (totC n A) n = 0) : InA n (A ++ [u]) c ∧ ofS n (A ++ [u]) c = ofS n A c := by
 obtain ⟨tg, -⟩ := tickL_good A (zeroC_good h.good) hA
 obtain ⟨hwu, hent, hsee⟩ := (fits_iff tg).1 hw
 obtain ⟨-, ht⟩ := fits_tick tg hw
 have hnot : ¬ entU u < c.getD u.author.toNat 0 := by
  have := h.le u.author.toNat
  unfold totC at this
  omega
 have hm : mine c (A ++ [u]) = mine c A := by
  unfold mine
  have hb : mineB c u = false := decide_eq_false hnot
  rw [List.filter_append, List.filter_cons, hb]
  simp
 refine ⟨⟨h.good, fun v hv hlt i => ?_, fun j => ?_⟩, by unfold ofS; rw [hm]⟩
 ·rcases List.mem_append.1 hv with hv | hv
  ·exact h.cl v hv hlt i
  ·rw [List.mem_singleton] at hv
   subst hv
   exact absurd hlt hnot
 ·have := h.le j
  unfold totC at this ⊢
  rw [tickL_snoc, ht]
  split <;> omega
theorem InA.total (hz : wrongC (zeroC n.toNat) n = 0) (hA : errL n (zeroC n.toNat) A = 0) : InA n A (totC n A) := by
 obtain ⟨tg, -⟩ := tickL_good A hz hA
 refine ⟨tg, fun u hu _ i => ?_, fun _ => Int.le_refl _⟩
 have h1 : Closed (tickL (zeroC n.toNat) A) (A ++ []) := (more_main hz (p := A) (q := []) (by rw [List.append_nil]; exact hA)).2.2.1
 rw [List.append_nil] at h1
 exact h1 u hu (by have := entry_lt hz hA hu; omega) i

structure InD (n : Int) (A : List Upd) (d : NdS) : Prop where
 okm : OkM n d
 ina : InA n A d.st.clock
 of : d.st = ofS n A d.st.clock
 log : ∀ u ∈ d.log, u ∈ A
theorem InD.playD {d : NdS} {u : Upd} (h : InD n A d) (hA : errL n (zeroC n.toNat) A = 0) (hu : u ∈ A) (hp : playN d u = 0) : InD n A (playD d u) := by
 obtain ⟨h1, h2, h3, h4, h5⟩ := h.okm.play hp
 obtain ⟨-, hw⟩ := (playN_zero h.okm).1 hp
 obtain ⟨k1, k2⟩ := h.ina.play hA hu hw
 refine ⟨h1, by rw [h2]; exact k1, ?_, fun v hv => ?_⟩
 ·rw [h2, ← k2]
  show playX d.st [u] = _
  rw [playX_one h.okm hw, ← h.of]
 ·have hv' : v ∈ d.log ++ [u] := hv
  rcases List.mem_append.1 hv' with hv | hv
  ·exact h.log v hv
  ·rw [List.mem_singleton] at hv
   rw [hv]; exact hu
theorem InD.tuX {d : NdS} {u : Upd} (h : InD n A d) (hA : errL n (zeroC n.toNat) A = 0) (hu : u ∈ A) (hp : tuE d u = 0) : InD n A (tuX d u) := by
 unfold tuE at hp
 unfold Go.Proofs.YtihedgnachophaaGreat.tuX
 split at hp
 ·next hs => rw [if_pos hs]; exact h
 ·next hs => rw [if_neg hs]; exact h.playD hA hu hp
theorem InD.upsX (hA : errL n (zeroC n.toNat) A = 0) : ∀ (l : List Upd) {d : NdS}, InD n A d → (∀ u ∈ l, u ∈ A) → upsE d l = 0 → InD n A (upsX d l)
 | [], _, h, _, _ => h
 | u :: r, d, h, hl, he => by
  rw [upsE] at he
  split at he
  ·next hu => exact InD.upsX hA r (h.tuX hA (hl u (by simp)) hu) (fun v hv => hl v (by simp [hv])) he
  ·next hu => exact absurd he hu
theorem InD.forgetN {d : NdS} {c : List Int} (h : InD n A d) (hc : wrongC c n = 0) (hs : ∀ j, c.getD j 0 ≤ d.st.clock.getD j 0) : InD n A (forgetN d c) :=
 ⟨h.okm.forget hc hs, h.ina, h.of, fun u hu => h.log u (List.mem_filter.1 hu).1⟩
theorem InD.tstX {d : NdS} {p : Pcl} (h : InD n A d) (hA : errL n (zeroC n.toNat) A = 0) (hp : p.whole = true → InA n A p.st.clock ∧ p.st = ofS n A p.st.clock) : tstE d p = 0 ∧ InD n A (tstX d p) ∧ (p.whole = true → (tstX d p).st.clock = joinC d.st.clock p.st.clock) := by
 by_cases hw : p.whole = true
 ·obtain ⟨p1, p2⟩ := hp hw
  have ho : OkS n p.st.clock p.st.lives p.st.tals := by
   have := ofS_ok p1.good hA p1.cl
   rw [← p2] at this
   exact this
  have hj : joinE d.st p.st = 0 := joinE_zero.2 ⟨by rw [h.okm.len]; exact h.okm.st, by rw [h.okm.len]; exact ho⟩
  have ht : tstE d p = 0 := by unfold tstE; rw [if_pos hw]; exact hj
  obtain ⟨m1, -⟩ := h.okm.tst ht
  obtain ⟨q1, q2⟩ := h.ina.join p1 hA
  have hst : (Go.Proofs.YtihedgnachophaaGreat.tstX d p).st = joinX d.st p.st := by unfold Go.Proofs.YtihedgnachophaaGreat.tstX; rw [if_pos hw]; rfl
  have hcl : (Go.Proofs.YtihedgnachophaaGreat.tstX d p).st.clock = joinC d.st.clock p.st.clock := by rw [hst, joinX_zero hj]
  refine ⟨ht, ⟨m1, by rw [hcl]; exact q1, ?_, fun u hu => ?_⟩, fun _ => hcl⟩
  ·rw [hcl, hst, ← q2, ← h.of, ← p2]
  ·have hu' : u ∈ lacksL d.log (joinC d.base p.st.clock) := by
    have e : (Go.Proofs.YtihedgnachophaaGreat.tstX d p).log = lacksL d.log (joinC d.base p.st.clock) := by unfold Go.Proofs.YtihedgnachophaaGreat.tstX; rw [if_pos hw]; rfl
    rw [← e]; exact hu
   exact h.log u (List.mem_filter.1 hu').1
 ·have ht : tstE d p = 0 := by unfold tstE; rw [if_neg hw]
  have hx : Go.Proofs.YtihedgnachophaaGreat.tstX d p = d := by unfold Go.Proofs.YtihedgnachophaaGreat.tstX; rw [if_neg hw]
  exact ⟨ht, by rw [hx]; exact h, fun hh => absurd hh hw⟩
theorem InD.more {d : NdS} {u : Upd} (h : InD n A d) (hA : errL n (zeroC n.toNat) A = 0) (hw : wrongL u (totC n A) n = 0) : InD n (A ++ [u]) d := by
 obtain ⟨h1, h2⟩ := h.ina.more hA hw
 exact ⟨h.okm, h1, by rw [h2]; exact h.of, fun v hv => List.mem_append.2 (.inl (h.log v hv))⟩
theorem ups_lackM {k : List Int} (hk : (k.length : Int) = n) : ∀ (l : List Upd) {xs : List Int} {e : NdS}, wrongC xs n = 0 → errL n xs l = 0 → OkM n e → (∀ i, xs.getD i 0 ≤ e.st.clock.getD i 0) → (∀ i, k.getD i 0 ≤ e.st.clock.getD i 0) →
  (upsE e (lacksL l k) = 0 ∧ ∀ i, (upsX e (lacksL l k)).st.clock.getD i 0 = joinI (e.st.clock.getD i 0) ((tickL xs l).getD i 0)) ∨ upsE e (lacksL l k) = 5
 | [], xs, e, _, _, _, h, _ => .inl ⟨rfl, fun i => by
   show e.st.clock.getD i 0 = joinI (e.st.clock.getD i 0) (xs.getD i 0)
   have := h i
   unfold joinI
   rw [if_neg (by omega)]⟩
 | u :: r, xs, e, hg, he, ho, h, hke => by
  obtain ⟨hw, hr⟩ := errL_cons he
  obtain ⟨hg', ht⟩ := fits_tick hg hw
  obtain ⟨hwu, hent, hsee⟩ := (fits_iff hg).1 hw
  have hs := seenU_iff hwu hk
  rw [tickL]
  by_cases hsu : seenU u k = true
  ·have el : lacksL (u :: r) k = lacksL r k := by unfold lacksL; rw [List.filter_cons, hsu]; simp
   rw [el]
   refine ups_lackM hk r hg' hr ho (fun i => ?_) hke
   rw [ht i]
   have := hs.1 hsu
   have := hke u.author.toNat
   split
   ·next e => rw [e, hent]; omega
   ·exact h i
  ·have el : lacksL (u :: r) k = u :: lacksL r k := by unfold lacksL; rw [List.filter_cons]; simp [hsu]
   rw [el, upsE]
   have hse := seenU_iff hwu ho.len
   by_cases hsk : skipB e u = true
   ·have e1 : tuE e u = 0 := by unfold tuE; rw [if_pos hsk]
    have e2 : tuX e u = e := by unfold tuX; rw [if_pos hsk]
    have hle : ∀ i, (tickC xs u.author).getD i 0 ≤ e.st.clock.getD i 0 := by
     intro i
     rw [ht i]
     have := hse.1 ((skipB_iff ho).1 hsk).2
     split
     ·next e => rw [e, hent]; omega
     ·exact h i
    have hrec := ups_lackM hk r hg' hr ho hle hke
    rw [if_pos e1, e2]
    have e3 : upsX e (u :: lacksL r k) = upsX e (lacksL r k) := by show upsX (tuX e u) (lacksL r k) = _; rw [e2]
    rw [e3]
    exact hrec
   ·have hns : ¬ seenU u e.st.clock = true := fun hh => hsk ((skipB_iff ho).2 ⟨hwu, hh⟩)
    have hlt : ¬ entU u + 1 ≤ e.st.clock.getD u.author.toNat 0 := fun hh => hns (hse.2 hh)
    have hge := h u.author.toNat
    have hfit : wrongL u e.st.clock n = 0 := (fits_iff ho.st.clock).2 ⟨hwu, by omega, fun i => Int.le_trans (hsee i) (h i)⟩
    by_cases hfew : e.log.length < 300
    ·have hp : playN e u = 0 := (playN_zero ho).2 ⟨hfew, hfit⟩
     have e1 : tuE e u = 0 := by unfold tuE; rw [if_neg hsk]; exact hp
     have e2 : tuX e u = playD e u := by unfold tuX; rw [if_neg hsk]
     obtain ⟨p1, p2, p3, -, -⟩ := ho.play hp
     obtain ⟨-, q2⟩ := fits_tick ho.st.clock hfit
     have hle : ∀ i, (tickC xs u.author).getD i 0 ≤ (playD e u).st.clock.getD i 0 := by
      intro i
      rw [p2, q2 i, ht i]
      have := h i
      split <;> omega
     have hrec := ups_lackM hk r hg' hr p1 hle (fun i => Int.le_trans (hke i) (p3 i))
     have e3 : upsX e (u :: lacksL r k) = upsX (playD e u) (lacksL r k) := by show upsX (tuX e u) (lacksL r k) = _; rw [e2]
     rw [if_pos e1, e2, e3]
     rcases hrec with ⟨k1, k2⟩ | k1
     ·refine .inl ⟨k1, fun i => ?_⟩
      rw [k2 i, p2, q2 i]
      obtain ⟨-, tg⟩ := tickL_good r hg' hr
      have := tg i
      rw [ht i] at this
      split
      ·next ei =>
       rw [if_pos ei] at this
       subst ei
       unfold joinI
       split <;> split <;> omega
      ·rfl
     ·exact .inr k1
    ·have hp : playN e u = 5 := by unfold playN; rw [if_pos (by omega)]
     have e1 : tuE e u = 5 := by unfold tuE; rw [if_neg hsk]; exact hp
     rw [e1]
     exact .inr rfl
structure InP (n : Int) (A : List Upd) (ca cb : List Int) (p : Pcl) : Prop where
 good : wrongC p.clock n = 0
 le : ∀ j, p.clock.getD j 0 ≤ ca.getD j 0
 whole : p.whole = true → p.ups = [] ∧ p.st.clock = p.clock ∧ InA n A p.clock ∧ p.st = ofS n A p.clock
 part : p.whole = false → ∃ xs l k, wrongC xs n = 0 ∧ errL n xs l = 0 ∧ tickL xs l = p.clock ∧ ((List.length k : Nat) : Int) = n ∧ (∀ j, xs.getD j 0 ≤ cb.getD j 0) ∧ (∀ j, k.getD j 0 ≤ cb.getD j 0) ∧ p.ups = lacksL l k ∧ ∀ u ∈ l, u ∈ A
theorem InP.mono {ca cb ca' cb' : List Int} {p : Pcl} (h : InP n A ca cb p) (ha : ∀ j, ca.getD j 0 ≤ ca'.getD j 0) (hb : ∀ j, cb.getD j 0 ≤ cb'.getD j 0) : InP n A ca' cb' p := by
 refine ⟨h.good, fun j => Int.le_trans (h.le j) (ha j), h.whole, fun hw => ?_⟩
 obtain ⟨xs, l, k, h1, h2, h3, h4, h5, h6, h7, h8⟩ := h.part hw
 exact ⟨xs, l, k, h1, h2, h3, h4, fun j => Int.le_trans (h5 j) (hb j), fun j => Int.le_trans (h6 j) (hb j), h7, h8⟩
theorem InP.more {ca cb : List Int} {p : Pcl} {u : Upd} (h : InP n A ca cb p) (hA : errL n (zeroC n.toNat) A = 0) (hw : wrongL u (totC n A) n = 0) : InP n (A ++ [u]) ca cb p := by
 refine ⟨h.good, h.le, fun hh => ?_, fun hh => ?_⟩
 ·obtain ⟨h1, h2, h3, h4⟩ := h.whole hh
  obtain ⟨k1, k2⟩ := h3.more hA hw
  exact ⟨h1, h2, k1, by rw [k2]; exact h4⟩
 ·obtain ⟨xs, l, k, h1, h2, h3, h4, h5, h6, h7, h8⟩ := h.part hh
  exact ⟨xs, l, k, h1, h2, h3, h4, h5, h6, h7, fun v hv => List.mem_append.2 (.inl (h8 v hv))⟩
theorem InP.sent {d : NdS} {i : Int} {cb : List Int} (h : InD n A d) (hs : otherE d i = 0) (hk : ∀ j, (d.known.getD i.toNat []).getD j 0 ≤ cb.getD j 0) : InP n A d.st.clock cb (sendX d i) := by
 obtain ⟨hok, hi0, hi1, hno⟩ := other_zero.1 hs
 unfold sendX
 rw [if_pos hs]
 have hl := h.okm.len
 split
 ·next hw =>
  have hi : i.toNat < d.known.length := by have := h.okm.kl; omega
  obtain ⟨-, -, k3, -⟩ := goodC_iff.1 (h.okm.kg _ hi).1
  exact ⟨h.ina.good, fun _ => Int.le_refl _, fun hh => (by cases hh), fun _ => ⟨d.base, d.log, d.known.getD i.toNat [], h.okm.base, h.okm.fits, h.okm.come, k3, fun j => Int.le_trans (seesC_iff.1 hw j) (hk j), hk, rfl, h.log⟩⟩
 ·exact ⟨h.ina.good, fun _ => Int.le_refl _, fun _ => ⟨rfl, rfl, h.ina, h.of⟩, fun hh => (by cases hh)⟩
theorem InP.taken {d : NdS} {i : Int} {ca : List Int} {p : Pcl} (h : InD n A d) (hA : errL n (zeroC n.toNat) A = 0) (hp : InP n A ca d.st.clock p) (hs : otherE d i = 0) :
  (takeE d i p = 0 ∧ InD n A (takeX d i p) ∧ OkN n (takeX d i p) ∧ (takeX d i p).self = d.self ∧ (takeX d i p).st.clock = joinC d.st.clock p.clock ∧ (takeX d i p).known = (d.known.set i.toNat (joinC (d.known.getD i.toNat []) p.clock)).set d.self.toNat (joinC d.st.clock p.clock)) ∨ takeE d i p = 5 := by
 obtain ⟨hok, hi0, hi1, hno⟩ := other_zero.1 hs
 have hl := h.okm.len
 have hpc : wrongC p.clock d.st.clock.length = 0 := by rw [hl]; exact hp.good
 have htst := h.tstX hA (p := p) fun hw => by
  obtain ⟨h1, h2, h3, h4⟩ := hp.whole hw
  rw [h2]
  exact ⟨h3, h4⟩
 obtain ⟨t1, t2, t3⟩ := htst
 obtain ⟨m1, m2, m3, m4, m5⟩ := h.okm.tst t1
 have hjg := join_good h.okm.st.clock hp.good
 obtain ⟨-, -, jl, -⟩ := goodC_iff.1 hjg
 have main : (upsE (tstX d p) p.ups = 0 ∧ (∀ u ∈ p.ups, u ∈ A) ∧ (upsX (tstX d p) p.ups).st.clock = joinC d.st.clock p.clock) ∨ upsE (tstX d p) p.ups = 5 := by
  cases hw : p.whole
  ·obtain ⟨xs, l, k, h1, h2, h3, h4, h5, h6, h7, h8⟩ := hp.part hw
   have hx : tstX d p = d := by unfold tstX; rw [if_neg (by rw [hw]; decide)]
   rw [hx, h7]
   rcases ups_lackM h4 l h1 h2 h.okm h5 h6 with ⟨u1, u2⟩ | u1
   ·refine .inl ⟨u1, fun u hu => h8 u (List.mem_filter.1 hu).1, ?_⟩
    obtain ⟨v1, -⟩ := OkM.ups _ h.okm u1
    have := v1.len
    refine eq_getD (by omega) fun j => ?_
    rw [u2 j, h3, joinC_getD]
   ·exact .inr u1
  ·obtain ⟨h1, h2, h3, h4⟩ := hp.whole hw
   rw [h1]
   refine .inl ⟨rfl, fun u hu => by simp at hu, ?_⟩
   show (tstX d p).st.clock = _
   rw [t3 hw, h2]
 rcases main with ⟨u1, u2, u3⟩ | u1
 ·have hT : Took d i p := ⟨hok, hi0, hi1, hno, hpc, t1, u1, fun j => by rw [u3, joinC_getD]; exact joinI_le.2⟩
  have he := take_zero.2 hT
  have hX : takeX d i p = selfN (tellN (upsX (tstX d p) p.ups) i p.clock) := by unfold takeX; rw [if_pos he]
  have hI := InD.upsX hA p.ups t2 u2 u1
  obtain ⟨r1, -, -⟩ := hT.right
  obtain ⟨b1, b2, b3, b4, b5, b6⟩ := OkM.ups p.ups m1 u1
  rw [hl] at r1
  refine .inl ⟨he, ?_, by rw [hX]; exact r1, by rw [hX]; show (upsX (tstX d p) p.ups).self = _; rw [b4, m4], by rw [hX]; exact u3, ?_⟩
  ·rw [hX]
   exact ⟨r1.toOkM, hI.ina, hI.of, hI.log⟩
  ·rw [hX]
   show ((upsX (tstX d p) p.ups).known.set i.toNat (joinC ((upsX (tstX d p) p.ups).known.getD i.toNat []) p.clock)).set (upsX (tstX d p) p.ups).self.toNat (upsX (tstX d p) p.ups).st.clock = _
   rw [b5, m5, b4, m4, u3]
 ·refine .inr ?_
  unfold takeE
  rw [if_pos hs, if_pos hpc, if_pos t1, u1, if_neg (by decide)]
end
end Go.Proofs.YtihedgnachophaaGreat
/- What stays true of a world, whatever happens. -/
namespace Go.Proofs.YtihedgnachophaaGreat
open Go.RowKit

section
variable {n : Int} {A : List Upd} {w : WdS}
structure WInv (n : Int) (A : List Upd) (w : WdS) : Prop where
 n1 : 1 ≤ n
 n6 : n ≤ 6
 len : (w.nodes.length : Int) = n
 wl : w.way.length = w.nodes.length
 wr : ∀ a, a < w.nodes.length → (w.way.getD a []).length = w.nodes.length
 fit : errL n (zeroC n.toNat) A = 0
 nd : ∀ i, i < w.nodes.length → InD n A (w.nodes.getD i noNode) ∧ OkN n (w.nodes.getD i noNode) ∧ (w.nodes.getD i noNode).self = i ∧ (w.nodes.getD i noNode).st.clock.getD i 0 = (totC n A).getD i 0
 kn : ∀ i k, i < w.nodes.length → k < w.nodes.length → ∀ j, ((w.nodes.getD i noNode).known.getD k []).getD j 0 ≤ (w.nodes.getD k noNode).st.clock.getD j 0
 pc : ∀ a b, a < w.nodes.length → b < w.nodes.length → ∀ p ∈ (w.way.getD a []).getD b [], InP n A (w.nodes.getD a noNode).st.clock (w.nodes.getD b noNode).st.clock p

theorem getD_setN {α : Type} {l : List α} {i k : Nat} {x d : α} (h : i < l.length) : (l.set i x).getD k d = if k = i then x else l.getD k d := by
 rw [List.getD_eq_getElem?_getD, List.getD_eq_getElem?_getD, List.getElem?_set]
 by_cases e : i = k
 ·subst e
  rw [if_pos rfl, if_pos h, if_pos rfl]
  rfl
 ·rw [if_neg e, if_neg (fun hh => e hh.symm)]
theorem isNB_iff {i : Int} : isNB w i = true ↔ 0 ≤ i ∧ i < w.nodes.length := by unfold isNB; exact decide_eq_true_iff
theorem WInv.setN (h : WInv n A w) {i : Nat} {d : NdS} (hi : i < w.nodes.length) (h1 : InD n A d) (h2 : OkN n d) (h3 : d.self = i) (h4 : ∀ j, (w.nodes.getD i noNode).st.clock.getD j 0 ≤ d.st.clock.getD j 0) (h5 : d.st.clock.getD i 0 = (totC n A).getD i 0) (h6 : ∀ k, k < w.nodes.length → k ≠ i → ∀ j, (d.known.getD k []).getD j 0 ≤ (w.nodes.getD k noNode).st.clock.getD j 0) : WInv n A ⟨w.nodes.set i d, w.way⟩ := by
 have hm : ∀ k, k < w.nodes.length → ∀ j, (w.nodes.getD k noNode).st.clock.getD j 0 ≤ ((w.nodes.set i d).getD k noNode).st.clock.getD j 0 := by
  intro k hk j
  rw [getD_setN hi]
  split
  ·next e => subst e; exact h4 j
  ·exact Int.le_refl _
 refine ⟨h.n1, h.n6, by rw [List.length_set]; exact h.len, by rw [List.length_set]; exact h.wl, fun a ha => ?_, h.fit, fun k hk => ?_, fun k m hk hm' j => ?_, fun a b ha hb p hp => ?_⟩
 ·rw [List.length_set] at ha ⊢
  exact h.wr a ha
 ·rw [List.length_set] at hk
  show InD n A ((w.nodes.set i d).getD k noNode) ∧ OkN n ((w.nodes.set i d).getD k noNode) ∧ ((w.nodes.set i d).getD k noNode).self = k ∧ ((w.nodes.set i d).getD k noNode).st.clock.getD k 0 = (totC n A).getD k 0
  rw [getD_setN hi]
  split
  ·next e => subst e; exact ⟨h1, h2, h3, h5⟩
  ·exact h.nd k hk
 ·rw [List.length_set] at hk hm'
  show (((w.nodes.set i d).getD k noNode).known.getD m []).getD j 0 ≤ ((w.nodes.set i d).getD m noNode).st.clock.getD j 0
  by_cases hki : k = i
  ·subst hki
   rw [getD_setN hi, if_pos rfl]
   by_cases hmi : m = k
   ·subst hmi
    rw [getD_setN hi, if_pos rfl]
    have hs := h2.ks
    rw [h3] at hs
    have hs' : d.known.getD m [] = d.st.clock := hs
    rw [hs']
    exact Int.le_refl _
   ·rw [getD_setN hi, if_neg hmi]
    exact h6 m hm' hmi j
  ·rw [getD_setN hi, if_neg hki]
   exact Int.le_trans (h.kn k m hk hm' j) (hm m hm' j)
 ·rw [List.length_set] at ha hb
  exact (h.pc a b ha hb p hp).mono (hm a ha) (hm b hb)
theorem WInv.setW (h : WInv n A w) {a b : Nat} {l : List Pcl} (ha : a < w.nodes.length) (hb : b < w.nodes.length) (hl : ∀ p ∈ l, InP n A (w.nodes.getD a noNode).st.clock (w.nodes.getD b noNode).st.clock p) : WInv n A ⟨w.nodes, w.way.set a ((w.way.getD a []).set b l)⟩ := by
 have ha' : a < w.way.length := by rw [h.wl]; exact ha
 have hb' : b < (w.way.getD a []).length := by rw [h.wr a ha]; exact hb
 refine ⟨h.n1, h.n6, h.len, by rw [List.length_set]; exact h.wl, fun k hk => ?_, h.fit, h.nd, h.kn, fun k m hk hm p hp => ?_⟩
 ·show ((w.way.set a ((w.way.getD a []).set b l)).getD k []).length = w.nodes.length
  rw [getD_setN ha']
  split
  ·rw [List.length_set]; exact h.wr a ha
  ·exact h.wr k hk
 ·have hp' : p ∈ ((w.way.set a ((w.way.getD a []).set b l)).getD k []).getD m [] := hp
  rw [getD_setN ha'] at hp'
  split at hp'
  ·next e =>
   subst e
   rw [getD_setN hb'] at hp'
   split at hp'
   ·next e => subst e; exact hl p hp'
   ·exact h.pc k m hk hm p hp'
  ·exact h.pc k m hk hm p hp'
theorem WInv.issue (h : WInv n A w) {i : Nat} {u : Upd} (hi : i < w.nodes.length) (he : issueE (w.nodes.getD i noNode) u = 0) : WInv n (A ++ [ownU (w.nodes.getD i noNode) u]) ⟨w.nodes.set i (issueX (w.nodes.getD i noNode) u), w.way⟩ := by
 obtain ⟨hD, hN, hS, hO⟩ := h.nd i hi
 obtain ⟨d, hd⟩ : ∃ d, w.nodes.getD i noNode = d := ⟨_, rfl⟩
 rw [hd] at he hD hN hS hO ⊢
 have hz := zeroC_good hD.ina.good
 obtain ⟨r1, r2, r3⟩ := issue_right he
 have hX : issueX d u = selfN (playD d (ownU d u)) := by unfold issueX; rw [if_pos he]
 have hp : playN d (ownU d u) = 0 := by
  unfold issueE at he
  split at he
  ·exact he
  ·next h0 => exact absurd he h0
 rw [hD.okm.len] at r1
 obtain ⟨-, hw⟩ := (playN_zero hD.okm).1 hp
 obtain ⟨hwu, hent, hsee⟩ := (fits_iff hD.ina.good).1 hw
 obtain ⟨-, htk⟩ := fits_tick hD.ina.good hw
 obtain ⟨tg, -⟩ := tickL_good A hz h.fit
 have hau : (ownU d u).author.toNat = i := by show d.self.toNat = i; rw [hS]; rfl
 have hwt : wrongL (ownU d u) (totC n A) n = 0 := by
  refine (fits_iff tg).2 ⟨hwu, ?_, fun j => Int.le_trans (hsee j) (hD.ina.le j)⟩
  rw [hau] at hent ⊢
  have := hO
  unfold totC at this
  omega
 obtain ⟨-, htt⟩ := fits_tick tg hwt
 have htot : ∀ j, (totC n (A ++ [ownU d u])).getD j 0 = if j = i then (totC n A).getD j 0 + 1 else (totC n A).getD j 0 := by
  intro j
  unfold totC
  rw [tickL_snoc]
  have := htt j
  unfold totC at this
  rw [this, hau]
 have hA' : errL n (zeroC n.toNat) (A ++ [ownU d u]) = 0 := errL_snoc _ h.fit hwt
 have hD' : InD n (A ++ [ownU d u]) (playD d (ownU d u)) := (hD.more h.fit hwt).playD hA' (by simp) hp
 obtain ⟨pm, pc, ple, -, -⟩ := hD.okm.play hp
 -- the others, first
 have h0 : ∀ k, k < w.nodes.length → k ≠ i → InD n (A ++ [ownU d u]) (w.nodes.getD k noNode) ∧ OkN n (w.nodes.getD k noNode) ∧ (w.nodes.getD k noNode).self = k ∧ (w.nodes.getD k noNode).st.clock.getD k 0 = (totC n (A ++ [ownU d u])).getD k 0 := by
  intro k hk hki
  obtain ⟨k1, k2, k3, k4⟩ := h.nd k hk
  refine ⟨k1.more h.fit hwt, k2, k3, ?_⟩
  rw [htot, if_neg hki]
  exact k4
 have hXc : (issueX d u).st.clock = tickC d.st.clock (ownU d u).author := by rw [hX]; exact pc
 have hXs : (issueX d u).self = i := by rw [hX]; exact hS
 have hXk : (issueX d u).known = d.known.set i (issueX d u).st.clock := by
  rw [hX]
  show d.known.set d.self.toNat _ = _
  rw [hS]
  rfl
 have hm : ∀ k, k < w.nodes.length → ∀ j, (w.nodes.getD k noNode).st.clock.getD j 0 ≤ ((w.nodes.set i (issueX d u)).getD k noNode).st.clock.getD j 0 := by
  intro k hk j
  rw [getD_setN hi]
  split
  ·next e => subst e; rw [hd]; exact r2 j
  ·exact Int.le_refl _
 have hil : i < d.known.length := by have := hD.okm.kl; have := h.len; omega
 refine ⟨h.n1, h.n6, by rw [List.length_set]; exact h.len, by rw [List.length_set]; exact h.wl, fun a ha => ?_, hA', fun k hk => ?_, fun k m hk hm' j => ?_, fun a b ha hb p hp' => ?_⟩
 ·rw [List.length_set] at ha ⊢
  exact h.wr a ha
 ·rw [List.length_set] at hk
  show InD n _ ((w.nodes.set i (issueX d u)).getD k noNode) ∧ OkN n ((w.nodes.set i (issueX d u)).getD k noNode) ∧ ((w.nodes.set i (issueX d u)).getD k noNode).self = k ∧ ((w.nodes.set i (issueX d u)).getD k noNode).st.clock.getD k 0 = _
  rw [getD_setN hi]
  split
  ·next e =>
   subst e
   refine ⟨⟨r1.toOkM, ?_, ?_, ?_⟩, r1, hXs, ?_⟩
   ·rw [hXc, ← pc]; exact hD'.ina
   ·rw [hX]; exact hD'.of
   ·rw [hX]; exact hD'.log
   ·rw [hXc, htk, hau, if_pos rfl, htot, if_pos rfl, hO]
  ·next e => exact h0 k hk e
 ·rw [List.length_set] at hk hm'
  show (((w.nodes.set i (issueX d u)).getD k noNode).known.getD m []).getD j 0 ≤ ((w.nodes.set i (issueX d u)).getD m noNode).st.clock.getD j 0
  by_cases hki : k = i
  ·subst hki
   rw [getD_setN hi, if_pos rfl, hXk, getD_setN hil]
   split
   ·next e => subst e; rw [getD_setN hi, if_pos rfl]; exact Int.le_refl _
   ·next e =>
    have := h.kn k m hk hm' j
    rw [hd] at this
    exact Int.le_trans this (hm m hm' j)
  ·rw [getD_setN hi, if_neg hki]
   exact Int.le_trans (h.kn k m hk hm' j) (hm m hm' j)
 ·rw [List.length_set] at ha hb
  exact ((h.pc a b ha hb p hp').more h.fit hwt).mono (hm a ha) (hm b hb)
theorem WInv.other (h : WInv n A w) {a b : Nat} (ha : a < w.nodes.length) (hb : b < w.nodes.length) (hne : a ≠ b) : otherE (w.nodes.getD a noNode) b = 0 := by
 obtain ⟨hD, hN, hS, -⟩ := h.nd a ha
 have hl := hD.okm.len
 have := h.len
 refine other_zero.2 ⟨by rw [hl]; exact hN, by omega, by omega, ?_⟩
 rw [hS]
 omega
theorem WInv.take (h : WInv n A w) {a b : Nat} {p : Pcl} (ha : a < w.nodes.length) (hb : b < w.nodes.length) (hne : a ≠ b) (hp : InP n A (w.nodes.getD a noNode).st.clock (w.nodes.getD b noNode).st.clock p) :
  (takeE (w.nodes.getD b noNode) a p = 0 ∧ (takeX (w.nodes.getD b noNode) a p).st.clock = joinC (w.nodes.getD b noNode).st.clock p.clock ∧ (takeX (w.nodes.getD b noNode) a p).known = ((w.nodes.getD b noNode).known.set a (joinC ((w.nodes.getD b noNode).known.getD a []) p.clock)).set b (joinC (w.nodes.getD b noNode).st.clock p.clock) ∧ WInv n A ⟨w.nodes.set b (takeX (w.nodes.getD b noNode) a p), w.way⟩) ∨ takeE (w.nodes.getD b noNode) a p = 5 := by
 obtain ⟨hD, hN, hS, hO⟩ := h.nd b hb
 obtain ⟨hDa, -, -, -⟩ := h.nd a ha
 have ho := h.other hb ha (fun e => hne e.symm)
 rcases InP.taken hD h.fit hp ho with ⟨t1, t2, t3, t4, t5, t6⟩ | t1
 ·refine .inl ⟨t1, t5, ?_, ?_⟩
  ·rw [t6, hS]; rfl
  ·refine h.setN hb t2 t3 (by rw [t4]; exact hS) (fun j => by rw [t5, joinC_getD]; exact joinI_le.1) ?_ (fun k hk hkb j => ?_)
   ·rw [t5, joinC_getD]
    have h1 := hp.le b
    have h2 := hDa.ina.le b
    unfold joinI
    rw [if_neg (by omega)]
    exact hO
   ·have hal : a < (w.nodes.getD b noNode).known.length := by have := hD.okm.kl; have := h.len; omega
    rw [t6, hS]
    have e1 : (((w.nodes.getD b noNode).known.set ((a : Int)).toNat (joinC ((w.nodes.getD b noNode).known.getD ((a : Int)).toNat []) p.clock)).set ((b : Int)).toNat (joinC (w.nodes.getD b noNode).st.clock p.clock)).getD k [] = if k = a then joinC ((w.nodes.getD b noNode).known.getD a []) p.clock else (w.nodes.getD b noNode).known.getD k [] := by
     have hbl : b < (w.nodes.getD b noNode).known.length := by have := hD.okm.kl; have := h.len; omega
     rw [Int.toNat_natCast, Int.toNat_natCast, getD_setN (by rw [List.length_set]; exact hbl), if_neg hkb, getD_setN hal]
    rw [e1]
    split
    ·next e =>
     subst e
     rw [joinC_getD]
     exact joinI_lub (h.kn b k hb ha j) (hp.le j)
    ·exact h.kn b k hb hk j
 ·exact .inr t1
theorem WInv.prune (h : WInv n A w) {i : Nat} (hi : i < w.nodes.length) : nodeE (w.nodes.getD i noNode) = 0 ∧ WInv n A ⟨w.nodes.set i (pruneX (w.nodes.getD i noNode)), w.way⟩ := by
 obtain ⟨hD, hN, hS, hO⟩ := h.nd i hi
 have he : nodeE (w.nodes.getD i noNode) = 0 := nodeE_zero.2 (by rw [hD.okm.len]; exact hN)
 obtain ⟨q1, q2, q3, q4, q5, q6, q7⟩ := prune_right he
 rw [hD.okm.len] at q1
 refine ⟨he, h.setN hi ⟨q1.toOkM, by rw [q2]; exact hD.ina, by rw [q2]; exact hD.of, fun u hu => ?_⟩ q1 (by rw [q7]; exact hS) (fun j => by rw [q2]; exact Int.le_refl _) (by rw [q2]; exact hO) (fun k hk hki j => by rw [q6]; exact h.kn i k hi hk j)⟩
 have hX : pruneX (w.nodes.getD i noNode) = forgetN (w.nodes.getD i noNode) (allC (w.nodes.getD i noNode)) := by unfold pruneX; rw [if_pos he]
 rw [hX] at hu
 exact hD.log u (List.mem_filter.1 hu).1
theorem isNB_nat {i : Int} (h : isNB w i = true) : ∃ k : Nat, i = k ∧ k < w.nodes.length := by
 have := isNB_iff.1 h
 exact ⟨i.toNat, by omega, by omega⟩
theorem WInv.next (h : WInv n A w) {a b : Nat} (ha : a < w.nodes.length) (hb : b < w.nodes.length) : WInv n A (nextX w a b) := by
 unfold nextX
 split
 ·exact h
 ·exact h.setW ha hb fun p hp => h.pc a b ha hb p (List.mem_of_mem_tail hp)
theorem next_in (h : WInv n A w) {a b : Nat} (ha : a < w.nodes.length) (hb : b < w.nodes.length) (hn : ¬ (wayAt w a b).length = 0) : InP n A (w.nodes.getD a noNode).st.clock (w.nodes.getD b noNode).st.clock (nextP w a b) := by
 unfold nextP
 obtain ⟨l, hl⟩ : ∃ l, wayAt w a b = l := ⟨_, rfl⟩
 have hp := h.pc a b ha hb
 have hl' : (w.way.getD a []).getD b [] = l := hl
 rw [hl'] at hp
 rw [hl] at hn ⊢
 cases l with
 | nil => simp at hn
 | cons p r => exact hp p (by simp)
theorem nextX_nodes (w : WdS) (a b : Int) : (nextX w a b).nodes = w.nodes := by unfold nextX; split <;> rfl
theorem newU_none {o : DoS} (h : ¬ o.kind = 1) : newU w o = [] := by unfold newU; rw [if_neg (fun hh => h hh.1)]
theorem wdel_inv (h : WInv n A w) {a b : Nat} (ha : a < w.nodes.length) (hb : b < w.nodes.length) (hne : a ≠ b) : WInv n A (wdelX w a b) ∧ (wdelE w a b = 0 ∨ wdelE w a b = 5 ∨ wdelE w a b = 6) := by
 unfold wdelX wdelE
 by_cases hn : (wayAt w a b).length = 0
 ·have he : nextE w a b = 6 := by unfold nextE; rw [if_pos hn]
  rw [he, if_neg (by decide), if_neg (by decide)]
  exact ⟨h, .inr (.inr rfl)⟩
 ·have he : nextE w a b = 0 := by unfold nextE; rw [if_neg hn]
  rw [he, if_pos rfl, if_pos rfl]
  have hp := next_in h ha hb hn
  have hx := h.next ha hb
  have hno := nextX_nodes w a b
  have hp' : InP n A ((nextX w a b).nodes.getD a noNode).st.clock ((nextX w a b).nodes.getD b noNode).st.clock (nextP w a b) := by rw [hno]; exact hp
  have hnb : isNB (nextX w a b) b = true := isNB_iff.2 ⟨by omega, by rw [hno]; omega⟩
  have hat : nodeAt w b = w.nodes.getD b noNode := rfl
  rw [hat]
  unfold changeX
  rcases hx.take (by rw [hno]; exact ha) (by rw [hno]; exact hb) hne hp' with ⟨t1, -, -, t4⟩ | t1
  ·rw [hno] at t1 t4
   rw [if_pos ⟨hnb, t1⟩]
   exact ⟨by unfold setNode; rw [hno]; exact t4, .inl t1⟩
  ·rw [hno] at t1
   rw [if_neg (by rw [t1]; exact fun hh => absurd hh.2 (by decide))]
   exact ⟨hx, .inr (.inl t1)⟩
theorem WInv.step (h : WInv n A w) (o : DoS) : WInv n (A ++ newU w o) (stepX w o) ∧ (o.kind = 3 → stepE w o = 0 ∨ stepE w o = 5 ∨ stepE w o = 6 ∨ stepE w o = 7) := by
 unfold stepX
 by_cases h1 : o.kind = 1
 ·rw [if_pos h1]
  refine ⟨?_, fun hh => absurd hh (by omega)⟩
  have hE : stepE w o = changeE w o.n (issueE (nodeAt w o.n) o.upd) := by unfold stepE; rw [if_pos h1]
  unfold changeX
  by_cases hc : isNB w o.n = true ∧ issueE (nodeAt w o.n) o.upd = 0
  ·obtain ⟨k, hk, hkl⟩ := isNB_nat hc.1
   have hz : stepE w o = 0 := by rw [hE]; unfold changeE; rw [if_pos hc.1]; exact hc.2
   rw [if_pos hc]
   unfold newU
   rw [if_pos ⟨h1, hz⟩]
   have he := hc.2
   rw [hk] at he ⊢
   exact h.issue hkl he
  ·rw [if_neg hc]
   have hz : ¬ stepE w o = 0 := by
    rw [hE]
    unfold changeE
    split
    ·next hb => exact fun hh => hc ⟨hb, hh⟩
    ·decide
   unfold newU
   rw [if_neg (fun hh => hz hh.2), List.append_nil]
   exact h
 ·rw [if_neg h1, newU_none h1, List.append_nil]
  by_cases h2 : o.kind = 2
  ·rw [if_pos h2]
   refine ⟨?_, fun hh => absurd hh (by omega)⟩
   unfold twoX
   split
   ·next hc =>
    obtain ⟨a, ha, hal⟩ := isNB_nat hc.1
    obtain ⟨b, hb, hbl⟩ := isNB_nat hc.2.1
    have hab := hc.2.2
    rw [ha, hb] at hab ⊢
    have hne : a ≠ b := fun e => hab (by rw [e])
    unfold wsendX
    split
    ·refine h.setW hal hbl fun p hp => ?_
     rcases List.mem_append.1 hp with hp | hp
     ·exact h.pc a b hal hbl p hp
     ·rw [List.mem_singleton] at hp
      subst hp
      exact InP.sent (h.nd a hal).1 (h.other hal hbl hne) fun j => h.kn a b hal hbl j
    ·exact h
   ·exact h
  ·rw [if_neg h2]
   by_cases h3 : o.kind = 3
   ·rw [if_pos h3]
    have hE : stepE w o = twoE w o.n o.dst (wdelE w o.n o.dst) := by unfold stepE; rw [if_neg h1, if_neg h2, if_pos h3]
    rw [hE]
    unfold twoX twoE
    by_cases hc : isNB w o.n = true ∧ isNB w o.dst = true ∧ ¬ o.n = o.dst
    ·rw [if_pos hc, if_pos ⟨hc.1, hc.2.1⟩, if_neg hc.2.2]
     obtain ⟨a, ha, hal⟩ := isNB_nat hc.1
     obtain ⟨b, hb, hbl⟩ := isNB_nat hc.2.1
     have hab := hc.2.2
     rw [ha, hb] at hab ⊢
     have hne : a ≠ b := fun e => hab (by rw [e])
     obtain ⟨d1, d2⟩ := wdel_inv h hal hbl hne
     exact ⟨d1, fun _ => by omega⟩
    ·rw [if_neg hc]
     refine ⟨h, fun _ => ?_⟩
     split
     ·next hh =>
      split
      ·exact .inr (.inr (.inr rfl))
      ·next hq => exact absurd ⟨hh.1, hh.2, hq⟩ hc
     ·exact .inr (.inr (.inl rfl))
   ·rw [if_neg h3]
    refine ⟨?_, fun hh => absurd hh h3⟩
    by_cases h4 : o.kind = 4
    ·rw [if_pos h4]
     unfold twoX
     split
     ·next hc =>
      obtain ⟨a, ha, hal⟩ := isNB_nat hc.1
      obtain ⟨b, hb, hbl⟩ := isNB_nat hc.2.1
      rw [ha, hb]
      exact h.next hal hbl
     ·exact h
    ·rw [if_neg h4]
     by_cases h5 : o.kind = 5
     ·rw [if_pos h5]
      unfold changeX
      split
      ·next hc =>
       obtain ⟨k, hk, hkl⟩ := isNB_nat hc.1
       rw [hk]
       exact (h.prune hkl).2
      ·exact h
     ·rw [if_neg h5]
      exact h
theorem begin_len (k : Nat) : (beginW k).nodes.length = k := by unfold beginW; simp
theorem begin_at {k i : Nat} (hi : i < k) : (beginW k).nodes.getD i noNode = startX i k := by
 unfold beginW
 simp only
 rw [List.getD_eq_getElem?_getD, List.getElem?_map, List.getElem?_range hi]
 rfl
theorem begin_way {k a b : Nat} : ((beginW k).way.getD a []).getD b [] = [] := by
 unfold beginW
 simp only
 rw [List.getD_eq_getElem?_getD (l := List.replicate k (List.replicate k ([] : List Pcl))), List.getElem?_replicate]
 split
 ·simp only [Option.getD_some]
  rw [List.getD_eq_getElem?_getD, List.getElem?_replicate]
  split <;> rfl
 ·simp
theorem start_ok {k i : Nat} (h1 : 1 ≤ k) (h6 : k ≤ 6) (hi : i < k) : startX i k = ⟨i, ⟨zeroC k, [], []⟩, zeroC k, [], List.replicate k (zeroC k)⟩ ∧ OkN k (startX i k) := by
 have hE : startE i k = 0 := by unfold startE; rw [if_pos (by omega), if_pos (by omega)]
 have hX : startX i k = ⟨i, ⟨zeroC k, [], []⟩, zeroC k, [], List.replicate k (zeroC k)⟩ := by
  unfold startX
  rw [if_pos hE]
  rfl
 have hz : wrongC (zeroC k) k = 0 := goodC_iff.2 ⟨by omega, by omega, by unfold zeroC; simp, fun j => by rw [zeroC_getD]; omega⟩
 refine ⟨hX, ?_⟩
 rw [hX]
 have hl : (zeroC k).length = k := by unfold zeroC; simp
 have hg : ∀ m, m < (List.replicate k (zeroC k)).length → (List.replicate k (zeroC k)).getD m [] = zeroC k := by
  intro m hm
  rw [List.length_replicate] at hm
  rw [List.getD_eq_getElem?_getD, List.getElem?_replicate, if_pos hm]
  rfl
 have hs : OkS k (zeroC k) [] [] := okS_zero (n := k) hz
 refine ⟨⟨by rw [hl], hs, by show (0 : Int) ≤ i; omega, by show (i : Int) < k; omega, hz, by simp, rfl, rfl, by simp, fun m hm => ?_⟩, ?_⟩
 ·rw [hg m hm]
  exact ⟨hz, fun j => Int.le_refl _⟩
 ·exact hg i (by simp; exact hi)
theorem begin_inv {k : Nat} (h1 : 1 ≤ k) (h6 : k ≤ 6) : WInv k [] (beginW k) := by
 have hl := begin_len k
 have hz : wrongC (zeroC k) k = 0 := goodC_iff.2 ⟨by omega, by omega, by unfold zeroC; simp, fun j => by rw [zeroC_getD]; omega⟩
 refine ⟨by omega, by omega, by rw [hl], by unfold beginW; simp, fun a ha => ?_, rfl, fun i hi => ?_, fun i m hi hm j => ?_, fun a b ha hb p hp => ?_⟩
 ·rw [hl] at ha ⊢
  unfold beginW
  simp only
  rw [List.getD_eq_getElem?_getD, List.getElem?_replicate, if_pos ha]
  simp
 ·rw [hl] at hi
  rw [begin_at hi]
  obtain ⟨e, ho⟩ := start_ok h1 h6 hi
  refine ⟨⟨ho.toOkM, ?_, ?_, ?_⟩, ho, by rw [e], ?_⟩
  ·rw [e]
   exact ⟨hz, fun u hu => by simp at hu, fun j => Int.le_refl _⟩
  ·rw [e]
   rfl
  ·rw [e]
   intro u hu
   simp at hu
  ·rw [e]
   rfl
 ·rw [hl] at hi hm
  rw [begin_at hi, begin_at hm]
  obtain ⟨e, -⟩ := start_ok h1 h6 hi
  obtain ⟨e2, -⟩ := start_ok h1 h6 hm
  rw [e, e2]
  show ((List.replicate k (zeroC k)).getD m []).getD j 0 ≤ (zeroC k).getD j 0
  rw [List.getD_eq_getElem?_getD (l := List.replicate k (zeroC k)), List.getElem?_replicate, if_pos hm]
  exact Int.le_refl _
 ·rw [begin_way] at hp
  simp at hp
theorem run_inv : ∀ (l : List DoS) {A : List Upd} {w : WdS}, WInv n A w → WInv n (A ++ runU w l) (runX w l)
 | [], A, w, h => by rw [runU, List.append_nil]; exact h
 | o :: r, A, w, h => by
  have := run_inv r (h.step o).1
  rw [List.append_assoc] at this
  exact this
theorem run_all {k : Nat} (h1 : 1 ≤ k) (h6 : k ≤ 6) (l : List DoS) : WInv k (runU (beginW k) l) (runX (beginW k) l) := by
 have := run_inv l (begin_inv h1 h6)
 rw [List.nil_append] at this
 exact this
end
end Go.Proofs.YtihedgnachophaaGreat
/- What is read in a world, what is refused, and what pruning changes: as lists. -/
namespace Go.Proofs.YtihedgnachophaaGreat
open Go.RowKit

section
variable {n : Int} {A : List Upd} {w x : WdS}
theorem setNode_nodes (w : WdS) (i : Int) (d : NdS) : (setNode w i d).nodes = w.nodes.set i.toNat d := rfl
theorem runX_append (w : WdS) (l m : List DoS) : runX w (l ++ m) = runX (runX w l) m := by unfold runX; rw [List.foldl_append]
theorem runE_append (m : List DoS) : ∀ (l : List DoS) (w : WdS), runE w (l ++ m) = runE w l ++ runE (runX w l) m
 | [], w => rfl
 | o :: r, w => by rw [List.cons_append, runE, runE, runE_append m r]; rfl
theorem runU_append (m : List DoS) : ∀ (l : List DoS) (w : WdS), runU w (l ++ m) = runU w l ++ runU (runX w l) m
 | [], w => by simp [runU, runX]
 | o :: r, w => by rw [List.cons_append, runU, runU, runU_append m r, List.append_assoc]; rfl
theorem take_snoc {α : Type} {l : List α} {k : Nat} {o : α} (h : l[k]? = some o) : l.take (k + 1) = l.take k ++ [o] := by
 rw [List.take_add_one, h]
 rfl
theorem stepX_len (w : WdS) (o : DoS) : (stepX w o).nodes.length = w.nodes.length := by
 unfold stepX changeX twoX wsendX wdelX
 split
 ·split <;> simp [setNode]
 ·split
  ·split
   ·split <;> simp [setWay]
   ·rfl
  ·split
   ·split
    ·split
     ·unfold changeX
      split
      ·rw [setNode_nodes, List.length_set, nextX_nodes]
      ·rw [nextX_nodes]
     ·rfl
    ·rfl
   ·split
    ·split
     ·rw [nextX_nodes]
     ·rfl
    ·split
     ·split <;> simp [setNode]
     ·rfl
theorem runX_len : ∀ (l : List DoS) (w : WdS), (runX w l).nodes.length = w.nodes.length
 | [], _ => rfl
 | o :: r, w => by
  show (runX (stepX w o) r).nodes.length = _
  rw [runX_len r, stepX_len]
theorem read_play (h : WInv n A w) {i : Nat} (hi : i < w.nodes.length) (hA : A.length ≤ 300) :
  playE ⟨zeroC n.toNat, [], []⟩ (mine (w.nodes.getD i noNode).st.clock A) = 0 ∧ playX ⟨zeroC n.toNat, [], []⟩ (mine (w.nodes.getD i noNode).st.clock A) = (w.nodes.getD i noNode).st := by
 obtain ⟨hD, -, -, -⟩ := h.nd i hi
 have hz := zeroC_good hD.ina.good
 have hl : ((zeroC n.toNat).length : Int) = n := by unfold zeroC; have := h.n1; simp; omega
 have hf := (of_fits hD.ina.good h.fit).2 hD.ina.cl
 have he : playE ⟨zeroC n.toNat, [], []⟩ (mine (w.nodes.getD i noNode).st.clock A) = 0 := by
  refine playE_iff.2 ⟨?_, Nat.le_trans (List.length_filter_le _ _) hA, ?_⟩
  ·show OkS ((zeroC n.toNat).length : Int) (zeroC n.toNat) [] []
   rw [hl]
   exact okS_zero hD.ina.good
  ·show errL ((zeroC n.toNat).length : Int) (zeroC n.toNat) _ = 0
   rw [hl]
   exact hf
 refine ⟨he, ?_⟩
 unfold playX
 rw [if_pos he]
 exact hD.of.symm
theorem same_clock (h : WInv n A w) {i k : Nat} (hi : i < w.nodes.length) (hk : k < w.nodes.length) (he : (w.nodes.getD i noNode).st.clock = (w.nodes.getD k noNode).st.clock) : (w.nodes.getD i noNode).st = (w.nodes.getD k noNode).st := by
 rw [(h.nd i hi).1.of, (h.nd k hk).1.of, he]
end
end Go.Proofs.YtihedgnachophaaGreat
