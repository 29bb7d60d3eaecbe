/- Nodes, as lists: what is wrong with one, and what comes of whatever it does. -/
import Derived.Test.YtfhecilhcofboaaGreatJoPure
import Derived.Test.YtfhecilhcofboaaGreatStW
import Derived.Test.YtfhecilhcofboaaGreatLacksPure
namespace Go.Proofs.YtfhecilhcofboaaGreat
open Go.RowKit

structure NdS where
 self : Int
 st : StS
 base : List Int
 log : List Upd
 known : List (List Int)
structure Pcl where
 whole : Bool
 st : StS
 ups : List Upd
 clock : List Int
def noNode : NdS := ⟨0, ⟨[], [], []⟩, [], [], []⟩
def noPcl : Pcl := ⟨false, ⟨[], [], []⟩, [], []⟩

def firstE (f : Nat → Int) : Nat → Nat → Int
 | _, 0 => 0
 | i, m + 1 => if f i = 0 then firstE f (i + 1) m else f i
theorem firstE_zero {f : Nat → Int} : ∀ (m i : Nat), firstE f i m = 0 ↔ ∀ j, i ≤ j → j < i + m → f j = 0
 | 0, i => ⟨fun _ j h1 h2 => by omega, fun _ => rfl⟩
 | m + 1, i => by
  rw [firstE]
  split
  ·next h =>
   rw [firstE_zero m (i + 1)]
   constructor
   ·intro hh j h1 h2
    by_cases he : j = i
    ·rw [he]; exact h
    exact hh j (by omega) (by omega)
   exact fun hh j h1 h2 => hh j (by omega) (by omega)
  next h => exact ⟨fun hh => absurd hh h, fun hh => absurd (hh i (nlr _) (by omega)) h⟩
def knownE (d : NdS) (i : Nat) : Int :=
 if wrongC (d.known.getD i []) d.st.clock.length = 0 then
  if seesC d.st.clock (d.known.getD i []) = true then (if (i : Int) = d.self ∧ ¬ d.known.getD i [] = d.st.clock then 7 else 0) else 7
 else wrongC (d.known.getD i []) d.st.clock.length
def nodeE (d : NdS) : Int :=
 if stE d.st d.st.clock.length = 0 then
  if 0 ≤ d.self ∧ d.self < d.st.clock.length then
   if clockE d.base d.log d.st.clock.length = 0 then
    if clockX d.base d.log d.st.clock.length = d.st.clock ∧ d.known.length = d.st.clock.length then firstE (knownE d) 0 d.known.length else 7
   else clockE d.base d.log d.st.clock.length
  else 3
 else stE d.st d.st.clock.length

structure OkM (n : Int) (d : NdS) : Prop where
 len : (d.st.clock.length : Int) = n
 st : OkS n d.st.clock d.st.lives d.st.tals
 s0 : 0 ≤ d.self
 s1 : d.self < n
 base : wrongC d.base n = 0
 few : d.log.length ≤ 300
 fits : errL n d.base d.log = 0
 come : tickL d.base d.log = d.st.clock
 kl : (d.known.length : Int) = n
 kg : ∀ i, i < d.known.length → wrongC (d.known.getD i []) n = 0 ∧ ∀ j, (d.known.getD i []).getD j 0 ≤ d.st.clock.getD j 0
structure OkN (n : Int) (d : NdS) : Prop extends OkM n d where
 ks : d.known.getD d.self.toNat [] = d.st.clock

theorem nodeE_zero {d : NdS} : nodeE d = 0 ↔ OkN d.st.clock.length d := by
 unfold nodeE
 constructor
 ·intro h
  split at h
  ·next h1 =>
   split at h
   ·next h2 =>
    split at h
    ·next h3 =>
     split at h
     ·next h4 =>
      have hf := (firstE_zero _ _).1 h
      obtain ⟨c1, c2, c3⟩ := clockE_ok.1 h3
      have hc := (clock_ok h3).1
      refine ⟨⟨rfl, stE_ok.1 h1, h2.1, h2.2, c1, c2, c3, by rw [← hc]; exact h4.1, by omega, fun i hi => ?_⟩, ?_⟩
      ·have := hf i (Nat.zero_le _) (by omega)
       unfold knownE at this
       split at this
       ·next k1 =>
        split at this
        ·next k2 => exact ⟨k1, seesC_iff.1 k2⟩
        cases this
       next k1 => exact absurd this k1
      have := hf d.self.toNat (Nat.zero_le _) (by omega)
      unfold knownE at this
      split at this
      ·split at this
       ·split at this
        ·cases this
        next k3 =>
        by_cases he : d.known.getD d.self.toNat [] = d.st.clock
        ·exact he
        exact absurd ⟨by omega, he⟩ k3
       cases this
      next k1 => exact absurd this k1
     cases h
    next h3 => exact absurd h h3
   cases h
  next h1 => exact absurd h h1
 intro h
 have h3 : clockE d.base d.log d.st.clock.length = 0 := clockE_ok.2 ⟨h.base, h.few, h.fits⟩
 rw [if_pos (stE_ok.2 h.st), if_pos ⟨h.s0, h.s1⟩, if_pos h3, if_pos ⟨by rw [(clock_ok h3).1]; exact h.come, by have := h.kl; omega⟩, firstE_zero]
 intro j _ hj
 obtain ⟨k1, k2⟩ := h.kg j (by omega)
 unfold knownE
 rw [if_pos k1, if_pos (seesC_iff.2 k2), if_neg]
 rintro ⟨e1, e2⟩
 refine e2 ?_
 rw [← h.ks, ← e1]
 rfl

def otherE (d : NdS) (who : Int) : Int := if nodeE d = 0 then (if 0 ≤ who ∧ who < d.st.clock.length then (if who = d.self then 7 else 0) else 6) else nodeE d
def ownU (d : NdS) (u : Upd) : Upd := ⟨d.self, d.st.clock, u.kind, u.key, u.item⟩
def playN (d : NdS) (u : Upd) : Int := if 300 ≤ d.log.length then 5 else playE d.st [u]
def playD (d : NdS) (u : Upd) : NdS := ⟨d.self, playX d.st [u], d.base, d.log ++ [u], d.known⟩
def selfN (d : NdS) : NdS := ⟨d.self, d.st, d.base, d.log, d.known.set d.self.toNat d.st.clock⟩
def issueE (d : NdS) (u : Upd) : Int := if nodeE d = 0 then playN d (ownU d u) else nodeE d
def issueX (d : NdS) (u : Upd) : NdS := if issueE d u = 0 then selfN (playD d (ownU d u)) else noNode
def sendX (d : NdS) (k : Int) : Pcl :=
 if otherE d k = 0 then (if seesC (d.known.getD k.toNat []) d.base = true then ⟨false, ⟨[], [], []⟩, lacksL d.log (d.known.getD k.toNat []), d.st.clock⟩ else ⟨true, d.st, [], d.st.clock⟩) else noPcl
def forgetN (d : NdS) (c : List Int) : NdS := ⟨d.self, d.st, joinC d.base c, lacksL d.log (joinC d.base c), d.known⟩
def tstE (d : NdS) (p : Pcl) : Int := if p.whole = true then joinE d.st p.st else 0
def tstX (d : NdS) (p : Pcl) : NdS := if p.whole = true then forgetN ⟨d.self, joinX d.st p.st, d.base, d.log, d.known⟩ p.st.clock else d
def skipB (d : NdS) (u : Upd) : Bool := decide (wrongU u d.st.clock.length = 0) && seenU u d.st.clock
def tuE (d : NdS) (u : Upd) : Int := if skipB d u = true then 0 else playN d u
def tuX (d : NdS) (u : Upd) : NdS := if skipB d u = true then d else playD d u
def upsE : NdS → List Upd → Int
 | _, [] => 0
 | d, u :: r => if tuE d u = 0 then upsE (tuX d u) r else tuE d u
def upsX (d : NdS) (l : List Upd) : NdS := l.foldl tuX d
def tellN (d : NdS) (i : Int) (c : List Int) : NdS := ⟨d.self, d.st, d.base, d.log, d.known.set i.toNat (joinC (d.known.getD i.toNat []) c)⟩
def takeE (d : NdS) (i : Int) (p : Pcl) : Int :=
 if otherE d i = 0 then
  if wrongC p.clock d.st.clock.length = 0 then
   if tstE d p = 0 then
    if upsE (tstX d p) p.ups = 0 then (if seesC (upsX (tstX d p) p.ups).st.clock p.clock = true then 0 else 8) else upsE (tstX d p) p.ups
   else tstE d p
  else wrongC p.clock d.st.clock.length
 else otherE d i
def takeX (d : NdS) (i : Int) (p : Pcl) : NdS := if takeE d i p = 0 then selfN (tellN (upsX (tstX d p) p.ups) i p.clock) else noNode
def allC (d : NdS) : List Int := d.known.foldl meetC d.st.clock
def pruneX (d : NdS) : NdS := if nodeE d = 0 then forgetN d (allC d) else noNode

section
variable {n : Int} {d : NdS}
theorem joinI_le {x y : Int} : x ≤ joinI x y ∧ y ≤ joinI x y := by unfold joinI; split <;> omega
theorem joinI_lub {x y z : Int} (h : x ≤ z) (h' : y ≤ z) : joinI x y ≤ z := by unfold joinI; split <;> omega
theorem lacks_fits {cs : List Int} (hc : wrongC cs n = 0) : ∀ (l : List Upd) {xs ds : List Int}, wrongC xs n = 0 → wrongC ds n = 0 → errL n xs l = 0 → (∀ i, ds.getD i 0 = joinI (cs.getD i 0) (xs.getD i 0)) → errL n ds (lacksL l cs) = 0
 | [], _, _, _, _, _, _ => rfl
 | u :: r, xs, ds, hg, hd, he, h => by
  obtain ⟨hw, hr⟩ := errL_cons he
  obtain ⟨hg', ht⟩ := fits_tick hg hw
  obtain ⟨hwu, hent, hsee⟩ := (fits_iff hg).1 hw
  obtain ⟨-, -, c3, -⟩ := goodC_iff.1 hc
  have hs := seenU_iff hwu c3
  by_cases hsu : seenU u cs = true
  ·have e : lacksL (u :: r) cs = lacksL r cs := by unfold lacksL; rw [List.filter_cons, hsu]; simp
   rw [e]
   refine lacks_fits hc r hg' hd hr fun i => ?_
   rw [h i, ht i]
   have := hs.1 hsu
   split
   ·next e => rw [e, hent]; unfold joinI; split <;> split <;> omega
   rfl
  have e : lacksL (u :: r) cs = u :: lacksL r cs := by unfold lacksL; rw [List.filter_cons]; simp [hsu]
  have hlt : ¬ entU u + 1 ≤ cs.getD u.author.toNat 0 := fun hh => hsu (hs.2 hh)
  have hfit : wrongL u ds n = 0 := by
   refine (fits_iff hd).2 ⟨hwu, ?_, fun i => ?_⟩
   ·rw [h, hent]; unfold joinI; split <;> omega
   rw [h]
   exact Int.le_trans (hsee i) joinI_le.2
  obtain ⟨hd', htd⟩ := fits_tick hd hfit
  rw [e, errL, if_pos hfit]
  refine lacks_fits hc r hg' hd' hr fun i => ?_
  rw [htd i, ht i, h i]
  split
  ·next e => rw [e, hent]; unfold joinI; split <;> split <;> omega
  rfl
theorem lacks_few {l : List Upd} {cs : List Int} : (lacksL l cs).length ≤ l.length := List.length_filter_le _ _
theorem forget_log {b c cl : List Int} {l : List Upd} (hb : wrongC b n = 0) (hc : wrongC c n = 0) (hf : errL n b l = 0) (ht : tickL b l = cl) :
  wrongC (joinC b c) n = 0 ∧ errL n (joinC b c) (lacksL l (joinC b c)) = 0 ∧ tickL (joinC b c) (lacksL l (joinC b c)) = joinC cl c := by
 have hj := join_good hb hc
 have hd : ∀ i, (joinC b c).getD i 0 = joinI ((joinC b c).getD i 0) (b.getD i 0) := by
  intro i
  rw [joinC_getD]
  unfold joinI
  split <;> split <;> omega
 have h1 := lacks_fits hj l hb hj hf hd
 refine ⟨hj, h1, ?_⟩
 obtain ⟨t1, t2⟩ := tickL_good l hb hf
 obtain ⟨t3, -⟩ := tickL_good _ hj h1
 rw [ht] at t1
 obtain ⟨-, -, l1, -⟩ := goodC_iff.1 t3
 obtain ⟨-, -, l2, -⟩ := goodC_iff.1 (join_good t1 hc)
 refine eq_getD (by omega) fun i => ?_
 rw [lacks_join hj l hb hf rfl hd i, ht, joinC_getD, joinC_getD]
 have := t2 i
 rw [ht] at this
 unfold joinI
 split <;> split <;> split <;> omega

theorem joinX_ok {a b : StS} (ha : OkS n a.clock a.lives a.tals) (hb : OkS n b.clock b.lives b.tals) : OkS n (joinC a.clock b.clock) (sortA ltL (rawL a b)) (sortA ltT (rawT a b)) := by
 have hj := join_good ha.clock hb.clock
 obtain ⟨-, -, a3, a4⟩ := goodC_iff.1 ha.clock
 obtain ⟨-, -, b3, b4⟩ := goodC_iff.1 hb.clock
 obtain ⟨-, -, j3, -⟩ := goodC_iff.1 hj
 have hmem : ∀ x ∈ sortA ltL (rawL a b), x ∈ a.lives ∨ x ∈ b.lives := by
  intro x hx
  rcases (mem_rawL ha hb x).1 (mem_sortA.1 hx) with h | h | h
  ·exact .inl h.1
  ·exact .inl h.1
  exact .inr h.1
 have hmemT : ∀ t ∈ sortA ltT (rawT a b), (t ∈ a.tals ∧ ¬ a.clock.getD t.author.toNat 0 < b.clock.getD t.author.toNat 0) ∨ (t ∈ b.tals ∧ a.clock.getD t.author.toNat 0 < b.clock.getD t.author.toNat 0) := fun t ht => mem_rawT.1 (mem_sortA.1 ht)
 refine ⟨hj, fun x hx => ?_, fun x hx => ?_, ?_, fun t ht => ?_, fun t ht => ?_, ?_⟩
 ·rcases hmem x hx with h | h
  ·exact ha.lives x h
  exact hb.lives x h
 ·rw [joinC_getD]
  rcases hmem x hx with h | h
  ·obtain ⟨h1, h2, h3⟩ := ha.bound x h
   exact ⟨h1, by omega, Int.le_trans h3 joinI_le.1⟩
  obtain ⟨h1, h2, h3⟩ := hb.bound x h
  exact ⟨h1, by omega, Int.le_trans h3 joinI_le.2⟩
 ·exact pair_mem (fun _ _ _ _ h => ltL_iff.1 h) (sortA_pair ltL_tr (rawL_pair ha hb))
 ·rcases hmemT t ht with ⟨h, hlt⟩ | ⟨h, hlt⟩
  ·obtain ⟨h1, h2, h3, h4, h5, h6⟩ := ha.tals t h
   refine ⟨h1, h2, h3, h4, ?_, ?_⟩ <;> rw [joinC_getD] <;> unfold joinI <;> split <;> omega
  obtain ⟨h1, h2, h3, h4, h5, h6⟩ := hb.tals t h
  refine ⟨h1, h2, h3, h4, ?_, ?_⟩ <;> rw [joinC_getD] <;> unfold joinI <;> split <;> omega
 ·rcases hmemT t ht with ⟨h, -⟩ | ⟨h, -⟩
  ·exact ha.full t h
  exact hb.full t h
 exact pair_mem (fun _ _ _ _ h => ltT_iff.1 h) (sortA_pair ltT_tr (rawT_pair ha hb))

theorem playN_zero (h : OkM n d) {u : Upd} : playN d u = 0 ↔ d.log.length < 300 ∧ wrongL u d.st.clock n = 0 := by
 unfold playN
 have hl := h.len
 split
 ·next h1 => exact ⟨fun h => (by cases h), fun h => (by omega)⟩
 next h1 =>
 rw [playE_iff, hl]
 constructor
 ·rintro ⟨-, -, h3⟩
  exact ⟨by omega, (errL_cons h3).1⟩
 rintro ⟨h2, h3⟩
 exact ⟨h.st, by simp, by rw [errL, if_pos h3]; rfl⟩
theorem playX_one (h : OkM n d) {u : Upd} (hu : wrongL u d.st.clock n = 0) : playX d.st [u] = ⟨tickC d.st.clock u.author, applyLv d.st.lives u, applyT d.st.tals u⟩ := by
 have : playE d.st [u] = 0 := playE_iff.2 ⟨by rw [h.len]; exact h.st, by simp, by rw [h.len, errL, if_pos hu]; rfl⟩
 unfold playX
 rw [if_pos this]
 rfl
theorem errL_snoc {u : Upd} : ∀ (l : List Upd) {xs : List Int}, errL n xs l = 0 → wrongL u (tickL xs l) n = 0 → errL n xs (l ++ [u]) = 0
 | [], xs, _, h => by rw [List.nil_append, errL, if_pos (show wrongL u xs n = 0 from h)]; rfl
 | v :: r, xs, he, h => by
  obtain ⟨h1, h2⟩ := errL_cons he
  rw [List.cons_append, errL, if_pos h1]
  exact errL_snoc r h2 h
theorem tickL_snoc {u : Upd} : ∀ (l : List Upd) (xs : List Int), tickL xs (l ++ [u]) = tickC (tickL xs l) u.author
 | [], xs => rfl
 | v :: r, xs => by rw [List.cons_append, tickL, tickL]; exact tickL_snoc r _
theorem OkM.play (h : OkM n d) {u : Upd} (hu : playN d u = 0) : OkM n (playD d u) ∧ (playD d u).st.clock = tickC d.st.clock u.author ∧ (∀ i, d.st.clock.getD i 0 ≤ (playD d u).st.clock.getD i 0) ∧ wrongU u n = 0 ∧ seenU u (playD d u).st.clock = true := by
 obtain ⟨h1, h2⟩ := (playN_zero h).1 hu
 have hX := playX_one h h2
 have hc : (playD d u).st.clock = tickC d.st.clock u.author := by unfold playD; rw [hX]
 obtain ⟨t1, t2⟩ := fits_tick h.st.clock h2
 obtain ⟨w1, w2, -⟩ := (fits_iff h.st.clock).1 h2
 obtain ⟨-, -, t3, -⟩ := goodC_iff.1 t1
 have hle : ∀ i, d.st.clock.getD i 0 ≤ (tickC d.st.clock u.author).getD i 0 := by
  intro i
  rw [t2 i]
  split <;> omega
 refine ⟨⟨by rw [hc, tickC_length]; exact h.len, ?_, h.s0, h.s1, h.base, ?_, ?_, ?_, h.kl, ?_⟩, hc, by rw [hc]; exact hle, w1, ?_⟩
 ·unfold playD
  rw [hX]
  exact h.st.apply h2
 ·show (d.log ++ [u]).length ≤ 300
  simp
  omega
 ·show errL n d.base (d.log ++ [u]) = 0
  exact errL_snoc _ h.fits (by rw [h.come]; exact h2)
 ·rw [hc]
  show tickL d.base (d.log ++ [u]) = _
  rw [tickL_snoc, h.come]
 ·intro i hi
  obtain ⟨k1, k2⟩ := h.kg i hi
  refine ⟨k1, fun j => ?_⟩
  rw [hc]
  exact Int.le_trans (k2 j) (hle j)
 rw [hc, seenU_iff w1 (by rw [tickC_length]; exact h.len), t2, if_pos rfl, w2]
 exact Int.le_refl _
theorem getD_set {α : Type} {l : List α} {i j : Nat} {x e : α} (hi : i < l.length) : (l.set i x).getD j e = if j = i then x else l.getD j e := by
 rw [List.getD_eq_getElem?_getD, List.getElem?_set, List.getD_eq_getElem?_getD]
 by_cases h : i = j
 ·subst h; simp [hi]
 rw [if_neg h, if_neg (fun e => h e.symm)]
theorem OkM.self (h : OkM n d) : OkN n (selfN d) := by
 have hs : d.self.toNat < d.known.length := by have := h.kl; have := h.s0; have := h.s1; omega
 refine ⟨⟨h.len, h.st, h.s0, h.s1, h.base, h.few, h.fits, h.come, by show ((d.known.set d.self.toNat d.st.clock).length : Int) = n; rw [List.length_set]; exact h.kl, fun i hi => ?_⟩, ?_⟩
 ·have hi' : i < d.known.length := by have : i < (d.known.set d.self.toNat d.st.clock).length := hi; rw [List.length_set] at this; exact this
  show wrongC ((d.known.set d.self.toNat d.st.clock).getD i []) n = 0 ∧ ∀ j, ((d.known.set d.self.toNat d.st.clock).getD i []).getD j 0 ≤ d.st.clock.getD j 0
  rw [getD_set hs]
  split
  ·exact ⟨h.st.clock, fun j => Int.le_refl _⟩
  exact h.kg i hi'
 show (d.known.set d.self.toNat d.st.clock).getD d.self.toNat [] = d.st.clock
 rw [getD_set hs, if_pos rfl]
theorem OkM.tell (h : OkM n d) {i : Int} {c : List Int} (h0 : 0 ≤ i) (h1 : i < n) (hc : wrongC c n = 0) (hs : ∀ j, c.getD j 0 ≤ d.st.clock.getD j 0) : OkM n (tellN d i c) := by
 have hi : i.toNat < d.known.length := by have := h.kl; omega
 refine ⟨h.len, h.st, h.s0, h.s1, h.base, h.few, h.fits, h.come, by show ((d.known.set _ _).length : Int) = n; rw [List.length_set]; exact h.kl, fun k hk => ?_⟩
 have hk' : k < d.known.length := by have : k < (d.known.set i.toNat (joinC (d.known.getD i.toNat []) c)).length := hk; rw [List.length_set] at this; exact this
 show wrongC ((d.known.set i.toNat (joinC (d.known.getD i.toNat []) c)).getD k []) n = 0 ∧ ∀ j, ((d.known.set i.toNat (joinC (d.known.getD i.toNat []) c)).getD k []).getD j 0 ≤ d.st.clock.getD j 0
 rw [getD_set hi]
 split
 ·obtain ⟨k1, k2⟩ := h.kg _ hi
  refine ⟨join_good k1 hc, fun j => ?_⟩
  rw [joinC_getD]
  exact joinI_lub (k2 j) (hs j)
 exact h.kg k hk'
theorem OkM.forget (h : OkM n d) {c : List Int} (hc : wrongC c n = 0) (hs : ∀ j, c.getD j 0 ≤ d.st.clock.getD j 0) : OkM n (forgetN d c) := by
 obtain ⟨f1, f2, f3⟩ := forget_log h.base hc h.fits h.come
 refine ⟨h.len, h.st, h.s0, h.s1, f1, Nat.le_trans lacks_few h.few, f2, ?_, h.kl, h.kg⟩
 show tickL (joinC d.base c) (lacksL d.log (joinC d.base c)) = d.st.clock
 obtain ⟨-, -, l1, -⟩ := goodC_iff.1 (join_good h.st.clock hc)
 have := h.len
 rw [f3]
 refine eq_getD (by omega) fun i => ?_
 rw [joinC_getD]
 have := hs i
 unfold joinI
 rw [if_neg (by omega)]
theorem OkM.tst (h : OkM n d) {p : Pcl} (hp : tstE d p = 0) : OkM n (tstX d p) ∧ (∀ i, d.st.clock.getD i 0 ≤ (tstX d p).st.clock.getD i 0) ∧ (∀ i, d.base.getD i 0 ≤ (tstX d p).base.getD i 0) ∧ (tstX d p).self = d.self ∧ (tstX d p).known = d.known := by
 unfold tstE at hp
 unfold tstX
 split at hp
 ·next hw =>
  rw [if_pos hw]
  obtain ⟨ja, jb⟩ := joinE_zero.1 hp
  rw [h.len] at ja jb
  obtain ⟨f1, f2, f3⟩ := forget_log h.base jb.clock h.fits h.come
  have hX := joinX_zero hp
  have hk := joinX_ok ja jb
  obtain ⟨-, -, l1, -⟩ := goodC_iff.1 hk.clock
  have hc : (forgetN ⟨d.self, joinX d.st p.st, d.base, d.log, d.known⟩ p.st.clock).st.clock = joinC d.st.clock p.st.clock := by unfold forgetN; rw [hX]
  have hle : ∀ i, d.st.clock.getD i 0 ≤ (joinC d.st.clock p.st.clock).getD i 0 := fun i => by rw [joinC_getD]; exact joinI_le.1
  refine ⟨⟨by rw [hc]; exact l1, ?_, h.s0, h.s1, f1, Nat.le_trans lacks_few h.few, f2, ?_, h.kl, fun i hi => ?_⟩, by rw [hc]; exact hle, fun i => ?_, rfl, rfl⟩
  ·unfold forgetN; rw [hX]; exact hk
  ·rw [hc]; exact f3
  ·obtain ⟨k1, k2⟩ := h.kg i hi
   refine ⟨k1, fun j => ?_⟩
   rw [hc]
   exact Int.le_trans (k2 j) (hle j)
  show d.base.getD i 0 ≤ (joinC d.base p.st.clock).getD i 0
  rw [joinC_getD]; exact joinI_le.1
 next hw =>
 rw [if_neg hw]
 exact ⟨h, fun _ => Int.le_refl _, fun _ => Int.le_refl _, rfl, rfl⟩
theorem skipB_iff (h : OkM n d) {u : Upd} : skipB d u = true ↔ wrongU u n = 0 ∧ seenU u d.st.clock = true := by
 unfold skipB
 rw [h.len]
 simp
theorem seenU_more {u : Upd} {cs ds : List Int} (hw : wrongU u n = 0) (hc : (cs.length : Int) = n) (hd : (ds.length : Int) = n) (hle : ∀ i, cs.getD i 0 ≤ ds.getD i 0) (h : seenU u cs = true) : seenU u ds = true := by
 rw [seenU_iff hw hd]
 exact Int.le_trans ((seenU_iff hw hc).1 h) (hle _)
theorem OkM.tu (h : OkM n d) {u : Upd} (hu : tuE d u = 0) : OkM n (tuX d u) ∧ (∀ i, d.st.clock.getD i 0 ≤ (tuX d u).st.clock.getD i 0) ∧ (tuX d u).base = d.base ∧ (tuX d u).self = d.self ∧ (tuX d u).known = d.known ∧ wrongU u n = 0 ∧ seenU u (tuX d u).st.clock = true := by
 unfold tuE at hu
 unfold tuX
 split at hu
 ·next hs =>
  rw [if_pos hs]
  obtain ⟨h1, h2⟩ := (skipB_iff h).1 hs
  exact ⟨h, fun _ => Int.le_refl _, rfl, rfl, rfl, h1, h2⟩
 next hs =>
 rw [if_neg hs]
 obtain ⟨h1, -, h3, h4, h5⟩ := h.play hu
 exact ⟨h1, h3, rfl, rfl, rfl, h4, h5⟩
theorem OkM.ups : ∀ (l : List Upd) {d : NdS}, OkM n d → upsE d l = 0 → OkM n (upsX d l) ∧ (∀ i, d.st.clock.getD i 0 ≤ (upsX d l).st.clock.getD i 0) ∧ (upsX d l).base = d.base ∧ (upsX d l).self = d.self ∧ (upsX d l).known = d.known ∧ ∀ u ∈ l, wrongU u n = 0 ∧ seenU u (upsX d l).st.clock = true
 | [], d, h, _ => ⟨h, fun _ => Int.le_refl _, rfl, rfl, rfl, fun u hu => by simp at hu⟩
 | u :: r, d, h, he => by
  rw [upsE] at he
  split at he
  ·next hu =>
   obtain ⟨h1, h2, h3, h4, h5, h6, h7⟩ := h.tu hu
   obtain ⟨k1, k2, k3, k4, k5, k6⟩ := OkM.ups r h1 he
   have e : upsX d (u :: r) = upsX (tuX d u) r := rfl
   rw [e]
   refine ⟨k1, fun i => Int.le_trans (h2 i) (k2 i), by rw [k3, h3], by rw [k4, h4], by rw [k5, h5], fun v hv => ?_⟩
   rcases List.mem_cons.1 hv with rfl | hv
   ·exact ⟨h6, seenU_more h6 h1.len k1.len k2 h7⟩
   exact k6 v hv
  next hu => exact absurd he hu
theorem other_zero {i : Int} : otherE d i = 0 ↔ OkN d.st.clock.length d ∧ 0 ≤ i ∧ i < d.st.clock.length ∧ i ≠ d.self := by
 unfold otherE
 rw [← nodeE_zero]
 constructor
 ·intro h
  split at h
  ·next h1 =>
   split at h
   ·next h2 =>
    split at h
    ·cases h
    next h3 => exact ⟨h1, h2.1, h2.2, h3⟩
   cases h
  next h1 => exact absurd h h1
 rintro ⟨h1, h2, h3, h4⟩
 rw [if_pos h1, if_pos ⟨h2, h3⟩, if_neg h4]
structure Took (d : NdS) (i : Int) (p : Pcl) : Prop where
 ok : OkN d.st.clock.length d
 i0 : 0 ≤ i
 i1 : i < d.st.clock.length
 no : i ≠ d.self
 pc : wrongC p.clock d.st.clock.length = 0
 tst : tstE d p = 0
 ups : upsE (tstX d p) p.ups = 0
 sees : ∀ j, p.clock.getD j 0 ≤ (upsX (tstX d p) p.ups).st.clock.getD j 0
theorem take_zero {i : Int} {p : Pcl} : takeE d i p = 0 ↔ Took d i p := by
 unfold takeE
 constructor
 ·intro h
  split at h
  ·next h1 =>
   obtain ⟨o1, o2, o3, o4⟩ := other_zero.1 h1
   split at h
   ·next h2 =>
    split at h
    ·next h3 =>
     split at h
     ·next h4 =>
      split at h
      ·next h5 => exact ⟨o1, o2, o3, o4, h2, h3, h4, seesC_iff.1 h5⟩
      cases h
     next h4 => exact absurd h h4
    next h3 => exact absurd h h3
   next h2 => exact absurd h h2
  next h1 => exact absurd h h1
 intro h
 rw [if_pos (other_zero.2 ⟨h.ok, h.i0, h.i1, h.no⟩), if_pos h.pc, if_pos h.tst, if_pos h.ups, if_pos (seesC_iff.2 h.sees)]
theorem Took.right {i : Int} {p : Pcl} (h : Took d i p) : OkN d.st.clock.length (selfN (tellN (upsX (tstX d p) p.ups) i p.clock)) ∧ (∀ j, d.st.clock.getD j 0 ≤ (upsX (tstX d p) p.ups).st.clock.getD j 0) ∧ (∀ j, d.base.getD j 0 ≤ (upsX (tstX d p) p.ups).base.getD j 0) := by
 obtain ⟨a1, a2, a3, a4, a5⟩ := h.ok.toOkM.tst h.tst
 obtain ⟨b1, b2, b3, b4, b5, b6⟩ := OkM.ups p.ups a1 h.ups
 refine ⟨(b1.tell h.i0 h.i1 h.pc h.sees).self, fun j => Int.le_trans (a2 j) (b2 j), fun j => by rw [b3]; exact a3 j⟩
theorem Took.len {i : Int} {p : Pcl} (h : Took d i p) : (upsX (tstX d p) p.ups).st.clock.length = d.st.clock.length := by
 obtain ⟨a1, -⟩ := h.ok.toOkM.tst h.tst
 obtain ⟨b1, -⟩ := OkM.ups p.ups a1 h.ups
 have := b1.len
 omega
theorem meet_good {a b : List Int} (ha : wrongC a n = 0) (hb : wrongC b n = 0) : wrongC (meetC a b) n = 0 ∧ ∀ i, (meetC a b).getD i 0 ≤ a.getD i 0 := by
 obtain ⟨a1, a2, a3, a4⟩ := goodC_iff.1 ha
 obtain ⟨-, -, b3, b4⟩ := goodC_iff.1 hb
 refine ⟨goodC_iff.2 ⟨a1, a2, ?_, fun i => ?_⟩, fun i => ?_⟩
 ·rw [meetC_length]
  unfold lenM
  split <;> omega
 ·rw [meetC_getD]
  have := a4 i
  have := b4 i
  unfold meetI
  split <;> omega
 rw [meetC_getD]
 unfold meetI
 split <;> omega
theorem meets_good : ∀ (l : List (List Int)) {c : List Int}, wrongC c n = 0 → (∀ k ∈ l, wrongC k n = 0) → wrongC (l.foldl meetC c) n = 0 ∧ ∀ i, (l.foldl meetC c).getD i 0 ≤ c.getD i 0
 | [], c, h, _ => ⟨h, fun _ => Int.le_refl _⟩
 | k :: r, c, h, hl => by
  obtain ⟨h1, h2⟩ := meet_good h (hl k (by simp))
  obtain ⟨h3, h4⟩ := meets_good r h1 fun x hx => hl x (by simp [hx])
  exact ⟨h3, fun i => Int.le_trans (h4 i) (h2 i)⟩
theorem OkM.all (h : OkM n d) : wrongC (allC d) n = 0 ∧ ∀ i, (allC d).getD i 0 ≤ d.st.clock.getD i 0 := by
 refine meets_good d.known h.st.clock fun k hk => ?_
 obtain ⟨i, hi, rfl⟩ := List.getElem_of_mem hk
 have := (h.kg i hi).1
 rw [List.getD_eq_getElem?_getD, List.getElem?_eq_getElem hi] at this
 exact this
end
end Go.Proofs.YtfhecilhcofboaaGreat
/- A node that has seen nothing, as lists. -/
namespace Go.Proofs.YtfhecilhcofboaaGreat
open Go.RowKit

def startE (self n : Int) : Int := if 1 ≤ n ∧ n ≤ 6 then (if 0 ≤ self ∧ self < n then 0 else 3) else 5
def startX (self n : Int) : NdS := if startE self n = 0 then ⟨self, ⟨zeroC n.toNat, [], []⟩, zeroC n.toNat, [], List.replicate n.toNat (zeroC n.toNat)⟩ else noNode
end Go.Proofs.YtfhecilhcofboaaGreat
