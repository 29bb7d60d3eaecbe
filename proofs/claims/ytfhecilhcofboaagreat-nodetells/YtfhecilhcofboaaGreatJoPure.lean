/- Two states put together, as lists: what both come to, played together. -/
import Derived.Test.YtfhecilhcofboaaGreatStJoin
import Derived.Test.YtfhecilhcofboaaGreatStL
namespace Go.Proofs.YtfhecilhcofboaaGreat
open Go.RowKit

def insA {α : Type} (lt : α → α → Bool) (x : α) : List α → List α
 | [] => [x]
 | y :: r => if lt x y then x :: y :: r else y :: insA lt x r
def sortA {α : Type} (lt : α → α → Bool) (l : List α) : List α := l.foldr (insA lt) []
section
variable {α : Type} {lt : α → α → Bool}
theorem mem_insA {x z : α} : ∀ {l : List α}, z ∈ insA lt x l ↔ z = x ∨ z ∈ l
 | [] => by simp [insA]
 | y :: r => by
  unfold insA
  split
  ·simp
  rw [List.mem_cons, mem_insA (l := r), List.mem_cons]
  constructor
  ·rintro (h | h | h)
   ·exact .inr (.inl h)
   ·exact .inl h
   exact .inr (.inr h)
  rintro (h | h | h)
  ·exact .inr (.inl h)
  ·exact .inl h
  exact .inr (.inr h)
theorem mem_sortA {z : α} : ∀ {l : List α}, z ∈ sortA lt l ↔ z ∈ l
 | [] => by simp [sortA]
 | y :: r => by
  have ih := mem_sortA (z := z) (l := r)
  unfold sortA at ih ⊢
  rw [List.foldr_cons, mem_insA, ih, List.mem_cons]
theorem insA_pair (tr : ∀ x y z, lt x y = true → lt y z = true → lt x z = true) {x : α} : ∀ {l : List α}, l.Pairwise (fun a b => lt a b = true) → (∀ y ∈ l, lt x y = true ∨ lt y x = true) → (insA lt x l).Pairwise (fun a b => lt a b = true)
 | [], _, _ => by simp [insA]
 | y :: r, h, hx => by
  obtain ⟨h1, h2⟩ := List.pairwise_cons.1 h
  unfold insA
  split
  ·next hc =>
   refine List.pairwise_cons.2 ⟨fun z hz => ?_, h⟩
   rcases List.mem_cons.1 hz with rfl | hz
   ·exact hc
   exact tr _ _ _ hc (h1 z hz)
  next hc =>
  have hyx : lt y x = true := (hx y (by simp)).resolve_left hc
  refine List.pairwise_cons.2 ⟨fun z hz => ?_, insA_pair tr h2 (fun z hz => hx z (List.mem_cons_of_mem _ hz))⟩
  rcases mem_insA.1 hz with rfl | hz
  ·exact hyx
  exact h1 z hz
theorem sortA_pair (tr : ∀ x y z, lt x y = true → lt y z = true → lt x z = true) : ∀ {l : List α}, l.Pairwise (fun a b => lt a b = true ∨ lt b a = true) → (sortA lt l).Pairwise (fun a b => lt a b = true)
 | [], _ => by simp [sortA]
 | y :: r, h => by
  obtain ⟨h1, h2⟩ := List.pairwise_cons.1 h
  have ih := sortA_pair tr h2
  unfold sortA at ih ⊢
  rw [List.foldr_cons]
  exact insA_pair tr ih (fun z hz => h1 z (mem_sortA.1 hz))
theorem pair_ext (irr : ∀ x, lt x x = false) (tr : ∀ x y z, lt x y = true → lt y z = true → lt x z = true) : ∀ {a b : List α}, a.Pairwise (fun x y => lt x y = true) → b.Pairwise (fun x y => lt x y = true) → (∀ x, x ∈ a ↔ x ∈ b) → a = b
 | [], [], _, _, _ => rfl
 | [], y :: b, _, _, h => by have := (h y).2 (by simp); simp at this
 | x :: a, [], _, _, h => by have := (h x).1 (by simp); simp at this
 | x :: a, y :: b, ha, hb, h => by
  obtain ⟨ha1, ha2⟩ := List.pairwise_cons.1 ha
  obtain ⟨hb1, hb2⟩ := List.pairwise_cons.1 hb
  have no : ∀ z, ¬ lt z z = true := fun z hz => by rw [irr z] at hz; cases hz
  have hxy : x = y := by
   rcases List.mem_cons.1 ((h x).1 (by simp)) with e | e
   ·exact e
   rcases List.mem_cons.1 ((h y).2 (by simp)) with e' | e'
   ·exact e'.symm
   exact absurd (tr _ _ _ (ha1 y e') (hb1 x e)) (no x)
  subst hxy
  rw [pair_ext irr tr (a := a) (b := b) ha2 hb2 (fun z => ?_)]
  constructor
  ·intro hz
   rcases List.mem_cons.1 ((h z).1 (List.mem_cons_of_mem _ hz)) with e | e
   ·subst e; exact absurd (ha1 z hz) (no z)
   exact e
  intro hz
  rcases List.mem_cons.1 ((h z).2 (List.mem_cons_of_mem _ hz)) with e | e
  ·subst e; exact absurd (hb1 z hz) (no z)
  exact e
theorem perm_sortA (irr : ∀ x, lt x x = false) (tr : ∀ x y z, lt x y = true → lt y z = true → lt x z = true) {l m : List α} (hp : m.Perm l) (hs : m.Pairwise (fun x y => lt y x = false)) (hc : l.Pairwise (fun a b => lt a b = true ∨ lt b a = true)) : m = sortA lt l := by
 have hm : m.Pairwise (fun a b => lt a b = true ∨ lt b a = true) := hp.symm.pairwise hc (fun h => h.symm)
 refine pair_ext irr tr ?_ (sortA_pair tr hc) (fun x => ?_)
 ·refine pair_mem ?_ (hs.and hm)
  rintro a - b - ⟨h1, h2⟩
  rcases h2 with h | h
  ·exact h
  rw [h1] at h; cases h
 rw [mem_sortA]
 exact hp.mem_iff
end

def ltL (a b : Live) : Bool := decide (cmpL a b < 0)
def ltT (a b : Tal) : Bool := decide (cmpT a b < 0)
theorem ltL_iff {a b : Live} : ltL a b = true ↔ ahead a b := by unfold ltL; rw [decide_eq_true_iff, cmpL_lt]
theorem ltT_iff {a b : Tal} : ltT a b = true ↔ lessT a b := by unfold ltT; rw [decide_eq_true_iff, cmpT_lt]
theorem ltL_irr (a : Live) : ltL a a = false := by
 rw [← Bool.not_eq_true, ltL_iff]
 exact ahead_irrefl a
theorem ltT_irr (a : Tal) : ltT a a = false := by
 rw [← Bool.not_eq_true, ltT_iff]
 unfold lessT
 omega
theorem ltL_tr (x y z : Live) (h : ltL x y = true) (h' : ltL y z = true) : ltL x z = true := ltL_iff.2 (ahead_trans (ltL_iff.1 h) (ltL_iff.1 h'))
theorem ltT_tr (x y z : Tal) (h : ltT x y = true) (h' : ltT y z = true) : ltT x z = true := by
 rw [ltT_iff] at *
 unfold lessT at *
 omega

def hasL (lv : List Live) (x : Live) : Bool := lv.any fun y => decide (cmpL y x = 0)
theorem hasL_iff {lv : List Live} {x : Live} : hasL lv x = true ↔ x ∈ lv := by
 unfold hasL
 rw [List.any_eq_true]
 constructor
 ·rintro ⟨y, hy, h⟩
  rw [decide_eq_true_iff, cmpL_zero] at h
  subst h
  exact hy
 intro h
 exact ⟨x, h, by rw [decide_eq_true_iff, cmpL_zero]⟩
def stayB (b : StS) (x : Live) : Bool := !hasC b.clock x.author x.seq || hasL b.lives x
def comeB (a : StS) (x : Live) : Bool := !hasC a.clock x.author x.seq
def moreB (a b : StS) (i : Int) : Bool := decide (a.clock.getD i.toNat 0 < b.clock.getD i.toNat 0)
def rawL (a b : StS) : List Live := a.lives.filter (stayB b) ++ b.lives.filter (comeB a)
def rawT (a b : StS) : List Tal := a.tals.filter (fun t => !moreB a b t.author) ++ b.tals.filter (fun t => moreB a b t.author)
def joinE (a b : StS) : Int := if stE a a.clock.length ≠ 0 then stE a a.clock.length else stE b a.clock.length
def joinX (a b : StS) : StS := if joinE a b = 0 then ⟨joinC a.clock b.clock, sortA ltL (rawL a b), sortA ltT (rawT a b)⟩ else ⟨[], [], []⟩
theorem joinE_zero {a b : StS} : joinE a b = 0 ↔ OkS a.clock.length a.clock a.lives a.tals ∧ OkS a.clock.length b.clock b.lives b.tals := by
 unfold joinE
 by_cases h : stE a a.clock.length = 0
 ·rw [if_neg (by simpa using h), stE_ok]
  exact ⟨fun h2 => ⟨stE_ok.1 h, h2⟩, fun h2 => h2.2⟩
 rw [if_pos h]
 exact ⟨fun h2 => absurd h2 h, fun h2 => absurd (stE_ok.2 h2.1) h⟩
theorem joinX_zero {a b : StS} (h : joinE a b = 0) : joinX a b = ⟨joinC a.clock b.clock, sortA ltL (rawL a b), sortA ltT (rawT a b)⟩ := by unfold joinX; rw [if_pos h]
theorem joinX_bad {a b : StS} (h : ¬ joinE a b = 0) : joinX a b = ⟨[], [], []⟩ := by unfold joinX; rw [if_neg h]
section
variable {n : Int} {a b : StS}
theorem has_own (ha : OkS n a.clock a.lives a.tals) {x : Live} (hx : x ∈ a.lives) : hasC a.clock x.author x.seq = true := by
 unfold hasC
 rw [decide_eq_true_iff]
 exact ha.bound x hx
theorem has_other (ha : OkS n a.clock a.lives a.tals) (hb : OkS n b.clock b.lives b.tals) {x : Live} (hx : x ∈ a.lives) : hasC b.clock x.author x.seq = true ↔ x.seq ≤ b.clock.getD x.author.toNat 0 := by
 unfold hasC
 rw [decide_eq_true_iff]
 obtain ⟨h1, h2, h3⟩ := ha.bound x hx
 have g1 := (goodC_iff.1 ha.clock).2.2.1
 have g2 := (goodC_iff.1 hb.clock).2.2.1
 exact ⟨fun h => h.2.2, fun h => ⟨h1, by omega, h⟩⟩
theorem rawL_pair (ha : OkS n a.clock a.lives a.tals) (hb : OkS n b.clock b.lives b.tals) : (rawL a b).Pairwise fun x y => ltL x y = true ∨ ltL y x = true := by
 unfold rawL
 rw [List.pairwise_append]
 refine ⟨pair_mem (fun _ _ _ _ h => .inl (ltL_iff.2 h)) (List.Pairwise.filter _ ha.order), pair_mem (fun _ _ _ _ h => .inl (ltL_iff.2 h)) (List.Pairwise.filter _ hb.order), fun x hx y hy => ?_⟩
 obtain ⟨hx1, -⟩ := List.mem_filter.1 hx
 obtain ⟨-, hy2⟩ := List.mem_filter.1 hy
 rcases ahead_total x y with h | h | h
 ·exact .inl (ltL_iff.2 h)
 ·subst h
  unfold comeB at hy2
  rw [has_own ha hx1] at hy2
  cases hy2
 exact .inr (ltL_iff.2 h)
theorem rawT_pair (ha : OkS n a.clock a.lives a.tals) (hb : OkS n b.clock b.lives b.tals) : (rawT a b).Pairwise fun x y => ltT x y = true ∨ ltT y x = true := by
 unfold rawT
 rw [List.pairwise_append]
 refine ⟨pair_mem (fun _ _ _ _ h => .inl (ltT_iff.2 h)) (List.Pairwise.filter _ ha.ord), pair_mem (fun _ _ _ _ h => .inl (ltT_iff.2 h)) (List.Pairwise.filter _ hb.ord), fun x hx y hy => ?_⟩
 obtain ⟨-, hx2⟩ := List.mem_filter.1 hx
 obtain ⟨-, hy2⟩ := List.mem_filter.1 hy
 by_cases he : x.author = y.author
 ·rw [he, hy2] at hx2
  cases hx2
 rw [ltT_iff, ltT_iff]
 unfold lessT
 omega
theorem mem_rawL (ha : OkS n a.clock a.lives a.tals) (hb : OkS n b.clock b.lives b.tals) (x : Live) : x ∈ rawL a b ↔
  (x ∈ a.lives ∧ x ∈ b.lives) ∨ (x ∈ a.lives ∧ ¬ x.seq ≤ b.clock.getD x.author.toNat 0) ∨ (x ∈ b.lives ∧ ¬ x.seq ≤ a.clock.getD x.author.toNat 0) := by
 unfold rawL
 rw [List.mem_append, List.mem_filter, List.mem_filter]
 unfold stayB comeB
 constructor
 ·rintro (⟨h1, h2⟩ | ⟨h1, h2⟩)
  ·rw [Bool.or_eq_true, hasL_iff, Bool.not_eq_true', ← Bool.not_eq_true, has_other ha hb h1] at h2
   rcases h2 with h2 | h2
   ·exact .inr (.inl ⟨h1, h2⟩)
   exact .inl ⟨h1, h2⟩
  rw [Bool.not_eq_true', ← Bool.not_eq_true, has_other hb ha h1] at h2
  exact .inr (.inr ⟨h1, h2⟩)
 rintro (⟨h1, h2⟩ | ⟨h1, h2⟩ | ⟨h1, h2⟩)
 ·exact .inl ⟨h1, by rw [Bool.or_eq_true, hasL_iff]; exact .inr h2⟩
 ·exact .inl ⟨h1, by rw [Bool.or_eq_true, Bool.not_eq_true', ← Bool.not_eq_true, has_other ha hb h1]; exact .inl h2⟩
 exact .inr ⟨h1, by rw [Bool.not_eq_true', ← Bool.not_eq_true, has_other hb ha h1]; exact h2⟩
theorem mem_rawT {t : Tal} : t ∈ rawT a b ↔ (t ∈ a.tals ∧ ¬ a.clock.getD t.author.toNat 0 < b.clock.getD t.author.toNat 0) ∨ (t ∈ b.tals ∧ a.clock.getD t.author.toNat 0 < b.clock.getD t.author.toNat 0) := by
 unfold rawT moreB
 rw [List.mem_append, List.mem_filter, List.mem_filter]
 simp
end

section
variable {n : Int} {a b : List Int} {l : List Upd}
end
end Go.Proofs.YtfhecilhcofboaaGreat
