/- What is read, told by what is in it: cells and counters are told by their members. -/
import Derived.Test.YtalglngjafkdjaaStT
import Derived.Test.YtalglngjafkdjaaStJoin
namespace Go.Proofs.Ytalglngjafkdjaa
open Go.RowKit

/-- Cells of a list of lives. -/
structure CI (s : Bool) (l : List Live) (out : List (Int × List Int)) : Prop where
  keys : out.Pairwise fun p q => p.1 < q.1
  full : ∀ p ∈ out, p.2 ≠ []
  inc : ∀ p ∈ out, p.2.Pairwise fun i j : Int => i < j
  mem : ∀ k i, (∃ p ∈ out, p.1 = k ∧ i ∈ p.2) ↔ ∃ x ∈ l, x.set = s ∧ x.key = k ∧ x.item = i
theorem CI.nil (s : Bool) : CI s [] [] := ⟨List.Pairwise.nil, fun p h => by simp at h, fun p h => by simp at h, fun k i => by simp⟩
theorem CI.skip {s : Bool} {l : List Live} {out : List (Int × List Int)} (h : CI s l out) {x : Live} (hx : ¬ x.set = s) : CI s (l ++ [x]) out := by
  refine ⟨h.keys, h.full, h.inc, fun k i => ?_⟩
  rw [h.mem k i]
  constructor
  · rintro ⟨y, hy, h1⟩
    exact ⟨y, List.mem_append_left _ hy, h1⟩
  · rintro ⟨y, hy, h1⟩
    rcases List.mem_append.1 hy with hy | hy
    · exact ⟨y, hy, h1⟩
    · rw [List.mem_singleton] at hy
      subst hy
      exact absurd h1.1 hx
theorem mem_snoc_live {s : Bool} {l : List Live} {x : Live} (hx : x.set = s) (k i : Int) : (∃ y ∈ l ++ [x], y.set = s ∧ y.key = k ∧ y.item = i) ↔ (∃ y ∈ l, y.set = s ∧ y.key = k ∧ y.item = i) ∨ (x.key = k ∧ x.item = i) := by
  constructor
  · rintro ⟨y, hy, h1⟩
    rcases List.mem_append.1 hy with hy | hy
    · exact .inl ⟨y, hy, h1⟩
    · rw [List.mem_singleton] at hy
      subst hy
      exact .inr h1.2
  · rintro (⟨y, hy, h1⟩ | h1)
    · exact ⟨y, List.mem_append_left _ hy, h1⟩
    · exact ⟨x, by simp, hx, h1⟩
theorem CI.snocKey {s : Bool} {l : List Live} {out : List (Int × List Int)} (h : CI s l out) {x : Live} (hx : x.set = s) (hk : ∀ p ∈ out, p.1 < x.key) : CI s (l ++ [x]) (out ++ [(x.key, [x.item])]) := by
  refine ⟨List.pairwise_append.2 ⟨h.keys, by simp, fun p hp q hq => ?_⟩, fun p hp => ?_, fun p hp => ?_, fun k i => ?_⟩
  · rw [List.mem_singleton] at hq
    subst hq
    exact hk p hp
  · rcases List.mem_append.1 hp with hp | hp
    · exact h.full p hp
    · rw [List.mem_singleton] at hp
      subst hp
      simp
  · rcases List.mem_append.1 hp with hp | hp
    · exact h.inc p hp
    · rw [List.mem_singleton] at hp
      subst hp
      simp
  · rw [mem_snoc_live hx, ← h.mem k i]
    constructor
    · rintro ⟨p, hp, h1, h2⟩
      rcases List.mem_append.1 hp with hp | hp
      · exact .inl ⟨p, hp, h1, h2⟩
      · rw [List.mem_singleton] at hp
        subst hp
        simp only [List.mem_singleton] at h2
        exact .inr ⟨h1, h2.symm⟩
    · rintro (⟨p, hp, h1⟩ | ⟨h1, h2⟩)
      · exact ⟨p, List.mem_append_left _ hp, h1⟩
      · exact ⟨(x.key, [x.item]), by simp, h1, by simp [h2]⟩
theorem CI.same {s : Bool} {l : List Live} {out : List (Int × List Int)} (h : CI s l out) {x : Live} (hx : x.set = s) {p : Int × List Int} (hp : p ∈ out) (hk : p.1 = x.key) (hi : x.item ∈ p.2) : CI s (l ++ [x]) out := by
  refine ⟨h.keys, h.full, h.inc, fun k i => ?_⟩
  rw [mem_snoc_live hx, h.mem k i]
  constructor
  · exact fun h1 => .inl h1
  · rintro (h1 | ⟨h1, h2⟩)
    · exact h1
    · exact (h.mem k i).1 ⟨p, hp, hk.trans h1, by rw [← h2]; exact hi⟩
theorem CI.snocItem {s : Bool} {l : List Live} {r : List (Int × List Int)} {p : Int × List Int} (h : CI s l (r ++ [p])) {x : Live} (hx : x.set = s) (hk : p.1 = x.key) (hi : ∀ i ∈ p.2, i < x.item) : CI s (l ++ [x]) (r ++ [(p.1, p.2 ++ [x.item])]) := by
  obtain ⟨k1, -, k3⟩ := List.pairwise_append.1 h.keys
  refine ⟨List.pairwise_append.2 ⟨k1, by simp, fun q hq y hy => ?_⟩, fun q hq => ?_, fun q hq => ?_, fun k i => ?_⟩
  · rw [List.mem_singleton] at hy
    subst hy
    exact k3 q hq p (by simp)
  · rcases List.mem_append.1 hq with hq | hq
    · exact h.full q (List.mem_append_left _ hq)
    · rw [List.mem_singleton] at hq
      subst hq
      simp
  · rcases List.mem_append.1 hq with hq | hq
    · exact h.inc q (List.mem_append_left _ hq)
    · rw [List.mem_singleton] at hq
      subst hq
      refine List.pairwise_append.2 ⟨h.inc p (by simp), by simp, fun i hi1 j hj => ?_⟩
      rw [List.mem_singleton] at hj
      subst hj
      exact hi i hi1
  · rw [mem_snoc_live hx, ← h.mem k i]
    constructor
    · rintro ⟨q, hq, h1, h2⟩
      rcases List.mem_append.1 hq with hq | hq
      · exact .inl ⟨q, List.mem_append_left _ hq, h1, h2⟩
      · rw [List.mem_singleton] at hq
        subst hq
        rcases List.mem_append.1 h2 with h2 | h2
        · exact .inl ⟨p, by simp, h1, h2⟩
        · rw [List.mem_singleton] at h2
          exact .inr ⟨hk.symm.trans h1, h2.symm⟩
    · rintro (⟨q, hq, h1, h2⟩ | ⟨h1, h2⟩)
      · rcases List.mem_append.1 hq with hq | hq
        · exact ⟨q, List.mem_append_left _ hq, h1, h2⟩
        · rw [List.mem_singleton] at hq
          subst hq
          exact ⟨(q.1, q.2 ++ [x.item]), by simp, h1, List.mem_append_left _ h2⟩
      · exact ⟨(p.1, p.2 ++ [x.item]), by simp, hk.trans h1, by simp [h2]⟩
theorem last_of {α : Type} {l : List α} {x : α} (h : l.getLast? = some x) : l = l.dropLast ++ [x] := (row_snoc h).1
theorem CI.step {s : Bool} {l : List Live} {out : List (Int × List Int)} (h : CI s l out) {x : Live} (ho : ∀ y ∈ l, ahead y x) (hx : x.set = s) : CI s (l ++ [x]) (stepI out x.key x.item) := by
  -- who is ahead of it, in the same half
  have key_le : ∀ p ∈ out, p.1 ≤ x.key := by
    intro p hp
    obtain ⟨i, hi⟩ := List.exists_mem_of_ne_nil _ (h.full p hp)
    obtain ⟨y, hy, h1, h2, -⟩ := (h.mem p.1 i).1 ⟨p, hp, rfl, hi⟩
    have := ho y hy
    unfold ahead at this
    rw [h1, hx] at this
    rcases this with ⟨h3, h4⟩ | ⟨-, h3⟩
    · rw [h3] at h4; cases h4
    · omega
  have item_le : ∀ p ∈ out, p.1 = x.key → ∀ i ∈ p.2, i ≤ x.item := by
    intro p hp hk i hi
    obtain ⟨y, hy, h1, h2, h5⟩ := (h.mem p.1 i).1 ⟨p, hp, rfl, hi⟩
    have := ho y hy
    unfold ahead at this
    rw [h1, hx] at this
    rcases this with ⟨h3, h4⟩ | ⟨-, h3⟩
    · rw [h3] at h4; cases h4
    · omega
  cases hl : out.getLast? with
  | none =>
    rw [stepI_none hl]
    have : out = [] := List.getLast?_eq_none_iff.1 hl
    subst this
    exact h.snocKey hx (fun p hp => by simp at hp)
  | some p =>
    have hout := last_of hl
    have hpm : p ∈ out := by rw [hout]; simp
    by_cases hk : p.1 = x.key
    · by_cases hi : p.2.getLast? = some x.item
      · rw [stepI_same hl hk hi]
        exact h.same hx hpm hk (by rw [last_of hi]; simp)
      · rw [stepI_more hl hk hi]
        rw [hout] at h
        refine h.snocItem hx hk (fun i hi1 => ?_)
        have h1 := item_le p hpm hk i hi1
        rcases Int.lt_or_le i x.item with h2 | h2
        · exact h2
        · have he : i = x.item := by omega
          subst he
          -- it is the greatest, so it is the last one
          exfalso
          cases hg : p.2.getLast? with
          | none => rw [List.getLast?_eq_none_iff.1 hg] at hi1; simp at hi1
          | some j =>
            have hj := last_of hg
            have hjm : j ∈ p.2 := by rw [hj]; simp
            have hjl := item_le p hpm hk j hjm
            rw [hj] at hi1
            rcases List.mem_append.1 hi1 with h3 | h3
            · have hinc := h.inc p (by simp)
              rw [hj] at hinc
              have := (List.pairwise_append.1 hinc).2.2 x.item h3 j (by simp)
              omega
            · rw [List.mem_singleton] at h3
              rw [hg, ← h3] at hi
              exact hi rfl
    · rw [stepI_new hl hk]
      have hlt : p.1 < x.key := by have := key_le p hpm; omega
      refine h.snocKey hx (fun q hq => ?_)
      rw [hout] at hq
      rcases List.mem_append.1 hq with hq | hq
      · have hkk := h.keys
        rw [hout] at hkk
        have := (List.pairwise_append.1 hkk).2.2 q hq p (by simp)
        omega
      · rw [List.mem_singleton] at hq
        subst hq
        exact hlt
theorem cells_ci (s : Bool) {l : List Live} (ho : InOrder l) : ∀ k, k ≤ l.length → CI s (l.take k) (cellsL s (l.take k) [])
  | 0, _ => by simpa [cellsL] using CI.nil s
  | k + 1, hk => by
    have ih := cells_ci s ho k (by omega)
    obtain ⟨x, hx⟩ : ∃ x, l[k]? = some x := ⟨_, List.getElem?_eq_getElem (by omega)⟩
    rw [cellsL_step hx]
    have hkl : k < l.length := by omega
    have ht : l.take (k + 1) = l.take k ++ [x] := by
      rw [List.take_succ_eq_append_getElem hkl]
      rw [List.getElem?_eq_getElem hkl] at hx
      rw [Option.some.inj hx]
    have hax : ∀ y ∈ l.take k, ahead y x := by
      have h2 : InOrder (l.take (k + 1)) := List.Pairwise.sublist (List.take_sublist _ _) ho
      rw [ht] at h2
      exact fun y hy => (List.pairwise_append.1 h2).2.2 y hy x (by simp)
    rw [ht]
    by_cases hs : x.set = s
    · simp only [if_pos hs]
      exact ih.step hax hs
    · simp only [if_neg hs]
      exact ih.skip hs
theorem cells_all (s : Bool) {l : List Live} (ho : InOrder l) : CI s l (cellsL s l []) := by
  have := cells_ci s ho l.length (Nat.le_refl _)
  rwa [List.take_length] at this

/-- Rising lists are told by their members. -/
theorem inc_ext : ∀ {a b : List Int}, a.Pairwise (fun i j => i < j) → b.Pairwise (fun i j => i < j) → (∀ x, x ∈ a ↔ x ∈ b) → a = b
  | [], [], _, _, _ => rfl
  | [], y :: b, _, _, h => by have := (h y).2 (by simp); simp at this
  | x :: a, [], _, _, h => by have := (h x).1 (by simp); simp at this
  | x :: a, y :: b, ha, hb, h => by
    obtain ⟨ha1, ha2⟩ := List.pairwise_cons.1 ha
    obtain ⟨hb1, hb2⟩ := List.pairwise_cons.1 hb
    have hxy : x = y := by
      rcases List.mem_cons.1 ((h x).1 (by simp)) with e | e
      · exact e
      · rcases List.mem_cons.1 ((h y).2 (by simp)) with e' | e'
        · exact e'.symm
        · have := ha1 y e'
          have := hb1 x e
          omega
    subst hxy
    rw [inc_ext (a := a) (b := b) ha2 hb2 (fun z => ?_)]
    constructor
    · intro hz
      rcases List.mem_cons.1 ((h z).1 (List.mem_cons_of_mem _ hz)) with e | e
      · have := ha1 z hz; omega
      · exact e
    · intro hz
      rcases List.mem_cons.1 ((h z).2 (List.mem_cons_of_mem _ hz)) with e | e
      · have := hb1 z hz; omega
      · exact e
/-- Cells are told by their pairs. -/
theorem cells_ext : ∀ {a b : List (Int × List Int)}, a.Pairwise (fun p q => p.1 < q.1) → b.Pairwise (fun p q => p.1 < q.1) → (∀ p ∈ a, p.2 ≠ [] ∧ p.2.Pairwise fun i j : Int => i < j) → (∀ p ∈ b, p.2 ≠ [] ∧ p.2.Pairwise fun i j : Int => i < j) →
    (∀ k i, (∃ p ∈ a, p.1 = k ∧ i ∈ p.2) ↔ ∃ p ∈ b, p.1 = k ∧ i ∈ p.2) → a = b
  | [], [], _, _, _, _, _ => rfl
  | [], q :: b, _, _, _, fb, h => by
    obtain ⟨i, hi⟩ := List.exists_mem_of_ne_nil _ (fb q (by simp)).1
    obtain ⟨p, hp, -⟩ := (h q.1 i).2 ⟨q, by simp, rfl, hi⟩
    simp at hp
  | p :: a, [], _, _, fa, _, h => by
    obtain ⟨i, hi⟩ := List.exists_mem_of_ne_nil _ (fa p (by simp)).1
    obtain ⟨q, hq, -⟩ := (h p.1 i).1 ⟨p, by simp, rfl, hi⟩
    simp at hq
  | p :: a, q :: b, ha, hb, fa, fb, h => by
    obtain ⟨ha1, ha2⟩ := List.pairwise_cons.1 ha
    obtain ⟨hb1, hb2⟩ := List.pairwise_cons.1 hb
    obtain ⟨i, hi⟩ := List.exists_mem_of_ne_nil _ (fa p (by simp)).1
    obtain ⟨j, hj⟩ := List.exists_mem_of_ne_nil _ (fb q (by simp)).1
    have e1 : p.1 = q.1 := by
      obtain ⟨q', hq', k1, -⟩ := (h p.1 i).1 ⟨p, by simp, rfl, hi⟩
      obtain ⟨p', hp', k2, -⟩ := (h q.1 j).2 ⟨q, by simp, rfl, hj⟩
      rcases List.mem_cons.1 hq' with e | e
      · rw [e] at k1; exact k1.symm
      · rcases List.mem_cons.1 hp' with e' | e'
        · rw [e'] at k2; exact k2
        · have := hb1 q' e
          have := ha1 p' e'
          omega
    have e2 : p.2 = q.2 := by
      refine inc_ext (fa p (by simp)).2 (fb q (by simp)).2 (fun x => ?_)
      constructor
      · intro hx
        obtain ⟨q', hq', k1, k2⟩ := (h p.1 x).1 ⟨p, by simp, rfl, hx⟩
        rcases List.mem_cons.1 hq' with e | e
        · rw [e] at k2; exact k2
        · have := hb1 q' e
          omega
      · intro hx
        obtain ⟨p', hp', k1, k2⟩ := (h q.1 x).2 ⟨q, by simp, rfl, hx⟩
        rcases List.mem_cons.1 hp' with e | e
        · rw [e] at k2; exact k2
        · have := ha1 p' e
          omega
    have e3 : p = q := Prod.ext e1 e2
    subst e3
    rw [cells_ext (a := a) (b := b) ha2 hb2 (fun p hp => fa p (List.mem_cons_of_mem _ hp)) (fun p hp => fb p (List.mem_cons_of_mem _ hp)) (fun k i => ?_)]
    constructor
    · rintro ⟨q', hq', k1, k2⟩
      obtain ⟨q2, hq2, k3, k4⟩ := (h k i).1 ⟨q', List.mem_cons_of_mem _ hq', k1, k2⟩
      rcases List.mem_cons.1 hq2 with e | e
      · have := ha1 q' hq'
        rw [e] at k3
        omega
      · exact ⟨q2, e, k3, k4⟩
    · rintro ⟨q', hq', k1, k2⟩
      obtain ⟨q2, hq2, k3, k4⟩ := (h k i).2 ⟨q', List.mem_cons_of_mem _ hq', k1, k2⟩
      rcases List.mem_cons.1 hq2 with e | e
      · have := hb1 q' hq'
        rw [e] at k3
        omega
      · exact ⟨q2, e, k3, k4⟩
theorem CI.ext {s : Bool} {l m : List Live} {a b : List (Int × List Int)} (ha : CI s l a) (hb : CI s m b) (h : ∀ k i, (∃ x ∈ l, x.set = s ∧ x.key = k ∧ x.item = i) ↔ ∃ x ∈ m, x.set = s ∧ x.key = k ∧ x.item = i) : a = b :=
  cells_ext ha.keys hb.keys (fun p hp => ⟨ha.full p hp, ha.inc p hp⟩) (fun p hp => ⟨hb.full p hp, hb.inc p hp⟩) (fun k i => by rw [ha.mem, hb.mem, h])

/-- The items of a key. -/
def ofL (cs : List (Int × List Int)) (k : Int) : List Int := match cs.find? (fun p => decide (p.1 = k)) with | some p => p.2 | none => []
theorem ofL_mem {s : Bool} {l : List Live} {out : List (Int × List Int)} (h : CI s l out) (k : Int) : (ofL out k).Pairwise (fun i j : Int => i < j) ∧ ∀ i, i ∈ ofL out k ↔ ∃ x ∈ l, x.set = s ∧ x.key = k ∧ x.item = i := by
  unfold ofL
  cases hf : out.find? (fun p => decide (p.1 = k)) with
  | none =>
    refine ⟨List.Pairwise.nil, fun i => ?_⟩
    rw [← h.mem k i]
    rw [List.find?_eq_none] at hf
    constructor
    · intro hi; simp at hi
    · rintro ⟨p, hp, h1, -⟩
      exact absurd (decide_eq_true h1) (hf p hp)
  | some p =>
    have hpm := List.mem_of_find?_eq_some hf
    have hpk : p.1 = k := by
      have hq := List.find?_some hf
      simpa using hq
    refine ⟨h.inc p hpm, fun i => ?_⟩
    rw [← h.mem k i]
    constructor
    · exact fun hi => ⟨p, hpm, hpk, hi⟩
    · rintro ⟨q, hq, h1, h2⟩
      have : q = p := by
        have hd := h.keys
        obtain ⟨a, b, rfl⟩ := List.append_of_mem hpm
        rcases List.mem_append.1 hq with hq | hq
        · have := (List.pairwise_append.1 hd).2.2 q hq p (by simp)
          omega
        · rcases List.mem_cons.1 hq with e | e
          · exact e
          · have := (List.pairwise_cons.1 (List.pairwise_append.1 hd).2.1).1 q e
            omega
      rw [← this]
      exact h2

/-- Counters of a list of tallies. -/
structure NI (l : List Tal) (out : List (Int × Int)) : Prop where
  keys : out.Pairwise fun p q => p.1 < q.1
  val : ∀ p ∈ out, p.2 = sumK l p.1
  mem : ∀ k, (∃ p ∈ out, p.1 = k) ↔ ∃ t ∈ l, t.key = k
theorem sumK_append : ∀ (a b : List Tal) (k : Int), sumK (a ++ b) k = sumK a k + sumK b k
  | [], b, k => by simp [sumK]
  | t :: r, b, k => by
    rw [List.cons_append, sumK, sumK, sumK_append r b k]
    omega
theorem sumK_none {k : Int} : ∀ {l : List Tal}, (∀ t ∈ l, ¬ t.key = k) → sumK l k = 0
  | [], _ => rfl
  | t :: r, h => by
    rw [sumK, if_neg (h t (by simp)), sumK_none (fun t ht => h t (List.mem_cons_of_mem _ ht))]
    rfl
theorem NI.step {l : List Tal} {out : List (Int × Int)} (h : NI l out) {t : Tal} (ho : ∀ y ∈ l, lessT y t) : NI (l ++ [t]) (stepC out t) := by
  have key_le : ∀ p ∈ out, p.1 ≤ t.key := by
    intro p hp
    obtain ⟨y, hy, h1⟩ := (h.mem p.1).1 ⟨p, hp, rfl⟩
    have := ho y hy
    unfold lessT at this
    omega
  have hsum : ∀ k, sumK (l ++ [t]) k = sumK l k + if t.key = k then t.sum else 0 := fun k => by
    rw [sumK_append]
    simp [sumK]
  have hex : ∀ k, (∃ y ∈ l ++ [t], y.key = k) ↔ (∃ y ∈ l, y.key = k) ∨ t.key = k := fun k => by
    constructor
    · rintro ⟨y, hy, h1⟩
      rcases List.mem_append.1 hy with hy | hy
      · exact .inl ⟨y, hy, h1⟩
      · rw [List.mem_singleton] at hy
        subst hy
        exact .inr h1
    · rintro (⟨y, hy, h1⟩ | h1)
      · exact ⟨y, List.mem_append_left _ hy, h1⟩
      · exact ⟨t, by simp, h1⟩
  have fresh : (∀ p ∈ out, p.1 < t.key) → NI (l ++ [t]) (out ++ [(t.key, t.sum)]) := by
    intro hk
    have h0 : sumK l t.key = 0 := sumK_none (fun y hy he => by
      obtain ⟨p, hp, h1⟩ := (h.mem t.key).2 ⟨y, hy, he⟩
      have := hk p hp
      omega)
    refine ⟨List.pairwise_append.2 ⟨h.keys, by simp, fun p hp q hq => ?_⟩, fun p hp => ?_, fun k => ?_⟩
    · rw [List.mem_singleton] at hq
      subst hq
      exact hk p hp
    · rw [hsum]
      rcases List.mem_append.1 hp with hp | hp
      · have := hk p hp
        rw [if_neg (by omega), h.val p hp]
        omega
      · rw [List.mem_singleton] at hp
        subst hp
        rw [if_pos rfl, h0]
        omega
    · rw [hex, ← h.mem k]
      constructor
      · rintro ⟨p, hp, h1⟩
        rcases List.mem_append.1 hp with hp | hp
        · exact .inl ⟨p, hp, h1⟩
        · rw [List.mem_singleton] at hp
          subst hp
          exact .inr h1
      · rintro (⟨p, hp, h1⟩ | h1)
        · exact ⟨p, List.mem_append_left _ hp, h1⟩
        · exact ⟨(t.key, t.sum), by simp, h1⟩
  cases hl : out.getLast? with
  | none =>
    rw [stepC_none hl]
    have : out = [] := List.getLast?_eq_none_iff.1 hl
    subst this
    exact fresh (fun p hp => by simp at hp)
  | some p =>
    have hout := last_of hl
    have hpm : p ∈ out := by rw [hout]; simp
    have hkk := h.keys
    rw [hout] at hkk
    obtain ⟨k1, -, k3⟩ := List.pairwise_append.1 hkk
    by_cases hk : p.1 = t.key
    · rw [stepC_more hl hk]
      refine ⟨List.pairwise_append.2 ⟨k1, by simp, fun q hq y hy => ?_⟩, fun q hq => ?_, fun k => ?_⟩
      · rw [List.mem_singleton] at hy
        subst hy
        exact k3 q hq p (by simp)
      · rw [hsum]
        rcases List.mem_append.1 hq with hq | hq
        · have h1 := k3 q hq p (by simp)
          rw [if_neg (by omega), h.val q (by rw [hout]; exact List.mem_append_left _ hq)]
          omega
        · rw [List.mem_singleton] at hq
          subst hq
          simp only
          rw [if_pos hk.symm, h.val p hpm]
      · rw [hex, ← h.mem k]
        constructor
        · rintro ⟨q, hq, h1⟩
          rcases List.mem_append.1 hq with hq | hq
          · exact .inl ⟨q, by rw [hout]; exact List.mem_append_left _ hq, h1⟩
          · rw [List.mem_singleton] at hq
            subst hq
            exact .inr (hk.symm.trans h1)
        · rintro (⟨q, hq, h1⟩ | h1)
          · rw [hout] at hq
            rcases List.mem_append.1 hq with hq | hq
            · exact ⟨q, List.mem_append_left _ hq, h1⟩
            · rw [List.mem_singleton] at hq
              subst hq
              exact ⟨(q.1, q.2 + t.sum), by simp, h1⟩
          · exact ⟨(p.1, p.2 + t.sum), by simp, hk.trans h1⟩
    · rw [stepC_new hl hk]
      have hlt : p.1 < t.key := by have := key_le p hpm; omega
      refine fresh (fun q hq => ?_)
      rw [hout] at hq
      rcases List.mem_append.1 hq with hq | hq
      · have := k3 q hq p (by simp)
        omega
      · rw [List.mem_singleton] at hq
        subst hq
        exact hlt
theorem count_ni {l : List Tal} (ho : OrdT l) : ∀ k, k ≤ l.length → NI (l.take k) (countL (l.take k) [])
  | 0, _ => by
    refine ⟨by simp [countL], fun p hp => by simp [countL] at hp, fun k => by simp [countL]⟩
  | k + 1, hk => by
    have ih := count_ni ho k (by omega)
    have hkl : k < l.length := by omega
    obtain ⟨x, hx⟩ : ∃ x, l[k]? = some x := ⟨_, List.getElem?_eq_getElem hkl⟩
    rw [countL_step hx]
    have ht : l.take (k + 1) = l.take k ++ [x] := by
      rw [List.take_succ_eq_append_getElem hkl]
      rw [List.getElem?_eq_getElem hkl] at hx
      rw [Option.some.inj hx]
    have hax : ∀ y ∈ l.take k, lessT y x := by
      have h2 : OrdT (l.take (k + 1)) := List.Pairwise.sublist (List.take_sublist _ _) ho
      rw [ht] at h2
      exact fun y hy => (List.pairwise_append.1 h2).2.2 y hy x (by simp)
    rw [ht]
    exact ih.step hax
theorem count_all {l : List Tal} (ho : OrdT l) : NI l (countL l []) := by
  have := count_ni ho l.length (Nat.le_refl _)
  rwa [List.take_length] at this
/-- The number of a key. -/
def numL (cs : List (Int × Int)) (k : Int) : Int := match cs.find? (fun p => decide (p.1 = k)) with | some p => p.2 | none => 0
theorem numL_sum {l : List Tal} {out : List (Int × Int)} (h : NI l out) (k : Int) : numL out k = sumK l k := by
  unfold numL
  cases hf : out.find? (fun p => decide (p.1 = k)) with
  | none =>
    refine (sumK_none (fun t ht he => ?_)).symm
    rw [List.find?_eq_none] at hf
    obtain ⟨p, hp, h1⟩ := (h.mem k).2 ⟨t, ht, he⟩
    exact absurd (decide_eq_true h1) (hf p hp)
  | some p =>
    have hpm := List.mem_of_find?_eq_some hf
    have hpk : p.1 = k := by
      have hq := List.find?_some hf
      simpa using hq
    simp only
    rw [h.val p hpm, hpk]
theorem counts_ext : ∀ {a b : List (Int × Int)}, a.Pairwise (fun p q => p.1 < q.1) → b.Pairwise (fun p q => p.1 < q.1) → (∀ p, p ∈ a ↔ p ∈ b) → a = b
  | [], [], _, _, _ => rfl
  | [], y :: b, _, _, h => by have := (h y).2 (by simp); simp at this
  | x :: a, [], _, _, h => by have := (h x).1 (by simp); simp at this
  | x :: a, y :: b, ha, hb, h => by
    obtain ⟨ha1, ha2⟩ := List.pairwise_cons.1 ha
    obtain ⟨hb1, hb2⟩ := List.pairwise_cons.1 hb
    have hxy : x = y := by
      rcases List.mem_cons.1 ((h x).1 (by simp)) with e | e
      · exact e
      · rcases List.mem_cons.1 ((h y).2 (by simp)) with e' | e'
        · exact e'.symm
        · have := ha1 y e'
          have := hb1 x e
          omega
    subst hxy
    rw [counts_ext (a := a) (b := b) ha2 hb2 (fun z => ?_)]
    constructor
    · intro hz
      rcases List.mem_cons.1 ((h z).1 (List.mem_cons_of_mem _ hz)) with e | e
      · subst e; have := ha1 z hz; omega
      · exact e
    · intro hz
      rcases List.mem_cons.1 ((h z).2 (List.mem_cons_of_mem _ hz)) with e | e
      · subst e; have := hb1 z hz; omega
      · exact e
theorem NI.ext {l : List Tal} {a b : List (Int × Int)} (ha : NI l a) (hb : NI l b) : a = b := by
  have go : ∀ {a b : List (Int × Int)}, NI l a → NI l b → ∀ p, p ∈ a → p ∈ b := by
    intro a b ha hb p hp
    obtain ⟨q, hq, h1⟩ := (hb.mem p.1).2 ((ha.mem p.1).1 ⟨p, hp, rfl⟩)
    have h2 := hb.val q hq
    rw [h1, ← ha.val p hp] at h2
    rwa [show p = q from Prod.ext h1.symm h2.symm]
  exact counts_ext ha.keys hb.keys (fun p => ⟨go ha hb p, go hb ha p⟩)
end Go.Proofs.Ytalglngjafkdjaa
