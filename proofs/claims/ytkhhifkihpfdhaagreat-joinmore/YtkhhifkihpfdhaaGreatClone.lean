/- slices.Clone of a log: a row of the call's own, with the same updates. -/
import Derived.Test.YtkhhifkihpfdhaaGreatLogD
import Derived.Test.YtkhhifkihpfdhaaGreatGrowAt
namespace Go.Proofs.YtkhhifkihpfdhaaGreat
open Go.RowKit

theorem addr_addC (b off j : Nat) : (⟨b, off, none⟩ : Addr).add j = ⟨b, off + j, none⟩ := by
  simp only [Addr.add]
  split
  · next e => rw [e]; rfl
  · rfl
/-- The cells of a log, one behind the other. -/
theorem LogV.pairs {w : World} {b off m c : Nat} {l : List Upd} (h : LogV w (.slice (some ⟨b, off, none⟩) m c) l) :
    ∃ ps : List (Upd × Value), ps.map (·.1) = l ∧ (∀ p ∈ ps, Row w p.2 p.1.seen) ∧ ∀ j x, (cellsP ps)[j]? = some x → w.cell? ((⟨b, off, none⟩ : Addr).add j) = some x := by
  suffices hs : ∀ k, k ≤ l.length → ∃ ps : List (Upd × Value), ps.map (·.1) = l.take k ∧ (∀ p ∈ ps, Row w p.2 p.1.seen) ∧ ∀ j x, (cellsP ps)[j]? = some x → w.cell? ((⟨b, off, none⟩ : Addr).add j) = some x by
    obtain ⟨ps, h1, h2, h3⟩ := hs l.length (Nat.le_refl _)
    exact ⟨ps, by rw [h1, List.take_length], h2, h3⟩
  intro k
  induction k with
  | zero => intro _; exact ⟨[], rfl, fun p hp => by simp at hp, fun j x hj => by simp [cellsP] at hj⟩
  | succ k ih =>
    intro hk
    obtain ⟨ps, h1, h2, h3⟩ := ih (by omega)
    obtain ⟨u, hu⟩ : ∃ u, l[k]? = some u := ⟨_, List.getElem?_eq_getElem (by omega)⟩
    obtain ⟨b', off', a5, cap5, e, d0, d1, d2, d3, d4, hrow, -⟩ := h.at hu
    simp only [Option.some.injEq, Addr.mk.injEq, and_true] at e
    obtain ⟨rfl, rfl⟩ := e
    have hpl : ps.length = k := by have := congrArg List.length h1; simp at this; omega
    refine ⟨ps ++ [(u, .slice a5 u.seen.length cap5)], by rw [List.map_append, h1, take_one hu]; rfl, fun p hp => ?_, fun j x hj => ?_⟩
    · rcases List.mem_append.1 hp with hp | hp
      · exact h2 p hp
      · simp at hp; subst hp; exact hrow
    · rw [cellsP_snoc] at hj
      rcases Nat.lt_or_ge j (cellsP ps).length with hlt | hge
      · rw [List.getElem?_append_left hlt] at hj
        exact h3 j x hj
      · rw [List.getElem?_append_right hge] at hj
        rw [cellsP_length, hpl] at hj hge
        obtain ⟨q, rfl⟩ : ∃ q, j = k * 5 + q := ⟨j - k * 5, by omega⟩
        rw [Nat.add_sub_cancel_left] at hj
        rw [addr_addC, ← Nat.add_assoc]
        match q, hj with
        | 0, hj => simp [cellsU] at hj; subst hj; exact d0
        | 1, hj => simp [cellsU] at hj; subst hj; exact d1
        | 2, hj => simp [cellsU] at hj; subst hj; exact d2
        | 3, hj => simp [cellsU] at hj; subst hj; exact d3
        | 4, hj => simp [cellsU] at hj; subst hj; exact d4
        | q + 5, hj => simp [cellsU] at hj

theorem ones_of {w : World} {ps : List (Upd × Value)} (h : ∀ p ∈ ps, Row w p.2 p.1.seen) : ∀ u ∈ cellsP ps, u.oneCell' = true := by
  intro u hu
  obtain ⟨q, hq, hu⟩ := List.mem_flatMap.1 hu
  exact cellsU_one (h q hq).one u hu

end Go.Proofs.YtkhhifkihpfdhaaGreat
