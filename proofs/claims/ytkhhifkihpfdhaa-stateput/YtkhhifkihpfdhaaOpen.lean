/- A slice of integers that came in as an argument reads as a list of numbers. -/
import Derived.Test.YtkhhifkihpfdhaaBase
namespace Go.Proofs.Ytkhhifkihpfdhaa
open Go.RowKit

theorem addr_add (b off j : Nat) : (⟨b, off, none⟩ : Addr).add j = ⟨b, off + j, none⟩ := by
  simp only [Addr.add]
  split
  · next e => rw [e]; rfl
  · rfl

theorem row_of_cells {w : World} {a : Option Addr} {len cap : Nat} {zs : List Int}
    (h : (a = none ∧ len = 0 ∧ cap = 0 ∧ zs = []) ∨ ∃ x, a = some x ∧ len ≤ cap ∧ cap ≤ maxLen ∧ zs.length = cap ∧ (∀ i, i < zs.length → w.cell? (x.add i) = some (.int .i64 (zs.getD i 0))) ∧ ∀ n ∈ zs, (Lit.int .i64 n).wf = true) :
    Row w (.slice a len cap) (zs.take len) := by
  rcases h with ⟨rfl, rfl, rfl, rfl⟩ | ⟨x, rfl, h1, h2, h3, h4, -⟩
  · exact ⟨none, 0, rfl, by simp, by unfold maxLen; omega, fun i hi => by simp at hi⟩
  · have hl : (zs.take len).length = len := by rw [List.length_take]; omega
    refine ⟨some x, cap, by rw [hl], by omega, h2, fun i hi => ?_⟩
    rw [hl] at hi
    have hc := h4 i (by omega)
    obtain ⟨b, off, spot⟩ := x
    have hspot : spot = none := by simpa [Addr.add] using World.cell?_spot (h4 0 (by omega))
    subst hspot
    rw [addr_add] at hc
    refine ⟨b, off, rfl, ?_⟩
    rw [hc]
    have h5 : (zs.take len).getD i 0 = zs.getD i 0 := by simp [List.getD, hi]
    rw [h5]
end Go.Proofs.Ytkhhifkihpfdhaa
