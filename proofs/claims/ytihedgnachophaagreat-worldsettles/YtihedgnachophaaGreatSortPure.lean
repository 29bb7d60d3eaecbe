/- Sorted logs as lists: the same clock, the same updates, and sorted again the same. -/
import Derived.Test.YtihedgnachophaaGreatLacksPure
import Derived.Test.YtihedgnachophaaGreatSorted
namespace Go.Proofs.YtihedgnachophaaGreat
open Go.RowKit

theorem errL_split {n : Int} {xs : List Int} {p q : List Upd} (h : errL n xs (p ++ q) = 0) : errL n xs p = 0 ∧ errL n (tickL xs p) q = 0 := by
 rw [errL_append] at h
 split at h
 ·next h0 => exact ⟨h0, h⟩
 ·next h0 => exact absurd h h0
end Go.Proofs.YtihedgnachophaaGreat
