/- clock.Join and clock.Meet answer, in new memory, of each author the greater and the lesser entry of two clocks. -/
import Derived.Test.YtiomdleoafakkabSees
namespace Go.Proofs.Ytiomdleoafakkab
open Go.RowKit

/-- n numbers, the first k as f has them, 0 behind them. -/
def part (f : Nat → Int) (n k : Nat) : List Int := (List.range n).map fun i => if i < k then f i else 0
theorem part_length (f : Nat → Int) (n k : Nat) : (part f n k).length = n := by simp [part]
theorem part_set (f : Nat → Int) (n k : Nat) : (part f n k).set k (f k) = part f n (k + 1) := by
  apply List.ext_getElem
  · simp [part]
  · intro i h1 h2
    simp only [part, List.getElem_set, List.getElem_map, List.getElem_range]
    by_cases e : k = i
    · subst e; simp
    · simp only [if_neg e]
      by_cases e2 : i < k
      · rw [if_pos e2, if_pos (by omega)]
      · rw [if_neg e2, if_neg (by omega)]
theorem part_zero (f : Nat → Int) (n : Nat) : part f n 0 = List.replicate n 0 := by
  apply List.ext_getElem
  · simp [part]
  · intro i h1 h2; simp [part]
theorem part_full (f : Nat → Int) (n : Nat) : part f n n = (List.range n).map f := by
  apply List.ext_getElem
  · simp [part]
  · intro i h1 h2
    simp [part] at h1 ⊢
    omega

theorem getD_range_map (f : Nat → Int) (n i : Nat) : ((List.range n).map f).getD i 0 = if i < n then f i else 0 := by
  by_cases h : i < n
  · simp [List.getD, h]
  · rw [getD_past (by simp; omega), if_neg h]

/-- Of each author the greater entry; the lesser entry. -/
def joinC (xs ys : List Int) : List Int := (List.range (lenM xs ys)).map fun i => joinI (xs.getD i 0) (ys.getD i 0)
theorem joinC_length (xs ys : List Int) : (joinC xs ys).length = lenM xs ys := by simp [joinC]
theorem joinC_getD (xs ys : List Int) (i : Nat) : (joinC xs ys).getD i 0 = joinI (xs.getD i 0) (ys.getD i 0) := by
  unfold joinC
  rw [getD_range_map]
  split
  · rfl
  · next h =>
    have := @lenM_le xs ys
    rw [getD_past (xs := xs) (by omega), getD_past (xs := ys) (by omega)]
    decide
def meetC (xs ys : List Int) : List Int := (List.range (lenM xs ys)).map fun i => meetI (xs.getD i 0) (ys.getD i 0)
theorem meetC_length (xs ys : List Int) : (meetC xs ys).length = lenM xs ys := by simp [meetC]
theorem meetC_getD (xs ys : List Int) (i : Nat) : (meetC xs ys).getD i 0 = meetI (xs.getD i 0) (ys.getD i 0) := by
  unfold meetC
  rw [getD_range_map]
  split
  · rfl
  · next h =>
    have := @lenM_le xs ys
    rw [getD_past (xs := xs) (by omega), getD_past (xs := ys) (by omega)]
    decide

theorem made_ints (n : Nat) : (madeCells (Value.int IntKind.i64 0).cells (n * 1)).toList = (List.replicate n (0 : Int)).map (Value.int .i64) := by
  rw [Nat.mul_one]
  show (madeCells #[Value.int IntKind.i64 0] n).toList = _
  rw [toList_madeCells_one, List.map_replicate]
theorem made_ints' (n : Nat) : (madeCells #[Value.int IntKind.i64 0] n).toList = (List.replicate n (0 : Int)).map (Value.int .i64) := by
  rw [toList_madeCells_one, List.map_replicate]

end Go.Proofs.Ytiomdleoafakkab
