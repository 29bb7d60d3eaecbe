/- The closed fact that the statements of the first chapter ask first is true. -/
import Derived.Test.YtiomdleoafakkaaMix
import Derived.Test.YtiomdleoafakkaaTick
import Derived.Test.YtiomdleoafakkaaSame
import Derived.Test.YtiomdleoafakkaaWrong
namespace Go.Proofs.Ytiomdleoafakkaa
open Go.RowKit

theorem same_yes (v u : Value) (xs ys : List Int) (w : World) (h : Row w v xs) (hu : Row w u ys) (he : xs = ys) :
    Calls Try.prog 16 #[v, u] w fun e w' => e = .returned (.bool true) ∧ Below w.heap.size w w' := by
  have := same_ref v u xs ys w h hu
  rw [decide_eq_true he] at this
  exact this
theorem sees_yes (v u : Value) (xs ys : List Int) (w : World) (h : Row w v xs) (hu : Row w u ys) (he : seesC xs ys = true) :
    Calls Try.prog 21 #[v, u] w fun e w' => e = .returned (.bool true) ∧ Below w.heap.size w w' := by
  have := sees_clock v u xs ys w h hu
  rw [he] at this
  exact this
theorem sees_no (v u : Value) (xs ys : List Int) (w : World) (h : Row w v xs) (hu : Row w u ys) (he : seesC xs ys = false) :
    Calls Try.prog 21 #[v, u] w fun e w' => e = .returned (.bool false) ∧ Below w.heap.size w w' := by
  have := sees_clock v u xs ys w h hu
  rw [he] at this
  exact this
theorem has_yes (v : Value) (xs : List Int) (i s : Int) (w : World) (h : Row w v xs) (he : hasC xs i s = true) :
    Calls Try.prog 23 #[v, .int .i64 i, .int .i64 s] w fun e w' => e = .returned (.bool true) ∧ w' = w := by
  have := has_clock v xs i s w h
  rw [he] at this
  exact this
theorem has_no (v : Value) (xs : List Int) (i s : Int) (w : World) (h : Row w v xs) (he : hasC xs i s = false) :
    Calls Try.prog 23 #[v, .int .i64 i, .int .i64 s] w fun e w' => e = .returned (.bool false) ∧ w' = w := by
  have := has_clock v xs i s w h
  rw [he] at this
  exact this

/-- A slice that is written out, of two numbers. -/
theorem row_two (w : World) (p q : Int) : Row (w.alloc (.cells #[.int .i64 p, .int .i64 q] 3)) (.slice (some ⟨w.heap.size, 0, none⟩) 2 2) [p, q] := by
  refine ⟨_, 2, rfl, by simp, by unfold maxLen; omega, fun i hi => ⟨_, _, rfl, ?_⟩⟩
  match i, hi with
  | 0, _ => simp
  | 1, _ => simp

set_option maxRecDepth 100000 in
set_option maxHeartbeats 1000000 in
theorem alive_law (w : World) : Calls Try.prog 25 #[] w fun e w' => e = .returned (.bool true) ∧ Below w.heap.size w w' := by
  have ra := hide ((row_two w 1 2).alloc (.cells #[.int .i64 2, .int .i64 1] 3))
  have rb := hide (row_two (w.alloc (.cells #[.int .i64 1, .int .i64 2] 3)) 2 1)
  simp only [World.size_alloc] at rb
  have hb0 := Below.plus (Below.plus (Below.refl w.heap.size w) (.cells #[.int .i64 1, .int .i64 2] 3)) (.cells #[.int .i64 2, .int .i64 1] 3)
  go_enter Try.func25, Try.ntmps25
  go_wp2_with fail
  refine (join_clock _ _ [1, 2] [2, 1] _ ra.out rb.out (by simp) (by simp)).mono ?_
  rintro e w1 ⟨r1, rfl, ho1, hb1⟩
  have HB1 := hide (below_step hb0 hb1)
  have A1 := hide (ra.out.below hb1 (Nat.le_refl _))
  have B1 := hide (rb.out.below hb1 (Nat.le_refl _))
  have O1 := hide ho1.row
  clear ra rb hb0 ho1 hb1
  go_wp2_with fail
  refine (same_yes _ _ _ [2, 2] _ (O1.out.alloc _) (row_two w1 2 2) (by decide)).mono ?_
  rintro e w2 ⟨rfl, hb2⟩
  have HB2 := hide (below_step (Below.plus HB1.out _) hb2)
  have A2 := hide ((A1.out.alloc _).below hb2 (Nat.le_refl _))
  have B2 := hide ((B1.out.alloc _).below hb2 (Nat.le_refl _))
  clear O1 HB1 A1 B1 hb2
  go_wp2_with fail
  refine (meet_clock _ _ [1, 2] [2, 1] _ A2.out B2.out (by simp) (by simp)).mono ?_
  rintro e w3 ⟨r3, rfl, ho3, hb3⟩
  have HB3 := hide (below_step HB2.out hb3)
  have A3 := hide (A2.out.below hb3 (Nat.le_refl _))
  have B3 := hide (B2.out.below hb3 (Nat.le_refl _))
  have O3 := hide ho3.row
  clear HB2 A2 B2 ho3 hb3
  go_wp2_with fail
  refine (same_yes _ _ _ [1, 1] _ (O3.out.alloc _) (row_two w3 1 1) (by decide)).mono ?_
  rintro e w4 ⟨rfl, hb4⟩
  have HB4 := hide (below_step (Below.plus HB3.out _) hb4)
  have A4 := hide ((A3.out.alloc _).below hb4 (Nat.le_refl _))
  have B4 := hide ((B3.out.alloc _).below hb4 (Nat.le_refl _))
  clear O3 HB3 A3 B3 hb4
  go_wp2_with fail
  refine (join_clock _ _ [1, 2] [2, 1] _ A4.out B4.out (by simp) (by simp)).mono ?_
  rintro e w5 ⟨r5, rfl, ho5, hb5⟩
  have HB5 := hide (below_step HB4.out hb5)
  have A5 := hide (A4.out.below hb5 (Nat.le_refl _))
  have B5 := hide (B4.out.below hb5 (Nat.le_refl _))
  have O5 := hide ho5.row
  clear HB4 A4 B4 ho5 hb5
  go_wp2_with fail
  refine (sees_yes _ _ _ [1, 2] _ O5.out A5.out (by decide)).mono ?_
  rintro e w6 ⟨rfl, hb6⟩
  have HB6 := hide (below_step HB5.out hb6)
  have A6 := hide (A5.out.below hb6 (Nat.le_refl _))
  have B6 := hide (B5.out.below hb6 (Nat.le_refl _))
  clear O5 HB5 A5 B5 hb6
  go_wp2_with fail
  refine (sees_no _ _ [1, 2] [2, 1] _ A6.out B6.out (by decide)).mono ?_
  rintro e w7 ⟨rfl, hb7⟩
  have HB7 := hide (below_step HB6.out hb7)
  have A7 := hide (A6.out.below hb7 (Nat.le_refl _))
  clear HB6 A6 B6 hb7
  go_wp2_with fail
  refine (has_yes _ [1, 2] _ _ _ A7.out (by decide)).mono ?_
  rintro e w8 ⟨rfl, rfl⟩
  go_wp2_with fail
  go_ret
  exact ⟨rfl, HB7.out⟩
end Go.Proofs.Ytiomdleoafakkaa
