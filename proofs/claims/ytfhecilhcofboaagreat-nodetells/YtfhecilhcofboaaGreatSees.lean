/- clock.Sees and the document's own Sees answer whether one clock is nowhere less than another one. -/
import Derived.Test.YtfhecilhcofboaaGreatReads
namespace Go.Proofs.YtfhecilhcofboaaGreat
open Go.RowKit

theorem getD_past {xs : List Int} {k : Nat} (h : xs.length ≤ k) : xs.getD k 0 = 0 := by simp [List.getD, List.getElem?_eq_none h]

def seesC (xs ys : List Int) : Bool := (List.range (lenM xs ys)).all fun i => decide (ys.getD i 0 ≤ xs.getD i 0)
theorem seesC_iff {xs ys : List Int} : seesC xs ys = true ↔ ∀ i, ys.getD i 0 ≤ xs.getD i 0 := by
 unfold seesC
 rw [List.all_eq_true]
 constructor
 ·intro h i
  by_cases hi : i < lenM xs ys
  ·simpa using h i (by simp [hi])
  have := @lenM_le xs ys
  rw [getD_past (xs := xs) (by omega), getD_past (xs := ys) (by omega)]
  exact Int.le_refl _
 intro h i _
 simpa using h i
theorem sees_all {xs ys : List Int} {k : Nat} (hk : ¬ k < lenM xs ys) (h : ∀ j, j < k → ys.getD j 0 ≤ xs.getD j 0) : true = seesC xs ys := by
 symm; unfold seesC; rw [List.all_eq_true]
 intro i hi
 simp at hi
 simpa using h i (by omega)
theorem sees_one {xs ys : List Int} {k : Nat} (h : xs.getD k 0 < ys.getD k 0) : false = seesC xs ys := by
 symm; rw [Bool.eq_false_iff]; intro e
 have := seesC_iff.1 e k
 omega

theorem entries_fn (a : Option Addr) (n c : Nat) (w : World) :
  Calls Tryz.prog 86 #[.slice a n c] w fun e w' => e = .returned (.func (Fn.func 114) #[] #[.pointer (some ⟨w.heap.size, 0, none⟩)]) ∧ w' = w.alloc (.cells #[.slice a n c] 23) := by
 go_enter Tryz.func86, Tryz.ntmps86
 go_wp2
 go_ret
 exact ⟨rfl, rfl⟩

theorem below_alloc2 (w : World) (o o' : Obj) : Below w.heap.size w ((w.alloc o).alloc o') := ((Below.refl _ _).alloc (nlr _) _).alloc (by simp) _

set_option maxRecDepth 100000 in
set_option maxHeartbeats 400000 in
theorem sees_clock (v u : Value) (xs ys : List Int) (w : World) (h : Row w v xs) (hu : Row w u ys) :
  Calls Tryz.prog 43 #[v, u] w fun e w' => e = .returned (.bool (seesC xs ys)) ∧ Below w.heap.size w w' := by
 have hbd : lenM xs ys ≤ 9223372036854775807 := lenM_bd h.len_le hu.len_le
 obtain ⟨W, HW⟩ : ∃ W, Hid (W = (w.alloc (.cells #[v] 23)).alloc (.cells #[u] 23)) := ⟨_, rfl⟩
 have hb : Below w.heap.size w W := by rw [HW.out]; exact below_alloc2 _ _ _
 have r1 := h.below hb (nlr _)
 have r2 := hu.below hb (nlr _)
 have c1 : W.cell? ⟨w.heap.size, 0, none⟩ = some v := by rw [HW.out]; simp [World.cell?_alloc_past]
 have c2 : W.cell? ⟨w.heap.size + 1, 0, none⟩ = some u := by rw [HW.out]; simp
 have HL := hide (longer_clock v u xs ys W r1 r2)
 have H1 := hide (fun k => entry_fn ⟨w.heap.size, 0, none⟩ v xs k W rfl c1 r1)
 have H2 := hide (fun k => entry_fn ⟨w.heap.size + 1, 0, none⟩ u ys k W rfl c2 r2)
 clear r1 r2 c1 c2
 obtain ⟨a, cap, rfl, -, -, -⟩ := h
 obtain ⟨a', cap', rfl, -, -, -⟩ := hu
 go_enter Tryz.func43, Tryz.ntmps43
 go_wp2_with fail
 refine (entries_fn _ _ _ _).mono ?_
 rintro e w' ⟨rfl, rfl⟩
 go_wp2_with fail
 refine (entries_fn _ _ _ _).mono ?_
 rintro e w' ⟨rfl, hw'⟩
 rw [show w' = W from hw'.trans HW.symm]
 clear hw' w' HW
 go_wp2_with fail
 refine HL.mono ?_
 rintro e w' ⟨rfl, rfl⟩
 go_wp2_with fail
 go_loop [15] (fun i => ∃ k : Nat, k ≤ lenM xs ys ∧ i = .int .i64 k ∧ Hid (∀ j, j < k → ys.getD j 0 ≤ xs.getD j 0)) (fun i => lenM xs ys - (intOf i).toNat)
 case atStart => exact ⟨0, Nat.zero_le _, rfl, hide (fun j hj => by omega)⟩
 obtain ⟨k, hk, rfl, hall⟩ := hrel
 by_cases hlt : k < lenM xs ys
 ·have hlt' : (k : Int) < (lenM xs ys : Int) := by omega
  have G1 := hide (H1.out k)
  have G2 := hide (H2.out k)
  obtain ⟨y, HY⟩ : ∃ y, Hid (xs.getD k 0 = y) := ⟨_, rfl⟩
  obtain ⟨z, HZ⟩ : ∃ y, Hid (ys.getD k 0 = y) := ⟨_, rfl⟩
  rw [HY.out] at G1
  rw [HZ.out] at G2
  by_cases hz : y < z
  ·go_wp2_with fail
   refine G1.mono ?_
   rintro e w' ⟨rfl, rfl⟩
   go_wp2_with fail
   refine G2.mono ?_
   rintro e w' ⟨rfl, rfl⟩
   go_wp2_with fail
   go_ret
   exact ⟨ret_bool (sees_one (k := k) (by rw [HY.out, HZ.out]; exact hz)), hb⟩
  go_wp2_with fail
  refine G1.mono ?_
  rintro e w' ⟨rfl, rfl⟩
  go_wp2_with fail
  refine G2.mono ?_
  rintro e w' ⟨rfl, rfl⟩
  go_wp2_with fail
  go_round
  case rel => exact ⟨k + 1, by omega, by go_num, hide (fun j hj => by
   by_cases e : j = k
   ·subst e; rw [HY.out, HZ.out]; omega
   exact hall.out j (by omega))⟩
  case measure => simp [intOf]; omega
 have hlt' : ¬ (k : Int) < (lenM xs ys : Int) := by omega
 go_wp2
 go_ret
 exact ⟨ret_bool (sees_all hlt hall.out), hb⟩
end Go.Proofs.YtfhecilhcofboaaGreat
