/- The document's own Ends, and what stays. -/
import Derived.Test.YtalglngjafkdjaaRfB
import Derived.Test.YtalglngjafkdjaaRfC
namespace Go.Proofs.Ytalglngjafkdjaa
open Go.RowKit

theorem cell_grewP {w w' : World} {p : Addr} {v : Value} (hg : Grew w w') (h : w.cell? p = some v) : w'.cell? p = some v := (hg.cell (p := p) (World.block_lt_of_cell? w _ h)).trans h
theorem rowAtP {w : World} {a : Option Addr} {m c : Nat} {xs : List Int} (h : Row w (.slice a m c) xs) {i : Nat} (hi : i < xs.length) : ∃ b off, a = some ⟨b, off, none⟩ ∧ w.cell? ⟨b, off + i, none⟩ = some (.int .i64 (xs.getD i 0)) := by
  obtain ⟨a', c', h1, -, -, h4⟩ := h
  simp only [Value.slice.injEq] at h1
  obtain ⟨rfl, -, -⟩ := h1
  exact h4 i hi
def setsB (u : Upd) : Bool := decide (u.kind = 3) || decide (u.kind = 4)
set_option maxRecDepth 100000 in
set_option maxHeartbeats 1000000 in
theorem sets_ref (ua uk uy ui : Int) (us : List Int) (a5 : Option Addr) (cap5 : Nat) (w : World) :
    Calls Try.prog 72 #[.agg #[.int .i64 ua, .slice a5 us.length cap5, .int .i64 uk, .int .i64 uy, .int .i64 ui]] w fun e w' => e = .returned (.bool (setsB ⟨ua, us, uk, uy, ui⟩)) ∧ Below w.heap.size w w' := by
  obtain ⟨b, HB⟩ : ∃ b, Hid (setsB ⟨ua, us, uk, uy, ui⟩ = b) := ⟨_, rfl⟩
  rw [HB.out]
  have HBW := hide (Below.plus (Below.refl w.heap.size w) (.cells #[.int .i64 ua, .slice a5 us.length cap5, .int .i64 uk, .int .i64 uy, .int .i64 ui] 47))
  by_cases h3 : uk = 3
  · obtain rfl : true = b := by rw [← HB.out]; unfold setsB; simp [h3]
    have h3' : (uk == 3) = true := by simp [h3]
    clear h3
    go_enter Try.func72, Try.ntmps72
    go_wp2_with fail
    go_ret
    exact ⟨rfl, HBW.out⟩
  · have h3' : (uk == 3) = false := by simp [h3]
    by_cases h4 : uk = 4
    · obtain rfl : true = b := by rw [← HB.out]; unfold setsB; simp [h4]
      have h4' : (uk == 4) = true := by simp [h4]
      clear h3 h4
      go_enter Try.func72, Try.ntmps72
      go_wp2_with fail
      go_ret
      exact ⟨rfl, HBW.out⟩
    · obtain rfl : false = b := by rw [← HB.out]; unfold setsB; simp [h3, h4]
      have h4' : (uk == 4) = false := by simp [h4]
      clear h3 h4
      go_enter Try.func72, Try.ntmps72
      go_wp2_with fail
      go_ret
      exact ⟨rfl, HBW.out⟩

set_option maxRecDepth 100000 in
set_option maxHeartbeats 4000000 in
theorem ends_ref (ua uk uy ui : Int) (us : List Int) (a5 : Option Addr) (cap5 : Nat) (xs : Bool) (xk xi xq : Int) (xu : Nat) (w : World) (hs : Row w (.slice a5 us.length cap5) us) (hk : 1 ≤ uk ∧ uk ≤ 5) :
    Calls Try.prog 38 #[.agg #[.int .i64 ua, .slice a5 us.length cap5, .int .i64 uk, .int .i64 uy, .int .i64 ui], .agg #[.bool xs, .int .i64 xk, .int .i64 xi, .int .i64 (xu : Int), .int .i64 xq]] w fun e w' => e = .returned (.bool (endsB ⟨ua, us, uk, uy, ui⟩ ⟨xs, xk, xi, xu, xq⟩)) ∧ Below w.heap.size w w' := by
  obtain ⟨b, HB⟩ : ∃ b, Hid (endsB ⟨ua, us, uk, uy, ui⟩ ⟨xs, xk, xi, xu, xq⟩ = b) := ⟨_, rfl⟩
  rw [HB.out]
  have hbl := Below.plus (Below.plus (Below.refl w.heap.size w) (.cells #[.int .i64 ua, .slice a5 us.length cap5, .int .i64 uk, .int .i64 uy, .int .i64 ui] 47)) (.cells #[.bool xs, .int .i64 xk, .int .i64 xi, .int .i64 (xu : Int), .int .i64 xq] 52)
  have U1 := hide ((Box.new w [.int .i64 ua, .slice a5 us.length cap5, .int .i64 uk, .int .i64 uy, .int .i64 ui] 47).plus (.cells #[.bool xs, .int .i64 xk, .int .i64 xi, .int .i64 (xu : Int), .int .i64 xq] 52))
  have X1 := Box.new (w.alloc (.cells #[.int .i64 ua, .slice a5 us.length cap5, .int .i64 uk, .int .i64 uy, .int .i64 ui] 47)) [.bool xs, .int .i64 xk, .int .i64 xi, .int .i64 (xu : Int), .int .i64 xq] 52
  rw [World.size_alloc] at X1
  have S1 := hide (hs.below hbl (Nat.le_refl _))
  have HB1 := hide hbl
  obtain ⟨w1, HW1⟩ : ∃ W, Hid ((w.alloc (.cells #[.int .i64 ua, .slice a5 us.length cap5, .int .i64 uk, .int .i64 uy, .int .i64 ui] 47)).alloc (.cells #[.bool xs, .int .i64 xk, .int .i64 xi, .int .i64 (xu : Int), .int .i64 xq] 52) = W) := ⟨_, rfl⟩
  rw [HW1.out] at U1 X1 S1 HB1
  have HX1 := hide X1
  clear hbl X1 hs
  obtain ⟨sb0, HSB⟩ : ∃ sb0, Hid (setsB ⟨ua, us, uk, uy, ui⟩ = sb0) := ⟨_, rfl⟩
  by_cases h5 : uk = 5
  · have h5' : (uk == 5) = true := by simp [h5]
    obtain rfl : false = b := by
      rw [← HB.out]
      unfold endsB hasC
      simp [h5]
    clear h5
    have HK : Hid (∀ w', Grew w1 w' → w'.cell? ⟨w.heap.size, 0, none⟩ = some (.int .i64 ua) ∧ w'.cell? ⟨w.heap.size, 1, none⟩ = some (.slice a5 us.length cap5) ∧ w'.cell? ⟨w.heap.size, 2, none⟩ = some (.int .i64 uk) ∧ w'.cell? ⟨w.heap.size, 3, none⟩ = some (.int .i64 uy) ∧ w'.cell? ⟨w.heap.size, 4, none⟩ = some (.int .i64 ui) ∧ w'.cell? ⟨w.heap.size + 1, 0, none⟩ = some (.bool xs) ∧ w'.cell? ⟨w.heap.size + 1, 1, none⟩ = some (.int .i64 xk) ∧ w'.cell? ⟨w.heap.size + 1, 2, none⟩ = some (.int .i64 xi) ∧ w'.cell? ⟨w.heap.size + 1, 3, none⟩ = some (.int .i64 (xu : Int)) ∧ w'.cell? ⟨w.heap.size + 1, 4, none⟩ = some (.int .i64 xq)) := fun w' hg => ⟨(U1.out.below hg (Nat.le_refl _)).get 0 rfl, (U1.out.below hg (Nat.le_refl _)).get 1 rfl, (U1.out.below hg (Nat.le_refl _)).get 2 rfl, (U1.out.below hg (Nat.le_refl _)).get 3 rfl, (U1.out.below hg (Nat.le_refl _)).get 4 rfl, (HX1.out.below hg (Nat.le_refl _)).get 0 rfl, (HX1.out.below hg (Nat.le_refl _)).get 1 rfl, (HX1.out.below hg (Nat.le_refl _)).get 2 rfl, (HX1.out.below hg (Nat.le_refl _)).get 3 rfl, (HX1.out.below hg (Nat.le_refl _)).get 4 rfl⟩
    go_enter Try.func38, Try.ntmps38
    go_upto_region 1 with fail
    rw [HW1.out]
    go_cut [45] (fun c wx => c = .bool true ∧ Hid (Grew w1 wx))
    case first =>
      refine wp_region_held_drew (S := fun w' => w'.cell? ⟨w.heap.size, 0, none⟩ = some (.int .i64 ua) ∧ w'.cell? ⟨w.heap.size, 1, none⟩ = some (.slice a5 us.length cap5) ∧ w'.cell? ⟨w.heap.size, 2, none⟩ = some (.int .i64 uk) ∧ w'.cell? ⟨w.heap.size, 3, none⟩ = some (.int .i64 uy) ∧ w'.cell? ⟨w.heap.size, 4, none⟩ = some (.int .i64 ui) ∧ w'.cell? ⟨w.heap.size + 1, 0, none⟩ = some (.bool xs) ∧ w'.cell? ⟨w.heap.size + 1, 1, none⟩ = some (.int .i64 xk) ∧ w'.cell? ⟨w.heap.size + 1, 2, none⟩ = some (.int .i64 xi) ∧ w'.cell? ⟨w.heap.size + 1, 3, none⟩ = some (.int .i64 (xu : Int)) ∧ w'.cell? ⟨w.heap.size + 1, 4, none⟩ = some (.int .i64 xq)) (by kernel_rfl) (HK.out _ (grew_drew (grew_refl _))) (fun hHeld => ?_)
      obtain ⟨wd, HWD⟩ : ∃ wd, Hid (w1.drew = wd) := ⟨_, rfl⟩
      have hgd : Grew w1 wd := by rw [← HWD.out]; exact grew_drew (grew_refl w1)
      rw [HWD.out] at hHeld ⊢
      refine take_yes 0 5 (.pointer (some ⟨w.heap.size, 2, none⟩)) rfl rfl (by kernel_rfl) (by kernel_rfl) (by kernel_rfl) (fun _ _ _ h => h) rfl (by intro w hSw; (try dsimp only at hSw); go_simp) (by assumption) ?_
      simp only [Act.put, List.setIfInBounds_toArray, List.set_cons_zero, List.set_cons_succ]
      refine take_yes 1 6 (.int .i64 uk) rfl rfl (by kernel_rfl) (by kernel_rfl) (by kernel_rfl) (fun _ _ _ h => h) rfl (by intro w hSw; (try dsimp only at hSw); go_simp) (by assumption) ?_
      simp only [Act.put, List.setIfInBounds_toArray, List.set_cons_zero, List.set_cons_succ]
      refine take_yes 2 7 (.bool true) rfl rfl (by kernel_rfl) (by kernel_rfl) (by kernel_rfl) (fun _ _ _ h => h) rfl (by intro w hSw; (try dsimp only at hSw); go_simp) (by assumption) ?_
      simp only [Act.put, List.setIfInBounds_toArray, List.set_cons_zero, List.set_cons_succ]
      refine take_yes 3 8 (.bool true) rfl rfl (by kernel_rfl) (by kernel_rfl) (by kernel_rfl) (fun _ _ _ h => h) rfl (by intro w hSw; (try dsimp only at hSw); go_simp) (by assumption) ?_
      simp only [Act.put, List.setIfInBounds_toArray, List.set_cons_zero, List.set_cons_succ]
      refine take_skip 4 9 rfl rfl (by kernel_rfl) (by kernel_rfl) (by kernel_rfl) (fun _ _ _ h => h) rfl (by assumption) ?_
      simp only [Act.put, List.setIfInBounds_toArray, List.set_cons_zero, List.set_cons_succ]
      refine take_skip 5 10 rfl rfl (by kernel_rfl) (by kernel_rfl) (by kernel_rfl) (fun _ _ _ h => h) rfl (by assumption) ?_
      simp only [Act.put, List.setIfInBounds_toArray, List.set_cons_zero, List.set_cons_succ]
      refine take_skip 6 11 rfl rfl (by kernel_rfl) (by kernel_rfl) (by kernel_rfl) (fun _ _ _ h => h) rfl (by assumption) ?_
      simp only [Act.put, List.setIfInBounds_toArray, List.set_cons_zero, List.set_cons_succ]
      refine take_yes 7 12 (.bool true) rfl rfl (by kernel_rfl) (by kernel_rfl) (by kernel_rfl) (fun _ _ _ h => h) rfl (by intro w hSw; (try dsimp only at hSw); go_simp) (by assumption) ?_
      simp only [Act.put, List.setIfInBounds_toArray, List.set_cons_zero, List.set_cons_succ]
      refine take_yes 8 13 (.bool true) rfl rfl (by kernel_rfl) (by kernel_rfl) (by kernel_rfl) (fun _ _ _ h => h) rfl (by intro w hSw; (try dsimp only at hSw); go_simp) (by assumption) ?_
      simp only [Act.put, List.setIfInBounds_toArray, List.set_cons_zero, List.set_cons_succ]
      refine take_skip 9 14 rfl rfl (by kernel_rfl) (by kernel_rfl) (by kernel_rfl) (fun _ _ _ h => h) rfl (by assumption) ?_
      simp only [Act.put, List.setIfInBounds_toArray, List.set_cons_zero, List.set_cons_succ]
      refine take_skip 10 15 rfl rfl (by kernel_rfl) (by kernel_rfl) (by kernel_rfl) (fun _ _ _ h => h) rfl (by assumption) ?_
      simp only [Act.put, List.setIfInBounds_toArray, List.set_cons_zero, List.set_cons_succ]
      refine take_skip 11 16 rfl rfl (by kernel_rfl) (by kernel_rfl) (by kernel_rfl) (fun _ _ _ h => h) rfl (by assumption) ?_
      simp only [Act.put, List.setIfInBounds_toArray, List.set_cons_zero, List.set_cons_succ]
      refine take_skip 12 17 rfl rfl (by kernel_rfl) (by kernel_rfl) (by kernel_rfl) (fun _ _ _ h => h) rfl (by assumption) ?_
      simp only [Act.put, List.setIfInBounds_toArray, List.set_cons_zero, List.set_cons_succ]
      refine take_skip 13 18 rfl rfl (by kernel_rfl) (by kernel_rfl) (by kernel_rfl) (fun _ _ _ h => h) rfl (by assumption) ?_
      simp only [Act.put, List.setIfInBounds_toArray, List.set_cons_zero, List.set_cons_succ]
      refine take_yes 14 19 (.bool true) rfl rfl (by kernel_rfl) (by kernel_rfl) (by kernel_rfl) (fun _ _ _ h => h) rfl (by intro w hSw; (try dsimp only at hSw); go_simp) (by assumption) ?_
      simp only [Act.put, List.setIfInBounds_toArray, List.set_cons_zero, List.set_cons_succ]
      refine take_yes 15 20 (.bool true) rfl rfl (by kernel_rfl) (by kernel_rfl) (by kernel_rfl) (fun _ _ _ h => h) rfl (by intro w hSw; (try dsimp only at hSw); go_simp) (by assumption) ?_
      simp only [Act.put, List.setIfInBounds_toArray, List.set_cons_zero, List.set_cons_succ]
      refine take_skip 16 21 rfl rfl (by kernel_rfl) (by kernel_rfl) (by kernel_rfl) (fun _ _ _ h => h) rfl (by assumption) ?_
      simp only [Act.put, List.setIfInBounds_toArray, List.set_cons_zero, List.set_cons_succ]
      refine take_skip 17 22 rfl rfl (by kernel_rfl) (by kernel_rfl) (by kernel_rfl) (fun _ _ _ h => h) rfl (by assumption) ?_
      simp only [Act.put, List.setIfInBounds_toArray, List.set_cons_zero, List.set_cons_succ]
      refine take_skip 18 23 rfl rfl (by kernel_rfl) (by kernel_rfl) (by kernel_rfl) (fun _ _ _ h => h) rfl (by assumption) ?_
      simp only [Act.put, List.setIfInBounds_toArray, List.set_cons_zero, List.set_cons_succ]
      refine take_skip 19 24 rfl rfl (by kernel_rfl) (by kernel_rfl) (by kernel_rfl) (fun _ _ _ h => h) rfl (by assumption) ?_
      simp only [Act.put, List.setIfInBounds_toArray, List.set_cons_zero, List.set_cons_succ]
      refine take_skip 20 25 rfl rfl (by kernel_rfl) (by kernel_rfl) (by kernel_rfl) (fun _ _ _ h => h) rfl (by assumption) ?_
      simp only [Act.put, List.setIfInBounds_toArray, List.set_cons_zero, List.set_cons_succ]
      refine take_yes 21 26 (.bool true) rfl rfl (by kernel_rfl) (by kernel_rfl) (by kernel_rfl) (fun _ _ _ h => h) rfl (by intro w hSw; (try dsimp only at hSw); go_simp) (by assumption) ?_
      simp only [Act.put, List.setIfInBounds_toArray, List.set_cons_zero, List.set_cons_succ]
      refine take_yes 22 27 (.bool true) rfl rfl (by kernel_rfl) (by kernel_rfl) (by kernel_rfl) (fun _ _ _ h => h) rfl (by intro w hSw; (try dsimp only at hSw); go_simp) (by assumption) ?_
      simp only [Act.put, List.setIfInBounds_toArray, List.set_cons_zero, List.set_cons_succ]
      refine take_skip 23 28 rfl rfl (by kernel_rfl) (by kernel_rfl) (by kernel_rfl) (fun _ _ _ h => h) rfl (by assumption) ?_
      simp only [Act.put, List.setIfInBounds_toArray, List.set_cons_zero, List.set_cons_succ]
      refine take_skip 24 29 rfl rfl (by kernel_rfl) (by kernel_rfl) (by kernel_rfl) (fun _ _ _ h => h) rfl (by assumption) ?_
      simp only [Act.put, List.setIfInBounds_toArray, List.set_cons_zero, List.set_cons_succ]
      refine take_skip 25 30 rfl rfl (by kernel_rfl) (by kernel_rfl) (by kernel_rfl) (fun _ _ _ h => h) rfl (by assumption) ?_
      simp only [Act.put, List.setIfInBounds_toArray, List.set_cons_zero, List.set_cons_succ]
      refine take_skip 26 31 rfl rfl (by kernel_rfl) (by kernel_rfl) (by kernel_rfl) (fun _ _ _ h => h) rfl (by assumption) ?_
      simp only [Act.put, List.setIfInBounds_toArray, List.set_cons_zero, List.set_cons_succ]
      refine take_skip 27 32 rfl rfl (by kernel_rfl) (by kernel_rfl) (by kernel_rfl) (fun _ _ _ h => h) rfl (by assumption) ?_
      simp only [Act.put, List.setIfInBounds_toArray, List.set_cons_zero, List.set_cons_succ]
      refine take_skip 28 33 rfl rfl (by kernel_rfl) (by kernel_rfl) (by kernel_rfl) (fun _ _ _ h => h) rfl (by assumption) ?_
      simp only [Act.put, List.setIfInBounds_toArray, List.set_cons_zero, List.set_cons_succ]
      refine take_yes 29 34 (.bool true) rfl rfl (by kernel_rfl) (by kernel_rfl) (by kernel_rfl) (fun _ _ _ h => h) rfl (by intro w hSw; (try dsimp only at hSw); go_simp) (by assumption) ?_
      simp only [Act.put, List.setIfInBounds_toArray, List.set_cons_zero, List.set_cons_succ]
      refine take_yes 30 35 (.bool true) rfl rfl (by kernel_rfl) (by kernel_rfl) (by kernel_rfl) (fun _ _ _ h => h) rfl (by intro w hSw; (try dsimp only at hSw); go_simp) (by assumption) ?_
      simp only [Act.put, List.setIfInBounds_toArray, List.set_cons_zero, List.set_cons_succ]
      refine take_skip 31 36 rfl rfl (by kernel_rfl) (by kernel_rfl) (by kernel_rfl) (fun _ _ _ h => h) rfl (by assumption) ?_
      simp only [Act.put, List.setIfInBounds_toArray, List.set_cons_zero, List.set_cons_succ]
      refine take_skip 32 37 rfl rfl (by kernel_rfl) (by kernel_rfl) (by kernel_rfl) (fun _ _ _ h => h) rfl (by assumption) ?_
      simp only [Act.put, List.setIfInBounds_toArray, List.set_cons_zero, List.set_cons_succ]
      refine take_skip 33 38 rfl rfl (by kernel_rfl) (by kernel_rfl) (by kernel_rfl) (fun _ _ _ h => h) rfl (by assumption) ?_
      simp only [Act.put, List.setIfInBounds_toArray, List.set_cons_zero, List.set_cons_succ]
      refine take_skip 34 39 rfl rfl (by kernel_rfl) (by kernel_rfl) (by kernel_rfl) (fun _ _ _ h => h) rfl (by assumption) ?_
      simp only [Act.put, List.setIfInBounds_toArray, List.set_cons_zero, List.set_cons_succ]
      refine take_skip 35 40 rfl rfl (by kernel_rfl) (by kernel_rfl) (by kernel_rfl) (fun _ _ _ h => h) rfl (by assumption) ?_
      simp only [Act.put, List.setIfInBounds_toArray, List.set_cons_zero, List.set_cons_succ]
      refine take_skip 36 41 rfl rfl (by kernel_rfl) (by kernel_rfl) (by kernel_rfl) (fun _ _ _ h => h) rfl (by assumption) ?_
      simp only [Act.put, List.setIfInBounds_toArray, List.set_cons_zero, List.set_cons_succ]
      refine take_skip 37 42 rfl rfl (by kernel_rfl) (by kernel_rfl) (by kernel_rfl) (fun _ _ _ h => h) rfl (by assumption) ?_
      simp only [Act.put, List.setIfInBounds_toArray, List.set_cons_zero, List.set_cons_succ]
      refine take_skip 38 43 rfl rfl (by kernel_rfl) (by kernel_rfl) (by kernel_rfl) (fun _ _ _ h => h) rfl (by assumption) ?_
      simp only [Act.put, List.setIfInBounds_toArray, List.set_cons_zero, List.set_cons_succ]
      refine take_skip 39 44 rfl rfl (by kernel_rfl) (by kernel_rfl) (by kernel_rfl) (fun _ _ _ h => h) rfl (by assumption) ?_
      simp only [Act.put, List.setIfInBounds_toArray, List.set_cons_zero, List.set_cons_succ]
      refine take_yes 40 45 (.bool true) rfl rfl (by kernel_rfl) (by kernel_rfl) (by kernel_rfl) (fun _ _ _ h => h) rfl (by intro w hSw; (try dsimp only at hSw); go_simp) (by assumption) ?_
      simp only [Act.put, List.setIfInBounds_toArray, List.set_cons_zero, List.set_cons_succ]
      refine wpAnyH_done (by kernel_rfl) ?_ _
      go_wp2_with fail
      go_meet
      exact ⟨rfl, hgd⟩
    case rest =>
      obtain ⟨rfl, HGR⟩ := hcut
      obtain ⟨w2, rfl⟩ : ∃ w2, w2 = wc := ⟨wc, rfl⟩
      have HB2 := hide (HB1.out.trans (HGR.out.mono HB1.out.size))
      have U2 := hide (U1.out.below HGR.out (Nat.le_refl _))
      have X2 := hide (HX1.out.below HGR.out (Nat.le_refl _))
      clear HK HGR U1 HX1
      go_wp2_with fail
      go_ret
      exact ⟨rfl, HB2.out⟩
  · have h5' : (uk == 5) = false := by simp [h5]
    by_cases h3 : uk = 3
    · have h3' : (uk == 3) = true := by simp [h3]
      obtain rfl : false = b := by
        rw [← HB.out]
        unfold endsB hasC
        simp [h3]
      clear h5 h3
      have HK : Hid (∀ w', Grew w1 w' → w'.cell? ⟨w.heap.size, 0, none⟩ = some (.int .i64 ua) ∧ w'.cell? ⟨w.heap.size, 1, none⟩ = some (.slice a5 us.length cap5) ∧ w'.cell? ⟨w.heap.size, 2, none⟩ = some (.int .i64 uk) ∧ w'.cell? ⟨w.heap.size, 3, none⟩ = some (.int .i64 uy) ∧ w'.cell? ⟨w.heap.size, 4, none⟩ = some (.int .i64 ui) ∧ w'.cell? ⟨w.heap.size + 1, 0, none⟩ = some (.bool xs) ∧ w'.cell? ⟨w.heap.size + 1, 1, none⟩ = some (.int .i64 xk) ∧ w'.cell? ⟨w.heap.size + 1, 2, none⟩ = some (.int .i64 xi) ∧ w'.cell? ⟨w.heap.size + 1, 3, none⟩ = some (.int .i64 (xu : Int)) ∧ w'.cell? ⟨w.heap.size + 1, 4, none⟩ = some (.int .i64 xq)) := fun w' hg => ⟨(U1.out.below hg (Nat.le_refl _)).get 0 rfl, (U1.out.below hg (Nat.le_refl _)).get 1 rfl, (U1.out.below hg (Nat.le_refl _)).get 2 rfl, (U1.out.below hg (Nat.le_refl _)).get 3 rfl, (U1.out.below hg (Nat.le_refl _)).get 4 rfl, (HX1.out.below hg (Nat.le_refl _)).get 0 rfl, (HX1.out.below hg (Nat.le_refl _)).get 1 rfl, (HX1.out.below hg (Nat.le_refl _)).get 2 rfl, (HX1.out.below hg (Nat.le_refl _)).get 3 rfl, (HX1.out.below hg (Nat.le_refl _)).get 4 rfl⟩
      go_enter Try.func38, Try.ntmps38
      go_upto_region 1 with fail
      rw [HW1.out]
      go_cut [45] (fun c wx => c = .bool true ∧ Hid (Grew w1 wx))
      case first =>
        refine wp_region_held_drew (S := fun w' => w'.cell? ⟨w.heap.size, 0, none⟩ = some (.int .i64 ua) ∧ w'.cell? ⟨w.heap.size, 1, none⟩ = some (.slice a5 us.length cap5) ∧ w'.cell? ⟨w.heap.size, 2, none⟩ = some (.int .i64 uk) ∧ w'.cell? ⟨w.heap.size, 3, none⟩ = some (.int .i64 uy) ∧ w'.cell? ⟨w.heap.size, 4, none⟩ = some (.int .i64 ui) ∧ w'.cell? ⟨w.heap.size + 1, 0, none⟩ = some (.bool xs) ∧ w'.cell? ⟨w.heap.size + 1, 1, none⟩ = some (.int .i64 xk) ∧ w'.cell? ⟨w.heap.size + 1, 2, none⟩ = some (.int .i64 xi) ∧ w'.cell? ⟨w.heap.size + 1, 3, none⟩ = some (.int .i64 (xu : Int)) ∧ w'.cell? ⟨w.heap.size + 1, 4, none⟩ = some (.int .i64 xq)) (by kernel_rfl) (HK.out _ (grew_drew (grew_refl _))) (fun hHeld => ?_)
        obtain ⟨wd, HWD⟩ : ∃ wd, Hid (w1.drew = wd) := ⟨_, rfl⟩
        have hgd : Grew w1 wd := by rw [← HWD.out]; exact grew_drew (grew_refl w1)
        rw [HWD.out] at hHeld ⊢
        refine take_yes 0 5 (.pointer (some ⟨w.heap.size, 2, none⟩)) rfl rfl (by kernel_rfl) (by kernel_rfl) (by kernel_rfl) (fun _ _ _ h => h) rfl (by intro w hSw; (try dsimp only at hSw); go_simp) (by assumption) ?_
        simp only [Act.put, List.setIfInBounds_toArray, List.set_cons_zero, List.set_cons_succ]
        refine take_yes 1 6 (.int .i64 uk) rfl rfl (by kernel_rfl) (by kernel_rfl) (by kernel_rfl) (fun _ _ _ h => h) rfl (by intro w hSw; (try dsimp only at hSw); go_simp) (by assumption) ?_
        simp only [Act.put, List.setIfInBounds_toArray, List.set_cons_zero, List.set_cons_succ]
        refine take_yes 2 7 (.bool false) rfl rfl (by kernel_rfl) (by kernel_rfl) (by kernel_rfl) (fun _ _ _ h => h) rfl (by intro w hSw; (try dsimp only at hSw); go_simp) (by assumption) ?_
        simp only [Act.put, List.setIfInBounds_toArray, List.set_cons_zero, List.set_cons_succ]
        refine take_yes 3 8 (.bool false) rfl rfl (by kernel_rfl) (by kernel_rfl) (by kernel_rfl) (fun _ _ _ h => h) rfl (by intro w hSw; (try dsimp only at hSw); go_simp) (by assumption) ?_
        simp only [Act.put, List.setIfInBounds_toArray, List.set_cons_zero, List.set_cons_succ]
        refine take_yes 4 9 (.pointer (some ⟨w.heap.size, 2, none⟩)) rfl rfl (by kernel_rfl) (by kernel_rfl) (by kernel_rfl) (fun _ _ _ h => h) rfl (by intro w hSw; (try dsimp only at hSw); go_simp) (by assumption) ?_
        simp only [Act.put, List.setIfInBounds_toArray, List.set_cons_zero, List.set_cons_succ]
        refine take_yes 5 10 (.int .i64 uk) rfl rfl (by kernel_rfl) (by kernel_rfl) (by kernel_rfl) (fun _ _ _ h => h) rfl (by intro w hSw; (try dsimp only at hSw); go_simp) (by assumption) ?_
        simp only [Act.put, List.setIfInBounds_toArray, List.set_cons_zero, List.set_cons_succ]
        refine take_yes 6 11 (.bool true) rfl rfl (by kernel_rfl) (by kernel_rfl) (by kernel_rfl) (fun _ _ _ h => h) rfl (by intro w hSw; (try dsimp only at hSw); go_simp) (by assumption) ?_
        simp only [Act.put, List.setIfInBounds_toArray, List.set_cons_zero, List.set_cons_succ]
        refine take_yes 7 12 (.bool true) rfl rfl (by kernel_rfl) (by kernel_rfl) (by kernel_rfl) (fun _ _ _ h => h) rfl (by intro w hSw; (try dsimp only at hSw); go_simp) (by assumption) ?_
        simp only [Act.put, List.setIfInBounds_toArray, List.set_cons_zero, List.set_cons_succ]
        refine take_yes 8 13 (.bool true) rfl rfl (by kernel_rfl) (by kernel_rfl) (by kernel_rfl) (fun _ _ _ h => h) rfl (by intro w hSw; (try dsimp only at hSw); go_simp) (by assumption) ?_
        simp only [Act.put, List.setIfInBounds_toArray, List.set_cons_zero, List.set_cons_succ]
        refine take_skip 9 14 rfl rfl (by kernel_rfl) (by kernel_rfl) (by kernel_rfl) (fun _ _ _ h => h) rfl (by assumption) ?_
        simp only [Act.put, List.setIfInBounds_toArray, List.set_cons_zero, List.set_cons_succ]
        refine take_skip 10 15 rfl rfl (by kernel_rfl) (by kernel_rfl) (by kernel_rfl) (fun _ _ _ h => h) rfl (by assumption) ?_
        simp only [Act.put, List.setIfInBounds_toArray, List.set_cons_zero, List.set_cons_succ]
        refine take_skip 11 16 rfl rfl (by kernel_rfl) (by kernel_rfl) (by kernel_rfl) (fun _ _ _ h => h) rfl (by assumption) ?_
        simp only [Act.put, List.setIfInBounds_toArray, List.set_cons_zero, List.set_cons_succ]
        refine take_skip 12 17 rfl rfl (by kernel_rfl) (by kernel_rfl) (by kernel_rfl) (fun _ _ _ h => h) rfl (by assumption) ?_
        simp only [Act.put, List.setIfInBounds_toArray, List.set_cons_zero, List.set_cons_succ]
        refine take_skip 13 18 rfl rfl (by kernel_rfl) (by kernel_rfl) (by kernel_rfl) (fun _ _ _ h => h) rfl (by assumption) ?_
        simp only [Act.put, List.setIfInBounds_toArray, List.set_cons_zero, List.set_cons_succ]
        refine take_yes 14 19 (.bool true) rfl rfl (by kernel_rfl) (by kernel_rfl) (by kernel_rfl) (fun _ _ _ h => h) rfl (by intro w hSw; (try dsimp only at hSw); go_simp) (by assumption) ?_
        simp only [Act.put, List.setIfInBounds_toArray, List.set_cons_zero, List.set_cons_succ]
        refine take_yes 15 20 (.bool true) rfl rfl (by kernel_rfl) (by kernel_rfl) (by kernel_rfl) (fun _ _ _ h => h) rfl (by intro w hSw; (try dsimp only at hSw); go_simp) (by assumption) ?_
        simp only [Act.put, List.setIfInBounds_toArray, List.set_cons_zero, List.set_cons_succ]
        refine take_skip 16 21 rfl rfl (by kernel_rfl) (by kernel_rfl) (by kernel_rfl) (fun _ _ _ h => h) rfl (by assumption) ?_
        simp only [Act.put, List.setIfInBounds_toArray, List.set_cons_zero, List.set_cons_succ]
        refine take_skip 17 22 rfl rfl (by kernel_rfl) (by kernel_rfl) (by kernel_rfl) (fun _ _ _ h => h) rfl (by assumption) ?_
        simp only [Act.put, List.setIfInBounds_toArray, List.set_cons_zero, List.set_cons_succ]
        refine take_skip 18 23 rfl rfl (by kernel_rfl) (by kernel_rfl) (by kernel_rfl) (fun _ _ _ h => h) rfl (by assumption) ?_
        simp only [Act.put, List.setIfInBounds_toArray, List.set_cons_zero, List.set_cons_succ]
        refine take_skip 19 24 rfl rfl (by kernel_rfl) (by kernel_rfl) (by kernel_rfl) (fun _ _ _ h => h) rfl (by assumption) ?_
        simp only [Act.put, List.setIfInBounds_toArray, List.set_cons_zero, List.set_cons_succ]
        refine take_skip 20 25 rfl rfl (by kernel_rfl) (by kernel_rfl) (by kernel_rfl) (fun _ _ _ h => h) rfl (by assumption) ?_
        simp only [Act.put, List.setIfInBounds_toArray, List.set_cons_zero, List.set_cons_succ]
        refine take_yes 21 26 (.bool true) rfl rfl (by kernel_rfl) (by kernel_rfl) (by kernel_rfl) (fun _ _ _ h => h) rfl (by intro w hSw; (try dsimp only at hSw); go_simp) (by assumption) ?_
        simp only [Act.put, List.setIfInBounds_toArray, List.set_cons_zero, List.set_cons_succ]
        refine take_yes 22 27 (.bool true) rfl rfl (by kernel_rfl) (by kernel_rfl) (by kernel_rfl) (fun _ _ _ h => h) rfl (by intro w hSw; (try dsimp only at hSw); go_simp) (by assumption) ?_
        simp only [Act.put, List.setIfInBounds_toArray, List.set_cons_zero, List.set_cons_succ]
        refine take_skip 23 28 rfl rfl (by kernel_rfl) (by kernel_rfl) (by kernel_rfl) (fun _ _ _ h => h) rfl (by assumption) ?_
        simp only [Act.put, List.setIfInBounds_toArray, List.set_cons_zero, List.set_cons_succ]
        refine take_skip 24 29 rfl rfl (by kernel_rfl) (by kernel_rfl) (by kernel_rfl) (fun _ _ _ h => h) rfl (by assumption) ?_
        simp only [Act.put, List.setIfInBounds_toArray, List.set_cons_zero, List.set_cons_succ]
        refine take_skip 25 30 rfl rfl (by kernel_rfl) (by kernel_rfl) (by kernel_rfl) (fun _ _ _ h => h) rfl (by assumption) ?_
        simp only [Act.put, List.setIfInBounds_toArray, List.set_cons_zero, List.set_cons_succ]
        refine take_skip 26 31 rfl rfl (by kernel_rfl) (by kernel_rfl) (by kernel_rfl) (fun _ _ _ h => h) rfl (by assumption) ?_
        simp only [Act.put, List.setIfInBounds_toArray, List.set_cons_zero, List.set_cons_succ]
        refine take_skip 27 32 rfl rfl (by kernel_rfl) (by kernel_rfl) (by kernel_rfl) (fun _ _ _ h => h) rfl (by assumption) ?_
        simp only [Act.put, List.setIfInBounds_toArray, List.set_cons_zero, List.set_cons_succ]
        refine take_skip 28 33 rfl rfl (by kernel_rfl) (by kernel_rfl) (by kernel_rfl) (fun _ _ _ h => h) rfl (by assumption) ?_
        simp only [Act.put, List.setIfInBounds_toArray, List.set_cons_zero, List.set_cons_succ]
        refine take_yes 29 34 (.bool true) rfl rfl (by kernel_rfl) (by kernel_rfl) (by kernel_rfl) (fun _ _ _ h => h) rfl (by intro w hSw; (try dsimp only at hSw); go_simp) (by assumption) ?_
        simp only [Act.put, List.setIfInBounds_toArray, List.set_cons_zero, List.set_cons_succ]
        refine take_yes 30 35 (.bool true) rfl rfl (by kernel_rfl) (by kernel_rfl) (by kernel_rfl) (fun _ _ _ h => h) rfl (by intro w hSw; (try dsimp only at hSw); go_simp) (by assumption) ?_
        simp only [Act.put, List.setIfInBounds_toArray, List.set_cons_zero, List.set_cons_succ]
        refine take_skip 31 36 rfl rfl (by kernel_rfl) (by kernel_rfl) (by kernel_rfl) (fun _ _ _ h => h) rfl (by assumption) ?_
        simp only [Act.put, List.setIfInBounds_toArray, List.set_cons_zero, List.set_cons_succ]
        refine take_skip 32 37 rfl rfl (by kernel_rfl) (by kernel_rfl) (by kernel_rfl) (fun _ _ _ h => h) rfl (by assumption) ?_
        simp only [Act.put, List.setIfInBounds_toArray, List.set_cons_zero, List.set_cons_succ]
        refine take_skip 33 38 rfl rfl (by kernel_rfl) (by kernel_rfl) (by kernel_rfl) (fun _ _ _ h => h) rfl (by assumption) ?_
        simp only [Act.put, List.setIfInBounds_toArray, List.set_cons_zero, List.set_cons_succ]
        refine take_skip 34 39 rfl rfl (by kernel_rfl) (by kernel_rfl) (by kernel_rfl) (fun _ _ _ h => h) rfl (by assumption) ?_
        simp only [Act.put, List.setIfInBounds_toArray, List.set_cons_zero, List.set_cons_succ]
        refine take_skip 35 40 rfl rfl (by kernel_rfl) (by kernel_rfl) (by kernel_rfl) (fun _ _ _ h => h) rfl (by assumption) ?_
        simp only [Act.put, List.setIfInBounds_toArray, List.set_cons_zero, List.set_cons_succ]
        refine take_skip 36 41 rfl rfl (by kernel_rfl) (by kernel_rfl) (by kernel_rfl) (fun _ _ _ h => h) rfl (by assumption) ?_
        simp only [Act.put, List.setIfInBounds_toArray, List.set_cons_zero, List.set_cons_succ]
        refine take_skip 37 42 rfl rfl (by kernel_rfl) (by kernel_rfl) (by kernel_rfl) (fun _ _ _ h => h) rfl (by assumption) ?_
        simp only [Act.put, List.setIfInBounds_toArray, List.set_cons_zero, List.set_cons_succ]
        refine take_skip 38 43 rfl rfl (by kernel_rfl) (by kernel_rfl) (by kernel_rfl) (fun _ _ _ h => h) rfl (by assumption) ?_
        simp only [Act.put, List.setIfInBounds_toArray, List.set_cons_zero, List.set_cons_succ]
        refine take_skip 39 44 rfl rfl (by kernel_rfl) (by kernel_rfl) (by kernel_rfl) (fun _ _ _ h => h) rfl (by assumption) ?_
        simp only [Act.put, List.setIfInBounds_toArray, List.set_cons_zero, List.set_cons_succ]
        refine take_yes 40 45 (.bool true) rfl rfl (by kernel_rfl) (by kernel_rfl) (by kernel_rfl) (fun _ _ _ h => h) rfl (by intro w hSw; (try dsimp only at hSw); go_simp) (by assumption) ?_
        simp only [Act.put, List.setIfInBounds_toArray, List.set_cons_zero, List.set_cons_succ]
        refine wpAnyH_done (by kernel_rfl) ?_ _
        go_wp2_with fail
        go_meet
        exact ⟨rfl, hgd⟩
      case rest =>
        obtain ⟨rfl, HGR⟩ := hcut
        obtain ⟨w2, rfl⟩ : ∃ w2, w2 = wc := ⟨wc, rfl⟩
        have HB2 := hide (HB1.out.trans (HGR.out.mono HB1.out.size))
        have U2 := hide (U1.out.below HGR.out (Nat.le_refl _))
        have X2 := hide (HX1.out.below HGR.out (Nat.le_refl _))
        clear HK HGR U1 HX1
        go_wp2_with fail
        go_ret
        exact ⟨rfl, HB2.out⟩
    · have h3' : (uk == 3) = false := by simp [h3]
      have HS4 : Hid (sb0 = decide (uk = 4)) := by unfold Hid; rw [← HSB.out]; unfold setsB; simp [h3]
      have HKD : Hid (uk = 1 ∨ uk = 2 ∨ uk = 4) := by unfold Hid; omega
      clear h5 h3
      by_cases h2 : sb0 = xs
      · have h2' : (sb0 != xs) = false := by simp [h2]
        by_cases hky : uy = xk
        · have hky' : (uy != xk) = false := by simp [hky]
          by_cases hau : us.length ≤ xu
          · have hau' : (us.length : Int) ≤ (xu : Int) := by omega
            obtain rfl : false = b := by
              rw [← HB.out]
              unfold endsB hasC
              rw [show decide (0 ≤ (xu : Int) ∧ (xu : Int) < (us.length : Int) ∧ xq ≤ us.getD (xu : Int).toNat 0) = false from decide_eq_false (fun h => by omega)]
              simp
            clear hky hau
            have HK : Hid (∀ w', Grew w1 w' → w'.cell? ⟨w.heap.size, 0, none⟩ = some (.int .i64 ua) ∧ w'.cell? ⟨w.heap.size, 1, none⟩ = some (.slice a5 us.length cap5) ∧ w'.cell? ⟨w.heap.size, 2, none⟩ = some (.int .i64 uk) ∧ w'.cell? ⟨w.heap.size, 3, none⟩ = some (.int .i64 uy) ∧ w'.cell? ⟨w.heap.size, 4, none⟩ = some (.int .i64 ui) ∧ w'.cell? ⟨w.heap.size + 1, 0, none⟩ = some (.bool xs) ∧ w'.cell? ⟨w.heap.size + 1, 1, none⟩ = some (.int .i64 xk) ∧ w'.cell? ⟨w.heap.size + 1, 2, none⟩ = some (.int .i64 xi) ∧ w'.cell? ⟨w.heap.size + 1, 3, none⟩ = some (.int .i64 (xu : Int)) ∧ w'.cell? ⟨w.heap.size + 1, 4, none⟩ = some (.int .i64 xq)) := fun w' hg => ⟨(U1.out.below hg (Nat.le_refl _)).get 0 rfl, (U1.out.below hg (Nat.le_refl _)).get 1 rfl, (U1.out.below hg (Nat.le_refl _)).get 2 rfl, (U1.out.below hg (Nat.le_refl _)).get 3 rfl, (U1.out.below hg (Nat.le_refl _)).get 4 rfl, (HX1.out.below hg (Nat.le_refl _)).get 0 rfl, (HX1.out.below hg (Nat.le_refl _)).get 1 rfl, (HX1.out.below hg (Nat.le_refl _)).get 2 rfl, (HX1.out.below hg (Nat.le_refl _)).get 3 rfl, (HX1.out.below hg (Nat.le_refl _)).get 4 rfl⟩
            go_enter Try.func38, Try.ntmps38
            go_upto_region 1 with fail
            rw [HW1.out]
            go_cut [45] (fun c wx => c = .bool true ∧ Hid (Grew w1 wx))
            case first =>
              refine wp_region_held_drew (S := fun w' => w'.cell? ⟨w.heap.size, 0, none⟩ = some (.int .i64 ua) ∧ w'.cell? ⟨w.heap.size, 1, none⟩ = some (.slice a5 us.length cap5) ∧ w'.cell? ⟨w.heap.size, 2, none⟩ = some (.int .i64 uk) ∧ w'.cell? ⟨w.heap.size, 3, none⟩ = some (.int .i64 uy) ∧ w'.cell? ⟨w.heap.size, 4, none⟩ = some (.int .i64 ui) ∧ w'.cell? ⟨w.heap.size + 1, 0, none⟩ = some (.bool xs) ∧ w'.cell? ⟨w.heap.size + 1, 1, none⟩ = some (.int .i64 xk) ∧ w'.cell? ⟨w.heap.size + 1, 2, none⟩ = some (.int .i64 xi) ∧ w'.cell? ⟨w.heap.size + 1, 3, none⟩ = some (.int .i64 (xu : Int)) ∧ w'.cell? ⟨w.heap.size + 1, 4, none⟩ = some (.int .i64 xq)) (by kernel_rfl) (HK.out _ (grew_drew (grew_refl _))) (fun hHeld => ?_)
              obtain ⟨wd, HWD⟩ : ∃ wd, Hid (w1.drew = wd) := ⟨_, rfl⟩
              have hgd : Grew w1 wd := by rw [← HWD.out]; exact grew_drew (grew_refl w1)
              rw [HWD.out] at hHeld ⊢
              refine take_yes 0 5 (.pointer (some ⟨w.heap.size, 2, none⟩)) rfl rfl (by kernel_rfl) (by kernel_rfl) (by kernel_rfl) (fun _ _ _ h => h) rfl (by intro w hSw; (try dsimp only at hSw); go_simp) (by assumption) ?_
              simp only [Act.put, List.setIfInBounds_toArray, List.set_cons_zero, List.set_cons_succ]
              refine take_yes 1 6 (.int .i64 uk) rfl rfl (by kernel_rfl) (by kernel_rfl) (by kernel_rfl) (fun _ _ _ h => h) rfl (by intro w hSw; (try dsimp only at hSw); go_simp) (by assumption) ?_
              simp only [Act.put, List.setIfInBounds_toArray, List.set_cons_zero, List.set_cons_succ]
              refine take_yes 2 7 (.bool false) rfl rfl (by kernel_rfl) (by kernel_rfl) (by kernel_rfl) (fun _ _ _ h => h) rfl (by intro w hSw; (try dsimp only at hSw); go_simp) (by assumption) ?_
              simp only [Act.put, List.setIfInBounds_toArray, List.set_cons_zero, List.set_cons_succ]
              refine take_yes 3 8 (.bool false) rfl rfl (by kernel_rfl) (by kernel_rfl) (by kernel_rfl) (fun _ _ _ h => h) rfl (by intro w hSw; (try dsimp only at hSw); go_simp) (by assumption) ?_
              simp only [Act.put, List.setIfInBounds_toArray, List.set_cons_zero, List.set_cons_succ]
              refine take_yes 4 9 (.pointer (some ⟨w.heap.size, 2, none⟩)) rfl rfl (by kernel_rfl) (by kernel_rfl) (by kernel_rfl) (fun _ _ _ h => h) rfl (by intro w hSw; (try dsimp only at hSw); go_simp) (by assumption) ?_
              simp only [Act.put, List.setIfInBounds_toArray, List.set_cons_zero, List.set_cons_succ]
              refine take_yes 5 10 (.int .i64 uk) rfl rfl (by kernel_rfl) (by kernel_rfl) (by kernel_rfl) (fun _ _ _ h => h) rfl (by intro w hSw; (try dsimp only at hSw); go_simp) (by assumption) ?_
              simp only [Act.put, List.setIfInBounds_toArray, List.set_cons_zero, List.set_cons_succ]
              refine take_yes 6 11 (.bool false) rfl rfl (by kernel_rfl) (by kernel_rfl) (by kernel_rfl) (fun _ _ _ h => h) rfl (by intro w hSw; (try dsimp only at hSw); go_simp) (by assumption) ?_
              simp only [Act.put, List.setIfInBounds_toArray, List.set_cons_zero, List.set_cons_succ]
              refine take_yes 7 12 (.bool false) rfl rfl (by kernel_rfl) (by kernel_rfl) (by kernel_rfl) (fun _ _ _ h => h) rfl (by intro w hSw; (try dsimp only at hSw); go_simp) (by assumption) ?_
              simp only [Act.put, List.setIfInBounds_toArray, List.set_cons_zero, List.set_cons_succ]
              refine take_yes 8 13 (.bool false) rfl rfl (by kernel_rfl) (by kernel_rfl) (by kernel_rfl) (fun _ _ _ h => h) rfl (by intro w hSw; (try dsimp only at hSw); go_simp) (by assumption) ?_
              simp only [Act.put, List.setIfInBounds_toArray, List.set_cons_zero, List.set_cons_succ]
              refine take_yes 9 14 (.agg #[.int .i64 ua, .slice a5 us.length cap5, .int .i64 uk, .int .i64 uy, .int .i64 ui]) rfl rfl (by kernel_rfl) (by kernel_rfl) (by kernel_rfl) (fun _ _ _ h => h) rfl (by intro w hSw; (try dsimp only at hSw); go_simp) (by assumption) ?_
              simp only [Act.put, List.setIfInBounds_toArray, List.set_cons_zero, List.set_cons_succ]
              refine take_yes 11 16 (.pointer (some ⟨w.heap.size + 1, 0, none⟩)) rfl rfl (by kernel_rfl) (by kernel_rfl) (by kernel_rfl) (fun _ _ _ h => h) rfl (by intro w hSw; (try dsimp only at hSw); go_simp) (by assumption) ?_
              simp only [Act.put, List.setIfInBounds_toArray, List.set_cons_zero, List.set_cons_succ]
              refine take_yes 12 17 (.bool xs) rfl rfl (by kernel_rfl) (by kernel_rfl) (by kernel_rfl) (fun _ _ _ h => h) rfl (by intro w hSw; (try dsimp only at hSw); go_simp) (by assumption) ?_
              simp only [Act.put, List.setIfInBounds_toArray, List.set_cons_zero, List.set_cons_succ]
              refine wpAnyH_ready (rs := [10]) (by kernel_rfl) (by simp) ?_
              refine (AllReadyH.cons (o := _) rfl (fun K hK => ?_) AllReadyH.nil)
              go_simp
              refine (sets_ref ua uk uy ui us a5 cap5 _).mono ?_
              rintro e w_10 ⟨rfl, hb_10⟩
              rw [HSB.out]
              have hg_10 : Grew w1 w_10 := grew_step hgd hb_10
              refine hK.out _ _ (HK.out _ hg_10) (fun _ => ?_)
              clear hK K
              try simp only [Act.put, List.setIfInBounds_toArray, List.set_cons_zero, List.set_cons_succ]
              refine take_yes 13 18 (.bool false) rfl rfl (by kernel_rfl) (by kernel_rfl) (by kernel_rfl) (fun _ _ _ h => h) rfl (by intro w hSw; (try dsimp only at hSw); go_simp) (by assumption) ?_
              simp only [Act.put, List.setIfInBounds_toArray, List.set_cons_zero, List.set_cons_succ]
              refine take_yes 14 19 (.bool false) rfl rfl (by kernel_rfl) (by kernel_rfl) (by kernel_rfl) (fun _ _ _ h => h) rfl (by intro w hSw; (try dsimp only at hSw); go_simp) (by assumption) ?_
              simp only [Act.put, List.setIfInBounds_toArray, List.set_cons_zero, List.set_cons_succ]
              refine take_yes 15 20 (.bool false) rfl rfl (by kernel_rfl) (by kernel_rfl) (by kernel_rfl) (fun _ _ _ h => h) rfl (by intro w hSw; (try dsimp only at hSw); go_simp) (by assumption) ?_
              simp only [Act.put, List.setIfInBounds_toArray, List.set_cons_zero, List.set_cons_succ]
              refine take_yes 16 21 (.pointer (some ⟨w.heap.size, 3, none⟩)) rfl rfl (by kernel_rfl) (by kernel_rfl) (by kernel_rfl) (fun _ _ _ h => h) rfl (by intro w hSw; (try dsimp only at hSw); go_simp) (by assumption) ?_
              simp only [Act.put, List.setIfInBounds_toArray, List.set_cons_zero, List.set_cons_succ]
              refine take_yes 17 22 (.int .i64 uy) rfl rfl (by kernel_rfl) (by kernel_rfl) (by kernel_rfl) (fun _ _ _ h => h) rfl (by intro w hSw; (try dsimp only at hSw); go_simp) (by assumption) ?_
              simp only [Act.put, List.setIfInBounds_toArray, List.set_cons_zero, List.set_cons_succ]
              refine take_yes 18 23 (.pointer (some ⟨w.heap.size + 1, 1, none⟩)) rfl rfl (by kernel_rfl) (by kernel_rfl) (by kernel_rfl) (fun _ _ _ h => h) rfl (by intro w hSw; (try dsimp only at hSw); go_simp) (by assumption) ?_
              simp only [Act.put, List.setIfInBounds_toArray, List.set_cons_zero, List.set_cons_succ]
              refine take_yes 19 24 (.int .i64 xk) rfl rfl (by kernel_rfl) (by kernel_rfl) (by kernel_rfl) (fun _ _ _ h => h) rfl (by intro w hSw; (try dsimp only at hSw); go_simp) (by assumption) ?_
              simp only [Act.put, List.setIfInBounds_toArray, List.set_cons_zero, List.set_cons_succ]
              refine take_yes 20 25 (.bool false) rfl rfl (by kernel_rfl) (by kernel_rfl) (by kernel_rfl) (fun _ _ _ h => h) rfl (by intro w hSw; (try dsimp only at hSw); go_simp) (by assumption) ?_
              simp only [Act.put, List.setIfInBounds_toArray, List.set_cons_zero, List.set_cons_succ]
              refine take_yes 21 26 (.bool false) rfl rfl (by kernel_rfl) (by kernel_rfl) (by kernel_rfl) (fun _ _ _ h => h) rfl (by intro w hSw; (try dsimp only at hSw); go_simp) (by assumption) ?_
              simp only [Act.put, List.setIfInBounds_toArray, List.set_cons_zero, List.set_cons_succ]
              refine take_yes 22 27 (.bool false) rfl rfl (by kernel_rfl) (by kernel_rfl) (by kernel_rfl) (fun _ _ _ h => h) rfl (by intro w hSw; (try dsimp only at hSw); go_simp) (by assumption) ?_
              simp only [Act.put, List.setIfInBounds_toArray, List.set_cons_zero, List.set_cons_succ]
              refine take_yes 23 28 (.pointer (some ⟨w.heap.size + 1, 3, none⟩)) rfl rfl (by kernel_rfl) (by kernel_rfl) (by kernel_rfl) (fun _ _ _ h => h) rfl (by intro w hSw; (try dsimp only at hSw); go_simp) (by assumption) ?_
              simp only [Act.put, List.setIfInBounds_toArray, List.set_cons_zero, List.set_cons_succ]
              refine take_yes 24 29 (.int .i64 (xu : Int)) rfl rfl (by kernel_rfl) (by kernel_rfl) (by kernel_rfl) (fun _ _ _ h => h) rfl (by intro w hSw; (try dsimp only at hSw); go_simp) (by assumption) ?_
              simp only [Act.put, List.setIfInBounds_toArray, List.set_cons_zero, List.set_cons_succ]
              refine take_yes 25 30 (.pointer (some ⟨w.heap.size, 1, none⟩)) rfl rfl (by kernel_rfl) (by kernel_rfl) (by kernel_rfl) (fun _ _ _ h => h) rfl (by intro w hSw; (try dsimp only at hSw); go_simp) (by assumption) ?_
              simp only [Act.put, List.setIfInBounds_toArray, List.set_cons_zero, List.set_cons_succ]
              refine take_yes 26 31 (.slice a5 us.length cap5) rfl rfl (by kernel_rfl) (by kernel_rfl) (by kernel_rfl) (fun _ _ _ h => h) rfl (by intro w hSw; (try dsimp only at hSw); go_simp) (by assumption) ?_
              simp only [Act.put, List.setIfInBounds_toArray, List.set_cons_zero, List.set_cons_succ]
              refine take_yes 27 32 (.int .i64 us.length) rfl rfl (by kernel_rfl) (by kernel_rfl) (by kernel_rfl) (fun _ _ _ h => h) rfl (by intro w hSw; (try dsimp only at hSw); go_simp) (by assumption) ?_
              simp only [Act.put, List.setIfInBounds_toArray, List.set_cons_zero, List.set_cons_succ]
              refine take_yes 28 33 (.bool true) rfl rfl (by kernel_rfl) (by kernel_rfl) (by kernel_rfl) (fun _ _ _ h => h) rfl (by intro w hSw; (try dsimp only at hSw); go_simp) (by assumption) ?_
              simp only [Act.put, List.setIfInBounds_toArray, List.set_cons_zero, List.set_cons_succ]
              refine take_yes 29 34 (.bool true) rfl rfl (by kernel_rfl) (by kernel_rfl) (by kernel_rfl) (fun _ _ _ h => h) rfl (by intro w hSw; (try dsimp only at hSw); go_simp) (by assumption) ?_
              simp only [Act.put, List.setIfInBounds_toArray, List.set_cons_zero, List.set_cons_succ]
              refine take_yes 30 35 (.bool true) rfl rfl (by kernel_rfl) (by kernel_rfl) (by kernel_rfl) (fun _ _ _ h => h) rfl (by intro w hSw; (try dsimp only at hSw); go_simp) (by assumption) ?_
              simp only [Act.put, List.setIfInBounds_toArray, List.set_cons_zero, List.set_cons_succ]
              refine take_skip 31 36 rfl rfl (by kernel_rfl) (by kernel_rfl) (by kernel_rfl) (fun _ _ _ h => h) rfl (by assumption) ?_
              simp only [Act.put, List.setIfInBounds_toArray, List.set_cons_zero, List.set_cons_succ]
              refine take_skip 32 37 rfl rfl (by kernel_rfl) (by kernel_rfl) (by kernel_rfl) (fun _ _ _ h => h) rfl (by assumption) ?_
              simp only [Act.put, List.setIfInBounds_toArray, List.set_cons_zero, List.set_cons_succ]
              refine take_skip 33 38 rfl rfl (by kernel_rfl) (by kernel_rfl) (by kernel_rfl) (fun _ _ _ h => h) rfl (by assumption) ?_
              simp only [Act.put, List.setIfInBounds_toArray, List.set_cons_zero, List.set_cons_succ]
              refine take_skip 34 39 rfl rfl (by kernel_rfl) (by kernel_rfl) (by kernel_rfl) (fun _ _ _ h => h) rfl (by assumption) ?_
              simp only [Act.put, List.setIfInBounds_toArray, List.set_cons_zero, List.set_cons_succ]
              refine take_skip 35 40 rfl rfl (by kernel_rfl) (by kernel_rfl) (by kernel_rfl) (fun _ _ _ h => h) rfl (by assumption) ?_
              simp only [Act.put, List.setIfInBounds_toArray, List.set_cons_zero, List.set_cons_succ]
              refine take_skip 36 41 rfl rfl (by kernel_rfl) (by kernel_rfl) (by kernel_rfl) (fun _ _ _ h => h) rfl (by assumption) ?_
              simp only [Act.put, List.setIfInBounds_toArray, List.set_cons_zero, List.set_cons_succ]
              refine take_skip 37 42 rfl rfl (by kernel_rfl) (by kernel_rfl) (by kernel_rfl) (fun _ _ _ h => h) rfl (by assumption) ?_
              simp only [Act.put, List.setIfInBounds_toArray, List.set_cons_zero, List.set_cons_succ]
              refine take_skip 38 43 rfl rfl (by kernel_rfl) (by kernel_rfl) (by kernel_rfl) (fun _ _ _ h => h) rfl (by assumption) ?_
              simp only [Act.put, List.setIfInBounds_toArray, List.set_cons_zero, List.set_cons_succ]
              refine take_skip 39 44 rfl rfl (by kernel_rfl) (by kernel_rfl) (by kernel_rfl) (fun _ _ _ h => h) rfl (by assumption) ?_
              simp only [Act.put, List.setIfInBounds_toArray, List.set_cons_zero, List.set_cons_succ]
              refine take_yes 40 45 (.bool true) rfl rfl (by kernel_rfl) (by kernel_rfl) (by kernel_rfl) (fun _ _ _ h => h) rfl (by intro w hSw; (try dsimp only at hSw); go_simp) (by assumption) ?_
              simp only [Act.put, List.setIfInBounds_toArray, List.set_cons_zero, List.set_cons_succ]
              refine wpAnyH_done (by kernel_rfl) ?_ _
              go_wp2_with fail
              go_meet
              exact ⟨rfl, hg_10⟩
            case rest =>
              obtain ⟨rfl, HGR⟩ := hcut
              obtain ⟨w2, rfl⟩ : ∃ w2, w2 = wc := ⟨wc, rfl⟩
              have HB2 := hide (HB1.out.trans (HGR.out.mono HB1.out.size))
              have U2 := hide (U1.out.below HGR.out (Nat.le_refl _))
              have X2 := hide (HX1.out.below HGR.out (Nat.le_refl _))
              clear HK HGR U1 HX1
              go_wp2_with fail
              go_ret
              exact ⟨rfl, HB2.out⟩
          · have hau' : ¬ (us.length : Int) ≤ (xu : Int) := by omega
            have hau2 : (xu : Int) < (us.length : Int) := by omega
            have hau0 : ¬ (xu : Int) < 0 := by omega
            obtain ⟨yl, HYL⟩ : ∃ yl, Hid (us.getD xu 0 = yl) := ⟨_, rfl⟩
            obtain ⟨sb, so, hsb, kl⟩ := rowAtP S1.out (show xu < us.length by omega)
            rw [HYL.out] at kl
            subst hsb
            have HEE : Hid (endsB ⟨ua, us, uk, uy, ui⟩ ⟨xs, xk, xi, xu, xq⟩ = (decide (xq ≤ yl) && (!xs || decide (ui = xi)))) := by
              unfold Hid endsB hasC
              simp only [Int.toNat_natCast, HYL.out]
              rw [decide_eq_true HKD.out, ← HS4.out, h2, decide_eq_true hky]
              have e : decide (0 ≤ (xu : Int) ∧ (xu : Int) < (us.length : Int) ∧ xq ≤ yl) = decide (xq ≤ yl) := by
                by_cases h : xq ≤ yl
                · rw [decide_eq_true h, decide_eq_true ⟨by omega, hau2, h⟩]
                · rw [decide_eq_false h, decide_eq_false (fun hh => h hh.2.2)]
              rw [e]
              simp
            rw [HB.out] at HEE
            clear hky
            by_cases hse : yl < xq
            · obtain rfl : false = b := by rw [HEE.out, decide_eq_false (show ¬ xq ≤ yl by omega), Bool.false_and]
              have HK : Hid (∀ w', Grew w1 w' → w'.cell? ⟨w.heap.size, 0, none⟩ = some (.int .i64 ua) ∧ w'.cell? ⟨w.heap.size, 1, none⟩ = some (.slice (some ⟨sb, so, none⟩) us.length cap5) ∧ w'.cell? ⟨w.heap.size, 2, none⟩ = some (.int .i64 uk) ∧ w'.cell? ⟨w.heap.size, 3, none⟩ = some (.int .i64 uy) ∧ w'.cell? ⟨w.heap.size, 4, none⟩ = some (.int .i64 ui) ∧ w'.cell? ⟨w.heap.size + 1, 0, none⟩ = some (.bool xs) ∧ w'.cell? ⟨w.heap.size + 1, 1, none⟩ = some (.int .i64 xk) ∧ w'.cell? ⟨w.heap.size + 1, 2, none⟩ = some (.int .i64 xi) ∧ w'.cell? ⟨w.heap.size + 1, 3, none⟩ = some (.int .i64 (xu : Int)) ∧ w'.cell? ⟨w.heap.size + 1, 4, none⟩ = some (.int .i64 xq) ∧ w'.cell? ⟨sb, so + xu, none⟩ = some (.int .i64 yl)) := fun w' hg => ⟨(U1.out.below hg (Nat.le_refl _)).get 0 rfl, (U1.out.below hg (Nat.le_refl _)).get 1 rfl, (U1.out.below hg (Nat.le_refl _)).get 2 rfl, (U1.out.below hg (Nat.le_refl _)).get 3 rfl, (U1.out.below hg (Nat.le_refl _)).get 4 rfl, (HX1.out.below hg (Nat.le_refl _)).get 0 rfl, (HX1.out.below hg (Nat.le_refl _)).get 1 rfl, (HX1.out.below hg (Nat.le_refl _)).get 2 rfl, (HX1.out.below hg (Nat.le_refl _)).get 3 rfl, (HX1.out.below hg (Nat.le_refl _)).get 4 rfl, cell_grewP hg kl⟩
              go_enter Try.func38, Try.ntmps38
              go_upto_region 1 with fail
              rw [HW1.out]
              go_cut [45] (fun c wx => c = .bool true ∧ Hid (Grew w1 wx))
              case first =>
                refine wp_region_held_drew (S := fun w' => w'.cell? ⟨w.heap.size, 0, none⟩ = some (.int .i64 ua) ∧ w'.cell? ⟨w.heap.size, 1, none⟩ = some (.slice (some ⟨sb, so, none⟩) us.length cap5) ∧ w'.cell? ⟨w.heap.size, 2, none⟩ = some (.int .i64 uk) ∧ w'.cell? ⟨w.heap.size, 3, none⟩ = some (.int .i64 uy) ∧ w'.cell? ⟨w.heap.size, 4, none⟩ = some (.int .i64 ui) ∧ w'.cell? ⟨w.heap.size + 1, 0, none⟩ = some (.bool xs) ∧ w'.cell? ⟨w.heap.size + 1, 1, none⟩ = some (.int .i64 xk) ∧ w'.cell? ⟨w.heap.size + 1, 2, none⟩ = some (.int .i64 xi) ∧ w'.cell? ⟨w.heap.size + 1, 3, none⟩ = some (.int .i64 (xu : Int)) ∧ w'.cell? ⟨w.heap.size + 1, 4, none⟩ = some (.int .i64 xq) ∧ w'.cell? ⟨sb, so + xu, none⟩ = some (.int .i64 yl)) (by kernel_rfl) (HK.out _ (grew_drew (grew_refl _))) (fun hHeld => ?_)
                obtain ⟨wd, HWD⟩ : ∃ wd, Hid (w1.drew = wd) := ⟨_, rfl⟩
                have hgd : Grew w1 wd := by rw [← HWD.out]; exact grew_drew (grew_refl w1)
                rw [HWD.out] at hHeld ⊢
                refine take_yes 0 5 (.pointer (some ⟨w.heap.size, 2, none⟩)) rfl rfl (by kernel_rfl) (by kernel_rfl) (by kernel_rfl) (fun _ _ _ h => h) rfl (by intro w hSw; (try dsimp only at hSw); go_simp) (by assumption) ?_
                simp only [Act.put, List.setIfInBounds_toArray, List.set_cons_zero, List.set_cons_succ]
                refine take_yes 1 6 (.int .i64 uk) rfl rfl (by kernel_rfl) (by kernel_rfl) (by kernel_rfl) (fun _ _ _ h => h) rfl (by intro w hSw; (try dsimp only at hSw); go_simp) (by assumption) ?_
                simp only [Act.put, List.setIfInBounds_toArray, List.set_cons_zero, List.set_cons_succ]
                refine take_yes 2 7 (.bool false) rfl rfl (by kernel_rfl) (by kernel_rfl) (by kernel_rfl) (fun _ _ _ h => h) rfl (by intro w hSw; (try dsimp only at hSw); go_simp) (by assumption) ?_
                simp only [Act.put, List.setIfInBounds_toArray, List.set_cons_zero, List.set_cons_succ]
                refine take_yes 3 8 (.bool false) rfl rfl (by kernel_rfl) (by kernel_rfl) (by kernel_rfl) (fun _ _ _ h => h) rfl (by intro w hSw; (try dsimp only at hSw); go_simp) (by assumption) ?_
                simp only [Act.put, List.setIfInBounds_toArray, List.set_cons_zero, List.set_cons_succ]
                refine take_yes 4 9 (.pointer (some ⟨w.heap.size, 2, none⟩)) rfl rfl (by kernel_rfl) (by kernel_rfl) (by kernel_rfl) (fun _ _ _ h => h) rfl (by intro w hSw; (try dsimp only at hSw); go_simp) (by assumption) ?_
                simp only [Act.put, List.setIfInBounds_toArray, List.set_cons_zero, List.set_cons_succ]
                refine take_yes 5 10 (.int .i64 uk) rfl rfl (by kernel_rfl) (by kernel_rfl) (by kernel_rfl) (fun _ _ _ h => h) rfl (by intro w hSw; (try dsimp only at hSw); go_simp) (by assumption) ?_
                simp only [Act.put, List.setIfInBounds_toArray, List.set_cons_zero, List.set_cons_succ]
                refine take_yes 6 11 (.bool false) rfl rfl (by kernel_rfl) (by kernel_rfl) (by kernel_rfl) (fun _ _ _ h => h) rfl (by intro w hSw; (try dsimp only at hSw); go_simp) (by assumption) ?_
                simp only [Act.put, List.setIfInBounds_toArray, List.set_cons_zero, List.set_cons_succ]
                refine take_yes 7 12 (.bool false) rfl rfl (by kernel_rfl) (by kernel_rfl) (by kernel_rfl) (fun _ _ _ h => h) rfl (by intro w hSw; (try dsimp only at hSw); go_simp) (by assumption) ?_
                simp only [Act.put, List.setIfInBounds_toArray, List.set_cons_zero, List.set_cons_succ]
                refine take_yes 8 13 (.bool false) rfl rfl (by kernel_rfl) (by kernel_rfl) (by kernel_rfl) (fun _ _ _ h => h) rfl (by intro w hSw; (try dsimp only at hSw); go_simp) (by assumption) ?_
                simp only [Act.put, List.setIfInBounds_toArray, List.set_cons_zero, List.set_cons_succ]
                refine take_yes 9 14 (.agg #[.int .i64 ua, .slice (some ⟨sb, so, none⟩) us.length cap5, .int .i64 uk, .int .i64 uy, .int .i64 ui]) rfl rfl (by kernel_rfl) (by kernel_rfl) (by kernel_rfl) (fun _ _ _ h => h) rfl (by intro w hSw; (try dsimp only at hSw); go_simp) (by assumption) ?_
                simp only [Act.put, List.setIfInBounds_toArray, List.set_cons_zero, List.set_cons_succ]
                refine take_yes 11 16 (.pointer (some ⟨w.heap.size + 1, 0, none⟩)) rfl rfl (by kernel_rfl) (by kernel_rfl) (by kernel_rfl) (fun _ _ _ h => h) rfl (by intro w hSw; (try dsimp only at hSw); go_simp) (by assumption) ?_
                simp only [Act.put, List.setIfInBounds_toArray, List.set_cons_zero, List.set_cons_succ]
                refine take_yes 12 17 (.bool xs) rfl rfl (by kernel_rfl) (by kernel_rfl) (by kernel_rfl) (fun _ _ _ h => h) rfl (by intro w hSw; (try dsimp only at hSw); go_simp) (by assumption) ?_
                simp only [Act.put, List.setIfInBounds_toArray, List.set_cons_zero, List.set_cons_succ]
                refine wpAnyH_ready (rs := [10]) (by kernel_rfl) (by simp) ?_
                refine (AllReadyH.cons (o := _) rfl (fun K hK => ?_) AllReadyH.nil)
                go_simp
                refine (sets_ref ua uk uy ui us (some ⟨sb, so, none⟩) cap5 _).mono ?_
                rintro e w_10 ⟨rfl, hb_10⟩
                rw [HSB.out]
                have hg_10 : Grew w1 w_10 := grew_step hgd hb_10
                refine hK.out _ _ (HK.out _ hg_10) (fun _ => ?_)
                clear hK K
                try simp only [Act.put, List.setIfInBounds_toArray, List.set_cons_zero, List.set_cons_succ]
                refine take_yes 13 18 (.bool false) rfl rfl (by kernel_rfl) (by kernel_rfl) (by kernel_rfl) (fun _ _ _ h => h) rfl (by intro w hSw; (try dsimp only at hSw); go_simp) (by assumption) ?_
                simp only [Act.put, List.setIfInBounds_toArray, List.set_cons_zero, List.set_cons_succ]
                refine take_yes 14 19 (.bool false) rfl rfl (by kernel_rfl) (by kernel_rfl) (by kernel_rfl) (fun _ _ _ h => h) rfl (by intro w hSw; (try dsimp only at hSw); go_simp) (by assumption) ?_
                simp only [Act.put, List.setIfInBounds_toArray, List.set_cons_zero, List.set_cons_succ]
                refine take_yes 15 20 (.bool false) rfl rfl (by kernel_rfl) (by kernel_rfl) (by kernel_rfl) (fun _ _ _ h => h) rfl (by intro w hSw; (try dsimp only at hSw); go_simp) (by assumption) ?_
                simp only [Act.put, List.setIfInBounds_toArray, List.set_cons_zero, List.set_cons_succ]
                refine take_yes 16 21 (.pointer (some ⟨w.heap.size, 3, none⟩)) rfl rfl (by kernel_rfl) (by kernel_rfl) (by kernel_rfl) (fun _ _ _ h => h) rfl (by intro w hSw; (try dsimp only at hSw); go_simp) (by assumption) ?_
                simp only [Act.put, List.setIfInBounds_toArray, List.set_cons_zero, List.set_cons_succ]
                refine take_yes 17 22 (.int .i64 uy) rfl rfl (by kernel_rfl) (by kernel_rfl) (by kernel_rfl) (fun _ _ _ h => h) rfl (by intro w hSw; (try dsimp only at hSw); go_simp) (by assumption) ?_
                simp only [Act.put, List.setIfInBounds_toArray, List.set_cons_zero, List.set_cons_succ]
                refine take_yes 18 23 (.pointer (some ⟨w.heap.size + 1, 1, none⟩)) rfl rfl (by kernel_rfl) (by kernel_rfl) (by kernel_rfl) (fun _ _ _ h => h) rfl (by intro w hSw; (try dsimp only at hSw); go_simp) (by assumption) ?_
                simp only [Act.put, List.setIfInBounds_toArray, List.set_cons_zero, List.set_cons_succ]
                refine take_yes 19 24 (.int .i64 xk) rfl rfl (by kernel_rfl) (by kernel_rfl) (by kernel_rfl) (fun _ _ _ h => h) rfl (by intro w hSw; (try dsimp only at hSw); go_simp) (by assumption) ?_
                simp only [Act.put, List.setIfInBounds_toArray, List.set_cons_zero, List.set_cons_succ]
                refine take_yes 20 25 (.bool false) rfl rfl (by kernel_rfl) (by kernel_rfl) (by kernel_rfl) (fun _ _ _ h => h) rfl (by intro w hSw; (try dsimp only at hSw); go_simp) (by assumption) ?_
                simp only [Act.put, List.setIfInBounds_toArray, List.set_cons_zero, List.set_cons_succ]
                refine take_yes 21 26 (.bool false) rfl rfl (by kernel_rfl) (by kernel_rfl) (by kernel_rfl) (fun _ _ _ h => h) rfl (by intro w hSw; (try dsimp only at hSw); go_simp) (by assumption) ?_
                simp only [Act.put, List.setIfInBounds_toArray, List.set_cons_zero, List.set_cons_succ]
                refine take_yes 22 27 (.bool false) rfl rfl (by kernel_rfl) (by kernel_rfl) (by kernel_rfl) (fun _ _ _ h => h) rfl (by intro w hSw; (try dsimp only at hSw); go_simp) (by assumption) ?_
                simp only [Act.put, List.setIfInBounds_toArray, List.set_cons_zero, List.set_cons_succ]
                refine take_yes 23 28 (.pointer (some ⟨w.heap.size + 1, 3, none⟩)) rfl rfl (by kernel_rfl) (by kernel_rfl) (by kernel_rfl) (fun _ _ _ h => h) rfl (by intro w hSw; (try dsimp only at hSw); go_simp) (by assumption) ?_
                simp only [Act.put, List.setIfInBounds_toArray, List.set_cons_zero, List.set_cons_succ]
                refine take_yes 24 29 (.int .i64 (xu : Int)) rfl rfl (by kernel_rfl) (by kernel_rfl) (by kernel_rfl) (fun _ _ _ h => h) rfl (by intro w hSw; (try dsimp only at hSw); go_simp) (by assumption) ?_
                simp only [Act.put, List.setIfInBounds_toArray, List.set_cons_zero, List.set_cons_succ]
                refine take_yes 25 30 (.pointer (some ⟨w.heap.size, 1, none⟩)) rfl rfl (by kernel_rfl) (by kernel_rfl) (by kernel_rfl) (fun _ _ _ h => h) rfl (by intro w hSw; (try dsimp only at hSw); go_simp) (by assumption) ?_
                simp only [Act.put, List.setIfInBounds_toArray, List.set_cons_zero, List.set_cons_succ]
                refine take_yes 26 31 (.slice (some ⟨sb, so, none⟩) us.length cap5) rfl rfl (by kernel_rfl) (by kernel_rfl) (by kernel_rfl) (fun _ _ _ h => h) rfl (by intro w hSw; (try dsimp only at hSw); go_simp) (by assumption) ?_
                simp only [Act.put, List.setIfInBounds_toArray, List.set_cons_zero, List.set_cons_succ]
                refine take_yes 27 32 (.int .i64 us.length) rfl rfl (by kernel_rfl) (by kernel_rfl) (by kernel_rfl) (fun _ _ _ h => h) rfl (by intro w hSw; (try dsimp only at hSw); go_simp) (by assumption) ?_
                simp only [Act.put, List.setIfInBounds_toArray, List.set_cons_zero, List.set_cons_succ]
                refine take_yes 28 33 (.bool false) rfl rfl (by kernel_rfl) (by kernel_rfl) (by kernel_rfl) (fun _ _ _ h => h) rfl (by intro w hSw; (try dsimp only at hSw); go_simp) (by assumption) ?_
                simp only [Act.put, List.setIfInBounds_toArray, List.set_cons_zero, List.set_cons_succ]
                refine take_yes 29 34 (.bool false) rfl rfl (by kernel_rfl) (by kernel_rfl) (by kernel_rfl) (fun _ _ _ h => h) rfl (by intro w hSw; (try dsimp only at hSw); go_simp) (by assumption) ?_
                simp only [Act.put, List.setIfInBounds_toArray, List.set_cons_zero, List.set_cons_succ]
                refine take_yes 30 35 (.bool false) rfl rfl (by kernel_rfl) (by kernel_rfl) (by kernel_rfl) (fun _ _ _ h => h) rfl (by intro w hSw; (try dsimp only at hSw); go_simp) (by assumption) ?_
                simp only [Act.put, List.setIfInBounds_toArray, List.set_cons_zero, List.set_cons_succ]
                refine take_yes 31 36 (.pointer (some ⟨w.heap.size, 1, none⟩)) rfl rfl (by kernel_rfl) (by kernel_rfl) (by kernel_rfl) (fun _ _ _ h => h) rfl (by intro w hSw; (try dsimp only at hSw); go_simp) (by assumption) ?_
                simp only [Act.put, List.setIfInBounds_toArray, List.set_cons_zero, List.set_cons_succ]
                refine take_yes 32 37 (.slice (some ⟨sb, so, none⟩) us.length cap5) rfl rfl (by kernel_rfl) (by kernel_rfl) (by kernel_rfl) (fun _ _ _ h => h) rfl (by intro w hSw; (try dsimp only at hSw); go_simp) (by assumption) ?_
                simp only [Act.put, List.setIfInBounds_toArray, List.set_cons_zero, List.set_cons_succ]
                refine take_yes 33 38 (.pointer (some ⟨w.heap.size + 1, 3, none⟩)) rfl rfl (by kernel_rfl) (by kernel_rfl) (by kernel_rfl) (fun _ _ _ h => h) rfl (by intro w hSw; (try dsimp only at hSw); go_simp) (by assumption) ?_
                simp only [Act.put, List.setIfInBounds_toArray, List.set_cons_zero, List.set_cons_succ]
                refine take_yes 34 39 (.int .i64 (xu : Int)) rfl rfl (by kernel_rfl) (by kernel_rfl) (by kernel_rfl) (fun _ _ _ h => h) rfl (by intro w hSw; (try dsimp only at hSw); go_simp) (by assumption) ?_
                simp only [Act.put, List.setIfInBounds_toArray, List.set_cons_zero, List.set_cons_succ]
                refine take_yes 35 40 (.pointer (some ⟨sb, so + xu, none⟩)) rfl rfl (by kernel_rfl) (by kernel_rfl) (by kernel_rfl) (fun _ _ _ h => h) rfl (by intro w hSw; (try dsimp only at hSw); go_simp) (by assumption) ?_
                simp only [Act.put, List.setIfInBounds_toArray, List.set_cons_zero, List.set_cons_succ]
                refine take_yes 36 41 (.int .i64 yl) rfl rfl (by kernel_rfl) (by kernel_rfl) (by kernel_rfl) (fun _ _ _ h => h) rfl (by intro w hSw; (try dsimp only at hSw); go_simp) (by assumption) ?_
                simp only [Act.put, List.setIfInBounds_toArray, List.set_cons_zero, List.set_cons_succ]
                refine take_yes 37 42 (.pointer (some ⟨w.heap.size + 1, 4, none⟩)) rfl rfl (by kernel_rfl) (by kernel_rfl) (by kernel_rfl) (fun _ _ _ h => h) rfl (by intro w hSw; (try dsimp only at hSw); go_simp) (by assumption) ?_
                simp only [Act.put, List.setIfInBounds_toArray, List.set_cons_zero, List.set_cons_succ]
                refine take_yes 38 43 (.int .i64 xq) rfl rfl (by kernel_rfl) (by kernel_rfl) (by kernel_rfl) (fun _ _ _ h => h) rfl (by intro w hSw; (try dsimp only at hSw); go_simp) (by assumption) ?_
                simp only [Act.put, List.setIfInBounds_toArray, List.set_cons_zero, List.set_cons_succ]
                refine take_yes 39 44 (.bool true) rfl rfl (by kernel_rfl) (by kernel_rfl) (by kernel_rfl) (fun _ _ _ h => h) rfl (by intro w hSw; (try dsimp only at hSw); go_simp) (by assumption) ?_
                simp only [Act.put, List.setIfInBounds_toArray, List.set_cons_zero, List.set_cons_succ]
                refine take_yes 40 45 (.bool true) rfl rfl (by kernel_rfl) (by kernel_rfl) (by kernel_rfl) (fun _ _ _ h => h) rfl (by intro w hSw; (try dsimp only at hSw); go_simp) (by assumption) ?_
                simp only [Act.put, List.setIfInBounds_toArray, List.set_cons_zero, List.set_cons_succ]
                refine wpAnyH_done (by kernel_rfl) ?_ _
                go_wp2_with fail
                go_meet
                exact ⟨rfl, hg_10⟩
              case rest =>
                obtain ⟨rfl, HGR⟩ := hcut
                obtain ⟨w2, rfl⟩ : ∃ w2, w2 = wc := ⟨wc, rfl⟩
                have HB2 := hide (HB1.out.trans (HGR.out.mono HB1.out.size))
                have U2 := hide (U1.out.below HGR.out (Nat.le_refl _))
                have X2 := hide (HX1.out.below HGR.out (Nat.le_refl _))
                clear HK HGR U1 HX1
                go_wp2_with fail
                go_ret
                exact ⟨rfl, HB2.out⟩
            · have hbb : b = (!xs || decide (ui = xi)) := by rw [HEE.out, decide_eq_true (show xq ≤ yl by omega), Bool.true_and]
              have HK : Hid (∀ w', Grew w1 w' → w'.cell? ⟨w.heap.size, 0, none⟩ = some (.int .i64 ua) ∧ w'.cell? ⟨w.heap.size, 1, none⟩ = some (.slice (some ⟨sb, so, none⟩) us.length cap5) ∧ w'.cell? ⟨w.heap.size, 2, none⟩ = some (.int .i64 uk) ∧ w'.cell? ⟨w.heap.size, 3, none⟩ = some (.int .i64 uy) ∧ w'.cell? ⟨w.heap.size, 4, none⟩ = some (.int .i64 ui) ∧ w'.cell? ⟨w.heap.size + 1, 0, none⟩ = some (.bool xs) ∧ w'.cell? ⟨w.heap.size + 1, 1, none⟩ = some (.int .i64 xk) ∧ w'.cell? ⟨w.heap.size + 1, 2, none⟩ = some (.int .i64 xi) ∧ w'.cell? ⟨w.heap.size + 1, 3, none⟩ = some (.int .i64 (xu : Int)) ∧ w'.cell? ⟨w.heap.size + 1, 4, none⟩ = some (.int .i64 xq) ∧ w'.cell? ⟨sb, so + xu, none⟩ = some (.int .i64 yl)) := fun w' hg => ⟨(U1.out.below hg (Nat.le_refl _)).get 0 rfl, (U1.out.below hg (Nat.le_refl _)).get 1 rfl, (U1.out.below hg (Nat.le_refl _)).get 2 rfl, (U1.out.below hg (Nat.le_refl _)).get 3 rfl, (U1.out.below hg (Nat.le_refl _)).get 4 rfl, (HX1.out.below hg (Nat.le_refl _)).get 0 rfl, (HX1.out.below hg (Nat.le_refl _)).get 1 rfl, (HX1.out.below hg (Nat.le_refl _)).get 2 rfl, (HX1.out.below hg (Nat.le_refl _)).get 3 rfl, (HX1.out.below hg (Nat.le_refl _)).get 4 rfl, cell_grewP hg kl⟩
              go_enter Try.func38, Try.ntmps38
              go_upto_region 1 with fail
              rw [HW1.out]
              go_cut [45] (fun c wx => c = .bool false ∧ Hid (Grew w1 wx))
              case first =>
                refine wp_region_held_drew (S := fun w' => w'.cell? ⟨w.heap.size, 0, none⟩ = some (.int .i64 ua) ∧ w'.cell? ⟨w.heap.size, 1, none⟩ = some (.slice (some ⟨sb, so, none⟩) us.length cap5) ∧ w'.cell? ⟨w.heap.size, 2, none⟩ = some (.int .i64 uk) ∧ w'.cell? ⟨w.heap.size, 3, none⟩ = some (.int .i64 uy) ∧ w'.cell? ⟨w.heap.size, 4, none⟩ = some (.int .i64 ui) ∧ w'.cell? ⟨w.heap.size + 1, 0, none⟩ = some (.bool xs) ∧ w'.cell? ⟨w.heap.size + 1, 1, none⟩ = some (.int .i64 xk) ∧ w'.cell? ⟨w.heap.size + 1, 2, none⟩ = some (.int .i64 xi) ∧ w'.cell? ⟨w.heap.size + 1, 3, none⟩ = some (.int .i64 (xu : Int)) ∧ w'.cell? ⟨w.heap.size + 1, 4, none⟩ = some (.int .i64 xq) ∧ w'.cell? ⟨sb, so + xu, none⟩ = some (.int .i64 yl)) (by kernel_rfl) (HK.out _ (grew_drew (grew_refl _))) (fun hHeld => ?_)
                obtain ⟨wd, HWD⟩ : ∃ wd, Hid (w1.drew = wd) := ⟨_, rfl⟩
                have hgd : Grew w1 wd := by rw [← HWD.out]; exact grew_drew (grew_refl w1)
                rw [HWD.out] at hHeld ⊢
                refine take_yes 0 5 (.pointer (some ⟨w.heap.size, 2, none⟩)) rfl rfl (by kernel_rfl) (by kernel_rfl) (by kernel_rfl) (fun _ _ _ h => h) rfl (by intro w hSw; (try dsimp only at hSw); go_simp) (by assumption) ?_
                simp only [Act.put, List.setIfInBounds_toArray, List.set_cons_zero, List.set_cons_succ]
                refine take_yes 1 6 (.int .i64 uk) rfl rfl (by kernel_rfl) (by kernel_rfl) (by kernel_rfl) (fun _ _ _ h => h) rfl (by intro w hSw; (try dsimp only at hSw); go_simp) (by assumption) ?_
                simp only [Act.put, List.setIfInBounds_toArray, List.set_cons_zero, List.set_cons_succ]
                refine take_yes 2 7 (.bool false) rfl rfl (by kernel_rfl) (by kernel_rfl) (by kernel_rfl) (fun _ _ _ h => h) rfl (by intro w hSw; (try dsimp only at hSw); go_simp) (by assumption) ?_
                simp only [Act.put, List.setIfInBounds_toArray, List.set_cons_zero, List.set_cons_succ]
                refine take_yes 3 8 (.bool false) rfl rfl (by kernel_rfl) (by kernel_rfl) (by kernel_rfl) (fun _ _ _ h => h) rfl (by intro w hSw; (try dsimp only at hSw); go_simp) (by assumption) ?_
                simp only [Act.put, List.setIfInBounds_toArray, List.set_cons_zero, List.set_cons_succ]
                refine take_yes 4 9 (.pointer (some ⟨w.heap.size, 2, none⟩)) rfl rfl (by kernel_rfl) (by kernel_rfl) (by kernel_rfl) (fun _ _ _ h => h) rfl (by intro w hSw; (try dsimp only at hSw); go_simp) (by assumption) ?_
                simp only [Act.put, List.setIfInBounds_toArray, List.set_cons_zero, List.set_cons_succ]
                refine take_yes 5 10 (.int .i64 uk) rfl rfl (by kernel_rfl) (by kernel_rfl) (by kernel_rfl) (fun _ _ _ h => h) rfl (by intro w hSw; (try dsimp only at hSw); go_simp) (by assumption) ?_
                simp only [Act.put, List.setIfInBounds_toArray, List.set_cons_zero, List.set_cons_succ]
                refine take_yes 6 11 (.bool false) rfl rfl (by kernel_rfl) (by kernel_rfl) (by kernel_rfl) (fun _ _ _ h => h) rfl (by intro w hSw; (try dsimp only at hSw); go_simp) (by assumption) ?_
                simp only [Act.put, List.setIfInBounds_toArray, List.set_cons_zero, List.set_cons_succ]
                refine take_yes 7 12 (.bool false) rfl rfl (by kernel_rfl) (by kernel_rfl) (by kernel_rfl) (fun _ _ _ h => h) rfl (by intro w hSw; (try dsimp only at hSw); go_simp) (by assumption) ?_
                simp only [Act.put, List.setIfInBounds_toArray, List.set_cons_zero, List.set_cons_succ]
                refine take_yes 8 13 (.bool false) rfl rfl (by kernel_rfl) (by kernel_rfl) (by kernel_rfl) (fun _ _ _ h => h) rfl (by intro w hSw; (try dsimp only at hSw); go_simp) (by assumption) ?_
                simp only [Act.put, List.setIfInBounds_toArray, List.set_cons_zero, List.set_cons_succ]
                refine take_yes 9 14 (.agg #[.int .i64 ua, .slice (some ⟨sb, so, none⟩) us.length cap5, .int .i64 uk, .int .i64 uy, .int .i64 ui]) rfl rfl (by kernel_rfl) (by kernel_rfl) (by kernel_rfl) (fun _ _ _ h => h) rfl (by intro w hSw; (try dsimp only at hSw); go_simp) (by assumption) ?_
                simp only [Act.put, List.setIfInBounds_toArray, List.set_cons_zero, List.set_cons_succ]
                refine take_yes 11 16 (.pointer (some ⟨w.heap.size + 1, 0, none⟩)) rfl rfl (by kernel_rfl) (by kernel_rfl) (by kernel_rfl) (fun _ _ _ h => h) rfl (by intro w hSw; (try dsimp only at hSw); go_simp) (by assumption) ?_
                simp only [Act.put, List.setIfInBounds_toArray, List.set_cons_zero, List.set_cons_succ]
                refine take_yes 12 17 (.bool xs) rfl rfl (by kernel_rfl) (by kernel_rfl) (by kernel_rfl) (fun _ _ _ h => h) rfl (by intro w hSw; (try dsimp only at hSw); go_simp) (by assumption) ?_
                simp only [Act.put, List.setIfInBounds_toArray, List.set_cons_zero, List.set_cons_succ]
                refine wpAnyH_ready (rs := [10]) (by kernel_rfl) (by simp) ?_
                refine (AllReadyH.cons (o := _) rfl (fun K hK => ?_) AllReadyH.nil)
                go_simp
                refine (sets_ref ua uk uy ui us (some ⟨sb, so, none⟩) cap5 _).mono ?_
                rintro e w_10 ⟨rfl, hb_10⟩
                rw [HSB.out]
                have hg_10 : Grew w1 w_10 := grew_step hgd hb_10
                refine hK.out _ _ (HK.out _ hg_10) (fun _ => ?_)
                clear hK K
                try simp only [Act.put, List.setIfInBounds_toArray, List.set_cons_zero, List.set_cons_succ]
                refine take_yes 13 18 (.bool false) rfl rfl (by kernel_rfl) (by kernel_rfl) (by kernel_rfl) (fun _ _ _ h => h) rfl (by intro w hSw; (try dsimp only at hSw); go_simp) (by assumption) ?_
                simp only [Act.put, List.setIfInBounds_toArray, List.set_cons_zero, List.set_cons_succ]
                refine take_yes 14 19 (.bool false) rfl rfl (by kernel_rfl) (by kernel_rfl) (by kernel_rfl) (fun _ _ _ h => h) rfl (by intro w hSw; (try dsimp only at hSw); go_simp) (by assumption) ?_
                simp only [Act.put, List.setIfInBounds_toArray, List.set_cons_zero, List.set_cons_succ]
                refine take_yes 15 20 (.bool false) rfl rfl (by kernel_rfl) (by kernel_rfl) (by kernel_rfl) (fun _ _ _ h => h) rfl (by intro w hSw; (try dsimp only at hSw); go_simp) (by assumption) ?_
                simp only [Act.put, List.setIfInBounds_toArray, List.set_cons_zero, List.set_cons_succ]
                refine take_yes 16 21 (.pointer (some ⟨w.heap.size, 3, none⟩)) rfl rfl (by kernel_rfl) (by kernel_rfl) (by kernel_rfl) (fun _ _ _ h => h) rfl (by intro w hSw; (try dsimp only at hSw); go_simp) (by assumption) ?_
                simp only [Act.put, List.setIfInBounds_toArray, List.set_cons_zero, List.set_cons_succ]
                refine take_yes 17 22 (.int .i64 uy) rfl rfl (by kernel_rfl) (by kernel_rfl) (by kernel_rfl) (fun _ _ _ h => h) rfl (by intro w hSw; (try dsimp only at hSw); go_simp) (by assumption) ?_
                simp only [Act.put, List.setIfInBounds_toArray, List.set_cons_zero, List.set_cons_succ]
                refine take_yes 18 23 (.pointer (some ⟨w.heap.size + 1, 1, none⟩)) rfl rfl (by kernel_rfl) (by kernel_rfl) (by kernel_rfl) (fun _ _ _ h => h) rfl (by intro w hSw; (try dsimp only at hSw); go_simp) (by assumption) ?_
                simp only [Act.put, List.setIfInBounds_toArray, List.set_cons_zero, List.set_cons_succ]
                refine take_yes 19 24 (.int .i64 xk) rfl rfl (by kernel_rfl) (by kernel_rfl) (by kernel_rfl) (fun _ _ _ h => h) rfl (by intro w hSw; (try dsimp only at hSw); go_simp) (by assumption) ?_
                simp only [Act.put, List.setIfInBounds_toArray, List.set_cons_zero, List.set_cons_succ]
                refine take_yes 20 25 (.bool false) rfl rfl (by kernel_rfl) (by kernel_rfl) (by kernel_rfl) (fun _ _ _ h => h) rfl (by intro w hSw; (try dsimp only at hSw); go_simp) (by assumption) ?_
                simp only [Act.put, List.setIfInBounds_toArray, List.set_cons_zero, List.set_cons_succ]
                refine take_yes 21 26 (.bool false) rfl rfl (by kernel_rfl) (by kernel_rfl) (by kernel_rfl) (fun _ _ _ h => h) rfl (by intro w hSw; (try dsimp only at hSw); go_simp) (by assumption) ?_
                simp only [Act.put, List.setIfInBounds_toArray, List.set_cons_zero, List.set_cons_succ]
                refine take_yes 22 27 (.bool false) rfl rfl (by kernel_rfl) (by kernel_rfl) (by kernel_rfl) (fun _ _ _ h => h) rfl (by intro w hSw; (try dsimp only at hSw); go_simp) (by assumption) ?_
                simp only [Act.put, List.setIfInBounds_toArray, List.set_cons_zero, List.set_cons_succ]
                refine take_yes 23 28 (.pointer (some ⟨w.heap.size + 1, 3, none⟩)) rfl rfl (by kernel_rfl) (by kernel_rfl) (by kernel_rfl) (fun _ _ _ h => h) rfl (by intro w hSw; (try dsimp only at hSw); go_simp) (by assumption) ?_
                simp only [Act.put, List.setIfInBounds_toArray, List.set_cons_zero, List.set_cons_succ]
                refine take_yes 24 29 (.int .i64 (xu : Int)) rfl rfl (by kernel_rfl) (by kernel_rfl) (by kernel_rfl) (fun _ _ _ h => h) rfl (by intro w hSw; (try dsimp only at hSw); go_simp) (by assumption) ?_
                simp only [Act.put, List.setIfInBounds_toArray, List.set_cons_zero, List.set_cons_succ]
                refine take_yes 25 30 (.pointer (some ⟨w.heap.size, 1, none⟩)) rfl rfl (by kernel_rfl) (by kernel_rfl) (by kernel_rfl) (fun _ _ _ h => h) rfl (by intro w hSw; (try dsimp only at hSw); go_simp) (by assumption) ?_
                simp only [Act.put, List.setIfInBounds_toArray, List.set_cons_zero, List.set_cons_succ]
                refine take_yes 26 31 (.slice (some ⟨sb, so, none⟩) us.length cap5) rfl rfl (by kernel_rfl) (by kernel_rfl) (by kernel_rfl) (fun _ _ _ h => h) rfl (by intro w hSw; (try dsimp only at hSw); go_simp) (by assumption) ?_
                simp only [Act.put, List.setIfInBounds_toArray, List.set_cons_zero, List.set_cons_succ]
                refine take_yes 27 32 (.int .i64 us.length) rfl rfl (by kernel_rfl) (by kernel_rfl) (by kernel_rfl) (fun _ _ _ h => h) rfl (by intro w hSw; (try dsimp only at hSw); go_simp) (by assumption) ?_
                simp only [Act.put, List.setIfInBounds_toArray, List.set_cons_zero, List.set_cons_succ]
                refine take_yes 28 33 (.bool false) rfl rfl (by kernel_rfl) (by kernel_rfl) (by kernel_rfl) (fun _ _ _ h => h) rfl (by intro w hSw; (try dsimp only at hSw); go_simp) (by assumption) ?_
                simp only [Act.put, List.setIfInBounds_toArray, List.set_cons_zero, List.set_cons_succ]
                refine take_yes 29 34 (.bool false) rfl rfl (by kernel_rfl) (by kernel_rfl) (by kernel_rfl) (fun _ _ _ h => h) rfl (by intro w hSw; (try dsimp only at hSw); go_simp) (by assumption) ?_
                simp only [Act.put, List.setIfInBounds_toArray, List.set_cons_zero, List.set_cons_succ]
                refine take_yes 30 35 (.bool false) rfl rfl (by kernel_rfl) (by kernel_rfl) (by kernel_rfl) (fun _ _ _ h => h) rfl (by intro w hSw; (try dsimp only at hSw); go_simp) (by assumption) ?_
                simp only [Act.put, List.setIfInBounds_toArray, List.set_cons_zero, List.set_cons_succ]
                refine take_yes 31 36 (.pointer (some ⟨w.heap.size, 1, none⟩)) rfl rfl (by kernel_rfl) (by kernel_rfl) (by kernel_rfl) (fun _ _ _ h => h) rfl (by intro w hSw; (try dsimp only at hSw); go_simp) (by assumption) ?_
                simp only [Act.put, List.setIfInBounds_toArray, List.set_cons_zero, List.set_cons_succ]
                refine take_yes 32 37 (.slice (some ⟨sb, so, none⟩) us.length cap5) rfl rfl (by kernel_rfl) (by kernel_rfl) (by kernel_rfl) (fun _ _ _ h => h) rfl (by intro w hSw; (try dsimp only at hSw); go_simp) (by assumption) ?_
                simp only [Act.put, List.setIfInBounds_toArray, List.set_cons_zero, List.set_cons_succ]
                refine take_yes 33 38 (.pointer (some ⟨w.heap.size + 1, 3, none⟩)) rfl rfl (by kernel_rfl) (by kernel_rfl) (by kernel_rfl) (fun _ _ _ h => h) rfl (by intro w hSw; (try dsimp only at hSw); go_simp) (by assumption) ?_
                simp only [Act.put, List.setIfInBounds_toArray, List.set_cons_zero, List.set_cons_succ]
                refine take_yes 34 39 (.int .i64 (xu : Int)) rfl rfl (by kernel_rfl) (by kernel_rfl) (by kernel_rfl) (fun _ _ _ h => h) rfl (by intro w hSw; (try dsimp only at hSw); go_simp) (by assumption) ?_
                simp only [Act.put, List.setIfInBounds_toArray, List.set_cons_zero, List.set_cons_succ]
                refine take_yes 35 40 (.pointer (some ⟨sb, so + xu, none⟩)) rfl rfl (by kernel_rfl) (by kernel_rfl) (by kernel_rfl) (fun _ _ _ h => h) rfl (by intro w hSw; (try dsimp only at hSw); go_simp) (by assumption) ?_
                simp only [Act.put, List.setIfInBounds_toArray, List.set_cons_zero, List.set_cons_succ]
                refine take_yes 36 41 (.int .i64 yl) rfl rfl (by kernel_rfl) (by kernel_rfl) (by kernel_rfl) (fun _ _ _ h => h) rfl (by intro w hSw; (try dsimp only at hSw); go_simp) (by assumption) ?_
                simp only [Act.put, List.setIfInBounds_toArray, List.set_cons_zero, List.set_cons_succ]
                refine take_yes 37 42 (.pointer (some ⟨w.heap.size + 1, 4, none⟩)) rfl rfl (by kernel_rfl) (by kernel_rfl) (by kernel_rfl) (fun _ _ _ h => h) rfl (by intro w hSw; (try dsimp only at hSw); go_simp) (by assumption) ?_
                simp only [Act.put, List.setIfInBounds_toArray, List.set_cons_zero, List.set_cons_succ]
                refine take_yes 38 43 (.int .i64 xq) rfl rfl (by kernel_rfl) (by kernel_rfl) (by kernel_rfl) (fun _ _ _ h => h) rfl (by intro w hSw; (try dsimp only at hSw); go_simp) (by assumption) ?_
                simp only [Act.put, List.setIfInBounds_toArray, List.set_cons_zero, List.set_cons_succ]
                refine take_yes 39 44 (.bool false) rfl rfl (by kernel_rfl) (by kernel_rfl) (by kernel_rfl) (fun _ _ _ h => h) rfl (by intro w hSw; (try dsimp only at hSw); go_simp) (by assumption) ?_
                simp only [Act.put, List.setIfInBounds_toArray, List.set_cons_zero, List.set_cons_succ]
                refine take_yes 40 45 (.bool false) rfl rfl (by kernel_rfl) (by kernel_rfl) (by kernel_rfl) (fun _ _ _ h => h) rfl (by intro w hSw; (try dsimp only at hSw); go_simp) (by assumption) ?_
                simp only [Act.put, List.setIfInBounds_toArray, List.set_cons_zero, List.set_cons_succ]
                refine wpAnyH_done (by kernel_rfl) ?_ _
                go_wp2_with fail
                go_meet
                exact ⟨rfl, hg_10⟩
              case rest =>
                obtain ⟨rfl, HGR⟩ := hcut
                obtain ⟨w2, rfl⟩ : ∃ w2, w2 = wc := ⟨wc, rfl⟩
                have HB2 := hide (HB1.out.trans (HGR.out.mono HB1.out.size))
                have U2 := hide (U1.out.below HGR.out (Nat.le_refl _))
                have X2 := hide (HX1.out.below HGR.out (Nat.le_refl _))
                clear HK HGR U1 HX1
                have u4 := U2.out.get 4 rfl
                have x0 := X2.out.get 0 rfl
                have x2 := X2.out.get 2 rfl
                have HBQ := hide hbb
                clear hbb h2
                cases xs with
                | false =>
                  obtain rfl : true = b := by rw [HBQ.out]; rfl
                  go_wp2_with fail
                  go_ret
                  exact ⟨rfl, HB2.out⟩
                | true =>
                  by_cases hit : ui = xi
                  · have hit' : (ui == xi) = true := by simp [hit]
                    obtain rfl : true = b := by rw [HBQ.out, decide_eq_true hit]; rfl
                    clear hit
                    go_wp2_with fail
                    go_ret
                    exact ⟨rfl, HB2.out⟩
                  · have hit' : (ui == xi) = false := by simp [hit]
                    obtain rfl : false = b := by rw [HBQ.out, decide_eq_false hit]; rfl
                    clear hit
                    go_wp2_with fail
                    go_ret
                    exact ⟨rfl, HB2.out⟩
        · have hky' : (uy != xk) = true := by simp [hky]
          obtain rfl : false = b := by
            rw [← HB.out]
            unfold endsB hasC
            simp [hky]
          clear hky
          have HK : Hid (∀ w', Grew w1 w' → w'.cell? ⟨w.heap.size, 0, none⟩ = some (.int .i64 ua) ∧ w'.cell? ⟨w.heap.size, 1, none⟩ = some (.slice a5 us.length cap5) ∧ w'.cell? ⟨w.heap.size, 2, none⟩ = some (.int .i64 uk) ∧ w'.cell? ⟨w.heap.size, 3, none⟩ = some (.int .i64 uy) ∧ w'.cell? ⟨w.heap.size, 4, none⟩ = some (.int .i64 ui) ∧ w'.cell? ⟨w.heap.size + 1, 0, none⟩ = some (.bool xs) ∧ w'.cell? ⟨w.heap.size + 1, 1, none⟩ = some (.int .i64 xk) ∧ w'.cell? ⟨w.heap.size + 1, 2, none⟩ = some (.int .i64 xi) ∧ w'.cell? ⟨w.heap.size + 1, 3, none⟩ = some (.int .i64 (xu : Int)) ∧ w'.cell? ⟨w.heap.size + 1, 4, none⟩ = some (.int .i64 xq)) := fun w' hg => ⟨(U1.out.below hg (Nat.le_refl _)).get 0 rfl, (U1.out.below hg (Nat.le_refl _)).get 1 rfl, (U1.out.below hg (Nat.le_refl _)).get 2 rfl, (U1.out.below hg (Nat.le_refl _)).get 3 rfl, (U1.out.below hg (Nat.le_refl _)).get 4 rfl, (HX1.out.below hg (Nat.le_refl _)).get 0 rfl, (HX1.out.below hg (Nat.le_refl _)).get 1 rfl, (HX1.out.below hg (Nat.le_refl _)).get 2 rfl, (HX1.out.below hg (Nat.le_refl _)).get 3 rfl, (HX1.out.below hg (Nat.le_refl _)).get 4 rfl⟩
          go_enter Try.func38, Try.ntmps38
          go_upto_region 1 with fail
          rw [HW1.out]
          go_cut [45] (fun c wx => c = .bool true ∧ Hid (Grew w1 wx))
          case first =>
            refine wp_region_held_drew (S := fun w' => w'.cell? ⟨w.heap.size, 0, none⟩ = some (.int .i64 ua) ∧ w'.cell? ⟨w.heap.size, 1, none⟩ = some (.slice a5 us.length cap5) ∧ w'.cell? ⟨w.heap.size, 2, none⟩ = some (.int .i64 uk) ∧ w'.cell? ⟨w.heap.size, 3, none⟩ = some (.int .i64 uy) ∧ w'.cell? ⟨w.heap.size, 4, none⟩ = some (.int .i64 ui) ∧ w'.cell? ⟨w.heap.size + 1, 0, none⟩ = some (.bool xs) ∧ w'.cell? ⟨w.heap.size + 1, 1, none⟩ = some (.int .i64 xk) ∧ w'.cell? ⟨w.heap.size + 1, 2, none⟩ = some (.int .i64 xi) ∧ w'.cell? ⟨w.heap.size + 1, 3, none⟩ = some (.int .i64 (xu : Int)) ∧ w'.cell? ⟨w.heap.size + 1, 4, none⟩ = some (.int .i64 xq)) (by kernel_rfl) (HK.out _ (grew_drew (grew_refl _))) (fun hHeld => ?_)
            obtain ⟨wd, HWD⟩ : ∃ wd, Hid (w1.drew = wd) := ⟨_, rfl⟩
            have hgd : Grew w1 wd := by rw [← HWD.out]; exact grew_drew (grew_refl w1)
            rw [HWD.out] at hHeld ⊢
            refine take_yes 0 5 (.pointer (some ⟨w.heap.size, 2, none⟩)) rfl rfl (by kernel_rfl) (by kernel_rfl) (by kernel_rfl) (fun _ _ _ h => h) rfl (by intro w hSw; (try dsimp only at hSw); go_simp) (by assumption) ?_
            simp only [Act.put, List.setIfInBounds_toArray, List.set_cons_zero, List.set_cons_succ]
            refine take_yes 1 6 (.int .i64 uk) rfl rfl (by kernel_rfl) (by kernel_rfl) (by kernel_rfl) (fun _ _ _ h => h) rfl (by intro w hSw; (try dsimp only at hSw); go_simp) (by assumption) ?_
            simp only [Act.put, List.setIfInBounds_toArray, List.set_cons_zero, List.set_cons_succ]
            refine take_yes 2 7 (.bool false) rfl rfl (by kernel_rfl) (by kernel_rfl) (by kernel_rfl) (fun _ _ _ h => h) rfl (by intro w hSw; (try dsimp only at hSw); go_simp) (by assumption) ?_
            simp only [Act.put, List.setIfInBounds_toArray, List.set_cons_zero, List.set_cons_succ]
            refine take_yes 3 8 (.bool false) rfl rfl (by kernel_rfl) (by kernel_rfl) (by kernel_rfl) (fun _ _ _ h => h) rfl (by intro w hSw; (try dsimp only at hSw); go_simp) (by assumption) ?_
            simp only [Act.put, List.setIfInBounds_toArray, List.set_cons_zero, List.set_cons_succ]
            refine take_yes 4 9 (.pointer (some ⟨w.heap.size, 2, none⟩)) rfl rfl (by kernel_rfl) (by kernel_rfl) (by kernel_rfl) (fun _ _ _ h => h) rfl (by intro w hSw; (try dsimp only at hSw); go_simp) (by assumption) ?_
            simp only [Act.put, List.setIfInBounds_toArray, List.set_cons_zero, List.set_cons_succ]
            refine take_yes 5 10 (.int .i64 uk) rfl rfl (by kernel_rfl) (by kernel_rfl) (by kernel_rfl) (fun _ _ _ h => h) rfl (by intro w hSw; (try dsimp only at hSw); go_simp) (by assumption) ?_
            simp only [Act.put, List.setIfInBounds_toArray, List.set_cons_zero, List.set_cons_succ]
            refine take_yes 6 11 (.bool false) rfl rfl (by kernel_rfl) (by kernel_rfl) (by kernel_rfl) (fun _ _ _ h => h) rfl (by intro w hSw; (try dsimp only at hSw); go_simp) (by assumption) ?_
            simp only [Act.put, List.setIfInBounds_toArray, List.set_cons_zero, List.set_cons_succ]
            refine take_yes 7 12 (.bool false) rfl rfl (by kernel_rfl) (by kernel_rfl) (by kernel_rfl) (fun _ _ _ h => h) rfl (by intro w hSw; (try dsimp only at hSw); go_simp) (by assumption) ?_
            simp only [Act.put, List.setIfInBounds_toArray, List.set_cons_zero, List.set_cons_succ]
            refine take_yes 8 13 (.bool false) rfl rfl (by kernel_rfl) (by kernel_rfl) (by kernel_rfl) (fun _ _ _ h => h) rfl (by intro w hSw; (try dsimp only at hSw); go_simp) (by assumption) ?_
            simp only [Act.put, List.setIfInBounds_toArray, List.set_cons_zero, List.set_cons_succ]
            refine take_yes 9 14 (.agg #[.int .i64 ua, .slice a5 us.length cap5, .int .i64 uk, .int .i64 uy, .int .i64 ui]) rfl rfl (by kernel_rfl) (by kernel_rfl) (by kernel_rfl) (fun _ _ _ h => h) rfl (by intro w hSw; (try dsimp only at hSw); go_simp) (by assumption) ?_
            simp only [Act.put, List.setIfInBounds_toArray, List.set_cons_zero, List.set_cons_succ]
            refine take_yes 11 16 (.pointer (some ⟨w.heap.size + 1, 0, none⟩)) rfl rfl (by kernel_rfl) (by kernel_rfl) (by kernel_rfl) (fun _ _ _ h => h) rfl (by intro w hSw; (try dsimp only at hSw); go_simp) (by assumption) ?_
            simp only [Act.put, List.setIfInBounds_toArray, List.set_cons_zero, List.set_cons_succ]
            refine take_yes 12 17 (.bool xs) rfl rfl (by kernel_rfl) (by kernel_rfl) (by kernel_rfl) (fun _ _ _ h => h) rfl (by intro w hSw; (try dsimp only at hSw); go_simp) (by assumption) ?_
            simp only [Act.put, List.setIfInBounds_toArray, List.set_cons_zero, List.set_cons_succ]
            refine wpAnyH_ready (rs := [10]) (by kernel_rfl) (by simp) ?_
            refine (AllReadyH.cons (o := _) rfl (fun K hK => ?_) AllReadyH.nil)
            go_simp
            refine (sets_ref ua uk uy ui us a5 cap5 _).mono ?_
            rintro e w_10 ⟨rfl, hb_10⟩
            rw [HSB.out]
            have hg_10 : Grew w1 w_10 := grew_step hgd hb_10
            refine hK.out _ _ (HK.out _ hg_10) (fun _ => ?_)
            clear hK K
            try simp only [Act.put, List.setIfInBounds_toArray, List.set_cons_zero, List.set_cons_succ]
            refine take_yes 13 18 (.bool false) rfl rfl (by kernel_rfl) (by kernel_rfl) (by kernel_rfl) (fun _ _ _ h => h) rfl (by intro w hSw; (try dsimp only at hSw); go_simp) (by assumption) ?_
            simp only [Act.put, List.setIfInBounds_toArray, List.set_cons_zero, List.set_cons_succ]
            refine take_yes 14 19 (.bool false) rfl rfl (by kernel_rfl) (by kernel_rfl) (by kernel_rfl) (fun _ _ _ h => h) rfl (by intro w hSw; (try dsimp only at hSw); go_simp) (by assumption) ?_
            simp only [Act.put, List.setIfInBounds_toArray, List.set_cons_zero, List.set_cons_succ]
            refine take_yes 15 20 (.bool false) rfl rfl (by kernel_rfl) (by kernel_rfl) (by kernel_rfl) (fun _ _ _ h => h) rfl (by intro w hSw; (try dsimp only at hSw); go_simp) (by assumption) ?_
            simp only [Act.put, List.setIfInBounds_toArray, List.set_cons_zero, List.set_cons_succ]
            refine take_yes 16 21 (.pointer (some ⟨w.heap.size, 3, none⟩)) rfl rfl (by kernel_rfl) (by kernel_rfl) (by kernel_rfl) (fun _ _ _ h => h) rfl (by intro w hSw; (try dsimp only at hSw); go_simp) (by assumption) ?_
            simp only [Act.put, List.setIfInBounds_toArray, List.set_cons_zero, List.set_cons_succ]
            refine take_yes 17 22 (.int .i64 uy) rfl rfl (by kernel_rfl) (by kernel_rfl) (by kernel_rfl) (fun _ _ _ h => h) rfl (by intro w hSw; (try dsimp only at hSw); go_simp) (by assumption) ?_
            simp only [Act.put, List.setIfInBounds_toArray, List.set_cons_zero, List.set_cons_succ]
            refine take_yes 18 23 (.pointer (some ⟨w.heap.size + 1, 1, none⟩)) rfl rfl (by kernel_rfl) (by kernel_rfl) (by kernel_rfl) (fun _ _ _ h => h) rfl (by intro w hSw; (try dsimp only at hSw); go_simp) (by assumption) ?_
            simp only [Act.put, List.setIfInBounds_toArray, List.set_cons_zero, List.set_cons_succ]
            refine take_yes 19 24 (.int .i64 xk) rfl rfl (by kernel_rfl) (by kernel_rfl) (by kernel_rfl) (fun _ _ _ h => h) rfl (by intro w hSw; (try dsimp only at hSw); go_simp) (by assumption) ?_
            simp only [Act.put, List.setIfInBounds_toArray, List.set_cons_zero, List.set_cons_succ]
            refine take_yes 20 25 (.bool true) rfl rfl (by kernel_rfl) (by kernel_rfl) (by kernel_rfl) (fun _ _ _ h => h) rfl (by intro w hSw; (try dsimp only at hSw); go_simp) (by assumption) ?_
            simp only [Act.put, List.setIfInBounds_toArray, List.set_cons_zero, List.set_cons_succ]
            refine take_yes 21 26 (.bool true) rfl rfl (by kernel_rfl) (by kernel_rfl) (by kernel_rfl) (fun _ _ _ h => h) rfl (by intro w hSw; (try dsimp only at hSw); go_simp) (by assumption) ?_
            simp only [Act.put, List.setIfInBounds_toArray, List.set_cons_zero, List.set_cons_succ]
            refine take_yes 22 27 (.bool true) rfl rfl (by kernel_rfl) (by kernel_rfl) (by kernel_rfl) (fun _ _ _ h => h) rfl (by intro w hSw; (try dsimp only at hSw); go_simp) (by assumption) ?_
            simp only [Act.put, List.setIfInBounds_toArray, List.set_cons_zero, List.set_cons_succ]
            refine take_skip 23 28 rfl rfl (by kernel_rfl) (by kernel_rfl) (by kernel_rfl) (fun _ _ _ h => h) rfl (by assumption) ?_
            simp only [Act.put, List.setIfInBounds_toArray, List.set_cons_zero, List.set_cons_succ]
            refine take_skip 24 29 rfl rfl (by kernel_rfl) (by kernel_rfl) (by kernel_rfl) (fun _ _ _ h => h) rfl (by assumption) ?_
            simp only [Act.put, List.setIfInBounds_toArray, List.set_cons_zero, List.set_cons_succ]
            refine take_skip 25 30 rfl rfl (by kernel_rfl) (by kernel_rfl) (by kernel_rfl) (fun _ _ _ h => h) rfl (by assumption) ?_
            simp only [Act.put, List.setIfInBounds_toArray, List.set_cons_zero, List.set_cons_succ]
            refine take_skip 26 31 rfl rfl (by kernel_rfl) (by kernel_rfl) (by kernel_rfl) (fun _ _ _ h => h) rfl (by assumption) ?_
            simp only [Act.put, List.setIfInBounds_toArray, List.set_cons_zero, List.set_cons_succ]
            refine take_skip 27 32 rfl rfl (by kernel_rfl) (by kernel_rfl) (by kernel_rfl) (fun _ _ _ h => h) rfl (by assumption) ?_
            simp only [Act.put, List.setIfInBounds_toArray, List.set_cons_zero, List.set_cons_succ]
            refine take_skip 28 33 rfl rfl (by kernel_rfl) (by kernel_rfl) (by kernel_rfl) (fun _ _ _ h => h) rfl (by assumption) ?_
            simp only [Act.put, List.setIfInBounds_toArray, List.set_cons_zero, List.set_cons_succ]
            refine take_yes 29 34 (.bool true) rfl rfl (by kernel_rfl) (by kernel_rfl) (by kernel_rfl) (fun _ _ _ h => h) rfl (by intro w hSw; (try dsimp only at hSw); go_simp) (by assumption) ?_
            simp only [Act.put, List.setIfInBounds_toArray, List.set_cons_zero, List.set_cons_succ]
            refine take_yes 30 35 (.bool true) rfl rfl (by kernel_rfl) (by kernel_rfl) (by kernel_rfl) (fun _ _ _ h => h) rfl (by intro w hSw; (try dsimp only at hSw); go_simp) (by assumption) ?_
            simp only [Act.put, List.setIfInBounds_toArray, List.set_cons_zero, List.set_cons_succ]
            refine take_skip 31 36 rfl rfl (by kernel_rfl) (by kernel_rfl) (by kernel_rfl) (fun _ _ _ h => h) rfl (by assumption) ?_
            simp only [Act.put, List.setIfInBounds_toArray, List.set_cons_zero, List.set_cons_succ]
            refine take_skip 32 37 rfl rfl (by kernel_rfl) (by kernel_rfl) (by kernel_rfl) (fun _ _ _ h => h) rfl (by assumption) ?_
            simp only [Act.put, List.setIfInBounds_toArray, List.set_cons_zero, List.set_cons_succ]
            refine take_skip 33 38 rfl rfl (by kernel_rfl) (by kernel_rfl) (by kernel_rfl) (fun _ _ _ h => h) rfl (by assumption) ?_
            simp only [Act.put, List.setIfInBounds_toArray, List.set_cons_zero, List.set_cons_succ]
            refine take_skip 34 39 rfl rfl (by kernel_rfl) (by kernel_rfl) (by kernel_rfl) (fun _ _ _ h => h) rfl (by assumption) ?_
            simp only [Act.put, List.setIfInBounds_toArray, List.set_cons_zero, List.set_cons_succ]
            refine take_skip 35 40 rfl rfl (by kernel_rfl) (by kernel_rfl) (by kernel_rfl) (fun _ _ _ h => h) rfl (by assumption) ?_
            simp only [Act.put, List.setIfInBounds_toArray, List.set_cons_zero, List.set_cons_succ]
            refine take_skip 36 41 rfl rfl (by kernel_rfl) (by kernel_rfl) (by kernel_rfl) (fun _ _ _ h => h) rfl (by assumption) ?_
            simp only [Act.put, List.setIfInBounds_toArray, List.set_cons_zero, List.set_cons_succ]
            refine take_skip 37 42 rfl rfl (by kernel_rfl) (by kernel_rfl) (by kernel_rfl) (fun _ _ _ h => h) rfl (by assumption) ?_
            simp only [Act.put, List.setIfInBounds_toArray, List.set_cons_zero, List.set_cons_succ]
            refine take_skip 38 43 rfl rfl (by kernel_rfl) (by kernel_rfl) (by kernel_rfl) (fun _ _ _ h => h) rfl (by assumption) ?_
            simp only [Act.put, List.setIfInBounds_toArray, List.set_cons_zero, List.set_cons_succ]
            refine take_skip 39 44 rfl rfl (by kernel_rfl) (by kernel_rfl) (by kernel_rfl) (fun _ _ _ h => h) rfl (by assumption) ?_
            simp only [Act.put, List.setIfInBounds_toArray, List.set_cons_zero, List.set_cons_succ]
            refine take_yes 40 45 (.bool true) rfl rfl (by kernel_rfl) (by kernel_rfl) (by kernel_rfl) (fun _ _ _ h => h) rfl (by intro w hSw; (try dsimp only at hSw); go_simp) (by assumption) ?_
            simp only [Act.put, List.setIfInBounds_toArray, List.set_cons_zero, List.set_cons_succ]
            refine wpAnyH_done (by kernel_rfl) ?_ _
            go_wp2_with fail
            go_meet
            exact ⟨rfl, hg_10⟩
          case rest =>
            obtain ⟨rfl, HGR⟩ := hcut
            obtain ⟨w2, rfl⟩ : ∃ w2, w2 = wc := ⟨wc, rfl⟩
            have HB2 := hide (HB1.out.trans (HGR.out.mono HB1.out.size))
            have U2 := hide (U1.out.below HGR.out (Nat.le_refl _))
            have X2 := hide (HX1.out.below HGR.out (Nat.le_refl _))
            clear HK HGR U1 HX1
            go_wp2_with fail
            go_ret
            exact ⟨rfl, HB2.out⟩
      · have h2' : (sb0 != xs) = true := by simp [h2]
        obtain rfl : false = b := by
          rw [← HB.out]
          unfold endsB hasC
          rw [show (decide (uk = 4) == xs) = false by rw [← HS4.out]; simp [h2]]
          simp
        skip
        have HK : Hid (∀ w', Grew w1 w' → w'.cell? ⟨w.heap.size, 0, none⟩ = some (.int .i64 ua) ∧ w'.cell? ⟨w.heap.size, 1, none⟩ = some (.slice a5 us.length cap5) ∧ w'.cell? ⟨w.heap.size, 2, none⟩ = some (.int .i64 uk) ∧ w'.cell? ⟨w.heap.size, 3, none⟩ = some (.int .i64 uy) ∧ w'.cell? ⟨w.heap.size, 4, none⟩ = some (.int .i64 ui) ∧ w'.cell? ⟨w.heap.size + 1, 0, none⟩ = some (.bool xs) ∧ w'.cell? ⟨w.heap.size + 1, 1, none⟩ = some (.int .i64 xk) ∧ w'.cell? ⟨w.heap.size + 1, 2, none⟩ = some (.int .i64 xi) ∧ w'.cell? ⟨w.heap.size + 1, 3, none⟩ = some (.int .i64 (xu : Int)) ∧ w'.cell? ⟨w.heap.size + 1, 4, none⟩ = some (.int .i64 xq)) := fun w' hg => ⟨(U1.out.below hg (Nat.le_refl _)).get 0 rfl, (U1.out.below hg (Nat.le_refl _)).get 1 rfl, (U1.out.below hg (Nat.le_refl _)).get 2 rfl, (U1.out.below hg (Nat.le_refl _)).get 3 rfl, (U1.out.below hg (Nat.le_refl _)).get 4 rfl, (HX1.out.below hg (Nat.le_refl _)).get 0 rfl, (HX1.out.below hg (Nat.le_refl _)).get 1 rfl, (HX1.out.below hg (Nat.le_refl _)).get 2 rfl, (HX1.out.below hg (Nat.le_refl _)).get 3 rfl, (HX1.out.below hg (Nat.le_refl _)).get 4 rfl⟩
        go_enter Try.func38, Try.ntmps38
        go_upto_region 1 with fail
        rw [HW1.out]
        go_cut [45] (fun c wx => c = .bool true ∧ Hid (Grew w1 wx))
        case first =>
          refine wp_region_held_drew (S := fun w' => w'.cell? ⟨w.heap.size, 0, none⟩ = some (.int .i64 ua) ∧ w'.cell? ⟨w.heap.size, 1, none⟩ = some (.slice a5 us.length cap5) ∧ w'.cell? ⟨w.heap.size, 2, none⟩ = some (.int .i64 uk) ∧ w'.cell? ⟨w.heap.size, 3, none⟩ = some (.int .i64 uy) ∧ w'.cell? ⟨w.heap.size, 4, none⟩ = some (.int .i64 ui) ∧ w'.cell? ⟨w.heap.size + 1, 0, none⟩ = some (.bool xs) ∧ w'.cell? ⟨w.heap.size + 1, 1, none⟩ = some (.int .i64 xk) ∧ w'.cell? ⟨w.heap.size + 1, 2, none⟩ = some (.int .i64 xi) ∧ w'.cell? ⟨w.heap.size + 1, 3, none⟩ = some (.int .i64 (xu : Int)) ∧ w'.cell? ⟨w.heap.size + 1, 4, none⟩ = some (.int .i64 xq)) (by kernel_rfl) (HK.out _ (grew_drew (grew_refl _))) (fun hHeld => ?_)
          obtain ⟨wd, HWD⟩ : ∃ wd, Hid (w1.drew = wd) := ⟨_, rfl⟩
          have hgd : Grew w1 wd := by rw [← HWD.out]; exact grew_drew (grew_refl w1)
          rw [HWD.out] at hHeld ⊢
          refine take_yes 0 5 (.pointer (some ⟨w.heap.size, 2, none⟩)) rfl rfl (by kernel_rfl) (by kernel_rfl) (by kernel_rfl) (fun _ _ _ h => h) rfl (by intro w hSw; (try dsimp only at hSw); go_simp) (by assumption) ?_
          simp only [Act.put, List.setIfInBounds_toArray, List.set_cons_zero, List.set_cons_succ]
          refine take_yes 1 6 (.int .i64 uk) rfl rfl (by kernel_rfl) (by kernel_rfl) (by kernel_rfl) (fun _ _ _ h => h) rfl (by intro w hSw; (try dsimp only at hSw); go_simp) (by assumption) ?_
          simp only [Act.put, List.setIfInBounds_toArray, List.set_cons_zero, List.set_cons_succ]
          refine take_yes 2 7 (.bool false) rfl rfl (by kernel_rfl) (by kernel_rfl) (by kernel_rfl) (fun _ _ _ h => h) rfl (by intro w hSw; (try dsimp only at hSw); go_simp) (by assumption) ?_
          simp only [Act.put, List.setIfInBounds_toArray, List.set_cons_zero, List.set_cons_succ]
          refine take_yes 3 8 (.bool false) rfl rfl (by kernel_rfl) (by kernel_rfl) (by kernel_rfl) (fun _ _ _ h => h) rfl (by intro w hSw; (try dsimp only at hSw); go_simp) (by assumption) ?_
          simp only [Act.put, List.setIfInBounds_toArray, List.set_cons_zero, List.set_cons_succ]
          refine take_yes 4 9 (.pointer (some ⟨w.heap.size, 2, none⟩)) rfl rfl (by kernel_rfl) (by kernel_rfl) (by kernel_rfl) (fun _ _ _ h => h) rfl (by intro w hSw; (try dsimp only at hSw); go_simp) (by assumption) ?_
          simp only [Act.put, List.setIfInBounds_toArray, List.set_cons_zero, List.set_cons_succ]
          refine take_yes 5 10 (.int .i64 uk) rfl rfl (by kernel_rfl) (by kernel_rfl) (by kernel_rfl) (fun _ _ _ h => h) rfl (by intro w hSw; (try dsimp only at hSw); go_simp) (by assumption) ?_
          simp only [Act.put, List.setIfInBounds_toArray, List.set_cons_zero, List.set_cons_succ]
          refine take_yes 6 11 (.bool false) rfl rfl (by kernel_rfl) (by kernel_rfl) (by kernel_rfl) (fun _ _ _ h => h) rfl (by intro w hSw; (try dsimp only at hSw); go_simp) (by assumption) ?_
          simp only [Act.put, List.setIfInBounds_toArray, List.set_cons_zero, List.set_cons_succ]
          refine take_yes 7 12 (.bool false) rfl rfl (by kernel_rfl) (by kernel_rfl) (by kernel_rfl) (fun _ _ _ h => h) rfl (by intro w hSw; (try dsimp only at hSw); go_simp) (by assumption) ?_
          simp only [Act.put, List.setIfInBounds_toArray, List.set_cons_zero, List.set_cons_succ]
          refine take_yes 8 13 (.bool false) rfl rfl (by kernel_rfl) (by kernel_rfl) (by kernel_rfl) (fun _ _ _ h => h) rfl (by intro w hSw; (try dsimp only at hSw); go_simp) (by assumption) ?_
          simp only [Act.put, List.setIfInBounds_toArray, List.set_cons_zero, List.set_cons_succ]
          refine take_yes 9 14 (.agg #[.int .i64 ua, .slice a5 us.length cap5, .int .i64 uk, .int .i64 uy, .int .i64 ui]) rfl rfl (by kernel_rfl) (by kernel_rfl) (by kernel_rfl) (fun _ _ _ h => h) rfl (by intro w hSw; (try dsimp only at hSw); go_simp) (by assumption) ?_
          simp only [Act.put, List.setIfInBounds_toArray, List.set_cons_zero, List.set_cons_succ]
          refine take_yes 11 16 (.pointer (some ⟨w.heap.size + 1, 0, none⟩)) rfl rfl (by kernel_rfl) (by kernel_rfl) (by kernel_rfl) (fun _ _ _ h => h) rfl (by intro w hSw; (try dsimp only at hSw); go_simp) (by assumption) ?_
          simp only [Act.put, List.setIfInBounds_toArray, List.set_cons_zero, List.set_cons_succ]
          refine take_yes 12 17 (.bool xs) rfl rfl (by kernel_rfl) (by kernel_rfl) (by kernel_rfl) (fun _ _ _ h => h) rfl (by intro w hSw; (try dsimp only at hSw); go_simp) (by assumption) ?_
          simp only [Act.put, List.setIfInBounds_toArray, List.set_cons_zero, List.set_cons_succ]
          refine wpAnyH_ready (rs := [10]) (by kernel_rfl) (by simp) ?_
          refine (AllReadyH.cons (o := _) rfl (fun K hK => ?_) AllReadyH.nil)
          go_simp
          refine (sets_ref ua uk uy ui us a5 cap5 _).mono ?_
          rintro e w_10 ⟨rfl, hb_10⟩
          rw [HSB.out]
          have hg_10 : Grew w1 w_10 := grew_step hgd hb_10
          refine hK.out _ _ (HK.out _ hg_10) (fun _ => ?_)
          clear hK K
          try simp only [Act.put, List.setIfInBounds_toArray, List.set_cons_zero, List.set_cons_succ]
          refine take_yes 13 18 (.bool true) rfl rfl (by kernel_rfl) (by kernel_rfl) (by kernel_rfl) (fun _ _ _ h => h) rfl (by intro w hSw; (try dsimp only at hSw); go_simp) (by assumption) ?_
          simp only [Act.put, List.setIfInBounds_toArray, List.set_cons_zero, List.set_cons_succ]
          refine take_yes 14 19 (.bool true) rfl rfl (by kernel_rfl) (by kernel_rfl) (by kernel_rfl) (fun _ _ _ h => h) rfl (by intro w hSw; (try dsimp only at hSw); go_simp) (by assumption) ?_
          simp only [Act.put, List.setIfInBounds_toArray, List.set_cons_zero, List.set_cons_succ]
          refine take_yes 15 20 (.bool true) rfl rfl (by kernel_rfl) (by kernel_rfl) (by kernel_rfl) (fun _ _ _ h => h) rfl (by intro w hSw; (try dsimp only at hSw); go_simp) (by assumption) ?_
          simp only [Act.put, List.setIfInBounds_toArray, List.set_cons_zero, List.set_cons_succ]
          refine take_skip 16 21 rfl rfl (by kernel_rfl) (by kernel_rfl) (by kernel_rfl) (fun _ _ _ h => h) rfl (by assumption) ?_
          simp only [Act.put, List.setIfInBounds_toArray, List.set_cons_zero, List.set_cons_succ]
          refine take_skip 17 22 rfl rfl (by kernel_rfl) (by kernel_rfl) (by kernel_rfl) (fun _ _ _ h => h) rfl (by assumption) ?_
          simp only [Act.put, List.setIfInBounds_toArray, List.set_cons_zero, List.set_cons_succ]
          refine take_skip 18 23 rfl rfl (by kernel_rfl) (by kernel_rfl) (by kernel_rfl) (fun _ _ _ h => h) rfl (by assumption) ?_
          simp only [Act.put, List.setIfInBounds_toArray, List.set_cons_zero, List.set_cons_succ]
          refine take_skip 19 24 rfl rfl (by kernel_rfl) (by kernel_rfl) (by kernel_rfl) (fun _ _ _ h => h) rfl (by assumption) ?_
          simp only [Act.put, List.setIfInBounds_toArray, List.set_cons_zero, List.set_cons_succ]
          refine take_skip 20 25 rfl rfl (by kernel_rfl) (by kernel_rfl) (by kernel_rfl) (fun _ _ _ h => h) rfl (by assumption) ?_
          simp only [Act.put, List.setIfInBounds_toArray, List.set_cons_zero, List.set_cons_succ]
          refine take_yes 21 26 (.bool true) rfl rfl (by kernel_rfl) (by kernel_rfl) (by kernel_rfl) (fun _ _ _ h => h) rfl (by intro w hSw; (try dsimp only at hSw); go_simp) (by assumption) ?_
          simp only [Act.put, List.setIfInBounds_toArray, List.set_cons_zero, List.set_cons_succ]
          refine take_yes 22 27 (.bool true) rfl rfl (by kernel_rfl) (by kernel_rfl) (by kernel_rfl) (fun _ _ _ h => h) rfl (by intro w hSw; (try dsimp only at hSw); go_simp) (by assumption) ?_
          simp only [Act.put, List.setIfInBounds_toArray, List.set_cons_zero, List.set_cons_succ]
          refine take_skip 23 28 rfl rfl (by kernel_rfl) (by kernel_rfl) (by kernel_rfl) (fun _ _ _ h => h) rfl (by assumption) ?_
          simp only [Act.put, List.setIfInBounds_toArray, List.set_cons_zero, List.set_cons_succ]
          refine take_skip 24 29 rfl rfl (by kernel_rfl) (by kernel_rfl) (by kernel_rfl) (fun _ _ _ h => h) rfl (by assumption) ?_
          simp only [Act.put, List.setIfInBounds_toArray, List.set_cons_zero, List.set_cons_succ]
          refine take_skip 25 30 rfl rfl (by kernel_rfl) (by kernel_rfl) (by kernel_rfl) (fun _ _ _ h => h) rfl (by assumption) ?_
          simp only [Act.put, List.setIfInBounds_toArray, List.set_cons_zero, List.set_cons_succ]
          refine take_skip 26 31 rfl rfl (by kernel_rfl) (by kernel_rfl) (by kernel_rfl) (fun _ _ _ h => h) rfl (by assumption) ?_
          simp only [Act.put, List.setIfInBounds_toArray, List.set_cons_zero, List.set_cons_succ]
          refine take_skip 27 32 rfl rfl (by kernel_rfl) (by kernel_rfl) (by kernel_rfl) (fun _ _ _ h => h) rfl (by assumption) ?_
          simp only [Act.put, List.setIfInBounds_toArray, List.set_cons_zero, List.set_cons_succ]
          refine take_skip 28 33 rfl rfl (by kernel_rfl) (by kernel_rfl) (by kernel_rfl) (fun _ _ _ h => h) rfl (by assumption) ?_
          simp only [Act.put, List.setIfInBounds_toArray, List.set_cons_zero, List.set_cons_succ]
          refine take_yes 29 34 (.bool true) rfl rfl (by kernel_rfl) (by kernel_rfl) (by kernel_rfl) (fun _ _ _ h => h) rfl (by intro w hSw; (try dsimp only at hSw); go_simp) (by assumption) ?_
          simp only [Act.put, List.setIfInBounds_toArray, List.set_cons_zero, List.set_cons_succ]
          refine take_yes 30 35 (.bool true) rfl rfl (by kernel_rfl) (by kernel_rfl) (by kernel_rfl) (fun _ _ _ h => h) rfl (by intro w hSw; (try dsimp only at hSw); go_simp) (by assumption) ?_
          simp only [Act.put, List.setIfInBounds_toArray, List.set_cons_zero, List.set_cons_succ]
          refine take_skip 31 36 rfl rfl (by kernel_rfl) (by kernel_rfl) (by kernel_rfl) (fun _ _ _ h => h) rfl (by assumption) ?_
          simp only [Act.put, List.setIfInBounds_toArray, List.set_cons_zero, List.set_cons_succ]
          refine take_skip 32 37 rfl rfl (by kernel_rfl) (by kernel_rfl) (by kernel_rfl) (fun _ _ _ h => h) rfl (by assumption) ?_
          simp only [Act.put, List.setIfInBounds_toArray, List.set_cons_zero, List.set_cons_succ]
          refine take_skip 33 38 rfl rfl (by kernel_rfl) (by kernel_rfl) (by kernel_rfl) (fun _ _ _ h => h) rfl (by assumption) ?_
          simp only [Act.put, List.setIfInBounds_toArray, List.set_cons_zero, List.set_cons_succ]
          refine take_skip 34 39 rfl rfl (by kernel_rfl) (by kernel_rfl) (by kernel_rfl) (fun _ _ _ h => h) rfl (by assumption) ?_
          simp only [Act.put, List.setIfInBounds_toArray, List.set_cons_zero, List.set_cons_succ]
          refine take_skip 35 40 rfl rfl (by kernel_rfl) (by kernel_rfl) (by kernel_rfl) (fun _ _ _ h => h) rfl (by assumption) ?_
          simp only [Act.put, List.setIfInBounds_toArray, List.set_cons_zero, List.set_cons_succ]
          refine take_skip 36 41 rfl rfl (by kernel_rfl) (by kernel_rfl) (by kernel_rfl) (fun _ _ _ h => h) rfl (by assumption) ?_
          simp only [Act.put, List.setIfInBounds_toArray, List.set_cons_zero, List.set_cons_succ]
          refine take_skip 37 42 rfl rfl (by kernel_rfl) (by kernel_rfl) (by kernel_rfl) (fun _ _ _ h => h) rfl (by assumption) ?_
          simp only [Act.put, List.setIfInBounds_toArray, List.set_cons_zero, List.set_cons_succ]
          refine take_skip 38 43 rfl rfl (by kernel_rfl) (by kernel_rfl) (by kernel_rfl) (fun _ _ _ h => h) rfl (by assumption) ?_
          simp only [Act.put, List.setIfInBounds_toArray, List.set_cons_zero, List.set_cons_succ]
          refine take_skip 39 44 rfl rfl (by kernel_rfl) (by kernel_rfl) (by kernel_rfl) (fun _ _ _ h => h) rfl (by assumption) ?_
          simp only [Act.put, List.setIfInBounds_toArray, List.set_cons_zero, List.set_cons_succ]
          refine take_yes 40 45 (.bool true) rfl rfl (by kernel_rfl) (by kernel_rfl) (by kernel_rfl) (fun _ _ _ h => h) rfl (by intro w hSw; (try dsimp only at hSw); go_simp) (by assumption) ?_
          simp only [Act.put, List.setIfInBounds_toArray, List.set_cons_zero, List.set_cons_succ]
          refine wpAnyH_done (by kernel_rfl) ?_ _
          go_wp2_with fail
          go_meet
          exact ⟨rfl, hg_10⟩
        case rest =>
          obtain ⟨rfl, HGR⟩ := hcut
          obtain ⟨w2, rfl⟩ : ∃ w2, w2 = wc := ⟨wc, rfl⟩
          have HB2 := hide (HB1.out.trans (HGR.out.mono HB1.out.size))
          have U2 := hide (U1.out.below HGR.out (Nat.le_refl _))
          have X2 := hide (HX1.out.below HGR.out (Nat.le_refl _))
          clear HK HGR U1 HX1
          go_wp2_with fail
          go_ret
          exact ⟨rfl, HB2.out⟩

set_option maxRecDepth 100000 in
set_option maxHeartbeats 2000000 in
theorem stays_ref (xs : Bool) (xk xi xq : Int) (xu : Nat) (lv : Value) (l : List Upd) (w : World) (h : LogV w lv l) (hk : ∀ u ∈ l, 1 ≤ u.kind ∧ u.kind ≤ 5) :
    Calls Try.prog 37 #[.agg #[.bool xs, .int .i64 xk, .int .i64 xi, .int .i64 (xu : Int), .int .i64 xq], lv] w fun e w' => e = .returned (.bool (l.all fun u => !endsB u ⟨xs, xk, xi, xu, xq⟩)) ∧ Below w.heap.size w w' := by
  have hlen := h.len_le
  have LW := hide h
  have HKK := hide hk
  obtain ⟨a, cap, rfl, -, -, -⟩ := id h
  obtain ⟨b, HB⟩ : ∃ b, Hid ((l.all fun u => !endsB u ⟨xs, xk, xi, xu, xq⟩) = b) := ⟨_, rfl⟩
  rw [HB.out]
  have X1 := hide (Box.new w [.bool xs, .int .i64 xk, .int .i64 xi, .int .i64 (xu : Int), .int .i64 xq] 52)
  have HB1 := hide (Below.plus (Below.refl w.heap.size w) (.cells #[.bool xs, .int .i64 xk, .int .i64 xi, .int .i64 (xu : Int), .int .i64 xq] 52))
  obtain ⟨w1, HW1⟩ : ∃ W, Hid (w.alloc (.cells #[.bool xs, .int .i64 xk, .int .i64 xi, .int .i64 (xu : Int), .int .i64 xq] 52) = W) := ⟨_, rfl⟩
  rw [HW1.out] at X1 HB1
  clear h hk
  go_enter Try.func37, Try.ntmps37
  go_upto_region 1 with fail
  rw [HW1.out]
  go_wp2_with fail
  go_loopw [9] (fun i wr => ∃ k : Nat, k ≤ l.length ∧ i = .int .i64 k ∧ Hid (∀ u ∈ l.take k, endsB u ⟨xs, xk, xi, xu, xq⟩ = false) ∧ Hid (Below w1.heap.size w1 wr)) (fun i _ => l.length - (intOf i).toNat)
  case atStart => exact ⟨0, Nat.zero_le _, rfl, fun u hu => by simp at hu, hide (Below.refl _ _)⟩
  case round =>
    obtain ⟨k, hk, rfl, HN, HB2⟩ := hrel
    obtain ⟨w2, rfl⟩ : ∃ w2, w2 = wr := ⟨wr, rfl⟩
    have HBW := hide (HB1.out.trans (HB2.out.mono HB1.out.size))
    by_cases hlt : k < l.length
    · have hlt' : (k : Int) < (l.length : Int) := by omega
      obtain ⟨u, HU⟩ : ∃ u, Hid (l[k]? = some u) := ⟨_, List.getElem?_eq_getElem hlt⟩
      have HKU := hide (HKK.out u (List.mem_of_getElem? HU.out))
      obtain ⟨ub, uo, a5, cap5, hba, d0, d1, d2, d3, d4, hsv, -⟩ := (LW.out.below HBW.out (Nat.le_refl _)).at HU.out
      subst hba
      obtain ⟨ua, us, uk, uy, ui⟩ := u
      have hbp := Below.plus (Below.refl w2.heap.size w2) (.cells #[.int .i64 ua, .slice a5 us.length cap5, .int .i64 uk, .int .i64 uy, .int .i64 ui] 47)
      have U3 := hide (Box.new w2 [.int .i64 ua, .slice a5 us.length cap5, .int .i64 uk, .int .i64 uy, .int .i64 ui] 47)
      have X3 := hide ((X1.out.below HB2.out (Nat.le_refl _)).below hbp (Nat.le_refl _))
      have S3 := hide (hsv.below hbp (Nat.le_refl _))
      have HB3 := hide (below_step HB2.out hbp)
      obtain ⟨gu, HGU⟩ : ∃ gu, Hid (w2.heap.size = gu) := ⟨_, rfl⟩
      obtain ⟨w3, HW3⟩ : ∃ W, Hid (w2.alloc (.cells #[.int .i64 ua, .slice a5 us.length cap5, .int .i64 uk, .int .i64 uy, .int .i64 ui] 47) = W) := ⟨_, rfl⟩
      rw [HW3.out] at U3 X3 S3 HB3
      rw [HGU.out] at U3
      clear hbp hsv
      go_upto_region 4 with fail
      rw [HW3.out, HGU.out]
      clear d0 d1 d2 d3 d4
      have u0 := U3.out.get 0 rfl
      have x0 := X3.out.get 0 rfl
      have u1 := U3.out.get 1 rfl
      have x1 := X3.out.get 1 rfl
      have u2 := U3.out.get 2 rfl
      have x2 := X3.out.get 2 rfl
      have u3 := U3.out.get 3 rfl
      have x3 := X3.out.get 3 rfl
      have u4 := U3.out.get 4 rfl
      have x4 := X3.out.get 4 rfl
      go_wp2_with fail
      refine (ends_ref ua uk uy ui us a5 cap5 xs xk xi xq xu _ S3.out HKU.out).mono ?_
      rintro e w4 ⟨rfl, hb4⟩
      have HB4 := hide (below_step HB3.out hb4)
      have HB5 := hide (HB1.out.trans (HB4.out.mono HB1.out.size))
      clear u0 u1 u2 u3 u4 x0 x1 x2 x3 x4 hb4
      obtain ⟨c, HC⟩ : ∃ c, Hid (endsB ⟨ua, us, uk, uy, ui⟩ ⟨xs, xk, xi, xu, xq⟩ = c) := ⟨_, rfl⟩
      rw [HC.out]
      cases c with
      | true =>
        obtain rfl : false = b := by
          rw [← HB.out]
          exact (List.all_eq_false.2 ⟨_, List.mem_of_getElem? HU.out, by simp [HC.out]⟩).symm
        go_wp2_with fail
        go_ret
        exact ⟨rfl, HB5.out⟩
      | false =>
        have HN1 : Hid (∀ v ∈ l.take (k + 1), endsB v ⟨xs, xk, xi, xu, xq⟩ = false) := fun v hv => by
          rw [take_one HU.out] at hv
          rcases List.mem_append.1 hv with hv | hv
          · exact HN.out v hv
          · rw [List.mem_singleton.1 hv]; exact HC.out
        go_wp2_with fail
        go_roundw
        case rel => exact ⟨k + 1, by omega, by go_num, HN1, HB4⟩
        case measure => simp [intOf]; omega
    · have hlt' : ¬ (k : Int) < (l.length : Int) := by omega
      have hkl : l.take k = l := List.take_of_length_le (by omega)
      rw [hkl] at HN
      obtain rfl : true = b := by
        rw [← HB.out]
        exact (List.all_eq_true.2 fun u hu => by simp [HN.out u hu]).symm
      clear hkl
      go_wp2_with fail
      go_ret
      exact ⟨rfl, HBW.out⟩
end Go.Proofs.Ytalglngjafkdjaa
