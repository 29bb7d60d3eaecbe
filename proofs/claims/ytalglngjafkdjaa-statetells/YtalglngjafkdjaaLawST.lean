/- StateTells: the program's states and the document's own, walked. -/
import Derived.Test.YtalglngjafkdjaaRfP
import Derived.Test.YtalglngjafkdjaaRfR
namespace Go.Proofs.Ytalglngjafkdjaa
open Go.RowKit

theorem ViewR.form {w : World} {v : Value} {x : Vw} (h : ViewR w v x) : ∃ a1 c1 a2 c2 a3 c3, v = .agg #[.slice a1 x.regs.length c1, .slice a2 x.sets.length c2, .slice a3 x.cnts.length c3] := by
  obtain ⟨rv, sv, cv, h1, ⟨a1, c1, rfl, -⟩, ⟨a2, c2, rfl, -⟩, ⟨a3, c3, rfl, -⟩⟩ := h
  exact ⟨a1, c1, a2, c2, a3, c3, h1⟩

set_option maxRecDepth 100000 in
set_option maxHeartbeats 4000000 in
theorem state_tells (v ul : Value) (s : StS) (n : Int) (l : List Upd) (w : World) (h : IsSt w v s) (hl : LogV w ul l) :
    Calls Try.prog 3 #[v, .int .i64 n, ul] w fun e w' => e = .returned (.bool true) ∧ Below w.heap.size w w' := by
  have hin := h
  obtain ⟨cv, lv, tv, rfl, hc, hv, ht⟩ := h
  obtain ⟨a1, c1, rfl, -, -, -⟩ := id hc
  obtain ⟨a2, c2, rfl, -, -, -⟩ := id hv
  obtain ⟨a3, c3, rfl, -, -, -⟩ := id ht
  obtain ⟨a4, cap4, rfl, hcap4, -, -⟩ := id hl
  have hlen := hl.len_le
  have hbl := Below.plus (Below.refl w.heap.size w) (.cells #[.slice a1 s.clock.length c1, .slice a2 s.lives.length c2, .slice a3 s.tals.length c3] 27)
  have S1 := hide (hin.below hbl (Nat.le_refl _))
  have U1 := hide (hl.below hbl (Nat.le_refl _))
  have A1 := hide (Box.new w [.slice a1 s.clock.length c1, .slice a2 s.lives.length c2, .slice a3 s.tals.length c3] 27)
  have HB1 := hide hbl
  clear hin hc hv ht hl hbl
  obtain ⟨w1, HW1⟩ : ∃ W, Hid (w.alloc (.cells #[.slice a1 s.clock.length c1, .slice a2 s.lives.length c2, .slice a3 s.tals.length c3] 27) = W) := ⟨_, rfl⟩
  rw [HW1.out] at S1 U1 A1 HB1
  obtain ⟨E, HE⟩ : ∃ E, Hid (stE s n = E) := ⟨_, rfl⟩
  obtain ⟨A, HA⟩ : ∃ A, Hid (stA s n = A) := ⟨_, rfl⟩
  obtain ⟨PE, HPE⟩ : ∃ E, Hid (playE s l = E) := ⟨_, rfl⟩
  obtain ⟨PA, HPA⟩ : ∃ E, Hid (playA s l = E) := ⟨_, rfl⟩
  obtain ⟨X, HPX⟩ : ∃ E, Hid (playX s l = E) := ⟨_, rfl⟩
  obtain ⟨RE, HRE⟩ : ∃ E, Hid (stE s s.clock.length = E) := ⟨_, rfl⟩
  obtain ⟨RA, HRA⟩ : ∃ E, Hid (stA s s.clock.length = E) := ⟨_, rfl⟩
  obtain ⟨V, HV⟩ : ∃ E, Hid (readX s = E) := ⟨_, rfl⟩
  go_enter Try.func3, Try.ntmps3
  go_upto_region 1 with fail
  rw [HW1.out]
  have HK1 : Hid (∀ w', Grew w1 w' → w'.cell? ⟨w.heap.size, 0, none⟩ = some (.slice a1 s.clock.length c1) ∧ w'.cell? ⟨w.heap.size, 1, none⟩ = some (.slice a2 s.lives.length c2) ∧ w'.cell? ⟨w.heap.size, 2, none⟩ = some (.slice a3 s.tals.length c3)) := fun w' hg => ⟨(A1.out.below hg (Nat.le_refl _)).get 0 rfl, (A1.out.below hg (Nat.le_refl _)).get 1 rfl, (A1.out.below hg (Nat.le_refl _)).get 2 rfl⟩
  go_cut [22] (fun c wx => c = .bool false ∧ Hid (Grew w1 wx))
  case first =>
    refine wp_region_held_drew (S := fun w' => w'.cell? ⟨w.heap.size, 0, none⟩ = some (.slice a1 s.clock.length c1) ∧ w'.cell? ⟨w.heap.size, 1, none⟩ = some (.slice a2 s.lives.length c2) ∧ w'.cell? ⟨w.heap.size, 2, none⟩ = some (.slice a3 s.tals.length c3)) (by kernel_rfl) (HK1.out _ (grew_drew (grew_refl _))) (fun hHeld => ?_)
    obtain ⟨wd, HWD⟩ : ∃ wd, Hid (w1.drew = wd) := ⟨_, rfl⟩
    have hgd : Grew w1 wd := by rw [← HWD.out]; exact grew_drew (grew_refl w1)
    rw [HWD.out] at hHeld ⊢
    refine take_yes 0 16 (.agg #[.slice a1 s.clock.length c1, .slice a2 s.lives.length c2, .slice a3 s.tals.length c3]) rfl rfl (by kernel_rfl) (by kernel_rfl) (by kernel_rfl) (fun _ _ _ h => h) rfl (by intro w hSw; (try dsimp only at hSw); go_simp) (by assumption) ?_
    simp only [Act.put, List.setIfInBounds_toArray, List.set_cons_zero, List.set_cons_succ]
    refine take_yes 1 17 (.int .i64 n) rfl rfl (by kernel_rfl) (by kernel_rfl) (by kernel_rfl) (fun _ _ _ h => h) rfl (by intro w hSw; (try dsimp only at hSw); go_simp) (by assumption) ?_
    simp only [Act.put, List.setIfInBounds_toArray, List.set_cons_zero, List.set_cons_succ]
    refine take_yes 3 19 (.agg #[.slice a1 s.clock.length c1, .slice a2 s.lives.length c2, .slice a3 s.tals.length c3]) rfl rfl (by kernel_rfl) (by kernel_rfl) (by kernel_rfl) (fun _ _ _ h => h) rfl (by intro w hSw; (try dsimp only at hSw); go_simp) (by assumption) ?_
    simp only [Act.put, List.setIfInBounds_toArray, List.set_cons_zero, List.set_cons_succ]
    refine take_yes 4 20 (.int .i64 n) rfl rfl (by kernel_rfl) (by kernel_rfl) (by kernel_rfl) (fun _ _ _ h => h) rfl (by intro w hSw; (try dsimp only at hSw); go_simp) (by assumption) ?_
    simp only [Act.put, List.setIfInBounds_toArray, List.set_cons_zero, List.set_cons_succ]
    refine wpAnyH_ready (rs := [2]) (by kernel_rfl) (by simp) ?_
    refine (AllReadyH.cons (o := _) rfl (fun K hK => ?_) AllReadyH.nil)
    go_simp
    refine (wrong_state _ s n _ (S1.out.below hgd (Nat.le_refl _))).mono ?_
    rintro e w_2 ⟨rfl, hb_2⟩
    rw [HE.out, HA.out]
    have hg_2 : Grew w1 w_2 := grew_step hgd hb_2
    refine hK.out _ _ (HK1.out _ hg_2) (fun _ => ?_)
    clear hK K
    try simp only [Act.put, List.setIfInBounds_toArray, List.set_cons_zero, List.set_cons_succ]
    refine wpAnyH_ready (rs := [5]) (by kernel_rfl) (by simp) ?_
    refine (AllReadyH.cons (o := _) rfl (fun K hK => ?_) AllReadyH.nil)
    go_simp
    refine (wrong_ref4 _ s n _ (S1.out.below hg_2 (Nat.le_refl _))).mono ?_
    rintro e w_2_5 ⟨rfl, hb_2_5⟩
    rw [HE.out, HA.out]
    have hg_2_5 : Grew w1 w_2_5 := grew_step hg_2 hb_2_5
    refine hK.out _ _ (HK1.out _ hg_2_5) (fun _ => ?_)
    clear hK K
    try simp only [Act.put, List.setIfInBounds_toArray, List.set_cons_zero, List.set_cons_succ]
    refine take_yes 6 22 (.bool false) rfl rfl (by kernel_rfl) (by kernel_rfl) (by kernel_rfl) (fun _ _ _ h => h) rfl (by intro w hSw; (try dsimp only at hSw); go_simp) (by assumption) ?_
    simp only [Act.put, List.setIfInBounds_toArray, List.set_cons_zero, List.set_cons_succ]
    refine wpAnyH_done (by kernel_rfl) ?_ _
    go_wp2_with fail
    go_meet
    exact ⟨rfl, hg_2_5⟩
  case rest =>
    obtain ⟨rfl, HG2⟩ := hcut
    obtain ⟨w2, rfl⟩ : ∃ w2, w2 = wc := ⟨wc, rfl⟩
    have HK3 : Hid (∀ w', Grew w2 w' → True) := fun _ _ => trivial
    go_upto_region 3 with fail
    go_cut [37] (fun c wx => c = .bool false ∧ Hid (Grew w2 wx))
    case first =>
      by_cases h0 : 0 ≤ n
      · by_cases h6 : n ≤ 6
        · obtain ⟨k, rfl⟩ : ∃ k : Nat, n = k := ⟨n.toNat, by omega⟩
          have hk : k ≤ 6 := by omega
          have h0' : (0 : Int) ≤ (k : Int) := h0
          have h6' : (k : Int) ≤ 6 := h6
          obtain ⟨cs, HCS⟩ : ∃ cs, Hid (madeCells #[.int .i64 0] k = cs) := ⟨_, rfl⟩
          refine wp_region_held_drew (S := fun w' => True) (by kernel_rfl) (HK3.out _ (grew_drew (grew_refl _))) (fun hHeld => ?_)
          obtain ⟨wd, HWD⟩ : ∃ wd, Hid (w2.drew = wd) := ⟨_, rfl⟩
          have hgd : Grew w2 wd := by rw [← HWD.out]; exact grew_drew (grew_refl w2)
          rw [HWD.out]
          refine take_yes 0 23 (.int .i64 (k : Int)) rfl rfl (by kernel_rfl) (by kernel_rfl) (by kernel_rfl) (fun _ _ _ h => h) rfl (by intro w hSw; (try dsimp only at hSw); go_simp) (by assumption) ?_
          simp only [Act.put, List.setIfInBounds_toArray, List.set_cons_zero, List.set_cons_succ]
          refine take_yes 1 24 (.bool true) rfl rfl (by kernel_rfl) (by kernel_rfl) (by kernel_rfl) (fun _ _ _ h => h) rfl (by intro w hSw; (try dsimp only at hSw); go_simp) (by assumption) ?_
          simp only [Act.put, List.setIfInBounds_toArray, List.set_cons_zero, List.set_cons_succ]
          refine take_yes 2 25 (.bool true) rfl rfl (by kernel_rfl) (by kernel_rfl) (by kernel_rfl) (fun _ _ _ h => h) rfl (by intro w hSw; (try dsimp only at hSw); go_simp) (by assumption) ?_
          simp only [Act.put, List.setIfInBounds_toArray, List.set_cons_zero, List.set_cons_succ]
          refine take_yes 3 26 (.int .i64 (k : Int)) rfl rfl (by kernel_rfl) (by kernel_rfl) (by kernel_rfl) (fun _ _ _ h => h) rfl (by intro w hSw; (try dsimp only at hSw); go_simp) (by assumption) ?_
          simp only [Act.put, List.setIfInBounds_toArray, List.set_cons_zero, List.set_cons_succ]
          refine take_yes 4 27 (.bool true) rfl rfl (by kernel_rfl) (by kernel_rfl) (by kernel_rfl) (fun _ _ _ h => h) rfl (by intro w hSw; (try dsimp only at hSw); go_simp) (by assumption) ?_
          simp only [Act.put, List.setIfInBounds_toArray, List.set_cons_zero, List.set_cons_succ]
          refine take_yes 5 28 (.bool true) rfl rfl (by kernel_rfl) (by kernel_rfl) (by kernel_rfl) (fun _ _ _ h => h) rfl (by intro w hSw; (try dsimp only at hSw); go_simp) (by assumption) ?_
          simp only [Act.put, List.setIfInBounds_toArray, List.set_cons_zero, List.set_cons_succ]
          refine take_yes 6 29 (.bool true) rfl rfl (by kernel_rfl) (by kernel_rfl) (by kernel_rfl) (fun _ _ _ h => h) rfl (by intro w hSw; (try dsimp only at hSw); go_simp) (by assumption) ?_
          simp only [Act.put, List.setIfInBounds_toArray, List.set_cons_zero, List.set_cons_succ]
          refine take_yes 7 30 (.int .i64 (k : Int)) rfl rfl (by kernel_rfl) (by kernel_rfl) (by kernel_rfl) (fun _ _ _ h => h) rfl (by intro w hSw; (try dsimp only at hSw); go_simp) (by assumption) ?_
          simp only [Act.put, List.setIfInBounds_toArray, List.set_cons_zero, List.set_cons_succ]
          refine take_yes 9 32 (.int .i64 (k : Int)) rfl rfl (by kernel_rfl) (by kernel_rfl) (by kernel_rfl) (fun _ _ _ h => h) rfl (by intro w hSw; (try dsimp only at hSw); go_simp) (by assumption) ?_
          simp only [Act.put, List.setIfInBounds_toArray, List.set_cons_zero, List.set_cons_succ]
          refine wpAnyH_ready (rs := [8, 10]) (by kernel_rfl) (by simp) ?_
          refine (AllReadyH.cons (o := _) rfl (fun K hK => ?_) (AllReadyH.cons (o := _) rfl (fun K hK => ?_) AllReadyH.nil))
          · skip
            go_simp
            refine (start_any hk _).mono ?_
            rintro e w_8 ⟨v_8, rfl, hS_8, hb_8⟩
            have S_8 := hS_8.st
            clear hS_8
            have hg_8 : Grew w2 w_8 := grew_step hgd hb_8
            refine hK.out _ _ (HK3.out _ hg_8) (fun _ => ?_)
            clear hK K
            try simp only [Act.put, List.setIfInBounds_toArray, List.set_cons_zero, List.set_cons_succ]
            refine wpAnyH_ready (rs := [10]) (by kernel_rfl) (by simp) ?_
            refine (AllReadyH.cons (o := _) rfl (fun K hK => ?_) AllReadyH.nil)
            have hmk := run_make_row' 22 3 (.int .i64 0) 8 Try.underlying22 Try.infoInt rfl .i64 .i64 k (by omega) (by omega) w_8
            rw [HCS.out] at hmk
            go_simp
            have hb_8_10 := Below.plus (Below.refl w_8.heap.size w_8) (.cells cs 3)
            have Z_8_10 := own_zero w_8 0 hk (Nat.zero_le _)
            rw [HCS.out] at Z_8_10
            obtain ⟨w_8_10, Hw_8_10⟩ : ∃ W, Hid (w_8.alloc (.cells cs 3) = W) := ⟨_, rfl⟩
            rw [Hw_8_10.out] at hb_8_10 Z_8_10 ⊢
            obtain ⟨g_8_10, Hg_8_10⟩ : ∃ g, Hid (w_8.heap.size = g) := ⟨_, rfl⟩
            rw [Hg_8_10.out] at Z_8_10 ⊢
            clear hmk
            have hg_8_10 : Grew w2 w_8_10 := grew_step hg_8 hb_8_10
            have S_8_10 := S_8.below hb_8_10 (Nat.le_refl _)
            refine hK.out _ _ (HK3.out _ hg_8_10) (fun _ => ?_)
            clear hK K
            try simp only [Act.put, List.setIfInBounds_toArray, List.set_cons_zero, List.set_cons_succ]
            refine take_yes 11 34 (.agg #[.slice (some ⟨g_8_10, 0, none⟩) k k, .slice none 0 0, .slice none 0 0]) rfl rfl (by kernel_rfl) (by kernel_rfl) (by kernel_rfl) (fun _ _ _ h => h) rfl (by intro w hSw; (try dsimp only at hSw); go_simp) (by assumption) ?_
            simp only [Act.put, List.setIfInBounds_toArray, List.set_cons_zero, List.set_cons_succ]
            refine wpAnyH_ready (rs := [12]) (by kernel_rfl) (by simp) ?_
            refine (AllReadyH.cons (o := _) rfl (fun K hK => ?_) AllReadyH.nil)
            go_simp
            refine (same_st _ _ ⟨zeroC k, [], []⟩ _ S_8_10 (StOwn.st (B := 0) ⟨_, _, _, rfl, Z_8_10, World.ownsRow_nil _ _ _ _, World.ownsRow_nil _ _ _ _⟩)).mono ?_
            rintro e w_8_10_12 ⟨rfl, hb_8_10_12⟩
            have hg_8_10_12 : Grew w2 w_8_10_12 := grew_step hg_8_10 hb_8_10_12
            have S_8_10_12 := S_8_10.below hb_8_10_12 (Nat.le_refl _)
            have Z_8_10_12 := Z_8_10.below hb_8_10_12 (Nat.le_refl _)
            refine hK.out _ _ (HK3.out _ hg_8_10_12) (fun _ => ?_)
            clear hK K
            try simp only [Act.put, List.setIfInBounds_toArray, List.set_cons_zero, List.set_cons_succ]
            refine take_yes 13 36 (.bool false) rfl rfl (by kernel_rfl) (by kernel_rfl) (by kernel_rfl) (fun _ _ _ h => h) rfl (by intro w hSw; (try dsimp only at hSw); go_simp) (by assumption) ?_
            simp only [Act.put, List.setIfInBounds_toArray, List.set_cons_zero, List.set_cons_succ]
            refine take_yes 14 37 (.bool false) rfl rfl (by kernel_rfl) (by kernel_rfl) (by kernel_rfl) (fun _ _ _ h => h) rfl (by intro w hSw; (try dsimp only at hSw); go_simp) (by assumption) ?_
            simp only [Act.put, List.setIfInBounds_toArray, List.set_cons_zero, List.set_cons_succ]
            refine wpAnyH_done (by kernel_rfl) ?_ _
            go_wp2_with fail
            go_meet
            exact ⟨rfl, hg_8_10_12⟩
          · skip
            have hmk := run_make_row' 22 3 (.int .i64 0) 8 Try.underlying22 Try.infoInt rfl .i64 .i64 k (by omega) (by omega) wd
            rw [HCS.out] at hmk
            go_simp
            have hb_10 := Below.plus (Below.refl wd.heap.size wd) (.cells cs 3)
            have Z_10 := own_zero wd 0 hk (Nat.zero_le _)
            rw [HCS.out] at Z_10
            obtain ⟨w_10, Hw_10⟩ : ∃ W, Hid (wd.alloc (.cells cs 3) = W) := ⟨_, rfl⟩
            rw [Hw_10.out] at hb_10 Z_10 ⊢
            obtain ⟨g_10, Hg_10⟩ : ∃ g, Hid (wd.heap.size = g) := ⟨_, rfl⟩
            rw [Hg_10.out] at Z_10 ⊢
            clear hmk
            have hg_10 : Grew w2 w_10 := grew_step hgd hb_10
            refine hK.out _ _ (HK3.out _ hg_10) (fun _ => ?_)
            clear hK K
            try simp only [Act.put, List.setIfInBounds_toArray, List.set_cons_zero, List.set_cons_succ]
            refine take_yes 11 34 (.agg #[.slice (some ⟨g_10, 0, none⟩) k k, .slice none 0 0, .slice none 0 0]) rfl rfl (by kernel_rfl) (by kernel_rfl) (by kernel_rfl) (fun _ _ _ h => h) rfl (by intro w hSw; (try dsimp only at hSw); go_simp) (by assumption) ?_
            simp only [Act.put, List.setIfInBounds_toArray, List.set_cons_zero, List.set_cons_succ]
            refine wpAnyH_ready (rs := [8]) (by kernel_rfl) (by simp) ?_
            refine (AllReadyH.cons (o := _) rfl (fun K hK => ?_) AllReadyH.nil)
            go_simp
            refine (start_any hk _).mono ?_
            rintro e w_10_8 ⟨v_10_8, rfl, hS_10_8, hb_10_8⟩
            have S_10_8 := hS_10_8.st
            clear hS_10_8
            have hg_10_8 : Grew w2 w_10_8 := grew_step hg_10 hb_10_8
            have Z_10_8 := Z_10.below hb_10_8 (Nat.le_refl _)
            refine hK.out _ _ (HK3.out _ hg_10_8) (fun _ => ?_)
            clear hK K
            try simp only [Act.put, List.setIfInBounds_toArray, List.set_cons_zero, List.set_cons_succ]
            refine wpAnyH_ready (rs := [12]) (by kernel_rfl) (by simp) ?_
            refine (AllReadyH.cons (o := _) rfl (fun K hK => ?_) AllReadyH.nil)
            go_simp
            refine (same_st _ _ ⟨zeroC k, [], []⟩ _ S_10_8 (StOwn.st (B := 0) ⟨_, _, _, rfl, Z_10_8, World.ownsRow_nil _ _ _ _, World.ownsRow_nil _ _ _ _⟩)).mono ?_
            rintro e w_10_8_12 ⟨rfl, hb_10_8_12⟩
            have hg_10_8_12 : Grew w2 w_10_8_12 := grew_step hg_10_8 hb_10_8_12
            have Z_10_8_12 := Z_10_8.below hb_10_8_12 (Nat.le_refl _)
            have S_10_8_12 := S_10_8.below hb_10_8_12 (Nat.le_refl _)
            refine hK.out _ _ (HK3.out _ hg_10_8_12) (fun _ => ?_)
            clear hK K
            try simp only [Act.put, List.setIfInBounds_toArray, List.set_cons_zero, List.set_cons_succ]
            refine take_yes 13 36 (.bool false) rfl rfl (by kernel_rfl) (by kernel_rfl) (by kernel_rfl) (fun _ _ _ h => h) rfl (by intro w hSw; (try dsimp only at hSw); go_simp) (by assumption) ?_
            simp only [Act.put, List.setIfInBounds_toArray, List.set_cons_zero, List.set_cons_succ]
            refine take_yes 14 37 (.bool false) rfl rfl (by kernel_rfl) (by kernel_rfl) (by kernel_rfl) (fun _ _ _ h => h) rfl (by intro w hSw; (try dsimp only at hSw); go_simp) (by assumption) ?_
            simp only [Act.put, List.setIfInBounds_toArray, List.set_cons_zero, List.set_cons_succ]
            refine wpAnyH_done (by kernel_rfl) ?_ _
            go_wp2_with fail
            go_meet
            exact ⟨rfl, hg_10_8_12⟩
        · skip
          refine wp_region_held_drew (S := fun w' => True) (by kernel_rfl) (HK3.out _ (grew_drew (grew_refl _))) (fun hHeld => ?_)
          obtain ⟨wd, HWD⟩ : ∃ wd, Hid (w2.drew = wd) := ⟨_, rfl⟩
          have hgd : Grew w2 wd := by rw [← HWD.out]; exact grew_drew (grew_refl w2)
          rw [HWD.out]
          refine take_yes 0 23 (.int .i64 n) rfl rfl (by kernel_rfl) (by kernel_rfl) (by kernel_rfl) (fun _ _ _ h => h) rfl (by intro w hSw; (try dsimp only at hSw); go_simp) (by assumption) ?_
          simp only [Act.put, List.setIfInBounds_toArray, List.set_cons_zero, List.set_cons_succ]
          refine take_yes 1 24 (.bool true) rfl rfl (by kernel_rfl) (by kernel_rfl) (by kernel_rfl) (fun _ _ _ h => h) rfl (by intro w hSw; (try dsimp only at hSw); go_simp) (by assumption) ?_
          simp only [Act.put, List.setIfInBounds_toArray, List.set_cons_zero, List.set_cons_succ]
          refine take_yes 2 25 (.bool true) rfl rfl (by kernel_rfl) (by kernel_rfl) (by kernel_rfl) (fun _ _ _ h => h) rfl (by intro w hSw; (try dsimp only at hSw); go_simp) (by assumption) ?_
          simp only [Act.put, List.setIfInBounds_toArray, List.set_cons_zero, List.set_cons_succ]
          refine take_yes 3 26 (.int .i64 n) rfl rfl (by kernel_rfl) (by kernel_rfl) (by kernel_rfl) (fun _ _ _ h => h) rfl (by intro w hSw; (try dsimp only at hSw); go_simp) (by assumption) ?_
          simp only [Act.put, List.setIfInBounds_toArray, List.set_cons_zero, List.set_cons_succ]
          refine take_yes 4 27 (.bool false) rfl rfl (by kernel_rfl) (by kernel_rfl) (by kernel_rfl) (fun _ _ _ h => h) rfl (by intro w hSw; (try dsimp only at hSw); go_simp) (by assumption) ?_
          simp only [Act.put, List.setIfInBounds_toArray, List.set_cons_zero, List.set_cons_succ]
          refine take_yes 5 28 (.bool false) rfl rfl (by kernel_rfl) (by kernel_rfl) (by kernel_rfl) (fun _ _ _ h => h) rfl (by intro w hSw; (try dsimp only at hSw); go_simp) (by assumption) ?_
          simp only [Act.put, List.setIfInBounds_toArray, List.set_cons_zero, List.set_cons_succ]
          refine take_yes 6 29 (.bool false) rfl rfl (by kernel_rfl) (by kernel_rfl) (by kernel_rfl) (fun _ _ _ h => h) rfl (by intro w hSw; (try dsimp only at hSw); go_simp) (by assumption) ?_
          simp only [Act.put, List.setIfInBounds_toArray, List.set_cons_zero, List.set_cons_succ]
          refine take_skip 7 30 rfl rfl (by kernel_rfl) (by kernel_rfl) (by kernel_rfl) (fun _ _ _ h => h) rfl (by assumption) ?_
          simp only [Act.put, List.setIfInBounds_toArray, List.set_cons_zero, List.set_cons_succ]
          refine take_skip 8 31 rfl rfl (by kernel_rfl) (by kernel_rfl) (by kernel_rfl) (fun _ _ _ h => h) rfl (by assumption) ?_
          simp only [Act.put, List.setIfInBounds_toArray, List.set_cons_zero, List.set_cons_succ]
          refine take_skip 9 32 rfl rfl (by kernel_rfl) (by kernel_rfl) (by kernel_rfl) (fun _ _ _ h => h) rfl (by assumption) ?_
          simp only [Act.put, List.setIfInBounds_toArray, List.set_cons_zero, List.set_cons_succ]
          refine take_skip 10 33 rfl rfl (by kernel_rfl) (by kernel_rfl) (by kernel_rfl) (fun _ _ _ h => h) rfl (by assumption) ?_
          simp only [Act.put, List.setIfInBounds_toArray, List.set_cons_zero, List.set_cons_succ]
          refine take_skip 11 34 rfl rfl (by kernel_rfl) (by kernel_rfl) (by kernel_rfl) (fun _ _ _ h => h) rfl (by assumption) ?_
          simp only [Act.put, List.setIfInBounds_toArray, List.set_cons_zero, List.set_cons_succ]
          refine take_skip 12 35 rfl rfl (by kernel_rfl) (by kernel_rfl) (by kernel_rfl) (fun _ _ _ h => h) rfl (by assumption) ?_
          simp only [Act.put, List.setIfInBounds_toArray, List.set_cons_zero, List.set_cons_succ]
          refine take_skip 13 36 rfl rfl (by kernel_rfl) (by kernel_rfl) (by kernel_rfl) (fun _ _ _ h => h) rfl (by assumption) ?_
          simp only [Act.put, List.setIfInBounds_toArray, List.set_cons_zero, List.set_cons_succ]
          refine take_yes 14 37 (.bool false) rfl rfl (by kernel_rfl) (by kernel_rfl) (by kernel_rfl) (fun _ _ _ h => h) rfl (by intro w hSw; (try dsimp only at hSw); go_simp) (by assumption) ?_
          simp only [Act.put, List.setIfInBounds_toArray, List.set_cons_zero, List.set_cons_succ]
          refine wpAnyH_done (by kernel_rfl) ?_ _
          go_wp2_with fail
          go_meet
          exact ⟨rfl, hgd⟩
      · skip
        refine wp_region_held_drew (S := fun w' => True) (by kernel_rfl) (HK3.out _ (grew_drew (grew_refl _))) (fun hHeld => ?_)
        obtain ⟨wd, HWD⟩ : ∃ wd, Hid (w2.drew = wd) := ⟨_, rfl⟩
        have hgd : Grew w2 wd := by rw [← HWD.out]; exact grew_drew (grew_refl w2)
        rw [HWD.out]
        refine take_yes 0 23 (.int .i64 n) rfl rfl (by kernel_rfl) (by kernel_rfl) (by kernel_rfl) (fun _ _ _ h => h) rfl (by intro w hSw; (try dsimp only at hSw); go_simp) (by assumption) ?_
        simp only [Act.put, List.setIfInBounds_toArray, List.set_cons_zero, List.set_cons_succ]
        refine take_yes 1 24 (.bool false) rfl rfl (by kernel_rfl) (by kernel_rfl) (by kernel_rfl) (fun _ _ _ h => h) rfl (by intro w hSw; (try dsimp only at hSw); go_simp) (by assumption) ?_
        simp only [Act.put, List.setIfInBounds_toArray, List.set_cons_zero, List.set_cons_succ]
        refine take_yes 2 25 (.bool false) rfl rfl (by kernel_rfl) (by kernel_rfl) (by kernel_rfl) (fun _ _ _ h => h) rfl (by intro w hSw; (try dsimp only at hSw); go_simp) (by assumption) ?_
        simp only [Act.put, List.setIfInBounds_toArray, List.set_cons_zero, List.set_cons_succ]
        refine take_skip 3 26 rfl rfl (by kernel_rfl) (by kernel_rfl) (by kernel_rfl) (fun _ _ _ h => h) rfl (by assumption) ?_
        simp only [Act.put, List.setIfInBounds_toArray, List.set_cons_zero, List.set_cons_succ]
        refine take_skip 4 27 rfl rfl (by kernel_rfl) (by kernel_rfl) (by kernel_rfl) (fun _ _ _ h => h) rfl (by assumption) ?_
        simp only [Act.put, List.setIfInBounds_toArray, List.set_cons_zero, List.set_cons_succ]
        refine take_yes 5 28 (.bool false) rfl rfl (by kernel_rfl) (by kernel_rfl) (by kernel_rfl) (fun _ _ _ h => h) rfl (by intro w hSw; (try dsimp only at hSw); go_simp) (by assumption) ?_
        simp only [Act.put, List.setIfInBounds_toArray, List.set_cons_zero, List.set_cons_succ]
        refine take_yes 6 29 (.bool false) rfl rfl (by kernel_rfl) (by kernel_rfl) (by kernel_rfl) (fun _ _ _ h => h) rfl (by intro w hSw; (try dsimp only at hSw); go_simp) (by assumption) ?_
        simp only [Act.put, List.setIfInBounds_toArray, List.set_cons_zero, List.set_cons_succ]
        refine take_skip 7 30 rfl rfl (by kernel_rfl) (by kernel_rfl) (by kernel_rfl) (fun _ _ _ h => h) rfl (by assumption) ?_
        simp only [Act.put, List.setIfInBounds_toArray, List.set_cons_zero, List.set_cons_succ]
        refine take_skip 8 31 rfl rfl (by kernel_rfl) (by kernel_rfl) (by kernel_rfl) (fun _ _ _ h => h) rfl (by assumption) ?_
        simp only [Act.put, List.setIfInBounds_toArray, List.set_cons_zero, List.set_cons_succ]
        refine take_skip 9 32 rfl rfl (by kernel_rfl) (by kernel_rfl) (by kernel_rfl) (fun _ _ _ h => h) rfl (by assumption) ?_
        simp only [Act.put, List.setIfInBounds_toArray, List.set_cons_zero, List.set_cons_succ]
        refine take_skip 10 33 rfl rfl (by kernel_rfl) (by kernel_rfl) (by kernel_rfl) (fun _ _ _ h => h) rfl (by assumption) ?_
        simp only [Act.put, List.setIfInBounds_toArray, List.set_cons_zero, List.set_cons_succ]
        refine take_skip 11 34 rfl rfl (by kernel_rfl) (by kernel_rfl) (by kernel_rfl) (fun _ _ _ h => h) rfl (by assumption) ?_
        simp only [Act.put, List.setIfInBounds_toArray, List.set_cons_zero, List.set_cons_succ]
        refine take_skip 12 35 rfl rfl (by kernel_rfl) (by kernel_rfl) (by kernel_rfl) (fun _ _ _ h => h) rfl (by assumption) ?_
        simp only [Act.put, List.setIfInBounds_toArray, List.set_cons_zero, List.set_cons_succ]
        refine take_skip 13 36 rfl rfl (by kernel_rfl) (by kernel_rfl) (by kernel_rfl) (fun _ _ _ h => h) rfl (by assumption) ?_
        simp only [Act.put, List.setIfInBounds_toArray, List.set_cons_zero, List.set_cons_succ]
        refine take_yes 14 37 (.bool false) rfl rfl (by kernel_rfl) (by kernel_rfl) (by kernel_rfl) (fun _ _ _ h => h) rfl (by intro w hSw; (try dsimp only at hSw); go_simp) (by assumption) ?_
        simp only [Act.put, List.setIfInBounds_toArray, List.set_cons_zero, List.set_cons_succ]
        refine wpAnyH_done (by kernel_rfl) ?_ _
        go_wp2_with fail
        go_meet
        exact ⟨rfl, hgd⟩
    case rest =>
      obtain ⟨rfl, HG0⟩ := hcut
      obtain ⟨w3, rfl⟩ : ∃ w3, w3 = wc := ⟨wc, rfl⟩
      have HG3 := hide (below_step HG2.out HG0.out)
      have S3 := hide (S1.out.below HG3.out (Nat.le_refl _))
      have U3 := hide (U1.out.below HG3.out (Nat.le_refl _))
      have A3 := hide (A1.out.below HG3.out (Nat.le_refl _))
      have HB3 := hide (below_step HB1.out HG3.out)
      clear HG0 HG2 HK1 HK3
      have p0 := A3.out.get 0 rfl
      have p1 := A3.out.get 1 rfl
      have p2 := A3.out.get 2 rfl
      go_wp2_with fail
      refine (play_state _ _ s l _ S3.out U3.out).mono ?_
      rintro e w4 ⟨rv, rfl, hO, hb4⟩
      rw [HPE.out, HPA.out]
      rw [HPX.out] at hO
      obtain ⟨x1, x4, x2, x5, x3, x6, hrv⟩ := hO.formW
      subst hrv
      replace hO := hO.st
      clear p0 p1 p2
      have hbp := Below.plus (Below.plus (Below.refl w4.heap.size w4) (.cells #[.slice x1 X.clock.length x4, .slice x2 X.lives.length x5, .slice x3 X.tals.length x6] 27)) (.cells #[.int .i64 PE, .int .i64 PA] 31)
      have hb5 := below_step hb4 hbp
      have S5 := hide (S3.out.below hb5 (Nat.le_refl _))
      have U5 := hide (U3.out.below hb5 (Nat.le_refl _))
      have A5 := hide (A3.out.below hb5 (Nat.le_refl _))
      have HB5 := hide (below_step HB3.out hb5)
      have HG5 := hide (below_step HG3.out hb5)
      have Bx5 := hide ((Box.new w4 [.slice x1 X.clock.length x4, .slice x2 X.lives.length x5, .slice x3 X.tals.length x6] 27).plus (.cells #[.int .i64 PE, .int .i64 PA] 31))
      have Fx5 := hide (Box.new (w4.alloc (.cells #[.slice x1 X.clock.length x4, .slice x2 X.lives.length x5, .slice x3 X.tals.length x6] 27)) [.int .i64 PE, .int .i64 PA] 31)
      simp only [World.size_alloc] at Fx5
      have Ox5 := hide (hO.below hbp (Nat.le_refl _))
      have HLx : Hid (w1.heap.size ≤ w4.heap.size) := (HG3.out.trans (hb4.mono HG3.out.size)).size
      obtain ⟨w5, HW5⟩ : ∃ W, Hid ((w4.alloc (.cells #[.slice x1 X.clock.length x4, .slice x2 X.lives.length x5, .slice x3 X.tals.length x6] 27)).alloc (.cells #[.int .i64 PE, .int .i64 PA] 31) = W) := ⟨_, rfl⟩
      rw [HW5.out] at S5 U5 A5 HB5 HG5 Bx5 Fx5 Ox5
      obtain ⟨gx, HGGx⟩ : ∃ g, Hid (w4.heap.size = g) := ⟨_, rfl⟩
      rw [HGGx.out] at Bx5 Fx5 HLx
      clear S3 U3 A3 HB3 HG3 hO hb4 hb5 hbp
      go_upto_region 6 with fail
      rw [HW5.out, HGGx.out]
      have p0 := A5.out.get 0 rfl
      have p1 := A5.out.get 1 rfl
      have p2 := A5.out.get 2 rfl
      go_wp2_with fail
      refine (play_ref4 _ _ s l _ S5.out U5.out).mono ?_
      rintro e w6 ⟨rv, rfl, hO, hb6⟩
      rw [HPE.out, HPA.out]
      rw [HPX.out] at hO
      obtain ⟨y1, y4, y2, y5, y3, y6, hrv⟩ := hO.formW
      subst hrv
      replace hO := hO.st
      clear p0 p1 p2
      have hbp := Below.plus (Below.plus (Below.refl w6.heap.size w6) (.cells #[.slice y1 X.clock.length y4, .slice y2 X.lives.length y5, .slice y3 X.tals.length y6] 27)) (.cells #[.int .i64 PE, .int .i64 PA] 31)
      have hb7 := below_step hb6 hbp
      have S7 := hide (S5.out.below hb7 (Nat.le_refl _))
      have U7 := hide (U5.out.below hb7 (Nat.le_refl _))
      have A7 := hide (A5.out.below hb7 (Nat.le_refl _))
      have Bx7 := hide (Bx5.out.below hb7 (Nat.le_refl _))
      have Fx7 := hide (Fx5.out.below hb7 (Nat.le_refl _))
      have Ox7 := hide (Ox5.out.below hb7 (Nat.le_refl _))
      have HB7 := hide (below_step HB5.out hb7)
      have HG7 := hide (below_step HG5.out hb7)
      have By7 := hide ((Box.new w6 [.slice y1 X.clock.length y4, .slice y2 X.lives.length y5, .slice y3 X.tals.length y6] 27).plus (.cells #[.int .i64 PE, .int .i64 PA] 31))
      have Fy7 := hide (Box.new (w6.alloc (.cells #[.slice y1 X.clock.length y4, .slice y2 X.lives.length y5, .slice y3 X.tals.length y6] 27)) [.int .i64 PE, .int .i64 PA] 31)
      simp only [World.size_alloc] at Fy7
      have Oy7 := hide (hO.below hbp (Nat.le_refl _))
      have HLy : Hid (w1.heap.size ≤ w6.heap.size) := (HG5.out.trans (hb6.mono HG5.out.size)).size
      have HXY : Hid (gx + 1 < w6.heap.size) := Nat.lt_of_lt_of_le Fx5.out.lt hb6.size
      obtain ⟨w7, HW7⟩ : ∃ W, Hid ((w6.alloc (.cells #[.slice y1 X.clock.length y4, .slice y2 X.lives.length y5, .slice y3 X.tals.length y6] 27)).alloc (.cells #[.int .i64 PE, .int .i64 PA] 31) = W) := ⟨_, rfl⟩
      rw [HW7.out] at S7 U7 A7 Bx7 Fx7 Ox7 HB7 HG7 By7 Fy7 Oy7
      obtain ⟨gy, HGGy⟩ : ∃ g, Hid (w6.heap.size = g) := ⟨_, rfl⟩
      rw [HGGy.out] at By7 Fy7 HLy HXY
      clear S5 U5 A5 Bx5 Fx5 Ox5 HB5 HG5 hO hb6 hb7 hbp
      go_upto_region 7 with fail
      rw [HW7.out, HGGy.out]
      have p0 := A7.out.get 0 rfl
      have p1 := A7.out.get 1 rfl
      have p2 := A7.out.get 2 rfl
      go_wp2_with fail
      refine (read_state _ s _ S7.out).mono ?_
      rintro e w8 ⟨rv, rfl, hO, hb8⟩
      rw [HRE.out, HRA.out]
      rw [HV.out] at hO
      replace hO := hO.read
      obtain ⟨t1, t4, t2, t5, t3, t6, hrv⟩ := hO.form
      subst hrv
      clear p0 p1 p2
      have hbp := Below.plus (Below.plus (Below.refl w8.heap.size w8) (.cells #[.slice t1 V.regs.length t4, .slice t2 V.sets.length t5, .slice t3 V.cnts.length t6] 40)) (.cells #[.int .i64 RE, .int .i64 RA] 31)
      have hb9 := below_step hb8 hbp
      have S9 := hide (S7.out.below hb9 (Nat.le_refl _))
      have U9 := hide (U7.out.below hb9 (Nat.le_refl _))
      have A9 := hide (A7.out.below hb9 (Nat.le_refl _))
      have Bx9 := hide (Bx7.out.below hb9 (Nat.le_refl _))
      have Fx9 := hide (Fx7.out.below hb9 (Nat.le_refl _))
      have Ox9 := hide (Ox7.out.below hb9 (Nat.le_refl _))
      have By9 := hide (By7.out.below hb9 (Nat.le_refl _))
      have Fy9 := hide (Fy7.out.below hb9 (Nat.le_refl _))
      have Oy9 := hide (Oy7.out.below hb9 (Nat.le_refl _))
      have HB9 := hide (below_step HB7.out hb9)
      have HG9 := hide (below_step HG7.out hb9)
      have Bt9 := hide ((Box.new w8 [.slice t1 V.regs.length t4, .slice t2 V.sets.length t5, .slice t3 V.cnts.length t6] 40).plus (.cells #[.int .i64 RE, .int .i64 RA] 31))
      have Ft9 := hide (Box.new (w8.alloc (.cells #[.slice t1 V.regs.length t4, .slice t2 V.sets.length t5, .slice t3 V.cnts.length t6] 40)) [.int .i64 RE, .int .i64 RA] 31)
      simp only [World.size_alloc] at Ft9
      have Ot9 := hide (hO.below hbp (Nat.le_refl _))
      have HLt : Hid (w1.heap.size ≤ w8.heap.size) := (HG7.out.trans (hb8.mono HG7.out.size)).size
      obtain ⟨w9, HW9⟩ : ∃ W, Hid ((w8.alloc (.cells #[.slice t1 V.regs.length t4, .slice t2 V.sets.length t5, .slice t3 V.cnts.length t6] 40)).alloc (.cells #[.int .i64 RE, .int .i64 RA] 31) = W) := ⟨_, rfl⟩
      rw [HW9.out] at S9 U9 A9 Bx9 Fx9 Ox9 By9 Fy9 Oy9 HB9 HG9 Bt9 Ft9 Ot9
      obtain ⟨gt, HGGt⟩ : ∃ g, Hid (w8.heap.size = g) := ⟨_, rfl⟩
      rw [HGGt.out] at Bt9 Ft9 HLt
      clear S7 U7 A7 Bx7 Fx7 Ox7 By7 Fy7 Oy7 HB7 HG7 hO hb8 hb9 hbp
      go_upto_region 8 with fail
      rw [HW9.out, HGGt.out]
      have p0 := A9.out.get 0 rfl
      have p1 := A9.out.get 1 rfl
      have p2 := A9.out.get 2 rfl
      go_wp2_with fail
      refine (read_ref4 _ s _ S9.out).mono ?_
      rintro e w10 ⟨rv, rfl, hO, hb10⟩
      rw [HRE.out, HRA.out]
      rw [HV.out] at hO
      obtain ⟨z1, z4, z2, z5, z3, z6, hrv⟩ := hO.form
      subst hrv
      clear p0 p1 p2
      have hbp := Below.plus (Below.plus (Below.refl w10.heap.size w10) (.cells #[.slice z1 V.regs.length z4, .slice z2 V.sets.length z5, .slice z3 V.cnts.length z6] 40)) (.cells #[.int .i64 RE, .int .i64 RA] 31)
      have hb11 := below_step hb10 hbp
      have S11 := hide (S9.out.below hb11 (Nat.le_refl _))
      have U11 := hide (U9.out.below hb11 (Nat.le_refl _))
      have A11 := hide (A9.out.below hb11 (Nat.le_refl _))
      have Bx11 := hide (Bx9.out.below hb11 (Nat.le_refl _))
      have Fx11 := hide (Fx9.out.below hb11 (Nat.le_refl _))
      have Ox11 := hide (Ox9.out.below hb11 (Nat.le_refl _))
      have By11 := hide (By9.out.below hb11 (Nat.le_refl _))
      have Fy11 := hide (Fy9.out.below hb11 (Nat.le_refl _))
      have Oy11 := hide (Oy9.out.below hb11 (Nat.le_refl _))
      have Bt11 := hide (Bt9.out.below hb11 (Nat.le_refl _))
      have Ft11 := hide (Ft9.out.below hb11 (Nat.le_refl _))
      have Ot11 := hide (Ot9.out.below hb11 (Nat.le_refl _))
      have HB11 := hide (below_step HB9.out hb11)
      have HG11 := hide (below_step HG9.out hb11)
      have Bz11 := hide ((Box.new w10 [.slice z1 V.regs.length z4, .slice z2 V.sets.length z5, .slice z3 V.cnts.length z6] 40).plus (.cells #[.int .i64 RE, .int .i64 RA] 31))
      have Fz11 := hide (Box.new (w10.alloc (.cells #[.slice z1 V.regs.length z4, .slice z2 V.sets.length z5, .slice z3 V.cnts.length z6] 40)) [.int .i64 RE, .int .i64 RA] 31)
      simp only [World.size_alloc] at Fz11
      have Oz11 := hide (hO.below hbp (Nat.le_refl _))
      have HLz : Hid (w1.heap.size ≤ w10.heap.size) := (HG9.out.trans (hb10.mono HG9.out.size)).size
      obtain ⟨w11, HW11⟩ : ∃ W, Hid ((w10.alloc (.cells #[.slice z1 V.regs.length z4, .slice z2 V.sets.length z5, .slice z3 V.cnts.length z6] 40)).alloc (.cells #[.int .i64 RE, .int .i64 RA] 31) = W) := ⟨_, rfl⟩
      rw [HW11.out] at S11 U11 A11 Bx11 Fx11 Ox11 By11 Fy11 Oy11 Bt11 Ft11 Ot11 HB11 HG11 Bz11 Fz11 Oz11
      obtain ⟨gz, HGGz⟩ : ∃ g, Hid (w10.heap.size = g) := ⟨_, rfl⟩
      rw [HGGz.out] at Bz11 Fz11 HLz
      clear S9 U9 A9 Bx9 Fx9 Ox9 By9 Fy9 Oy9 Bt9 Ft9 Ot9 HB9 HG9 hO hb10 hb11 hbp
      go_upto_region 9 with fail
      rw [HW11.out, HGGz.out]
      have xb0 := Bx11.out.get 0 rfl
      have xb1 := Bx11.out.get 1 rfl
      have xb2 := Bx11.out.get 2 rfl
      have xf0 := Fx11.out.get 0 rfl
      have xf1 := Fx11.out.get 1 rfl
      have yb0 := By11.out.get 0 rfl
      have yb1 := By11.out.get 1 rfl
      have yb2 := By11.out.get 2 rfl
      have yf0 := Fy11.out.get 0 rfl
      have yf1 := Fy11.out.get 1 rfl
      have tb0 := Bt11.out.get 0 rfl
      have tb1 := Bt11.out.get 1 rfl
      have tb2 := Bt11.out.get 2 rfl
      have tf0 := Ft11.out.get 0 rfl
      have tf1 := Ft11.out.get 1 rfl
      have zb0 := Bz11.out.get 0 rfl
      have zb1 := Bz11.out.get 1 rfl
      have zb2 := Bz11.out.get 2 rfl
      have zf0 := Fz11.out.get 0 rfl
      have zf1 := Fz11.out.get 1 rfl
      go_wp2_with fail
      refine (same_st _ _ X _ Ox11.out Oy11.out).mono ?_
      rintro e w12 ⟨rfl, hb12⟩
      clear xb0 xb1 xb2 yb0 yb1 yb2 tb0 tb1 tb2 zb0 zb1 zb2 xf0 xf1 yf0 yf1 tf0 tf1 zf0 zf1
      have S12 := hide (S11.out.below hb12 (Nat.le_refl _))
      have U12 := hide (U11.out.below hb12 (Nat.le_refl _))
      have A12 := hide (A11.out.below hb12 (Nat.le_refl _))
      have Bx12 := hide (Bx11.out.below hb12 (Nat.le_refl _))
      have By12 := hide (By11.out.below hb12 (Nat.le_refl _))
      have Fy12 := hide (Fy11.out.below hb12 (Nat.le_refl _))
      have Bt12 := hide (Bt11.out.below hb12 (Nat.le_refl _))
      have Bz12 := hide (Bz11.out.below hb12 (Nat.le_refl _))
      have Ft12 := hide (Ft11.out.below hb12 (Nat.le_refl _))
      have Fz12 := hide (Fz11.out.below hb12 (Nat.le_refl _))
      have Ot12 := hide (Ot11.out.below hb12 (Nat.le_refl _))
      have Oz12 := hide (Oz11.out.below hb12 (Nat.le_refl _))
      have HB12 := hide (below_step HB11.out hb12)
      have HG12 := hide (below_step HG11.out hb12)
      clear hb12 S11 U11 A11 Bx11 Fx11 Ox11 By11 Fy11 Oy11 Bt11 Ft11 Ot11 Bz11 Fz11 Oz11 HB11 HG11
      have tb0 := Bt12.out.get 0 rfl
      have tb1 := Bt12.out.get 1 rfl
      have tb2 := Bt12.out.get 2 rfl
      have tf0 := Ft12.out.get 0 rfl
      have tf1 := Ft12.out.get 1 rfl
      have zb0 := Bz12.out.get 0 rfl
      have zb1 := Bz12.out.get 1 rfl
      have zb2 := Bz12.out.get 2 rfl
      have zf0 := Fz12.out.get 0 rfl
      have zf1 := Fz12.out.get 1 rfl
      go_wp2_with fail
      refine (sameView_yes _ _ V _ Ot12.out Oz12.out).mono ?_
      rintro e w13 ⟨rfl, hb13⟩
      clear tb0 tb1 tb2 zb0 zb1 zb2 tf0 tf1 zf0 zf1
      have S13 := hide (S12.out.below hb13 (Nat.le_refl _))
      have U13 := hide (U12.out.below hb13 (Nat.le_refl _))
      have A13 := hide (A12.out.below hb13 (Nat.le_refl _))
      have Bx13 := hide (Bx12.out.below hb13 (Nat.le_refl _))
      have By13 := hide (By12.out.below hb13 (Nat.le_refl _))
      have Fy13 := hide (Fy12.out.below hb13 (Nat.le_refl _))
      have HB13 := hide (below_step HB12.out hb13)
      have HG13 := hide (below_step HG12.out hb13)
      clear hb13 S12 U12 A12 Bx12 By12 Fy12 Bt12 Bz12 Ft12 Fz12 Ot12 Oz12 HB12 HG12
      cases l with
      | nil =>
        go_wp2_with fail
        go_ret
        exact ⟨rfl, HB13.out⟩
      | cons u r =>
        have hne : ¬ ((r.length : Int) + 1 = 0) := by omega
        have hne' : ((r.length : Int) + 1 == 0) = false := by simp [hne]
        have hlr : r.length + 1 ≤ 9223372036854775807 := hlen
        have hu0 : (u :: r)[0]? = some u := rfl
        obtain ⟨ub, uo, a5, cap5, hba, d0, d1, d2, d3, d4, -, hup⟩ := U1.out.at hu0
        subst hba
        obtain ⟨ua, us, uk, uy, ui⟩ := u
        simp only [Nat.zero_mul, Nat.add_zero] at d0 d1 d2 d3 d4
        obtain ⟨NE, HNE⟩ : ∃ E, Hid (playE s [⟨ua, us, uk, uy, ui⟩] = E) := ⟨_, rfl⟩
        obtain ⟨NA, HNA⟩ : ∃ E, Hid (playA s [⟨ua, us, uk, uy, ui⟩] = E) := ⟨_, rfl⟩
        obtain ⟨NX, HNX⟩ : ∃ E, Hid (playX s [⟨ua, us, uk, uy, ui⟩] = E) := ⟨_, rfl⟩
        have HUP := hide hup
        simp only [List.length_cons]
        go_upto_region 13 with fail
        have HK13 : Hid (∀ w', Grew w1 w' → w'.cell? ⟨w.heap.size, 0, none⟩ = some (.slice a1 s.clock.length c1) ∧ w'.cell? ⟨w.heap.size, 1, none⟩ = some (.slice a2 s.lives.length c2) ∧ w'.cell? ⟨w.heap.size, 2, none⟩ = some (.slice a3 s.tals.length c3) ∧ w'.cell? ⟨ub, uo, none⟩ = some (.int .i64 ua) ∧ w'.cell? ⟨ub, uo + 1, none⟩ = some (.slice a5 us.length cap5) ∧ w'.cell? ⟨ub, uo + 2, none⟩ = some (.int .i64 uk) ∧ w'.cell? ⟨ub, uo + 3, none⟩ = some (.int .i64 uy) ∧ w'.cell? ⟨ub, uo + 4, none⟩ = some (.int .i64 ui)) := fun w' hg => ⟨(A1.out.below hg (Nat.le_refl _)).get 0 rfl, (A1.out.below hg (Nat.le_refl _)).get 1 rfl, (A1.out.below hg (Nat.le_refl _)).get 2 rfl, cell_grewP hg d0, cell_grewP hg d1, cell_grewP hg d2, cell_grewP hg d3, cell_grewP hg d4⟩
        clear d0 d1 d2 d3 d4 hup
        have hr0 : (0 : Int) < (r.length : Int) + 1 := by omega
        have hc1 : (1 : Int) ≤ (cap4 : Int) := by have : r.length + 1 ≤ cap4 := hcap4; omega
        have hc1n : 1 ≤ cap4 := by omega
        have hlx := HLx.out
        have hly := HLy.out
        have hxy := HXY.out
        refine wp_region_held_drew (S := fun w' => w'.cell? ⟨w.heap.size, 0, none⟩ = some (.slice a1 s.clock.length c1) ∧ w'.cell? ⟨w.heap.size, 1, none⟩ = some (.slice a2 s.lives.length c2) ∧ w'.cell? ⟨w.heap.size, 2, none⟩ = some (.slice a3 s.tals.length c3) ∧ w'.cell? ⟨ub, uo, none⟩ = some (.int .i64 ua) ∧ w'.cell? ⟨ub, uo + 1, none⟩ = some (.slice a5 us.length cap5) ∧ w'.cell? ⟨ub, uo + 2, none⟩ = some (.int .i64 uk) ∧ w'.cell? ⟨ub, uo + 3, none⟩ = some (.int .i64 uy) ∧ w'.cell? ⟨ub, uo + 4, none⟩ = some (.int .i64 ui)) (by kernel_rfl) (HK13.out _ (grew_drew HG13.out)) (fun hHeld => ?_)
        obtain ⟨wd, HWD⟩ : ∃ wd, Hid (w13.drew = wd) := ⟨_, rfl⟩
        have hgd : Grew w1 wd := by rw [← HWD.out]; exact grew_drew HG13.out
        rw [HWD.out] at hHeld ⊢
        have hcd : Below w13.heap.size w13 wd := by rw [← HWD.out]; exact Below.drew (Below.refl _ _)
        have BX_0 := Bx13.out.below hcd (Nat.le_refl _)
        have BY_0 := By13.out.below hcd (Nat.le_refl _)
        have FY_0 := Fy13.out.below hcd (Nat.le_refl _)
        refine take_yes 0 84 (.agg #[.slice a1 s.clock.length c1, .slice a2 s.lives.length c2, .slice a3 s.tals.length c3]) rfl rfl (by kernel_rfl) (by kernel_rfl) (by kernel_rfl) (fun _ _ _ h => h) rfl (by intro w hSw; (try dsimp only at hSw); go_simp) (by assumption) ?_
        simp only [Act.put, List.setIfInBounds_toArray, List.set_cons_zero, List.set_cons_succ]
        refine take_yes 1 85 (.slice (some ⟨ub, uo, none⟩) (r.length + 1) cap4) rfl rfl (by kernel_rfl) (by kernel_rfl) (by kernel_rfl) (fun _ _ _ h => h) rfl (by intro w hSw; (try dsimp only at hSw); go_simp) (by assumption) ?_
        simp only [Act.put, List.setIfInBounds_toArray, List.set_cons_zero, List.set_cons_succ]
        refine take_yes 2 86 (.pointer (some ⟨ub, uo, none⟩)) rfl rfl (by kernel_rfl) (by kernel_rfl) (by kernel_rfl) (fun _ _ _ h => h) rfl (by intro w hSw; (try dsimp only at hSw); go_simp) (by assumption) ?_
        simp only [Act.put, List.setIfInBounds_toArray, List.set_cons_zero, List.set_cons_succ]
        refine take_yes 3 87 (.agg #[.int .i64 ua, .slice a5 us.length cap5, .int .i64 uk, .int .i64 uy, .int .i64 ui]) rfl rfl (by kernel_rfl) (by kernel_rfl) (by kernel_rfl) (fun _ _ _ h => h) rfl (by intro w hSw; (try dsimp only at hSw); go_simp) (by assumption) ?_
        simp only [Act.put, List.setIfInBounds_toArray, List.set_cons_zero, List.set_cons_succ]
        refine wpAnyH_ready (rs := [4]) (by kernel_rfl) (by simp) ?_
        refine (AllReadyH.cons (o := _) rfl (fun K hK => ?_) AllReadyH.nil)
        go_simp
        have ltx := BX_0.lt
        have lty := FY_0.lt
        refine (apply_state _ _ s ⟨ua, us, uk, uy, ui⟩ _ (S1.out.below hgd (Nat.le_refl _)) (HUP.out.below hgd (Nat.le_refl _))).mono ?_
        rintro e w_4 ⟨rv, rfl, hO, hb_4⟩
        rw [HNE.out]
        rw [HNX.out] at hO
        obtain ⟨q1, q4, q2, q5, q3, q6, hrv⟩ := hO.formW
        subst hrv
        obtain ⟨BB, HBB⟩ : ∃ B, wd.heap.size + 3 = B := ⟨_, rfl⟩
        rw [HBB] at hO
        have hltx : gx < BB := by omega
        have hlty : gy + 1 < BB := by omega
        have O_4 := hO
        clear hO HBB ltx lty
        have hg_4 : Grew w1 w_4 := grew_step hgd hb_4
        have BX_4 := BX_0.below hb_4 (Nat.le_refl _)
        have BY_4 := BY_0.below hb_4 (Nat.le_refl _)
        have FY_4 := FY_0.below hb_4 (Nat.le_refl _)
        refine hK.out _ _ (HK13.out _ hg_4) (fun _ => ?_)
        clear hK K
        try simp only [Act.put, List.setIfInBounds_toArray, List.set_cons_zero, List.set_cons_succ]
        refine take_yes 5 83 (.tuple #[.agg #[.slice q1 NX.clock.length q4, .slice q2 NX.lives.length q5, .slice q3 NX.tals.length q6], .int .i64 NE]) rfl rfl (by kernel_rfl) (by kernel_rfl) (by kernel_rfl) (fun _ _ _ h => h) rfl (by intro w hSw; (try dsimp only at hSw); go_simp) (by assumption) ?_
        simp only [Act.put, List.setIfInBounds_toArray, List.set_cons_zero, List.set_cons_succ]
        refine take_yes 6 89 (.agg #[.slice q1 NX.clock.length q4, .slice q2 NX.lives.length q5, .slice q3 NX.tals.length q6]) rfl rfl (by kernel_rfl) (by kernel_rfl) (by kernel_rfl) (fun _ _ _ h => h) rfl (by intro w hSw; (try dsimp only at hSw); go_simp) (by assumption) ?_
        simp only [Act.put, List.setIfInBounds_toArray, List.set_cons_zero, List.set_cons_succ]
        refine take_yes 7 90 (.int .i64 NE) rfl rfl (by kernel_rfl) (by kernel_rfl) (by kernel_rfl) (fun _ _ _ h => h) rfl (by intro w hSw; (try dsimp only at hSw); go_simp) (by assumption) ?_
        simp only [Act.put, List.setIfInBounds_toArray, List.set_cons_zero, List.set_cons_succ]
        refine wpAnyH_ready (rs := [8]) (by kernel_rfl) (by simp) ?_
        refine (AllReadyH.cons (o := _) rfl (fun K hK => ?_) AllReadyH.nil)
        have c0 := BX_4.get 0 rfl
        have n0 := BX_4.free 0
        have c1 := BX_4.get 1 rfl
        have n1 := BX_4.free 1
        have c2 := BX_4.get 2 rfl
        have n2 := BX_4.free 2
        go_simp
        have BX_4_8 := (((BX_4.set 0 (.slice q1 NX.clock.length q4)).set 1 (.slice q2 NX.lives.length q5)).set 2 (.slice q3 NX.tals.length q6))
        simp only [List.set_cons_zero, List.set_cons_succ] at BX_4_8
        have gg_4_8 : Grew w1 _ := (Below.setCell (Below.setCell (Below.setCell hg_4 (p := ⟨gx, 0, none⟩) (show w1.heap.size ≤ gx by omega) (.slice q1 NX.clock.length q4)) (p := ⟨gx, 1, none⟩) (show w1.heap.size ≤ gx by omega) (.slice q2 NX.lives.length q5)) (p := ⟨gx, 2, none⟩) (show w1.heap.size ≤ gx by omega) (.slice q3 NX.tals.length q6))
        have BY_4_8 := (((BY_4.away (g' := gx) (i := 0) (v := .slice q1 NX.clock.length q4) (by omega)).away (g' := gx) (i := 1) (v := .slice q2 NX.lives.length q5) (by omega)).away (g' := gx) (i := 2) (v := .slice q3 NX.tals.length q6) (by omega))
        have FY_4_8 := (((FY_4.away (g' := gx) (i := 0) (v := .slice q1 NX.clock.length q4) (by omega)).away (g' := gx) (i := 1) (v := .slice q2 NX.lives.length q5) (by omega)).away (g' := gx) (i := 2) (v := .slice q3 NX.tals.length q6) (by omega))
        have O_4_8 := (((O_4.away (g := gx) (by omega) 0 (.slice q1 NX.clock.length q4)).away (g := gx) (by omega) 1 (.slice q2 NX.lives.length q5)).away (g := gx) (by omega) 2 (.slice q3 NX.tals.length q6))
        obtain ⟨w_4_8, Hw_4_8⟩ : ∃ W, Hid ((((w_4.setCell ⟨gx, 0, none⟩ (.slice q1 NX.clock.length q4)).setCell ⟨gx, 1, none⟩ (.slice q2 NX.lives.length q5)).setCell ⟨gx, 2, none⟩ (.slice q3 NX.tals.length q6)) = W) := ⟨_, rfl⟩
        rw [Hw_4_8.out] at BX_4_8 gg_4_8 BY_4_8 FY_4_8 O_4_8 ⊢
        clear c0 n0 c1 n1 c2 n2
        have hg_4_8 : Grew w1 w_4_8 := gg_4_8
        refine hK.out _ _ (HK13.out _ hg_4_8) (fun _ => ?_)
        clear hK K
        try simp only [Act.put, List.setIfInBounds_toArray, List.set_cons_zero, List.set_cons_succ]
        refine wpAnyH_ready (rs := [9]) (by kernel_rfl) (by simp) ?_
        refine (AllReadyH.cons (o := _) rfl (fun K hK => ?_) AllReadyH.nil)
        go_simp
        refine hK.out _ _ (HK13.out _ hg_4_8) (fun _ => ?_)
        clear hK K
        try simp only [Act.put, List.setIfInBounds_toArray, List.set_cons_zero, List.set_cons_succ]
        refine wpAnyH_done (by kernel_rfl) ?_ _
        have HK14 : Hid (∀ w', Grew w1 w' → w'.cell? ⟨w.heap.size, 0, none⟩ = some (.slice a1 s.clock.length c1) ∧ w'.cell? ⟨w.heap.size, 1, none⟩ = some (.slice a2 s.lives.length c2) ∧ w'.cell? ⟨w.heap.size, 2, none⟩ = some (.slice a3 s.tals.length c3)) := fun w' hg => ⟨(A1.out.below hg (Nat.le_refl _)).get 0 rfl, (A1.out.below hg (Nat.le_refl _)).get 1 rfl, (A1.out.below hg (Nat.le_refl _)).get 2 rfl⟩
        go_upto_region 14 with fail
        refine wp_region_held_drew (S := fun w' => w'.cell? ⟨w.heap.size, 0, none⟩ = some (.slice a1 s.clock.length c1) ∧ w'.cell? ⟨w.heap.size, 1, none⟩ = some (.slice a2 s.lives.length c2) ∧ w'.cell? ⟨w.heap.size, 2, none⟩ = some (.slice a3 s.tals.length c3)) (by kernel_rfl) (HK14.out _ (grew_drew hg_4_8)) (fun hHeld => ?_)
        obtain ⟨wd, HWD⟩ : ∃ wd, Hid (w_4_8.drew = wd) := ⟨_, rfl⟩
        have hgd : Grew w1 wd := by rw [← HWD.out]; exact grew_drew hg_4_8
        rw [HWD.out] at hHeld ⊢
        have hcd : Below w_4_8.heap.size w_4_8 wd := by rw [← HWD.out]; exact Below.drew (Below.refl _ _)
        have BX_0 := BX_4_8.below hcd (Nat.le_refl _)
        have BY_0 := BY_4_8.below hcd (Nat.le_refl _)
        have FY_0 := FY_4_8.below hcd (Nat.le_refl _)
        have O_0 := O_4_8.below hcd (Nat.le_refl _)
        refine take_yes 0 92 (.agg #[.slice a1 s.clock.length c1, .slice a2 s.lives.length c2, .slice a3 s.tals.length c3]) rfl rfl (by kernel_rfl) (by kernel_rfl) (by kernel_rfl) (fun _ _ _ h => h) rfl (by intro w hSw; (try dsimp only at hSw); go_simp) (by assumption) ?_
        simp only [Act.put, List.setIfInBounds_toArray, List.set_cons_zero, List.set_cons_succ]
        refine take_yes 1 93 (.slice (some ⟨ub, uo, none⟩) (r.length + 1) cap4) rfl rfl (by kernel_rfl) (by kernel_rfl) (by kernel_rfl) (fun _ _ _ h => h) rfl (by intro w hSw; (try dsimp only at hSw); go_simp) (by assumption) ?_
        simp only [Act.put, List.setIfInBounds_toArray, List.set_cons_zero, List.set_cons_succ]
        refine take_yes 2 94 (.slice (some ⟨ub, uo, none⟩) 1 cap4) rfl rfl (by kernel_rfl) (by kernel_rfl) (by kernel_rfl) (fun _ _ _ h => h) rfl (by intro w hSw; (try dsimp only at hSw); go_simp) (by assumption) ?_
        simp only [Act.put, List.setIfInBounds_toArray, List.set_cons_zero, List.set_cons_succ]
        refine wpAnyH_ready (rs := [3]) (by kernel_rfl) (by simp) ?_
        refine (AllReadyH.cons (o := _) rfl (fun K hK => ?_) AllReadyH.nil)
        go_simp
        have ltx := BX_0.lt
        have lty := FY_0.lt
        refine (play_ref4 _ _ s [⟨ua, us, uk, uy, ui⟩] _ (S1.out.below hgd (Nat.le_refl _)) (show LogV _ _ [⟨ua, us, uk, uy, ui⟩] from LogV.take (k := 1) (U1.out.below hgd (Nat.le_refl _)) (by simp))).mono ?_
        rintro e w_3 ⟨rv, rfl, hO, hb_3⟩
        rw [HNE.out, HNA.out]
        rw [HNX.out] at hO
        obtain ⟨m1, m4, m2, m5, m3, m6, hrv⟩ := hO.formW
        subst hrv
        obtain ⟨BC, HBC⟩ : ∃ B, wd.heap.size + 3 = B := ⟨_, rfl⟩
        rw [HBC] at hO
        have hltx' : gx < BC := by omega
        have hlty' : gy + 1 < BC := by omega
        have P_3 := hO
        clear hO HBC ltx lty
        have hg_3 : Grew w1 w_3 := grew_step hgd hb_3
        have BX_3 := BX_0.below hb_3 (Nat.le_refl _)
        have BY_3 := BY_0.below hb_3 (Nat.le_refl _)
        have FY_3 := FY_0.below hb_3 (Nat.le_refl _)
        have O_3 := O_0.below hb_3 (Nat.le_refl _)
        refine hK.out _ _ (HK14.out _ hg_3) (fun _ => ?_)
        clear hK K
        try simp only [Act.put, List.setIfInBounds_toArray, List.set_cons_zero, List.set_cons_succ]
        refine take_yes 4 91 (.tuple #[.agg #[.slice m1 NX.clock.length m4, .slice m2 NX.lives.length m5, .slice m3 NX.tals.length m6], .agg #[.int .i64 NE, .int .i64 NA]]) rfl rfl (by kernel_rfl) (by kernel_rfl) (by kernel_rfl) (fun _ _ _ h => h) rfl (by intro w hSw; (try dsimp only at hSw); go_simp) (by assumption) ?_
        simp only [Act.put, List.setIfInBounds_toArray, List.set_cons_zero, List.set_cons_succ]
        refine take_yes 5 96 (.agg #[.slice m1 NX.clock.length m4, .slice m2 NX.lives.length m5, .slice m3 NX.tals.length m6]) rfl rfl (by kernel_rfl) (by kernel_rfl) (by kernel_rfl) (fun _ _ _ h => h) rfl (by intro w hSw; (try dsimp only at hSw); go_simp) (by assumption) ?_
        simp only [Act.put, List.setIfInBounds_toArray, List.set_cons_zero, List.set_cons_succ]
        refine take_yes 6 97 (.agg #[.int .i64 NE, .int .i64 NA]) rfl rfl (by kernel_rfl) (by kernel_rfl) (by kernel_rfl) (fun _ _ _ h => h) rfl (by intro w hSw; (try dsimp only at hSw); go_simp) (by assumption) ?_
        simp only [Act.put, List.setIfInBounds_toArray, List.set_cons_zero, List.set_cons_succ]
        refine wpAnyH_ready (rs := [7]) (by kernel_rfl) (by simp) ?_
        refine (AllReadyH.cons (o := _) rfl (fun K hK => ?_) AllReadyH.nil)
        have c0 := BY_3.get 0 rfl
        have n0 := BY_3.free 0
        have c1 := BY_3.get 1 rfl
        have n1 := BY_3.free 1
        have c2 := BY_3.get 2 rfl
        have n2 := BY_3.free 2
        go_simp
        have BY_3_7 := (((BY_3.set 0 (.slice m1 NX.clock.length m4)).set 1 (.slice m2 NX.lives.length m5)).set 2 (.slice m3 NX.tals.length m6))
        simp only [List.set_cons_zero, List.set_cons_succ] at BY_3_7
        have gg_3_7 : Grew w1 _ := (Below.setCell (Below.setCell (Below.setCell hg_3 (p := ⟨gy, 0, none⟩) (show w1.heap.size ≤ gy by omega) (.slice m1 NX.clock.length m4)) (p := ⟨gy, 1, none⟩) (show w1.heap.size ≤ gy by omega) (.slice m2 NX.lives.length m5)) (p := ⟨gy, 2, none⟩) (show w1.heap.size ≤ gy by omega) (.slice m3 NX.tals.length m6))
        have BX_3_7 := (((BX_3.away (g' := gy) (i := 0) (v := .slice m1 NX.clock.length m4) (by omega)).away (g' := gy) (i := 1) (v := .slice m2 NX.lives.length m5) (by omega)).away (g' := gy) (i := 2) (v := .slice m3 NX.tals.length m6) (by omega))
        have FY_3_7 := (((FY_3.away (g' := gy) (i := 0) (v := .slice m1 NX.clock.length m4) (by omega)).away (g' := gy) (i := 1) (v := .slice m2 NX.lives.length m5) (by omega)).away (g' := gy) (i := 2) (v := .slice m3 NX.tals.length m6) (by omega))
        have O_3_7 := (((O_3.away (g := gy) (by omega) 0 (.slice m1 NX.clock.length m4)).away (g := gy) (by omega) 1 (.slice m2 NX.lives.length m5)).away (g := gy) (by omega) 2 (.slice m3 NX.tals.length m6))
        have P_3_7 := (((P_3.away (g := gy) (by omega) 0 (.slice m1 NX.clock.length m4)).away (g := gy) (by omega) 1 (.slice m2 NX.lives.length m5)).away (g := gy) (by omega) 2 (.slice m3 NX.tals.length m6))
        obtain ⟨w_3_7, Hw_3_7⟩ : ∃ W, Hid ((((w_3.setCell ⟨gy, 0, none⟩ (.slice m1 NX.clock.length m4)).setCell ⟨gy, 1, none⟩ (.slice m2 NX.lives.length m5)).setCell ⟨gy, 2, none⟩ (.slice m3 NX.tals.length m6)) = W) := ⟨_, rfl⟩
        rw [Hw_3_7.out] at BY_3_7 gg_3_7 BX_3_7 FY_3_7 O_3_7 P_3_7 ⊢
        clear c0 n0 c1 n1 c2 n2
        have hg_3_7 : Grew w1 w_3_7 := gg_3_7
        refine hK.out _ _ (HK14.out _ hg_3_7) (fun _ => ?_)
        clear hK K
        try simp only [Act.put, List.setIfInBounds_toArray, List.set_cons_zero, List.set_cons_succ]
        refine wpAnyH_ready (rs := [8]) (by kernel_rfl) (by simp) ?_
        refine (AllReadyH.cons (o := _) rfl (fun K hK => ?_) AllReadyH.nil)
        have c0 := FY_3_7.get 0 rfl
        have n0 := FY_3_7.free 0
        have c1 := FY_3_7.get 1 rfl
        have n1 := FY_3_7.free 1
        go_simp
        have FY_3_7_8 := ((FY_3_7.set 0 (.int .i64 NE)).set 1 (.int .i64 NA))
        simp only [List.set_cons_zero, List.set_cons_succ] at FY_3_7_8
        have gg_3_7_8 : Grew w1 _ := (Below.setCell (Below.setCell hg_3_7 (p := ⟨gy + 1, 0, none⟩) (show w1.heap.size ≤ gy + 1 by omega) (.int .i64 NE)) (p := ⟨gy + 1, 1, none⟩) (show w1.heap.size ≤ gy + 1 by omega) (.int .i64 NA))
        have BX_3_7_8 := ((BX_3_7.away (g' := gy + 1) (i := 0) (v := .int .i64 NE) (by omega)).away (g' := gy + 1) (i := 1) (v := .int .i64 NA) (by omega))
        have BY_3_7_8 := ((BY_3_7.away (g' := gy + 1) (i := 0) (v := .int .i64 NE) (by omega)).away (g' := gy + 1) (i := 1) (v := .int .i64 NA) (by omega))
        have O_3_7_8 := ((O_3_7.away (g := gy + 1) (by omega) 0 (.int .i64 NE)).away (g := gy + 1) (by omega) 1 (.int .i64 NA))
        have P_3_7_8 := ((P_3_7.away (g := gy + 1) (by omega) 0 (.int .i64 NE)).away (g := gy + 1) (by omega) 1 (.int .i64 NA))
        obtain ⟨w_3_7_8, Hw_3_7_8⟩ : ∃ W, Hid (((w_3_7.setCell ⟨gy + 1, 0, none⟩ (.int .i64 NE)).setCell ⟨gy + 1, 1, none⟩ (.int .i64 NA)) = W) := ⟨_, rfl⟩
        rw [Hw_3_7_8.out] at FY_3_7_8 gg_3_7_8 BX_3_7_8 BY_3_7_8 O_3_7_8 P_3_7_8 ⊢
        clear c0 n0 c1 n1
        have hg_3_7_8 : Grew w1 w_3_7_8 := gg_3_7_8
        refine hK.out _ _ (HK14.out _ hg_3_7_8) (fun _ => ?_)
        clear hK K
        try simp only [Act.put, List.setIfInBounds_toArray, List.set_cons_zero, List.set_cons_succ]
        refine wpAnyH_done (by kernel_rfl) ?_ _
        have HBE := hide (below_step HB1.out hg_3_7_8)
        have xb0 := BX_3_7_8.get 0 rfl
        have yb0 := BY_3_7_8.get 0 rfl
        have xb1 := BX_3_7_8.get 1 rfl
        have yb1 := BY_3_7_8.get 1 rfl
        have xb2 := BX_3_7_8.get 2 rfl
        have yb2 := BY_3_7_8.get 2 rfl
        have yf0 := FY_3_7_8.get 0 rfl
        go_wp2_with fail
        refine (same_st _ _ NX _ O_3_7_8.st P_3_7_8.st).mono ?_
        rintro e wz ⟨rfl, hbz⟩
        have HBF := hide (below_step HBE.out hbz)
        go_wp2_with fail
        go_ret
        exact ⟨rfl, HBF.out⟩
end Go.Proofs.Ytalglngjafkdjaa
