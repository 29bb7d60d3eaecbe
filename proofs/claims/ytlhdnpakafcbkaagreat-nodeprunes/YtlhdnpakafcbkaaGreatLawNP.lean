/- NodePrunes, walked: pruning is not seen. -/
import Derived.Test.YtlhdnpakafcbkaaGreatLawNT
namespace Go.Proofs.YtlhdnpakafcbkaaGreat
open Go.RowKit

theorem right_ofP {d X : NdS} (h : OkN d.st.clock.length X) (h1 : ∀ j, d.st.clock.getD j 0 ≤ X.st.clock.getD j 0) (h2 : ∀ j, d.base.getD j 0 ≤ X.base.getD j 0) : nodeE X = 0 ∧ seesC X.st.clock d.st.clock = true ∧ seesC X.base d.base = true :=
  ⟨nodeE_zero.2 (by rw [h.len]; exact h), seesC_iff.2 h1, seesC_iff.2 h2⟩
theorem prune_rightsP {d : NdS} (h : nodeE d = 0) : nodeE (pruneX d) = 0 ∧ seesC (pruneX d).st.clock d.st.clock = true ∧ seesC (pruneX d).base d.base = true := by
  obtain ⟨h1, h2, h3, -⟩ := prune_right h
  exact right_ofP h1 (fun j => by rw [h2]; exact Int.le_refl _) h3
theorem st_cast {w : World} {v : Value} {s r : StS} (h : IsSt w v s) (e : s = r) : IsSt w v r := e ▸ h
theorem node_cast {w : World} {v : Value} {s r : NdS} (h : IsNode w v s) (e : s = r) : IsNode w v r := e ▸ h

theorem send_few {x : NdS} (h : nodeE x = 0) (i : Int) : (sendX x i).ups.length ≤ 300 := by
  unfold sendX
  split
  · split
    · exact Nat.le_trans lacks_few (nodeE_zero.1 h).few
    · simp
  · simp [noPcl]
theorem IsPcl.upsLen {w : World} {v : Value} {p : Pcl} (h : IsPcl w v p) : p.ups.length ≤ 9223372036854775807 := by
  obtain ⟨cv, lv, tv, uv, kv, -, -, hl, -⟩ := h
  exact hl.len_le

set_option maxRecDepth 100000 in
set_option maxHeartbeats 8000000 in
theorem prunes_law (v u : Value) (d f : NdS) (w0 : World) (h : IsNode w0 v d) (hu : IsNode w0 u f) :
    Calls Tryz.prog 5 #[v, u] w0 fun e w' => e = .returned (.bool true) ∧ Below w0.heap.size w0 w' := by
  have hin := h
  have huin := hu
  obtain ⟨da1, dc1, da2, dc2, da3, dc3, da4, dc4, da5, dc5, da6, dc6, rfl, hs1, hc1, -, -, hk1⟩ := h.form
  obtain ⟨fa1, fc1, fa2, fc2, fa3, fc3, fa4, fc4, fa5, fc5, fa6, fc6, rfl, -, hc2, -, -, -⟩ := hu.form
  have hb := Below.plus (Below.plus (Below.refl w0.heap.size w0) (.cells #[.int .i64 d.self, .slice da1 d.st.clock.length dc1, .slice da2 d.st.lives.length dc2, .slice da3 d.st.tals.length dc3, .slice da4 d.base.length dc4, .slice da5 d.log.length dc5, .slice da6 d.known.length dc6] 31)) (.cells #[.int .i64 f.self, .slice fa1 f.st.clock.length fc1, .slice fa2 f.st.lives.length fc2, .slice fa3 f.st.tals.length fc3, .slice fa4 f.base.length fc4, .slice fa5 f.log.length fc5, .slice fa6 f.known.length fc6] 31)
  have G0 := hide ((Box.new w0 [.int .i64 d.self, .slice da1 d.st.clock.length dc1, .slice da2 d.st.lives.length dc2, .slice da3 d.st.tals.length dc3, .slice da4 d.base.length dc4, .slice da5 d.log.length dc5, .slice da6 d.known.length dc6] 31).plus (.cells #[.int .i64 f.self, .slice fa1 f.st.clock.length fc1, .slice fa2 f.st.lives.length fc2, .slice fa3 f.st.tals.length fc3, .slice fa4 f.base.length fc4, .slice fa5 f.log.length fc5, .slice fa6 f.known.length fc6] 31))
  have V0 := hide (Box.new (w0.alloc (.cells #[.int .i64 d.self, .slice da1 d.st.clock.length dc1, .slice da2 d.st.lives.length dc2, .slice da3 d.st.tals.length dc3, .slice da4 d.base.length dc4, .slice da5 d.log.length dc5, .slice da6 d.known.length dc6] 31)) [.int .i64 f.self, .slice fa1 f.st.clock.length fc1, .slice fa2 f.st.lives.length fc2, .slice fa3 f.st.tals.length fc3, .slice fa4 f.base.length fc4, .slice fa5 f.log.length fc5, .slice fa6 f.known.length fc6] 31)
  simp only [World.size_alloc] at V0
  have D0 := hide (hin.below hb (Nat.le_refl _))
  have N0 := hide (huin.below hb (Nat.le_refl _))
  have S0 := hide (hs1.below hb (Nat.le_refl _))
  have C0 := hide (hc1.below hb (Nat.le_refl _))
  have K0 := hide (hk1.below hb (Nat.le_refl _))
  have L0 := hide (hc2.below hb (Nat.le_refl _))
  have HB0 := hide hb
  have hkl := hk1.len_le
  clear h hu hs1 hin huin hb hc1 hc2 hk1
  obtain ⟨W0, HW0⟩ : ∃ W0, Hid ((w0.alloc (.cells #[.int .i64 d.self, .slice da1 d.st.clock.length dc1, .slice da2 d.st.lives.length dc2, .slice da3 d.st.tals.length dc3, .slice da4 d.base.length dc4, .slice da5 d.log.length dc5, .slice da6 d.known.length dc6] 31)).alloc (.cells #[.int .i64 f.self, .slice fa1 f.st.clock.length fc1, .slice fa2 f.st.lives.length fc2, .slice fa3 f.st.tals.length fc3, .slice fa4 f.base.length fc4, .slice fa5 f.log.length fc5, .slice fa6 f.known.length fc6] 31) = W0) := ⟨_, rfl⟩
  rw [HW0.out] at G0 V0 D0 N0 S0 C0 K0 L0 HB0
  obtain ⟨Ed, HEd⟩ : ∃ Ed, Hid (nodeE d = Ed) := ⟨_, rfl⟩
  obtain ⟨Ef, HEf⟩ : ∃ Ef, Hid (nodeE f = Ef) := ⟨_, rfl⟩
  by_cases hEd : Ed = 0
  · subst hEd
    by_cases hEf : Ef = 0
    · subst hEf
      have od := nodeE_zero.1 HEd.out
      have of' := nodeE_zero.1 HEf.out
      obtain ⟨j, hj⟩ : ∃ j : Nat, f.self = j := ⟨f.self.toNat, by have := of'.s0; omega⟩
      have HJ := hide hj
      have hjl : j < f.known.length := by have := of'.s1; have := of'.kl; omega
      have HOD := hide od
      have HOF := hide of'
      rw [hj] at V0 N0
      clear od of' hj
      by_cases hlen : d.known.length = f.known.length
      · have hlen' : ((d.known.length : Int) != (f.known.length : Int)) = false := by simp; omega
        have hjd : j < d.known.length := by omega
        have hjd' : (j : Int) < (d.known.length : Int) := by omega
        have HLEN := hide hlen
        clear hlen
        by_cases hself : d.self = (j : Int)
        · have hself' : (d.self == (j : Int)) = true := by simp [hself]
          clear hself
          go_enter Tryz.func5, Tryz.ntmps5
          go_upto_region 1 with fail
          rw [HW0.out]
          go_wp2_with fail
          refine (alive6 _).mono ?_
          rintro e w1 ⟨rfl, hb1⟩
          have G1 := hide (G0.out.below hb1 (Nat.le_refl _))
          have V1 := hide (V0.out.below hb1 (Nat.le_refl _))
          have D1 := hide (D0.out.below hb1 (Nat.le_refl _))
          have N1 := hide (N0.out.below hb1 (Nat.le_refl _))
          have S1 := hide (S0.out.below hb1 (Nat.le_refl _))
          have C1 := hide (C0.out.below hb1 (Nat.le_refl _))
          have K1 := hide (K0.out.below hb1 (Nat.le_refl _))
          have L1 := hide (L0.out.below hb1 (Nat.le_refl _))
          have HB1 := hide (below_step HB0.out hb1)
          have hsz : Hid (w0.heap.size + 2 ≤ w1.heap.size) := by have := V0.out.lt; have := hb1.size; unfold Hid; omega
          clear G0 V0 D0 N0 S0 C0 K0 L0 HB0 hb1
          have HK : Hid (∀ w', Grew w1 w' → w'.cell? ⟨w0.heap.size, 0, none⟩ = some (.int .i64 d.self) ∧ w'.cell? ⟨w0.heap.size, 1, none⟩ = some (.slice da1 d.st.clock.length dc1) ∧ w'.cell? ⟨w0.heap.size, 2, none⟩ = some (.slice da2 d.st.lives.length dc2) ∧ w'.cell? ⟨w0.heap.size, 3, none⟩ = some (.slice da3 d.st.tals.length dc3) ∧ w'.cell? ⟨w0.heap.size, 4, none⟩ = some (.slice da4 d.base.length dc4) ∧ w'.cell? ⟨w0.heap.size, 5, none⟩ = some (.slice da5 d.log.length dc5) ∧ w'.cell? ⟨w0.heap.size, 6, none⟩ = some (.slice da6 d.known.length dc6) ∧ w'.cell? ⟨w0.heap.size + 1, 0, none⟩ = some (.int .i64 (j : Int)) ∧ w'.cell? ⟨w0.heap.size + 1, 1, none⟩ = some (.slice fa1 f.st.clock.length fc1) ∧ w'.cell? ⟨w0.heap.size + 1, 2, none⟩ = some (.slice fa2 f.st.lives.length fc2) ∧ w'.cell? ⟨w0.heap.size + 1, 3, none⟩ = some (.slice fa3 f.st.tals.length fc3) ∧ w'.cell? ⟨w0.heap.size + 1, 4, none⟩ = some (.slice fa4 f.base.length fc4) ∧ w'.cell? ⟨w0.heap.size + 1, 5, none⟩ = some (.slice fa5 f.log.length fc5) ∧ w'.cell? ⟨w0.heap.size + 1, 6, none⟩ = some (.slice fa6 f.known.length fc6)) := fun w' hg => ⟨(G1.out.below hg (Nat.le_refl _)).get 0 rfl, (G1.out.below hg (Nat.le_refl _)).get 1 rfl, (G1.out.below hg (Nat.le_refl _)).get 2 rfl, (G1.out.below hg (Nat.le_refl _)).get 3 rfl, (G1.out.below hg (Nat.le_refl _)).get 4 rfl, (G1.out.below hg (Nat.le_refl _)).get 5 rfl, (G1.out.below hg (Nat.le_refl _)).get 6 rfl, (V1.out.below hg (Nat.le_refl _)).get 0 rfl, (V1.out.below hg (Nat.le_refl _)).get 1 rfl, (V1.out.below hg (Nat.le_refl _)).get 2 rfl, (V1.out.below hg (Nat.le_refl _)).get 3 rfl, (V1.out.below hg (Nat.le_refl _)).get 4 rfl, (V1.out.below hg (Nat.le_refl _)).get 5 rfl, (V1.out.below hg (Nat.le_refl _)).get 6 rfl⟩
          go_upto_region 3 with fail
          go_cut [49] (fun c wx => c = .bool true ∧ Hid (Grew w1 wx))
          case first =>
            refine wp_region_held_drew (S := fun w' => w'.cell? ⟨w0.heap.size, 0, none⟩ = some (.int .i64 d.self) ∧ w'.cell? ⟨w0.heap.size, 1, none⟩ = some (.slice da1 d.st.clock.length dc1) ∧ w'.cell? ⟨w0.heap.size, 2, none⟩ = some (.slice da2 d.st.lives.length dc2) ∧ w'.cell? ⟨w0.heap.size, 3, none⟩ = some (.slice da3 d.st.tals.length dc3) ∧ w'.cell? ⟨w0.heap.size, 4, none⟩ = some (.slice da4 d.base.length dc4) ∧ w'.cell? ⟨w0.heap.size, 5, none⟩ = some (.slice da5 d.log.length dc5) ∧ w'.cell? ⟨w0.heap.size, 6, none⟩ = some (.slice da6 d.known.length dc6) ∧ w'.cell? ⟨w0.heap.size + 1, 0, none⟩ = some (.int .i64 (j : Int)) ∧ w'.cell? ⟨w0.heap.size + 1, 1, none⟩ = some (.slice fa1 f.st.clock.length fc1) ∧ w'.cell? ⟨w0.heap.size + 1, 2, none⟩ = some (.slice fa2 f.st.lives.length fc2) ∧ w'.cell? ⟨w0.heap.size + 1, 3, none⟩ = some (.slice fa3 f.st.tals.length fc3) ∧ w'.cell? ⟨w0.heap.size + 1, 4, none⟩ = some (.slice fa4 f.base.length fc4) ∧ w'.cell? ⟨w0.heap.size + 1, 5, none⟩ = some (.slice fa5 f.log.length fc5) ∧ w'.cell? ⟨w0.heap.size + 1, 6, none⟩ = some (.slice fa6 f.known.length fc6)) (by kernel_rfl) (HK.out _ (grew_drew (grew_refl _))) (fun hHeld => ?_)
            obtain ⟨wd, HWD⟩ : ∃ wd, Hid (w1.drew = wd) := ⟨_, rfl⟩
            have hgd : Grew w1 wd := by rw [← HWD.out]; exact grew_drew (grew_refl w1)
            rw [HWD.out] at hHeld ⊢
            refine take_yes 0 13 (.agg #[.int .i64 d.self, .slice da1 d.st.clock.length dc1, .slice da2 d.st.lives.length dc2, .slice da3 d.st.tals.length dc3, .slice da4 d.base.length dc4, .slice da5 d.log.length dc5, .slice da6 d.known.length dc6]) rfl rfl (by kernel_rfl) (by kernel_rfl) (by kernel_rfl) (fun _ _ _ h => h) rfl (by intro w hSw; (try dsimp only at hSw); go_simp) (by assumption) ?_
            simp only [Act.put, List.setIfInBounds_toArray, List.set_cons_zero, List.set_cons_succ]
            refine wpAnyH_ready (rs := [1]) (by kernel_rfl) (by simp) ?_
            refine (AllReadyH.cons (o := _) rfl (fun K hK => ?_) AllReadyH.nil)
            go_simp
            refine (wrong_node _ d _ (D1.out.below hgd (Nat.le_refl _))).mono ?_
            rintro e w_1 ⟨rfl, hb_1⟩
            rw [HEd.out]
            have hg_1 : Grew w1 w_1 := grew_step hgd hb_1
            refine hK.out _ _ (HK.out _ hg_1) (fun _ => ?_)
            clear hK K
            try simp only [Act.put, List.setIfInBounds_toArray, List.set_cons_zero, List.set_cons_succ]
            refine take_yes 2 15 (.bool false) rfl rfl (by kernel_rfl) (by kernel_rfl) (by kernel_rfl) (fun _ _ _ h => h) rfl (by intro w hSw; (try dsimp only at hSw); go_simp) (by assumption) ?_
            simp only [Act.put, List.setIfInBounds_toArray, List.set_cons_zero, List.set_cons_succ]
            refine take_yes 3 16 (.bool false) rfl rfl (by kernel_rfl) (by kernel_rfl) (by kernel_rfl) (fun _ _ _ h => h) rfl (by intro w hSw; (try dsimp only at hSw); go_simp) (by assumption) ?_
            simp only [Act.put, List.setIfInBounds_toArray, List.set_cons_zero, List.set_cons_succ]
            refine take_yes 4 17 (.agg #[.int .i64 (j : Int), .slice fa1 f.st.clock.length fc1, .slice fa2 f.st.lives.length fc2, .slice fa3 f.st.tals.length fc3, .slice fa4 f.base.length fc4, .slice fa5 f.log.length fc5, .slice fa6 f.known.length fc6]) rfl rfl (by kernel_rfl) (by kernel_rfl) (by kernel_rfl) (fun _ _ _ h => h) rfl (by intro w hSw; (try dsimp only at hSw); go_simp) (by assumption) ?_
            simp only [Act.put, List.setIfInBounds_toArray, List.set_cons_zero, List.set_cons_succ]
            refine wpAnyH_ready (rs := [5]) (by kernel_rfl) (by simp) ?_
            refine (AllReadyH.cons (o := _) rfl (fun K hK => ?_) AllReadyH.nil)
            go_simp
            refine (wrong_node _ f _ (N1.out.below hg_1 (Nat.le_refl _))).mono ?_
            rintro e w_1_5 ⟨rfl, hb_1_5⟩
            rw [HEf.out]
            have hg_1_5 : Grew w1 w_1_5 := grew_step hg_1 hb_1_5
            refine hK.out _ _ (HK.out _ hg_1_5) (fun _ => ?_)
            clear hK K
            try simp only [Act.put, List.setIfInBounds_toArray, List.set_cons_zero, List.set_cons_succ]
            refine take_yes 6 19 (.bool false) rfl rfl (by kernel_rfl) (by kernel_rfl) (by kernel_rfl) (fun _ _ _ h => h) rfl (by intro w hSw; (try dsimp only at hSw); go_simp) (by assumption) ?_
            simp only [Act.put, List.setIfInBounds_toArray, List.set_cons_zero, List.set_cons_succ]
            refine take_yes 7 20 (.bool false) rfl rfl (by kernel_rfl) (by kernel_rfl) (by kernel_rfl) (fun _ _ _ h => h) rfl (by intro w hSw; (try dsimp only at hSw); go_simp) (by assumption) ?_
            simp only [Act.put, List.setIfInBounds_toArray, List.set_cons_zero, List.set_cons_succ]
            refine take_yes 8 21 (.bool false) rfl rfl (by kernel_rfl) (by kernel_rfl) (by kernel_rfl) (fun _ _ _ h => h) rfl (by intro w hSw; (try dsimp only at hSw); go_simp) (by assumption) ?_
            simp only [Act.put, List.setIfInBounds_toArray, List.set_cons_zero, List.set_cons_succ]
            refine take_yes 9 22 (.pointer (some ⟨w0.heap.size, 6, none⟩)) rfl rfl (by kernel_rfl) (by kernel_rfl) (by kernel_rfl) (fun _ _ _ h => h) rfl (by intro w hSw; (try dsimp only at hSw); go_simp) (by assumption) ?_
            simp only [Act.put, List.setIfInBounds_toArray, List.set_cons_zero, List.set_cons_succ]
            refine take_yes 10 23 (.slice da6 d.known.length dc6) rfl rfl (by kernel_rfl) (by kernel_rfl) (by kernel_rfl) (fun _ _ _ h => h) rfl (by intro w hSw; (try dsimp only at hSw); go_simp) (by assumption) ?_
            simp only [Act.put, List.setIfInBounds_toArray, List.set_cons_zero, List.set_cons_succ]
            refine take_yes 11 24 (.int .i64 d.known.length) rfl rfl (by kernel_rfl) (by kernel_rfl) (by kernel_rfl) (fun _ _ _ h => h) rfl (by intro w hSw; (try dsimp only at hSw); go_simp) (by assumption) ?_
            simp only [Act.put, List.setIfInBounds_toArray, List.set_cons_zero, List.set_cons_succ]
            refine take_yes 12 25 (.pointer (some ⟨w0.heap.size + 1, 6, none⟩)) rfl rfl (by kernel_rfl) (by kernel_rfl) (by kernel_rfl) (fun _ _ _ h => h) rfl (by intro w hSw; (try dsimp only at hSw); go_simp) (by assumption) ?_
            simp only [Act.put, List.setIfInBounds_toArray, List.set_cons_zero, List.set_cons_succ]
            refine take_yes 13 26 (.slice fa6 f.known.length fc6) rfl rfl (by kernel_rfl) (by kernel_rfl) (by kernel_rfl) (fun _ _ _ h => h) rfl (by intro w hSw; (try dsimp only at hSw); go_simp) (by assumption) ?_
            simp only [Act.put, List.setIfInBounds_toArray, List.set_cons_zero, List.set_cons_succ]
            refine take_yes 14 27 (.int .i64 f.known.length) rfl rfl (by kernel_rfl) (by kernel_rfl) (by kernel_rfl) (fun _ _ _ h => h) rfl (by intro w hSw; (try dsimp only at hSw); go_simp) (by assumption) ?_
            simp only [Act.put, List.setIfInBounds_toArray, List.set_cons_zero, List.set_cons_succ]
            refine take_yes 15 28 (.bool false) rfl rfl (by kernel_rfl) (by kernel_rfl) (by kernel_rfl) (fun _ _ _ h => h) rfl (by intro w hSw; (try dsimp only at hSw); go_simp) (by assumption) ?_
            simp only [Act.put, List.setIfInBounds_toArray, List.set_cons_zero, List.set_cons_succ]
            refine take_yes 16 29 (.bool false) rfl rfl (by kernel_rfl) (by kernel_rfl) (by kernel_rfl) (fun _ _ _ h => h) rfl (by intro w hSw; (try dsimp only at hSw); go_simp) (by assumption) ?_
            simp only [Act.put, List.setIfInBounds_toArray, List.set_cons_zero, List.set_cons_succ]
            refine take_yes 17 30 (.bool false) rfl rfl (by kernel_rfl) (by kernel_rfl) (by kernel_rfl) (fun _ _ _ h => h) rfl (by intro w hSw; (try dsimp only at hSw); go_simp) (by assumption) ?_
            simp only [Act.put, List.setIfInBounds_toArray, List.set_cons_zero, List.set_cons_succ]
            refine take_yes 18 31 (.pointer (some ⟨w0.heap.size, 0, none⟩)) rfl rfl (by kernel_rfl) (by kernel_rfl) (by kernel_rfl) (fun _ _ _ h => h) rfl (by intro w hSw; (try dsimp only at hSw); go_simp) (by assumption) ?_
            simp only [Act.put, List.setIfInBounds_toArray, List.set_cons_zero, List.set_cons_succ]
            refine take_yes 19 32 (.int .i64 d.self) rfl rfl (by kernel_rfl) (by kernel_rfl) (by kernel_rfl) (fun _ _ _ h => h) rfl (by intro w hSw; (try dsimp only at hSw); go_simp) (by assumption) ?_
            simp only [Act.put, List.setIfInBounds_toArray, List.set_cons_zero, List.set_cons_succ]
            refine take_yes 20 33 (.pointer (some ⟨w0.heap.size + 1, 0, none⟩)) rfl rfl (by kernel_rfl) (by kernel_rfl) (by kernel_rfl) (fun _ _ _ h => h) rfl (by intro w hSw; (try dsimp only at hSw); go_simp) (by assumption) ?_
            simp only [Act.put, List.setIfInBounds_toArray, List.set_cons_zero, List.set_cons_succ]
            refine take_yes 21 34 (.int .i64 (j : Int)) rfl rfl (by kernel_rfl) (by kernel_rfl) (by kernel_rfl) (fun _ _ _ h => h) rfl (by intro w hSw; (try dsimp only at hSw); go_simp) (by assumption) ?_
            simp only [Act.put, List.setIfInBounds_toArray, List.set_cons_zero, List.set_cons_succ]
            refine take_yes 22 35 (.bool true) rfl rfl (by kernel_rfl) (by kernel_rfl) (by kernel_rfl) (fun _ _ _ h => h) rfl (by intro w hSw; (try dsimp only at hSw); go_simp) (by assumption) ?_
            simp only [Act.put, List.setIfInBounds_toArray, List.set_cons_zero, List.set_cons_succ]
            refine take_yes 23 36 (.bool true) rfl rfl (by kernel_rfl) (by kernel_rfl) (by kernel_rfl) (fun _ _ _ h => h) rfl (by intro w hSw; (try dsimp only at hSw); go_simp) (by assumption) ?_
            simp only [Act.put, List.setIfInBounds_toArray, List.set_cons_zero, List.set_cons_succ]
            refine take_yes 24 37 (.bool true) rfl rfl (by kernel_rfl) (by kernel_rfl) (by kernel_rfl) (fun _ _ _ h => h) rfl (by intro w hSw; (try dsimp only at hSw); go_simp) (by assumption) ?_
            simp only [Act.put, List.setIfInBounds_toArray, List.set_cons_zero, List.set_cons_succ]
            refine take_skip 25 38 rfl rfl (by kernel_rfl) (by kernel_rfl) (by kernel_rfl) (fun _ _ _ h => h) rfl (by assumption) ?_
            simp only [Act.put, List.setIfInBounds_toArray, List.set_cons_zero, List.set_cons_succ]
            refine take_skip 26 39 rfl rfl (by kernel_rfl) (by kernel_rfl) (by kernel_rfl) (fun _ _ _ h => h) rfl (by assumption) ?_
            simp only [Act.put, List.setIfInBounds_toArray, List.set_cons_zero, List.set_cons_succ]
            refine take_skip 27 40 rfl rfl (by kernel_rfl) (by kernel_rfl) (by kernel_rfl) (fun _ _ _ h => h) rfl (by assumption) ?_
            simp only [Act.put, List.setIfInBounds_toArray, List.set_cons_zero, List.set_cons_succ]
            refine take_skip 28 41 rfl rfl (by kernel_rfl) (by kernel_rfl) (by kernel_rfl) (fun _ _ _ h => h) rfl (by assumption) ?_
            simp only [Act.put, List.setIfInBounds_toArray, List.set_cons_zero, List.set_cons_succ]
            refine take_skip 29 42 rfl rfl (by kernel_rfl) (by kernel_rfl) (by kernel_rfl) (fun _ _ _ h => h) rfl (by assumption) ?_
            simp only [Act.put, List.setIfInBounds_toArray, List.set_cons_zero, List.set_cons_succ]
            refine take_skip 30 43 rfl rfl (by kernel_rfl) (by kernel_rfl) (by kernel_rfl) (fun _ _ _ h => h) rfl (by assumption) ?_
            simp only [Act.put, List.setIfInBounds_toArray, List.set_cons_zero, List.set_cons_succ]
            refine take_skip 31 44 rfl rfl (by kernel_rfl) (by kernel_rfl) (by kernel_rfl) (fun _ _ _ h => h) rfl (by assumption) ?_
            simp only [Act.put, List.setIfInBounds_toArray, List.set_cons_zero, List.set_cons_succ]
            refine take_skip 32 45 rfl rfl (by kernel_rfl) (by kernel_rfl) (by kernel_rfl) (fun _ _ _ h => h) rfl (by assumption) ?_
            simp only [Act.put, List.setIfInBounds_toArray, List.set_cons_zero, List.set_cons_succ]
            refine take_skip 33 46 rfl rfl (by kernel_rfl) (by kernel_rfl) (by kernel_rfl) (fun _ _ _ h => h) rfl (by assumption) ?_
            simp only [Act.put, List.setIfInBounds_toArray, List.set_cons_zero, List.set_cons_succ]
            refine take_skip 34 47 rfl rfl (by kernel_rfl) (by kernel_rfl) (by kernel_rfl) (fun _ _ _ h => h) rfl (by assumption) ?_
            simp only [Act.put, List.setIfInBounds_toArray, List.set_cons_zero, List.set_cons_succ]
            refine take_skip 35 48 rfl rfl (by kernel_rfl) (by kernel_rfl) (by kernel_rfl) (fun _ _ _ h => h) rfl (by assumption) ?_
            simp only [Act.put, List.setIfInBounds_toArray, List.set_cons_zero, List.set_cons_succ]
            refine take_yes 36 49 (.bool true) rfl rfl (by kernel_rfl) (by kernel_rfl) (by kernel_rfl) (fun _ _ _ h => h) rfl (by intro w hSw; (try dsimp only at hSw); go_simp) (by assumption) ?_
            simp only [Act.put, List.setIfInBounds_toArray, List.set_cons_zero, List.set_cons_succ]
            refine wpAnyH_done (by kernel_rfl) ?_ _
            go_wp2_with fail
            go_meet
            exact ⟨rfl, hg_1_5⟩
          case rest =>
            obtain ⟨rfl, HGR⟩ := hcut
            obtain ⟨w2, rfl⟩ : ∃ w2, w2 = wc := ⟨wc, rfl⟩
            have G2 := hide (G1.out.below HGR.out (Nat.le_refl _))
            have V2 := hide (V1.out.below HGR.out (Nat.le_refl _))
            have D2 := hide (D1.out.below HGR.out (Nat.le_refl _))
            have N2 := hide (N1.out.below HGR.out (Nat.le_refl _))
            have S2 := hide (S1.out.below HGR.out (Nat.le_refl _))
            have C2 := hide (C1.out.below HGR.out (Nat.le_refl _))
            have K2 := hide (K1.out.below HGR.out (Nat.le_refl _))
            have L2 := hide (L1.out.below HGR.out (Nat.le_refl _))
            have HB2 := hide (below_step HB1.out HGR.out)
            have hsz2 : Hid (w0.heap.size + 2 ≤ w2.heap.size) := by have := hsz.out; have := HGR.out.size; unfold Hid; omega
            clear G1 V1 D1 N1 S1 C1 K1 L1 HB1 HGR HK
            go_wp2_with fail
            go_ret
            exact ⟨rfl, HB2.out⟩
        · have hself' : (d.self == (j : Int)) = false := by simp [hself]
          have HSELF := hide hself
          clear hself
          obtain ⟨kc, HKC⟩ : ∃ kc, Hid (d.known.getD j [] = kc) := ⟨_, rfl⟩
          have hjg : d.known[j]? = some kc := by rw [← HKC.out, List.getD_eq_getElem?_getD, List.getElem?_eq_getElem hjd]; rfl
          obtain ⟨sb, HSB⟩ : ∃ sb, Hid (seesC f.st.clock kc = sb) := ⟨_, rfl⟩
          cases sb
          · skip
            go_enter Tryz.func5, Tryz.ntmps5
            go_upto_region 1 with fail
            rw [HW0.out]
            go_wp2_with fail
            refine (alive6 _).mono ?_
            rintro e w1 ⟨rfl, hb1⟩
            have G1 := hide (G0.out.below hb1 (Nat.le_refl _))
            have V1 := hide (V0.out.below hb1 (Nat.le_refl _))
            have D1 := hide (D0.out.below hb1 (Nat.le_refl _))
            have N1 := hide (N0.out.below hb1 (Nat.le_refl _))
            have S1 := hide (S0.out.below hb1 (Nat.le_refl _))
            have C1 := hide (C0.out.below hb1 (Nat.le_refl _))
            have K1 := hide (K0.out.below hb1 (Nat.le_refl _))
            have L1 := hide (L0.out.below hb1 (Nat.le_refl _))
            have HB1 := hide (below_step HB0.out hb1)
            have hsz : Hid (w0.heap.size + 2 ≤ w1.heap.size) := by have := V0.out.lt; have := hb1.size; unfold Hid; omega
            clear G0 V0 D0 N0 S0 C0 K0 L0 HB0 hb1
            obtain ⟨kb, ko, ka, kcap, hq, hcell, hrow⟩ := K1.out.at hjg
            subst hq
            have KC := hide hcell
            have KR := hide hrow
            clear hcell hrow
            have HK : Hid (∀ w', Grew w1 w' → w'.cell? ⟨w0.heap.size, 0, none⟩ = some (.int .i64 d.self) ∧ w'.cell? ⟨w0.heap.size, 1, none⟩ = some (.slice da1 d.st.clock.length dc1) ∧ w'.cell? ⟨w0.heap.size, 2, none⟩ = some (.slice da2 d.st.lives.length dc2) ∧ w'.cell? ⟨w0.heap.size, 3, none⟩ = some (.slice da3 d.st.tals.length dc3) ∧ w'.cell? ⟨w0.heap.size, 4, none⟩ = some (.slice da4 d.base.length dc4) ∧ w'.cell? ⟨w0.heap.size, 5, none⟩ = some (.slice da5 d.log.length dc5) ∧ w'.cell? ⟨w0.heap.size, 6, none⟩ = some (.slice (some ⟨kb, ko, none⟩) d.known.length dc6) ∧ w'.cell? ⟨w0.heap.size + 1, 0, none⟩ = some (.int .i64 (j : Int)) ∧ w'.cell? ⟨w0.heap.size + 1, 1, none⟩ = some (.slice fa1 f.st.clock.length fc1) ∧ w'.cell? ⟨w0.heap.size + 1, 2, none⟩ = some (.slice fa2 f.st.lives.length fc2) ∧ w'.cell? ⟨w0.heap.size + 1, 3, none⟩ = some (.slice fa3 f.st.tals.length fc3) ∧ w'.cell? ⟨w0.heap.size + 1, 4, none⟩ = some (.slice fa4 f.base.length fc4) ∧ w'.cell? ⟨w0.heap.size + 1, 5, none⟩ = some (.slice fa5 f.log.length fc5) ∧ w'.cell? ⟨w0.heap.size + 1, 6, none⟩ = some (.slice fa6 f.known.length fc6) ∧ w'.cell? ⟨kb, ko + j, none⟩ = some (.slice ka kc.length kcap)) := fun w' hg => ⟨(G1.out.below hg (Nat.le_refl _)).get 0 rfl, (G1.out.below hg (Nat.le_refl _)).get 1 rfl, (G1.out.below hg (Nat.le_refl _)).get 2 rfl, (G1.out.below hg (Nat.le_refl _)).get 3 rfl, (G1.out.below hg (Nat.le_refl _)).get 4 rfl, (G1.out.below hg (Nat.le_refl _)).get 5 rfl, (G1.out.below hg (Nat.le_refl _)).get 6 rfl, (V1.out.below hg (Nat.le_refl _)).get 0 rfl, (V1.out.below hg (Nat.le_refl _)).get 1 rfl, (V1.out.below hg (Nat.le_refl _)).get 2 rfl, (V1.out.below hg (Nat.le_refl _)).get 3 rfl, (V1.out.below hg (Nat.le_refl _)).get 4 rfl, (V1.out.below hg (Nat.le_refl _)).get 5 rfl, (V1.out.below hg (Nat.le_refl _)).get 6 rfl, (hg.cell (p := ⟨kb, ko + j, none⟩) (World.block_lt_of_cell? w1 _ KC.out)).trans KC.out⟩
            go_upto_region 3 with fail
            go_cut [49] (fun c wx => c = .bool true ∧ Hid (Grew w1 wx))
            case first =>
              refine wp_region_held_drew (S := fun w' => w'.cell? ⟨w0.heap.size, 0, none⟩ = some (.int .i64 d.self) ∧ w'.cell? ⟨w0.heap.size, 1, none⟩ = some (.slice da1 d.st.clock.length dc1) ∧ w'.cell? ⟨w0.heap.size, 2, none⟩ = some (.slice da2 d.st.lives.length dc2) ∧ w'.cell? ⟨w0.heap.size, 3, none⟩ = some (.slice da3 d.st.tals.length dc3) ∧ w'.cell? ⟨w0.heap.size, 4, none⟩ = some (.slice da4 d.base.length dc4) ∧ w'.cell? ⟨w0.heap.size, 5, none⟩ = some (.slice da5 d.log.length dc5) ∧ w'.cell? ⟨w0.heap.size, 6, none⟩ = some (.slice (some ⟨kb, ko, none⟩) d.known.length dc6) ∧ w'.cell? ⟨w0.heap.size + 1, 0, none⟩ = some (.int .i64 (j : Int)) ∧ w'.cell? ⟨w0.heap.size + 1, 1, none⟩ = some (.slice fa1 f.st.clock.length fc1) ∧ w'.cell? ⟨w0.heap.size + 1, 2, none⟩ = some (.slice fa2 f.st.lives.length fc2) ∧ w'.cell? ⟨w0.heap.size + 1, 3, none⟩ = some (.slice fa3 f.st.tals.length fc3) ∧ w'.cell? ⟨w0.heap.size + 1, 4, none⟩ = some (.slice fa4 f.base.length fc4) ∧ w'.cell? ⟨w0.heap.size + 1, 5, none⟩ = some (.slice fa5 f.log.length fc5) ∧ w'.cell? ⟨w0.heap.size + 1, 6, none⟩ = some (.slice fa6 f.known.length fc6) ∧ w'.cell? ⟨kb, ko + j, none⟩ = some (.slice ka kc.length kcap)) (by kernel_rfl) (HK.out _ (grew_drew (grew_refl _))) (fun hHeld => ?_)
              obtain ⟨wd, HWD⟩ : ∃ wd, Hid (w1.drew = wd) := ⟨_, rfl⟩
              have hgd : Grew w1 wd := by rw [← HWD.out]; exact grew_drew (grew_refl w1)
              rw [HWD.out] at hHeld ⊢
              refine take_yes 0 13 (.agg #[.int .i64 d.self, .slice da1 d.st.clock.length dc1, .slice da2 d.st.lives.length dc2, .slice da3 d.st.tals.length dc3, .slice da4 d.base.length dc4, .slice da5 d.log.length dc5, .slice (some ⟨kb, ko, none⟩) d.known.length dc6]) rfl rfl (by kernel_rfl) (by kernel_rfl) (by kernel_rfl) (fun _ _ _ h => h) rfl (by intro w hSw; (try dsimp only at hSw); go_simp) (by assumption) ?_
              simp only [Act.put, List.setIfInBounds_toArray, List.set_cons_zero, List.set_cons_succ]
              refine wpAnyH_ready (rs := [1]) (by kernel_rfl) (by simp) ?_
              refine (AllReadyH.cons (o := _) rfl (fun K hK => ?_) AllReadyH.nil)
              go_simp
              refine (wrong_node _ d _ (D1.out.below hgd (Nat.le_refl _))).mono ?_
              rintro e w_1 ⟨rfl, hb_1⟩
              rw [HEd.out]
              have hg_1 : Grew w1 w_1 := grew_step hgd hb_1
              refine hK.out _ _ (HK.out _ hg_1) (fun _ => ?_)
              clear hK K
              try simp only [Act.put, List.setIfInBounds_toArray, List.set_cons_zero, List.set_cons_succ]
              refine take_yes 2 15 (.bool false) rfl rfl (by kernel_rfl) (by kernel_rfl) (by kernel_rfl) (fun _ _ _ h => h) rfl (by intro w hSw; (try dsimp only at hSw); go_simp) (by assumption) ?_
              simp only [Act.put, List.setIfInBounds_toArray, List.set_cons_zero, List.set_cons_succ]
              refine take_yes 3 16 (.bool false) rfl rfl (by kernel_rfl) (by kernel_rfl) (by kernel_rfl) (fun _ _ _ h => h) rfl (by intro w hSw; (try dsimp only at hSw); go_simp) (by assumption) ?_
              simp only [Act.put, List.setIfInBounds_toArray, List.set_cons_zero, List.set_cons_succ]
              refine take_yes 4 17 (.agg #[.int .i64 (j : Int), .slice fa1 f.st.clock.length fc1, .slice fa2 f.st.lives.length fc2, .slice fa3 f.st.tals.length fc3, .slice fa4 f.base.length fc4, .slice fa5 f.log.length fc5, .slice fa6 f.known.length fc6]) rfl rfl (by kernel_rfl) (by kernel_rfl) (by kernel_rfl) (fun _ _ _ h => h) rfl (by intro w hSw; (try dsimp only at hSw); go_simp) (by assumption) ?_
              simp only [Act.put, List.setIfInBounds_toArray, List.set_cons_zero, List.set_cons_succ]
              refine wpAnyH_ready (rs := [5]) (by kernel_rfl) (by simp) ?_
              refine (AllReadyH.cons (o := _) rfl (fun K hK => ?_) AllReadyH.nil)
              go_simp
              refine (wrong_node _ f _ (N1.out.below hg_1 (Nat.le_refl _))).mono ?_
              rintro e w_1_5 ⟨rfl, hb_1_5⟩
              rw [HEf.out]
              have hg_1_5 : Grew w1 w_1_5 := grew_step hg_1 hb_1_5
              refine hK.out _ _ (HK.out _ hg_1_5) (fun _ => ?_)
              clear hK K
              try simp only [Act.put, List.setIfInBounds_toArray, List.set_cons_zero, List.set_cons_succ]
              refine take_yes 6 19 (.bool false) rfl rfl (by kernel_rfl) (by kernel_rfl) (by kernel_rfl) (fun _ _ _ h => h) rfl (by intro w hSw; (try dsimp only at hSw); go_simp) (by assumption) ?_
              simp only [Act.put, List.setIfInBounds_toArray, List.set_cons_zero, List.set_cons_succ]
              refine take_yes 7 20 (.bool false) rfl rfl (by kernel_rfl) (by kernel_rfl) (by kernel_rfl) (fun _ _ _ h => h) rfl (by intro w hSw; (try dsimp only at hSw); go_simp) (by assumption) ?_
              simp only [Act.put, List.setIfInBounds_toArray, List.set_cons_zero, List.set_cons_succ]
              refine take_yes 8 21 (.bool false) rfl rfl (by kernel_rfl) (by kernel_rfl) (by kernel_rfl) (fun _ _ _ h => h) rfl (by intro w hSw; (try dsimp only at hSw); go_simp) (by assumption) ?_
              simp only [Act.put, List.setIfInBounds_toArray, List.set_cons_zero, List.set_cons_succ]
              refine take_yes 9 22 (.pointer (some ⟨w0.heap.size, 6, none⟩)) rfl rfl (by kernel_rfl) (by kernel_rfl) (by kernel_rfl) (fun _ _ _ h => h) rfl (by intro w hSw; (try dsimp only at hSw); go_simp) (by assumption) ?_
              simp only [Act.put, List.setIfInBounds_toArray, List.set_cons_zero, List.set_cons_succ]
              refine take_yes 10 23 (.slice (some ⟨kb, ko, none⟩) d.known.length dc6) rfl rfl (by kernel_rfl) (by kernel_rfl) (by kernel_rfl) (fun _ _ _ h => h) rfl (by intro w hSw; (try dsimp only at hSw); go_simp) (by assumption) ?_
              simp only [Act.put, List.setIfInBounds_toArray, List.set_cons_zero, List.set_cons_succ]
              refine take_yes 11 24 (.int .i64 d.known.length) rfl rfl (by kernel_rfl) (by kernel_rfl) (by kernel_rfl) (fun _ _ _ h => h) rfl (by intro w hSw; (try dsimp only at hSw); go_simp) (by assumption) ?_
              simp only [Act.put, List.setIfInBounds_toArray, List.set_cons_zero, List.set_cons_succ]
              refine take_yes 12 25 (.pointer (some ⟨w0.heap.size + 1, 6, none⟩)) rfl rfl (by kernel_rfl) (by kernel_rfl) (by kernel_rfl) (fun _ _ _ h => h) rfl (by intro w hSw; (try dsimp only at hSw); go_simp) (by assumption) ?_
              simp only [Act.put, List.setIfInBounds_toArray, List.set_cons_zero, List.set_cons_succ]
              refine take_yes 13 26 (.slice fa6 f.known.length fc6) rfl rfl (by kernel_rfl) (by kernel_rfl) (by kernel_rfl) (fun _ _ _ h => h) rfl (by intro w hSw; (try dsimp only at hSw); go_simp) (by assumption) ?_
              simp only [Act.put, List.setIfInBounds_toArray, List.set_cons_zero, List.set_cons_succ]
              refine take_yes 14 27 (.int .i64 f.known.length) rfl rfl (by kernel_rfl) (by kernel_rfl) (by kernel_rfl) (fun _ _ _ h => h) rfl (by intro w hSw; (try dsimp only at hSw); go_simp) (by assumption) ?_
              simp only [Act.put, List.setIfInBounds_toArray, List.set_cons_zero, List.set_cons_succ]
              refine take_yes 15 28 (.bool false) rfl rfl (by kernel_rfl) (by kernel_rfl) (by kernel_rfl) (fun _ _ _ h => h) rfl (by intro w hSw; (try dsimp only at hSw); go_simp) (by assumption) ?_
              simp only [Act.put, List.setIfInBounds_toArray, List.set_cons_zero, List.set_cons_succ]
              refine take_yes 16 29 (.bool false) rfl rfl (by kernel_rfl) (by kernel_rfl) (by kernel_rfl) (fun _ _ _ h => h) rfl (by intro w hSw; (try dsimp only at hSw); go_simp) (by assumption) ?_
              simp only [Act.put, List.setIfInBounds_toArray, List.set_cons_zero, List.set_cons_succ]
              refine take_yes 17 30 (.bool false) rfl rfl (by kernel_rfl) (by kernel_rfl) (by kernel_rfl) (fun _ _ _ h => h) rfl (by intro w hSw; (try dsimp only at hSw); go_simp) (by assumption) ?_
              simp only [Act.put, List.setIfInBounds_toArray, List.set_cons_zero, List.set_cons_succ]
              refine take_yes 18 31 (.pointer (some ⟨w0.heap.size, 0, none⟩)) rfl rfl (by kernel_rfl) (by kernel_rfl) (by kernel_rfl) (fun _ _ _ h => h) rfl (by intro w hSw; (try dsimp only at hSw); go_simp) (by assumption) ?_
              simp only [Act.put, List.setIfInBounds_toArray, List.set_cons_zero, List.set_cons_succ]
              refine take_yes 19 32 (.int .i64 d.self) rfl rfl (by kernel_rfl) (by kernel_rfl) (by kernel_rfl) (fun _ _ _ h => h) rfl (by intro w hSw; (try dsimp only at hSw); go_simp) (by assumption) ?_
              simp only [Act.put, List.setIfInBounds_toArray, List.set_cons_zero, List.set_cons_succ]
              refine take_yes 20 33 (.pointer (some ⟨w0.heap.size + 1, 0, none⟩)) rfl rfl (by kernel_rfl) (by kernel_rfl) (by kernel_rfl) (fun _ _ _ h => h) rfl (by intro w hSw; (try dsimp only at hSw); go_simp) (by assumption) ?_
              simp only [Act.put, List.setIfInBounds_toArray, List.set_cons_zero, List.set_cons_succ]
              refine take_yes 21 34 (.int .i64 (j : Int)) rfl rfl (by kernel_rfl) (by kernel_rfl) (by kernel_rfl) (fun _ _ _ h => h) rfl (by intro w hSw; (try dsimp only at hSw); go_simp) (by assumption) ?_
              simp only [Act.put, List.setIfInBounds_toArray, List.set_cons_zero, List.set_cons_succ]
              refine take_yes 22 35 (.bool false) rfl rfl (by kernel_rfl) (by kernel_rfl) (by kernel_rfl) (fun _ _ _ h => h) rfl (by intro w hSw; (try dsimp only at hSw); go_simp) (by assumption) ?_
              simp only [Act.put, List.setIfInBounds_toArray, List.set_cons_zero, List.set_cons_succ]
              refine take_yes 23 36 (.bool false) rfl rfl (by kernel_rfl) (by kernel_rfl) (by kernel_rfl) (fun _ _ _ h => h) rfl (by intro w hSw; (try dsimp only at hSw); go_simp) (by assumption) ?_
              simp only [Act.put, List.setIfInBounds_toArray, List.set_cons_zero, List.set_cons_succ]
              refine take_yes 24 37 (.bool false) rfl rfl (by kernel_rfl) (by kernel_rfl) (by kernel_rfl) (fun _ _ _ h => h) rfl (by intro w hSw; (try dsimp only at hSw); go_simp) (by assumption) ?_
              simp only [Act.put, List.setIfInBounds_toArray, List.set_cons_zero, List.set_cons_succ]
              refine take_yes 25 38 (.pointer (some ⟨w0.heap.size + 1, 1, none⟩)) rfl rfl (by kernel_rfl) (by kernel_rfl) (by kernel_rfl) (fun _ _ _ h => h) rfl (by intro w hSw; (try dsimp only at hSw); go_simp) (by assumption) ?_
              simp only [Act.put, List.setIfInBounds_toArray, List.set_cons_zero, List.set_cons_succ]
              refine take_yes 26 39 (.pointer (some ⟨w0.heap.size + 1, 1, none⟩)) rfl rfl (by kernel_rfl) (by kernel_rfl) (by kernel_rfl) (fun _ _ _ h => h) rfl (by intro w hSw; (try dsimp only at hSw); go_simp) (by assumption) ?_
              simp only [Act.put, List.setIfInBounds_toArray, List.set_cons_zero, List.set_cons_succ]
              refine take_yes 27 40 (.slice fa1 f.st.clock.length fc1) rfl rfl (by kernel_rfl) (by kernel_rfl) (by kernel_rfl) (fun _ _ _ h => h) rfl (by intro w hSw; (try dsimp only at hSw); go_simp) (by assumption) ?_
              simp only [Act.put, List.setIfInBounds_toArray, List.set_cons_zero, List.set_cons_succ]
              refine take_yes 28 41 (.pointer (some ⟨w0.heap.size, 6, none⟩)) rfl rfl (by kernel_rfl) (by kernel_rfl) (by kernel_rfl) (fun _ _ _ h => h) rfl (by intro w hSw; (try dsimp only at hSw); go_simp) (by assumption) ?_
              simp only [Act.put, List.setIfInBounds_toArray, List.set_cons_zero, List.set_cons_succ]
              refine take_yes 29 42 (.slice (some ⟨kb, ko, none⟩) d.known.length dc6) rfl rfl (by kernel_rfl) (by kernel_rfl) (by kernel_rfl) (fun _ _ _ h => h) rfl (by intro w hSw; (try dsimp only at hSw); go_simp) (by assumption) ?_
              simp only [Act.put, List.setIfInBounds_toArray, List.set_cons_zero, List.set_cons_succ]
              refine take_yes 30 43 (.pointer (some ⟨w0.heap.size + 1, 0, none⟩)) rfl rfl (by kernel_rfl) (by kernel_rfl) (by kernel_rfl) (fun _ _ _ h => h) rfl (by intro w hSw; (try dsimp only at hSw); go_simp) (by assumption) ?_
              simp only [Act.put, List.setIfInBounds_toArray, List.set_cons_zero, List.set_cons_succ]
              refine take_yes 31 44 (.int .i64 (j : Int)) rfl rfl (by kernel_rfl) (by kernel_rfl) (by kernel_rfl) (fun _ _ _ h => h) rfl (by intro w hSw; (try dsimp only at hSw); go_simp) (by assumption) ?_
              simp only [Act.put, List.setIfInBounds_toArray, List.set_cons_zero, List.set_cons_succ]
              refine take_yes 32 45 (.pointer (some ⟨kb, ko + j, none⟩)) rfl rfl (by kernel_rfl) (by kernel_rfl) (by kernel_rfl) (fun _ _ _ h => h) rfl (by intro w hSw; (try dsimp only at hSw); go_simp) (by assumption) ?_
              simp only [Act.put, List.setIfInBounds_toArray, List.set_cons_zero, List.set_cons_succ]
              refine take_yes 33 46 (.slice ka kc.length kcap) rfl rfl (by kernel_rfl) (by kernel_rfl) (by kernel_rfl) (fun _ _ _ h => h) rfl (by intro w hSw; (try dsimp only at hSw); go_simp) (by assumption) ?_
              simp only [Act.put, List.setIfInBounds_toArray, List.set_cons_zero, List.set_cons_succ]
              refine wpAnyH_ready (rs := [34]) (by kernel_rfl) (by simp) ?_
              refine (AllReadyH.cons (o := _) rfl (fun K hK => ?_) AllReadyH.nil)
              go_simp
              refine (sees_clock _ _ f.st.clock kc _ (L1.out.below hg_1_5 (Nat.le_refl _)) (KR.out.below hg_1_5 (Nat.le_refl _))).mono ?_
              rintro e w_1_5_34 ⟨rfl, hb_1_5_34⟩
              rw [HSB.out]
              have hg_1_5_34 : Grew w1 w_1_5_34 := grew_step hg_1_5 hb_1_5_34
              refine hK.out _ _ (HK.out _ hg_1_5_34) (fun _ => ?_)
              clear hK K
              try simp only [Act.put, List.setIfInBounds_toArray, List.set_cons_zero, List.set_cons_succ]
              refine take_yes 35 48 (.bool true) rfl rfl (by kernel_rfl) (by kernel_rfl) (by kernel_rfl) (fun _ _ _ h => h) rfl (by intro w hSw; (try dsimp only at hSw); go_simp) (by assumption) ?_
              simp only [Act.put, List.setIfInBounds_toArray, List.set_cons_zero, List.set_cons_succ]
              refine take_yes 36 49 (.bool true) rfl rfl (by kernel_rfl) (by kernel_rfl) (by kernel_rfl) (fun _ _ _ h => h) rfl (by intro w hSw; (try dsimp only at hSw); go_simp) (by assumption) ?_
              simp only [Act.put, List.setIfInBounds_toArray, List.set_cons_zero, List.set_cons_succ]
              refine wpAnyH_done (by kernel_rfl) ?_ _
              go_wp2_with fail
              go_meet
              exact ⟨rfl, hg_1_5_34⟩
            case rest =>
              obtain ⟨rfl, HGR⟩ := hcut
              obtain ⟨w2, rfl⟩ : ∃ w2, w2 = wc := ⟨wc, rfl⟩
              have G2 := hide (G1.out.below HGR.out (Nat.le_refl _))
              have V2 := hide (V1.out.below HGR.out (Nat.le_refl _))
              have D2 := hide (D1.out.below HGR.out (Nat.le_refl _))
              have N2 := hide (N1.out.below HGR.out (Nat.le_refl _))
              have S2 := hide (S1.out.below HGR.out (Nat.le_refl _))
              have C2 := hide (C1.out.below HGR.out (Nat.le_refl _))
              have K2 := hide (K1.out.below HGR.out (Nat.le_refl _))
              have L2 := hide (L1.out.below HGR.out (Nat.le_refl _))
              have HB2 := hide (below_step HB1.out HGR.out)
              have hsz2 : Hid (w0.heap.size + 2 ≤ w2.heap.size) := by have := hsz.out; have := HGR.out.size; unfold Hid; omega
              clear G1 V1 D1 N1 S1 C1 K1 L1 HB1 HGR HK
              go_wp2_with fail
              go_ret
              exact ⟨rfl, HB2.out⟩
          · skip
            go_enter Tryz.func5, Tryz.ntmps5
            go_upto_region 1 with fail
            rw [HW0.out]
            go_wp2_with fail
            refine (alive6 _).mono ?_
            rintro e w1 ⟨rfl, hb1⟩
            have G1 := hide (G0.out.below hb1 (Nat.le_refl _))
            have V1 := hide (V0.out.below hb1 (Nat.le_refl _))
            have D1 := hide (D0.out.below hb1 (Nat.le_refl _))
            have N1 := hide (N0.out.below hb1 (Nat.le_refl _))
            have S1 := hide (S0.out.below hb1 (Nat.le_refl _))
            have C1 := hide (C0.out.below hb1 (Nat.le_refl _))
            have K1 := hide (K0.out.below hb1 (Nat.le_refl _))
            have L1 := hide (L0.out.below hb1 (Nat.le_refl _))
            have HB1 := hide (below_step HB0.out hb1)
            have hsz : Hid (w0.heap.size + 2 ≤ w1.heap.size) := by have := V0.out.lt; have := hb1.size; unfold Hid; omega
            clear G0 V0 D0 N0 S0 C0 K0 L0 HB0 hb1
            obtain ⟨kb, ko, ka, kcap, hq, hcell, hrow⟩ := K1.out.at hjg
            subst hq
            have KC := hide hcell
            have KR := hide hrow
            clear hcell hrow
            have HK : Hid (∀ w', Grew w1 w' → w'.cell? ⟨w0.heap.size, 0, none⟩ = some (.int .i64 d.self) ∧ w'.cell? ⟨w0.heap.size, 1, none⟩ = some (.slice da1 d.st.clock.length dc1) ∧ w'.cell? ⟨w0.heap.size, 2, none⟩ = some (.slice da2 d.st.lives.length dc2) ∧ w'.cell? ⟨w0.heap.size, 3, none⟩ = some (.slice da3 d.st.tals.length dc3) ∧ w'.cell? ⟨w0.heap.size, 4, none⟩ = some (.slice da4 d.base.length dc4) ∧ w'.cell? ⟨w0.heap.size, 5, none⟩ = some (.slice da5 d.log.length dc5) ∧ w'.cell? ⟨w0.heap.size, 6, none⟩ = some (.slice (some ⟨kb, ko, none⟩) d.known.length dc6) ∧ w'.cell? ⟨w0.heap.size + 1, 0, none⟩ = some (.int .i64 (j : Int)) ∧ w'.cell? ⟨w0.heap.size + 1, 1, none⟩ = some (.slice fa1 f.st.clock.length fc1) ∧ w'.cell? ⟨w0.heap.size + 1, 2, none⟩ = some (.slice fa2 f.st.lives.length fc2) ∧ w'.cell? ⟨w0.heap.size + 1, 3, none⟩ = some (.slice fa3 f.st.tals.length fc3) ∧ w'.cell? ⟨w0.heap.size + 1, 4, none⟩ = some (.slice fa4 f.base.length fc4) ∧ w'.cell? ⟨w0.heap.size + 1, 5, none⟩ = some (.slice fa5 f.log.length fc5) ∧ w'.cell? ⟨w0.heap.size + 1, 6, none⟩ = some (.slice fa6 f.known.length fc6) ∧ w'.cell? ⟨kb, ko + j, none⟩ = some (.slice ka kc.length kcap)) := fun w' hg => ⟨(G1.out.below hg (Nat.le_refl _)).get 0 rfl, (G1.out.below hg (Nat.le_refl _)).get 1 rfl, (G1.out.below hg (Nat.le_refl _)).get 2 rfl, (G1.out.below hg (Nat.le_refl _)).get 3 rfl, (G1.out.below hg (Nat.le_refl _)).get 4 rfl, (G1.out.below hg (Nat.le_refl _)).get 5 rfl, (G1.out.below hg (Nat.le_refl _)).get 6 rfl, (V1.out.below hg (Nat.le_refl _)).get 0 rfl, (V1.out.below hg (Nat.le_refl _)).get 1 rfl, (V1.out.below hg (Nat.le_refl _)).get 2 rfl, (V1.out.below hg (Nat.le_refl _)).get 3 rfl, (V1.out.below hg (Nat.le_refl _)).get 4 rfl, (V1.out.below hg (Nat.le_refl _)).get 5 rfl, (V1.out.below hg (Nat.le_refl _)).get 6 rfl, (hg.cell (p := ⟨kb, ko + j, none⟩) (World.block_lt_of_cell? w1 _ KC.out)).trans KC.out⟩
            go_upto_region 3 with fail
            go_cut [49] (fun c wx => c = .bool false ∧ Hid (Grew w1 wx))
            case first =>
              refine wp_region_held_drew (S := fun w' => w'.cell? ⟨w0.heap.size, 0, none⟩ = some (.int .i64 d.self) ∧ w'.cell? ⟨w0.heap.size, 1, none⟩ = some (.slice da1 d.st.clock.length dc1) ∧ w'.cell? ⟨w0.heap.size, 2, none⟩ = some (.slice da2 d.st.lives.length dc2) ∧ w'.cell? ⟨w0.heap.size, 3, none⟩ = some (.slice da3 d.st.tals.length dc3) ∧ w'.cell? ⟨w0.heap.size, 4, none⟩ = some (.slice da4 d.base.length dc4) ∧ w'.cell? ⟨w0.heap.size, 5, none⟩ = some (.slice da5 d.log.length dc5) ∧ w'.cell? ⟨w0.heap.size, 6, none⟩ = some (.slice (some ⟨kb, ko, none⟩) d.known.length dc6) ∧ w'.cell? ⟨w0.heap.size + 1, 0, none⟩ = some (.int .i64 (j : Int)) ∧ w'.cell? ⟨w0.heap.size + 1, 1, none⟩ = some (.slice fa1 f.st.clock.length fc1) ∧ w'.cell? ⟨w0.heap.size + 1, 2, none⟩ = some (.slice fa2 f.st.lives.length fc2) ∧ w'.cell? ⟨w0.heap.size + 1, 3, none⟩ = some (.slice fa3 f.st.tals.length fc3) ∧ w'.cell? ⟨w0.heap.size + 1, 4, none⟩ = some (.slice fa4 f.base.length fc4) ∧ w'.cell? ⟨w0.heap.size + 1, 5, none⟩ = some (.slice fa5 f.log.length fc5) ∧ w'.cell? ⟨w0.heap.size + 1, 6, none⟩ = some (.slice fa6 f.known.length fc6) ∧ w'.cell? ⟨kb, ko + j, none⟩ = some (.slice ka kc.length kcap)) (by kernel_rfl) (HK.out _ (grew_drew (grew_refl _))) (fun hHeld => ?_)
              obtain ⟨wd, HWD⟩ : ∃ wd, Hid (w1.drew = wd) := ⟨_, rfl⟩
              have hgd : Grew w1 wd := by rw [← HWD.out]; exact grew_drew (grew_refl w1)
              rw [HWD.out] at hHeld ⊢
              refine take_yes 0 13 (.agg #[.int .i64 d.self, .slice da1 d.st.clock.length dc1, .slice da2 d.st.lives.length dc2, .slice da3 d.st.tals.length dc3, .slice da4 d.base.length dc4, .slice da5 d.log.length dc5, .slice (some ⟨kb, ko, none⟩) d.known.length dc6]) rfl rfl (by kernel_rfl) (by kernel_rfl) (by kernel_rfl) (fun _ _ _ h => h) rfl (by intro w hSw; (try dsimp only at hSw); go_simp) (by assumption) ?_
              simp only [Act.put, List.setIfInBounds_toArray, List.set_cons_zero, List.set_cons_succ]
              refine wpAnyH_ready (rs := [1]) (by kernel_rfl) (by simp) ?_
              refine (AllReadyH.cons (o := _) rfl (fun K hK => ?_) AllReadyH.nil)
              go_simp
              refine (wrong_node _ d _ (D1.out.below hgd (Nat.le_refl _))).mono ?_
              rintro e w_1 ⟨rfl, hb_1⟩
              rw [HEd.out]
              have hg_1 : Grew w1 w_1 := grew_step hgd hb_1
              refine hK.out _ _ (HK.out _ hg_1) (fun _ => ?_)
              clear hK K
              try simp only [Act.put, List.setIfInBounds_toArray, List.set_cons_zero, List.set_cons_succ]
              refine take_yes 2 15 (.bool false) rfl rfl (by kernel_rfl) (by kernel_rfl) (by kernel_rfl) (fun _ _ _ h => h) rfl (by intro w hSw; (try dsimp only at hSw); go_simp) (by assumption) ?_
              simp only [Act.put, List.setIfInBounds_toArray, List.set_cons_zero, List.set_cons_succ]
              refine take_yes 3 16 (.bool false) rfl rfl (by kernel_rfl) (by kernel_rfl) (by kernel_rfl) (fun _ _ _ h => h) rfl (by intro w hSw; (try dsimp only at hSw); go_simp) (by assumption) ?_
              simp only [Act.put, List.setIfInBounds_toArray, List.set_cons_zero, List.set_cons_succ]
              refine take_yes 4 17 (.agg #[.int .i64 (j : Int), .slice fa1 f.st.clock.length fc1, .slice fa2 f.st.lives.length fc2, .slice fa3 f.st.tals.length fc3, .slice fa4 f.base.length fc4, .slice fa5 f.log.length fc5, .slice fa6 f.known.length fc6]) rfl rfl (by kernel_rfl) (by kernel_rfl) (by kernel_rfl) (fun _ _ _ h => h) rfl (by intro w hSw; (try dsimp only at hSw); go_simp) (by assumption) ?_
              simp only [Act.put, List.setIfInBounds_toArray, List.set_cons_zero, List.set_cons_succ]
              refine wpAnyH_ready (rs := [5]) (by kernel_rfl) (by simp) ?_
              refine (AllReadyH.cons (o := _) rfl (fun K hK => ?_) AllReadyH.nil)
              go_simp
              refine (wrong_node _ f _ (N1.out.below hg_1 (Nat.le_refl _))).mono ?_
              rintro e w_1_5 ⟨rfl, hb_1_5⟩
              rw [HEf.out]
              have hg_1_5 : Grew w1 w_1_5 := grew_step hg_1 hb_1_5
              refine hK.out _ _ (HK.out _ hg_1_5) (fun _ => ?_)
              clear hK K
              try simp only [Act.put, List.setIfInBounds_toArray, List.set_cons_zero, List.set_cons_succ]
              refine take_yes 6 19 (.bool false) rfl rfl (by kernel_rfl) (by kernel_rfl) (by kernel_rfl) (fun _ _ _ h => h) rfl (by intro w hSw; (try dsimp only at hSw); go_simp) (by assumption) ?_
              simp only [Act.put, List.setIfInBounds_toArray, List.set_cons_zero, List.set_cons_succ]
              refine take_yes 7 20 (.bool false) rfl rfl (by kernel_rfl) (by kernel_rfl) (by kernel_rfl) (fun _ _ _ h => h) rfl (by intro w hSw; (try dsimp only at hSw); go_simp) (by assumption) ?_
              simp only [Act.put, List.setIfInBounds_toArray, List.set_cons_zero, List.set_cons_succ]
              refine take_yes 8 21 (.bool false) rfl rfl (by kernel_rfl) (by kernel_rfl) (by kernel_rfl) (fun _ _ _ h => h) rfl (by intro w hSw; (try dsimp only at hSw); go_simp) (by assumption) ?_
              simp only [Act.put, List.setIfInBounds_toArray, List.set_cons_zero, List.set_cons_succ]
              refine take_yes 9 22 (.pointer (some ⟨w0.heap.size, 6, none⟩)) rfl rfl (by kernel_rfl) (by kernel_rfl) (by kernel_rfl) (fun _ _ _ h => h) rfl (by intro w hSw; (try dsimp only at hSw); go_simp) (by assumption) ?_
              simp only [Act.put, List.setIfInBounds_toArray, List.set_cons_zero, List.set_cons_succ]
              refine take_yes 10 23 (.slice (some ⟨kb, ko, none⟩) d.known.length dc6) rfl rfl (by kernel_rfl) (by kernel_rfl) (by kernel_rfl) (fun _ _ _ h => h) rfl (by intro w hSw; (try dsimp only at hSw); go_simp) (by assumption) ?_
              simp only [Act.put, List.setIfInBounds_toArray, List.set_cons_zero, List.set_cons_succ]
              refine take_yes 11 24 (.int .i64 d.known.length) rfl rfl (by kernel_rfl) (by kernel_rfl) (by kernel_rfl) (fun _ _ _ h => h) rfl (by intro w hSw; (try dsimp only at hSw); go_simp) (by assumption) ?_
              simp only [Act.put, List.setIfInBounds_toArray, List.set_cons_zero, List.set_cons_succ]
              refine take_yes 12 25 (.pointer (some ⟨w0.heap.size + 1, 6, none⟩)) rfl rfl (by kernel_rfl) (by kernel_rfl) (by kernel_rfl) (fun _ _ _ h => h) rfl (by intro w hSw; (try dsimp only at hSw); go_simp) (by assumption) ?_
              simp only [Act.put, List.setIfInBounds_toArray, List.set_cons_zero, List.set_cons_succ]
              refine take_yes 13 26 (.slice fa6 f.known.length fc6) rfl rfl (by kernel_rfl) (by kernel_rfl) (by kernel_rfl) (fun _ _ _ h => h) rfl (by intro w hSw; (try dsimp only at hSw); go_simp) (by assumption) ?_
              simp only [Act.put, List.setIfInBounds_toArray, List.set_cons_zero, List.set_cons_succ]
              refine take_yes 14 27 (.int .i64 f.known.length) rfl rfl (by kernel_rfl) (by kernel_rfl) (by kernel_rfl) (fun _ _ _ h => h) rfl (by intro w hSw; (try dsimp only at hSw); go_simp) (by assumption) ?_
              simp only [Act.put, List.setIfInBounds_toArray, List.set_cons_zero, List.set_cons_succ]
              refine take_yes 15 28 (.bool false) rfl rfl (by kernel_rfl) (by kernel_rfl) (by kernel_rfl) (fun _ _ _ h => h) rfl (by intro w hSw; (try dsimp only at hSw); go_simp) (by assumption) ?_
              simp only [Act.put, List.setIfInBounds_toArray, List.set_cons_zero, List.set_cons_succ]
              refine take_yes 16 29 (.bool false) rfl rfl (by kernel_rfl) (by kernel_rfl) (by kernel_rfl) (fun _ _ _ h => h) rfl (by intro w hSw; (try dsimp only at hSw); go_simp) (by assumption) ?_
              simp only [Act.put, List.setIfInBounds_toArray, List.set_cons_zero, List.set_cons_succ]
              refine take_yes 17 30 (.bool false) rfl rfl (by kernel_rfl) (by kernel_rfl) (by kernel_rfl) (fun _ _ _ h => h) rfl (by intro w hSw; (try dsimp only at hSw); go_simp) (by assumption) ?_
              simp only [Act.put, List.setIfInBounds_toArray, List.set_cons_zero, List.set_cons_succ]
              refine take_yes 18 31 (.pointer (some ⟨w0.heap.size, 0, none⟩)) rfl rfl (by kernel_rfl) (by kernel_rfl) (by kernel_rfl) (fun _ _ _ h => h) rfl (by intro w hSw; (try dsimp only at hSw); go_simp) (by assumption) ?_
              simp only [Act.put, List.setIfInBounds_toArray, List.set_cons_zero, List.set_cons_succ]
              refine take_yes 19 32 (.int .i64 d.self) rfl rfl (by kernel_rfl) (by kernel_rfl) (by kernel_rfl) (fun _ _ _ h => h) rfl (by intro w hSw; (try dsimp only at hSw); go_simp) (by assumption) ?_
              simp only [Act.put, List.setIfInBounds_toArray, List.set_cons_zero, List.set_cons_succ]
              refine take_yes 20 33 (.pointer (some ⟨w0.heap.size + 1, 0, none⟩)) rfl rfl (by kernel_rfl) (by kernel_rfl) (by kernel_rfl) (fun _ _ _ h => h) rfl (by intro w hSw; (try dsimp only at hSw); go_simp) (by assumption) ?_
              simp only [Act.put, List.setIfInBounds_toArray, List.set_cons_zero, List.set_cons_succ]
              refine take_yes 21 34 (.int .i64 (j : Int)) rfl rfl (by kernel_rfl) (by kernel_rfl) (by kernel_rfl) (fun _ _ _ h => h) rfl (by intro w hSw; (try dsimp only at hSw); go_simp) (by assumption) ?_
              simp only [Act.put, List.setIfInBounds_toArray, List.set_cons_zero, List.set_cons_succ]
              refine take_yes 22 35 (.bool false) rfl rfl (by kernel_rfl) (by kernel_rfl) (by kernel_rfl) (fun _ _ _ h => h) rfl (by intro w hSw; (try dsimp only at hSw); go_simp) (by assumption) ?_
              simp only [Act.put, List.setIfInBounds_toArray, List.set_cons_zero, List.set_cons_succ]
              refine take_yes 23 36 (.bool false) rfl rfl (by kernel_rfl) (by kernel_rfl) (by kernel_rfl) (fun _ _ _ h => h) rfl (by intro w hSw; (try dsimp only at hSw); go_simp) (by assumption) ?_
              simp only [Act.put, List.setIfInBounds_toArray, List.set_cons_zero, List.set_cons_succ]
              refine take_yes 24 37 (.bool false) rfl rfl (by kernel_rfl) (by kernel_rfl) (by kernel_rfl) (fun _ _ _ h => h) rfl (by intro w hSw; (try dsimp only at hSw); go_simp) (by assumption) ?_
              simp only [Act.put, List.setIfInBounds_toArray, List.set_cons_zero, List.set_cons_succ]
              refine take_yes 25 38 (.pointer (some ⟨w0.heap.size + 1, 1, none⟩)) rfl rfl (by kernel_rfl) (by kernel_rfl) (by kernel_rfl) (fun _ _ _ h => h) rfl (by intro w hSw; (try dsimp only at hSw); go_simp) (by assumption) ?_
              simp only [Act.put, List.setIfInBounds_toArray, List.set_cons_zero, List.set_cons_succ]
              refine take_yes 26 39 (.pointer (some ⟨w0.heap.size + 1, 1, none⟩)) rfl rfl (by kernel_rfl) (by kernel_rfl) (by kernel_rfl) (fun _ _ _ h => h) rfl (by intro w hSw; (try dsimp only at hSw); go_simp) (by assumption) ?_
              simp only [Act.put, List.setIfInBounds_toArray, List.set_cons_zero, List.set_cons_succ]
              refine take_yes 27 40 (.slice fa1 f.st.clock.length fc1) rfl rfl (by kernel_rfl) (by kernel_rfl) (by kernel_rfl) (fun _ _ _ h => h) rfl (by intro w hSw; (try dsimp only at hSw); go_simp) (by assumption) ?_
              simp only [Act.put, List.setIfInBounds_toArray, List.set_cons_zero, List.set_cons_succ]
              refine take_yes 28 41 (.pointer (some ⟨w0.heap.size, 6, none⟩)) rfl rfl (by kernel_rfl) (by kernel_rfl) (by kernel_rfl) (fun _ _ _ h => h) rfl (by intro w hSw; (try dsimp only at hSw); go_simp) (by assumption) ?_
              simp only [Act.put, List.setIfInBounds_toArray, List.set_cons_zero, List.set_cons_succ]
              refine take_yes 29 42 (.slice (some ⟨kb, ko, none⟩) d.known.length dc6) rfl rfl (by kernel_rfl) (by kernel_rfl) (by kernel_rfl) (fun _ _ _ h => h) rfl (by intro w hSw; (try dsimp only at hSw); go_simp) (by assumption) ?_
              simp only [Act.put, List.setIfInBounds_toArray, List.set_cons_zero, List.set_cons_succ]
              refine take_yes 30 43 (.pointer (some ⟨w0.heap.size + 1, 0, none⟩)) rfl rfl (by kernel_rfl) (by kernel_rfl) (by kernel_rfl) (fun _ _ _ h => h) rfl (by intro w hSw; (try dsimp only at hSw); go_simp) (by assumption) ?_
              simp only [Act.put, List.setIfInBounds_toArray, List.set_cons_zero, List.set_cons_succ]
              refine take_yes 31 44 (.int .i64 (j : Int)) rfl rfl (by kernel_rfl) (by kernel_rfl) (by kernel_rfl) (fun _ _ _ h => h) rfl (by intro w hSw; (try dsimp only at hSw); go_simp) (by assumption) ?_
              simp only [Act.put, List.setIfInBounds_toArray, List.set_cons_zero, List.set_cons_succ]
              refine take_yes 32 45 (.pointer (some ⟨kb, ko + j, none⟩)) rfl rfl (by kernel_rfl) (by kernel_rfl) (by kernel_rfl) (fun _ _ _ h => h) rfl (by intro w hSw; (try dsimp only at hSw); go_simp) (by assumption) ?_
              simp only [Act.put, List.setIfInBounds_toArray, List.set_cons_zero, List.set_cons_succ]
              refine take_yes 33 46 (.slice ka kc.length kcap) rfl rfl (by kernel_rfl) (by kernel_rfl) (by kernel_rfl) (fun _ _ _ h => h) rfl (by intro w hSw; (try dsimp only at hSw); go_simp) (by assumption) ?_
              simp only [Act.put, List.setIfInBounds_toArray, List.set_cons_zero, List.set_cons_succ]
              refine wpAnyH_ready (rs := [34]) (by kernel_rfl) (by simp) ?_
              refine (AllReadyH.cons (o := _) rfl (fun K hK => ?_) AllReadyH.nil)
              go_simp
              refine (sees_clock _ _ f.st.clock kc _ (L1.out.below hg_1_5 (Nat.le_refl _)) (KR.out.below hg_1_5 (Nat.le_refl _))).mono ?_
              rintro e w_1_5_34 ⟨rfl, hb_1_5_34⟩
              rw [HSB.out]
              have hg_1_5_34 : Grew w1 w_1_5_34 := grew_step hg_1_5 hb_1_5_34
              refine hK.out _ _ (HK.out _ hg_1_5_34) (fun _ => ?_)
              clear hK K
              try simp only [Act.put, List.setIfInBounds_toArray, List.set_cons_zero, List.set_cons_succ]
              refine take_yes 35 48 (.bool false) rfl rfl (by kernel_rfl) (by kernel_rfl) (by kernel_rfl) (fun _ _ _ h => h) rfl (by intro w hSw; (try dsimp only at hSw); go_simp) (by assumption) ?_
              simp only [Act.put, List.setIfInBounds_toArray, List.set_cons_zero, List.set_cons_succ]
              refine take_yes 36 49 (.bool false) rfl rfl (by kernel_rfl) (by kernel_rfl) (by kernel_rfl) (fun _ _ _ h => h) rfl (by intro w hSw; (try dsimp only at hSw); go_simp) (by assumption) ?_
              simp only [Act.put, List.setIfInBounds_toArray, List.set_cons_zero, List.set_cons_succ]
              refine wpAnyH_done (by kernel_rfl) ?_ _
              go_wp2_with fail
              go_meet
              exact ⟨rfl, hg_1_5_34⟩
            case rest =>
              obtain ⟨rfl, HGR⟩ := hcut
              obtain ⟨w2, rfl⟩ : ∃ w2, w2 = wc := ⟨wc, rfl⟩
              have G2 := hide (G1.out.below HGR.out (Nat.le_refl _))
              have V2 := hide (V1.out.below HGR.out (Nat.le_refl _))
              have D2 := hide (D1.out.below HGR.out (Nat.le_refl _))
              have N2 := hide (N1.out.below HGR.out (Nat.le_refl _))
              have S2 := hide (S1.out.below HGR.out (Nat.le_refl _))
              have C2 := hide (C1.out.below HGR.out (Nat.le_refl _))
              have K2 := hide (K1.out.below HGR.out (Nat.le_refl _))
              have L2 := hide (L1.out.below HGR.out (Nat.le_refl _))
              have HB2 := hide (below_step HB1.out HGR.out)
              have hsz2 : Hid (w0.heap.size + 2 ≤ w2.heap.size) := by have := hsz.out; have := HGR.out.size; unfold Hid; omega
              clear G1 V1 D1 N1 S1 C1 K1 L1 HB1 HGR HK
              obtain ⟨q1, q2, q3, q4, q5, q6, q7⟩ := prune_right HEd.out
              have r1 := (prune_rightsP HEd.out).1
              obtain ⟨X, HX⟩ : ∃ X, Hid (pruneX d = X) := ⟨_, rfl⟩
              rw [HX.out] at q1 q2 q3 q4 q5 q6 q7 r1
              have hk : ∀ i, (X.known.getD f.self.toNat []).getD i 0 ≤ f.st.clock.getD i 0 := by
                rw [q6, HJ.out]
                intro i
                have := seesC_iff.1 HSB.out i
                rw [← HKC.out] at this
                exact this
              obtain ⟨s1, s2⟩ := sent_taken r1 HEf.out (by rw [q6]; exact HLEN.out) (by rw [q7, HJ.out]; exact HSELF.out) hk
              rw [HJ.out] at s1 s2
              obtain ⟨P, HP⟩ : ∃ P, Hid (sendX X (j : Int) = P) := ⟨_, rfl⟩
              rw [HP.out, q7, q2] at s2
              have hpl : P.ups.length ≤ 300 := by rw [← HP.out]; exact send_few r1 _
              have HQ2 := hide q2
              have hq4 : ¬ ((X.log.length : Int) > (d.log.length : Int)) := by omega
              have hq4' : ¬ ((d.log.length : Int) < (X.log.length : Int)) := by omega
              have HQ5 := hide q5
              have HR1 := hide r1
              have HS1 := hide s1
              have HS2 := hide s2
              have hfew := hide (fits_of HEf.out).few
              clear q1 q2 q3 q4 q5 q6 q7 r1 s1 s2 hk
              have cG0 := G2.out.get 0 rfl
              have cG1 := G2.out.get 1 rfl
              have cG2 := G2.out.get 2 rfl
              have cG3 := G2.out.get 3 rfl
              have cG4 := G2.out.get 4 rfl
              have cG5 := G2.out.get 5 rfl
              have cG6 := G2.out.get 6 rfl
              go_wp2_with fail
              refine (prune_node _ d _ D2.out).mono ?_
              rintro e w3 ⟨vX, rfl, hX, hb⟩
              have HB3 := hide (below_step HB2.out hb)
              have G3 := hide (G2.out.below hb (Nat.le_refl _))
              have V3 := hide (V2.out.below hb (Nat.le_refl _))
              have D3 := hide (D2.out.below hb (Nat.le_refl _))
              have N3 := hide (N2.out.below hb (Nat.le_refl _))
              have S3 := hide (S2.out.below hb (Nat.le_refl _))
              have C3 := hide (C2.out.below hb (Nat.le_refl _))
              have K3 := hide (K2.out.below hb (Nat.le_refl _))
              have L3 := hide (L2.out.below hb (Nat.le_refl _))
              have X3 := hide hX
              clear HB2 hb G2 V2 D2 N2 S2 C2 K2 L2
              rw [HEd.out]
              rw [HX.out] at X3
              clear cG0 cG1 cG2 cG3 cG4 cG5 cG6
              obtain ⟨xa1, xc1, xa2, xc2, xa3, xc3, xa4, xc4, xa5, xc5, xa6, xc6, hvx⟩ := X3.out.form
              subst hvx
              clear hX
              have HB4 := hide (below_step HB3.out (Below.plus (Below.refl _ w3) (.cells #[.int .i64 X.self, .slice xa1 X.st.clock.length xc1, .slice xa2 X.st.lives.length xc2, .slice xa3 X.st.tals.length xc3, .slice xa4 X.base.length xc4, .slice xa5 X.log.length xc5, .slice xa6 X.known.length xc6] 31)))
              have G4 := hide (G3.out.below (Below.plus (Below.refl _ w3) (.cells #[.int .i64 X.self, .slice xa1 X.st.clock.length xc1, .slice xa2 X.st.lives.length xc2, .slice xa3 X.st.tals.length xc3, .slice xa4 X.base.length xc4, .slice xa5 X.log.length xc5, .slice xa6 X.known.length xc6] 31)) (Nat.le_refl _))
              have V4 := hide (V3.out.below (Below.plus (Below.refl _ w3) (.cells #[.int .i64 X.self, .slice xa1 X.st.clock.length xc1, .slice xa2 X.st.lives.length xc2, .slice xa3 X.st.tals.length xc3, .slice xa4 X.base.length xc4, .slice xa5 X.log.length xc5, .slice xa6 X.known.length xc6] 31)) (Nat.le_refl _))
              have D4 := hide (D3.out.below (Below.plus (Below.refl _ w3) (.cells #[.int .i64 X.self, .slice xa1 X.st.clock.length xc1, .slice xa2 X.st.lives.length xc2, .slice xa3 X.st.tals.length xc3, .slice xa4 X.base.length xc4, .slice xa5 X.log.length xc5, .slice xa6 X.known.length xc6] 31)) (Nat.le_refl _))
              have N4 := hide (N3.out.below (Below.plus (Below.refl _ w3) (.cells #[.int .i64 X.self, .slice xa1 X.st.clock.length xc1, .slice xa2 X.st.lives.length xc2, .slice xa3 X.st.tals.length xc3, .slice xa4 X.base.length xc4, .slice xa5 X.log.length xc5, .slice xa6 X.known.length xc6] 31)) (Nat.le_refl _))
              have S4 := hide (S3.out.below (Below.plus (Below.refl _ w3) (.cells #[.int .i64 X.self, .slice xa1 X.st.clock.length xc1, .slice xa2 X.st.lives.length xc2, .slice xa3 X.st.tals.length xc3, .slice xa4 X.base.length xc4, .slice xa5 X.log.length xc5, .slice xa6 X.known.length xc6] 31)) (Nat.le_refl _))
              have C4 := hide (C3.out.below (Below.plus (Below.refl _ w3) (.cells #[.int .i64 X.self, .slice xa1 X.st.clock.length xc1, .slice xa2 X.st.lives.length xc2, .slice xa3 X.st.tals.length xc3, .slice xa4 X.base.length xc4, .slice xa5 X.log.length xc5, .slice xa6 X.known.length xc6] 31)) (Nat.le_refl _))
              have K4 := hide (K3.out.below (Below.plus (Below.refl _ w3) (.cells #[.int .i64 X.self, .slice xa1 X.st.clock.length xc1, .slice xa2 X.st.lives.length xc2, .slice xa3 X.st.tals.length xc3, .slice xa4 X.base.length xc4, .slice xa5 X.log.length xc5, .slice xa6 X.known.length xc6] 31)) (Nat.le_refl _))
              have L4 := hide (L3.out.below (Below.plus (Below.refl _ w3) (.cells #[.int .i64 X.self, .slice xa1 X.st.clock.length xc1, .slice xa2 X.st.lives.length xc2, .slice xa3 X.st.tals.length xc3, .slice xa4 X.base.length xc4, .slice xa5 X.log.length xc5, .slice xa6 X.known.length xc6] 31)) (Nat.le_refl _))
              have X4 := hide (X3.out.below (Below.plus (Below.refl _ w3) (.cells #[.int .i64 X.self, .slice xa1 X.st.clock.length xc1, .slice xa2 X.st.lives.length xc2, .slice xa3 X.st.tals.length xc3, .slice xa4 X.base.length xc4, .slice xa5 X.log.length xc5, .slice xa6 X.known.length xc6] 31)) (Nat.le_refl _))
              have Q4 := hide (Box.new w3 [.int .i64 X.self, .slice xa1 X.st.clock.length xc1, .slice xa2 X.st.lives.length xc2, .slice xa3 X.st.tals.length xc3, .slice xa4 X.base.length xc4, .slice xa5 X.log.length xc5, .slice xa6 X.known.length xc6] 31)
              clear HB3 G3 V3 D3 N3 S3 C3 K3 L3 X3
              have cQ0 := Q4.out.get 0 rfl
              have cQ1 := Q4.out.get 1 rfl
              have cQ2 := Q4.out.get 2 rfl
              have cQ3 := Q4.out.get 3 rfl
              have cQ4 := Q4.out.get 4 rfl
              have cQ5 := Q4.out.get 5 rfl
              have cQ6 := Q4.out.get 6 rfl
              go_wp2_with fail
              refine (prune_node _ X _ X4.out.node).mono ?_
              rintro e w5 ⟨vY, rfl, hY, hb⟩
              have HB5 := hide (below_step HB4.out hb)
              have G5 := hide (G4.out.below hb (Nat.le_refl _))
              have V5 := hide (V4.out.below hb (Nat.le_refl _))
              have D5 := hide (D4.out.below hb (Nat.le_refl _))
              have N5 := hide (N4.out.below hb (Nat.le_refl _))
              have S5 := hide (S4.out.below hb (Nat.le_refl _))
              have C5 := hide (C4.out.below hb (Nat.le_refl _))
              have K5 := hide (K4.out.below hb (Nat.le_refl _))
              have L5 := hide (L4.out.below hb (Nat.le_refl _))
              have X5 := hide (X4.out.below hb (Nat.le_refl _))
              have Q5 := hide (Q4.out.below hb (Nat.le_refl _))
              have Y5 := hide hY
              clear HB4 hb G4 V4 D4 N4 S4 C4 K4 L4 X4 Q4
              rw [HR1.out]
              rw [HQ5.out] at Y5
              clear cQ0 cQ1 cQ2 cQ3 cQ4 cQ5 cQ6
              obtain ⟨ya1, yc1, ya2, yc2, ya3, yc3, ya4, yc4, ya5, yc5, ya6, yc6, hvy⟩ := Y5.out.form
              subst hvy
              clear hY
              have HB6 := hide (below_step HB5.out (Below.plus (Below.refl _ w5) (.cells #[.int .i64 X.self, .slice ya1 X.st.clock.length yc1, .slice ya2 X.st.lives.length yc2, .slice ya3 X.st.tals.length yc3, .slice ya4 X.base.length yc4, .slice ya5 X.log.length yc5, .slice ya6 X.known.length yc6] 31)))
              have G6 := hide (G5.out.below (Below.plus (Below.refl _ w5) (.cells #[.int .i64 X.self, .slice ya1 X.st.clock.length yc1, .slice ya2 X.st.lives.length yc2, .slice ya3 X.st.tals.length yc3, .slice ya4 X.base.length yc4, .slice ya5 X.log.length yc5, .slice ya6 X.known.length yc6] 31)) (Nat.le_refl _))
              have V6 := hide (V5.out.below (Below.plus (Below.refl _ w5) (.cells #[.int .i64 X.self, .slice ya1 X.st.clock.length yc1, .slice ya2 X.st.lives.length yc2, .slice ya3 X.st.tals.length yc3, .slice ya4 X.base.length yc4, .slice ya5 X.log.length yc5, .slice ya6 X.known.length yc6] 31)) (Nat.le_refl _))
              have D6 := hide (D5.out.below (Below.plus (Below.refl _ w5) (.cells #[.int .i64 X.self, .slice ya1 X.st.clock.length yc1, .slice ya2 X.st.lives.length yc2, .slice ya3 X.st.tals.length yc3, .slice ya4 X.base.length yc4, .slice ya5 X.log.length yc5, .slice ya6 X.known.length yc6] 31)) (Nat.le_refl _))
              have N6 := hide (N5.out.below (Below.plus (Below.refl _ w5) (.cells #[.int .i64 X.self, .slice ya1 X.st.clock.length yc1, .slice ya2 X.st.lives.length yc2, .slice ya3 X.st.tals.length yc3, .slice ya4 X.base.length yc4, .slice ya5 X.log.length yc5, .slice ya6 X.known.length yc6] 31)) (Nat.le_refl _))
              have S6 := hide (S5.out.below (Below.plus (Below.refl _ w5) (.cells #[.int .i64 X.self, .slice ya1 X.st.clock.length yc1, .slice ya2 X.st.lives.length yc2, .slice ya3 X.st.tals.length yc3, .slice ya4 X.base.length yc4, .slice ya5 X.log.length yc5, .slice ya6 X.known.length yc6] 31)) (Nat.le_refl _))
              have C6 := hide (C5.out.below (Below.plus (Below.refl _ w5) (.cells #[.int .i64 X.self, .slice ya1 X.st.clock.length yc1, .slice ya2 X.st.lives.length yc2, .slice ya3 X.st.tals.length yc3, .slice ya4 X.base.length yc4, .slice ya5 X.log.length yc5, .slice ya6 X.known.length yc6] 31)) (Nat.le_refl _))
              have K6 := hide (K5.out.below (Below.plus (Below.refl _ w5) (.cells #[.int .i64 X.self, .slice ya1 X.st.clock.length yc1, .slice ya2 X.st.lives.length yc2, .slice ya3 X.st.tals.length yc3, .slice ya4 X.base.length yc4, .slice ya5 X.log.length yc5, .slice ya6 X.known.length yc6] 31)) (Nat.le_refl _))
              have L6 := hide (L5.out.below (Below.plus (Below.refl _ w5) (.cells #[.int .i64 X.self, .slice ya1 X.st.clock.length yc1, .slice ya2 X.st.lives.length yc2, .slice ya3 X.st.tals.length yc3, .slice ya4 X.base.length yc4, .slice ya5 X.log.length yc5, .slice ya6 X.known.length yc6] 31)) (Nat.le_refl _))
              have X6 := hide (X5.out.below (Below.plus (Below.refl _ w5) (.cells #[.int .i64 X.self, .slice ya1 X.st.clock.length yc1, .slice ya2 X.st.lives.length yc2, .slice ya3 X.st.tals.length yc3, .slice ya4 X.base.length yc4, .slice ya5 X.log.length yc5, .slice ya6 X.known.length yc6] 31)) (Nat.le_refl _))
              have Q6 := hide (Q5.out.below (Below.plus (Below.refl _ w5) (.cells #[.int .i64 X.self, .slice ya1 X.st.clock.length yc1, .slice ya2 X.st.lives.length yc2, .slice ya3 X.st.tals.length yc3, .slice ya4 X.base.length yc4, .slice ya5 X.log.length yc5, .slice ya6 X.known.length yc6] 31)) (Nat.le_refl _))
              have Y6 := hide (Y5.out.below (Below.plus (Below.refl _ w5) (.cells #[.int .i64 X.self, .slice ya1 X.st.clock.length yc1, .slice ya2 X.st.lives.length yc2, .slice ya3 X.st.tals.length yc3, .slice ya4 X.base.length yc4, .slice ya5 X.log.length yc5, .slice ya6 X.known.length yc6] 31)) (Nat.le_refl _))
              have R6 := hide (Box.new w5 [.int .i64 X.self, .slice ya1 X.st.clock.length yc1, .slice ya2 X.st.lives.length yc2, .slice ya3 X.st.tals.length yc3, .slice ya4 X.base.length yc4, .slice ya5 X.log.length yc5, .slice ya6 X.known.length yc6] 31)
              clear HB5 G5 V5 D5 N5 S5 C5 K5 L5 X5 Q5 Y5
              have cG0 := G6.out.get 0 rfl
              have cG1 := G6.out.get 1 rfl
              have cG2 := G6.out.get 2 rfl
              have cG3 := G6.out.get 3 rfl
              have cG4 := G6.out.get 4 rfl
              have cG5 := G6.out.get 5 rfl
              have cG6 := G6.out.get 6 rfl
              have cQ0 := Q6.out.get 0 rfl
              have cQ1 := Q6.out.get 1 rfl
              have cQ2 := Q6.out.get 2 rfl
              have cQ3 := Q6.out.get 3 rfl
              have cQ4 := Q6.out.get 4 rfl
              have cQ5 := Q6.out.get 5 rfl
              have cQ6 := Q6.out.get 6 rfl
              have cR0 := R6.out.get 0 rfl
              have cR1 := R6.out.get 1 rfl
              have cR2 := R6.out.get 2 rfl
              have cR3 := R6.out.get 3 rfl
              have cR4 := R6.out.get 4 rfl
              have cR5 := R6.out.get 5 rfl
              have cR6 := R6.out.get 6 rfl
              go_wp2_with fail
              refine (same_st _ _ d.st _ (st_cast X6.out.clk.2.2.1 HQ2.out) S6.out).mono ?_
              rintro e w7 ⟨rfl, hb⟩
              have HB7 := hide (below_step HB6.out hb)
              have G7 := hide (G6.out.below hb (Nat.le_refl _))
              have V7 := hide (V6.out.below hb (Nat.le_refl _))
              have D7 := hide (D6.out.below hb (Nat.le_refl _))
              have N7 := hide (N6.out.below hb (Nat.le_refl _))
              have S7 := hide (S6.out.below hb (Nat.le_refl _))
              have C7 := hide (C6.out.below hb (Nat.le_refl _))
              have K7 := hide (K6.out.below hb (Nat.le_refl _))
              have L7 := hide (L6.out.below hb (Nat.le_refl _))
              have X7 := hide (X6.out.below hb (Nat.le_refl _))
              have Q7 := hide (Q6.out.below hb (Nat.le_refl _))
              have Y7 := hide (Y6.out.below hb (Nat.le_refl _))
              have R7 := hide (R6.out.below hb (Nat.le_refl _))
              clear HB6 hb G6 V6 D6 N6 S6 C6 K6 L6 X6 Q6 Y6 R6
              clear cG0 cG1 cG2 cG3 cG4 cG5 cG6
              clear cQ0 cQ1 cQ2 cQ3 cQ4 cQ5 cQ6
              clear cR0 cR1 cR2 cR3 cR4 cR5 cR6
              have cG0 := G7.out.get 0 rfl
              have cG1 := G7.out.get 1 rfl
              have cG2 := G7.out.get 2 rfl
              have cG3 := G7.out.get 3 rfl
              have cG4 := G7.out.get 4 rfl
              have cG5 := G7.out.get 5 rfl
              have cG6 := G7.out.get 6 rfl
              have cQ0 := Q7.out.get 0 rfl
              have cQ1 := Q7.out.get 1 rfl
              have cQ2 := Q7.out.get 2 rfl
              have cQ3 := Q7.out.get 3 rfl
              have cQ4 := Q7.out.get 4 rfl
              have cQ5 := Q7.out.get 5 rfl
              have cQ6 := Q7.out.get 6 rfl
              have cR0 := R7.out.get 0 rfl
              have cR1 := R7.out.get 1 rfl
              have cR2 := R7.out.get 2 rfl
              have cR3 := R7.out.get 3 rfl
              have cR4 := R7.out.get 4 rfl
              have cR5 := R7.out.get 5 rfl
              have cR6 := R7.out.get 6 rfl
              go_wp2_with fail
              refine (sameNode_yes _ _ X _ X7.out.node Y7.out.node).mono ?_
              rintro e w8 ⟨rfl, hb⟩
              have HB8 := hide (below_step HB7.out hb)
              have G8 := hide (G7.out.below hb (Nat.le_refl _))
              have V8 := hide (V7.out.below hb (Nat.le_refl _))
              have D8 := hide (D7.out.below hb (Nat.le_refl _))
              have N8 := hide (N7.out.below hb (Nat.le_refl _))
              have S8 := hide (S7.out.below hb (Nat.le_refl _))
              have C8 := hide (C7.out.below hb (Nat.le_refl _))
              have K8 := hide (K7.out.below hb (Nat.le_refl _))
              have L8 := hide (L7.out.below hb (Nat.le_refl _))
              have X8 := hide (X7.out.below hb (Nat.le_refl _))
              have Q8 := hide (Q7.out.below hb (Nat.le_refl _))
              have Y8 := hide (Y7.out.below hb (Nat.le_refl _))
              have R8 := hide (R7.out.below hb (Nat.le_refl _))
              clear HB7 hb G7 V7 D7 N7 S7 C7 K7 L7 X7 Q7 Y7 R7
              clear cG0 cG1 cG2 cG3 cG4 cG5 cG6
              clear cQ0 cQ1 cQ2 cQ3 cQ4 cQ5 cQ6
              clear cR0 cR1 cR2 cR3 cR4 cR5 cR6
              have cQ0 := Q8.out.get 0 rfl
              have cQ1 := Q8.out.get 1 rfl
              have cQ2 := Q8.out.get 2 rfl
              have cQ3 := Q8.out.get 3 rfl
              have cQ4 := Q8.out.get 4 rfl
              have cQ5 := Q8.out.get 5 rfl
              have cQ6 := Q8.out.get 6 rfl
              have cV0 := V8.out.get 0 rfl
              have cV1 := V8.out.get 1 rfl
              have cV2 := V8.out.get 2 rfl
              have cV3 := V8.out.get 3 rfl
              have cV4 := V8.out.get 4 rfl
              have cV5 := V8.out.get 5 rfl
              have cV6 := V8.out.get 6 rfl
              go_wp2_with fail
              refine (send_node _ X (j : Int) _ X8.out.node).mono ?_
              rintro e w9 ⟨vP, rfl, hP, hb⟩
              have HB9 := hide (below_step HB8.out hb)
              have G9 := hide (G8.out.below hb (Nat.le_refl _))
              have V9 := hide (V8.out.below hb (Nat.le_refl _))
              have D9 := hide (D8.out.below hb (Nat.le_refl _))
              have N9 := hide (N8.out.below hb (Nat.le_refl _))
              have S9 := hide (S8.out.below hb (Nat.le_refl _))
              have C9 := hide (C8.out.below hb (Nat.le_refl _))
              have K9 := hide (K8.out.below hb (Nat.le_refl _))
              have L9 := hide (L8.out.below hb (Nat.le_refl _))
              have X9 := hide (X8.out.below hb (Nat.le_refl _))
              have Q9 := hide (Q8.out.below hb (Nat.le_refl _))
              have Y9 := hide (Y8.out.below hb (Nat.le_refl _))
              have R9 := hide (R8.out.below hb (Nat.le_refl _))
              have P9 := hide hP
              clear HB8 hb G8 V8 D8 N8 S8 C8 K8 L8 X8 Q8 Y8 R8
              rw [HS1.out]
              rw [HP.out] at P9
              clear cQ0 cQ1 cQ2 cQ3 cQ4 cQ5 cQ6
              clear cV0 cV1 cV2 cV3 cV4 cV5 cV6
              obtain ⟨pa1, pc1, pa2, pc2, pa3, pc3, pa4, pc4, pa5, pc5, hvp, -⟩ := P9.out.pcl.form
              subst hvp
              clear hP
              have HB10 := hide (below_step HB9.out (Below.plus (Below.refl _ w9) (.cells #[.bool P.whole, .slice pa1 P.st.clock.length pc1, .slice pa2 P.st.lives.length pc2, .slice pa3 P.st.tals.length pc3, .slice pa4 P.ups.length pc4, .slice pa5 P.clock.length pc5] 35)))
              have G10 := hide (G9.out.below (Below.plus (Below.refl _ w9) (.cells #[.bool P.whole, .slice pa1 P.st.clock.length pc1, .slice pa2 P.st.lives.length pc2, .slice pa3 P.st.tals.length pc3, .slice pa4 P.ups.length pc4, .slice pa5 P.clock.length pc5] 35)) (Nat.le_refl _))
              have V10 := hide (V9.out.below (Below.plus (Below.refl _ w9) (.cells #[.bool P.whole, .slice pa1 P.st.clock.length pc1, .slice pa2 P.st.lives.length pc2, .slice pa3 P.st.tals.length pc3, .slice pa4 P.ups.length pc4, .slice pa5 P.clock.length pc5] 35)) (Nat.le_refl _))
              have D10 := hide (D9.out.below (Below.plus (Below.refl _ w9) (.cells #[.bool P.whole, .slice pa1 P.st.clock.length pc1, .slice pa2 P.st.lives.length pc2, .slice pa3 P.st.tals.length pc3, .slice pa4 P.ups.length pc4, .slice pa5 P.clock.length pc5] 35)) (Nat.le_refl _))
              have N10 := hide (N9.out.below (Below.plus (Below.refl _ w9) (.cells #[.bool P.whole, .slice pa1 P.st.clock.length pc1, .slice pa2 P.st.lives.length pc2, .slice pa3 P.st.tals.length pc3, .slice pa4 P.ups.length pc4, .slice pa5 P.clock.length pc5] 35)) (Nat.le_refl _))
              have S10 := hide (S9.out.below (Below.plus (Below.refl _ w9) (.cells #[.bool P.whole, .slice pa1 P.st.clock.length pc1, .slice pa2 P.st.lives.length pc2, .slice pa3 P.st.tals.length pc3, .slice pa4 P.ups.length pc4, .slice pa5 P.clock.length pc5] 35)) (Nat.le_refl _))
              have C10 := hide (C9.out.below (Below.plus (Below.refl _ w9) (.cells #[.bool P.whole, .slice pa1 P.st.clock.length pc1, .slice pa2 P.st.lives.length pc2, .slice pa3 P.st.tals.length pc3, .slice pa4 P.ups.length pc4, .slice pa5 P.clock.length pc5] 35)) (Nat.le_refl _))
              have K10 := hide (K9.out.below (Below.plus (Below.refl _ w9) (.cells #[.bool P.whole, .slice pa1 P.st.clock.length pc1, .slice pa2 P.st.lives.length pc2, .slice pa3 P.st.tals.length pc3, .slice pa4 P.ups.length pc4, .slice pa5 P.clock.length pc5] 35)) (Nat.le_refl _))
              have L10 := hide (L9.out.below (Below.plus (Below.refl _ w9) (.cells #[.bool P.whole, .slice pa1 P.st.clock.length pc1, .slice pa2 P.st.lives.length pc2, .slice pa3 P.st.tals.length pc3, .slice pa4 P.ups.length pc4, .slice pa5 P.clock.length pc5] 35)) (Nat.le_refl _))
              have X10 := hide (X9.out.below (Below.plus (Below.refl _ w9) (.cells #[.bool P.whole, .slice pa1 P.st.clock.length pc1, .slice pa2 P.st.lives.length pc2, .slice pa3 P.st.tals.length pc3, .slice pa4 P.ups.length pc4, .slice pa5 P.clock.length pc5] 35)) (Nat.le_refl _))
              have Q10 := hide (Q9.out.below (Below.plus (Below.refl _ w9) (.cells #[.bool P.whole, .slice pa1 P.st.clock.length pc1, .slice pa2 P.st.lives.length pc2, .slice pa3 P.st.tals.length pc3, .slice pa4 P.ups.length pc4, .slice pa5 P.clock.length pc5] 35)) (Nat.le_refl _))
              have Y10 := hide (Y9.out.below (Below.plus (Below.refl _ w9) (.cells #[.bool P.whole, .slice pa1 P.st.clock.length pc1, .slice pa2 P.st.lives.length pc2, .slice pa3 P.st.tals.length pc3, .slice pa4 P.ups.length pc4, .slice pa5 P.clock.length pc5] 35)) (Nat.le_refl _))
              have R10 := hide (R9.out.below (Below.plus (Below.refl _ w9) (.cells #[.bool P.whole, .slice pa1 P.st.clock.length pc1, .slice pa2 P.st.lives.length pc2, .slice pa3 P.st.tals.length pc3, .slice pa4 P.ups.length pc4, .slice pa5 P.clock.length pc5] 35)) (Nat.le_refl _))
              have P10 := hide (P9.out.below (Below.plus (Below.refl _ w9) (.cells #[.bool P.whole, .slice pa1 P.st.clock.length pc1, .slice pa2 P.st.lives.length pc2, .slice pa3 P.st.tals.length pc3, .slice pa4 P.ups.length pc4, .slice pa5 P.clock.length pc5] 35)) (Nat.le_refl _))
              have T10 := hide (Box.new w9 [.bool P.whole, .slice pa1 P.st.clock.length pc1, .slice pa2 P.st.lives.length pc2, .slice pa3 P.st.tals.length pc3, .slice pa4 P.ups.length pc4, .slice pa5 P.clock.length pc5] 35)
              clear HB9 G9 V9 D9 N9 S9 C9 K9 L9 X9 Q9 Y9 R9 P9
              clear X10 Y10 Q10 R10 S10 K10
              have hfl := hfew.out
              by_cases hm : f.log.length + P.ups.length ≤ 300
              · have hm1 : ¬ ((f.log.length : Int) + (P.ups.length : Int) > 300) := by omega
                have hm2 : ¬ (300 < (f.log.length : Int) + (P.ups.length : Int)) := by omega
                obtain ⟨t1, t2⟩ := HS2.out hm
                have HT1 := hide t1
                obtain ⟨F, HF⟩ : ∃ F, Hid (takeX f d.self P = F) := ⟨_, rfl⟩
                rw [HF.out] at t2
                have HT2 := hide t2
                clear t1 t2
                have cG0 := G10.out.get 0 rfl
                have cG1 := G10.out.get 1 rfl
                have cG2 := G10.out.get 2 rfl
                have cG3 := G10.out.get 3 rfl
                have cG4 := G10.out.get 4 rfl
                have cG5 := G10.out.get 5 rfl
                have cG6 := G10.out.get 6 rfl
                have cV0 := V10.out.get 0 rfl
                have cV1 := V10.out.get 1 rfl
                have cV2 := V10.out.get 2 rfl
                have cV3 := V10.out.get 3 rfl
                have cV4 := V10.out.get 4 rfl
                have cV5 := V10.out.get 5 rfl
                have cV6 := V10.out.get 6 rfl
                have cT0 := T10.out.get 0 rfl
                have cT1 := T10.out.get 1 rfl
                have cT2 := T10.out.get 2 rfl
                have cT3 := T10.out.get 3 rfl
                have cT4 := T10.out.get 4 rfl
                have cT5 := T10.out.get 5 rfl
                go_wp2_with fail
                refine (take_node _ _ f d.self P _ N10.out P10.out.pcl).mono ?_
                rintro e w11 ⟨vF, rfl, hF, hb⟩
                have HB11 := hide (below_step HB10.out hb)
                have G11 := hide (G10.out.below hb (Nat.le_refl _))
                have V11 := hide (V10.out.below hb (Nat.le_refl _))
                have D11 := hide (D10.out.below hb (Nat.le_refl _))
                have N11 := hide (N10.out.below hb (Nat.le_refl _))
                have C11 := hide (C10.out.below hb (Nat.le_refl _))
                have L11 := hide (L10.out.below hb (Nat.le_refl _))
                have P11 := hide (P10.out.below hb (Nat.le_refl _))
                have T11 := hide (T10.out.below hb (Nat.le_refl _))
                have F11 := hide hF
                clear HB10 hb G10 V10 D10 N10 C10 L10 P10 T10
                rw [HT1.out]
                rw [HF.out] at F11
                clear cG0 cG1 cG2 cG3 cG4 cG5 cG6
                clear cV0 cV1 cV2 cV3 cV4 cV5 cV6
                clear cT0 cT1 cT2 cT3 cT4 cT5
                obtain ⟨ga1, gc1, ga2, gc2, ga3, gc3, ga4, gc4, ga5, gc5, ga6, gc6, hvf⟩ := F11.out.form
                subst hvf
                clear hF
                have HB12 := hide (below_step HB11.out (Below.plus (Below.refl _ w11) (.cells #[.int .i64 F.self, .slice ga1 F.st.clock.length gc1, .slice ga2 F.st.lives.length gc2, .slice ga3 F.st.tals.length gc3, .slice ga4 F.base.length gc4, .slice ga5 F.log.length gc5, .slice ga6 F.known.length gc6] 31)))
                have G12 := hide (G11.out.below (Below.plus (Below.refl _ w11) (.cells #[.int .i64 F.self, .slice ga1 F.st.clock.length gc1, .slice ga2 F.st.lives.length gc2, .slice ga3 F.st.tals.length gc3, .slice ga4 F.base.length gc4, .slice ga5 F.log.length gc5, .slice ga6 F.known.length gc6] 31)) (Nat.le_refl _))
                have V12 := hide (V11.out.below (Below.plus (Below.refl _ w11) (.cells #[.int .i64 F.self, .slice ga1 F.st.clock.length gc1, .slice ga2 F.st.lives.length gc2, .slice ga3 F.st.tals.length gc3, .slice ga4 F.base.length gc4, .slice ga5 F.log.length gc5, .slice ga6 F.known.length gc6] 31)) (Nat.le_refl _))
                have D12 := hide (D11.out.below (Below.plus (Below.refl _ w11) (.cells #[.int .i64 F.self, .slice ga1 F.st.clock.length gc1, .slice ga2 F.st.lives.length gc2, .slice ga3 F.st.tals.length gc3, .slice ga4 F.base.length gc4, .slice ga5 F.log.length gc5, .slice ga6 F.known.length gc6] 31)) (Nat.le_refl _))
                have N12 := hide (N11.out.below (Below.plus (Below.refl _ w11) (.cells #[.int .i64 F.self, .slice ga1 F.st.clock.length gc1, .slice ga2 F.st.lives.length gc2, .slice ga3 F.st.tals.length gc3, .slice ga4 F.base.length gc4, .slice ga5 F.log.length gc5, .slice ga6 F.known.length gc6] 31)) (Nat.le_refl _))
                have C12 := hide (C11.out.below (Below.plus (Below.refl _ w11) (.cells #[.int .i64 F.self, .slice ga1 F.st.clock.length gc1, .slice ga2 F.st.lives.length gc2, .slice ga3 F.st.tals.length gc3, .slice ga4 F.base.length gc4, .slice ga5 F.log.length gc5, .slice ga6 F.known.length gc6] 31)) (Nat.le_refl _))
                have L12 := hide (L11.out.below (Below.plus (Below.refl _ w11) (.cells #[.int .i64 F.self, .slice ga1 F.st.clock.length gc1, .slice ga2 F.st.lives.length gc2, .slice ga3 F.st.tals.length gc3, .slice ga4 F.base.length gc4, .slice ga5 F.log.length gc5, .slice ga6 F.known.length gc6] 31)) (Nat.le_refl _))
                have P12 := hide (P11.out.below (Below.plus (Below.refl _ w11) (.cells #[.int .i64 F.self, .slice ga1 F.st.clock.length gc1, .slice ga2 F.st.lives.length gc2, .slice ga3 F.st.tals.length gc3, .slice ga4 F.base.length gc4, .slice ga5 F.log.length gc5, .slice ga6 F.known.length gc6] 31)) (Nat.le_refl _))
                have T12 := hide (T11.out.below (Below.plus (Below.refl _ w11) (.cells #[.int .i64 F.self, .slice ga1 F.st.clock.length gc1, .slice ga2 F.st.lives.length gc2, .slice ga3 F.st.tals.length gc3, .slice ga4 F.base.length gc4, .slice ga5 F.log.length gc5, .slice ga6 F.known.length gc6] 31)) (Nat.le_refl _))
                have F12 := hide (F11.out.below (Below.plus (Below.refl _ w11) (.cells #[.int .i64 F.self, .slice ga1 F.st.clock.length gc1, .slice ga2 F.st.lives.length gc2, .slice ga3 F.st.tals.length gc3, .slice ga4 F.base.length gc4, .slice ga5 F.log.length gc5, .slice ga6 F.known.length gc6] 31)) (Nat.le_refl _))
                have H12 := hide (Box.new w11 [.int .i64 F.self, .slice ga1 F.st.clock.length gc1, .slice ga2 F.st.lives.length gc2, .slice ga3 F.st.tals.length gc3, .slice ga4 F.base.length gc4, .slice ga5 F.log.length gc5, .slice ga6 F.known.length gc6] 31)
                clear HB11 G11 V11 D11 N11 C11 L11 P11 T11 F11
                clear D12 N12 P12 T12
                obtain ⟨W12, HW12⟩ : ∃ W, Hid (w11.alloc (.cells #[.int .i64 F.self, .slice ga1 F.st.clock.length gc1, .slice ga2 F.st.lives.length gc2, .slice ga3 F.st.tals.length gc3, .slice ga4 F.base.length gc4, .slice ga5 F.log.length gc5, .slice ga6 F.known.length gc6] 31) = W) := ⟨_, rfl⟩
                rw [HW12.out] at G12 V12 C12 L12 F12 H12 HB12
                have HK : Hid (∀ w', Grew W12 w' → w'.cell? ⟨w0.heap.size, 1, none⟩ = some (.slice da1 d.st.clock.length dc1) ∧ w'.cell? ⟨w0.heap.size + 1, 1, none⟩ = some (.slice fa1 f.st.clock.length fc1) ∧ w'.cell? ⟨w11.heap.size, 1, none⟩ = some (.slice ga1 F.st.clock.length gc1)) := fun w' hg => ⟨(G12.out.below hg (Nat.le_refl _)).get 1 rfl, (V12.out.below hg (Nat.le_refl _)).get 1 rfl, (H12.out.below hg (Nat.le_refl _)).get 1 rfl⟩
                have hx6 := (fits_of HEd.out).clock
                have hy6 := (fits_of HEf.out).clock
                go_upto_region 13 with fail
                rw [HW12.out]
                refine wp_region_held_drew (S := fun w' => w'.cell? ⟨w0.heap.size, 1, none⟩ = some (.slice da1 d.st.clock.length dc1) ∧ w'.cell? ⟨w0.heap.size + 1, 1, none⟩ = some (.slice fa1 f.st.clock.length fc1) ∧ w'.cell? ⟨w11.heap.size, 1, none⟩ = some (.slice ga1 F.st.clock.length gc1)) (by kernel_rfl) (HK.out _ (grew_drew (grew_refl _))) (fun hHeld => ?_)
                obtain ⟨wd, HWD⟩ : ∃ wd, Hid (W12.drew = wd) := ⟨_, rfl⟩
                have hgd : Grew W12 wd := by rw [← HWD.out]; exact grew_drew (grew_refl W12)
                rw [HWD.out] at hHeld ⊢
                refine take_yes 0 118 (.int .i64 0) rfl rfl (by kernel_rfl) (by kernel_rfl) (by kernel_rfl) (fun _ _ _ h => h) rfl (by intro w hSw; (try dsimp only at hSw); go_simp) (by assumption) ?_
                simp only [Act.put, List.setIfInBounds_toArray, List.set_cons_zero, List.set_cons_succ]
                refine take_yes 1 119 (.bool true) rfl rfl (by kernel_rfl) (by kernel_rfl) (by kernel_rfl) (fun _ _ _ h => h) rfl (by intro w hSw; (try dsimp only at hSw); go_simp) (by assumption) ?_
                simp only [Act.put, List.setIfInBounds_toArray, List.set_cons_zero, List.set_cons_succ]
                refine take_yes 2 120 (.bool true) rfl rfl (by kernel_rfl) (by kernel_rfl) (by kernel_rfl) (fun _ _ _ h => h) rfl (by intro w hSw; (try dsimp only at hSw); go_simp) (by assumption) ?_
                simp only [Act.put, List.setIfInBounds_toArray, List.set_cons_zero, List.set_cons_succ]
                refine take_yes 3 121 (.pointer (some ⟨w11.heap.size, 1, none⟩)) rfl rfl (by kernel_rfl) (by kernel_rfl) (by kernel_rfl) (fun _ _ _ h => h) rfl (by intro w hSw; (try dsimp only at hSw); go_simp) (by assumption) ?_
                simp only [Act.put, List.setIfInBounds_toArray, List.set_cons_zero, List.set_cons_succ]
                refine take_yes 4 122 (.pointer (some ⟨w11.heap.size, 1, none⟩)) rfl rfl (by kernel_rfl) (by kernel_rfl) (by kernel_rfl) (fun _ _ _ h => h) rfl (by intro w hSw; (try dsimp only at hSw); go_simp) (by assumption) ?_
                simp only [Act.put, List.setIfInBounds_toArray, List.set_cons_zero, List.set_cons_succ]
                refine take_yes 5 123 (.slice ga1 F.st.clock.length gc1) rfl rfl (by kernel_rfl) (by kernel_rfl) (by kernel_rfl) (fun _ _ _ h => h) rfl (by intro w hSw; (try dsimp only at hSw); go_simp) (by assumption) ?_
                simp only [Act.put, List.setIfInBounds_toArray, List.set_cons_zero, List.set_cons_succ]
                refine take_yes 6 124 (.pointer (some ⟨w0.heap.size, 1, none⟩)) rfl rfl (by kernel_rfl) (by kernel_rfl) (by kernel_rfl) (fun _ _ _ h => h) rfl (by intro w hSw; (try dsimp only at hSw); go_simp) (by assumption) ?_
                simp only [Act.put, List.setIfInBounds_toArray, List.set_cons_zero, List.set_cons_succ]
                refine take_yes 7 125 (.pointer (some ⟨w0.heap.size, 1, none⟩)) rfl rfl (by kernel_rfl) (by kernel_rfl) (by kernel_rfl) (fun _ _ _ h => h) rfl (by intro w hSw; (try dsimp only at hSw); go_simp) (by assumption) ?_
                simp only [Act.put, List.setIfInBounds_toArray, List.set_cons_zero, List.set_cons_succ]
                refine take_yes 8 126 (.slice da1 d.st.clock.length dc1) rfl rfl (by kernel_rfl) (by kernel_rfl) (by kernel_rfl) (fun _ _ _ h => h) rfl (by intro w hSw; (try dsimp only at hSw); go_simp) (by assumption) ?_
                simp only [Act.put, List.setIfInBounds_toArray, List.set_cons_zero, List.set_cons_succ]
                refine take_yes 9 127 (.pointer (some ⟨w0.heap.size + 1, 1, none⟩)) rfl rfl (by kernel_rfl) (by kernel_rfl) (by kernel_rfl) (fun _ _ _ h => h) rfl (by intro w hSw; (try dsimp only at hSw); go_simp) (by assumption) ?_
                simp only [Act.put, List.setIfInBounds_toArray, List.set_cons_zero, List.set_cons_succ]
                refine take_yes 10 128 (.pointer (some ⟨w0.heap.size + 1, 1, none⟩)) rfl rfl (by kernel_rfl) (by kernel_rfl) (by kernel_rfl) (fun _ _ _ h => h) rfl (by intro w hSw; (try dsimp only at hSw); go_simp) (by assumption) ?_
                simp only [Act.put, List.setIfInBounds_toArray, List.set_cons_zero, List.set_cons_succ]
                refine take_yes 11 129 (.slice fa1 f.st.clock.length fc1) rfl rfl (by kernel_rfl) (by kernel_rfl) (by kernel_rfl) (fun _ _ _ h => h) rfl (by intro w hSw; (try dsimp only at hSw); go_simp) (by assumption) ?_
                simp only [Act.put, List.setIfInBounds_toArray, List.set_cons_zero, List.set_cons_succ]
                refine wpAnyH_ready (rs := [12]) (by kernel_rfl) (by simp) ?_
                refine (AllReadyH.cons (o := _) rfl (fun K hK => ?_) AllReadyH.nil)
                go_simp
                refine (join_clock _ _ d.st.clock f.st.clock _ (C12.out.below hgd (Nat.le_refl _)) (L12.out.below hgd (Nat.le_refl _)) (by omega) (by omega)).mono ?_
                rintro e w_12 ⟨vj, rfl, ho_12, hb_12⟩
                obtain ⟨ja, jc, hvj, -⟩ := ho_12.row
                subst hvj
                have hg_12 : Grew W12 w_12 := grew_step hgd hb_12
                refine hK.out _ _ (HK.out _ hg_12) (fun _ => ?_)
                clear hK K
                try simp only [Act.put, List.setIfInBounds_toArray, List.set_cons_zero, List.set_cons_succ]
                refine wpAnyH_ready (rs := [13]) (by kernel_rfl) (by simp) ?_
                refine (AllReadyH.cons (o := _) rfl (fun K hK => ?_) AllReadyH.nil)
                go_simp
                refine (same_yesW _ _ (joinC d.st.clock f.st.clock) _ (row_cast (F12.out.below hg_12 (Nat.le_refl _)).clk.1 HT2.out) ho_12.row).mono ?_
                rintro e w_12_13 ⟨rfl, hb_12_13⟩
                have hg_12_13 : Grew W12 w_12_13 := grew_step hg_12 hb_12_13
                have JO_12_13 := ho_12.below hb_12_13 (Nat.le_refl _)
                refine hK.out _ _ (HK.out _ hg_12_13) (fun _ => ?_)
                clear hK K
                try simp only [Act.put, List.setIfInBounds_toArray, List.set_cons_zero, List.set_cons_succ]
                refine take_yes 14 132 (.bool true) rfl rfl (by kernel_rfl) (by kernel_rfl) (by kernel_rfl) (fun _ _ _ h => h) rfl (by intro w hSw; (try dsimp only at hSw); go_simp) (by assumption) ?_
                simp only [Act.put, List.setIfInBounds_toArray, List.set_cons_zero, List.set_cons_succ]
                refine wpAnyH_ready (rs := [15]) (by kernel_rfl) (by simp) ?_
                refine (AllReadyH.cons (o := _) rfl (fun K hK => ?_) AllReadyH.nil)
                go_simp
                refine hK.out _ _ (HK.out _ hg_12_13) (fun _ => ?_)
                clear hK K
                try simp only [Act.put, List.setIfInBounds_toArray, List.set_cons_zero, List.set_cons_succ]
                refine wpAnyH_done (by kernel_rfl) ?_ _
                go_wp2_with fail
                go_ret
                exact ⟨rfl, below_step HB12.out hg_12_13⟩
              · have hm1 : (f.log.length : Int) + (P.ups.length : Int) > 300 := by omega
                have hm2 : 300 < (f.log.length : Int) + (P.ups.length : Int) := by omega
                have cV0 := V10.out.get 0 rfl
                have cV1 := V10.out.get 1 rfl
                have cV2 := V10.out.get 2 rfl
                have cV3 := V10.out.get 3 rfl
                have cV4 := V10.out.get 4 rfl
                have cV5 := V10.out.get 5 rfl
                have cV6 := V10.out.get 6 rfl
                have cT0 := T10.out.get 0 rfl
                have cT1 := T10.out.get 1 rfl
                have cT2 := T10.out.get 2 rfl
                have cT3 := T10.out.get 3 rfl
                have cT4 := T10.out.get 4 rfl
                have cT5 := T10.out.get 5 rfl
                go_wp2_with fail
                go_ret
                exact ⟨rfl, HB10.out⟩
      · have hlen' : ((d.known.length : Int) != (f.known.length : Int)) = true := by simp; omega
        clear hlen
        go_enter Tryz.func5, Tryz.ntmps5
        go_upto_region 1 with fail
        rw [HW0.out]
        go_wp2_with fail
        refine (alive6 _).mono ?_
        rintro e w1 ⟨rfl, hb1⟩
        have G1 := hide (G0.out.below hb1 (Nat.le_refl _))
        have V1 := hide (V0.out.below hb1 (Nat.le_refl _))
        have D1 := hide (D0.out.below hb1 (Nat.le_refl _))
        have N1 := hide (N0.out.below hb1 (Nat.le_refl _))
        have S1 := hide (S0.out.below hb1 (Nat.le_refl _))
        have C1 := hide (C0.out.below hb1 (Nat.le_refl _))
        have K1 := hide (K0.out.below hb1 (Nat.le_refl _))
        have L1 := hide (L0.out.below hb1 (Nat.le_refl _))
        have HB1 := hide (below_step HB0.out hb1)
        have hsz : Hid (w0.heap.size + 2 ≤ w1.heap.size) := by have := V0.out.lt; have := hb1.size; unfold Hid; omega
        clear G0 V0 D0 N0 S0 C0 K0 L0 HB0 hb1
        have HK : Hid (∀ w', Grew w1 w' → w'.cell? ⟨w0.heap.size, 0, none⟩ = some (.int .i64 d.self) ∧ w'.cell? ⟨w0.heap.size, 1, none⟩ = some (.slice da1 d.st.clock.length dc1) ∧ w'.cell? ⟨w0.heap.size, 2, none⟩ = some (.slice da2 d.st.lives.length dc2) ∧ w'.cell? ⟨w0.heap.size, 3, none⟩ = some (.slice da3 d.st.tals.length dc3) ∧ w'.cell? ⟨w0.heap.size, 4, none⟩ = some (.slice da4 d.base.length dc4) ∧ w'.cell? ⟨w0.heap.size, 5, none⟩ = some (.slice da5 d.log.length dc5) ∧ w'.cell? ⟨w0.heap.size, 6, none⟩ = some (.slice da6 d.known.length dc6) ∧ w'.cell? ⟨w0.heap.size + 1, 0, none⟩ = some (.int .i64 (j : Int)) ∧ w'.cell? ⟨w0.heap.size + 1, 1, none⟩ = some (.slice fa1 f.st.clock.length fc1) ∧ w'.cell? ⟨w0.heap.size + 1, 2, none⟩ = some (.slice fa2 f.st.lives.length fc2) ∧ w'.cell? ⟨w0.heap.size + 1, 3, none⟩ = some (.slice fa3 f.st.tals.length fc3) ∧ w'.cell? ⟨w0.heap.size + 1, 4, none⟩ = some (.slice fa4 f.base.length fc4) ∧ w'.cell? ⟨w0.heap.size + 1, 5, none⟩ = some (.slice fa5 f.log.length fc5) ∧ w'.cell? ⟨w0.heap.size + 1, 6, none⟩ = some (.slice fa6 f.known.length fc6)) := fun w' hg => ⟨(G1.out.below hg (Nat.le_refl _)).get 0 rfl, (G1.out.below hg (Nat.le_refl _)).get 1 rfl, (G1.out.below hg (Nat.le_refl _)).get 2 rfl, (G1.out.below hg (Nat.le_refl _)).get 3 rfl, (G1.out.below hg (Nat.le_refl _)).get 4 rfl, (G1.out.below hg (Nat.le_refl _)).get 5 rfl, (G1.out.below hg (Nat.le_refl _)).get 6 rfl, (V1.out.below hg (Nat.le_refl _)).get 0 rfl, (V1.out.below hg (Nat.le_refl _)).get 1 rfl, (V1.out.below hg (Nat.le_refl _)).get 2 rfl, (V1.out.below hg (Nat.le_refl _)).get 3 rfl, (V1.out.below hg (Nat.le_refl _)).get 4 rfl, (V1.out.below hg (Nat.le_refl _)).get 5 rfl, (V1.out.below hg (Nat.le_refl _)).get 6 rfl⟩
        go_upto_region 3 with fail
        go_cut [49] (fun c wx => c = .bool true ∧ Hid (Grew w1 wx))
        case first =>
          refine wp_region_held_drew (S := fun w' => w'.cell? ⟨w0.heap.size, 0, none⟩ = some (.int .i64 d.self) ∧ w'.cell? ⟨w0.heap.size, 1, none⟩ = some (.slice da1 d.st.clock.length dc1) ∧ w'.cell? ⟨w0.heap.size, 2, none⟩ = some (.slice da2 d.st.lives.length dc2) ∧ w'.cell? ⟨w0.heap.size, 3, none⟩ = some (.slice da3 d.st.tals.length dc3) ∧ w'.cell? ⟨w0.heap.size, 4, none⟩ = some (.slice da4 d.base.length dc4) ∧ w'.cell? ⟨w0.heap.size, 5, none⟩ = some (.slice da5 d.log.length dc5) ∧ w'.cell? ⟨w0.heap.size, 6, none⟩ = some (.slice da6 d.known.length dc6) ∧ w'.cell? ⟨w0.heap.size + 1, 0, none⟩ = some (.int .i64 (j : Int)) ∧ w'.cell? ⟨w0.heap.size + 1, 1, none⟩ = some (.slice fa1 f.st.clock.length fc1) ∧ w'.cell? ⟨w0.heap.size + 1, 2, none⟩ = some (.slice fa2 f.st.lives.length fc2) ∧ w'.cell? ⟨w0.heap.size + 1, 3, none⟩ = some (.slice fa3 f.st.tals.length fc3) ∧ w'.cell? ⟨w0.heap.size + 1, 4, none⟩ = some (.slice fa4 f.base.length fc4) ∧ w'.cell? ⟨w0.heap.size + 1, 5, none⟩ = some (.slice fa5 f.log.length fc5) ∧ w'.cell? ⟨w0.heap.size + 1, 6, none⟩ = some (.slice fa6 f.known.length fc6)) (by kernel_rfl) (HK.out _ (grew_drew (grew_refl _))) (fun hHeld => ?_)
          obtain ⟨wd, HWD⟩ : ∃ wd, Hid (w1.drew = wd) := ⟨_, rfl⟩
          have hgd : Grew w1 wd := by rw [← HWD.out]; exact grew_drew (grew_refl w1)
          rw [HWD.out] at hHeld ⊢
          refine take_yes 0 13 (.agg #[.int .i64 d.self, .slice da1 d.st.clock.length dc1, .slice da2 d.st.lives.length dc2, .slice da3 d.st.tals.length dc3, .slice da4 d.base.length dc4, .slice da5 d.log.length dc5, .slice da6 d.known.length dc6]) rfl rfl (by kernel_rfl) (by kernel_rfl) (by kernel_rfl) (fun _ _ _ h => h) rfl (by intro w hSw; (try dsimp only at hSw); go_simp) (by assumption) ?_
          simp only [Act.put, List.setIfInBounds_toArray, List.set_cons_zero, List.set_cons_succ]
          refine wpAnyH_ready (rs := [1]) (by kernel_rfl) (by simp) ?_
          refine (AllReadyH.cons (o := _) rfl (fun K hK => ?_) AllReadyH.nil)
          go_simp
          refine (wrong_node _ d _ (D1.out.below hgd (Nat.le_refl _))).mono ?_
          rintro e w_1 ⟨rfl, hb_1⟩
          rw [HEd.out]
          have hg_1 : Grew w1 w_1 := grew_step hgd hb_1
          refine hK.out _ _ (HK.out _ hg_1) (fun _ => ?_)
          clear hK K
          try simp only [Act.put, List.setIfInBounds_toArray, List.set_cons_zero, List.set_cons_succ]
          refine take_yes 2 15 (.bool false) rfl rfl (by kernel_rfl) (by kernel_rfl) (by kernel_rfl) (fun _ _ _ h => h) rfl (by intro w hSw; (try dsimp only at hSw); go_simp) (by assumption) ?_
          simp only [Act.put, List.setIfInBounds_toArray, List.set_cons_zero, List.set_cons_succ]
          refine take_yes 3 16 (.bool false) rfl rfl (by kernel_rfl) (by kernel_rfl) (by kernel_rfl) (fun _ _ _ h => h) rfl (by intro w hSw; (try dsimp only at hSw); go_simp) (by assumption) ?_
          simp only [Act.put, List.setIfInBounds_toArray, List.set_cons_zero, List.set_cons_succ]
          refine take_yes 4 17 (.agg #[.int .i64 (j : Int), .slice fa1 f.st.clock.length fc1, .slice fa2 f.st.lives.length fc2, .slice fa3 f.st.tals.length fc3, .slice fa4 f.base.length fc4, .slice fa5 f.log.length fc5, .slice fa6 f.known.length fc6]) rfl rfl (by kernel_rfl) (by kernel_rfl) (by kernel_rfl) (fun _ _ _ h => h) rfl (by intro w hSw; (try dsimp only at hSw); go_simp) (by assumption) ?_
          simp only [Act.put, List.setIfInBounds_toArray, List.set_cons_zero, List.set_cons_succ]
          refine wpAnyH_ready (rs := [5]) (by kernel_rfl) (by simp) ?_
          refine (AllReadyH.cons (o := _) rfl (fun K hK => ?_) AllReadyH.nil)
          go_simp
          refine (wrong_node _ f _ (N1.out.below hg_1 (Nat.le_refl _))).mono ?_
          rintro e w_1_5 ⟨rfl, hb_1_5⟩
          rw [HEf.out]
          have hg_1_5 : Grew w1 w_1_5 := grew_step hg_1 hb_1_5
          refine hK.out _ _ (HK.out _ hg_1_5) (fun _ => ?_)
          clear hK K
          try simp only [Act.put, List.setIfInBounds_toArray, List.set_cons_zero, List.set_cons_succ]
          refine take_yes 6 19 (.bool false) rfl rfl (by kernel_rfl) (by kernel_rfl) (by kernel_rfl) (fun _ _ _ h => h) rfl (by intro w hSw; (try dsimp only at hSw); go_simp) (by assumption) ?_
          simp only [Act.put, List.setIfInBounds_toArray, List.set_cons_zero, List.set_cons_succ]
          refine take_yes 7 20 (.bool false) rfl rfl (by kernel_rfl) (by kernel_rfl) (by kernel_rfl) (fun _ _ _ h => h) rfl (by intro w hSw; (try dsimp only at hSw); go_simp) (by assumption) ?_
          simp only [Act.put, List.setIfInBounds_toArray, List.set_cons_zero, List.set_cons_succ]
          refine take_yes 8 21 (.bool false) rfl rfl (by kernel_rfl) (by kernel_rfl) (by kernel_rfl) (fun _ _ _ h => h) rfl (by intro w hSw; (try dsimp only at hSw); go_simp) (by assumption) ?_
          simp only [Act.put, List.setIfInBounds_toArray, List.set_cons_zero, List.set_cons_succ]
          refine take_yes 9 22 (.pointer (some ⟨w0.heap.size, 6, none⟩)) rfl rfl (by kernel_rfl) (by kernel_rfl) (by kernel_rfl) (fun _ _ _ h => h) rfl (by intro w hSw; (try dsimp only at hSw); go_simp) (by assumption) ?_
          simp only [Act.put, List.setIfInBounds_toArray, List.set_cons_zero, List.set_cons_succ]
          refine take_yes 10 23 (.slice da6 d.known.length dc6) rfl rfl (by kernel_rfl) (by kernel_rfl) (by kernel_rfl) (fun _ _ _ h => h) rfl (by intro w hSw; (try dsimp only at hSw); go_simp) (by assumption) ?_
          simp only [Act.put, List.setIfInBounds_toArray, List.set_cons_zero, List.set_cons_succ]
          refine take_yes 11 24 (.int .i64 d.known.length) rfl rfl (by kernel_rfl) (by kernel_rfl) (by kernel_rfl) (fun _ _ _ h => h) rfl (by intro w hSw; (try dsimp only at hSw); go_simp) (by assumption) ?_
          simp only [Act.put, List.setIfInBounds_toArray, List.set_cons_zero, List.set_cons_succ]
          refine take_yes 12 25 (.pointer (some ⟨w0.heap.size + 1, 6, none⟩)) rfl rfl (by kernel_rfl) (by kernel_rfl) (by kernel_rfl) (fun _ _ _ h => h) rfl (by intro w hSw; (try dsimp only at hSw); go_simp) (by assumption) ?_
          simp only [Act.put, List.setIfInBounds_toArray, List.set_cons_zero, List.set_cons_succ]
          refine take_yes 13 26 (.slice fa6 f.known.length fc6) rfl rfl (by kernel_rfl) (by kernel_rfl) (by kernel_rfl) (fun _ _ _ h => h) rfl (by intro w hSw; (try dsimp only at hSw); go_simp) (by assumption) ?_
          simp only [Act.put, List.setIfInBounds_toArray, List.set_cons_zero, List.set_cons_succ]
          refine take_yes 14 27 (.int .i64 f.known.length) rfl rfl (by kernel_rfl) (by kernel_rfl) (by kernel_rfl) (fun _ _ _ h => h) rfl (by intro w hSw; (try dsimp only at hSw); go_simp) (by assumption) ?_
          simp only [Act.put, List.setIfInBounds_toArray, List.set_cons_zero, List.set_cons_succ]
          refine take_yes 15 28 (.bool true) rfl rfl (by kernel_rfl) (by kernel_rfl) (by kernel_rfl) (fun _ _ _ h => h) rfl (by intro w hSw; (try dsimp only at hSw); go_simp) (by assumption) ?_
          simp only [Act.put, List.setIfInBounds_toArray, List.set_cons_zero, List.set_cons_succ]
          refine take_yes 16 29 (.bool true) rfl rfl (by kernel_rfl) (by kernel_rfl) (by kernel_rfl) (fun _ _ _ h => h) rfl (by intro w hSw; (try dsimp only at hSw); go_simp) (by assumption) ?_
          simp only [Act.put, List.setIfInBounds_toArray, List.set_cons_zero, List.set_cons_succ]
          refine take_yes 17 30 (.bool true) rfl rfl (by kernel_rfl) (by kernel_rfl) (by kernel_rfl) (fun _ _ _ h => h) rfl (by intro w hSw; (try dsimp only at hSw); go_simp) (by assumption) ?_
          simp only [Act.put, List.setIfInBounds_toArray, List.set_cons_zero, List.set_cons_succ]
          refine take_skip 18 31 rfl rfl (by kernel_rfl) (by kernel_rfl) (by kernel_rfl) (fun _ _ _ h => h) rfl (by assumption) ?_
          simp only [Act.put, List.setIfInBounds_toArray, List.set_cons_zero, List.set_cons_succ]
          refine take_skip 19 32 rfl rfl (by kernel_rfl) (by kernel_rfl) (by kernel_rfl) (fun _ _ _ h => h) rfl (by assumption) ?_
          simp only [Act.put, List.setIfInBounds_toArray, List.set_cons_zero, List.set_cons_succ]
          refine take_skip 20 33 rfl rfl (by kernel_rfl) (by kernel_rfl) (by kernel_rfl) (fun _ _ _ h => h) rfl (by assumption) ?_
          simp only [Act.put, List.setIfInBounds_toArray, List.set_cons_zero, List.set_cons_succ]
          refine take_skip 21 34 rfl rfl (by kernel_rfl) (by kernel_rfl) (by kernel_rfl) (fun _ _ _ h => h) rfl (by assumption) ?_
          simp only [Act.put, List.setIfInBounds_toArray, List.set_cons_zero, List.set_cons_succ]
          refine take_skip 22 35 rfl rfl (by kernel_rfl) (by kernel_rfl) (by kernel_rfl) (fun _ _ _ h => h) rfl (by assumption) ?_
          simp only [Act.put, List.setIfInBounds_toArray, List.set_cons_zero, List.set_cons_succ]
          refine take_yes 23 36 (.bool true) rfl rfl (by kernel_rfl) (by kernel_rfl) (by kernel_rfl) (fun _ _ _ h => h) rfl (by intro w hSw; (try dsimp only at hSw); go_simp) (by assumption) ?_
          simp only [Act.put, List.setIfInBounds_toArray, List.set_cons_zero, List.set_cons_succ]
          refine take_yes 24 37 (.bool true) rfl rfl (by kernel_rfl) (by kernel_rfl) (by kernel_rfl) (fun _ _ _ h => h) rfl (by intro w hSw; (try dsimp only at hSw); go_simp) (by assumption) ?_
          simp only [Act.put, List.setIfInBounds_toArray, List.set_cons_zero, List.set_cons_succ]
          refine take_skip 25 38 rfl rfl (by kernel_rfl) (by kernel_rfl) (by kernel_rfl) (fun _ _ _ h => h) rfl (by assumption) ?_
          simp only [Act.put, List.setIfInBounds_toArray, List.set_cons_zero, List.set_cons_succ]
          refine take_skip 26 39 rfl rfl (by kernel_rfl) (by kernel_rfl) (by kernel_rfl) (fun _ _ _ h => h) rfl (by assumption) ?_
          simp only [Act.put, List.setIfInBounds_toArray, List.set_cons_zero, List.set_cons_succ]
          refine take_skip 27 40 rfl rfl (by kernel_rfl) (by kernel_rfl) (by kernel_rfl) (fun _ _ _ h => h) rfl (by assumption) ?_
          simp only [Act.put, List.setIfInBounds_toArray, List.set_cons_zero, List.set_cons_succ]
          refine take_skip 28 41 rfl rfl (by kernel_rfl) (by kernel_rfl) (by kernel_rfl) (fun _ _ _ h => h) rfl (by assumption) ?_
          simp only [Act.put, List.setIfInBounds_toArray, List.set_cons_zero, List.set_cons_succ]
          refine take_skip 29 42 rfl rfl (by kernel_rfl) (by kernel_rfl) (by kernel_rfl) (fun _ _ _ h => h) rfl (by assumption) ?_
          simp only [Act.put, List.setIfInBounds_toArray, List.set_cons_zero, List.set_cons_succ]
          refine take_skip 30 43 rfl rfl (by kernel_rfl) (by kernel_rfl) (by kernel_rfl) (fun _ _ _ h => h) rfl (by assumption) ?_
          simp only [Act.put, List.setIfInBounds_toArray, List.set_cons_zero, List.set_cons_succ]
          refine take_skip 31 44 rfl rfl (by kernel_rfl) (by kernel_rfl) (by kernel_rfl) (fun _ _ _ h => h) rfl (by assumption) ?_
          simp only [Act.put, List.setIfInBounds_toArray, List.set_cons_zero, List.set_cons_succ]
          refine take_skip 32 45 rfl rfl (by kernel_rfl) (by kernel_rfl) (by kernel_rfl) (fun _ _ _ h => h) rfl (by assumption) ?_
          simp only [Act.put, List.setIfInBounds_toArray, List.set_cons_zero, List.set_cons_succ]
          refine take_skip 33 46 rfl rfl (by kernel_rfl) (by kernel_rfl) (by kernel_rfl) (fun _ _ _ h => h) rfl (by assumption) ?_
          simp only [Act.put, List.setIfInBounds_toArray, List.set_cons_zero, List.set_cons_succ]
          refine take_skip 34 47 rfl rfl (by kernel_rfl) (by kernel_rfl) (by kernel_rfl) (fun _ _ _ h => h) rfl (by assumption) ?_
          simp only [Act.put, List.setIfInBounds_toArray, List.set_cons_zero, List.set_cons_succ]
          refine take_skip 35 48 rfl rfl (by kernel_rfl) (by kernel_rfl) (by kernel_rfl) (fun _ _ _ h => h) rfl (by assumption) ?_
          simp only [Act.put, List.setIfInBounds_toArray, List.set_cons_zero, List.set_cons_succ]
          refine take_yes 36 49 (.bool true) rfl rfl (by kernel_rfl) (by kernel_rfl) (by kernel_rfl) (fun _ _ _ h => h) rfl (by intro w hSw; (try dsimp only at hSw); go_simp) (by assumption) ?_
          simp only [Act.put, List.setIfInBounds_toArray, List.set_cons_zero, List.set_cons_succ]
          refine wpAnyH_done (by kernel_rfl) ?_ _
          go_wp2_with fail
          go_meet
          exact ⟨rfl, hg_1_5⟩
        case rest =>
          obtain ⟨rfl, HGR⟩ := hcut
          obtain ⟨w2, rfl⟩ : ∃ w2, w2 = wc := ⟨wc, rfl⟩
          have G2 := hide (G1.out.below HGR.out (Nat.le_refl _))
          have V2 := hide (V1.out.below HGR.out (Nat.le_refl _))
          have D2 := hide (D1.out.below HGR.out (Nat.le_refl _))
          have N2 := hide (N1.out.below HGR.out (Nat.le_refl _))
          have S2 := hide (S1.out.below HGR.out (Nat.le_refl _))
          have C2 := hide (C1.out.below HGR.out (Nat.le_refl _))
          have K2 := hide (K1.out.below HGR.out (Nat.le_refl _))
          have L2 := hide (L1.out.below HGR.out (Nat.le_refl _))
          have HB2 := hide (below_step HB1.out HGR.out)
          have hsz2 : Hid (w0.heap.size + 2 ≤ w2.heap.size) := by have := hsz.out; have := HGR.out.size; unfold Hid; omega
          clear G1 V1 D1 N1 S1 C1 K1 L1 HB1 HGR HK
          go_wp2_with fail
          go_ret
          exact ⟨rfl, HB2.out⟩
    · have hEf' : (Ef != 0) = true := by simp [hEf]
      clear hEf
      go_enter Tryz.func5, Tryz.ntmps5
      go_upto_region 1 with fail
      rw [HW0.out]
      go_wp2_with fail
      refine (alive6 _).mono ?_
      rintro e w1 ⟨rfl, hb1⟩
      have G1 := hide (G0.out.below hb1 (Nat.le_refl _))
      have V1 := hide (V0.out.below hb1 (Nat.le_refl _))
      have D1 := hide (D0.out.below hb1 (Nat.le_refl _))
      have N1 := hide (N0.out.below hb1 (Nat.le_refl _))
      have S1 := hide (S0.out.below hb1 (Nat.le_refl _))
      have C1 := hide (C0.out.below hb1 (Nat.le_refl _))
      have K1 := hide (K0.out.below hb1 (Nat.le_refl _))
      have L1 := hide (L0.out.below hb1 (Nat.le_refl _))
      have HB1 := hide (below_step HB0.out hb1)
      have hsz : Hid (w0.heap.size + 2 ≤ w1.heap.size) := by have := V0.out.lt; have := hb1.size; unfold Hid; omega
      clear G0 V0 D0 N0 S0 C0 K0 L0 HB0 hb1
      have HK : Hid (∀ w', Grew w1 w' → w'.cell? ⟨w0.heap.size, 0, none⟩ = some (.int .i64 d.self) ∧ w'.cell? ⟨w0.heap.size, 1, none⟩ = some (.slice da1 d.st.clock.length dc1) ∧ w'.cell? ⟨w0.heap.size, 2, none⟩ = some (.slice da2 d.st.lives.length dc2) ∧ w'.cell? ⟨w0.heap.size, 3, none⟩ = some (.slice da3 d.st.tals.length dc3) ∧ w'.cell? ⟨w0.heap.size, 4, none⟩ = some (.slice da4 d.base.length dc4) ∧ w'.cell? ⟨w0.heap.size, 5, none⟩ = some (.slice da5 d.log.length dc5) ∧ w'.cell? ⟨w0.heap.size, 6, none⟩ = some (.slice da6 d.known.length dc6) ∧ w'.cell? ⟨w0.heap.size + 1, 0, none⟩ = some (.int .i64 f.self) ∧ w'.cell? ⟨w0.heap.size + 1, 1, none⟩ = some (.slice fa1 f.st.clock.length fc1) ∧ w'.cell? ⟨w0.heap.size + 1, 2, none⟩ = some (.slice fa2 f.st.lives.length fc2) ∧ w'.cell? ⟨w0.heap.size + 1, 3, none⟩ = some (.slice fa3 f.st.tals.length fc3) ∧ w'.cell? ⟨w0.heap.size + 1, 4, none⟩ = some (.slice fa4 f.base.length fc4) ∧ w'.cell? ⟨w0.heap.size + 1, 5, none⟩ = some (.slice fa5 f.log.length fc5) ∧ w'.cell? ⟨w0.heap.size + 1, 6, none⟩ = some (.slice fa6 f.known.length fc6)) := fun w' hg => ⟨(G1.out.below hg (Nat.le_refl _)).get 0 rfl, (G1.out.below hg (Nat.le_refl _)).get 1 rfl, (G1.out.below hg (Nat.le_refl _)).get 2 rfl, (G1.out.below hg (Nat.le_refl _)).get 3 rfl, (G1.out.below hg (Nat.le_refl _)).get 4 rfl, (G1.out.below hg (Nat.le_refl _)).get 5 rfl, (G1.out.below hg (Nat.le_refl _)).get 6 rfl, (V1.out.below hg (Nat.le_refl _)).get 0 rfl, (V1.out.below hg (Nat.le_refl _)).get 1 rfl, (V1.out.below hg (Nat.le_refl _)).get 2 rfl, (V1.out.below hg (Nat.le_refl _)).get 3 rfl, (V1.out.below hg (Nat.le_refl _)).get 4 rfl, (V1.out.below hg (Nat.le_refl _)).get 5 rfl, (V1.out.below hg (Nat.le_refl _)).get 6 rfl⟩
      go_upto_region 3 with fail
      go_cut [49] (fun c wx => c = .bool true ∧ Hid (Grew w1 wx))
      case first =>
        refine wp_region_held_drew (S := fun w' => w'.cell? ⟨w0.heap.size, 0, none⟩ = some (.int .i64 d.self) ∧ w'.cell? ⟨w0.heap.size, 1, none⟩ = some (.slice da1 d.st.clock.length dc1) ∧ w'.cell? ⟨w0.heap.size, 2, none⟩ = some (.slice da2 d.st.lives.length dc2) ∧ w'.cell? ⟨w0.heap.size, 3, none⟩ = some (.slice da3 d.st.tals.length dc3) ∧ w'.cell? ⟨w0.heap.size, 4, none⟩ = some (.slice da4 d.base.length dc4) ∧ w'.cell? ⟨w0.heap.size, 5, none⟩ = some (.slice da5 d.log.length dc5) ∧ w'.cell? ⟨w0.heap.size, 6, none⟩ = some (.slice da6 d.known.length dc6) ∧ w'.cell? ⟨w0.heap.size + 1, 0, none⟩ = some (.int .i64 f.self) ∧ w'.cell? ⟨w0.heap.size + 1, 1, none⟩ = some (.slice fa1 f.st.clock.length fc1) ∧ w'.cell? ⟨w0.heap.size + 1, 2, none⟩ = some (.slice fa2 f.st.lives.length fc2) ∧ w'.cell? ⟨w0.heap.size + 1, 3, none⟩ = some (.slice fa3 f.st.tals.length fc3) ∧ w'.cell? ⟨w0.heap.size + 1, 4, none⟩ = some (.slice fa4 f.base.length fc4) ∧ w'.cell? ⟨w0.heap.size + 1, 5, none⟩ = some (.slice fa5 f.log.length fc5) ∧ w'.cell? ⟨w0.heap.size + 1, 6, none⟩ = some (.slice fa6 f.known.length fc6)) (by kernel_rfl) (HK.out _ (grew_drew (grew_refl _))) (fun hHeld => ?_)
        obtain ⟨wd, HWD⟩ : ∃ wd, Hid (w1.drew = wd) := ⟨_, rfl⟩
        have hgd : Grew w1 wd := by rw [← HWD.out]; exact grew_drew (grew_refl w1)
        rw [HWD.out] at hHeld ⊢
        refine take_yes 0 13 (.agg #[.int .i64 d.self, .slice da1 d.st.clock.length dc1, .slice da2 d.st.lives.length dc2, .slice da3 d.st.tals.length dc3, .slice da4 d.base.length dc4, .slice da5 d.log.length dc5, .slice da6 d.known.length dc6]) rfl rfl (by kernel_rfl) (by kernel_rfl) (by kernel_rfl) (fun _ _ _ h => h) rfl (by intro w hSw; (try dsimp only at hSw); go_simp) (by assumption) ?_
        simp only [Act.put, List.setIfInBounds_toArray, List.set_cons_zero, List.set_cons_succ]
        refine wpAnyH_ready (rs := [1]) (by kernel_rfl) (by simp) ?_
        refine (AllReadyH.cons (o := _) rfl (fun K hK => ?_) AllReadyH.nil)
        go_simp
        refine (wrong_node _ d _ (D1.out.below hgd (Nat.le_refl _))).mono ?_
        rintro e w_1 ⟨rfl, hb_1⟩
        rw [HEd.out]
        have hg_1 : Grew w1 w_1 := grew_step hgd hb_1
        refine hK.out _ _ (HK.out _ hg_1) (fun _ => ?_)
        clear hK K
        try simp only [Act.put, List.setIfInBounds_toArray, List.set_cons_zero, List.set_cons_succ]
        refine take_yes 2 15 (.bool false) rfl rfl (by kernel_rfl) (by kernel_rfl) (by kernel_rfl) (fun _ _ _ h => h) rfl (by intro w hSw; (try dsimp only at hSw); go_simp) (by assumption) ?_
        simp only [Act.put, List.setIfInBounds_toArray, List.set_cons_zero, List.set_cons_succ]
        refine take_yes 3 16 (.bool false) rfl rfl (by kernel_rfl) (by kernel_rfl) (by kernel_rfl) (fun _ _ _ h => h) rfl (by intro w hSw; (try dsimp only at hSw); go_simp) (by assumption) ?_
        simp only [Act.put, List.setIfInBounds_toArray, List.set_cons_zero, List.set_cons_succ]
        refine take_yes 4 17 (.agg #[.int .i64 f.self, .slice fa1 f.st.clock.length fc1, .slice fa2 f.st.lives.length fc2, .slice fa3 f.st.tals.length fc3, .slice fa4 f.base.length fc4, .slice fa5 f.log.length fc5, .slice fa6 f.known.length fc6]) rfl rfl (by kernel_rfl) (by kernel_rfl) (by kernel_rfl) (fun _ _ _ h => h) rfl (by intro w hSw; (try dsimp only at hSw); go_simp) (by assumption) ?_
        simp only [Act.put, List.setIfInBounds_toArray, List.set_cons_zero, List.set_cons_succ]
        refine wpAnyH_ready (rs := [5]) (by kernel_rfl) (by simp) ?_
        refine (AllReadyH.cons (o := _) rfl (fun K hK => ?_) AllReadyH.nil)
        go_simp
        refine (wrong_node _ f _ (N1.out.below hg_1 (Nat.le_refl _))).mono ?_
        rintro e w_1_5 ⟨rfl, hb_1_5⟩
        rw [HEf.out]
        have hg_1_5 : Grew w1 w_1_5 := grew_step hg_1 hb_1_5
        refine hK.out _ _ (HK.out _ hg_1_5) (fun _ => ?_)
        clear hK K
        try simp only [Act.put, List.setIfInBounds_toArray, List.set_cons_zero, List.set_cons_succ]
        refine take_yes 6 19 (.bool true) rfl rfl (by kernel_rfl) (by kernel_rfl) (by kernel_rfl) (fun _ _ _ h => h) rfl (by intro w hSw; (try dsimp only at hSw); go_simp) (by assumption) ?_
        simp only [Act.put, List.setIfInBounds_toArray, List.set_cons_zero, List.set_cons_succ]
        refine take_yes 7 20 (.bool true) rfl rfl (by kernel_rfl) (by kernel_rfl) (by kernel_rfl) (fun _ _ _ h => h) rfl (by intro w hSw; (try dsimp only at hSw); go_simp) (by assumption) ?_
        simp only [Act.put, List.setIfInBounds_toArray, List.set_cons_zero, List.set_cons_succ]
        refine take_yes 8 21 (.bool true) rfl rfl (by kernel_rfl) (by kernel_rfl) (by kernel_rfl) (fun _ _ _ h => h) rfl (by intro w hSw; (try dsimp only at hSw); go_simp) (by assumption) ?_
        simp only [Act.put, List.setIfInBounds_toArray, List.set_cons_zero, List.set_cons_succ]
        refine take_skip 9 22 rfl rfl (by kernel_rfl) (by kernel_rfl) (by kernel_rfl) (fun _ _ _ h => h) rfl (by assumption) ?_
        simp only [Act.put, List.setIfInBounds_toArray, List.set_cons_zero, List.set_cons_succ]
        refine take_skip 10 23 rfl rfl (by kernel_rfl) (by kernel_rfl) (by kernel_rfl) (fun _ _ _ h => h) rfl (by assumption) ?_
        simp only [Act.put, List.setIfInBounds_toArray, List.set_cons_zero, List.set_cons_succ]
        refine take_skip 11 24 rfl rfl (by kernel_rfl) (by kernel_rfl) (by kernel_rfl) (fun _ _ _ h => h) rfl (by assumption) ?_
        simp only [Act.put, List.setIfInBounds_toArray, List.set_cons_zero, List.set_cons_succ]
        refine take_skip 12 25 rfl rfl (by kernel_rfl) (by kernel_rfl) (by kernel_rfl) (fun _ _ _ h => h) rfl (by assumption) ?_
        simp only [Act.put, List.setIfInBounds_toArray, List.set_cons_zero, List.set_cons_succ]
        refine take_skip 13 26 rfl rfl (by kernel_rfl) (by kernel_rfl) (by kernel_rfl) (fun _ _ _ h => h) rfl (by assumption) ?_
        simp only [Act.put, List.setIfInBounds_toArray, List.set_cons_zero, List.set_cons_succ]
        refine take_skip 14 27 rfl rfl (by kernel_rfl) (by kernel_rfl) (by kernel_rfl) (fun _ _ _ h => h) rfl (by assumption) ?_
        simp only [Act.put, List.setIfInBounds_toArray, List.set_cons_zero, List.set_cons_succ]
        refine take_skip 15 28 rfl rfl (by kernel_rfl) (by kernel_rfl) (by kernel_rfl) (fun _ _ _ h => h) rfl (by assumption) ?_
        simp only [Act.put, List.setIfInBounds_toArray, List.set_cons_zero, List.set_cons_succ]
        refine take_yes 16 29 (.bool true) rfl rfl (by kernel_rfl) (by kernel_rfl) (by kernel_rfl) (fun _ _ _ h => h) rfl (by intro w hSw; (try dsimp only at hSw); go_simp) (by assumption) ?_
        simp only [Act.put, List.setIfInBounds_toArray, List.set_cons_zero, List.set_cons_succ]
        refine take_yes 17 30 (.bool true) rfl rfl (by kernel_rfl) (by kernel_rfl) (by kernel_rfl) (fun _ _ _ h => h) rfl (by intro w hSw; (try dsimp only at hSw); go_simp) (by assumption) ?_
        simp only [Act.put, List.setIfInBounds_toArray, List.set_cons_zero, List.set_cons_succ]
        refine take_skip 18 31 rfl rfl (by kernel_rfl) (by kernel_rfl) (by kernel_rfl) (fun _ _ _ h => h) rfl (by assumption) ?_
        simp only [Act.put, List.setIfInBounds_toArray, List.set_cons_zero, List.set_cons_succ]
        refine take_skip 19 32 rfl rfl (by kernel_rfl) (by kernel_rfl) (by kernel_rfl) (fun _ _ _ h => h) rfl (by assumption) ?_
        simp only [Act.put, List.setIfInBounds_toArray, List.set_cons_zero, List.set_cons_succ]
        refine take_skip 20 33 rfl rfl (by kernel_rfl) (by kernel_rfl) (by kernel_rfl) (fun _ _ _ h => h) rfl (by assumption) ?_
        simp only [Act.put, List.setIfInBounds_toArray, List.set_cons_zero, List.set_cons_succ]
        refine take_skip 21 34 rfl rfl (by kernel_rfl) (by kernel_rfl) (by kernel_rfl) (fun _ _ _ h => h) rfl (by assumption) ?_
        simp only [Act.put, List.setIfInBounds_toArray, List.set_cons_zero, List.set_cons_succ]
        refine take_skip 22 35 rfl rfl (by kernel_rfl) (by kernel_rfl) (by kernel_rfl) (fun _ _ _ h => h) rfl (by assumption) ?_
        simp only [Act.put, List.setIfInBounds_toArray, List.set_cons_zero, List.set_cons_succ]
        refine take_yes 23 36 (.bool true) rfl rfl (by kernel_rfl) (by kernel_rfl) (by kernel_rfl) (fun _ _ _ h => h) rfl (by intro w hSw; (try dsimp only at hSw); go_simp) (by assumption) ?_
        simp only [Act.put, List.setIfInBounds_toArray, List.set_cons_zero, List.set_cons_succ]
        refine take_yes 24 37 (.bool true) rfl rfl (by kernel_rfl) (by kernel_rfl) (by kernel_rfl) (fun _ _ _ h => h) rfl (by intro w hSw; (try dsimp only at hSw); go_simp) (by assumption) ?_
        simp only [Act.put, List.setIfInBounds_toArray, List.set_cons_zero, List.set_cons_succ]
        refine take_skip 25 38 rfl rfl (by kernel_rfl) (by kernel_rfl) (by kernel_rfl) (fun _ _ _ h => h) rfl (by assumption) ?_
        simp only [Act.put, List.setIfInBounds_toArray, List.set_cons_zero, List.set_cons_succ]
        refine take_skip 26 39 rfl rfl (by kernel_rfl) (by kernel_rfl) (by kernel_rfl) (fun _ _ _ h => h) rfl (by assumption) ?_
        simp only [Act.put, List.setIfInBounds_toArray, List.set_cons_zero, List.set_cons_succ]
        refine take_skip 27 40 rfl rfl (by kernel_rfl) (by kernel_rfl) (by kernel_rfl) (fun _ _ _ h => h) rfl (by assumption) ?_
        simp only [Act.put, List.setIfInBounds_toArray, List.set_cons_zero, List.set_cons_succ]
        refine take_skip 28 41 rfl rfl (by kernel_rfl) (by kernel_rfl) (by kernel_rfl) (fun _ _ _ h => h) rfl (by assumption) ?_
        simp only [Act.put, List.setIfInBounds_toArray, List.set_cons_zero, List.set_cons_succ]
        refine take_skip 29 42 rfl rfl (by kernel_rfl) (by kernel_rfl) (by kernel_rfl) (fun _ _ _ h => h) rfl (by assumption) ?_
        simp only [Act.put, List.setIfInBounds_toArray, List.set_cons_zero, List.set_cons_succ]
        refine take_skip 30 43 rfl rfl (by kernel_rfl) (by kernel_rfl) (by kernel_rfl) (fun _ _ _ h => h) rfl (by assumption) ?_
        simp only [Act.put, List.setIfInBounds_toArray, List.set_cons_zero, List.set_cons_succ]
        refine take_skip 31 44 rfl rfl (by kernel_rfl) (by kernel_rfl) (by kernel_rfl) (fun _ _ _ h => h) rfl (by assumption) ?_
        simp only [Act.put, List.setIfInBounds_toArray, List.set_cons_zero, List.set_cons_succ]
        refine take_skip 32 45 rfl rfl (by kernel_rfl) (by kernel_rfl) (by kernel_rfl) (fun _ _ _ h => h) rfl (by assumption) ?_
        simp only [Act.put, List.setIfInBounds_toArray, List.set_cons_zero, List.set_cons_succ]
        refine take_skip 33 46 rfl rfl (by kernel_rfl) (by kernel_rfl) (by kernel_rfl) (fun _ _ _ h => h) rfl (by assumption) ?_
        simp only [Act.put, List.setIfInBounds_toArray, List.set_cons_zero, List.set_cons_succ]
        refine take_skip 34 47 rfl rfl (by kernel_rfl) (by kernel_rfl) (by kernel_rfl) (fun _ _ _ h => h) rfl (by assumption) ?_
        simp only [Act.put, List.setIfInBounds_toArray, List.set_cons_zero, List.set_cons_succ]
        refine take_skip 35 48 rfl rfl (by kernel_rfl) (by kernel_rfl) (by kernel_rfl) (fun _ _ _ h => h) rfl (by assumption) ?_
        simp only [Act.put, List.setIfInBounds_toArray, List.set_cons_zero, List.set_cons_succ]
        refine take_yes 36 49 (.bool true) rfl rfl (by kernel_rfl) (by kernel_rfl) (by kernel_rfl) (fun _ _ _ h => h) rfl (by intro w hSw; (try dsimp only at hSw); go_simp) (by assumption) ?_
        simp only [Act.put, List.setIfInBounds_toArray, List.set_cons_zero, List.set_cons_succ]
        refine wpAnyH_done (by kernel_rfl) ?_ _
        go_wp2_with fail
        go_meet
        exact ⟨rfl, hg_1_5⟩
      case rest =>
        obtain ⟨rfl, HGR⟩ := hcut
        obtain ⟨w2, rfl⟩ : ∃ w2, w2 = wc := ⟨wc, rfl⟩
        have G2 := hide (G1.out.below HGR.out (Nat.le_refl _))
        have V2 := hide (V1.out.below HGR.out (Nat.le_refl _))
        have D2 := hide (D1.out.below HGR.out (Nat.le_refl _))
        have N2 := hide (N1.out.below HGR.out (Nat.le_refl _))
        have S2 := hide (S1.out.below HGR.out (Nat.le_refl _))
        have C2 := hide (C1.out.below HGR.out (Nat.le_refl _))
        have K2 := hide (K1.out.below HGR.out (Nat.le_refl _))
        have L2 := hide (L1.out.below HGR.out (Nat.le_refl _))
        have HB2 := hide (below_step HB1.out HGR.out)
        have hsz2 : Hid (w0.heap.size + 2 ≤ w2.heap.size) := by have := hsz.out; have := HGR.out.size; unfold Hid; omega
        clear G1 V1 D1 N1 S1 C1 K1 L1 HB1 HGR HK
        go_wp2_with fail
        go_ret
        exact ⟨rfl, HB2.out⟩
  · have hEd' : (Ed != 0) = true := by simp [hEd]
    clear hEd
    go_enter Tryz.func5, Tryz.ntmps5
    go_upto_region 1 with fail
    rw [HW0.out]
    go_wp2_with fail
    refine (alive6 _).mono ?_
    rintro e w1 ⟨rfl, hb1⟩
    have G1 := hide (G0.out.below hb1 (Nat.le_refl _))
    have V1 := hide (V0.out.below hb1 (Nat.le_refl _))
    have D1 := hide (D0.out.below hb1 (Nat.le_refl _))
    have N1 := hide (N0.out.below hb1 (Nat.le_refl _))
    have S1 := hide (S0.out.below hb1 (Nat.le_refl _))
    have C1 := hide (C0.out.below hb1 (Nat.le_refl _))
    have K1 := hide (K0.out.below hb1 (Nat.le_refl _))
    have L1 := hide (L0.out.below hb1 (Nat.le_refl _))
    have HB1 := hide (below_step HB0.out hb1)
    have hsz : Hid (w0.heap.size + 2 ≤ w1.heap.size) := by have := V0.out.lt; have := hb1.size; unfold Hid; omega
    clear G0 V0 D0 N0 S0 C0 K0 L0 HB0 hb1
    have HK : Hid (∀ w', Grew w1 w' → w'.cell? ⟨w0.heap.size, 0, none⟩ = some (.int .i64 d.self) ∧ w'.cell? ⟨w0.heap.size, 1, none⟩ = some (.slice da1 d.st.clock.length dc1) ∧ w'.cell? ⟨w0.heap.size, 2, none⟩ = some (.slice da2 d.st.lives.length dc2) ∧ w'.cell? ⟨w0.heap.size, 3, none⟩ = some (.slice da3 d.st.tals.length dc3) ∧ w'.cell? ⟨w0.heap.size, 4, none⟩ = some (.slice da4 d.base.length dc4) ∧ w'.cell? ⟨w0.heap.size, 5, none⟩ = some (.slice da5 d.log.length dc5) ∧ w'.cell? ⟨w0.heap.size, 6, none⟩ = some (.slice da6 d.known.length dc6) ∧ w'.cell? ⟨w0.heap.size + 1, 0, none⟩ = some (.int .i64 f.self) ∧ w'.cell? ⟨w0.heap.size + 1, 1, none⟩ = some (.slice fa1 f.st.clock.length fc1) ∧ w'.cell? ⟨w0.heap.size + 1, 2, none⟩ = some (.slice fa2 f.st.lives.length fc2) ∧ w'.cell? ⟨w0.heap.size + 1, 3, none⟩ = some (.slice fa3 f.st.tals.length fc3) ∧ w'.cell? ⟨w0.heap.size + 1, 4, none⟩ = some (.slice fa4 f.base.length fc4) ∧ w'.cell? ⟨w0.heap.size + 1, 5, none⟩ = some (.slice fa5 f.log.length fc5) ∧ w'.cell? ⟨w0.heap.size + 1, 6, none⟩ = some (.slice fa6 f.known.length fc6)) := fun w' hg => ⟨(G1.out.below hg (Nat.le_refl _)).get 0 rfl, (G1.out.below hg (Nat.le_refl _)).get 1 rfl, (G1.out.below hg (Nat.le_refl _)).get 2 rfl, (G1.out.below hg (Nat.le_refl _)).get 3 rfl, (G1.out.below hg (Nat.le_refl _)).get 4 rfl, (G1.out.below hg (Nat.le_refl _)).get 5 rfl, (G1.out.below hg (Nat.le_refl _)).get 6 rfl, (V1.out.below hg (Nat.le_refl _)).get 0 rfl, (V1.out.below hg (Nat.le_refl _)).get 1 rfl, (V1.out.below hg (Nat.le_refl _)).get 2 rfl, (V1.out.below hg (Nat.le_refl _)).get 3 rfl, (V1.out.below hg (Nat.le_refl _)).get 4 rfl, (V1.out.below hg (Nat.le_refl _)).get 5 rfl, (V1.out.below hg (Nat.le_refl _)).get 6 rfl⟩
    go_upto_region 3 with fail
    go_cut [49] (fun c wx => c = .bool true ∧ Hid (Grew w1 wx))
    case first =>
      refine wp_region_held_drew (S := fun w' => w'.cell? ⟨w0.heap.size, 0, none⟩ = some (.int .i64 d.self) ∧ w'.cell? ⟨w0.heap.size, 1, none⟩ = some (.slice da1 d.st.clock.length dc1) ∧ w'.cell? ⟨w0.heap.size, 2, none⟩ = some (.slice da2 d.st.lives.length dc2) ∧ w'.cell? ⟨w0.heap.size, 3, none⟩ = some (.slice da3 d.st.tals.length dc3) ∧ w'.cell? ⟨w0.heap.size, 4, none⟩ = some (.slice da4 d.base.length dc4) ∧ w'.cell? ⟨w0.heap.size, 5, none⟩ = some (.slice da5 d.log.length dc5) ∧ w'.cell? ⟨w0.heap.size, 6, none⟩ = some (.slice da6 d.known.length dc6) ∧ w'.cell? ⟨w0.heap.size + 1, 0, none⟩ = some (.int .i64 f.self) ∧ w'.cell? ⟨w0.heap.size + 1, 1, none⟩ = some (.slice fa1 f.st.clock.length fc1) ∧ w'.cell? ⟨w0.heap.size + 1, 2, none⟩ = some (.slice fa2 f.st.lives.length fc2) ∧ w'.cell? ⟨w0.heap.size + 1, 3, none⟩ = some (.slice fa3 f.st.tals.length fc3) ∧ w'.cell? ⟨w0.heap.size + 1, 4, none⟩ = some (.slice fa4 f.base.length fc4) ∧ w'.cell? ⟨w0.heap.size + 1, 5, none⟩ = some (.slice fa5 f.log.length fc5) ∧ w'.cell? ⟨w0.heap.size + 1, 6, none⟩ = some (.slice fa6 f.known.length fc6)) (by kernel_rfl) (HK.out _ (grew_drew (grew_refl _))) (fun hHeld => ?_)
      obtain ⟨wd, HWD⟩ : ∃ wd, Hid (w1.drew = wd) := ⟨_, rfl⟩
      have hgd : Grew w1 wd := by rw [← HWD.out]; exact grew_drew (grew_refl w1)
      rw [HWD.out] at hHeld ⊢
      refine take_yes 0 13 (.agg #[.int .i64 d.self, .slice da1 d.st.clock.length dc1, .slice da2 d.st.lives.length dc2, .slice da3 d.st.tals.length dc3, .slice da4 d.base.length dc4, .slice da5 d.log.length dc5, .slice da6 d.known.length dc6]) rfl rfl (by kernel_rfl) (by kernel_rfl) (by kernel_rfl) (fun _ _ _ h => h) rfl (by intro w hSw; (try dsimp only at hSw); go_simp) (by assumption) ?_
      simp only [Act.put, List.setIfInBounds_toArray, List.set_cons_zero, List.set_cons_succ]
      refine wpAnyH_ready (rs := [1]) (by kernel_rfl) (by simp) ?_
      refine (AllReadyH.cons (o := _) rfl (fun K hK => ?_) AllReadyH.nil)
      go_simp
      refine (wrong_node _ d _ (D1.out.below hgd (Nat.le_refl _))).mono ?_
      rintro e w_1 ⟨rfl, hb_1⟩
      rw [HEd.out]
      have hg_1 : Grew w1 w_1 := grew_step hgd hb_1
      refine hK.out _ _ (HK.out _ hg_1) (fun _ => ?_)
      clear hK K
      try simp only [Act.put, List.setIfInBounds_toArray, List.set_cons_zero, List.set_cons_succ]
      refine take_yes 2 15 (.bool true) rfl rfl (by kernel_rfl) (by kernel_rfl) (by kernel_rfl) (fun _ _ _ h => h) rfl (by intro w hSw; (try dsimp only at hSw); go_simp) (by assumption) ?_
      simp only [Act.put, List.setIfInBounds_toArray, List.set_cons_zero, List.set_cons_succ]
      refine take_yes 3 16 (.bool true) rfl rfl (by kernel_rfl) (by kernel_rfl) (by kernel_rfl) (fun _ _ _ h => h) rfl (by intro w hSw; (try dsimp only at hSw); go_simp) (by assumption) ?_
      simp only [Act.put, List.setIfInBounds_toArray, List.set_cons_zero, List.set_cons_succ]
      refine take_skip 4 17 rfl rfl (by kernel_rfl) (by kernel_rfl) (by kernel_rfl) (fun _ _ _ h => h) rfl (by assumption) ?_
      simp only [Act.put, List.setIfInBounds_toArray, List.set_cons_zero, List.set_cons_succ]
      refine take_skip 5 18 rfl rfl (by kernel_rfl) (by kernel_rfl) (by kernel_rfl) (fun _ _ _ h => h) rfl (by assumption) ?_
      simp only [Act.put, List.setIfInBounds_toArray, List.set_cons_zero, List.set_cons_succ]
      refine take_skip 6 19 rfl rfl (by kernel_rfl) (by kernel_rfl) (by kernel_rfl) (fun _ _ _ h => h) rfl (by assumption) ?_
      simp only [Act.put, List.setIfInBounds_toArray, List.set_cons_zero, List.set_cons_succ]
      refine take_yes 7 20 (.bool true) rfl rfl (by kernel_rfl) (by kernel_rfl) (by kernel_rfl) (fun _ _ _ h => h) rfl (by intro w hSw; (try dsimp only at hSw); go_simp) (by assumption) ?_
      simp only [Act.put, List.setIfInBounds_toArray, List.set_cons_zero, List.set_cons_succ]
      refine take_yes 8 21 (.bool true) rfl rfl (by kernel_rfl) (by kernel_rfl) (by kernel_rfl) (fun _ _ _ h => h) rfl (by intro w hSw; (try dsimp only at hSw); go_simp) (by assumption) ?_
      simp only [Act.put, List.setIfInBounds_toArray, List.set_cons_zero, List.set_cons_succ]
      refine take_skip 9 22 rfl rfl (by kernel_rfl) (by kernel_rfl) (by kernel_rfl) (fun _ _ _ h => h) rfl (by assumption) ?_
      simp only [Act.put, List.setIfInBounds_toArray, List.set_cons_zero, List.set_cons_succ]
      refine take_skip 10 23 rfl rfl (by kernel_rfl) (by kernel_rfl) (by kernel_rfl) (fun _ _ _ h => h) rfl (by assumption) ?_
      simp only [Act.put, List.setIfInBounds_toArray, List.set_cons_zero, List.set_cons_succ]
      refine take_skip 11 24 rfl rfl (by kernel_rfl) (by kernel_rfl) (by kernel_rfl) (fun _ _ _ h => h) rfl (by assumption) ?_
      simp only [Act.put, List.setIfInBounds_toArray, List.set_cons_zero, List.set_cons_succ]
      refine take_skip 12 25 rfl rfl (by kernel_rfl) (by kernel_rfl) (by kernel_rfl) (fun _ _ _ h => h) rfl (by assumption) ?_
      simp only [Act.put, List.setIfInBounds_toArray, List.set_cons_zero, List.set_cons_succ]
      refine take_skip 13 26 rfl rfl (by kernel_rfl) (by kernel_rfl) (by kernel_rfl) (fun _ _ _ h => h) rfl (by assumption) ?_
      simp only [Act.put, List.setIfInBounds_toArray, List.set_cons_zero, List.set_cons_succ]
      refine take_skip 14 27 rfl rfl (by kernel_rfl) (by kernel_rfl) (by kernel_rfl) (fun _ _ _ h => h) rfl (by assumption) ?_
      simp only [Act.put, List.setIfInBounds_toArray, List.set_cons_zero, List.set_cons_succ]
      refine take_skip 15 28 rfl rfl (by kernel_rfl) (by kernel_rfl) (by kernel_rfl) (fun _ _ _ h => h) rfl (by assumption) ?_
      simp only [Act.put, List.setIfInBounds_toArray, List.set_cons_zero, List.set_cons_succ]
      refine take_yes 16 29 (.bool true) rfl rfl (by kernel_rfl) (by kernel_rfl) (by kernel_rfl) (fun _ _ _ h => h) rfl (by intro w hSw; (try dsimp only at hSw); go_simp) (by assumption) ?_
      simp only [Act.put, List.setIfInBounds_toArray, List.set_cons_zero, List.set_cons_succ]
      refine take_yes 17 30 (.bool true) rfl rfl (by kernel_rfl) (by kernel_rfl) (by kernel_rfl) (fun _ _ _ h => h) rfl (by intro w hSw; (try dsimp only at hSw); go_simp) (by assumption) ?_
      simp only [Act.put, List.setIfInBounds_toArray, List.set_cons_zero, List.set_cons_succ]
      refine take_skip 18 31 rfl rfl (by kernel_rfl) (by kernel_rfl) (by kernel_rfl) (fun _ _ _ h => h) rfl (by assumption) ?_
      simp only [Act.put, List.setIfInBounds_toArray, List.set_cons_zero, List.set_cons_succ]
      refine take_skip 19 32 rfl rfl (by kernel_rfl) (by kernel_rfl) (by kernel_rfl) (fun _ _ _ h => h) rfl (by assumption) ?_
      simp only [Act.put, List.setIfInBounds_toArray, List.set_cons_zero, List.set_cons_succ]
      refine take_skip 20 33 rfl rfl (by kernel_rfl) (by kernel_rfl) (by kernel_rfl) (fun _ _ _ h => h) rfl (by assumption) ?_
      simp only [Act.put, List.setIfInBounds_toArray, List.set_cons_zero, List.set_cons_succ]
      refine take_skip 21 34 rfl rfl (by kernel_rfl) (by kernel_rfl) (by kernel_rfl) (fun _ _ _ h => h) rfl (by assumption) ?_
      simp only [Act.put, List.setIfInBounds_toArray, List.set_cons_zero, List.set_cons_succ]
      refine take_skip 22 35 rfl rfl (by kernel_rfl) (by kernel_rfl) (by kernel_rfl) (fun _ _ _ h => h) rfl (by assumption) ?_
      simp only [Act.put, List.setIfInBounds_toArray, List.set_cons_zero, List.set_cons_succ]
      refine take_yes 23 36 (.bool true) rfl rfl (by kernel_rfl) (by kernel_rfl) (by kernel_rfl) (fun _ _ _ h => h) rfl (by intro w hSw; (try dsimp only at hSw); go_simp) (by assumption) ?_
      simp only [Act.put, List.setIfInBounds_toArray, List.set_cons_zero, List.set_cons_succ]
      refine take_yes 24 37 (.bool true) rfl rfl (by kernel_rfl) (by kernel_rfl) (by kernel_rfl) (fun _ _ _ h => h) rfl (by intro w hSw; (try dsimp only at hSw); go_simp) (by assumption) ?_
      simp only [Act.put, List.setIfInBounds_toArray, List.set_cons_zero, List.set_cons_succ]
      refine take_skip 25 38 rfl rfl (by kernel_rfl) (by kernel_rfl) (by kernel_rfl) (fun _ _ _ h => h) rfl (by assumption) ?_
      simp only [Act.put, List.setIfInBounds_toArray, List.set_cons_zero, List.set_cons_succ]
      refine take_skip 26 39 rfl rfl (by kernel_rfl) (by kernel_rfl) (by kernel_rfl) (fun _ _ _ h => h) rfl (by assumption) ?_
      simp only [Act.put, List.setIfInBounds_toArray, List.set_cons_zero, List.set_cons_succ]
      refine take_skip 27 40 rfl rfl (by kernel_rfl) (by kernel_rfl) (by kernel_rfl) (fun _ _ _ h => h) rfl (by assumption) ?_
      simp only [Act.put, List.setIfInBounds_toArray, List.set_cons_zero, List.set_cons_succ]
      refine take_skip 28 41 rfl rfl (by kernel_rfl) (by kernel_rfl) (by kernel_rfl) (fun _ _ _ h => h) rfl (by assumption) ?_
      simp only [Act.put, List.setIfInBounds_toArray, List.set_cons_zero, List.set_cons_succ]
      refine take_skip 29 42 rfl rfl (by kernel_rfl) (by kernel_rfl) (by kernel_rfl) (fun _ _ _ h => h) rfl (by assumption) ?_
      simp only [Act.put, List.setIfInBounds_toArray, List.set_cons_zero, List.set_cons_succ]
      refine take_skip 30 43 rfl rfl (by kernel_rfl) (by kernel_rfl) (by kernel_rfl) (fun _ _ _ h => h) rfl (by assumption) ?_
      simp only [Act.put, List.setIfInBounds_toArray, List.set_cons_zero, List.set_cons_succ]
      refine take_skip 31 44 rfl rfl (by kernel_rfl) (by kernel_rfl) (by kernel_rfl) (fun _ _ _ h => h) rfl (by assumption) ?_
      simp only [Act.put, List.setIfInBounds_toArray, List.set_cons_zero, List.set_cons_succ]
      refine take_skip 32 45 rfl rfl (by kernel_rfl) (by kernel_rfl) (by kernel_rfl) (fun _ _ _ h => h) rfl (by assumption) ?_
      simp only [Act.put, List.setIfInBounds_toArray, List.set_cons_zero, List.set_cons_succ]
      refine take_skip 33 46 rfl rfl (by kernel_rfl) (by kernel_rfl) (by kernel_rfl) (fun _ _ _ h => h) rfl (by assumption) ?_
      simp only [Act.put, List.setIfInBounds_toArray, List.set_cons_zero, List.set_cons_succ]
      refine take_skip 34 47 rfl rfl (by kernel_rfl) (by kernel_rfl) (by kernel_rfl) (fun _ _ _ h => h) rfl (by assumption) ?_
      simp only [Act.put, List.setIfInBounds_toArray, List.set_cons_zero, List.set_cons_succ]
      refine take_skip 35 48 rfl rfl (by kernel_rfl) (by kernel_rfl) (by kernel_rfl) (fun _ _ _ h => h) rfl (by assumption) ?_
      simp only [Act.put, List.setIfInBounds_toArray, List.set_cons_zero, List.set_cons_succ]
      refine take_yes 36 49 (.bool true) rfl rfl (by kernel_rfl) (by kernel_rfl) (by kernel_rfl) (fun _ _ _ h => h) rfl (by intro w hSw; (try dsimp only at hSw); go_simp) (by assumption) ?_
      simp only [Act.put, List.setIfInBounds_toArray, List.set_cons_zero, List.set_cons_succ]
      refine wpAnyH_done (by kernel_rfl) ?_ _
      go_wp2_with fail
      go_meet
      exact ⟨rfl, hg_1⟩
    case rest =>
      obtain ⟨rfl, HGR⟩ := hcut
      obtain ⟨w2, rfl⟩ : ∃ w2, w2 = wc := ⟨wc, rfl⟩
      have G2 := hide (G1.out.below HGR.out (Nat.le_refl _))
      have V2 := hide (V1.out.below HGR.out (Nat.le_refl _))
      have D2 := hide (D1.out.below HGR.out (Nat.le_refl _))
      have N2 := hide (N1.out.below HGR.out (Nat.le_refl _))
      have S2 := hide (S1.out.below HGR.out (Nat.le_refl _))
      have C2 := hide (C1.out.below HGR.out (Nat.le_refl _))
      have K2 := hide (K1.out.below HGR.out (Nat.le_refl _))
      have L2 := hide (L1.out.below HGR.out (Nat.le_refl _))
      have HB2 := hide (below_step HB1.out HGR.out)
      have hsz2 : Hid (w0.heap.size + 2 ≤ w2.heap.size) := by have := hsz.out; have := HGR.out.size; unfold Hid; omega
      clear G1 V1 D1 N1 S1 C1 K1 L1 HB1 HGR HK
      go_wp2_with fail
      go_ret
      exact ⟨rfl, HB2.out⟩
end Go.Proofs.YtlhdnpakafcbkaaGreat
