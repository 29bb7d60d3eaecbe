/- The document's own SameNode, of two that read as the same node; what stands ahead of each law of chapter 6. -/
import Derived.Test.YtlhdnpakafcbkaaGreatNdZ
import Derived.Test.YtlhdnpakafcbkaaGreatSameLog
namespace Go.Proofs.YtlhdnpakafcbkaaGreat
open Go.RowKit

set_option maxRecDepth 100000 in
set_option maxHeartbeats 4000000 in
theorem sameNode_yes (v u : Value) (d : NdS) (w : World) (h : IsNode w v d) (hu : IsNode w u d) :
    Calls Tryz.prog 10 #[v, u] w fun e w' => e = .returned (.bool true) ∧ Below w.heap.size w w' := by
  obtain ⟨a1, c1, a2, c2, a3, c3, a4, c4, a5, c5, a6, c6, rfl, hs1, hc1, hb1, hl1, hk1⟩ := h.form
  obtain ⟨b1, e1, b2, e2, b3, e3, b4, e4, b5, e5, b6, e6, rfl, hs2, hc2, hb2, hl2, hk2⟩ := hu.form
  have hbp := Below.plus (Below.plus (Below.refl w.heap.size w) (.cells #[.int .i64 d.self, .slice a1 d.st.clock.length c1, .slice a2 d.st.lives.length c2, .slice a3 d.st.tals.length c3, .slice a4 d.base.length c4, .slice a5 d.log.length c5, .slice a6 d.known.length c6] 31)) (.cells #[.int .i64 d.self, .slice b1 d.st.clock.length e1, .slice b2 d.st.lives.length e2, .slice b3 d.st.tals.length e3, .slice b4 d.base.length e4, .slice b5 d.log.length e5, .slice b6 d.known.length e6] 31)
  have G0 := hide ((Box.new w [.int .i64 d.self, .slice a1 d.st.clock.length c1, .slice a2 d.st.lives.length c2, .slice a3 d.st.tals.length c3, .slice a4 d.base.length c4, .slice a5 d.log.length c5, .slice a6 d.known.length c6] 31).plus (.cells #[.int .i64 d.self, .slice b1 d.st.clock.length e1, .slice b2 d.st.lives.length e2, .slice b3 d.st.tals.length e3, .slice b4 d.base.length e4, .slice b5 d.log.length e5, .slice b6 d.known.length e6] 31))
  have V0 := hide (Box.new (w.alloc (.cells #[.int .i64 d.self, .slice a1 d.st.clock.length c1, .slice a2 d.st.lives.length c2, .slice a3 d.st.tals.length c3, .slice a4 d.base.length c4, .slice a5 d.log.length c5, .slice a6 d.known.length c6] 31)) [.int .i64 d.self, .slice b1 d.st.clock.length e1, .slice b2 d.st.lives.length e2, .slice b3 d.st.tals.length e3, .slice b4 d.base.length e4, .slice b5 d.log.length e5, .slice b6 d.known.length e6] 31)
  simp only [World.size_alloc] at V0
  have HB0 := hide hbp
  have SA0 := hide (hs1.below hbp (Nat.le_refl _))
  have SB0 := hide (hs2.below hbp (Nat.le_refl _))
  have BA0 := hide (hb1.below hbp (Nat.le_refl _))
  have BB0 := hide (hb2.below hbp (Nat.le_refl _))
  have LA0 := hide (hl1.below hbp (Nat.le_refl _))
  have LB0 := hide (hl2.below hbp (Nat.le_refl _))
  have KA0 := hide (hk1.below hbp (Nat.le_refl _))
  have KB0 := hide (hk2.below hbp (Nat.le_refl _))
  have hkl := hk1.len_le
  have hne0 : (d.self != d.self) = false := by simp
  have hne5 : ((d.known.length : Int) != (d.known.length : Int)) = false := by simp
  clear h hu hs1 hs2 hc1 hc2 hb1 hb2 hl1 hl2 hk1 hk2 hbp
  obtain ⟨W0, HW0⟩ : ∃ W0, Hid ((w.alloc (.cells #[.int .i64 d.self, .slice a1 d.st.clock.length c1, .slice a2 d.st.lives.length c2, .slice a3 d.st.tals.length c3, .slice a4 d.base.length c4, .slice a5 d.log.length c5, .slice a6 d.known.length c6] 31)).alloc (.cells #[.int .i64 d.self, .slice b1 d.st.clock.length e1, .slice b2 d.st.lives.length e2, .slice b3 d.st.tals.length e3, .slice b4 d.base.length e4, .slice b5 d.log.length e5, .slice b6 d.known.length e6] 31) = W0) := ⟨_, rfl⟩
  rw [HW0.out] at G0 V0 HB0 SA0 SB0 BA0 BB0 LA0 LB0 KA0 KB0
  obtain ⟨w0, rfl⟩ : ∃ w0, w0 = W0 := ⟨W0, rfl⟩
  go_enter Tryz.func10, Tryz.ntmps10
  go_upto_region 1 with fail
  rw [HW0.out]
  have cG0 := G0.out.get 0 rfl
  have cG1 := G0.out.get 1 rfl
  have cG2 := G0.out.get 2 rfl
  have cG3 := G0.out.get 3 rfl
  have cG4 := G0.out.get 4 rfl
  have cG5 := G0.out.get 5 rfl
  have cG6 := G0.out.get 6 rfl
  have cV0 := V0.out.get 0 rfl
  have cV1 := V0.out.get 1 rfl
  have cV2 := V0.out.get 2 rfl
  have cV3 := V0.out.get 3 rfl
  have cV4 := V0.out.get 4 rfl
  have cV5 := V0.out.get 5 rfl
  have cV6 := V0.out.get 6 rfl
  go_wp2_with fail
  refine (same_st _ _ d.st _ SA0.out SB0.out).mono ?_
  rintro e w1 ⟨rfl, hb⟩
  have HB1 := hide (below_step HB0.out hb)
  have G1 := hide (G0.out.below hb (Nat.le_refl _))
  have V1 := hide (V0.out.below hb (Nat.le_refl _))
  have SA1 := hide (SA0.out.below hb (Nat.le_refl _))
  have SB1 := hide (SB0.out.below hb (Nat.le_refl _))
  have BA1 := hide (BA0.out.below hb (Nat.le_refl _))
  have BB1 := hide (BB0.out.below hb (Nat.le_refl _))
  have LA1 := hide (LA0.out.below hb (Nat.le_refl _))
  have LB1 := hide (LB0.out.below hb (Nat.le_refl _))
  have KA1 := hide (KA0.out.below hb (Nat.le_refl _))
  have KB1 := hide (KB0.out.below hb (Nat.le_refl _))
  clear HB0 hb G0 V0 SA0 SB0 BA0 BB0 LA0 LB0 KA0 KB0
  have cG0 := G1.out.get 0 rfl
  have cG1 := G1.out.get 1 rfl
  have cG2 := G1.out.get 2 rfl
  have cG3 := G1.out.get 3 rfl
  have cG4 := G1.out.get 4 rfl
  have cG5 := G1.out.get 5 rfl
  have cG6 := G1.out.get 6 rfl
  have cV0 := V1.out.get 0 rfl
  have cV1 := V1.out.get 1 rfl
  have cV2 := V1.out.get 2 rfl
  have cV3 := V1.out.get 3 rfl
  have cV4 := V1.out.get 4 rfl
  have cV5 := V1.out.get 5 rfl
  have cV6 := V1.out.get 6 rfl
  go_wp2_with fail
  refine (same_yesW _ _ d.base _ BA1.out BB1.out).mono ?_
  rintro e w2 ⟨rfl, hb⟩
  have HB2 := hide (below_step HB1.out hb)
  have G2 := hide (G1.out.below hb (Nat.le_refl _))
  have V2 := hide (V1.out.below hb (Nat.le_refl _))
  have SA2 := hide (SA1.out.below hb (Nat.le_refl _))
  have SB2 := hide (SB1.out.below hb (Nat.le_refl _))
  have BA2 := hide (BA1.out.below hb (Nat.le_refl _))
  have BB2 := hide (BB1.out.below hb (Nat.le_refl _))
  have LA2 := hide (LA1.out.below hb (Nat.le_refl _))
  have LB2 := hide (LB1.out.below hb (Nat.le_refl _))
  have KA2 := hide (KA1.out.below hb (Nat.le_refl _))
  have KB2 := hide (KB1.out.below hb (Nat.le_refl _))
  clear HB1 hb G1 V1 SA1 SB1 BA1 BB1 LA1 LB1 KA1 KB1
  have cG0 := G2.out.get 0 rfl
  have cG1 := G2.out.get 1 rfl
  have cG2 := G2.out.get 2 rfl
  have cG3 := G2.out.get 3 rfl
  have cG4 := G2.out.get 4 rfl
  have cG5 := G2.out.get 5 rfl
  have cG6 := G2.out.get 6 rfl
  have cV0 := V2.out.get 0 rfl
  have cV1 := V2.out.get 1 rfl
  have cV2 := V2.out.get 2 rfl
  have cV3 := V2.out.get 3 rfl
  have cV4 := V2.out.get 4 rfl
  have cV5 := V2.out.get 5 rfl
  have cV6 := V2.out.get 6 rfl
  go_wp2_with fail
  refine (sameLog_yes _ _ d.log _ LA2.out LB2.out).mono ?_
  rintro e w3 ⟨rfl, hb⟩
  have HB3 := hide (below_step HB2.out hb)
  have G3 := hide (G2.out.below hb (Nat.le_refl _))
  have V3 := hide (V2.out.below hb (Nat.le_refl _))
  have SA3 := hide (SA2.out.below hb (Nat.le_refl _))
  have SB3 := hide (SB2.out.below hb (Nat.le_refl _))
  have BA3 := hide (BA2.out.below hb (Nat.le_refl _))
  have BB3 := hide (BB2.out.below hb (Nat.le_refl _))
  have LA3 := hide (LA2.out.below hb (Nat.le_refl _))
  have LB3 := hide (LB2.out.below hb (Nat.le_refl _))
  have KA3 := hide (KA2.out.below hb (Nat.le_refl _))
  have KB3 := hide (KB2.out.below hb (Nat.le_refl _))
  clear HB2 hb G2 V2 SA2 SB2 BA2 BB2 LA2 LB2 KA2 KB2
  have cG0 := G3.out.get 0 rfl
  have cG1 := G3.out.get 1 rfl
  have cG2 := G3.out.get 2 rfl
  have cG3 := G3.out.get 3 rfl
  have cG4 := G3.out.get 4 rfl
  have cG5 := G3.out.get 5 rfl
  have cG6 := G3.out.get 6 rfl
  have cV0 := V3.out.get 0 rfl
  have cV1 := V3.out.get 1 rfl
  have cV2 := V3.out.get 2 rfl
  have cV3 := V3.out.get 3 rfl
  have cV4 := V3.out.get 4 rfl
  have cV5 := V3.out.get 5 rfl
  have cV6 := V3.out.get 6 rfl
  go_wp2_with fail
  go_loopw [47] (fun i wr => ∃ k : Nat, k ≤ d.known.length ∧ i = .int .i64 k ∧ Hid (Below w3.heap.size w3 wr)) (fun i _ => d.known.length - (intOf i).toNat)
  case atStart => exact ⟨0, Nat.zero_le _, rfl, hide (Below.refl _ _)⟩
  case round =>
    obtain ⟨k, hk, rfl, HBk⟩ := hrel
    obtain ⟨w20, rfl⟩ : ∃ w20, w20 = wr := ⟨wr, rfl⟩
    clear cG0 cG1 cG2 cG3 cG4 cG5 cG6 cV0 cV1 cV2 cV3 cV4 cV5 cV6
    have HBw := hide (below_step HB3.out HBk.out)
    by_cases hlt : k < d.known.length
    · have hlt' : (k : Int) < (d.known.length : Int) := by omega
      obtain ⟨x, hx⟩ : ∃ x, d.known[k]? = some x := ⟨_, List.getElem?_eq_getElem hlt⟩
      have KA20 := KA3.out.below HBk.out (Nat.le_refl _)
      have KB20 := KB3.out.below HBk.out (Nat.le_refl _)
      obtain ⟨p1, o1, a7, c7, hq1, hcell1, hr1⟩ := KA20.at hx
      obtain ⟨p2, o2, b7, e7, hq2, hcell2, hr2⟩ := KB20.at hx
      subst hq1
      subst hq2
      have G20 := hide (G3.out.below HBk.out (Nat.le_refl _))
      have V20 := hide (V3.out.below HBk.out (Nat.le_refl _))
      have R1 := hide hr1
      have R2 := hide hr2
      have HC1 := hide hcell1
      have HC2 := hide hcell2
      clear hr1 hr2 hcell1 hcell2 KA20 KB20 hx
      have HK : Hid (∀ w', Grew w20 w' → w'.cell? ⟨w.heap.size, 6, none⟩ = some (.slice (some ⟨p1, o1, none⟩) d.known.length c6) ∧ w'.cell? ⟨w.heap.size + 1, 6, none⟩ = some (.slice (some ⟨p2, o2, none⟩) d.known.length e6) ∧ w'.cell? ⟨p1, o1 + k, none⟩ = some (.slice a7 x.length c7) ∧ w'.cell? ⟨p2, o2 + k, none⟩ = some (.slice b7 x.length e7)) := fun w' hg => ⟨(G20.out.below hg (Nat.le_refl _)).get 6 rfl, (V20.out.below hg (Nat.le_refl _)).get 6 rfl, (hg.cell (p := ⟨p1, o1 + k, none⟩) (World.block_lt_of_cell? w20 _ HC1.out)).trans HC1.out, (hg.cell (p := ⟨p2, o2 + k, none⟩) (World.block_lt_of_cell? w20 _ HC2.out)).trans HC2.out⟩
      go_upto_region 6 with fail
      go_cut [61] (fun c wx => c = .bool false ∧ Hid (Grew w20 wx))
      case first =>
        refine wp_region_held_drew (S := fun w' => w'.cell? ⟨w.heap.size, 6, none⟩ = some (.slice (some ⟨p1, o1, none⟩) d.known.length c6) ∧ w'.cell? ⟨w.heap.size + 1, 6, none⟩ = some (.slice (some ⟨p2, o2, none⟩) d.known.length e6) ∧ w'.cell? ⟨p1, o1 + k, none⟩ = some (.slice a7 x.length c7) ∧ w'.cell? ⟨p2, o2 + k, none⟩ = some (.slice b7 x.length e7)) (by kernel_rfl) (HK.out _ (grew_drew (grew_refl _))) (fun hHeld => ?_)
        obtain ⟨wd, HWD⟩ : ∃ wd, Hid (w20.drew = wd) := ⟨_, rfl⟩
        have hgd : Grew w20 wd := by rw [← HWD.out]; exact grew_drew (grew_refl w20)
        rw [HWD.out] at hHeld ⊢
        refine take_yes 0 50 (.pointer (some ⟨w.heap.size, 6, none⟩)) rfl rfl (by kernel_rfl) (by kernel_rfl) (by kernel_rfl) (fun _ _ _ h => h) rfl (by intro w hSw; (try dsimp only at hSw); go_simp) (by assumption) ?_
        simp only [Act.put, List.setIfInBounds_toArray, List.set_cons_zero, List.set_cons_succ]
        refine take_yes 1 51 (.slice (some ⟨p1, o1, none⟩) d.known.length c6) rfl rfl (by kernel_rfl) (by kernel_rfl) (by kernel_rfl) (fun _ _ _ h => h) rfl (by intro w hSw; (try dsimp only at hSw); go_simp) (by assumption) ?_
        simp only [Act.put, List.setIfInBounds_toArray, List.set_cons_zero, List.set_cons_succ]
        refine take_yes 2 52 (.int .i64 (k : Int)) rfl rfl (by kernel_rfl) (by kernel_rfl) (by kernel_rfl) (fun _ _ _ h => h) rfl (by intro w hSw; (try dsimp only at hSw); go_simp) (by assumption) ?_
        simp only [Act.put, List.setIfInBounds_toArray, List.set_cons_zero, List.set_cons_succ]
        refine take_yes 3 53 (.pointer (some ⟨p1, o1 + k, none⟩)) rfl rfl (by kernel_rfl) (by kernel_rfl) (by kernel_rfl) (fun _ _ _ h => h) rfl (by intro w hSw; (try dsimp only at hSw); go_simp) (by assumption) ?_
        simp only [Act.put, List.setIfInBounds_toArray, List.set_cons_zero, List.set_cons_succ]
        refine take_yes 4 54 (.slice a7 x.length c7) rfl rfl (by kernel_rfl) (by kernel_rfl) (by kernel_rfl) (fun _ _ _ h => h) rfl (by intro w hSw; (try dsimp only at hSw); go_simp) (by assumption) ?_
        simp only [Act.put, List.setIfInBounds_toArray, List.set_cons_zero, List.set_cons_succ]
        refine take_yes 5 55 (.pointer (some ⟨w.heap.size + 1, 6, none⟩)) rfl rfl (by kernel_rfl) (by kernel_rfl) (by kernel_rfl) (fun _ _ _ h => h) rfl (by intro w hSw; (try dsimp only at hSw); go_simp) (by assumption) ?_
        simp only [Act.put, List.setIfInBounds_toArray, List.set_cons_zero, List.set_cons_succ]
        refine take_yes 6 56 (.slice (some ⟨p2, o2, none⟩) d.known.length e6) rfl rfl (by kernel_rfl) (by kernel_rfl) (by kernel_rfl) (fun _ _ _ h => h) rfl (by intro w hSw; (try dsimp only at hSw); go_simp) (by assumption) ?_
        simp only [Act.put, List.setIfInBounds_toArray, List.set_cons_zero, List.set_cons_succ]
        refine take_yes 7 57 (.int .i64 (k : Int)) rfl rfl (by kernel_rfl) (by kernel_rfl) (by kernel_rfl) (fun _ _ _ h => h) rfl (by intro w hSw; (try dsimp only at hSw); go_simp) (by assumption) ?_
        simp only [Act.put, List.setIfInBounds_toArray, List.set_cons_zero, List.set_cons_succ]
        refine take_yes 8 58 (.pointer (some ⟨p2, o2 + k, none⟩)) rfl rfl (by kernel_rfl) (by kernel_rfl) (by kernel_rfl) (fun _ _ _ h => h) rfl (by intro w hSw; (try dsimp only at hSw); go_simp) (by assumption) ?_
        simp only [Act.put, List.setIfInBounds_toArray, List.set_cons_zero, List.set_cons_succ]
        refine take_yes 9 59 (.slice b7 x.length e7) rfl rfl (by kernel_rfl) (by kernel_rfl) (by kernel_rfl) (fun _ _ _ h => h) rfl (by intro w hSw; (try dsimp only at hSw); go_simp) (by assumption) ?_
        simp only [Act.put, List.setIfInBounds_toArray, List.set_cons_zero, List.set_cons_succ]
        refine wpAnyH_ready (rs := [10]) (by kernel_rfl) (by simp) ?_
        refine (AllReadyH.cons (o := _) rfl (fun K hK => ?_) AllReadyH.nil)
        go_simp
        refine (same_yesW _ _ x _ (R1.out.below hgd (Nat.le_refl _)) (R2.out.below hgd (Nat.le_refl _))).mono ?_
        rintro e w_10 ⟨rfl, hb_10⟩
        have hg_10 : Grew w20 w_10 := grew_step hgd hb_10
        refine hK.out _ _ (HK.out _ hg_10) (fun _ => ?_)
        clear hK K
        try simp only [Act.put, List.setIfInBounds_toArray, List.set_cons_zero, List.set_cons_succ]
        refine take_yes 11 61 (.bool false) rfl rfl (by kernel_rfl) (by kernel_rfl) (by kernel_rfl) (fun _ _ _ h => h) rfl (by intro w hSw; (try dsimp only at hSw); go_simp) (by assumption) ?_
        simp only [Act.put, List.setIfInBounds_toArray, List.set_cons_zero, List.set_cons_succ]
        refine wpAnyH_done (by kernel_rfl) ?_ _
        go_wp2_with fail
        go_meet
        exact ⟨rfl, hg_10⟩
      case rest =>
        obtain ⟨rfl, HGR⟩ := hcut
        obtain ⟨w21, rfl⟩ : ∃ w21, w21 = wc := ⟨wc, rfl⟩
        have HB21 := hide (below_step HBk.out HGR.out)
        go_wp2_with fail
        go_roundw
        case rel => exact ⟨k + 1, by omega, by go_num, HB21⟩
        case measure => simp [intOf]; omega
    · have hlt' : ¬ (k : Int) < (d.known.length : Int) := by omega
      go_wp2_with fail
      go_ret
      exact ⟨rfl, HBw.out⟩
end Go.Proofs.YtlhdnpakafcbkaaGreat
/- A node's variable that is set anew; what stands ahead of each law of chapter 6. -/
namespace Go.Proofs.YtlhdnpakafcbkaaGreat
open Go.RowKit

theorem NodeO.setT {w : World} {B g : Nat} {v : Value} {d : NdS} {cs : List Value} (h : NodeO w B v d) (hb : Box w g cs 31) (i : Nat) (x : Value) : NodeO (w.setCell ⟨g, i, Option.none⟩ x) B v d := by
  obtain ⟨cv, lv, tv, bv, uv, kv, h1, h2, h3, h4, h5⟩ := h
  exact ⟨cv, lv, tv, bv, uv, kv, h1, h2.setT hb (by decide) (by decide) (by decide) i x, h3.setT hb (by decide) i x, h4.setT hb (by decide) (by decide) i x, h5.setT hb (by decide) (by decide) i x⟩
theorem PclO.setT {w : World} {B g : Nat} {v : Value} {p : Pcl} {cs : List Value} (h : PclO w B v p) (hb : Box w g cs 31) (i : Nat) (x : Value) : PclO (w.setCell ⟨g, i, Option.none⟩ x) B v p := by
  obtain ⟨cv, lv, tv, uv, kv, h1, h2, h3, h4⟩ := h
  exact ⟨cv, lv, tv, uv, kv, h1, h2.setT hb (by decide) (by decide) (by decide) i x, h3.setT hb (by decide) (by decide) i x, h4.setT hb (by decide) i x⟩
theorem set7 {w : World} {g : Nat} {c0 c1 c2 c3 c4 c5 c6 : Value} (x0 x1 x2 x3 x4 x5 x6 : Value) (hb : Box w g [c0, c1, c2, c3, c4, c5, c6] 31) :
    Box (((((((w.setCell ⟨g, 0, none⟩ x0).setCell ⟨g, 1, none⟩ x1).setCell ⟨g, 2, none⟩ x2).setCell ⟨g, 3, none⟩ x3).setCell ⟨g, 4, none⟩ x4).setCell ⟨g, 5, none⟩ x5).setCell ⟨g, 6, none⟩ x6) g [x0, x1, x2, x3, x4, x5, x6] 31 ∧ (∀ B v d, NodeO w B v d → NodeO (((((((w.setCell ⟨g, 0, none⟩ x0).setCell ⟨g, 1, none⟩ x1).setCell ⟨g, 2, none⟩ x2).setCell ⟨g, 3, none⟩ x3).setCell ⟨g, 4, none⟩ x4).setCell ⟨g, 5, none⟩ x5).setCell ⟨g, 6, none⟩ x6) B v d) ∧ (∀ B v p, PclO w B v p → PclO (((((((w.setCell ⟨g, 0, none⟩ x0).setCell ⟨g, 1, none⟩ x1).setCell ⟨g, 2, none⟩ x2).setCell ⟨g, 3, none⟩ x3).setCell ⟨g, 4, none⟩ x4).setCell ⟨g, 5, none⟩ x5).setCell ⟨g, 6, none⟩ x6) B v p) ∧ (∀ g' cs t, g' ≠ g → Box w g' cs t → Box (((((((w.setCell ⟨g, 0, none⟩ x0).setCell ⟨g, 1, none⟩ x1).setCell ⟨g, 2, none⟩ x2).setCell ⟨g, 3, none⟩ x3).setCell ⟨g, 4, none⟩ x4).setCell ⟨g, 5, none⟩ x5).setCell ⟨g, 6, none⟩ x6) g' cs t) ∧ (∀ B w0, B ≤ g → Below B w0 w → Below B w0 (((((((w.setCell ⟨g, 0, none⟩ x0).setCell ⟨g, 1, none⟩ x1).setCell ⟨g, 2, none⟩ x2).setCell ⟨g, 3, none⟩ x3).setCell ⟨g, 4, none⟩ x4).setCell ⟨g, 5, none⟩ x5).setCell ⟨g, 6, none⟩ x6)) := by
  have b0 := hb.set 0 x0
  have b1 := b0.set 1 x1
  have b2 := b1.set 2 x2
  have b3 := b2.set 3 x3
  have b4 := b3.set 4 x4
  have b5 := b4.set 5 x5
  have b6 := b5.set 6 x6
  exact ⟨b6, fun B v d h => (((((((h.setT hb 0 x0).setT b0 1 x1).setT b1 2 x2).setT b2 3 x3).setT b3 4 x4).setT b4 5 x5).setT b5 6 x6), fun B v p h => (((((((h.setT hb 0 x0).setT b0 1 x1).setT b1 2 x2).setT b2 3 x3).setT b3 4 x4).setT b4 5 x5).setT b5 6 x6), fun g' cs t hne h => (((((((h.away (g' := g) (i := 0) (v := x0) hne).away (g' := g) (i := 1) (v := x1) hne).away (g' := g) (i := 2) (v := x2) hne).away (g' := g) (i := 3) (v := x3) hne).away (g' := g) (i := 4) (v := x4) hne).away (g' := g) (i := 5) (v := x5) hne).away (g' := g) (i := 6) (v := x6) hne), fun B w0 hB h => (((((((h.setCell (p := ⟨g, 0, none⟩) hB x0).setCell (p := ⟨g, 1, none⟩) hB x1).setCell (p := ⟨g, 2, none⟩) hB x2).setCell (p := ⟨g, 3, none⟩) hB x3).setCell (p := ⟨g, 4, none⟩) hB x4).setCell (p := ⟨g, 5, none⟩) hB x5).setCell (p := ⟨g, 6, none⟩) hB x6)⟩

def nA : NdS := ⟨0, ⟨[0, 0], [], []⟩, [0, 0], [], [[0, 0], [0, 0]]⟩
def nB : NdS := ⟨1, ⟨[0, 0], [], []⟩, [0, 0], [], [[0, 0], [0, 0]]⟩
def uA : Upd := ⟨0, [], 1, 1, 5⟩
def nI : NdS := ⟨0, ⟨[1, 0], [⟨false, 1, 5, 0, 1⟩], []⟩, [0, 0], [⟨0, [0, 0], 1, 1, 5⟩], [[1, 0], [0, 0]]⟩
def pS : Pcl := ⟨false, ⟨[], [], []⟩, [⟨0, [0, 0], 1, 1, 5⟩], [1, 0]⟩
def nT : NdS := ⟨1, ⟨[1, 0], [⟨false, 1, 5, 0, 1⟩], []⟩, [0, 0], [⟨0, [0, 0], 1, 1, 5⟩], [[1, 0], [1, 0]]⟩
theorem al_a : startE 0 2 = 0 ∧ startX 0 2 = nA := ⟨by kernel_rfl, by kernel_rfl⟩
theorem al_b : startE 1 2 = 0 ∧ startX 1 2 = nB := ⟨by kernel_rfl, by kernel_rfl⟩
theorem al_i : issueE nA uA = 0 ∧ issueX nA uA = nI := ⟨by kernel_rfl, by kernel_rfl⟩
theorem al_s : otherE nI 1 = 0 ∧ sendX nI 1 = pS := ⟨by kernel_rfl, by kernel_rfl⟩
theorem al_t : takeE nB 0 pS = 0 ∧ takeX nB 0 pS = nT := ⟨by kernel_rfl, by kernel_rfl⟩
/-- The value of a node of so many, opened. -/
theorem NodeO.formL {w : World} {B : Nat} {v : Value} {d : NdS} (h : NodeO w B v d) {i : Int} {n1 n2 n3 n4 n5 n6 : Nat} (h0 : d.self = i) (h1 : d.st.clock.length = n1) (h2 : d.st.lives.length = n2) (h3 : d.st.tals.length = n3) (h4 : d.base.length = n4) (h5 : d.log.length = n5) (h6 : d.known.length = n6) :
    ∃ a1 c1 a2 c2 a3 c3 a4 c4 a5 c5 a6 c6, v = .agg #[.int .i64 i, .slice a1 n1 c1, .slice a2 n2 c2, .slice a3 n3 c3, .slice a4 n4 c4, .slice a5 n5 c5, .slice a6 n6 c6] := by
  subst h0 h1 h2 h3 h4 h5 h6
  exact h.form
theorem PclO.formL {w : World} {B : Nat} {v : Value} {p : Pcl} (h : PclO w B v p) {b : Bool} {n1 n2 n3 n4 n5 : Nat} (h0 : p.whole = b) (h1 : p.st.clock.length = n1) (h2 : p.st.lives.length = n2) (h3 : p.st.tals.length = n3) (h4 : p.ups.length = n4) (h5 : p.clock.length = n5) :
    ∃ a1 c1 a2 c2 a3 c3 a4 c4 a5 c5, v = .agg #[.bool b, .slice a1 n1 c1, .slice a2 n2 c2, .slice a3 n3 c3, .slice a4 n4 c4, .slice a5 n5 c5] := by
  subst h0 h1 h2 h3 h4 h5
  obtain ⟨a1, c1, a2, c2, a3, c3, a4, c4, a5, c5, e, -⟩ := h.pcl.form
  exact ⟨a1, c1, a2, c2, a3, c3, a4, c4, a5, c5, e⟩

set_option maxRecDepth 100000 in
set_option maxHeartbeats 4000000 in
theorem alive6 (w : World) : Calls Tryz.prog 22 #[] w fun e w' => e = .returned (.bool true) ∧ Below w.heap.size w w' := by
  go_enter Tryz.func22, Tryz.ntmps22
  go_wp2_with fail
  refine (start_node 0 2 w).mono ?_
  rintro e w1 ⟨rv, rfl, ho1, hb1⟩
  rw [al_a.1]
  rw [al_a.2] at ho1
  obtain ⟨aa1, ac1, aa2, ac2, aa3, ac3, aa4, ac4, aa5, ac5, aa6, ac6, hrv⟩ := ho1.formL (i := 0) (n1 := 2) (n2 := 0) (n3 := 0) (n4 := 2) (n5 := 0) (n6 := 2) rfl rfl rfl rfl rfl rfl rfl
  subst hrv
  have hs1 := hb1.size
  have hbp := Below.plus (Below.refl w1.heap.size w1) (.cells #[.int .i64 0, .slice aa1 2 ac1, .slice aa2 0 ac2, .slice aa3 0 ac3, .slice aa4 2 ac4, .slice aa5 0 ac5, .slice aa6 2 ac6] 31)
  have XW1 := Box.new w1 [.int .i64 0, .slice aa1 2 ac1, .slice aa2 0 ac2, .slice aa3 0 ac3, .slice aa4 2 ac4, .slice aa5 0 ac5, .slice aa6 2 ac6] 31
  have AW1 := ho1.below hbp (Nat.le_refl _)
  have ZBW1 := below_step hb1 hbp
  obtain ⟨W1, HWW1⟩ : ∃ W, Hid (w1.alloc (.cells #[.int .i64 0, .slice aa1 2 ac1, .slice aa2 0 ac2, .slice aa3 0 ac3, .slice aa4 2 ac4, .slice aa5 0 ac5, .slice aa6 2 ac6] 31) = W) := ⟨_, rfl⟩
  rw [HWW1.out] at XW1 ZBW1 AW1
  have HXW1 := hide XW1
  have HZBW1 := hide ZBW1
  have HAW1 := hide AW1
  clear hbp XW1 ZBW1 AW1 ho1 hb1
  go_upto_region 2 with fail
  rw [HWW1.out]
  go_wp2_with fail
  refine (start_node 1 2 W1).mono ?_
  rintro e w2 ⟨rv, rfl, ho2, hb2⟩
  rw [al_b.1]
  rw [al_b.2] at ho2
  obtain ⟨ba1, bc1, ba2, bc2, ba3, bc3, ba4, bc4, ba5, bc5, ba6, bc6, hrv⟩ := ho2.formL (i := 1) (n1 := 2) (n2 := 0) (n3 := 0) (n4 := 2) (n5 := 0) (n6 := 2) rfl rfl rfl rfl rfl rfl rfl
  subst hrv
  have XA2 := HXW1.out.below hb2 (Nat.le_refl _)
  have A2 := HAW1.out.below hb2 (Nat.le_refl _)
  have HB2 := below_step HZBW1.out hb2
  have hs2 := XA2.lt
  have hbp := Below.plus (Below.refl w2.heap.size w2) (.cells #[.int .i64 1, .slice ba1 2 bc1, .slice ba2 0 bc2, .slice ba3 0 bc3, .slice ba4 2 bc4, .slice ba5 0 bc5, .slice ba6 2 bc6] 31)
  have XW2 := Box.new w2 [.int .i64 1, .slice ba1 2 bc1, .slice ba2 0 bc2, .slice ba3 0 bc3, .slice ba4 2 bc4, .slice ba5 0 bc5, .slice ba6 2 bc6] 31
  have AW2 := A2.below hbp (Nat.le_refl _)
  have XAW2 := XA2.below hbp (Nat.le_refl _)
  have BW2 := ho2.below hbp (Nat.le_refl _)
  have ZBW2 := below_step HB2 hbp
  obtain ⟨W2, HWW2⟩ : ∃ W, Hid (w2.alloc (.cells #[.int .i64 1, .slice ba1 2 bc1, .slice ba2 0 bc2, .slice ba3 0 bc3, .slice ba4 2 bc4, .slice ba5 0 bc5, .slice ba6 2 bc6] 31) = W) := ⟨_, rfl⟩
  rw [HWW2.out] at XW2 ZBW2 AW2 XAW2 BW2
  have HXW2 := hide XW2
  have HZBW2 := hide ZBW2
  have HAW2 := hide AW2
  have HXAW2 := hide XAW2
  have HBW2 := hide BW2
  clear hbp XW2 ZBW2 AW2 XAW2 BW2 A2 XA2 ho2 hb2 HB2 HAW1 HXW1 HZBW1
  have g0 := HXAW2.out.get 0 rfl
  have g1 := HXAW2.out.get 1 rfl
  have g2 := HXAW2.out.get 2 rfl
  have g3 := HXAW2.out.get 3 rfl
  have g4 := HXAW2.out.get 4 rfl
  have g5 := HXAW2.out.get 5 rfl
  have g6 := HXAW2.out.get 6 rfl
  go_upto_region 3 with fail
  rw [HWW2.out]
  go_wp2_with fail
  refine (issue_node _ _ nA uA W2 HAW2.out.node ⟨_, rfl, Row.nil W2⟩).mono ?_
  rintro e w3 ⟨rv, rfl, ho3, hb3⟩
  rw [al_i.1]
  rw [al_i.2] at ho3
  obtain ⟨ia1, ic1, ia2, ic2, ia3, ic3, ia4, ic4, ia5, ic5, ia6, ic6, hrv⟩ := ho3.formL (i := 0) (n1 := 2) (n2 := 1) (n3 := 0) (n4 := 2) (n5 := 1) (n6 := 2) rfl rfl rfl rfl rfl rfl rfl
  subst hrv
  have XA3 := HXAW2.out.below hb3 (Nat.le_refl _)
  have XB3 := HXW2.out.below hb3 (Nat.le_refl _)
  have B3 := HBW2.out.below hb3 (Nat.le_refl _)
  have HB3 := below_step HZBW2.out hb3
  have H7 := set7 (.int .i64 0) (.slice ia1 2 ic1) (.slice ia2 1 ic2) (.slice ia3 0 ic3) (.slice ia4 2 ic4) (.slice ia5 1 ic5) (.slice ia6 2 ic6) XA3
  clear g0 g1 g2 g3 g4 g5 g6
  have g0 := XA3.get 0 rfl
  have f0 := XA3.free 0
  have g1 := XA3.get 1 rfl
  have f1 := XA3.free 1
  have g2 := XA3.get 2 rfl
  have f2 := XA3.free 2
  have g3 := XA3.get 3 rfl
  have f3 := XA3.free 3
  have g4 := XA3.get 4 rfl
  have f4 := XA3.free 4
  have g5 := XA3.get 5 rfl
  have f5 := XA3.free 5
  have g6 := XA3.get 6 rfl
  have f6 := XA3.free 6
  obtain ⟨W3, HW3⟩ : ∃ W, Hid ((((((((w3.setCell ⟨w1.heap.size, 0, none⟩ (.int .i64 0)).setCell ⟨w1.heap.size, 1, none⟩ (.slice ia1 2 ic1)).setCell ⟨w1.heap.size, 2, none⟩ (.slice ia2 1 ic2)).setCell ⟨w1.heap.size, 3, none⟩ (.slice ia3 0 ic3)).setCell ⟨w1.heap.size, 4, none⟩ (.slice ia4 2 ic4)).setCell ⟨w1.heap.size, 5, none⟩ (.slice ia5 1 ic5)).setCell ⟨w1.heap.size, 6, none⟩ (.slice ia6 2 ic6)) = W) := ⟨_, rfl⟩
  rw [HW3.out] at H7
  obtain ⟨XA, k1, -, k3, k4⟩ := H7
  have XAW3 := hide XA
  have XBW3 := hide (k3 _ _ _ (by omega) XB3)
  have AW3 := hide (k1 _ _ _ ho3)
  have BW3 := hide (k1 _ _ _ B3)
  have HBW3 := hide (k4 _ _ (by omega) HB3)
  clear XA k1 k3 k4 ho3 B3 XA3 XB3 HB3 hb3 HAW2 HXAW2 HXW2 HBW2 HZBW2
  go_upto_region 6 with fail
  rw [HW3.out]
  clear g0 g1 g2 g3 g4 g5 g6 f0 f1 f2 f3 f4 f5 f6
  have g0 := XAW3.out.get 0 rfl
  have g1 := XAW3.out.get 1 rfl
  have g2 := XAW3.out.get 2 rfl
  have g3 := XAW3.out.get 3 rfl
  have g4 := XAW3.out.get 4 rfl
  have g5 := XAW3.out.get 5 rfl
  have g6 := XAW3.out.get 6 rfl
  go_wp2_with fail
  refine (send_node _ nI 1 W3 AW3.out.node).mono ?_
  rintro e w4 ⟨rv, rfl, ho4, hb4⟩
  rw [al_s.1]
  rw [al_s.2] at ho4
  obtain ⟨pa1, pc1, pa2, pc2, pa3, pc3, pa4, pc4, pa5, pc5, hrv⟩ := ho4.formL (b := false) (n1 := 0) (n2 := 0) (n3 := 0) (n4 := 1) (n5 := 2) rfl rfl rfl rfl rfl rfl
  subst hrv
  have XB4 := XBW3.out.below hb4 (Nat.le_refl _)
  have B4 := BW3.out.below hb4 (Nat.le_refl _)
  have HB4 := below_step HBW3.out hb4
  have hbp := Below.plus (Below.refl w4.heap.size w4) (.cells #[.bool false, .slice pa1 0 pc1, .slice pa2 0 pc2, .slice pa3 0 pc3, .slice pa4 1 pc4, .slice pa5 2 pc5] 35)
  have XW4 := Box.new w4 [.bool false, .slice pa1 0 pc1, .slice pa2 0 pc2, .slice pa3 0 pc3, .slice pa4 1 pc4, .slice pa5 2 pc5] 35
  have XBW4 := XB4.below hbp (Nat.le_refl _)
  have BW4 := B4.below hbp (Nat.le_refl _)
  have PW4 := ho4.below hbp (Nat.le_refl _)
  have ZBW4 := below_step HB4 hbp
  obtain ⟨W4, HWW4⟩ : ∃ W, Hid (w4.alloc (.cells #[.bool false, .slice pa1 0 pc1, .slice pa2 0 pc2, .slice pa3 0 pc3, .slice pa4 1 pc4, .slice pa5 2 pc5] 35) = W) := ⟨_, rfl⟩
  rw [HWW4.out] at XW4 ZBW4 XBW4 BW4 PW4
  have HXW4 := hide XW4
  have HZBW4 := hide ZBW4
  have HXBW4 := hide XBW4
  have HBW4 := hide BW4
  have HPW4 := hide PW4
  clear hbp XW4 ZBW4 XBW4 BW4 PW4 XB4 B4 ho4 hb4 HB4 XAW3 XBW3 AW3 BW3 HBW3
  go_upto_region 7 with fail
  rw [HWW4.out]
  clear g0 g1 g2 g3 g4 g5 g6
  have g0 := HXBW4.out.get 0 rfl
  have g1 := HXBW4.out.get 1 rfl
  have g2 := HXBW4.out.get 2 rfl
  have g3 := HXBW4.out.get 3 rfl
  have g4 := HXBW4.out.get 4 rfl
  have g5 := HXBW4.out.get 5 rfl
  have g6 := HXBW4.out.get 6 rfl
  have q0 := HXW4.out.get 0 rfl
  have q1 := HXW4.out.get 1 rfl
  have q2 := HXW4.out.get 2 rfl
  have q3 := HXW4.out.get 3 rfl
  have q4 := HXW4.out.get 4 rfl
  have q5 := HXW4.out.get 5 rfl
  go_wp2_with fail
  refine (take_node _ _ nB 0 pS W4 HBW4.out.node HPW4.out.pcl).mono ?_
  rintro e w5 ⟨rv, rfl, ho5, hb5⟩
  rw [al_t.1]
  rw [al_t.2] at ho5
  have ho5' := ho5
  obtain ⟨ta1, tc1, ta2, tc2, ta3, tc3, ta4, tc4, ta5, tc5, ta6, tc6, hrv⟩ := ho5.formL (i := 1) (n1 := 2) (n2 := 1) (n3 := 0) (n4 := 2) (n5 := 1) (n6 := 2) rfl rfl rfl rfl rfl rfl rfl
  subst hrv
  have XB5 := HXBW4.out.below hb5 (Nat.le_refl _)
  have HB5 := below_step HZBW4.out hb5
  have H7 := set7 (.int .i64 1) (.slice ta1 2 tc1) (.slice ta2 1 tc2) (.slice ta3 0 tc3) (.slice ta4 2 tc4) (.slice ta5 1 tc5) (.slice ta6 2 tc6) XB5
  clear g0 g1 g2 g3 g4 g5 g6 q0 q1 q2 q3 q4 q5
  have g0 := XB5.get 0 rfl
  have f0 := XB5.free 0
  have g1 := XB5.get 1 rfl
  have f1 := XB5.free 1
  have g2 := XB5.get 2 rfl
  have f2 := XB5.free 2
  have g3 := XB5.get 3 rfl
  have f3 := XB5.free 3
  have g4 := XB5.get 4 rfl
  have f4 := XB5.free 4
  have g5 := XB5.get 5 rfl
  have f5 := XB5.free 5
  have g6 := XB5.get 6 rfl
  have f6 := XB5.free 6
  obtain ⟨W5, HW5⟩ : ∃ W, Hid ((((((((w5.setCell ⟨w2.heap.size, 0, none⟩ (.int .i64 1)).setCell ⟨w2.heap.size, 1, none⟩ (.slice ta1 2 tc1)).setCell ⟨w2.heap.size, 2, none⟩ (.slice ta2 1 tc2)).setCell ⟨w2.heap.size, 3, none⟩ (.slice ta3 0 tc3)).setCell ⟨w2.heap.size, 4, none⟩ (.slice ta4 2 tc4)).setCell ⟨w2.heap.size, 5, none⟩ (.slice ta5 1 tc5)).setCell ⟨w2.heap.size, 6, none⟩ (.slice ta6 2 tc6)) = W) := ⟨_, rfl⟩
  rw [HW5.out] at H7
  obtain ⟨XB, k1, -, -, k4⟩ := H7
  have BX := hide XB
  have BO := hide (k1 _ _ _ ho5)
  have HBW5 := hide (k4 _ _ (by omega) HB5)
  clear XB k1 k4 ho5 ho5' XB5 HB5 hb5 HXBW4 HBW4 HPW4 HXW4 HZBW4
  go_upto_region 10 with fail
  rw [HW5.out]
  clear g0 g1 g2 g3 g4 g5 g6 f0 f1 f2 f3 f4 f5 f6
  have g0 := BX.out.get 0 rfl
  have g1 := BX.out.get 1 rfl
  have g2 := BX.out.get 2 rfl
  have g3 := BX.out.get 3 rfl
  have g4 := BX.out.get 4 rfl
  have g5 := BX.out.get 5 rfl
  have g6 := BX.out.get 6 rfl
  obtain ⟨cv, lv, tv, bv, uv, kv, he, -, -, -, hkn⟩ := BO.out.node
  simp only [Value.agg.injEq, Array.mk.injEq, List.cons.injEq, and_true] at he
  obtain ⟨-, -, -, -, -, -, rfl⟩ := he
  have hk0 : KnV W5 (.slice ta6 2 tc6) [[1, 0], [1, 0]] := hkn
  obtain ⟨kb, ko, a7, c7, hq, hcell, hrow⟩ := hk0.at (i := 0) (k := [1, 0]) rfl
  subst hq
  have hcell0 : W5.cell? ⟨kb, ko, none⟩ = some (.slice a7 2 c7) := hcell
  have RW := hide hrow
  have hbp := hide (Below.plus (Below.refl W5.heap.size W5) (.cells #[.int .i64 1, .int .i64 0] 3))
  have HR := hide (row_twoW W5 1 0)
  clear hcell hk0 hkn hrow
  go_wp2_with fail
  refine (same_yesW _ _ [1, 0] _ (RW.out.below hbp.out (Nat.le_refl _)) HR.out).mono ?_
  rintro e w6 ⟨rfl, hb6⟩
  have HB6 := hide (below_step (below_step HBW5.out hbp.out) hb6)
  clear hb6 hcell0 g0 g1 g2 g3 g4 g5 g6
  go_wp2_with fail
  go_ret
  exact ⟨rfl, HB6.out⟩
end Go.Proofs.YtlhdnpakafcbkaaGreat
