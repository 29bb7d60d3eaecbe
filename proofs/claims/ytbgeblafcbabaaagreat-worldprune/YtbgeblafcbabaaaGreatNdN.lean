/- The document's own SameNode, of two that read as the same node; what stands ahead of each law of chapter 6. -/
import Derived.Test.YtbgeblafcbabaaaGreatNdZ
import Derived.Test.YtbgeblafcbabaaaGreatSameLog
namespace Go.Proofs.YtbgeblafcbabaaaGreat
open Go.RowKit

set_option maxRecDepth 100000 in
set_option maxHeartbeats 4000000 in
theorem sameNode_yes (v u : Value) (d : NdS) (w : World) (h : IsNode w v d) (hu : IsNode w u d) :
  Calls Tryz.prog 27 #[v, u] w fun e w' => e = .returned (.bool true) ∧ Below w.heap.size w w' := by
 obtain ⟨a1, c1, a2, c2, a3, c3, a4, c4, a5, c5, a6, c6, rfl, hs1, hc1, hb1, hl1, hk1⟩ := h.form
 obtain ⟨b1, e1, b2, e2, b3, e3, b4, e4, b5, e5, b6, e6, rfl, hs2, hc2, hb2, hl2, hk2⟩ := hu.form
 have hbp := Below.plus (Below.plus (Below.refl w.heap.size w) (.cells #[.int .i64 d.self, .slice a1 d.st.clock.length c1, .slice a2 d.st.lives.length c2, .slice a3 d.st.tals.length c3, .slice a4 d.base.length c4, .slice a5 d.log.length c5, .slice a6 d.known.length c6] 44)) (.cells #[.int .i64 d.self, .slice b1 d.st.clock.length e1, .slice b2 d.st.lives.length e2, .slice b3 d.st.tals.length e3, .slice b4 d.base.length e4, .slice b5 d.log.length e5, .slice b6 d.known.length e6] 44)
 have G0 := hide ((Box.new w [.int .i64 d.self, .slice a1 d.st.clock.length c1, .slice a2 d.st.lives.length c2, .slice a3 d.st.tals.length c3, .slice a4 d.base.length c4, .slice a5 d.log.length c5, .slice a6 d.known.length c6] 44).plus (.cells #[.int .i64 d.self, .slice b1 d.st.clock.length e1, .slice b2 d.st.lives.length e2, .slice b3 d.st.tals.length e3, .slice b4 d.base.length e4, .slice b5 d.log.length e5, .slice b6 d.known.length e6] 44))
 have V0 := hide (Box.new (w.alloc (.cells #[.int .i64 d.self, .slice a1 d.st.clock.length c1, .slice a2 d.st.lives.length c2, .slice a3 d.st.tals.length c3, .slice a4 d.base.length c4, .slice a5 d.log.length c5, .slice a6 d.known.length c6] 44)) [.int .i64 d.self, .slice b1 d.st.clock.length e1, .slice b2 d.st.lives.length e2, .slice b3 d.st.tals.length e3, .slice b4 d.base.length e4, .slice b5 d.log.length e5, .slice b6 d.known.length e6] 44)
 simp only [World.size_alloc] at V0
 have HB0 := hide hbp
 have SA0 := hide (hs1.below hbp (nlr _))
 have SB0 := hide (hs2.below hbp (nlr _))
 have BA0 := hide (hb1.below hbp (nlr _))
 have BB0 := hide (hb2.below hbp (nlr _))
 have LA0 := hide (hl1.below hbp (nlr _))
 have LB0 := hide (hl2.below hbp (nlr _))
 have KA0 := hide (hk1.below hbp (nlr _))
 have KB0 := hide (hk2.below hbp (nlr _))
 have hkl := hk1.len_le
 have hne0 : (d.self != d.self) = false := by simp
 have hne5 : ((d.known.length : Int) != (d.known.length : Int)) = false := by simp
 clear h hu hs1 hs2 hc1 hc2 hb1 hb2 hl1 hl2 hk1 hk2 hbp
 obtain ⟨W0, HW0⟩ : ∃ W0, Hid ((w.alloc (.cells #[.int .i64 d.self, .slice a1 d.st.clock.length c1, .slice a2 d.st.lives.length c2, .slice a3 d.st.tals.length c3, .slice a4 d.base.length c4, .slice a5 d.log.length c5, .slice a6 d.known.length c6] 44)).alloc (.cells #[.int .i64 d.self, .slice b1 d.st.clock.length e1, .slice b2 d.st.lives.length e2, .slice b3 d.st.tals.length e3, .slice b4 d.base.length e4, .slice b5 d.log.length e5, .slice b6 d.known.length e6] 44) = W0) := ⟨_, rfl⟩
 rw [HW0.out] at G0 V0 HB0 SA0 SB0 BA0 BB0 LA0 LB0 KA0 KB0
 obtain ⟨w0, rfl⟩ : ∃ w0, w0 = W0 := ⟨W0, rfl⟩
 go_enter Tryz.func27, Tryz.ntmps27
 go_upto_region 1 with fail
 rw [HW0.out]
 have cG0 := G0.out.get 0 rfl
 have cG1 := G0.out.get 1 rfl
 have cG2 := G0.out.get 2 rfl
 have cG3 := G0.out.get 3 rfl
 have cG4 := G0.out.get 4 rfl
 have cG5 := G0.out.get 5 rfl
 have cG6 := G0.out.get 6 rfl
 have cV0 := V0.out.get 0 rfl
 have cV1 := V0.out.get 1 rfl
 have cV2 := V0.out.get 2 rfl
 have cV3 := V0.out.get 3 rfl
 have cV4 := V0.out.get 4 rfl
 have cV5 := V0.out.get 5 rfl
 have cV6 := V0.out.get 6 rfl
 go_wp2_with fail
 refine (same_st _ _ d.st _ SA0.out SB0.out).mono ?_
 rintro e w1 ⟨rfl, hb⟩
 have HB1 := hide (below_step HB0.out hb)
 have G1 := hide (G0.out.below hb (nlr _))
 have V1 := hide (V0.out.below hb (nlr _))
 have SA1 := hide (SA0.out.below hb (nlr _))
 have SB1 := hide (SB0.out.below hb (nlr _))
 have BA1 := hide (BA0.out.below hb (nlr _))
 have BB1 := hide (BB0.out.below hb (nlr _))
 have LA1 := hide (LA0.out.below hb (nlr _))
 have LB1 := hide (LB0.out.below hb (nlr _))
 have KA1 := hide (KA0.out.below hb (nlr _))
 have KB1 := hide (KB0.out.below hb (nlr _))
 clear HB0 hb G0 V0 SA0 SB0 BA0 BB0 LA0 LB0 KA0 KB0
 have cG0 := G1.out.get 0 rfl
 have cG1 := G1.out.get 1 rfl
 have cG2 := G1.out.get 2 rfl
 have cG3 := G1.out.get 3 rfl
 have cG4 := G1.out.get 4 rfl
 have cG5 := G1.out.get 5 rfl
 have cG6 := G1.out.get 6 rfl
 have cV0 := V1.out.get 0 rfl
 have cV1 := V1.out.get 1 rfl
 have cV2 := V1.out.get 2 rfl
 have cV3 := V1.out.get 3 rfl
 have cV4 := V1.out.get 4 rfl
 have cV5 := V1.out.get 5 rfl
 have cV6 := V1.out.get 6 rfl
 go_wp2_with fail
 refine (same_yesW _ _ d.base _ BA1.out BB1.out).mono ?_
 rintro e w2 ⟨rfl, hb⟩
 have HB2 := hide (below_step HB1.out hb)
 have G2 := hide (G1.out.below hb (nlr _))
 have V2 := hide (V1.out.below hb (nlr _))
 have SA2 := hide (SA1.out.below hb (nlr _))
 have SB2 := hide (SB1.out.below hb (nlr _))
 have BA2 := hide (BA1.out.below hb (nlr _))
 have BB2 := hide (BB1.out.below hb (nlr _))
 have LA2 := hide (LA1.out.below hb (nlr _))
 have LB2 := hide (LB1.out.below hb (nlr _))
 have KA2 := hide (KA1.out.below hb (nlr _))
 have KB2 := hide (KB1.out.below hb (nlr _))
 clear HB1 hb G1 V1 SA1 SB1 BA1 BB1 LA1 LB1 KA1 KB1
 have cG0 := G2.out.get 0 rfl
 have cG1 := G2.out.get 1 rfl
 have cG2 := G2.out.get 2 rfl
 have cG3 := G2.out.get 3 rfl
 have cG4 := G2.out.get 4 rfl
 have cG5 := G2.out.get 5 rfl
 have cG6 := G2.out.get 6 rfl
 have cV0 := V2.out.get 0 rfl
 have cV1 := V2.out.get 1 rfl
 have cV2 := V2.out.get 2 rfl
 have cV3 := V2.out.get 3 rfl
 have cV4 := V2.out.get 4 rfl
 have cV5 := V2.out.get 5 rfl
 have cV6 := V2.out.get 6 rfl
 go_wp2_with fail
 refine (sameLog_yes _ _ d.log _ LA2.out LB2.out).mono ?_
 rintro e w3 ⟨rfl, hb⟩
 have HB3 := hide (below_step HB2.out hb)
 have G3 := hide (G2.out.below hb (nlr _))
 have V3 := hide (V2.out.below hb (nlr _))
 have SA3 := hide (SA2.out.below hb (nlr _))
 have SB3 := hide (SB2.out.below hb (nlr _))
 have BA3 := hide (BA2.out.below hb (nlr _))
 have BB3 := hide (BB2.out.below hb (nlr _))
 have LA3 := hide (LA2.out.below hb (nlr _))
 have LB3 := hide (LB2.out.below hb (nlr _))
 have KA3 := hide (KA2.out.below hb (nlr _))
 have KB3 := hide (KB2.out.below hb (nlr _))
 clear HB2 hb G2 V2 SA2 SB2 BA2 BB2 LA2 LB2 KA2 KB2
 have cG0 := G3.out.get 0 rfl
 have cG1 := G3.out.get 1 rfl
 have cG2 := G3.out.get 2 rfl
 have cG3 := G3.out.get 3 rfl
 have cG4 := G3.out.get 4 rfl
 have cG5 := G3.out.get 5 rfl
 have cG6 := G3.out.get 6 rfl
 have cV0 := V3.out.get 0 rfl
 have cV1 := V3.out.get 1 rfl
 have cV2 := V3.out.get 2 rfl
 have cV3 := V3.out.get 3 rfl
 have cV4 := V3.out.get 4 rfl
 have cV5 := V3.out.get 5 rfl
 have cV6 := V3.out.get 6 rfl
 go_wp2_with fail
 go_loopw [47] (fun i wr => ∃ k : Nat, k ≤ d.known.length ∧ i = .int .i64 k ∧ Hid (Below w3.heap.size w3 wr)) (fun i _ => d.known.length - (intOf i).toNat)
 case atStart => exact ⟨0, Nat.zero_le _, rfl, hide (Below.refl _ _)⟩
 case round =>
  obtain ⟨k, hk, rfl, HBk⟩ := hrel
  obtain ⟨w20, rfl⟩ : ∃ w20, w20 = wr := ⟨wr, rfl⟩
  clear cG0 cG1 cG2 cG3 cG4 cG5 cG6 cV0 cV1 cV2 cV3 cV4 cV5 cV6
  have HBw := hide (below_step HB3.out HBk.out)
  by_cases hlt : k < d.known.length
  ·have hlt' : (k : Int) < (d.known.length : Int) := by omega
   obtain ⟨x, hx⟩ : ∃ x, d.known[k]? = some x := ⟨_, List.getElem?_eq_getElem hlt⟩
   have KA20 := KA3.out.below HBk.out (nlr _)
   have KB20 := KB3.out.below HBk.out (nlr _)
   obtain ⟨p1, o1, a7, c7, hq1, hcell1, hr1⟩ := KA20.at hx
   obtain ⟨p2, o2, b7, e7, hq2, hcell2, hr2⟩ := KB20.at hx
   subst hq1
   subst hq2
   have G20 := hide (G3.out.below HBk.out (nlr _))
   have V20 := hide (V3.out.below HBk.out (nlr _))
   have R1 := hide hr1
   have R2 := hide hr2
   have HC1 := hide hcell1
   have HC2 := hide hcell2
   clear hr1 hr2 hcell1 hcell2 KA20 KB20 hx
   have HK : Hid (∀ w', Grew w20 w' → w'.cell? ⟨w.heap.size, 6, none⟩ = some (.slice (some ⟨p1, o1, none⟩) d.known.length c6) ∧ w'.cell? ⟨w.heap.size + 1, 6, none⟩ = some (.slice (some ⟨p2, o2, none⟩) d.known.length e6) ∧ w'.cell? ⟨p1, o1 + k, none⟩ = some (.slice a7 x.length c7) ∧ w'.cell? ⟨p2, o2 + k, none⟩ = some (.slice b7 x.length e7)) := fun w' hg => ⟨(G20.out.below hg (nlr _)).get 6 rfl, (V20.out.below hg (nlr _)).get 6 rfl, (hg.cell (p := ⟨p1, o1 + k, none⟩) (World.block_lt_of_cell? w20 _ HC1.out)).trans HC1.out, (hg.cell (p := ⟨p2, o2 + k, none⟩) (World.block_lt_of_cell? w20 _ HC2.out)).trans HC2.out⟩
   go_upto_region 6 with fail
   go_cut [61] (fun c wx => c = .bool false ∧ Hid (Grew w20 wx))
   case first =>
    refine wp_region_held_drew (S := fun w' => w'.cell? ⟨w.heap.size, 6, none⟩ = some (.slice (some ⟨p1, o1, none⟩) d.known.length c6) ∧ w'.cell? ⟨w.heap.size + 1, 6, none⟩ = some (.slice (some ⟨p2, o2, none⟩) d.known.length e6) ∧ w'.cell? ⟨p1, o1 + k, none⟩ = some (.slice a7 x.length c7) ∧ w'.cell? ⟨p2, o2 + k, none⟩ = some (.slice b7 x.length e7)) (by kernel_rfl) (HK.out _ (grew_drew (grew_refl _))) (fun hHeld => ?_)
    obtain ⟨wd, HWD⟩ : ∃ wd, Hid (w20.drew = wd) := ⟨_, rfl⟩
    have hgd : Grew w20 wd := by rw [← HWD.out]; exact grew_drew (grew_refl w20)
    rw [HWD.out] at hHeld ⊢
    refine take_yes 0 50 (.pointer (some ⟨w.heap.size, 6, none⟩)) rfl rfl (by kernel_rfl) (by kernel_rfl) (by kernel_rfl) (fun _ _ _ h => h) rfl (by intro w hSw; (try dsimp only at hSw); go_simp) (by assumption) ?_
    simp only [Act.put, put1, put2, put3]
    refine take_yes 1 51 (.slice (some ⟨p1, o1, none⟩) d.known.length c6) rfl rfl (by kernel_rfl) (by kernel_rfl) (by kernel_rfl) (fun _ _ _ h => h) rfl (by intro w hSw; (try dsimp only at hSw); go_simp) (by assumption) ?_
    simp only [Act.put, put1, put2, put3]
    refine take_yes 2 52 (.int .i64 (k : Int)) rfl rfl (by kernel_rfl) (by kernel_rfl) (by kernel_rfl) (fun _ _ _ h => h) rfl (by intro w hSw; (try dsimp only at hSw); go_simp) (by assumption) ?_
    simp only [Act.put, put1, put2, put3]
    refine take_yes 3 53 (.pointer (some ⟨p1, o1 + k, none⟩)) rfl rfl (by kernel_rfl) (by kernel_rfl) (by kernel_rfl) (fun _ _ _ h => h) rfl (by intro w hSw; (try dsimp only at hSw); go_simp) (by assumption) ?_
    simp only [Act.put, put1, put2, put3]
    refine take_yes 4 54 (.slice a7 x.length c7) rfl rfl (by kernel_rfl) (by kernel_rfl) (by kernel_rfl) (fun _ _ _ h => h) rfl (by intro w hSw; (try dsimp only at hSw); go_simp) (by assumption) ?_
    simp only [Act.put, put1, put2, put3]
    refine take_yes 5 55 (.pointer (some ⟨w.heap.size + 1, 6, none⟩)) rfl rfl (by kernel_rfl) (by kernel_rfl) (by kernel_rfl) (fun _ _ _ h => h) rfl (by intro w hSw; (try dsimp only at hSw); go_simp) (by assumption) ?_
    simp only [Act.put, put1, put2, put3]
    refine take_yes 6 56 (.slice (some ⟨p2, o2, none⟩) d.known.length e6) rfl rfl (by kernel_rfl) (by kernel_rfl) (by kernel_rfl) (fun _ _ _ h => h) rfl (by intro w hSw; (try dsimp only at hSw); go_simp) (by assumption) ?_
    simp only [Act.put, put1, put2, put3]
    refine take_yes 7 57 (.int .i64 (k : Int)) rfl rfl (by kernel_rfl) (by kernel_rfl) (by kernel_rfl) (fun _ _ _ h => h) rfl (by intro w hSw; (try dsimp only at hSw); go_simp) (by assumption) ?_
    simp only [Act.put, put1, put2, put3]
    refine take_yes 8 58 (.pointer (some ⟨p2, o2 + k, none⟩)) rfl rfl (by kernel_rfl) (by kernel_rfl) (by kernel_rfl) (fun _ _ _ h => h) rfl (by intro w hSw; (try dsimp only at hSw); go_simp) (by assumption) ?_
    simp only [Act.put, put1, put2, put3]
    refine take_yes 9 59 (.slice b7 x.length e7) rfl rfl (by kernel_rfl) (by kernel_rfl) (by kernel_rfl) (fun _ _ _ h => h) rfl (by intro w hSw; (try dsimp only at hSw); go_simp) (by assumption) ?_
    simp only [Act.put, put1, put2, put3]
    refine wpAnyH_ready (rs := [10]) (by kernel_rfl) (by simp) ?_
    refine (AllReadyH.cons (o := _) rfl (fun K hK => ?_) AllReadyH.nil)
    go_simp
    refine (same_yesW _ _ x _ (R1.out.below hgd (nlr _)) (R2.out.below hgd (nlr _))).mono ?_
    rintro e w_10 ⟨rfl, hb_10⟩
    have hg_10 : Grew w20 w_10 := grew_step hgd hb_10
    refine hK.out _ _ (HK.out _ hg_10) (fun _ => ?_)
    clear hK K
    try simp only [Act.put, put1, put2, put3]
    refine take_yes 11 61 (.bool false) rfl rfl (by kernel_rfl) (by kernel_rfl) (by kernel_rfl) (fun _ _ _ h => h) rfl (by intro w hSw; (try dsimp only at hSw); go_simp) (by assumption) ?_
    simp only [Act.put, put1, put2, put3]
    refine wpAnyH_done (by kernel_rfl) ?_ _
    go_wp2_with fail
    go_meet
    exact ⟨rfl, hg_10⟩
   case rest =>
    obtain ⟨rfl, HGR⟩ := hcut
    obtain ⟨w21, rfl⟩ : ∃ w21, w21 = wc := ⟨wc, rfl⟩
    have HB21 := hide (below_step HBk.out HGR.out)
    go_wp2_with fail
    go_roundw
    case rel => exact ⟨k + 1, by omega, by go_num, HB21⟩
    case measure => simp [intOf]; omega
  ·have hlt' : ¬ (k : Int) < (d.known.length : Int) := by omega
   go_wp2_with fail
   go_ret
   exact ⟨rfl, HBw.out⟩
end Go.Proofs.YtbgeblafcbabaaaGreat
/- A node's variable that is set anew; what stands ahead of each law of chapter 6. -/
namespace Go.Proofs.YtbgeblafcbabaaaGreat
open Go.RowKit

theorem NodeO.setT {w : World} {B g : Nat} {v : Value} {d : NdS} {cs : List Value} (h : NodeO w B v d) (hb : Box w g cs 44) (i : Nat) (x : Value) : NodeO (w.setCell ⟨g, i, Option.none⟩ x) B v d := by
 obtain ⟨cv, lv, tv, bv, uv, kv, h1, h2, h3, h4, h5⟩ := h
 exact ⟨cv, lv, tv, bv, uv, kv, h1, h2.setT hb (by decide) (by decide) (by decide) i x, h3.setT hb (by decide) i x, h4.setT hb (by decide) (by decide) i x, h5.setT hb (by decide) (by decide) i x⟩
theorem PclO.setT {w : World} {B g : Nat} {v : Value} {p : Pcl} {cs : List Value} (h : PclO w B v p) (hb : Box w g cs 44) (i : Nat) (x : Value) : PclO (w.setCell ⟨g, i, Option.none⟩ x) B v p := by
 obtain ⟨cv, lv, tv, uv, kv, h1, h2, h3, h4⟩ := h
 exact ⟨cv, lv, tv, uv, kv, h1, h2.setT hb (by decide) (by decide) (by decide) i x, h3.setT hb (by decide) (by decide) i x, h4.setT hb (by decide) i x⟩
theorem set7 {w : World} {g : Nat} {c0 c1 c2 c3 c4 c5 c6 : Value} (x0 x1 x2 x3 x4 x5 x6 : Value) (hb : Box w g [c0, c1, c2, c3, c4, c5, c6] 44) :
  Box (((((((w.setCell ⟨g, 0, none⟩ x0).setCell ⟨g, 1, none⟩ x1).setCell ⟨g, 2, none⟩ x2).setCell ⟨g, 3, none⟩ x3).setCell ⟨g, 4, none⟩ x4).setCell ⟨g, 5, none⟩ x5).setCell ⟨g, 6, none⟩ x6) g [x0, x1, x2, x3, x4, x5, x6] 44 ∧ (∀ B v d, NodeO w B v d → NodeO (((((((w.setCell ⟨g, 0, none⟩ x0).setCell ⟨g, 1, none⟩ x1).setCell ⟨g, 2, none⟩ x2).setCell ⟨g, 3, none⟩ x3).setCell ⟨g, 4, none⟩ x4).setCell ⟨g, 5, none⟩ x5).setCell ⟨g, 6, none⟩ x6) B v d) ∧ (∀ B v p, PclO w B v p → PclO (((((((w.setCell ⟨g, 0, none⟩ x0).setCell ⟨g, 1, none⟩ x1).setCell ⟨g, 2, none⟩ x2).setCell ⟨g, 3, none⟩ x3).setCell ⟨g, 4, none⟩ x4).setCell ⟨g, 5, none⟩ x5).setCell ⟨g, 6, none⟩ x6) B v p) ∧ (∀ g' cs t, g' ≠ g → Box w g' cs t → Box (((((((w.setCell ⟨g, 0, none⟩ x0).setCell ⟨g, 1, none⟩ x1).setCell ⟨g, 2, none⟩ x2).setCell ⟨g, 3, none⟩ x3).setCell ⟨g, 4, none⟩ x4).setCell ⟨g, 5, none⟩ x5).setCell ⟨g, 6, none⟩ x6) g' cs t) ∧ (∀ B w0, B ≤ g → Below B w0 w → Below B w0 (((((((w.setCell ⟨g, 0, none⟩ x0).setCell ⟨g, 1, none⟩ x1).setCell ⟨g, 2, none⟩ x2).setCell ⟨g, 3, none⟩ x3).setCell ⟨g, 4, none⟩ x4).setCell ⟨g, 5, none⟩ x5).setCell ⟨g, 6, none⟩ x6)) := by
 have b0 := hb.set 0 x0
 have b1 := b0.set 1 x1
 have b2 := b1.set 2 x2
 have b3 := b2.set 3 x3
 have b4 := b3.set 4 x4
 have b5 := b4.set 5 x5
 have b6 := b5.set 6 x6
 exact ⟨b6, fun B v d h => (((((((h.setT hb 0 x0).setT b0 1 x1).setT b1 2 x2).setT b2 3 x3).setT b3 4 x4).setT b4 5 x5).setT b5 6 x6), fun B v p h => (((((((h.setT hb 0 x0).setT b0 1 x1).setT b1 2 x2).setT b2 3 x3).setT b3 4 x4).setT b4 5 x5).setT b5 6 x6), fun g' cs t hne h => (((((((h.away (g' := g) (i := 0) (v := x0) hne).away (g' := g) (i := 1) (v := x1) hne).away (g' := g) (i := 2) (v := x2) hne).away (g' := g) (i := 3) (v := x3) hne).away (g' := g) (i := 4) (v := x4) hne).away (g' := g) (i := 5) (v := x5) hne).away (g' := g) (i := 6) (v := x6) hne), fun B w0 hB h => (((((((h.setCell (p := ⟨g, 0, none⟩) hB x0).setCell (p := ⟨g, 1, none⟩) hB x1).setCell (p := ⟨g, 2, none⟩) hB x2).setCell (p := ⟨g, 3, none⟩) hB x3).setCell (p := ⟨g, 4, none⟩) hB x4).setCell (p := ⟨g, 5, none⟩) hB x5).setCell (p := ⟨g, 6, none⟩) hB x6)⟩

def nA : NdS := ⟨0, ⟨[0, 0], [], []⟩, [0, 0], [], [[0, 0], [0, 0]]⟩
def nB : NdS := ⟨1, ⟨[0, 0], [], []⟩, [0, 0], [], [[0, 0], [0, 0]]⟩
def uA : Upd := ⟨0, [], 1, 1, 5⟩
def nI : NdS := ⟨0, ⟨[1, 0], [⟨false, 1, 5, 0, 1⟩], []⟩, [0, 0], [⟨0, [0, 0], 1, 1, 5⟩], [[1, 0], [0, 0]]⟩
def pS : Pcl := ⟨false, ⟨[], [], []⟩, [⟨0, [0, 0], 1, 1, 5⟩], [1, 0]⟩
def nT : NdS := ⟨1, ⟨[1, 0], [⟨false, 1, 5, 0, 1⟩], []⟩, [0, 0], [⟨0, [0, 0], 1, 1, 5⟩], [[1, 0], [1, 0]]⟩
theorem al_a : startE 0 2 = 0 ∧ startX 0 2 = nA := ⟨by kernel_rfl, by kernel_rfl⟩
theorem al_b : startE 1 2 = 0 ∧ startX 1 2 = nB := ⟨by kernel_rfl, by kernel_rfl⟩
theorem al_i : issueE nA uA = 0 ∧ issueX nA uA = nI := ⟨by kernel_rfl, by kernel_rfl⟩
theorem al_s : otherE nI 1 = 0 ∧ sendX nI 1 = pS := ⟨by kernel_rfl, by kernel_rfl⟩
theorem al_t : takeE nB 0 pS = 0 ∧ takeX nB 0 pS = nT := ⟨by kernel_rfl, by kernel_rfl⟩
/-- The value of a node of so many, opened. -/
theorem NodeO.formL {w : World} {B : Nat} {v : Value} {d : NdS} (h : NodeO w B v d) {i : Int} {n1 n2 n3 n4 n5 n6 : Nat} (h0 : d.self = i) (h1 : d.st.clock.length = n1) (h2 : d.st.lives.length = n2) (h3 : d.st.tals.length = n3) (h4 : d.base.length = n4) (h5 : d.log.length = n5) (h6 : d.known.length = n6) :
  ∃ a1 c1 a2 c2 a3 c3 a4 c4 a5 c5 a6 c6, v = .agg #[.int .i64 i, .slice a1 n1 c1, .slice a2 n2 c2, .slice a3 n3 c3, .slice a4 n4 c4, .slice a5 n5 c5, .slice a6 n6 c6] := by
 subst h0 h1 h2 h3 h4 h5 h6
 exact h.form
theorem PclO.formL {w : World} {B : Nat} {v : Value} {p : Pcl} (h : PclO w B v p) {b : Bool} {n1 n2 n3 n4 n5 : Nat} (h0 : p.whole = b) (h1 : p.st.clock.length = n1) (h2 : p.st.lives.length = n2) (h3 : p.st.tals.length = n3) (h4 : p.ups.length = n4) (h5 : p.clock.length = n5) :
  ∃ a1 c1 a2 c2 a3 c3 a4 c4 a5 c5, v = .agg #[.bool b, .slice a1 n1 c1, .slice a2 n2 c2, .slice a3 n3 c3, .slice a4 n4 c4, .slice a5 n5 c5] := by
 subst h0 h1 h2 h3 h4 h5
 obtain ⟨a1, c1, a2, c2, a3, c3, a4, c4, a5, c5, e, -⟩ := h.pcl.form
 exact ⟨a1, c1, a2, c2, a3, c3, a4, c4, a5, c5, e⟩

end Go.Proofs.YtbgeblafcbabaaaGreat
