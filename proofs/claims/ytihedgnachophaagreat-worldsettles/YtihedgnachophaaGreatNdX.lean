/- node.Take. -/
import Derived.Test.YtihedgnachophaaGreatNdS
namespace Go.Proofs.YtihedgnachophaaGreat
open Go.RowKit

theorem drop_cons_of {α : Type} {l : List α} {k : Nat} {u : α} (h : l[k]? = some u) : l.drop k = u :: l.drop (k + 1) := by
 obtain ⟨h1, h2⟩ := List.getElem?_eq_some_iff.1 h
 rw [List.drop_eq_getElem_cons h1, h2]
theorem tuV_zero {d : NdS} {u : Upd} (h : tuE d u = 0) : tuV d u = tuX d u := by
 unfold tuV tuX
 split
 ·rfl
 ·next hs =>
  unfold tuE at h
  rw [if_neg hs] at h
  unfold playV
  rw [if_pos h]

set_option maxRecDepth 100000 in
set_option maxHeartbeats 4000000 in
theorem take_node (v pv : Value) (d : NdS) (i : Int) (p : Pcl) (w : World) (h : IsNode w v d) (hp : IsPcl w pv p) :
  Calls Tryz.prog 54 #[v, .int .i64 i, pv] w fun e w' => ∃ rv, e = .returned (.tuple #[rv, .int .i64 (takeE d i p)]) ∧ NodeO w' (w.heap.size + 3) rv (takeX d i p) ∧ Below w.heap.size w w' := by
 have hin := h
 have hpin := hp
 obtain ⟨a1, c1, a2, c2, a3, c3, a4, c4, a5, c5, a6, c6, rfl, -, -, -, -, -⟩ := h.form
 obtain ⟨b1, e1, b2, e2, b3, e3, b4, e4, b5, e5, rfl, -, -, hul, hcl⟩ := hp.form
 have hb3 := Below.plus (Below.plus (bpl w (.cells #[.int .i64 d.self, .slice a1 d.st.clock.length c1, .slice a2 d.st.lives.length c2, .slice a3 d.st.tals.length c3, .slice a4 d.base.length c4, .slice a5 d.log.length c5, .slice a6 d.known.length c6] 49)) (.cells #[.bool p.whole, .slice b1 p.st.clock.length e1, .slice b2 p.st.lives.length e2, .slice b3 p.st.tals.length e3, .slice b4 p.ups.length e4, .slice b5 p.clock.length e5] 108)) (.cells #[.int .i64 0, .slice none 0 0, .slice none 0 0, .slice none 0 0, .slice none 0 0, .slice none 0 0, .slice none 0 0] 49)
 have G0 := hide (((Box.new w [.int .i64 d.self, .slice a1 d.st.clock.length c1, .slice a2 d.st.lives.length c2, .slice a3 d.st.tals.length c3, .slice a4 d.base.length c4, .slice a5 d.log.length c5, .slice a6 d.known.length c6] 49).plus (.cells #[.bool p.whole, .slice b1 p.st.clock.length e1, .slice b2 p.st.lives.length e2, .slice b3 p.st.tals.length e3, .slice b4 p.ups.length e4, .slice b5 p.clock.length e5] 108)).plus (.cells #[.int .i64 0, .slice none 0 0, .slice none 0 0, .slice none 0 0, .slice none 0 0, .slice none 0 0, .slice none 0 0] 49))
 have V0 := hide ((Box.new (w.alloc (.cells #[.int .i64 d.self, .slice a1 d.st.clock.length c1, .slice a2 d.st.lives.length c2, .slice a3 d.st.tals.length c3, .slice a4 d.base.length c4, .slice a5 d.log.length c5, .slice a6 d.known.length c6] 49)) [.bool p.whole, .slice b1 p.st.clock.length e1, .slice b2 p.st.lives.length e2, .slice b3 p.st.tals.length e3, .slice b4 p.ups.length e4, .slice b5 p.clock.length e5] 108).plus (.cells #[.int .i64 0, .slice none 0 0, .slice none 0 0, .slice none 0 0, .slice none 0 0, .slice none 0 0, .slice none 0 0] 49))
 have R0 := hide (Box.new ((w.alloc (.cells #[.int .i64 d.self, .slice a1 d.st.clock.length c1, .slice a2 d.st.lives.length c2, .slice a3 d.st.tals.length c3, .slice a4 d.base.length c4, .slice a5 d.log.length c5, .slice a6 d.known.length c6] 49)).alloc (.cells #[.bool p.whole, .slice b1 p.st.clock.length e1, .slice b2 p.st.lives.length e2, .slice b3 p.st.tals.length e3, .slice b4 p.ups.length e4, .slice b5 p.clock.length e5] 108)) [.int .i64 0, .slice none 0 0, .slice none 0 0, .slice none 0 0, .slice none 0 0, .slice none 0 0, .slice none 0 0] 49)
 simp only [World.size_alloc] at V0 R0
 have CW := hide hcl
 have UW := hide hul
 have PW := hide hpin
 have D0 := hide (hin.below hb3 (nlr _))
 have HB0 := hide hb3
 clear h hin hp hpin hcl hul hb3
 obtain ⟨W1, HW1⟩ : ∃ W1, Hid (((w.alloc (.cells #[.int .i64 d.self, .slice a1 d.st.clock.length c1, .slice a2 d.st.lives.length c2, .slice a3 d.st.tals.length c3, .slice a4 d.base.length c4, .slice a5 d.log.length c5, .slice a6 d.known.length c6] 49)).alloc (.cells #[.bool p.whole, .slice b1 p.st.clock.length e1, .slice b2 p.st.lives.length e2, .slice b3 p.st.tals.length e3, .slice b4 p.ups.length e4, .slice b5 p.clock.length e5] 108)).alloc (.cells #[.int .i64 0, .slice none 0 0, .slice none 0 0, .slice none 0 0, .slice none 0 0, .slice none 0 0, .slice none 0 0] 49) = W1) := ⟨_, rfl⟩
 have hsz : Hid (W1.heap.size = w.heap.size + 1 + 1 + 1) := by unfold Hid; rw [← HW1.out, World.size_alloc, World.size_alloc, World.size_alloc]
 rw [HW1.out] at G0 V0 R0 D0 HB0
 obtain ⟨E, HE⟩ : ∃ E, Hid (takeE d i p = E) := ⟨_, rfl⟩
 obtain ⟨X, HX⟩ : ∃ X, Hid (takeX d i p = X) := ⟨_, rfl⟩
 obtain ⟨N, HN⟩ : ∃ N, Hid (otherE d i = N) := ⟨_, rfl⟩
 have HXB : Hid (¬ E = 0 → X = noNode) := fun hne => by rw [← HX.out]; unfold takeX; rw [if_neg (by rw [HE.out]; exact hne)]
 rw [HE.out, HX.out]
 have g0 := G0.out.get 0 rfl
 have g1 := G0.out.get 1 rfl
 have g2 := G0.out.get 2 rfl
 have g3 := G0.out.get 3 rfl
 have g4 := G0.out.get 4 rfl
 have g5 := G0.out.get 5 rfl
 have g6 := G0.out.get 6 rfl
 go_enter Tryz.func54, Tryz.ntmps54
 go_upto_region 1 with fail
 rw [HW1.out]
 go_wp2_with fail
 refine (otherWrong_node _ d i _ D0.out).mono ?_
 rintro e w2 ⟨rfl, hb2⟩
 rw [HN.out]
 have G2 := hide (G0.out.below hb2 (nlr _))
 have V2 := hide (V0.out.below hb2 (nlr _))
 have R2 := hide (R0.out.below hb2 (nlr _))
 have D2 := hide (D0.out.below hb2 (nlr _))
 have HB2 := hide (below_step HB0.out hb2)
 have hs2 : Hid (w.heap.size + 3 ≤ w2.heap.size) := by have := hb2.size; have := hsz.out; unfold Hid; omega
 clear G0 V0 R0 D0 HB0 hb2 g0 g1 g2 g3 g4 g5 g6
 by_cases hN : N = 0
 ·have hN' : (N != 0) = false := by simp [hN]
  have hOz : otherE d i = 0 := by rw [HN.out]; exact hN
  obtain ⟨hok, hi0, hi1, hino⟩ := other_zero.1 hOz
  have HOK := hide hok
  have HI := hide (And.intro hi0 hi1)
  have HF := hide (fits_of (nodeE_zero.2 hok))
  obtain ⟨C, HC⟩ : ∃ C, Hid (wrongC p.clock d.st.clock.length = C) := ⟨_, rfl⟩
  have HOZ := hide hOz
  clear hN hOz hok hi0 hi1 hino
  have HK2 : Hid (∀ w', Grew w2 w' → w'.cell? ⟨w.heap.size + 1, 5, none⟩ = some (.slice b5 p.clock.length e5) ∧ w'.cell? ⟨w.heap.size, 0, none⟩ = some (.int .i64 d.self) ∧ w'.cell? ⟨w.heap.size, 1, none⟩ = some (.slice a1 d.st.clock.length c1) ∧ w'.cell? ⟨w.heap.size, 2, none⟩ = some (.slice a2 d.st.lives.length c2) ∧ w'.cell? ⟨w.heap.size, 3, none⟩ = some (.slice a3 d.st.tals.length c3) ∧ w'.cell? ⟨w.heap.size, 4, none⟩ = some (.slice a4 d.base.length c4) ∧ w'.cell? ⟨w.heap.size, 5, none⟩ = some (.slice a5 d.log.length c5) ∧ w'.cell? ⟨w.heap.size, 6, none⟩ = some (.slice a6 d.known.length c6)) := fun w' hg => ⟨(V2.out.below hg (nlr _)).get 5 rfl, (G2.out.below hg (nlr _)).get 0 rfl, (G2.out.below hg (nlr _)).get 1 rfl, (G2.out.below hg (nlr _)).get 2 rfl, (G2.out.below hg (nlr _)).get 3 rfl, (G2.out.below hg (nlr _)).get 4 rfl, (G2.out.below hg (nlr _)).get 5 rfl, (G2.out.below hg (nlr _)).get 6 rfl⟩
  go_upto_region 4 with fail
  go_cut [9] (fun c wx => c = .int .i64 C ∧ Hid (Grew w2 wx))
  case first =>
   refine wp_region_held_drew (S := fun w' => w'.cell? ⟨w.heap.size + 1, 5, none⟩ = some (.slice b5 p.clock.length e5) ∧ w'.cell? ⟨w.heap.size, 0, none⟩ = some (.int .i64 d.self) ∧ w'.cell? ⟨w.heap.size, 1, none⟩ = some (.slice a1 d.st.clock.length c1) ∧ w'.cell? ⟨w.heap.size, 2, none⟩ = some (.slice a2 d.st.lives.length c2) ∧ w'.cell? ⟨w.heap.size, 3, none⟩ = some (.slice a3 d.st.tals.length c3) ∧ w'.cell? ⟨w.heap.size, 4, none⟩ = some (.slice a4 d.base.length c4) ∧ w'.cell? ⟨w.heap.size, 5, none⟩ = some (.slice a5 d.log.length c5) ∧ w'.cell? ⟨w.heap.size, 6, none⟩ = some (.slice a6 d.known.length c6)) (by kernel_rfl) (HK2.out _ (grew_drew (grew_refl _))) (fun hHeld => ?_)
   obtain ⟨wd, HWD⟩ : ∃ wd, Hid (w2.drew = wd) := ⟨_, rfl⟩
   have hg0 : Grew w2 wd := by rw [← HWD.out]; exact grew_drew (grew_refl w2)
   rw [HWD.out] at hHeld ⊢
   refine ty 0 22 (.pointer (some ⟨w.heap.size + 1, 5, none⟩)) rfl rfl (by kernel_rfl) (fun _ _ _ h => h) rfl (by intro w hSw; (try dsimp only at hSw); go_simp) (by assumption) ?_
   simp only [Act.put, put1, put2, put3]
   refine ty 1 23 (.slice b5 p.clock.length e5) rfl rfl (by kernel_rfl) (fun _ _ _ h => h) rfl (by intro w hSw; (try dsimp only at hSw); go_simp) (by assumption) ?_
   simp only [Act.put, put1, put2, put3]
   refine ty 2 24 (.agg #[.int .i64 d.self, .slice a1 d.st.clock.length c1, .slice a2 d.st.lives.length c2, .slice a3 d.st.tals.length c3, .slice a4 d.base.length c4, .slice a5 d.log.length c5, .slice a6 d.known.length c6]) rfl rfl (by kernel_rfl) (fun _ _ _ h => h) rfl (by intro w hSw; (try dsimp only at hSw); go_simp) (by assumption) ?_
   simp only [Act.put, put1, put2, put3]
   refine wpAnyH_ready (rs := [3]) (by kernel_rfl) (by simp) ?_
   refine rd1 rfl (fun K hK => ?_)
   go_simp
   refine (authors_node _ d _ (D2.out.below hg0 (nlr _))).mono ?_
   rintro e w3 ⟨rfl, hb3⟩
   have hg3 : Grew w2 w3 := grew_step hg0 hb3
   refine hK.out _ _ (HK2.out _ hg3) (fun hHeld2 => ?_)
   clear hK K
   try simp only [Act.put, put1, put2, put3]
   refine wpAnyH_ready (rs := [4]) (by kernel_rfl) (by simp) ?_
   refine rd1 rfl (fun K hK => ?_)
   go_simp
   refine (wrong_clock _ p.clock _ _ (CW.out.below (HB2.out.trans (hg3.mono (by have := hs2.out; omega))) (nlr _))).mono ?_
   rintro e w4 ⟨rfl, rfl⟩
   rw [HC.out]
   refine hK.out _ _ (HK2.out _ hg3) (fun hHeld3 => ?_)
   clear hK K
   try simp only [Act.put, put1, put2, put3]
   refine wpAnyH_ready (rs := [5]) (by kernel_rfl) (by simp) ?_
   refine rd1 rfl (fun K hK => ?_)
   go_simp
   refine hK.out _ _ (HK2.out _ hg3) (fun _ => ?_)
   clear hK K
   try simp only [Act.put, put1, put2, put3]
   refine wpAnyH_done (by kernel_rfl) ?_ _
   go_wp2_with fail
   go_meet
   exact ⟨rfl, hg3⟩
  case rest =>
   obtain ⟨rfl, HGR⟩ := hcut
   obtain ⟨w3, rfl⟩ : ∃ w3, w3 = wc := ⟨wc, rfl⟩
   have G3 := hide (G2.out.below HGR.out (nlr _))
   have V3 := hide (V2.out.below HGR.out (nlr _))
   have R3 := hide (R2.out.below HGR.out (nlr _))
   have D3 := hide (D2.out.below HGR.out (nlr _))
   have HB3 := hide (below_step HB2.out HGR.out)
   have hs3 : Hid (w.heap.size + 3 ≤ w3.heap.size) := by have := HGR.out.size; have := hs2.out; unfold Hid; omega
   clear G2 V2 R2 D2 HB2 HGR HK2
   by_cases hC : C = 0
   ·have hC' : (C != 0) = false := by simp [hC]
    have HCZ : Hid (wrongC p.clock d.st.clock.length = 0) := by unfold Hid; rw [HC.out]; exact hC
    clear hC
    have g0 := G3.out.get 0 rfl
    have g1 := G3.out.get 1 rfl
    have g2 := G3.out.get 2 rfl
    have g3 := G3.out.get 3 rfl
    have g4 := G3.out.get 4 rfl
    have g5 := G3.out.get 5 rfl
    have g6 := G3.out.get 6 rfl
    go_wp2_with fail
    refine (copy_node _ d _ D3.out HF.out).mono ?_
    rintro e w4 ⟨rv, rfl, ho4, hb4⟩
    obtain ⟨x1, y1, x2, y2, x3, y3, x4, y4, x5, y5, x6, y6, rfl⟩ := ho4.form
    have N5 := NdV.new (ho4.base (C := w3.heap.size) (by omega)) hb4.size
    have hbp := below_step hb4 (bpl w4 (.cells #[.int .i64 d.self, .slice x1 d.st.clock.length y1, .slice x2 d.st.lives.length y2, .slice x3 d.st.tals.length y3, .slice x4 d.base.length y4, .slice x5 d.log.length y5, .slice x6 d.known.length y6] 49))
    obtain ⟨W5, HW5⟩ : ∃ W5, Hid (w4.alloc (.cells #[.int .i64 d.self, .slice x1 d.st.clock.length y1, .slice x2 d.st.lives.length y2, .slice x3 d.st.tals.length y3, .slice x4 d.base.length y4, .slice x5 d.log.length y5, .slice x6 d.known.length y6] 49) = W5) := ⟨_, rfl⟩
    rw [HW5.out] at N5 hbp
    have V5 := hide (V3.out.below hbp (nlr _))
    have R5 := hide (R3.out.below hbp (nlr _))
    have HB5 := hide (below_step HB3.out hbp)
    have HN5 := hide N5
    clear g0 g1 g2 g3 g4 g5 g6 ho4 hb4 N5 hbp G3 V3 R3 D3 HB3
    have v0 := V5.out.get 0 rfl
    have v1 := V5.out.get 1 rfl
    have v2 := V5.out.get 2 rfl
    have v3 := V5.out.get 3 rfl
    have v4 := V5.out.get 4 rfl
    have v5 := V5.out.get 5 rfl
    obtain ⟨T, HT⟩ : ∃ T, Hid (tstE d p = T) := ⟨_, rfl⟩
    go_upto_region 8 with fail
    rw [HW5.out]
    go_wp2_with fail
    refine (takeState_node w3.heap.size w4.heap.size _ d p W5 HN5.out (fun w' hw' => PW.out.below (HB5.out.trans (hw'.mono (by have := hs3.out; omega))) (nlr _)) HF.out.base HF.out.small HF.out.few).mono ?_
    rintro e w6 ⟨rfl, hn6, hb6⟩
    rw [HT.out]
    have V6 := hide (V5.out.low hb6 (by have := hs3.out; omega))
    have R6 := hide (R5.out.low hb6 (by have := hs3.out; omega))
    have HB6 := hide (HB5.out.trans (hb6.mono (by have := hs3.out; omega)))
    clear v0 v1 v2 v3 v4 v5 V5 R5 HB5 HN5 hb6
    by_cases hT : T = 0
    ·have hT' : (T != 0) = false := by simp [hT]
     have hTz : tstE d p = 0 := by rw [HT.out]; exact hT
     have hVX : tstV d p = tstX d p := by unfold tstV; rw [if_pos hTz]
     obtain ⟨hM0, -, -, hS0, hK0⟩ := HOK.out.toOkM.tst hTz
     rw [hVX] at hn6
     obtain ⟨D0, HD0⟩ : ∃ D0, Hid (tstX d p = D0) := ⟨_, rfl⟩
     rw [HD0.out] at hn6 hM0 hS0 hK0
     have HN6 := hide hn6
     have HM0 := hide (And.intro hM0 (And.intro hS0 hK0))
     have HTZ := hide hTz
     have v4 := V6.out.get 4 rfl
     have hul := UW.out.len_le
     clear hT hTz hVX hn6 hM0 hS0 hK0
     go_wp2_with fail
     clear v4
     go_loopw [42] (fun i wr => ∃ (k : Nat) (Dk : NdS), k ≤ p.ups.length ∧ i = .int .i64 k ∧ Hid (NdV wr w3.heap.size w4.heap.size Dk) ∧ Hid (upsE D0 p.ups = upsE Dk (p.ups.drop k) ∧ upsX D0 p.ups = upsX Dk (p.ups.drop k)) ∧ Hid (OkM d.st.clock.length Dk ∧ Dk.self = d.self ∧ Dk.known = d.known) ∧ Hid (Below w3.heap.size w6 wr)) (fun i _ => p.ups.length - (intOf i).toNat)
     case atStart => exact ⟨0, D0, Nat.zero_le _, rfl, HN6, hide ⟨rfl, rfl⟩, HM0, hide (Below.refl _ _)⟩
     case round =>
      obtain ⟨k, Dk, hk, rfl, HNk, HUk, HMk, HBk⟩ := hrel
      obtain ⟨w20, rfl⟩ : ∃ w20, w20 = wr := ⟨wr, rfl⟩
      have HBw : Hid (Below w.heap.size w w20) := HB6.out.trans (HBk.out.mono (by have := hs3.out; omega))
      have V20 := hide (V6.out.low HBk.out (by have := hs3.out; omega))
      have R20 := hide (R6.out.low HBk.out (by have := hs3.out; omega))
      by_cases hlt : k < p.ups.length
      ·obtain ⟨u, hu⟩ : ∃ u, p.ups[k]? = some u := ⟨_, List.getElem?_eq_getElem hlt⟩
       have hdr : p.ups.drop k = u :: p.ups.drop (k + 1) := drop_cons_of hu
       obtain ⟨b, off, a7, c7, hadr, p0, p1, p2, p3, p4, -, hUB⟩ := UW.out.at hu
       have d0 := (HBw.out.cell (p := ⟨b, off + k * 5, none⟩) (World.block_lt_of_cell? w _ p0)).trans p0
       have d1 := (HBw.out.cell (p := ⟨b, off + k * 5 + 1, none⟩) (World.block_lt_of_cell? w _ p1)).trans p1
       have d2 := (HBw.out.cell (p := ⟨b, off + k * 5 + 2, none⟩) (World.block_lt_of_cell? w _ p2)).trans p2
       have d3 := (HBw.out.cell (p := ⟨b, off + k * 5 + 3, none⟩) (World.block_lt_of_cell? w _ p3)).trans p3
       have d4 := (HBw.out.cell (p := ⟨b, off + k * 5 + 4, none⟩) (World.block_lt_of_cell? w _ p4)).trans p4
       have HUB := hide hUB
       clear p0 p1 p2 p3 p4 hUB
       subst hadr
       have hlt' : (k : Int) < (p.ups.length : Int) := by omega
       have hbp := bpl w20 (.cells #[.int .i64 u.author, .slice a7 u.seen.length c7, .int .i64 u.kind, .int .i64 u.key, .int .i64 u.item] 37)
       obtain ⟨W21, HW21⟩ : ∃ W21, Hid (w20.alloc (.cells #[.int .i64 u.author, .slice a7 u.seen.length c7, .int .i64 u.kind, .int .i64 u.key, .int .i64 u.item] 37) = W21) := ⟨_, rfl⟩
       have B21 := hide (Box.new w20 [.int .i64 u.author, .slice a7 u.seen.length c7, .int .i64 u.kind, .int .i64 u.key, .int .i64 u.item] 37)
       rw [HW21.out] at hbp B21
       have hgl := HNk.out.lt
       have HN21 := hide (HNk.out.below hbp (nlr _))
       have HB21 : Hid (Below w3.heap.size w6 W21) := HBk.out.trans (hbp.mono (by omega))
       have HBw21 : Hid (Below w.heap.size w W21) := HBw.out.trans (hbp.mono (by have := hs3.out; omega))
       clear hbp
       obtain ⟨F, HFF⟩ : ∃ F, Hid (tuE Dk u = F) := ⟨_, rfl⟩
       go_upto_region 14 with fail
       rw [HW21.out]
       clear d0 d1 d2 d3 d4
       have u0 := B21.out.get 0 rfl
       have u1 := B21.out.get 1 rfl
       have u2 := B21.out.get 2 rfl
       have u3 := B21.out.get 3 rfl
       have u4 := B21.out.get 4 rfl
       go_wp2_with fail
       refine (takeUpdate_node w3.heap.size w4.heap.size _ Dk u W21 HN21.out (fun w' hw' => HUB.out.below (HBw21.out.trans (hw'.mono (by have := hs3.out; omega))) (nlr _))).mono ?_
       rintro e w22 ⟨rfl, hn22, hb22⟩
       rw [HFF.out]
       have HB22 : Hid (Below w3.heap.size w6 w22) := HB21.out.trans hb22
       have HBw22 : Hid (Below w.heap.size w w22) := HBw21.out.trans (hb22.mono (by have := hs3.out; omega))
       have R22 := hide (R6.out.low HB22.out (by have := hs3.out; omega))
       clear u0 u1 u2 u3 u4 hb22 B21 HN21 HB21 HBw21 HBw V20 R20 HBk
       by_cases hF : F = 0
       ·have hF' : (F != 0) = false := by simp [hF]
        have hz : tuE Dk u = 0 := by rw [HFF.out]; exact hF
        have hvx : tuV Dk u = tuX Dk u := tuV_zero hz
        rw [hvx] at hn22
        obtain ⟨m1, -, -, m2, m3, -, -⟩ := HMk.out.1.tu hz
        have HM22 := hide (And.intro m1 (And.intro (m2.trans HMk.out.2.1) (m3.trans HMk.out.2.2)))
        have HU22 : Hid (upsE D0 p.ups = upsE (tuX Dk u) (p.ups.drop (k + 1)) ∧ upsX D0 p.ups = upsX (tuX Dk u) (p.ups.drop (k + 1))) := by
         obtain ⟨q1, q2⟩ := HUk.out
         rw [hdr] at q1 q2
         refine ⟨?_, q2⟩
         rw [q1, upsE, if_pos hz]
        have HN22 := hide hn22
        clear hF hz hvx hn22 m1 m2 m3 hdr hu HUk HMk
        go_wp2_with fail
        go_roundw
        case rel => exact ⟨k + 1, _, by omega, by go_num, HN22, HU22, HM22, HB22⟩
        case measure => simp [intOf]; omega
       ·have hF' : (F != 0) = true := by simp [hF]
        have hE : F = E := by
         have q1 := HUk.out.1
         rw [hdr, upsE, HFF.out, if_neg hF] at q1
         rw [← HE.out]
         unfold takeE
         rw [if_pos HOZ.out, if_pos HCZ.out, if_pos HTZ.out, HD0.out, q1, if_neg hF]
        have hX := HXB.out (by rw [← hE]; exact hF)
        subst hX
        subst hE
        clear hF hn22 HXB hdr hu
        have r0 := R22.out.get 0 rfl
        have s0 := R22.out.free 0
        have r1 := R22.out.get 1 rfl
        have s1 := R22.out.free 1
        have r2 := R22.out.get 2 rfl
        have s2 := R22.out.free 2
        have r3 := R22.out.get 3 rfl
        have s3 := R22.out.free 3
        have r4 := R22.out.get 4 rfl
        have s4 := R22.out.free 4
        have r5 := R22.out.get 5 rfl
        have s5 := R22.out.free 5
        have r6 := R22.out.get 6 rfl
        have s6 := R22.out.free 6
        go_wp2_with fail
        have hR := ((((((((R22.out).set 0 (.int .i64 0)).set 1 (.slice none 0 0)).set 2 (.slice none 0 0)).set 3 (.slice none 0 0)).set 4 (.slice none 0 0)).set 5 (.slice none 0 0)).set 6 (.slice none 0 0))
        have hV := ((((((((NodeO.none w22 (w.heap.size + 3)).away (g := w.heap.size + 1 + 1) (by omega) 0 (.int .i64 0)).away (g := w.heap.size + 1 + 1) (by omega) 1 (.slice none 0 0)).away (g := w.heap.size + 1 + 1) (by omega) 2 (.slice none 0 0)).away (g := w.heap.size + 1 + 1) (by omega) 3 (.slice none 0 0)).away (g := w.heap.size + 1 + 1) (by omega) 4 (.slice none 0 0)).away (g := w.heap.size + 1 + 1) (by omega) 5 (.slice none 0 0)).away (g := w.heap.size + 1 + 1) (by omega) 6 (.slice none 0 0))
        refine bodyPost_ret (results_cell_tmp rfl _ _ (w.heap.size + 1 + 1) 49 _ (0, 0) _ rfl hR Tryz.underlying49 rfl Tryz.sizeNode) rfl ⟨_, rfl, hV, ?_⟩
        exact ((((((((HBw22.out).setCell (by show w.heap.size ≤ w.heap.size + 1 + 1; omega) _).setCell (by show w.heap.size ≤ w.heap.size + 1 + 1; omega) _).setCell (by show w.heap.size ≤ w.heap.size + 1 + 1; omega) _).setCell (by show w.heap.size ≤ w.heap.size + 1 + 1; omega) _).setCell (by show w.heap.size ≤ w.heap.size + 1 + 1; omega) _).setCell (by show w.heap.size ≤ w.heap.size + 1 + 1; omega) _).setCell (by show w.heap.size ≤ w.heap.size + 1 + 1; omega) _)
      ·have hlt' : ¬ (k : Int) < (p.ups.length : Int) := by omega
       have hdr : p.ups.drop k = [] := List.drop_eq_nil_of_le (by omega)
       have hU := HUk.out
       rw [hdr] at hU
       obtain ⟨hU1, hU2⟩ := hU
       have hU1' : upsE D0 p.ups = 0 := hU1
       have hU2' : upsX D0 p.ups = Dk := hU2
       obtain ⟨q1, z1, q2, z2, q3, z3, q4, z4, q5, z5, q6, z6, hbx, -, hcl, -, -, hkn⟩ := HNk.out.form
       have HBX := hide hbx
       have HCL := hide hcl
       have HKN := hide hkn
       have HUE := hide hU1'
       have HUX := hide hU2'
       have h1 := hbx.get 1 rfl
       have v5 := V20.out.get 5 rfl
       obtain ⟨sb, HSB⟩ : ∃ sb, Hid (seesC Dk.st.clock p.clock = sb) := ⟨_, rfl⟩
       clear hdr hU1 hU2 hU1' hU2' hbx hcl hkn HUk
       go_wp2_with fail
       refine (sees_clock _ _ Dk.st.clock p.clock _ HCL.out.row (CW.out.below HBw.out (nlr _))).mono ?_
       rintro e w21 ⟨rfl, hb21⟩
       rw [HSB.out]
       have hgl := HNk.out.lt
       have HN21 := hide (HNk.out.below hb21 (nlr _))
       have HX21 := hide (HBX.out.below hb21 (nlr _))
       have HK21 := hide (HKN.out.below hb21 (nlr _))
       have V21 := hide (V20.out.below hb21 (nlr _))
       have R21 := hide (R20.out.below hb21 (nlr _))
       have HBw21 := hide (below_step HBw.out hb21)
       have hs21 : Hid (w20.heap.size ≤ w21.heap.size) := hb21.size
       clear h1 v5 hb21 HBX HCL HKN V20 R20 HBw HNk
       cases hsb : sb
       ·have hE : 8 = E := by
         rw [← HE.out]
         unfold takeE
         rw [if_pos HOZ.out, if_pos HCZ.out, if_pos HTZ.out, HD0.out, if_pos HUE.out, HUX.out, HSB.out, hsb]
         simp
        have hX := HXB.out (by rw [← hE]; decide)
        subst hX
        subst hE
        clear HXB
        have r0 := R21.out.get 0 rfl
        have s0 := R21.out.free 0
        have r1 := R21.out.get 1 rfl
        have s1 := R21.out.free 1
        have r2 := R21.out.get 2 rfl
        have s2 := R21.out.free 2
        have r3 := R21.out.get 3 rfl
        have s3 := R21.out.free 3
        have r4 := R21.out.get 4 rfl
        have s4 := R21.out.free 4
        have r5 := R21.out.get 5 rfl
        have s5 := R21.out.free 5
        have r6 := R21.out.get 6 rfl
        have s6 := R21.out.free 6
        go_wp2_with fail
        have hR := ((((((((R21.out).set 0 (.int .i64 0)).set 1 (.slice none 0 0)).set 2 (.slice none 0 0)).set 3 (.slice none 0 0)).set 4 (.slice none 0 0)).set 5 (.slice none 0 0)).set 6 (.slice none 0 0))
        have hV := ((((((((NodeO.none w21 (w.heap.size + 3)).away (g := w.heap.size + 1 + 1) (by omega) 0 (.int .i64 0)).away (g := w.heap.size + 1 + 1) (by omega) 1 (.slice none 0 0)).away (g := w.heap.size + 1 + 1) (by omega) 2 (.slice none 0 0)).away (g := w.heap.size + 1 + 1) (by omega) 3 (.slice none 0 0)).away (g := w.heap.size + 1 + 1) (by omega) 4 (.slice none 0 0)).away (g := w.heap.size + 1 + 1) (by omega) 5 (.slice none 0 0)).away (g := w.heap.size + 1 + 1) (by omega) 6 (.slice none 0 0))
        refine bodyPost_ret (results_cell_tmp rfl _ _ (w.heap.size + 1 + 1) 49 _ (0, 0) _ rfl hR Tryz.underlying49 rfl Tryz.sizeNode) rfl ⟨_, rfl, hV, ?_⟩
        exact ((((((((HBw21.out).setCell (by show w.heap.size ≤ w.heap.size + 1 + 1; omega) _).setCell (by show w.heap.size ≤ w.heap.size + 1 + 1; omega) _).setCell (by show w.heap.size ≤ w.heap.size + 1 + 1; omega) _).setCell (by show w.heap.size ≤ w.heap.size + 1 + 1; omega) _).setCell (by show w.heap.size ≤ w.heap.size + 1 + 1; omega) _).setCell (by show w.heap.size ≤ w.heap.size + 1 + 1; omega) _).setCell (by show w.heap.size ≤ w.heap.size + 1 + 1; omega) _)
       ·have hE : 0 = E := by
         rw [← HE.out]
         unfold takeE
         rw [if_pos HOZ.out, if_pos HCZ.out, if_pos HTZ.out, HD0.out, if_pos HUE.out, HUX.out, HSB.out, hsb]
         simp
        have hX : selfN (tellN Dk i p.clock) = X := by
         rw [← HX.out]
         unfold takeX
         rw [if_pos (by rw [HE.out, ← hE]), HD0.out, HUX.out]
        subst hE
        have HXX := hide hX
        clear hX HXB hsb
        obtain ⟨j, hj⟩ : ∃ j : Nat, i = j := ⟨i.toNat, by have := HI.out.1; omega⟩
        subst hj
        have hjl : j < Dk.known.length := by have := HI.out.2; have := HMk.out.1.kl; omega
        have hjl' : (j : Int) < (Dk.known.length : Int) := by omega
        obtain ⟨gk, hgk, -, hkB, hkl, hcell⟩ := HK21.out.block (by omega)
        subst hgk
        have hjg : Dk.known[j]? = some (Dk.known.getD j []) := by rw [List.getD_eq_getElem?_getD, List.getElem?_eq_getElem hjl]; rfl
        obtain ⟨kc, HKC⟩ : ∃ kc, Hid (Dk.known.getD j [] = kc) := ⟨_, rfl⟩
        rw [HKC.out] at hjg
        obtain ⟨b', off', a8, c8, hadr, hkc, hkr⟩ := HK21.out.kn.at hjg
        simp only [Option.some.injEq, Addr.mk.injEq, and_true] at hadr
        obtain ⟨rfl, rfl⟩ := hadr
        simp only [Nat.zero_add] at hkc
        have hkc6 : kc.length ≤ 6 := by
         have := (HMk.out.1.kg j hjl).1
         rw [HKC.out] at this
         have := goodC_iff.1 this
         omega
        have hpc6 : p.clock.length ≤ 6 := by have := goodC_iff.1 HCZ.out; omega
        have HKR := hide hkr
        have HKCL := hide hkc
        have hkn' : Dk.known.length ≤ 9223372036854775807 := HK21.out.kn.len_le
        clear hkr hkc hcell hjg
        have HK3 : Hid (∀ w', Box w' w4.heap.size [.int .i64 Dk.self, .slice q1 Dk.st.clock.length z1, .slice q2 Dk.st.lives.length z2, .slice q3 Dk.st.tals.length z3, .slice q4 Dk.base.length z4, .slice q5 Dk.log.length z5, .slice (some ⟨gk, 0, none⟩) Dk.known.length z6] 49 → w'.cell? ⟨w.heap.size + 1, 5, none⟩ = some (.slice b5 p.clock.length e5) → w'.cell? ⟨w4.heap.size, 6, none⟩ = some (.slice (some ⟨gk, 0, none⟩) Dk.known.length z6) ∧ w'.cell? ⟨w.heap.size + 1, 5, none⟩ = some (.slice b5 p.clock.length e5)) := fun w' hx hv => ⟨hx.get 6 rfl, hv⟩
        go_upto_region 20 with fail
        refine wp_region_held_drew (S := fun w' => w'.cell? ⟨w4.heap.size, 6, none⟩ = some (.slice (some ⟨gk, 0, none⟩) Dk.known.length z6) ∧ w'.cell? ⟨w.heap.size + 1, 5, none⟩ = some (.slice b5 p.clock.length e5)) (by kernel_rfl) (HK3.out _ HX21.out.drew (V21.out.drew.get 5 rfl)) (fun hHeld => ?_)
        obtain ⟨wd, HWD⟩ : ∃ wd, Hid (w21.drew = wd) := ⟨_, rfl⟩
        have hg0 : Grew w21 wd := by rw [← HWD.out]; exact grew_drew (grew_refl w21)
        rw [HWD.out] at hHeld ⊢
        refine ty 0 61 (.pointer (some ⟨w4.heap.size, 6, none⟩)) rfl rfl (by kernel_rfl) (fun _ _ _ h => h) rfl (by intro w hSw; (try dsimp only at hSw); go_simp) (by assumption) ?_
        simp only [Act.put, put1, put2, put3]
        refine ty 1 62 (.slice (some ⟨gk, 0, none⟩) Dk.known.length z6) rfl rfl (by kernel_rfl) (fun _ _ _ h => h) rfl (by intro w hSw; (try dsimp only at hSw); go_simp) (by assumption) ?_
        simp only [Act.put, put1, put2, put3]
        refine ty 2 63 (.int .i64 (j : Int)) rfl rfl (by kernel_rfl) (fun _ _ _ h => h) rfl (by intro w hSw; (try dsimp only at hSw); go_simp) (by assumption) ?_
        simp only [Act.put, put1, put2, put3]
        refine ty 3 64 (.pointer (some ⟨w4.heap.size, 6, none⟩)) rfl rfl (by kernel_rfl) (fun _ _ _ h => h) rfl (by intro w hSw; (try dsimp only at hSw); go_simp) (by assumption) ?_
        simp only [Act.put, put1, put2, put3]
        refine ty 4 65 (.slice (some ⟨gk, 0, none⟩) Dk.known.length z6) rfl rfl (by kernel_rfl) (fun _ _ _ h => h) rfl (by intro w hSw; (try dsimp only at hSw); go_simp) (by assumption) ?_
        simp only [Act.put, put1, put2, put3]
        refine ty 5 66 (.int .i64 (j : Int)) rfl rfl (by kernel_rfl) (fun _ _ _ h => h) rfl (by intro w hSw; (try dsimp only at hSw); go_simp) (by assumption) ?_
        simp only [Act.put, put1, put2, put3]
        refine ty 6 67 (.pointer (some ⟨gk, j, none⟩)) rfl rfl (by kernel_rfl) (fun _ _ _ h => h) rfl (by intro w hSw; (try dsimp only at hSw); go_simp) (by assumption) ?_
        simp only [Act.put, put1, put2, put3]
        refine ty 8 69 (.pointer (some ⟨w.heap.size + 1, 5, none⟩)) rfl rfl (by kernel_rfl) (fun _ _ _ h => h) rfl (by intro w hSw; (try dsimp only at hSw); go_simp) (by assumption) ?_
        simp only [Act.put, put1, put2, put3]
        refine ty 9 70 (.slice b5 p.clock.length e5) rfl rfl (by kernel_rfl) (fun _ _ _ h => h) rfl (by intro w hSw; (try dsimp only at hSw); go_simp) (by assumption) ?_
        simp only [Act.put, put1, put2, put3]
        have hkc := (hg0.cell (p := ⟨gk, j, none⟩) (World.block_lt_of_cell? w21 _ HKCL.out)).trans HKCL.out
        refine wpAnyH_ready (rs := [7]) (by kernel_rfl) (by simp) ?_
        refine rd1 rfl (fun K hK => ?_)
        go_simp
        refine hK.out _ _ hHeld (fun _ => ?_)
        clear hK K hkc
        try simp only [Act.put, put1, put2, put3]
        refine wpAnyH_ready (rs := [10]) (by kernel_rfl) (by simp) ?_
        refine rd1 rfl (fun K hK => ?_)
        go_simp
        refine (join_clock _ _ kc p.clock _ (HKR.out.below hg0 (nlr _)) (CW.out.below (below_step HBw21.out hg0) (nlr _)) (by omega) (by omega)).mono ?_
        rintro e w23 ⟨v23, rfl, ho23, hb23⟩
        obtain ⟨x23, y23, hv23, -⟩ := ho23.row
        subst hv23
        have hg3 : Grew w21 w23 := grew_step hg0 hb23
        have X23 := HX21.out.below hg3 (nlr _)
        have V23 := V21.out.below hg3 (nlr _)
        have N23 := HN21.out.below hg3 (nlr _)
        have R23 := R21.out.below hg3 (nlr _)
        have HBw23 := below_step HBw21.out hg3
        refine hK.out _ _ (HK3.out _ X23 (V23.get 5 rfl)) (fun hHeld2 => ?_)
        clear hK K
        try simp only [Act.put, put1, put2, put3]
        refine ty 11 72 (.pointer (some ⟨gk, j, none⟩)) rfl rfl (by kernel_rfl) (fun _ _ _ h => h) rfl (by intro w hSw; (try dsimp only at hSw); go_simp) (by assumption) ?_
        simp only [Act.put, put1, put2, put3]
        obtain ⟨gk', hgk', -, -, -, hcell2⟩ := (HK21.out.below hg3 (nlr _)).block (by omega)
        simp only [Option.some.injEq, Addr.mk.injEq, and_true] at hgk'
        subst hgk'
        obtain ⟨v0, hc0, hf0⟩ := hcell2 j hjl
        have N24 := N23.setKn X23 hjl (ho23.mono (C := w3.heap.size) (by have := hg0.size; have := hs21.out; omega))
        have hne : w4.heap.size ≠ gk := by
         intro he
         obtain ⟨qs, k1, -⟩ := HK21.out
         rw [he] at HX21
         exact row_notBox k1.1 HX21.out (by decide) rfl
        have hs3' := hs3.out
        have X24 := X23.away (g' := gk) (i := j) (v := .slice x23 (joinC kc p.clock).length y23) hne
        have V24 := V23.away (g' := gk) (i := j) (v := .slice x23 (joinC kc p.clock).length y23) (by omega)
        have R24 := R23.away (g' := gk) (i := j) (v := .slice x23 (joinC kc p.clock).length y23) (by omega)
        have HBw24 := HBw23.setCell (p := ⟨gk, j, none⟩) (show w.heap.size ≤ gk by omega) (.slice x23 (joinC kc p.clock).length y23)
        refine wpAnyH_ready (rs := [12]) (by kernel_rfl) (by simp) ?_
        refine rd1 rfl (fun K hK => ?_)
        go_simp
        obtain ⟨W24, HW24⟩ : ∃ W24, Hid (w23.setCell ⟨gk, j, none⟩ (.slice x23 (joinC kc p.clock).length y23) = W24) := ⟨_, rfl⟩
        rw [HW24.out] at N24 X24 V24 R24 HBw24 ⊢
        refine hK.out _ _ (HK3.out _ X24 (V24.get 5 rfl)) (fun hHeld3 => ?_)
        clear hK K hc0 hf0
        try simp only [Act.put, put1, put2, put3]
        refine wpAnyH_done (by kernel_rfl) ?_ _
        have hDt : (⟨Dk.self, Dk.st, Dk.base, Dk.log, Dk.known.set j (joinC kc p.clock)⟩ : NdS) = tellN Dk (j : Int) p.clock := by unfold tellN; rw [← HKC.out]; rfl
        rw [hDt] at N24
        obtain ⟨Z, HZ⟩ : ∃ Z, Hid (tellN Dk (j : Int) p.clock = Z) := ⟨_, rfl⟩
        have hz1 : Z.self = d.self := by rw [← HZ.out]; exact HMk.out.2.1
        have hz2 : Z.known.length = Dk.known.length := by rw [← HZ.out]; unfold tellN; simp
        have hz3 : Z.st.clock.length ≤ 6 := by
         rw [← HZ.out]
         have := goodC_iff.1 HMk.out.1.st.clock
         show Dk.st.clock.length ≤ 6
         omega
        have hz4 : 0 ≤ Z.self ∧ Z.self < Z.known.length := by
         rw [hz1, hz2]
         have h1 := HMk.out.1.s0
         have h2 := HMk.out.1.s1
         have h3 := HMk.out.1.kl
         have h4 := HMk.out.2.1
         omega
        rw [HZ.out] at N24
        have HXX' : Hid (selfN Z = X) := by unfold Hid; rw [← HZ.out]; exact HXX.out
        have HN24 := hide N24
        have HR24 := hide R24
        have HHB24 := hide HBw24
        have hz40 := hz4.1
        have hz41 := hz4.2
        clear N24 X24 V24 R24 HBw24 X23 V23 N23 R23 HBw23 ho23 hb23 hDt hcell2 hz1 hz2 hz4
        go_wp2_with fail
        refine (knowSelf_node w3.heap.size w4.heap.size Z _ HN24.out hz40 hz41 hz3).mono ?_
        rintro e w25 ⟨rfl, hn25, hb25⟩
        rw [HXX'.out] at hn25
        obtain ⟨m1, o1, m2, o2, m3, o3, m4, o4, m5, o5, m6, o6, hbx, -⟩ := hn25.form
        have R25 := hide (HR24.out.low hb25 (by omega))
        have HB25 := hide (HHB24.out.trans (hb25.mono (by omega)))
        have HV25 := hide ((hn25.value hbx).base (C := w.heap.size + 3) hs3')
        have zz0 := hbx.get 0 rfl
        have zz1 := hbx.get 1 rfl
        have zz2 := hbx.get 2 rfl
        have zz3 := hbx.get 3 rfl
        have zz4 := hbx.get 4 rfl
        have zz5 := hbx.get 5 rfl
        have zz6 := hbx.get 6 rfl
        clear hn25 hb25 hbx
        have r0 := R25.out.get 0 rfl
        have s0 := R25.out.free 0
        have r1 := R25.out.get 1 rfl
        have s1 := R25.out.free 1
        have r2 := R25.out.get 2 rfl
        have s2 := R25.out.free 2
        have r3 := R25.out.get 3 rfl
        have s3 := R25.out.free 3
        have r4 := R25.out.get 4 rfl
        have s4 := R25.out.free 4
        have r5 := R25.out.get 5 rfl
        have s5 := R25.out.free 5
        have r6 := R25.out.get 6 rfl
        have s6 := R25.out.free 6
        go_wp2_with fail
        have hR := ((((((((R25.out).set 0 (.int .i64 X.self)).set 1 (.slice m1 X.st.clock.length o1)).set 2 (.slice m2 X.st.lives.length o2)).set 3 (.slice m3 X.st.tals.length o3)).set 4 (.slice m4 X.base.length o4)).set 5 (.slice m5 X.log.length o5)).set 6 (.slice m6 X.known.length o6))
        have hV := ((((((((HV25.out).away (g := w.heap.size + 1 + 1) (by omega) 0 (.int .i64 X.self)).away (g := w.heap.size + 1 + 1) (by omega) 1 (.slice m1 X.st.clock.length o1)).away (g := w.heap.size + 1 + 1) (by omega) 2 (.slice m2 X.st.lives.length o2)).away (g := w.heap.size + 1 + 1) (by omega) 3 (.slice m3 X.st.tals.length o3)).away (g := w.heap.size + 1 + 1) (by omega) 4 (.slice m4 X.base.length o4)).away (g := w.heap.size + 1 + 1) (by omega) 5 (.slice m5 X.log.length o5)).away (g := w.heap.size + 1 + 1) (by omega) 6 (.slice m6 X.known.length o6))
        refine bodyPost_ret (results_cell_tmp rfl _ _ (w.heap.size + 1 + 1) 49 _ (0, 0) _ rfl hR Tryz.underlying49 rfl Tryz.sizeNode) rfl ⟨_, rfl, hV, ?_⟩
        exact ((((((((HB25.out).setCell (by show w.heap.size ≤ w.heap.size + 1 + 1; omega) _).setCell (by show w.heap.size ≤ w.heap.size + 1 + 1; omega) _).setCell (by show w.heap.size ≤ w.heap.size + 1 + 1; omega) _).setCell (by show w.heap.size ≤ w.heap.size + 1 + 1; omega) _).setCell (by show w.heap.size ≤ w.heap.size + 1 + 1; omega) _).setCell (by show w.heap.size ≤ w.heap.size + 1 + 1; omega) _).setCell (by show w.heap.size ≤ w.heap.size + 1 + 1; omega) _)
    ·have hT' : (T != 0) = true := by simp [hT]
     have hE : T = E := by
      rw [← HE.out]
      unfold takeE
      rw [if_pos HOZ.out, if_pos HCZ.out, if_neg (by rw [HT.out]; exact hT), HT.out]
     have hX := HXB.out (by rw [← hE]; exact hT)
     subst hX
     subst hE
     clear hT hn6 HXB
     have r0 := R6.out.get 0 rfl
     have s0 := R6.out.free 0
     have r1 := R6.out.get 1 rfl
     have s1 := R6.out.free 1
     have r2 := R6.out.get 2 rfl
     have s2 := R6.out.free 2
     have r3 := R6.out.get 3 rfl
     have s3 := R6.out.free 3
     have r4 := R6.out.get 4 rfl
     have s4 := R6.out.free 4
     have r5 := R6.out.get 5 rfl
     have s5 := R6.out.free 5
     have r6 := R6.out.get 6 rfl
     have s6 := R6.out.free 6
     go_wp2_with fail
     have hR := ((((((((R6.out).set 0 (.int .i64 0)).set 1 (.slice none 0 0)).set 2 (.slice none 0 0)).set 3 (.slice none 0 0)).set 4 (.slice none 0 0)).set 5 (.slice none 0 0)).set 6 (.slice none 0 0))
     have hV := ((((((((NodeO.none w6 (w.heap.size + 3)).away (g := w.heap.size + 1 + 1) (by omega) 0 (.int .i64 0)).away (g := w.heap.size + 1 + 1) (by omega) 1 (.slice none 0 0)).away (g := w.heap.size + 1 + 1) (by omega) 2 (.slice none 0 0)).away (g := w.heap.size + 1 + 1) (by omega) 3 (.slice none 0 0)).away (g := w.heap.size + 1 + 1) (by omega) 4 (.slice none 0 0)).away (g := w.heap.size + 1 + 1) (by omega) 5 (.slice none 0 0)).away (g := w.heap.size + 1 + 1) (by omega) 6 (.slice none 0 0))
     refine bodyPost_ret (results_cell_tmp rfl _ _ (w.heap.size + 1 + 1) 49 _ (0, 0) _ rfl hR Tryz.underlying49 rfl Tryz.sizeNode) rfl ⟨_, rfl, hV, ?_⟩
     exact ((((((((HB6.out).setCell (by show w.heap.size ≤ w.heap.size + 1 + 1; omega) _).setCell (by show w.heap.size ≤ w.heap.size + 1 + 1; omega) _).setCell (by show w.heap.size ≤ w.heap.size + 1 + 1; omega) _).setCell (by show w.heap.size ≤ w.heap.size + 1 + 1; omega) _).setCell (by show w.heap.size ≤ w.heap.size + 1 + 1; omega) _).setCell (by show w.heap.size ≤ w.heap.size + 1 + 1; omega) _).setCell (by show w.heap.size ≤ w.heap.size + 1 + 1; omega) _)
   ·have hC' : (C != 0) = true := by simp [hC]
    have hE : C = E := by rw [← HE.out, ← HC.out]; unfold takeE; rw [if_pos HOZ.out, if_neg (by rw [HC.out]; exact hC)]
    have hX := HXB.out (by rw [← hE]; exact hC)
    subst hX
    subst hE
    clear hC HXB
    have r0 := R3.out.get 0 rfl
    have s0 := R3.out.free 0
    have r1 := R3.out.get 1 rfl
    have s1 := R3.out.free 1
    have r2 := R3.out.get 2 rfl
    have s2 := R3.out.free 2
    have r3 := R3.out.get 3 rfl
    have s3 := R3.out.free 3
    have r4 := R3.out.get 4 rfl
    have s4 := R3.out.free 4
    have r5 := R3.out.get 5 rfl
    have s5 := R3.out.free 5
    have r6 := R3.out.get 6 rfl
    have s6 := R3.out.free 6
    go_wp2_with fail
    have hR := ((((((((R3.out).set 0 (.int .i64 0)).set 1 (.slice none 0 0)).set 2 (.slice none 0 0)).set 3 (.slice none 0 0)).set 4 (.slice none 0 0)).set 5 (.slice none 0 0)).set 6 (.slice none 0 0))
    have hV := ((((((((NodeO.none w3 (w.heap.size + 3)).away (g := w.heap.size + 1 + 1) (by omega) 0 (.int .i64 0)).away (g := w.heap.size + 1 + 1) (by omega) 1 (.slice none 0 0)).away (g := w.heap.size + 1 + 1) (by omega) 2 (.slice none 0 0)).away (g := w.heap.size + 1 + 1) (by omega) 3 (.slice none 0 0)).away (g := w.heap.size + 1 + 1) (by omega) 4 (.slice none 0 0)).away (g := w.heap.size + 1 + 1) (by omega) 5 (.slice none 0 0)).away (g := w.heap.size + 1 + 1) (by omega) 6 (.slice none 0 0))
    refine bodyPost_ret (results_cell_tmp rfl _ _ (w.heap.size + 1 + 1) 49 _ (0, 0) _ rfl hR Tryz.underlying49 rfl Tryz.sizeNode) rfl ⟨_, rfl, hV, ?_⟩
    exact ((((((((HB3.out).setCell (by show w.heap.size ≤ w.heap.size + 1 + 1; omega) _).setCell (by show w.heap.size ≤ w.heap.size + 1 + 1; omega) _).setCell (by show w.heap.size ≤ w.heap.size + 1 + 1; omega) _).setCell (by show w.heap.size ≤ w.heap.size + 1 + 1; omega) _).setCell (by show w.heap.size ≤ w.heap.size + 1 + 1; omega) _).setCell (by show w.heap.size ≤ w.heap.size + 1 + 1; omega) _).setCell (by show w.heap.size ≤ w.heap.size + 1 + 1; omega) _)
 ·have hN' : (N != 0) = true := by simp [hN]
  have hE : N = E := by rw [← HE.out, ← HN.out]; unfold takeE; rw [if_neg (by rw [HN.out]; exact hN)]
  have hX := HXB.out (by rw [← hE]; exact hN)
  subst hX
  subst hE
  have r0 := R2.out.get 0 rfl
  have s0 := R2.out.free 0
  have r1 := R2.out.get 1 rfl
  have s1 := R2.out.free 1
  have r2 := R2.out.get 2 rfl
  have s2 := R2.out.free 2
  have r3 := R2.out.get 3 rfl
  have s3 := R2.out.free 3
  have r4 := R2.out.get 4 rfl
  have s4 := R2.out.free 4
  have r5 := R2.out.get 5 rfl
  have s5 := R2.out.free 5
  have r6 := R2.out.get 6 rfl
  have s6 := R2.out.free 6
  clear hN HXB
  go_wp2_with fail
  have hR := (((((((R2.out).set 0 (.int .i64 0)).set 1 (.slice none 0 0)).set 2 (.slice none 0 0)).set 3 (.slice none 0 0)).set 4 (.slice none 0 0)).set 5 (.slice none 0 0)).set 6 (.slice none 0 0)
  have hV := ((((((((NodeO.none w2 (w.heap.size + 3))).away (g := w.heap.size + 1 + 1) (by omega) 0 (.int .i64 0)).away (g := w.heap.size + 1 + 1) (by omega) 1 (.slice none 0 0)).away (g := w.heap.size + 1 + 1) (by omega) 2 (.slice none 0 0)).away (g := w.heap.size + 1 + 1) (by omega) 3 (.slice none 0 0)).away (g := w.heap.size + 1 + 1) (by omega) 4 (.slice none 0 0)).away (g := w.heap.size + 1 + 1) (by omega) 5 (.slice none 0 0)).away (g := w.heap.size + 1 + 1) (by omega) 6 (.slice none 0 0)
  refine bodyPost_ret (results_cell_tmp rfl _ _ (w.heap.size + 1 + 1) 49 _ (0, 0) _ rfl hR Tryz.underlying49 rfl Tryz.sizeNode) rfl ⟨_, rfl, hV, ?_⟩
  exact (((((((HB2.out).setCell (by show w.heap.size ≤ w.heap.size + 1 + 1; omega) _).setCell (by show w.heap.size ≤ w.heap.size + 1 + 1; omega) _).setCell (by show w.heap.size ≤ w.heap.size + 1 + 1; omega) _).setCell (by show w.heap.size ≤ w.heap.size + 1 + 1; omega) _).setCell (by show w.heap.size ≤ w.heap.size + 1 + 1; omega) _).setCell (by show w.heap.size ≤ w.heap.size + 1 + 1; omega) _).setCell (by show w.heap.size ≤ w.heap.size + 1 + 1; omega) _
end Go.Proofs.YtihedgnachophaaGreat
/- node.Send. -/
namespace Go.Proofs.YtihedgnachophaaGreat
open Go.RowKit

theorem Tryz.sizeParcel : (Tryz.prog.info? 108).map (·.size) = some 6 := by kernel_rfl

set_option maxRecDepth 100000 in
set_option maxHeartbeats 4000000 in
theorem send_node (v : Value) (d : NdS) (i : Int) (w : World) (h : IsNode w v d) :
  Calls Tryz.prog 51 #[v, .int .i64 i] w fun e w' => ∃ rv, e = .returned (.tuple #[rv, .int .i64 (otherE d i)]) ∧ PclO w' (w.heap.size + 2) rv (sendX d i) ∧ Below w.heap.size w w' := by
 have hin := h
 obtain ⟨a1, c1, a2, c2, a3, c3, a4, c4, a5, c5, a6, c6, rfl, hst, hcl, hbs, hlg, hkn⟩ := h.form
 have hb3 := Below.plus (bpl w (.cells #[.int .i64 d.self, .slice a1 d.st.clock.length c1, .slice a2 d.st.lives.length c2, .slice a3 d.st.tals.length c3, .slice a4 d.base.length c4, .slice a5 d.log.length c5, .slice a6 d.known.length c6] 49)) (.cells #[.bool false, .slice none 0 0, .slice none 0 0, .slice none 0 0, .slice none 0 0, .slice none 0 0] 108)
 have G0 := hide ((Box.new w [.int .i64 d.self, .slice a1 d.st.clock.length c1, .slice a2 d.st.lives.length c2, .slice a3 d.st.tals.length c3, .slice a4 d.base.length c4, .slice a5 d.log.length c5, .slice a6 d.known.length c6] 49).plus (.cells #[.bool false, .slice none 0 0, .slice none 0 0, .slice none 0 0, .slice none 0 0, .slice none 0 0] 108))
 have R0 := hide (Box.new (w.alloc (.cells #[.int .i64 d.self, .slice a1 d.st.clock.length c1, .slice a2 d.st.lives.length c2, .slice a3 d.st.tals.length c3, .slice a4 d.base.length c4, .slice a5 d.log.length c5, .slice a6 d.known.length c6] 49)) [.bool false, .slice none 0 0, .slice none 0 0, .slice none 0 0, .slice none 0 0, .slice none 0 0] 108)
 simp only [World.size_alloc] at R0
 have SW := hide hst
 have CW := hide hcl
 have BW := hide hbs
 have LW := hide hlg
 have KW := hide hkn
 have D0 := hide (hin.below hb3 (nlr _))
 have HB0 := hide hb3
 clear h hin hst hcl hbs hlg hkn hb3
 obtain ⟨W1, HW1⟩ : ∃ W1, Hid ((w.alloc (.cells #[.int .i64 d.self, .slice a1 d.st.clock.length c1, .slice a2 d.st.lives.length c2, .slice a3 d.st.tals.length c3, .slice a4 d.base.length c4, .slice a5 d.log.length c5, .slice a6 d.known.length c6] 49)).alloc (.cells #[.bool false, .slice none 0 0, .slice none 0 0, .slice none 0 0, .slice none 0 0, .slice none 0 0] 108) = W1) := ⟨_, rfl⟩
 have hsz : Hid (W1.heap.size = w.heap.size + 1 + 1) := by unfold Hid; rw [← HW1.out, World.size_alloc, World.size_alloc]
 rw [HW1.out] at G0 R0 D0 HB0
 obtain ⟨N, HN⟩ : ∃ N, Hid (otherE d i = N) := ⟨_, rfl⟩
 obtain ⟨X, HX⟩ : ∃ X, Hid (sendX d i = X) := ⟨_, rfl⟩
 rw [HN.out, HX.out]
 have g0 := G0.out.get 0 rfl
 have g1 := G0.out.get 1 rfl
 have g2 := G0.out.get 2 rfl
 have g3 := G0.out.get 3 rfl
 have g4 := G0.out.get 4 rfl
 have g5 := G0.out.get 5 rfl
 have g6 := G0.out.get 6 rfl
 go_enter Tryz.func51, Tryz.ntmps51
 go_upto_region 1 with fail
 rw [HW1.out]
 go_wp2_with fail
 refine (otherWrong_node _ d i _ D0.out).mono ?_
 rintro e w2 ⟨rfl, hb2⟩
 rw [HN.out]
 have G2 := hide (G0.out.below hb2 (nlr _))
 have R2 := hide (R0.out.below hb2 (nlr _))
 have HB2 := hide (below_step HB0.out hb2)
 have hs2 : Hid (w.heap.size + 2 ≤ w2.heap.size) := by have := hb2.size; have := hsz.out; unfold Hid; omega
 clear G0 R0 D0 HB0 hb2 g0 g1 g2 g3 g4 g5 g6
 by_cases hN : N = 0
 ·have hN' : (N != 0) = false := by simp [hN]
  have hOz : otherE d i = 0 := by rw [HN.out]; exact hN
  obtain ⟨hok, hi0, hi1, -⟩ := other_zero.1 hOz
  have HOZ := hide hOz
  have HF := hide (fits_of (nodeE_zero.2 hok))
  obtain ⟨j, hj⟩ : ∃ j : Nat, i = j := ⟨i.toNat, by omega⟩
  subst hj
  have hjl : j < d.known.length := by have := hok.kl; omega
  have hjl' : (j : Int) < (d.known.length : Int) := by omega
  have hjg : d.known[j]? = some (d.known.getD j []) := by rw [List.getD_eq_getElem?_getD, List.getElem?_eq_getElem hjl]; rfl
  obtain ⟨kc, HKC⟩ : ∃ kc, Hid (d.known.getD j [] = kc) := ⟨_, rfl⟩
  rw [HKC.out] at hjg
  obtain ⟨b, off, a8, c8, hadr, hkc, hkr⟩ := KW.out.at hjg
  subst hadr
  have KRW := hide hkr
  have KCW := hide hkc
  have hkl := KW.out.len_le
  have HX2 : Hid ((if seesC kc d.base = true then (⟨false, ⟨[], [], []⟩, lacksL d.log kc, d.st.clock⟩ : Pcl) else ⟨true, d.st, [], d.st.clock⟩) = X) := by
   unfold Hid
   rw [← HX.out]
   unfold sendX
   rw [if_pos hOz, ← HKC.out]
   rfl
  have HN0 := hide hN
  have hcl6 := HF.out.clock
  clear hN hOz hok hi0 hi1 hjg hkc hkr
  have g1 := G2.out.get 1 rfl
  go_wp2_with fail
  refine (copy_clock _ d.st.clock _ (CW.out.below HB2.out (nlr _)) (by omega)).mono ?_
  rintro e w3 ⟨v3, rfl, ho3, hb3⟩
  obtain ⟨x3, y3, hv3, -⟩ := ho3.row
  subst hv3
  have hbp := bpl w3 (.cells #[.bool false, .slice none 0 0, .slice none 0 0, .slice none 0 0, .slice none 0 0, .slice x3 d.st.clock.length y3] 108)
  have hb4 := below_step hb3 hbp
  have G4 := hide (G2.out.below hb4 (nlr _))
  have R4 := hide (R2.out.below hb4 (nlr _))
  have HB4 := hide (below_step HB2.out hb4)
  have O4 := hide ((ho3.mono (C := w.heap.size + 2) hs2.out).below hbp (nlr _))
  have P4 := hide (Box.new w3 [.bool false, .slice none 0 0, .slice none 0 0, .slice none 0 0, .slice none 0 0, .slice x3 d.st.clock.length y3] 108)
  have hs4 : Hid (w.heap.size + 2 ≤ w3.heap.size) := by have := hb3.size; have := hs2.out; unfold Hid; omega
  obtain ⟨W4, HW4⟩ : ∃ W4, Hid (w3.alloc (.cells #[.bool false, .slice none 0 0, .slice none 0 0, .slice none 0 0, .slice none 0 0, .slice x3 d.st.clock.length y3] 108) = W4) := ⟨_, rfl⟩
  rw [HW4.out] at G4 R4 HB4 O4 P4
  clear G2 R2 HB2 g1 ho3 hb3 hbp hb4
  have HK4 : Hid (∀ w', Grew W4 w' → w'.cell? ⟨w.heap.size, 6, none⟩ = some (.slice (some ⟨b, off, none⟩) d.known.length c6) ∧ w'.cell? ⟨b, off + j, none⟩ = some (.slice a8 kc.length c8) ∧ w'.cell? ⟨w.heap.size, 4, none⟩ = some (.slice a4 d.base.length c4) ∧ w'.cell? ⟨w.heap.size, 5, none⟩ = some (.slice a5 d.log.length c5)) := fun w' hg => ⟨(G4.out.below hg (nlr _)).get 6 rfl, ((below_step HB4.out hg).cell (p := ⟨b, off + j, none⟩) (World.block_lt_of_cell? w _ KCW.out)).trans KCW.out, (G4.out.below hg (nlr _)).get 4 rfl, (G4.out.below hg (nlr _)).get 5 rfl⟩
  obtain ⟨sb, HSB⟩ : ∃ sb, Hid (seesC kc d.base = sb) := ⟨_, rfl⟩
  go_upto_region 5 with fail
  rw [HW4.out]
  go_cut [27] (fun c wx => c = .bool sb ∧ Hid (Grew W4 wx))
  case first =>
   refine wp_region_held_drew (S := fun w' => w'.cell? ⟨w.heap.size, 6, none⟩ = some (.slice (some ⟨b, off, none⟩) d.known.length c6) ∧ w'.cell? ⟨b, off + j, none⟩ = some (.slice a8 kc.length c8) ∧ w'.cell? ⟨w.heap.size, 4, none⟩ = some (.slice a4 d.base.length c4) ∧ w'.cell? ⟨w.heap.size, 5, none⟩ = some (.slice a5 d.log.length c5)) (by kernel_rfl) (HK4.out _ (grew_drew (grew_refl _))) (fun hHeld => ?_)
   obtain ⟨wd, HWD⟩ : ∃ wd, Hid (W4.drew = wd) := ⟨_, rfl⟩
   have hg0 : Grew W4 wd := by rw [← HWD.out]; exact grew_drew (grew_refl W4)
   rw [HWD.out] at hHeld ⊢
   refine ty 0 20 (.pointer (some ⟨w.heap.size, 6, none⟩)) rfl rfl (by kernel_rfl) (fun _ _ _ h => h) rfl (by intro w hSw; (try dsimp only at hSw); go_simp) (by assumption) ?_
   simp only [Act.put, put1, put2, put3]
   refine ty 1 21 (.slice (some ⟨b, off, none⟩) d.known.length c6) rfl rfl (by kernel_rfl) (fun _ _ _ h => h) rfl (by intro w hSw; (try dsimp only at hSw); go_simp) (by assumption) ?_
   simp only [Act.put, put1, put2, put3]
   refine ty 2 22 (.int .i64 (j : Int)) rfl rfl (by kernel_rfl) (fun _ _ _ h => h) rfl (by intro w hSw; (try dsimp only at hSw); go_simp) (by assumption) ?_
   simp only [Act.put, put1, put2, put3]
   refine ty 3 23 (.pointer (some ⟨b, off + j, none⟩)) rfl rfl (by kernel_rfl) (fun _ _ _ h => h) rfl (by intro w hSw; (try dsimp only at hSw); go_simp) (by assumption) ?_
   simp only [Act.put, put1, put2, put3]
   refine ty 4 24 (.slice a8 kc.length c8) rfl rfl (by kernel_rfl) (fun _ _ _ h => h) rfl (by intro w hSw; (try dsimp only at hSw); go_simp) (by assumption) ?_
   simp only [Act.put, put1, put2, put3]
   refine ty 5 25 (.pointer (some ⟨w.heap.size, 4, none⟩)) rfl rfl (by kernel_rfl) (fun _ _ _ h => h) rfl (by intro w hSw; (try dsimp only at hSw); go_simp) (by assumption) ?_
   simp only [Act.put, put1, put2, put3]
   refine ty 6 26 (.slice a4 d.base.length c4) rfl rfl (by kernel_rfl) (fun _ _ _ h => h) rfl (by intro w hSw; (try dsimp only at hSw); go_simp) (by assumption) ?_
   simp only [Act.put, put1, put2, put3]
   refine wpAnyH_ready (rs := [7]) (by kernel_rfl) (by simp) ?_
   refine rd1 rfl (fun K hK => ?_)
   go_simp
   refine (sees_clock _ _ kc d.base _ (KRW.out.below (below_step HB4.out hg0) (nlr _)) (BW.out.below (below_step HB4.out hg0) (nlr _))).mono ?_
   rintro e w5 ⟨rfl, hb5⟩
   rw [HSB.out]
   have hg5 : Grew W4 w5 := grew_step hg0 hb5
   refine hK.out _ _ (HK4.out _ hg5) (fun _ => ?_)
   clear hK K
   try simp only [Act.put, put1, put2, put3]
   refine wpAnyH_done (by kernel_rfl) ?_ _
   go_wp2_with fail
   go_meet
   exact ⟨rfl, hg5⟩
  case rest =>
   obtain ⟨rfl, HGR⟩ := hcut
   obtain ⟨w5, rfl⟩ : ∃ w5, w5 = wc := ⟨wc, rfl⟩
   have G5 := hide (G4.out.below HGR.out (nlr _))
   have P5 := hide (P4.out.below HGR.out (nlr _))
   have O5 := hide (O4.out.below HGR.out (nlr _))
   have R5 := hide (R4.out.below HGR.out (nlr _))
   have HB5 := hide (below_step HB4.out HGR.out)
   have HK5 : Hid (∀ w', Grew w5 w' → w'.cell? ⟨w.heap.size, 6, none⟩ = some (.slice (some ⟨b, off, none⟩) d.known.length c6) ∧ w'.cell? ⟨b, off + j, none⟩ = some (.slice a8 kc.length c8) ∧ w'.cell? ⟨w.heap.size, 4, none⟩ = some (.slice a4 d.base.length c4) ∧ w'.cell? ⟨w.heap.size, 5, none⟩ = some (.slice a5 d.log.length c5)) := fun w' hg => HK4.out w' (grew_step HGR.out hg)
   have hs5 : Hid (w3.heap.size < w5.heap.size) := P5.out.lt
   clear G4 P4 O4 R4 HB4 HGR HK4
   have hs4' := hs4.out
   rw [HSB.out] at HX2
   cases sb
   ·have hX : (⟨true, d.st, [], d.st.clock⟩ : Pcl) = X := HX2.out
    subst hX
    have g1 := G5.out.get 1 rfl
    have g2 := G5.out.get 2 rfl
    have g3 := G5.out.get 3 rfl
    go_wp2_with fail
    refine (copy_state _ d.st _ (SW.out.below HB5.out (nlr _)) (by omega) HF.out.lives HF.out.tals).mono ?_
    rintro e w6 ⟨v6, rfl, ho6, hb6⟩
    obtain ⟨x1, y1, x2, y2, x4, y4, hv6⟩ := ho6.formW
    subst hv6
    have P6 := P5.out.below hb6 (nlr _)
    have O6 := O5.out.below hb6 (nlr _)
    have S6 := ho6.base (C := w.heap.size + 2) (by have := hs5.out; omega)
    have R6 := R5.out.below hb6 (nlr _)
    have HB6 := below_step HB5.out hb6
    have p0 := P6.get 0 rfl
    have p1 := P6.get 1 rfl
    have p2 := P6.get 2 rfl
    have p3 := P6.get 3 rfl
    have f0 := P6.free 0
    have f1 := P6.free 1
    have f2 := P6.free 2
    have f3 := P6.free 3
    have P7 := P6.set 0 (.bool true)
    have O7 := O6.setT P6 (by decide) 0 (.bool true)
    have S7 := S6.setT P6 (by decide) (by decide) (by decide) 0 (.bool true)
    have R7 := R6.away (g' := w3.heap.size) (i := 0) (v := .bool true) (by omega)
    have HB7 := HB6.setCell (p := ⟨w3.heap.size, 0, none⟩) (show w.heap.size ≤ w3.heap.size by omega) (.bool true)
    have P8 := P7.set 1 (.slice x1 d.st.clock.length y1)
    have O8 := O7.setT P7 (by decide) 1 (.slice x1 d.st.clock.length y1)
    have S8 := S7.setT P7 (by decide) (by decide) (by decide) 1 (.slice x1 d.st.clock.length y1)
    have R8 := R7.away (g' := w3.heap.size) (i := 1) (v := .slice x1 d.st.clock.length y1) (by omega)
    have HB8 := HB7.setCell (p := ⟨w3.heap.size, 1, none⟩) (show w.heap.size ≤ w3.heap.size by omega) (.slice x1 d.st.clock.length y1)
    have P9 := P8.set 2 (.slice x2 d.st.lives.length y2)
    have O9 := O8.setT P8 (by decide) 2 (.slice x2 d.st.lives.length y2)
    have S9 := S8.setT P8 (by decide) (by decide) (by decide) 2 (.slice x2 d.st.lives.length y2)
    have R9 := R8.away (g' := w3.heap.size) (i := 2) (v := .slice x2 d.st.lives.length y2) (by omega)
    have HB9 := HB8.setCell (p := ⟨w3.heap.size, 2, none⟩) (show w.heap.size ≤ w3.heap.size by omega) (.slice x2 d.st.lives.length y2)
    have P10 := P9.set 3 (.slice x4 d.st.tals.length y4)
    have O10 := O9.setT P9 (by decide) 3 (.slice x4 d.st.tals.length y4)
    have S10 := S9.setT P9 (by decide) (by decide) (by decide) 3 (.slice x4 d.st.tals.length y4)
    have R10 := R9.away (g' := w3.heap.size) (i := 3) (v := .slice x4 d.st.tals.length y4) (by omega)
    have HB10 := HB9.setCell (p := ⟨w3.heap.size, 3, none⟩) (show w.heap.size ≤ w3.heap.size by omega) (.slice x4 d.st.tals.length y4)
    obtain ⟨W10, HW10⟩ : ∃ W10, Hid ((((w6.setCell ⟨w3.heap.size, 0, none⟩ (.bool true)).setCell ⟨w3.heap.size, 1, none⟩ (.slice x1 d.st.clock.length y1)).setCell ⟨w3.heap.size, 2, none⟩ (.slice x2 d.st.lives.length y2)).setCell ⟨w3.heap.size, 3, none⟩ (.slice x4 d.st.tals.length y4) = W10) := ⟨_, rfl⟩
    rw [HW10.out] at P10 O10 S10 R10 HB10
    have HP := hide P10
    have HO := hide O10
    have HS := hide S10
    have HR := hide R10
    have HH := hide HB10
    clear P6 P7 P8 P9 P10 O6 O7 O8 O9 O10 S6 S7 S8 S9 S10 R6 R7 R8 R9 R10 HB6 HB7 HB8 HB9 HB10 ho6 hb6
    go_upto_region 8 with fail
    rw [HW10.out]
    clear p0 p1 p2 p3 f0 f1 f2 f3 g1 g2 g3
    have HV : Hid (PclO W10 (w.heap.size + 2) (.agg #[.bool true, .slice x1 d.st.clock.length y1, .slice x2 d.st.lives.length y2, .slice x4 d.st.tals.length y4, .slice none 0 0, .slice x3 d.st.clock.length y3]) ⟨true, d.st, [], d.st.clock⟩) := ⟨_, _, _, _, _, rfl, HS.out, LogOf.nil _ _, HO.out⟩
    have q0 := HP.out.get 0 rfl
    have q1 := HP.out.get 1 rfl
    have q2 := HP.out.get 2 rfl
    have q3 := HP.out.get 3 rfl
    have q4 := HP.out.get 4 rfl
    have q5 := HP.out.get 5 rfl
    have hN0 := HN0.out
    subst hN0
    have r0 := HR.out.get 0 rfl
    have s0 := HR.out.free 0
    have r1 := HR.out.get 1 rfl
    have s1 := HR.out.free 1
    have r2 := HR.out.get 2 rfl
    have s2 := HR.out.free 2
    have r3 := HR.out.get 3 rfl
    have s3 := HR.out.free 3
    have r4 := HR.out.get 4 rfl
    have s4 := HR.out.free 4
    have r5 := HR.out.get 5 rfl
    have s5 := HR.out.free 5
    go_wp2_with fail
    have hR := (((((((HR.out).set 0 (.bool true)).set 1 (.slice x1 d.st.clock.length y1)).set 2 (.slice x2 d.st.lives.length y2)).set 3 (.slice x4 d.st.tals.length y4)).set 4 (.slice none 0 0)).set 5 (.slice x3 d.st.clock.length y3))
    have hV := (((((((HV.out).away (g := w.heap.size + 1) (by omega) 0 (.bool true)).away (g := w.heap.size + 1) (by omega) 1 (.slice x1 d.st.clock.length y1)).away (g := w.heap.size + 1) (by omega) 2 (.slice x2 d.st.lives.length y2)).away (g := w.heap.size + 1) (by omega) 3 (.slice x4 d.st.tals.length y4)).away (g := w.heap.size + 1) (by omega) 4 (.slice none 0 0)).away (g := w.heap.size + 1) (by omega) 5 (.slice x3 d.st.clock.length y3))
    refine bodyPost_ret (results_cell_tmp rfl _ _ (w.heap.size + 1) 108 _ (0, 0) _ rfl hR Tryz.underlying108 rfl Tryz.sizeParcel) rfl ⟨_, rfl, hV, ?_⟩
    exact (((((((HH.out).setCell (by show w.heap.size ≤ w.heap.size + 1; omega) _).setCell (by show w.heap.size ≤ w.heap.size + 1; omega) _).setCell (by show w.heap.size ≤ w.heap.size + 1; omega) _).setCell (by show w.heap.size ≤ w.heap.size + 1; omega) _).setCell (by show w.heap.size ≤ w.heap.size + 1; omega) _).setCell (by show w.heap.size ≤ w.heap.size + 1; omega) _)
   ·have hX : (⟨false, ⟨[], [], []⟩, lacksL d.log kc, d.st.clock⟩ : Pcl) = X := HX2.out
    subst hX
    go_upto_region 6 with fail
    refine wp_region_held_drew (S := fun w' => w'.cell? ⟨w.heap.size, 6, none⟩ = some (.slice (some ⟨b, off, none⟩) d.known.length c6) ∧ w'.cell? ⟨b, off + j, none⟩ = some (.slice a8 kc.length c8) ∧ w'.cell? ⟨w.heap.size, 4, none⟩ = some (.slice a4 d.base.length c4) ∧ w'.cell? ⟨w.heap.size, 5, none⟩ = some (.slice a5 d.log.length c5)) (by kernel_rfl) (HK5.out _ (grew_drew (grew_refl _))) (fun hHeld => ?_)
    obtain ⟨wd, HWD⟩ : ∃ wd, Hid (w5.drew = wd) := ⟨_, rfl⟩
    have hg0 : Grew w5 wd := by rw [← HWD.out]; exact grew_drew (grew_refl w5)
    rw [HWD.out] at hHeld ⊢
    refine ty 0 28 (.pointer (some ⟨w.heap.size, 5, none⟩)) rfl rfl (by kernel_rfl) (fun _ _ _ h => h) rfl (by intro w hSw; (try dsimp only at hSw); go_simp) (by assumption) ?_
    simp only [Act.put, put1, put2, put3]
    refine ty 1 29 (.slice a5 d.log.length c5) rfl rfl (by kernel_rfl) (fun _ _ _ h => h) rfl (by intro w hSw; (try dsimp only at hSw); go_simp) (by assumption) ?_
    simp only [Act.put, put1, put2, put3]
    refine ty 2 30 (.pointer (some ⟨w.heap.size, 6, none⟩)) rfl rfl (by kernel_rfl) (fun _ _ _ h => h) rfl (by intro w hSw; (try dsimp only at hSw); go_simp) (by assumption) ?_
    simp only [Act.put, put1, put2, put3]
    refine ty 3 31 (.slice (some ⟨b, off, none⟩) d.known.length c6) rfl rfl (by kernel_rfl) (fun _ _ _ h => h) rfl (by intro w hSw; (try dsimp only at hSw); go_simp) (by assumption) ?_
    simp only [Act.put, put1, put2, put3]
    refine ty 4 32 (.int .i64 (j : Int)) rfl rfl (by kernel_rfl) (fun _ _ _ h => h) rfl (by intro w hSw; (try dsimp only at hSw); go_simp) (by assumption) ?_
    simp only [Act.put, put1, put2, put3]
    refine ty 5 33 (.pointer (some ⟨b, off + j, none⟩)) rfl rfl (by kernel_rfl) (fun _ _ _ h => h) rfl (by intro w hSw; (try dsimp only at hSw); go_simp) (by assumption) ?_
    simp only [Act.put, put1, put2, put3]
    refine ty 6 34 (.slice a8 kc.length c8) rfl rfl (by kernel_rfl) (fun _ _ _ h => h) rfl (by intro w hSw; (try dsimp only at hSw); go_simp) (by assumption) ?_
    simp only [Act.put, put1, put2, put3]
    refine wpAnyH_ready (rs := [7]) (by kernel_rfl) (by simp) ?_
    refine rd1 rfl (fun K hK => ?_)
    go_simp
    refine (lacks_own _ _ d.log kc _ (LW.out.below (below_step HB5.out hg0) (nlr _)) (KRW.out.below (below_step HB5.out hg0) (nlr _)) HF.out.small (by have := HF.out.few; omega)).mono ?_
    rintro e w6 ⟨v6, rfl, ho6, hb6⟩
    obtain ⟨x6, y6, hv6⟩ := ho6.form
    subst hv6
    have hg6 : Grew w5 w6 := grew_step hg0 hb6
    refine hK.out _ _ (HK5.out _ hg6) (fun _ => ?_)
    clear hK K
    try simp only [Act.put, put1, put2, put3]
    have P6 := P5.out.below hg6 (nlr _)
    have O6 := O5.out.below hg6 (nlr _)
    have L6 := ho6.base (C := w.heap.size + 2) (by have := hs5.out; have := hg0.size; omega)
    have R6 := R5.out.below hg6 (nlr _)
    have HB6 := below_step HB5.out hg6
    refine ty 8 36 (.pointer (some ⟨w3.heap.size, 4, none⟩)) rfl rfl (by kernel_rfl) (fun _ _ _ h => h) rfl (by intro w hSw; (try dsimp only at hSw); go_simp) (by assumption) ?_
    simp only [Act.put, put1, put2, put3]
    have p4 := P6.get 4 rfl
    have f4 := P6.free 4
    have P7 := P6.set 4 (.slice x6 (lacksL d.log kc).length y6)
    have O7 := O6.setT P6 (by decide) 4 (.slice x6 (lacksL d.log kc).length y6)
    have L7 := L6.setT P6 (by decide) (by decide) 4 (.slice x6 (lacksL d.log kc).length y6)
    have R7 := R6.away (g' := w3.heap.size) (i := 4) (v := .slice x6 (lacksL d.log kc).length y6) (by omega)
    have HB7 := HB6.setCell (p := ⟨w3.heap.size, 4, none⟩) (show w.heap.size ≤ w3.heap.size by omega) (.slice x6 (lacksL d.log kc).length y6)
    have hK7 : (w6.setCell ⟨w3.heap.size, 4, none⟩ (.slice x6 (lacksL d.log kc).length y6)).cell? ⟨w.heap.size, 6, none⟩ = some (.slice (some ⟨b, off, none⟩) d.known.length c6) ∧ (w6.setCell ⟨w3.heap.size, 4, none⟩ (.slice x6 (lacksL d.log kc).length y6)).cell? ⟨b, off + j, none⟩ = some (.slice a8 kc.length c8) ∧ (w6.setCell ⟨w3.heap.size, 4, none⟩ (.slice x6 (lacksL d.log kc).length y6)).cell? ⟨w.heap.size, 4, none⟩ = some (.slice a4 d.base.length c4) ∧ (w6.setCell ⟨w3.heap.size, 4, none⟩ (.slice x6 (lacksL d.log kc).length y6)).cell? ⟨w.heap.size, 5, none⟩ = some (.slice a5 d.log.length c5) := by
     have g := G5.out.below hg6 (nlr _)
     have g' := g.away (g' := w3.heap.size) (i := 4) (v := .slice x6 (lacksL d.log kc).length y6) (by omega)
     refine ⟨g'.get 6 rfl, ?_, g'.get 4 rfl, g'.get 5 rfl⟩
     exact (HB7.cell (p := ⟨b, off + j, none⟩) (World.block_lt_of_cell? w _ KCW.out)).trans KCW.out
    refine wpAnyH_ready (rs := [9]) (by kernel_rfl) (by simp) ?_
    refine rd1 rfl (fun K hK => ?_)
    go_simp
    obtain ⟨W7, HW7⟩ : ∃ W7, Hid (w6.setCell ⟨w3.heap.size, 4, none⟩ (.slice x6 (lacksL d.log kc).length y6) = W7) := ⟨_, rfl⟩
    rw [HW7.out] at P7 O7 L7 R7 HB7 hK7 ⊢
    refine hK.out _ _ hK7 (fun _ => ?_)
    clear hK K p4 f4
    try simp only [Act.put, put1, put2, put3]
    refine wpAnyH_done (by kernel_rfl) ?_ _
    have HP := hide P7
    have HR := hide R7
    have HH := hide HB7
    have HV : Hid (PclO W7 (w.heap.size + 2) (.agg #[.bool false, .slice none 0 0, .slice none 0 0, .slice none 0 0, .slice x6 (lacksL d.log kc).length y6, .slice x3 d.st.clock.length y3]) ⟨false, ⟨[], [], []⟩, lacksL d.log kc, d.st.clock⟩) := ⟨_, _, _, _, _, rfl, StOwn.none _ _, L7, O7⟩
    clear P6 P7 O6 O7 L6 L7 R6 R7 HB6 HB7 ho6 hb6 hg6 hK7 G5 P5 O5 R5 HB5 HK5
    have q0 := HP.out.get 0 rfl
    have q1 := HP.out.get 1 rfl
    have q2 := HP.out.get 2 rfl
    have q3 := HP.out.get 3 rfl
    have q4 := HP.out.get 4 rfl
    have q5 := HP.out.get 5 rfl
    have hN0 := HN0.out
    subst hN0
    have r0 := HR.out.get 0 rfl
    have s0 := HR.out.free 0
    have r1 := HR.out.get 1 rfl
    have s1 := HR.out.free 1
    have r2 := HR.out.get 2 rfl
    have s2 := HR.out.free 2
    have r3 := HR.out.get 3 rfl
    have s3 := HR.out.free 3
    have r4 := HR.out.get 4 rfl
    have s4 := HR.out.free 4
    have r5 := HR.out.get 5 rfl
    have s5 := HR.out.free 5
    go_wp2_with fail
    have hR := (((((((HR.out).set 0 (.bool false)).set 1 (.slice none 0 0)).set 2 (.slice none 0 0)).set 3 (.slice none 0 0)).set 4 (.slice x6 (lacksL d.log kc).length y6)).set 5 (.slice x3 d.st.clock.length y3))
    have hV := (((((((HV.out).away (g := w.heap.size + 1) (by omega) 0 (.bool false)).away (g := w.heap.size + 1) (by omega) 1 (.slice none 0 0)).away (g := w.heap.size + 1) (by omega) 2 (.slice none 0 0)).away (g := w.heap.size + 1) (by omega) 3 (.slice none 0 0)).away (g := w.heap.size + 1) (by omega) 4 (.slice x6 (lacksL d.log kc).length y6)).away (g := w.heap.size + 1) (by omega) 5 (.slice x3 d.st.clock.length y3))
    refine bodyPost_ret (results_cell_tmp rfl _ _ (w.heap.size + 1) 108 _ (0, 0) _ rfl hR Tryz.underlying108 rfl Tryz.sizeParcel) rfl ⟨_, rfl, hV, ?_⟩
    exact (((((((HH.out).setCell (by show w.heap.size ≤ w.heap.size + 1; omega) _).setCell (by show w.heap.size ≤ w.heap.size + 1; omega) _).setCell (by show w.heap.size ≤ w.heap.size + 1; omega) _).setCell (by show w.heap.size ≤ w.heap.size + 1; omega) _).setCell (by show w.heap.size ≤ w.heap.size + 1; omega) _).setCell (by show w.heap.size ≤ w.heap.size + 1; omega) _)
 ·have hN' : (N != 0) = true := by simp [hN]
  have hX : X = noPcl := by rw [← HX.out]; unfold sendX; rw [if_neg (by rw [HN.out]; exact hN)]
  subst hX
  clear hN
  have r0 := R2.out.get 0 rfl
  have s0 := R2.out.free 0
  have r1 := R2.out.get 1 rfl
  have s1 := R2.out.free 1
  have r2 := R2.out.get 2 rfl
  have s2 := R2.out.free 2
  have r3 := R2.out.get 3 rfl
  have s3 := R2.out.free 3
  have r4 := R2.out.get 4 rfl
  have s4 := R2.out.free 4
  have r5 := R2.out.get 5 rfl
  have s5 := R2.out.free 5
  go_wp2_with fail
  have hR := (((((((R2.out).set 0 (.bool false)).set 1 (.slice none 0 0)).set 2 (.slice none 0 0)).set 3 (.slice none 0 0)).set 4 (.slice none 0 0)).set 5 (.slice none 0 0))
  have hV := (((((((PclO.none w2 (w.heap.size + 2)).away (g := w.heap.size + 1) (by omega) 0 (.bool false)).away (g := w.heap.size + 1) (by omega) 1 (.slice none 0 0)).away (g := w.heap.size + 1) (by omega) 2 (.slice none 0 0)).away (g := w.heap.size + 1) (by omega) 3 (.slice none 0 0)).away (g := w.heap.size + 1) (by omega) 4 (.slice none 0 0)).away (g := w.heap.size + 1) (by omega) 5 (.slice none 0 0))
  refine bodyPost_ret (results_cell_tmp rfl _ _ (w.heap.size + 1) 108 _ (0, 0) _ rfl hR Tryz.underlying108 rfl Tryz.sizeParcel) rfl ⟨_, rfl, hV, ?_⟩
  exact (((((((HB2.out).setCell (by show w.heap.size ≤ w.heap.size + 1; omega) _).setCell (by show w.heap.size ≤ w.heap.size + 1; omega) _).setCell (by show w.heap.size ≤ w.heap.size + 1; omega) _).setCell (by show w.heap.size ≤ w.heap.size + 1; omega) _).setCell (by show w.heap.size ≤ w.heap.size + 1; omega) _).setCell (by show w.heap.size ≤ w.heap.size + 1; omega) _)
end Go.Proofs.YtihedgnachophaaGreat
