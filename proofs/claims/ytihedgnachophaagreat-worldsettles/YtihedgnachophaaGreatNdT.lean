/- node.takeUpdate, node.takeState. -/
import Derived.Test.YtihedgnachophaaGreatNdI
namespace Go.Proofs.YtihedgnachophaaGreat
open Go.RowKit

def tuV (d : NdS) (u : Upd) : NdS := if skipB d u = true then d else playV d u

set_option maxRecDepth 100000 in
set_option maxHeartbeats 4000000 in
theorem takeUpdate_node (B g : Nat) (uv : Value) (d : NdS) (u : Upd) (w : World) (hd : NdV w B g d) (hu : ∀ w', Below B w w' → IsUpd w' uv u) :
  Calls Tryz.prog 81 #[.pointer (some ⟨g, 0, none⟩), uv] w fun e w' => e = .returned (.int .i64 (tuE d u)) ∧ NdV w' B g (tuV d u) ∧ Below B w w' := by
 have hui := hu
 obtain ⟨sv, rfl, hs⟩ := hu w (Below.refl _ _)
 obtain ⟨a7, c7, rfl, -, -, -⟩ := id hs
 have hbp := bpl w (.cells #[.int .i64 u.author, .slice a7 u.seen.length c7, .int .i64 u.kind, .int .i64 u.key, .int .i64 u.item] 37)
 have D0 := hd.below hbp (nlr _)
 have V0 := hide (Box.new w [.int .i64 u.author, .slice a7 u.seen.length c7, .int .i64 u.kind, .int .i64 u.key, .int .i64 u.item] 37)
 have hgl := hd.lt
 have HB0 : Hid (Below B w (w.alloc (.cells #[.int .i64 u.author, .slice a7 u.seen.length c7, .int .i64 u.kind, .int .i64 u.key, .int .i64 u.item] 37))) := hbp.mono (by omega)
 have UW := hide hui
 obtain ⟨W1, HW1⟩ : ∃ W1, Hid (w.alloc (.cells #[.int .i64 u.author, .slice a7 u.seen.length c7, .int .i64 u.kind, .int .i64 u.key, .int .i64 u.item] 37) = W1) := ⟨_, rfl⟩
 have hsz : W1.heap.size = w.heap.size + 1 := by rw [← HW1.out, World.size_alloc]
 rw [HW1.out] at D0 V0 HB0
 obtain ⟨a1, c1, a2, c2, a3, c3, a4, c4, a5, c5, a6, c6, hbox, -, hcl, -, -, -⟩ := D0.form
 have HX := hide hbox
 have HD := hide D0
 have HC := hide hcl
 have HSZ := hide hsz
 clear hui hs hd hbp hbox hcl D0 hsz
 have HK : Hid (∀ w', Grew W1 w' → w'.cell? ⟨g, 0, none⟩ = some (.int .i64 d.self) ∧ w'.cell? ⟨g, 1, none⟩ = some (.slice a1 d.st.clock.length c1) ∧ w'.cell? ⟨g, 2, none⟩ = some (.slice a2 d.st.lives.length c2) ∧ w'.cell? ⟨g, 3, none⟩ = some (.slice a3 d.st.tals.length c3) ∧ w'.cell? ⟨g, 4, none⟩ = some (.slice a4 d.base.length c4) ∧ w'.cell? ⟨g, 5, none⟩ = some (.slice a5 d.log.length c5) ∧ w'.cell? ⟨g, 6, none⟩ = some (.slice a6 d.known.length c6) ∧ w'.cell? ⟨w.heap.size, 0, none⟩ = some (.int .i64 u.author) ∧ w'.cell? ⟨w.heap.size, 1, none⟩ = some (.slice a7 u.seen.length c7) ∧ w'.cell? ⟨w.heap.size, 2, none⟩ = some (.int .i64 u.kind) ∧ w'.cell? ⟨w.heap.size, 3, none⟩ = some (.int .i64 u.key) ∧ w'.cell? ⟨w.heap.size, 4, none⟩ = some (.int .i64 u.item)) := fun w' hg => ⟨(HX.out.below hg (nlr _)).get 0 rfl, (HX.out.below hg (nlr _)).get 1 rfl, (HX.out.below hg (nlr _)).get 2 rfl, (HX.out.below hg (nlr _)).get 3 rfl, (HX.out.below hg (nlr _)).get 4 rfl, (HX.out.below hg (nlr _)).get 5 rfl, (HX.out.below hg (nlr _)).get 6 rfl, (V0.out.below hg (nlr _)).get 0 rfl, (V0.out.below hg (nlr _)).get 1 rfl, (V0.out.below hg (nlr _)).get 2 rfl, (V0.out.below hg (nlr _)).get 3 rfl, (V0.out.below hg (nlr _)).get 4 rfl⟩
 have HNO := hide (HD.out.value HX.out).node
 obtain ⟨E, HE⟩ : ∃ E, Hid (wrongU u d.st.clock.length = E) := ⟨_, rfl⟩
 obtain ⟨b, HBB⟩ : ∃ b, Hid (skipB d u = b) := ⟨_, rfl⟩
 obtain ⟨T, HT⟩ : ∃ T, Hid (tuE d u = T) := ⟨_, rfl⟩
 obtain ⟨Y, HY⟩ : ∃ Y, Hid (tuV d u = Y) := ⟨_, rfl⟩
 rw [HT.out, HY.out]
 go_enter Tryz.func81, Tryz.ntmps81
 go_upto_region 1 with fail
 rw [HW1.out]
 go_cut [20] (fun c wx => c = .bool b ∧ Hid (Grew W1 wx))
 case first =>
  refine wp_region_held_drew (S := fun w' => w'.cell? ⟨g, 0, none⟩ = some (.int .i64 d.self) ∧ w'.cell? ⟨g, 1, none⟩ = some (.slice a1 d.st.clock.length c1) ∧ w'.cell? ⟨g, 2, none⟩ = some (.slice a2 d.st.lives.length c2) ∧ w'.cell? ⟨g, 3, none⟩ = some (.slice a3 d.st.tals.length c3) ∧ w'.cell? ⟨g, 4, none⟩ = some (.slice a4 d.base.length c4) ∧ w'.cell? ⟨g, 5, none⟩ = some (.slice a5 d.log.length c5) ∧ w'.cell? ⟨g, 6, none⟩ = some (.slice a6 d.known.length c6) ∧ w'.cell? ⟨w.heap.size, 0, none⟩ = some (.int .i64 u.author) ∧ w'.cell? ⟨w.heap.size, 1, none⟩ = some (.slice a7 u.seen.length c7) ∧ w'.cell? ⟨w.heap.size, 2, none⟩ = some (.int .i64 u.kind) ∧ w'.cell? ⟨w.heap.size, 3, none⟩ = some (.int .i64 u.key) ∧ w'.cell? ⟨w.heap.size, 4, none⟩ = some (.int .i64 u.item)) (by kernel_rfl) (HK.out _ (grew_drew (grew_refl _))) (fun hHeld => ?_)
  obtain ⟨wd, HWD⟩ : ∃ wd, Hid (W1.drew = wd) := ⟨_, rfl⟩
  have hg0 : Grew W1 wd := by rw [← HWD.out]; exact grew_drew (grew_refl W1)
  rw [HWD.out] at hHeld ⊢
  refine ty 0 5 (.agg #[.int .i64 u.author, .slice a7 u.seen.length c7, .int .i64 u.kind, .int .i64 u.key, .int .i64 u.item]) rfl rfl (by kernel_rfl) (fun _ _ _ h => h) rfl (by intro w hSw; (try dsimp only at hSw); go_simp) (by assumption) ?_
  simp only [Act.put, put1, put2, put3]
  refine ty 1 6 (.pointer (some ⟨g, 0, none⟩)) rfl rfl (by kernel_rfl) (fun _ _ _ h => h) rfl (by intro w hSw; (try dsimp only at hSw); go_simp) (by assumption) ?_
  simp only [Act.put, put1, put2, put3]
  refine ty 2 7 (.pointer (some ⟨g, 0, none⟩)) rfl rfl (by kernel_rfl) (fun _ _ _ h => h) rfl (by intro w hSw; (try dsimp only at hSw); go_simp) (by assumption) ?_
  simp only [Act.put, put1, put2, put3]
  refine ty 3 8 (.agg #[.int .i64 d.self, .slice a1 d.st.clock.length c1, .slice a2 d.st.lives.length c2, .slice a3 d.st.tals.length c3, .slice a4 d.base.length c4, .slice a5 d.log.length c5, .slice a6 d.known.length c6]) rfl rfl (by kernel_rfl) (fun _ _ _ h => h) rfl (by intro w hSw; (try dsimp only at hSw); go_simp) (by assumption) ?_
  simp only [Act.put, put1, put2, put3]
  by_cases hE : E = 0
  ·have hE' : (E == 0) = true := by simp [hE]
   have hfit : FitU u := fitU_of (n := d.st.clock.length) (by rw [HE.out]; exact hE)
   have hsk : seenU u d.st.clock = b := by rw [← HBB.out]; unfold skipB; rw [HE.out, hE]; simp
   have HSK := hide hsk
   clear hE hsk
   refine wpAnyH_ready (rs := [4]) (by kernel_rfl) (by simp) ?_
   refine rd1 rfl (fun K hK => ?_)
   go_simp
   refine (authors_node _ d _ (HNO.out.below hg0 (nlr _))).mono ?_
   rintro e w2 ⟨rfl, hb2⟩
   have hg2 : Grew W1 w2 := grew_step hg0 hb2
   refine hK.out _ _ (HK.out _ hg2) (fun hHeld2 => ?_)
   clear hK K
   try simp only [Act.put, put1, put2, put3]
   refine wpAnyH_ready (rs := [5]) (by kernel_rfl) (by simp) ?_
   refine rd1 rfl (fun K hK => ?_)
   go_simp
   refine (wrongU_upd _ u _ _ (UW.out _ (HB0.out.trans (hg2.mono (by have := HSZ.out; omega))))).mono ?_
   rintro e w3 ⟨rfl, hb3⟩
   rw [HE.out]
   have hg3 : Grew W1 w3 := grew_step hg2 hb3
   refine hK.out _ _ (HK.out _ hg3) (fun hHeld3 => ?_)
   clear hK K
   try simp only [Act.put, put1, put2, put3]
   refine ty 6 11 (.bool true) rfl rfl (by kernel_rfl) (fun _ _ _ h => h) rfl (by intro w hSw; (try dsimp only at hSw); go_simp) (by assumption) ?_
   simp only [Act.put, put1, put2, put3]
   refine ty 7 12 (.bool true) rfl rfl (by kernel_rfl) (fun _ _ _ h => h) rfl (by intro w hSw; (try dsimp only at hSw); go_simp) (by assumption) ?_
   simp only [Act.put, put1, put2, put3]
   refine ty 8 13 (.agg #[.int .i64 u.author, .slice a7 u.seen.length c7, .int .i64 u.kind, .int .i64 u.key, .int .i64 u.item]) rfl rfl (by kernel_rfl) (fun _ _ _ h => h) rfl (by intro w hSw; (try dsimp only at hSw); go_simp) (by assumption) ?_
   simp only [Act.put, put1, put2, put3]
   refine ty 9 14 (.pointer (some ⟨g, 0, none⟩)) rfl rfl (by kernel_rfl) (fun _ _ _ h => h) rfl (by intro w hSw; (try dsimp only at hSw); go_simp) (by assumption) ?_
   simp only [Act.put, put1, put2, put3]
   refine ty 10 15 (.pointer (some ⟨g, 0, none⟩)) rfl rfl (by kernel_rfl) (fun _ _ _ h => h) rfl (by intro w hSw; (try dsimp only at hSw); go_simp) (by assumption) ?_
   simp only [Act.put, put1, put2, put3]
   refine ty 11 16 (.pointer (some ⟨g, 1, none⟩)) rfl rfl (by kernel_rfl) (fun _ _ _ h => h) rfl (by intro w hSw; (try dsimp only at hSw); go_simp) (by assumption) ?_
   simp only [Act.put, put1, put2, put3]
   refine ty 12 17 (.pointer (some ⟨g, 1, none⟩)) rfl rfl (by kernel_rfl) (fun _ _ _ h => h) rfl (by intro w hSw; (try dsimp only at hSw); go_simp) (by assumption) ?_
   simp only [Act.put, put1, put2, put3]
   refine ty 13 18 (.slice a1 d.st.clock.length c1) rfl rfl (by kernel_rfl) (fun _ _ _ h => h) rfl (by intro w hSw; (try dsimp only at hSw); go_simp) (by assumption) ?_
   simp only [Act.put, put1, put2, put3]
   refine wpAnyH_ready (rs := [14]) (by kernel_rfl) (by simp) ?_
   refine rd1 rfl (fun K hK => ?_)
   go_simp
   refine (seenBy_upd _ _ u d.st.clock _ (UW.out _ (HB0.out.trans (hg3.mono (by have := HSZ.out; omega)))) (HC.out.row.below hg3 (nlr _)) hfit).mono ?_
   rintro e w4 ⟨rfl, hb4⟩
   rw [HSK.out]
   have hg4 : Grew W1 w4 := grew_step hg3 hb4
   refine hK.out _ _ (HK.out _ hg4) (fun hHeld4 => ?_)
   clear hK K
   try simp only [Act.put, put1, put2, put3]
   refine ty 15 20 (.bool b) rfl rfl (by kernel_rfl) (fun _ _ _ h => h) rfl (by intro w hSw; (try dsimp only at hSw); go_simp) (by assumption) ?_
   simp only [Act.put, put1, put2, put3]
   refine wpAnyH_done (by kernel_rfl) ?_ _
   go_wp2_with fail
   go_meet
   exact ⟨rfl, hg4⟩
  ·have hE' : (E == 0) = false := by simp [hE]
   have hsk : b = false := by rw [← HBB.out]; unfold skipB; rw [HE.out]; simp [hE]
   subst hsk
   clear hE
   refine wpAnyH_ready (rs := [4]) (by kernel_rfl) (by simp) ?_
   refine rd1 rfl (fun K hK => ?_)
   go_simp
   refine (authors_node _ d _ (HNO.out.below hg0 (nlr _))).mono ?_
   rintro e w2 ⟨rfl, hb2⟩
   have hg2 : Grew W1 w2 := grew_step hg0 hb2
   refine hK.out _ _ (HK.out _ hg2) (fun hHeld2 => ?_)
   clear hK K
   try simp only [Act.put, put1, put2, put3]
   refine wpAnyH_ready (rs := [5]) (by kernel_rfl) (by simp) ?_
   refine rd1 rfl (fun K hK => ?_)
   go_simp
   refine (wrongU_upd _ u _ _ (UW.out _ (HB0.out.trans (hg2.mono (by have := HSZ.out; omega))))).mono ?_
   rintro e w3 ⟨rfl, hb3⟩
   rw [HE.out]
   have hg3 : Grew W1 w3 := grew_step hg2 hb3
   refine hK.out _ _ (HK.out _ hg3) (fun hHeld3 => ?_)
   clear hK K
   try simp only [Act.put, put1, put2, put3]
   refine ty 6 11 (.bool false) rfl rfl (by kernel_rfl) (fun _ _ _ h => h) rfl (by intro w hSw; (try dsimp only at hSw); go_simp) (by assumption) ?_
   simp only [Act.put, put1, put2, put3]
   refine ty 7 12 (.bool false) rfl rfl (by kernel_rfl) (fun _ _ _ h => h) rfl (by intro w hSw; (try dsimp only at hSw); go_simp) (by assumption) ?_
   simp only [Act.put, put1, put2, put3]
   refine ts 8 13 rfl rfl (by kernel_rfl) (fun _ _ _ h => h) rfl (by assumption) ?_
   simp only [Act.put, put1, put2, put3]
   refine ts 9 14 rfl rfl (by kernel_rfl) (fun _ _ _ h => h) rfl (by assumption) ?_
   simp only [Act.put, put1, put2, put3]
   refine ts 10 15 rfl rfl (by kernel_rfl) (fun _ _ _ h => h) rfl (by assumption) ?_
   simp only [Act.put, put1, put2, put3]
   refine ts 11 16 rfl rfl (by kernel_rfl) (fun _ _ _ h => h) rfl (by assumption) ?_
   simp only [Act.put, put1, put2, put3]
   refine ts 12 17 rfl rfl (by kernel_rfl) (fun _ _ _ h => h) rfl (by assumption) ?_
   simp only [Act.put, put1, put2, put3]
   refine ts 13 18 rfl rfl (by kernel_rfl) (fun _ _ _ h => h) rfl (by assumption) ?_
   simp only [Act.put, put1, put2, put3]
   refine ts 14 19 rfl rfl (by kernel_rfl) (fun _ _ _ h => h) rfl (by assumption) ?_
   simp only [Act.put, put1, put2, put3]
   refine ty 15 20 (.bool false) rfl rfl (by kernel_rfl) (fun _ _ _ h => h) rfl (by intro w hSw; (try dsimp only at hSw); go_simp) (by assumption) ?_
   simp only [Act.put, put1, put2, put3]
   refine wpAnyH_done (by kernel_rfl) ?_ _
   go_wp2_with fail
   go_meet
   exact ⟨rfl, hg3⟩
 case rest =>
  obtain ⟨rfl, HGR⟩ := hcut
  obtain ⟨w4, rfl⟩ : ∃ w4, w4 = wc := ⟨wc, rfl⟩
  have D4 := hide (HD.out.below HGR.out (nlr _))
  have V4 := hide (V0.out.below HGR.out (nlr _))
  have HB4 : Hid (Below B w w4) := HB0.out.trans (HGR.out.mono (by have := HSZ.out; omega))
  clear HK HNO HD V0 HX HC HB0
  cases b
  ·have hT : playN d u = T := by rw [← HT.out]; unfold tuE; rw [HBB.out]; simp
   have hY : playV d u = Y := by rw [← HY.out]; unfold tuV; rw [HBB.out]; simp
   have HTT := hide hT
   have HYY := hide hY
   clear hT hY
   have v0 := V4.out.get 0 rfl
   have v1 := V4.out.get 1 rfl
   have v2 := V4.out.get 2 rfl
   have v3 := V4.out.get 3 rfl
   have v4 := V4.out.get 4 rfl
   go_wp2_with fail
   refine (play_node B g _ d u _ D4.out (fun w' hw' => UW.out _ (HB4.out.trans hw'))).mono ?_
   rintro e w5 ⟨rfl, hn5, hb5⟩
   rw [HTT.out]
   rw [HYY.out] at hn5
   have HN5 := hide hn5
   have HB5 := hide (HB4.out.trans hb5)
   clear hn5 hb5 v0 v1 v2 v3 v4
   go_wp2_with fail
   go_ret
   exact ⟨rfl, HN5.out, HB5.out⟩
  ·have hT : 0 = T := by rw [← HT.out]; unfold tuE; rw [HBB.out]; simp
   have hY : d = Y := by rw [← HY.out]; unfold tuV; rw [HBB.out]; simp
   subst hT
   subst hY
   go_wp2_with fail
   go_ret
   exact ⟨rfl, D4.out, HB4.out⟩
end Go.Proofs.YtihedgnachophaaGreat
