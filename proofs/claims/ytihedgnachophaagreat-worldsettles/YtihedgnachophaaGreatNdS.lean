/- node.takeState. -/
import Derived.Test.YtihedgnachophaaGreatNdT
import Derived.Test.YtihedgnachophaaGreatJoB
namespace Go.Proofs.YtihedgnachophaaGreat
open Go.RowKit

def tstV (d : NdS) (p : Pcl) : NdS := if tstE d p = 0 then tstX d p else d

set_option maxRecDepth 100000 in
set_option maxHeartbeats 4000000 in
theorem takeState_node (B g : Nat) (pv : Value) (d : NdS) (p : Pcl) (w : World) (hd : NdV w B g d) (hp : ∀ w', Below B w w' → IsPcl w' pv p) (hbl : d.base.length ≤ 6) (hsm : ∀ u ∈ d.log, Small u) (hfew : d.log.length ≤ 300) :
  Calls Tryz.prog 80 #[.pointer (some ⟨g, 0, none⟩), pv] w fun e w' => e = .returned (.int .i64 (tstE d p)) ∧ NdV w' B g (tstV d p) ∧ Below B w w' := by
 obtain ⟨b1, e1, b2, e2, b3, e3, b4, e4, b5, e5, rfl, -, -, -, -⟩ := (hp w (Below.refl _ _)).form
 have hbp := bpl w (.cells #[.bool p.whole, .slice b1 p.st.clock.length e1, .slice b2 p.st.lives.length e2, .slice b3 p.st.tals.length e3, .slice b4 p.ups.length e4, .slice b5 p.clock.length e5] 108)
 have D0 := hd.below hbp (nlr _)
 have V0 := hide (Box.new w [.bool p.whole, .slice b1 p.st.clock.length e1, .slice b2 p.st.lives.length e2, .slice b3 p.st.tals.length e3, .slice b4 p.ups.length e4, .slice b5 p.clock.length e5] 108)
 have hgl := hd.lt
 have HB0 : Hid (Below B w (w.alloc (.cells #[.bool p.whole, .slice b1 p.st.clock.length e1, .slice b2 p.st.lives.length e2, .slice b3 p.st.tals.length e3, .slice b4 p.ups.length e4, .slice b5 p.clock.length e5] 108))) := hbp.mono (by omega)
 have PW := hide hp
 obtain ⟨W1, HW1⟩ : ∃ W1, Hid (w.alloc (.cells #[.bool p.whole, .slice b1 p.st.clock.length e1, .slice b2 p.st.lives.length e2, .slice b3 p.st.tals.length e3, .slice b4 p.ups.length e4, .slice b5 p.clock.length e5] 108) = W1) := ⟨_, rfl⟩
 have hsz : W1.heap.size = w.heap.size + 1 := by rw [← HW1.out, World.size_alloc]
 rw [HW1.out] at D0 V0 HB0
 obtain ⟨a1, c1, a2, c2, a3, c3, a4, c4, a5, c5, a6, c6, hbox, hst, -, -, -, -⟩ := D0.form
 have HX := hide hbox
 have HD := hide D0
 have HST := hide hst
 have HSZ := hide hsz
 clear hp hd hbp hbox hst D0 hsz
 have HPS : Hid (∀ w', Below B w w' → IsSt w' (.agg #[.slice b1 p.st.clock.length e1, .slice b2 p.st.lives.length e2, .slice b3 p.st.tals.length e3]) p.st ∧ Row w' (.slice b1 p.st.clock.length e1) p.st.clock) := by
  intro w' hw'
  obtain ⟨cv, lv, tv, uv, kv, he, hs, -, -⟩ := PW.out w' hw'
  simp only [Value.agg.injEq, Array.mk.injEq, List.cons.injEq, and_true] at he
  obtain ⟨-, rfl, rfl, rfl, -, -⟩ := he
  refine ⟨hs, ?_⟩
  obtain ⟨cv', lv', tv', he, hc, -, -⟩ := hs
  simp only [Value.agg.injEq, Array.mk.injEq, List.cons.injEq, and_true] at he
  obtain ⟨rfl, -, -⟩ := he
  exact hc
 obtain ⟨E, HE⟩ : ∃ E, Hid (tstE d p = E) := ⟨_, rfl⟩
 obtain ⟨Y, HY⟩ : ∃ Y, Hid (tstV d p = Y) := ⟨_, rfl⟩
 rw [HE.out, HY.out]
 cases hw : p.whole
 ·have hE : 0 = E := by rw [← HE.out]; unfold tstE; rw [if_neg (by rw [hw]; exact Bool.false_ne_true)]
  have hY : d = Y := by rw [← HY.out]; unfold tstV; rw [if_pos (by rw [HE.out, ← hE])]; unfold tstX; rw [if_neg (by rw [hw]; exact Bool.false_ne_true)]
  subst hE
  subst hY
  rw [hw] at V0 HW1
  have v0 := V0.out.get 0 rfl
  clear hw
  go_enter Tryz.func80, Tryz.ntmps80
  go_upto_region 1 with fail
  rw [HW1.out]
  go_wp2_with fail
  go_ret
  exact ⟨rfl, HD.out, HB0.out⟩
 ·have hEq : joinE d.st p.st = E := by rw [← HE.out]; unfold tstE; rw [if_pos hw]
  have HWH := hide hw
  rw [hw] at V0 HW1
  have v0 := V0.out.get 0 rfl
  have HK : Hid (∀ w', Grew W1 w' → w'.cell? ⟨g, 1, none⟩ = some (.slice a1 d.st.clock.length c1) ∧ w'.cell? ⟨g, 2, none⟩ = some (.slice a2 d.st.lives.length c2) ∧ w'.cell? ⟨g, 3, none⟩ = some (.slice a3 d.st.tals.length c3) ∧ w'.cell? ⟨w.heap.size, 1, none⟩ = some (.slice b1 p.st.clock.length e1) ∧ w'.cell? ⟨w.heap.size, 2, none⟩ = some (.slice b2 p.st.lives.length e2) ∧ w'.cell? ⟨w.heap.size, 3, none⟩ = some (.slice b3 p.st.tals.length e3)) := fun w' hg => ⟨(HX.out.below hg (nlr _)).get 1 rfl, (HX.out.below hg (nlr _)).get 2 rfl, (HX.out.below hg (nlr _)).get 3 rfl, (V0.out.below hg (nlr _)).get 1 rfl, (V0.out.below hg (nlr _)).get 2 rfl, (V0.out.below hg (nlr _)).get 3 rfl⟩
  obtain ⟨S, HS⟩ : ∃ S, Hid (joinX d.st p.st = S) := ⟨_, rfl⟩
  obtain ⟨Q, HQ⟩ : ∃ Q, Hid (joinE d.st p.st = Q) := ⟨_, rfl⟩
  rw [HQ.out] at hEq
  have HEq := hide hEq
  clear hw hEq
  go_enter Tryz.func80, Tryz.ntmps80
  go_upto_region 1 with fail
  rw [HW1.out]
  go_upto_region 3 with fail
  clear v0
  go_cut [5, 6] (fun c1 c2 wx => ∃ gs x1 y1 x2 y2 x3 y3, c1 = .pointer (some ⟨gs, 0, none⟩) ∧ c2 = .int .i64 Q ∧ Hid (Box wx gs [.slice x1 S.clock.length y1, .slice x2 S.lives.length y2, .slice x3 S.tals.length y3] 45) ∧ Hid (StOwn wx W1.heap.size (.agg #[.slice x1 S.clock.length y1, .slice x2 S.lives.length y2, .slice x3 S.tals.length y3]) S) ∧ Hid (Grew W1 wx) ∧ Hid (W1.heap.size ≤ gs))
  case first =>
   refine wp_region_held_drew (S := fun w' => w'.cell? ⟨g, 1, none⟩ = some (.slice a1 d.st.clock.length c1) ∧ w'.cell? ⟨g, 2, none⟩ = some (.slice a2 d.st.lives.length c2) ∧ w'.cell? ⟨g, 3, none⟩ = some (.slice a3 d.st.tals.length c3) ∧ w'.cell? ⟨w.heap.size, 1, none⟩ = some (.slice b1 p.st.clock.length e1) ∧ w'.cell? ⟨w.heap.size, 2, none⟩ = some (.slice b2 p.st.lives.length e2) ∧ w'.cell? ⟨w.heap.size, 3, none⟩ = some (.slice b3 p.st.tals.length e3)) (by kernel_rfl) (HK.out _ (grew_drew (grew_refl _))) (fun hHeld => ?_)
   obtain ⟨wd, HWD⟩ : ∃ wd, Hid (W1.drew = wd) := ⟨_, rfl⟩
   have hg0 : Grew W1 wd := by rw [← HWD.out]; exact grew_drew (grew_refl W1)
   rw [HWD.out] at hHeld ⊢
   refine ty 0 11 (.pointer (some ⟨g, 0, none⟩)) rfl rfl (by kernel_rfl) (fun _ _ _ h => h) rfl (by intro w hSw; (try dsimp only at hSw); go_simp) (by assumption) ?_
   simp only [Act.put, put1, put2, put3]
   refine ty 1 12 (.pointer (some ⟨g, 0, none⟩)) rfl rfl (by kernel_rfl) (fun _ _ _ h => h) rfl (by intro w hSw; (try dsimp only at hSw); go_simp) (by assumption) ?_
   simp only [Act.put, put1, put2, put3]
   refine ty 2 13 (.pointer (some ⟨g, 1, none⟩)) rfl rfl (by kernel_rfl) (fun _ _ _ h => h) rfl (by intro w hSw; (try dsimp only at hSw); go_simp) (by assumption) ?_
   simp only [Act.put, put1, put2, put3]
   refine ty 3 14 (.agg #[.slice a1 d.st.clock.length c1, .slice a2 d.st.lives.length c2, .slice a3 d.st.tals.length c3]) rfl rfl (by kernel_rfl) (fun _ _ _ h => h) rfl (by intro w hSw; (try dsimp only at hSw); go_simp) (by assumption) ?_
   simp only [Act.put, put1, put2, put3]
   refine ty 4 15 (.pointer (some ⟨w.heap.size, 1, none⟩)) rfl rfl (by kernel_rfl) (fun _ _ _ h => h) rfl (by intro w hSw; (try dsimp only at hSw); go_simp) (by assumption) ?_
   simp only [Act.put, put1, put2, put3]
   refine ty 5 16 (.agg #[.slice b1 p.st.clock.length e1, .slice b2 p.st.lives.length e2, .slice b3 p.st.tals.length e3]) rfl rfl (by kernel_rfl) (fun _ _ _ h => h) rfl (by intro w hSw; (try dsimp only at hSw); go_simp) (by assumption) ?_
   simp only [Act.put, put1, put2, put3]
   refine wpAnyH_ready (rs := [6, 10]) (by kernel_rfl) (by simp) ?_
   refine rdc rfl (fun K hK => ?_) (rd1 rfl (fun K hK => ?_))
   ·go_simp
    refine (join_state _ _ d.st p.st _ (HST.out.st.below hg0 (nlr _)) (HPS.out _ (HB0.out.trans (hg0.mono (by have := HSZ.out; omega)))).1).mono ?_
    rintro e w2 ⟨rv, rfl, ho2, hb2⟩
    rw [HQ.out]
    rw [HS.out] at ho2
    obtain ⟨x1, y1, x2, y2, x3, y3, hrv⟩ := ho2.formW
    subst hrv
    have hg2 : Grew W1 w2 := grew_step hg0 hb2
    refine hK.out _ _ (HK.out _ hg2) (fun hHeld2 => ?_)
    clear hK K
    try simp only [Act.put, put1, put2, put3]
    refine ty 7 10 (.tuple #[.agg #[.slice x1 S.clock.length y1, .slice x2 S.lives.length y2, .slice x3 S.tals.length y3], .int .i64 Q]) rfl rfl (by kernel_rfl) (fun _ _ _ h => h) rfl (by intro w hSw; (try dsimp only at hSw); go_simp) (by assumption) ?_
    simp only [Act.put, put1, put2, put3]
    refine ty 8 18 (.agg #[.slice x1 S.clock.length y1, .slice x2 S.lives.length y2, .slice x3 S.tals.length y3]) rfl rfl (by kernel_rfl) (fun _ _ _ h => h) rfl (by intro w hSw; (try dsimp only at hSw); go_simp) (by assumption) ?_
    simp only [Act.put, put1, put2, put3]
    refine ty 9 19 (.int .i64 Q) rfl rfl (by kernel_rfl) (fun _ _ _ h => h) rfl (by intro w hSw; (try dsimp only at hSw); go_simp) (by assumption) ?_
    simp only [Act.put, put1, put2, put3]
    obtain ⟨w3, hw3⟩ : ∃ w3, Hid (w2.alloc (.cells #[.slice none 0 0, .slice none 0 0, .slice none 0 0] 45) = w3) := ⟨_, rfl⟩
    have hbp : Below w2.heap.size w2 w3 := by rw [← hw3.out]; exact bpl w2 (.cells #[.slice none 0 0, .slice none 0 0, .slice none 0 0] 45)
    have bx : Box w3 w2.heap.size [.slice none 0 0, .slice none 0 0, .slice none 0 0] 45 := by rw [← hw3.out]; exact Box.new w2 [.slice none 0 0, .slice none 0 0, .slice none 0 0] 45
    have hg3 : Grew W1 w3 := grew_step hg2 hbp
    have hge : W1.heap.size ≤ w2.heap.size := hg2.size
    have ho3 := (ho2.base (C := W1.heap.size) (by have := hg0.size; omega)).below hbp (nlr _)
    refine wpAnyH_ready (rs := [10]) (by kernel_rfl) (by simp) ?_
    refine rd1 rfl (fun K hK => ?_)
    go_simp
    rw [hw3.out]
    refine hK.out _ _ (HK.out _ hg3) (fun hHeld3 => ?_)
    clear hK K
    try simp only [Act.put, put1, put2, put3]
    have c0 := bx.get 0 rfl
    have f0 := bx.free 0
    have c1' := bx.get 1 rfl
    have f1 := bx.free 1
    have c2' := bx.get 2 rfl
    have f2 := bx.free 2
    have bs := ((bx.set 0 (.slice x1 S.clock.length y1)).set 1 (.slice x2 S.lives.length y2)).set 2 (.slice x3 S.tals.length y3)
    have os := ((ho3.setT bx (by decide) (by decide) (by decide) 0 (.slice x1 S.clock.length y1)).setT (bx.set 0 (.slice x1 S.clock.length y1)) (by decide) (by decide) (by decide) 1 (.slice x2 S.lives.length y2)).setT ((bx.set 0 (.slice x1 S.clock.length y1)).set 1 (.slice x2 S.lives.length y2)) (by decide) (by decide) (by decide) 2 (.slice x3 S.tals.length y3)
    have hgs : Grew W1 (((w3.setCell ⟨w2.heap.size, 0, none⟩ (.slice x1 S.clock.length y1)).setCell ⟨w2.heap.size, 1, none⟩ (.slice x2 S.lives.length y2)).setCell ⟨w2.heap.size, 2, none⟩ (.slice x3 S.tals.length y3)) := ((Below.setCell hg3 (p := ⟨w2.heap.size, 0, none⟩) hge _).setCell (p := ⟨w2.heap.size, 1, none⟩) hge _).setCell (p := ⟨w2.heap.size, 2, none⟩) hge _
    refine wpAnyH_ready (rs := [11]) (by kernel_rfl) (by simp) ?_
    refine rd1 rfl (fun K hK => ?_)
    go_simp
    refine hK.out _ _ (HK.out _ hgs) (fun _ => ?_)
    clear hK K c0 c1' c2' f0 f1 f2
    try simp only [Act.put, put1, put2, put3]
    refine wpAnyH_ready (rs := [12]) (by kernel_rfl) (by simp) ?_
    refine rd1 rfl (fun K hK => ?_)
    go_simp
    refine hK.out _ _ (HK.out _ hgs) (fun _ => ?_)
    clear hK K
    try simp only [Act.put, put1, put2, put3]
    refine wpAnyH_done (by kernel_rfl) ?_ _
    go_wp2_with fail
    go_meet
    exact ⟨_, _, _, _, _, _, _, rfl, rfl, bs, os, hgs, hge⟩
   ·go_simp
    obtain ⟨w3, hw3⟩ : ∃ w3, Hid (wd.alloc (.cells #[.slice none 0 0, .slice none 0 0, .slice none 0 0] 45) = w3) := ⟨_, rfl⟩
    have hbp : Below wd.heap.size wd w3 := by rw [← hw3.out]; exact bpl wd (.cells #[.slice none 0 0, .slice none 0 0, .slice none 0 0] 45)
    have bx0 : Box w3 wd.heap.size [.slice none 0 0, .slice none 0 0, .slice none 0 0] 45 := by rw [← hw3.out]; exact Box.new wd [.slice none 0 0, .slice none 0 0, .slice none 0 0] 45
    have hg1 : Grew W1 w3 := grew_step hg0 hbp
    have hge : W1.heap.size ≤ wd.heap.size := hg0.size
    rw [hw3.out]
    refine hK.out _ _ (HK.out _ hg1) (fun hHeld3 => ?_)
    clear hK K
    try simp only [Act.put, put1, put2, put3]
    refine wpAnyH_ready (rs := [6]) (by kernel_rfl) (by simp) ?_
    refine rd1 rfl (fun K hK => ?_)
    go_simp
    refine (join_state _ _ d.st p.st _ (HST.out.st.below hg1 (nlr _)) (HPS.out _ (HB0.out.trans (hg1.mono (by have := HSZ.out; omega)))).1).mono ?_
    rintro e w2 ⟨rv, rfl, ho2, hb2⟩
    rw [HQ.out]
    rw [HS.out] at ho2
    obtain ⟨x1, y1, x2, y2, x3, y3, hrv⟩ := ho2.formW
    subst hrv
    have hg3 : Grew W1 w2 := grew_step hg1 hb2
    have bx := bx0.below hb2 (nlr _)
    have ho3 := ho2.base (C := W1.heap.size) (by have := hg1.size; omega)
    refine hK.out _ _ (HK.out _ hg3) (fun hHeld2 => ?_)
    clear hK K
    try simp only [Act.put, put1, put2, put3]
    refine ty 7 10 (.tuple #[.agg #[.slice x1 S.clock.length y1, .slice x2 S.lives.length y2, .slice x3 S.tals.length y3], .int .i64 Q]) rfl rfl (by kernel_rfl) (fun _ _ _ h => h) rfl (by intro w hSw; (try dsimp only at hSw); go_simp) (by assumption) ?_
    simp only [Act.put, put1, put2, put3]
    refine ty 8 18 (.agg #[.slice x1 S.clock.length y1, .slice x2 S.lives.length y2, .slice x3 S.tals.length y3]) rfl rfl (by kernel_rfl) (fun _ _ _ h => h) rfl (by intro w hSw; (try dsimp only at hSw); go_simp) (by assumption) ?_
    simp only [Act.put, put1, put2, put3]
    refine ty 9 19 (.int .i64 Q) rfl rfl (by kernel_rfl) (fun _ _ _ h => h) rfl (by intro w hSw; (try dsimp only at hSw); go_simp) (by assumption) ?_
    simp only [Act.put, put1, put2, put3]
    have c0 := bx.get 0 rfl
    have f0 := bx.free 0
    have c1' := bx.get 1 rfl
    have f1 := bx.free 1
    have c2' := bx.get 2 rfl
    have f2 := bx.free 2
    have bs := ((bx.set 0 (.slice x1 S.clock.length y1)).set 1 (.slice x2 S.lives.length y2)).set 2 (.slice x3 S.tals.length y3)
    have os := ((ho3.setT bx (by decide) (by decide) (by decide) 0 (.slice x1 S.clock.length y1)).setT (bx.set 0 (.slice x1 S.clock.length y1)) (by decide) (by decide) (by decide) 1 (.slice x2 S.lives.length y2)).setT ((bx.set 0 (.slice x1 S.clock.length y1)).set 1 (.slice x2 S.lives.length y2)) (by decide) (by decide) (by decide) 2 (.slice x3 S.tals.length y3)
    have hgs : Grew W1 (((w2.setCell ⟨wd.heap.size, 0, none⟩ (.slice x1 S.clock.length y1)).setCell ⟨wd.heap.size, 1, none⟩ (.slice x2 S.lives.length y2)).setCell ⟨wd.heap.size, 2, none⟩ (.slice x3 S.tals.length y3)) := ((Below.setCell hg3 (p := ⟨wd.heap.size, 0, none⟩) hge _).setCell (p := ⟨wd.heap.size, 1, none⟩) hge _).setCell (p := ⟨wd.heap.size, 2, none⟩) hge _
    refine wpAnyH_ready (rs := [11]) (by kernel_rfl) (by simp) ?_
    refine rd1 rfl (fun K hK => ?_)
    go_simp
    refine hK.out _ _ (HK.out _ hgs) (fun _ => ?_)
    clear hK K c0 c1' c2' f0 f1 f2
    try simp only [Act.put, put1, put2, put3]
    refine wpAnyH_ready (rs := [12]) (by kernel_rfl) (by simp) ?_
    refine rd1 rfl (fun K hK => ?_)
    go_simp
    refine hK.out _ _ (HK.out _ hgs) (fun _ => ?_)
    clear hK K
    try simp only [Act.put, put1, put2, put3]
    refine wpAnyH_done (by kernel_rfl) ?_ _
    go_wp2_with fail
    go_meet
    exact ⟨_, _, _, _, _, _, _, rfl, rfl, bs, os, hgs, hge⟩
  case rest =>
   obtain ⟨gs, x1, y1, x2, y2, x3, y3, rfl, rfl, BX, OS, HGR, HGE⟩ := hcut
   obtain ⟨w4, rfl⟩ : ∃ w4, w4 = wc := ⟨wc, rfl⟩
   have D4 := hide (HD.out.below HGR.out (nlr _))
   have X4 := hide (HX.out.below HGR.out (nlr _))
   have V4 := hide (V0.out.below HGR.out (nlr _))
   have HB4 : Hid (Below B w w4) := HB0.out.trans (HGR.out.mono (by have := HSZ.out; omega))
   have hsz := HSZ.out
   have hge := HGE.out
   have n1 : ¬ (gs = g) := by omega
   have n2 : ¬ (g = gs) := by omega
   have n3 : ¬ (w.heap.size = g) := by omega
   have n4 : ¬ (g = w.heap.size) := by omega
   clear HK HD HX V0 HST
   by_cases h2 : Q = 0
   ·have h2' : (Q != 0) = false := by simp [h2]
    have hE0 : E = 0 := by rw [← HEq.out]; exact h2
    subst hE0
    have hYd : Hid (forgetN ⟨d.self, S, d.base, d.log, d.known⟩ p.st.clock = Y) := by unfold Hid; rw [← HY.out, ← HS.out]; unfold tstV; rw [if_pos HE.out]; unfold tstX; rw [if_pos HWH.out]
    have hcl : Hid (p.st.clock.length ≤ 6) := by
     obtain ⟨-, jb⟩ := joinE_zero.1 (by rw [HQ.out]; exact h2)
     have := goodC_iff.1 jb.clock
     unfold Hid
     omega
    clear h2
    have z0 := BX.out.get 0 rfl
    have z1 := BX.out.get 1 rfl
    have z2 := BX.out.get 2 rfl
    have g1 := X4.out.get 1 rfl
    have g2 := X4.out.get 2 rfl
    have g3 := X4.out.get 3 rfl
    have f1 := X4.out.free 1
    have f2 := X4.out.free 2
    have f3 := X4.out.free 3
    have v1 := V4.out.get 1 rfl
    have D5 := D4.out.setSt (OS.out.base (C := B) (by omega))
    have HB5 := ((HB4.out.setCell (p := ⟨g, 1, none⟩) hgl.2 (.slice x1 S.clock.length y1)).setCell (p := ⟨g, 2, none⟩) hgl.2 (.slice x2 S.lives.length y2)).setCell (p := ⟨g, 3, none⟩) hgl.2 (.slice x3 S.tals.length y3)
    have HD5 := hide D5
    have HHB5 := hide HB5
    clear D5 HB5
    go_wp2_with fail
    refine (forget_node B g _ ⟨d.self, S, d.base, d.log, d.known⟩ p.st.clock _ HD5.out (HPS.out _ HHB5.out).2 hcl.out hbl hsm hfew).mono ?_
    rintro e w5 ⟨rfl, hn5, hb5⟩
    rw [hYd.out] at hn5
    have HN5 := hide hn5
    have HB6 := hide (HHB5.out.trans hb5)
    clear hn5 hb5 z0 z1 z2 g1 g2 g3 f1 f2 f3 v1
    go_wp2_with fail
    go_ret
    exact ⟨rfl, HN5.out, HB6.out⟩
   ·have h2' : (Q != 0) = true := by simp [h2]
    have hE0 : Q = E := HEq.out
    have hYd : d = Y := by rw [← HY.out]; unfold tstV; rw [if_neg (by rw [HE.out, ← hE0]; exact h2)]
    subst hYd
    subst hE0
    clear h2
    go_wp2_with fail
    go_ret
    exact ⟨rfl, D4.out, HB4.out⟩
end Go.Proofs.YtihedgnachophaaGreat
