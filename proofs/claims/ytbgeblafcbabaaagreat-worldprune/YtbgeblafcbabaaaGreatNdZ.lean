/- node.Start. -/
import Derived.Test.YtbgeblafcbabaaaGreatNdX
import Derived.Test.YtbgeblafcbabaaaGreatNdPure
namespace Go.Proofs.YtbgeblafcbabaaaGreat
open Go.RowKit

theorem kn_made (w : World) (B : Nat) {k : Nat} (hk : k ≤ 6) (hB : B ≤ w.heap.size) : KnOf (w.alloc (.cells (madeCells #[.slice none 0 0] k) 37)) B (.slice (some ⟨w.heap.size, 0, none⟩) k k) (List.replicate k []) := by
 have hb : Box (w.alloc (.cells (madeCells #[.slice none 0 0] k) 37)) w.heap.size (List.replicate k (.slice none 0 0)) 37 := by
  rw [made_known k hk]
  exact Box.new w _ _
 refine ⟨List.replicate k ([], .slice none 0 0), ⟨?_, fun q hq => ?_⟩, by simp⟩
 ·have h := ownsRow_blockK hb hB (n := k) (by simp) (by unfold maxLen; omega)
  simpa using h
 ·rw [List.eq_of_mem_replicate hq]
  exact own_none _ _
theorem set_rep {α : Type} {a b : α} {m k : Nat} (h : m < k) : (List.replicate m a ++ List.replicate (k - m) b).set m a = List.replicate (m + 1) a ++ List.replicate (k - (m + 1)) b := by
 obtain ⟨r, hr⟩ : ∃ r, k - m = r + 1 := ⟨k - m - 1, by omega⟩
 rw [hr, show k - (m + 1) = r by omega, List.set_append_right _ _ (by simp), List.replicate_succ (n := r), List.replicate_succ' (n := m)]
 simp
/-- A variable that is laid, and set then. -/
theorem NdV.fill {w : World} {B g : Nat} {i : Int} {x0 x1 x2 x3 x4 x5 x6 c l t b u kk : Value} {s : StS} {xs : List Int} {lg : List Upd} {ks : List (List Int)} (hb : Box w g [x0, x1, x2, x3, x4, x5, x6] 44) (hg : B ≤ g) (hs : StOwn w B (.agg #[c, l, t]) s) (h2 : Own w B b xs) (h3 : LogOf w B u lg) (h4 : KnOf w B kk ks) :
  NdV (((((((w.setCell ⟨g, 0, none⟩ (.int .i64 i)).setCell ⟨g, 1, none⟩ (c)).setCell ⟨g, 2, none⟩ (l)).setCell ⟨g, 3, none⟩ (t)).setCell ⟨g, 4, none⟩ (b)).setCell ⟨g, 5, none⟩ (u)).setCell ⟨g, 6, none⟩ (kk)) B g ⟨i, s, xs, lg, ks⟩ := by
 have kb_0 := hb.set 0 (.int .i64 i)
 have ks_0 := hs.setT hb (by decide) (by decide) (by decide) 0 (.int .i64 i)
 have k2_0 := h2.setT hb (by decide) 0 (.int .i64 i)
 have k3_0 := h3.setT hb (by decide) (by decide) 0 (.int .i64 i)
 have k4_0 := h4.setT hb (by decide) (by decide) 0 (.int .i64 i)
 have kb_1 := kb_0.set 1 (c)
 have ks_1 := ks_0.setT kb_0 (by decide) (by decide) (by decide) 1 (c)
 have k2_1 := k2_0.setT kb_0 (by decide) 1 (c)
 have k3_1 := k3_0.setT kb_0 (by decide) (by decide) 1 (c)
 have k4_1 := k4_0.setT kb_0 (by decide) (by decide) 1 (c)
 have kb_2 := kb_1.set 2 (l)
 have ks_2 := ks_1.setT kb_1 (by decide) (by decide) (by decide) 2 (l)
 have k2_2 := k2_1.setT kb_1 (by decide) 2 (l)
 have k3_2 := k3_1.setT kb_1 (by decide) (by decide) 2 (l)
 have k4_2 := k4_1.setT kb_1 (by decide) (by decide) 2 (l)
 have kb_3 := kb_2.set 3 (t)
 have ks_3 := ks_2.setT kb_2 (by decide) (by decide) (by decide) 3 (t)
 have k2_3 := k2_2.setT kb_2 (by decide) 3 (t)
 have k3_3 := k3_2.setT kb_2 (by decide) (by decide) 3 (t)
 have k4_3 := k4_2.setT kb_2 (by decide) (by decide) 3 (t)
 have kb_4 := kb_3.set 4 (b)
 have ks_4 := ks_3.setT kb_3 (by decide) (by decide) (by decide) 4 (b)
 have k2_4 := k2_3.setT kb_3 (by decide) 4 (b)
 have k3_4 := k3_3.setT kb_3 (by decide) (by decide) 4 (b)
 have k4_4 := k4_3.setT kb_3 (by decide) (by decide) 4 (b)
 have kb_5 := kb_4.set 5 (u)
 have ks_5 := ks_4.setT kb_4 (by decide) (by decide) (by decide) 5 (u)
 have k2_5 := k2_4.setT kb_4 (by decide) 5 (u)
 have k3_5 := k3_4.setT kb_4 (by decide) (by decide) 5 (u)
 have k4_5 := k4_4.setT kb_4 (by decide) (by decide) 5 (u)
 have kb_6 := kb_5.set 6 (kk)
 have ks_6 := ks_5.setT kb_5 (by decide) (by decide) (by decide) 6 (kk)
 have k2_6 := k2_5.setT kb_5 (by decide) 6 (kk)
 have k3_6 := k3_5.setT kb_5 (by decide) (by decide) 6 (kk)
 have k4_6 := k4_5.setT kb_5 (by decide) (by decide) 6 (kk)
 exact ⟨_, _, _, _, _, _, kb_6, hg, ks_6, k2_6, k3_6, k4_6⟩

set_option maxRecDepth 100000 in
set_option maxHeartbeats 8000000 in
theorem start_node (i n : Int) (w : World) :
  Calls Tryz.prog 57 #[.int .i64 i, .int .i64 n] w fun e w' => ∃ rv, e = .returned (.tuple #[rv, .int .i64 (startE i n)]) ∧ NodeO w' (w.heap.size + 1) rv (startX i n) ∧ Below w.heap.size w w' := by
 have hb1 := Below.plus (Below.refl w.heap.size w) (.cells #[.int .i64 0, .slice none 0 0, .slice none 0 0, .slice none 0 0, .slice none 0 0, .slice none 0 0, .slice none 0 0] 44)
 have R0 := hide (Box.new w [.int .i64 0, .slice none 0 0, .slice none 0 0, .slice none 0 0, .slice none 0 0, .slice none 0 0, .slice none 0 0] 44)
 have HB0 := hide hb1
 clear hb1
 obtain ⟨W1, HW1⟩ : ∃ W1, Hid (w.alloc (.cells #[.int .i64 0, .slice none 0 0, .slice none 0 0, .slice none 0 0, .slice none 0 0, .slice none 0 0, .slice none 0 0] 44) = W1) := ⟨_, rfl⟩
 have hsz : Hid (W1.heap.size = w.heap.size + 1) := by unfold Hid; rw [← HW1.out, World.size_alloc]
 rw [HW1.out] at R0 HB0
 obtain ⟨E, HE⟩ : ∃ E, Hid (startE i n = E) := ⟨_, rfl⟩
 obtain ⟨X, HX⟩ : ∃ X, Hid (startX i n = X) := ⟨_, rfl⟩
 have HXB : Hid (¬ E = 0 → X = noNode) := fun hne => by rw [← HX.out]; unfold startX; rw [if_neg (by rw [HE.out]; exact hne)]
 rw [HE.out, HX.out]
 by_cases hn1 : 1 ≤ n
 ·by_cases hn6 : n ≤ 6
  ·obtain ⟨k, hk⟩ : ∃ k : Nat, n = k := ⟨n.toNat, by omega⟩
   subst hk
   have hk6 : k ≤ 6 := by omega
   have hk1 : 1 ≤ k := by omega
   have hc1 : ¬ ((k : Int) < 1) := by omega
   have hc6 : ¬ ((k : Int) > 6) := by omega
   have hc6' : ¬ (6 < (k : Int)) := by omega
   have hmk := fun w : World => run_make_clock hk6 w
   have hmn := fun w : World => run_make_known hk6 w
   obtain ⟨cs, HCS⟩ : ∃ cs, Hid (madeCells #[.int .i64 0] k = cs) := ⟨_, rfl⟩
   obtain ⟨ns, HNS⟩ : ∃ ns, Hid (madeCells #[.slice none 0 0] k = ns) := ⟨_, rfl⟩
   rw [HCS.out] at hmk
   rw [HNS.out] at hmn
   have hoz := hide (fun (w : World) (hB : W1.heap.size ≤ w.heap.size) => own_zero w W1.heap.size hk6 hB)
   have hkz := hide (fun (w : World) (hB : W1.heap.size ≤ w.heap.size) => kn_made w W1.heap.size hk6 hB)
   rw [HCS.out] at hoz
   rw [HNS.out] at hkz
   obtain ⟨S, HS⟩ : ∃ S, Hid ((⟨zeroC k, [], []⟩ : StS) = S) := ⟨_, rfl⟩
   have hst := hide (fun w : World => start_any hk6 w)
   rw [HS.out] at hst
   have HE1 : Hid ((if 0 ≤ i ∧ i < (k : Int) then 0 else 3) = E) := by unfold Hid; rw [← HE.out]; unfold startE; exact (if_pos (⟨hn1, hn6⟩ : (1 : Int) ≤ (k : Int) ∧ (k : Int) ≤ 6)).symm
   clear hn1 hn6
   go_enter Tryz.func57, Tryz.ntmps57
   go_upto_region 1 with fail
   rw [HW1.out]
   go_upto_region 3 with fail
   go_cut [6] (fun c wx => ∃ gd, c = .pointer (some ⟨gd, 0, none⟩) ∧ Hid (NdV wx W1.heap.size gd ⟨i, S, zeroC k, [], List.replicate k []⟩) ∧ Hid (Grew W1 wx))
   case first =>
    refine wp_region_held_drew (S := fun _ => True) (by kernel_rfl) trivial (fun hHeld => ?_)
    obtain ⟨wd, HWD⟩ : ∃ wd, Hid (W1.drew = wd) := ⟨_, rfl⟩
    have hg_ : Grew W1 wd := by rw [← HWD.out]; exact grew_drew (grew_refl W1)
    rw [HWD.out]
    refine take_yes 0 15 (.int .i64 i) rfl rfl (by kernel_rfl) (by kernel_rfl) (by kernel_rfl) (fun _ _ _ h => h) rfl (by intro w hSw; (try dsimp only at hSw); go_simp) (by assumption) ?_
    simp only [Act.put, put1, put2, put3]
    refine take_yes 1 16 (.int .i64 (k : Int)) rfl rfl (by kernel_rfl) (by kernel_rfl) (by kernel_rfl) (fun _ _ _ h => h) rfl (by intro w hSw; (try dsimp only at hSw); go_simp) (by assumption) ?_
    simp only [Act.put, put1, put2, put3]
    refine take_yes 3 18 (.int .i64 (k : Int)) rfl rfl (by kernel_rfl) (by kernel_rfl) (by kernel_rfl) (fun _ _ _ h => h) rfl (by intro w hSw; (try dsimp only at hSw); go_simp) (by assumption) ?_
    simp only [Act.put, put1, put2, put3]
    refine take_yes 5 20 (.int .i64 (k : Int)) rfl rfl (by kernel_rfl) (by kernel_rfl) (by kernel_rfl) (fun _ _ _ h => h) rfl (by intro w hSw; (try dsimp only at hSw); go_simp) (by assumption) ?_
    simp only [Act.put, put1, put2, put3]
    refine wpAnyH_ready (rs := [2, 4, 6, 8]) (by kernel_rfl) (by simp) ?_
    refine (AllReadyH.cons (o := _) rfl (fun K hK => ?_) (AllReadyH.cons (o := _) rfl (fun K hK => ?_) (AllReadyH.cons (o := _) rfl (fun K hK => ?_) (AllReadyH.cons (o := _) rfl (fun K hK => ?_) AllReadyH.nil))))
    ·go_simp
     refine (hst.out _).mono ?_
     rintro e w_2 ⟨rv_2, rfl, ho_2, hb_2⟩
     obtain ⟨x1_2, y1_2, x2_2, y2_2, x3_2, y3_2, hrv⟩ := ho_2.formW
     subst hrv
     have hst_2 := ho_2.base (C := W1.heap.size) hg_.size
     have hg_2 : Grew W1 w_2 := grew_step hg_ hb_2
     refine hK.out _ _ trivial (fun _ => ?_)
     clear hK K
     try simp only [Act.put, put1, put2, put3]
     refine wpAnyH_ready (rs := [4, 6, 8]) (by kernel_rfl) (by simp) ?_
     refine (AllReadyH.cons (o := _) rfl (fun K hK => ?_) (AllReadyH.cons (o := _) rfl (fun K hK => ?_) (AllReadyH.cons (o := _) rfl (fun K hK => ?_) AllReadyH.nil)))
     ·go_simp
      have hb_2_4 := Below.plus (Below.refl w_2.heap.size w_2) (.cells cs 3)
      have ha_2_4 := hoz.out w_2 hg_2.size
      obtain ⟨w_2_4, HW_2_4⟩ : ∃ wn, Hid (w_2.alloc (.cells cs 3) = wn) := ⟨_, rfl⟩
      rw [HW_2_4.out] at hb_2_4 ha_2_4 ⊢
      have hg_2_4 : Grew W1 w_2_4 := grew_step hg_2 hb_2_4
      have q2_2_4 := hst_2.below hb_2_4 (nlr _)
      refine hK.out _ _ trivial (fun _ => ?_)
      clear hK K
      try simp only [Act.put, put1, put2, put3]
      refine wpAnyH_ready (rs := [6, 8]) (by kernel_rfl) (by simp) ?_
      refine (AllReadyH.cons (o := _) rfl (fun K hK => ?_) (AllReadyH.cons (o := _) rfl (fun K hK => ?_) AllReadyH.nil))
      ·go_simp
       have hb_2_4_6 := Below.plus (Below.refl w_2_4.heap.size w_2_4) (.cells ns 37)
       have hk_2_4_6 := hkz.out w_2_4 hg_2_4.size
       obtain ⟨w_2_4_6, HW_2_4_6⟩ : ∃ wn, Hid (w_2_4.alloc (.cells ns 37) = wn) := ⟨_, rfl⟩
       rw [HW_2_4_6.out] at hb_2_4_6 hk_2_4_6 ⊢
       have hg_2_4_6 : Grew W1 w_2_4_6 := grew_step hg_2_4 hb_2_4_6
       have q2_2_4_6 := q2_2_4.below hb_2_4_6 (nlr _)
       have q4_2_4_6 := ha_2_4.below hb_2_4_6 (nlr _)
       refine hK.out _ _ trivial (fun _ => ?_)
       clear hK K
       try simp only [Act.put, put1, put2, put3]
       refine take_yes 7 22 (.agg #[.int .i64 i, .slice x1_2 S.clock.length y1_2, .slice x2_2 S.lives.length y2_2, .slice x3_2 S.tals.length y3_2, .slice (some ⟨w_2.heap.size, 0, none⟩) k k, .slice none 0 0, .slice (some ⟨w_2_4.heap.size, 0, none⟩) k k]) rfl rfl (by kernel_rfl) (by kernel_rfl) (by kernel_rfl) (fun _ _ _ h => h) rfl (by intro w hSw; (try dsimp only at hSw); go_simp) (by assumption) ?_
       simp only [Act.put, put1, put2, put3]
       refine wpAnyH_ready (rs := [8]) (by kernel_rfl) (by simp) ?_
       refine (AllReadyH.cons (o := _) rfl (fun K hK => ?_) AllReadyH.nil)
       ·go_simp
        have hb_2_4_6_8 := Below.plus (Below.refl w_2_4_6.heap.size w_2_4_6) (.cells #[.int .i64 0, .slice none 0 0, .slice none 0 0, .slice none 0 0, .slice none 0 0, .slice none 0 0, .slice none 0 0] 44)
        have hx_2_4_6_8 := Box.new w_2_4_6 [.int .i64 0, .slice none 0 0, .slice none 0 0, .slice none 0 0, .slice none 0 0, .slice none 0 0, .slice none 0 0] 44
        obtain ⟨w_2_4_6_8, HW_2_4_6_8⟩ : ∃ wn, Hid (w_2_4_6.alloc (.cells #[.int .i64 0, .slice none 0 0, .slice none 0 0, .slice none 0 0, .slice none 0 0, .slice none 0 0, .slice none 0 0] 44) = wn) := ⟨_, rfl⟩
        rw [HW_2_4_6_8.out] at hb_2_4_6_8 hx_2_4_6_8 ⊢
        have hg_2_4_6_8 : Grew W1 w_2_4_6_8 := grew_step hg_2_4_6 hb_2_4_6_8
        have q2_2_4_6_8 := q2_2_4_6.below hb_2_4_6_8 (nlr _)
        have q4_2_4_6_8 := q4_2_4_6.below hb_2_4_6_8 (nlr _)
        have q6_2_4_6_8 := hk_2_4_6.below hb_2_4_6_8 (nlr _)
        refine hK.out _ _ trivial (fun _ => ?_)
        clear hK K
        try simp only [Act.put, put1, put2, put3]
        have hge : W1.heap.size ≤ w_2_4_6.heap.size := hg_2_4_6.size
        have hN := NdV.fill (i := i) hx_2_4_6_8 hge q2_2_4_6_8 q4_2_4_6_8 (LogOf.nil _ _) q6_2_4_6_8
        have c0 := hx_2_4_6_8.get 0 rfl
        have f0 := hx_2_4_6_8.free 0
        have c1 := hx_2_4_6_8.get 1 rfl
        have f1 := hx_2_4_6_8.free 1
        have c2 := hx_2_4_6_8.get 2 rfl
        have f2 := hx_2_4_6_8.free 2
        have c3 := hx_2_4_6_8.get 3 rfl
        have f3 := hx_2_4_6_8.free 3
        have c4 := hx_2_4_6_8.get 4 rfl
        have f4 := hx_2_4_6_8.free 4
        have c5 := hx_2_4_6_8.get 5 rfl
        have f5 := hx_2_4_6_8.free 5
        have c6 := hx_2_4_6_8.get 6 rfl
        have f6 := hx_2_4_6_8.free 6
        have hGG : Grew W1 _ := (Below.setCell (Below.setCell (Below.setCell (Below.setCell (Below.setCell (Below.setCell (Below.setCell hg_2_4_6_8 (p := ⟨w_2_4_6.heap.size, 0, none⟩) hge (.int .i64 i)) (p := ⟨w_2_4_6.heap.size, 1, none⟩) hge (.slice x1_2 S.clock.length y1_2)) (p := ⟨w_2_4_6.heap.size, 2, none⟩) hge (.slice x2_2 S.lives.length y2_2)) (p := ⟨w_2_4_6.heap.size, 3, none⟩) hge (.slice x3_2 S.tals.length y3_2)) (p := ⟨w_2_4_6.heap.size, 4, none⟩) hge (.slice (some ⟨w_2.heap.size, 0, none⟩) k k)) (p := ⟨w_2_4_6.heap.size, 5, none⟩) hge (.slice none 0 0)) (p := ⟨w_2_4_6.heap.size, 6, none⟩) hge (.slice (some ⟨w_2_4.heap.size, 0, none⟩) k k))
        refine wpAnyH_ready (rs := [9]) (by kernel_rfl) (by simp) ?_
        refine AllReadyH.cons (o := _) rfl (fun K hK => ?_) AllReadyH.nil
        go_simp
        refine hK.out _ _ trivial (fun _ => ?_)
        clear hK K
        try simp only [Act.put, put1, put2, put3]
        refine wpAnyH_done (by kernel_rfl) ?_ _
        go_wp2_with fail
        go_meet
        exact ⟨_, rfl, hN, hGG⟩
      ·go_simp
       have hb_2_4_8 := Below.plus (Below.refl w_2_4.heap.size w_2_4) (.cells #[.int .i64 0, .slice none 0 0, .slice none 0 0, .slice none 0 0, .slice none 0 0, .slice none 0 0, .slice none 0 0] 44)
       have hx_2_4_8 := Box.new w_2_4 [.int .i64 0, .slice none 0 0, .slice none 0 0, .slice none 0 0, .slice none 0 0, .slice none 0 0, .slice none 0 0] 44
       obtain ⟨w_2_4_8, HW_2_4_8⟩ : ∃ wn, Hid (w_2_4.alloc (.cells #[.int .i64 0, .slice none 0 0, .slice none 0 0, .slice none 0 0, .slice none 0 0, .slice none 0 0, .slice none 0 0] 44) = wn) := ⟨_, rfl⟩
       rw [HW_2_4_8.out] at hb_2_4_8 hx_2_4_8 ⊢
       have hg_2_4_8 : Grew W1 w_2_4_8 := grew_step hg_2_4 hb_2_4_8
       have q2_2_4_8 := q2_2_4.below hb_2_4_8 (nlr _)
       have q4_2_4_8 := ha_2_4.below hb_2_4_8 (nlr _)
       refine hK.out _ _ trivial (fun _ => ?_)
       clear hK K
       try simp only [Act.put, put1, put2, put3]
       refine wpAnyH_ready (rs := [6]) (by kernel_rfl) (by simp) ?_
       refine (AllReadyH.cons (o := _) rfl (fun K hK => ?_) AllReadyH.nil)
       ·go_simp
        have hb_2_4_8_6 := Below.plus (Below.refl w_2_4_8.heap.size w_2_4_8) (.cells ns 37)
        have hk_2_4_8_6 := hkz.out w_2_4_8 hg_2_4_8.size
        obtain ⟨w_2_4_8_6, HW_2_4_8_6⟩ : ∃ wn, Hid (w_2_4_8.alloc (.cells ns 37) = wn) := ⟨_, rfl⟩
        rw [HW_2_4_8_6.out] at hb_2_4_8_6 hk_2_4_8_6 ⊢
        have hg_2_4_8_6 : Grew W1 w_2_4_8_6 := grew_step hg_2_4_8 hb_2_4_8_6
        have q2_2_4_8_6 := q2_2_4_8.below hb_2_4_8_6 (nlr _)
        have q4_2_4_8_6 := q4_2_4_8.below hb_2_4_8_6 (nlr _)
        have q8_2_4_8_6 := hx_2_4_8.below hb_2_4_8_6 (nlr _)
        refine hK.out _ _ trivial (fun _ => ?_)
        clear hK K
        try simp only [Act.put, put1, put2, put3]
        refine take_yes 7 22 (.agg #[.int .i64 i, .slice x1_2 S.clock.length y1_2, .slice x2_2 S.lives.length y2_2, .slice x3_2 S.tals.length y3_2, .slice (some ⟨w_2.heap.size, 0, none⟩) k k, .slice none 0 0, .slice (some ⟨w_2_4_8.heap.size, 0, none⟩) k k]) rfl rfl (by kernel_rfl) (by kernel_rfl) (by kernel_rfl) (fun _ _ _ h => h) rfl (by intro w hSw; (try dsimp only at hSw); go_simp) (by assumption) ?_
        simp only [Act.put, put1, put2, put3]
        have hge : W1.heap.size ≤ w_2_4.heap.size := hg_2_4.size
        have hN := NdV.fill (i := i) q8_2_4_8_6 hge q2_2_4_8_6 q4_2_4_8_6 (LogOf.nil _ _) hk_2_4_8_6
        have c0 := q8_2_4_8_6.get 0 rfl
        have f0 := q8_2_4_8_6.free 0
        have c1 := q8_2_4_8_6.get 1 rfl
        have f1 := q8_2_4_8_6.free 1
        have c2 := q8_2_4_8_6.get 2 rfl
        have f2 := q8_2_4_8_6.free 2
        have c3 := q8_2_4_8_6.get 3 rfl
        have f3 := q8_2_4_8_6.free 3
        have c4 := q8_2_4_8_6.get 4 rfl
        have f4 := q8_2_4_8_6.free 4
        have c5 := q8_2_4_8_6.get 5 rfl
        have f5 := q8_2_4_8_6.free 5
        have c6 := q8_2_4_8_6.get 6 rfl
        have f6 := q8_2_4_8_6.free 6
        have hGG : Grew W1 _ := (Below.setCell (Below.setCell (Below.setCell (Below.setCell (Below.setCell (Below.setCell (Below.setCell hg_2_4_8_6 (p := ⟨w_2_4.heap.size, 0, none⟩) hge (.int .i64 i)) (p := ⟨w_2_4.heap.size, 1, none⟩) hge (.slice x1_2 S.clock.length y1_2)) (p := ⟨w_2_4.heap.size, 2, none⟩) hge (.slice x2_2 S.lives.length y2_2)) (p := ⟨w_2_4.heap.size, 3, none⟩) hge (.slice x3_2 S.tals.length y3_2)) (p := ⟨w_2_4.heap.size, 4, none⟩) hge (.slice (some ⟨w_2.heap.size, 0, none⟩) k k)) (p := ⟨w_2_4.heap.size, 5, none⟩) hge (.slice none 0 0)) (p := ⟨w_2_4.heap.size, 6, none⟩) hge (.slice (some ⟨w_2_4_8.heap.size, 0, none⟩) k k))
        refine wpAnyH_ready (rs := [9]) (by kernel_rfl) (by simp) ?_
        refine AllReadyH.cons (o := _) rfl (fun K hK => ?_) AllReadyH.nil
        go_simp
        refine hK.out _ _ trivial (fun _ => ?_)
        clear hK K
        try simp only [Act.put, put1, put2, put3]
        refine wpAnyH_done (by kernel_rfl) ?_ _
        go_wp2_with fail
        go_meet
        exact ⟨_, rfl, hN, hGG⟩
     ·go_simp
      have hb_2_6 := Below.plus (Below.refl w_2.heap.size w_2) (.cells ns 37)
      have hk_2_6 := hkz.out w_2 hg_2.size
      obtain ⟨w_2_6, HW_2_6⟩ : ∃ wn, Hid (w_2.alloc (.cells ns 37) = wn) := ⟨_, rfl⟩
      rw [HW_2_6.out] at hb_2_6 hk_2_6 ⊢
      have hg_2_6 : Grew W1 w_2_6 := grew_step hg_2 hb_2_6
      have q2_2_6 := hst_2.below hb_2_6 (nlr _)
      refine hK.out _ _ trivial (fun _ => ?_)
      clear hK K
      try simp only [Act.put, put1, put2, put3]
      refine wpAnyH_ready (rs := [4, 8]) (by kernel_rfl) (by simp) ?_
      refine (AllReadyH.cons (o := _) rfl (fun K hK => ?_) (AllReadyH.cons (o := _) rfl (fun K hK => ?_) AllReadyH.nil))
      ·go_simp
       have hb_2_6_4 := Below.plus (Below.refl w_2_6.heap.size w_2_6) (.cells cs 3)
       have ha_2_6_4 := hoz.out w_2_6 hg_2_6.size
       obtain ⟨w_2_6_4, HW_2_6_4⟩ : ∃ wn, Hid (w_2_6.alloc (.cells cs 3) = wn) := ⟨_, rfl⟩
       rw [HW_2_6_4.out] at hb_2_6_4 ha_2_6_4 ⊢
       have hg_2_6_4 : Grew W1 w_2_6_4 := grew_step hg_2_6 hb_2_6_4
       have q2_2_6_4 := q2_2_6.below hb_2_6_4 (nlr _)
       have q6_2_6_4 := hk_2_6.below hb_2_6_4 (nlr _)
       refine hK.out _ _ trivial (fun _ => ?_)
       clear hK K
       try simp only [Act.put, put1, put2, put3]
       refine take_yes 7 22 (.agg #[.int .i64 i, .slice x1_2 S.clock.length y1_2, .slice x2_2 S.lives.length y2_2, .slice x3_2 S.tals.length y3_2, .slice (some ⟨w_2_6.heap.size, 0, none⟩) k k, .slice none 0 0, .slice (some ⟨w_2.heap.size, 0, none⟩) k k]) rfl rfl (by kernel_rfl) (by kernel_rfl) (by kernel_rfl) (fun _ _ _ h => h) rfl (by intro w hSw; (try dsimp only at hSw); go_simp) (by assumption) ?_
       simp only [Act.put, put1, put2, put3]
       refine wpAnyH_ready (rs := [8]) (by kernel_rfl) (by simp) ?_
       refine (AllReadyH.cons (o := _) rfl (fun K hK => ?_) AllReadyH.nil)
       ·go_simp
        have hb_2_6_4_8 := Below.plus (Below.refl w_2_6_4.heap.size w_2_6_4) (.cells #[.int .i64 0, .slice none 0 0, .slice none 0 0, .slice none 0 0, .slice none 0 0, .slice none 0 0, .slice none 0 0] 44)
        have hx_2_6_4_8 := Box.new w_2_6_4 [.int .i64 0, .slice none 0 0, .slice none 0 0, .slice none 0 0, .slice none 0 0, .slice none 0 0, .slice none 0 0] 44
        obtain ⟨w_2_6_4_8, HW_2_6_4_8⟩ : ∃ wn, Hid (w_2_6_4.alloc (.cells #[.int .i64 0, .slice none 0 0, .slice none 0 0, .slice none 0 0, .slice none 0 0, .slice none 0 0, .slice none 0 0] 44) = wn) := ⟨_, rfl⟩
        rw [HW_2_6_4_8.out] at hb_2_6_4_8 hx_2_6_4_8 ⊢
        have hg_2_6_4_8 : Grew W1 w_2_6_4_8 := grew_step hg_2_6_4 hb_2_6_4_8
        have q2_2_6_4_8 := q2_2_6_4.below hb_2_6_4_8 (nlr _)
        have q4_2_6_4_8 := ha_2_6_4.below hb_2_6_4_8 (nlr _)
        have q6_2_6_4_8 := q6_2_6_4.below hb_2_6_4_8 (nlr _)
        refine hK.out _ _ trivial (fun _ => ?_)
        clear hK K
        try simp only [Act.put, put1, put2, put3]
        have hge : W1.heap.size ≤ w_2_6_4.heap.size := hg_2_6_4.size
        have hN := NdV.fill (i := i) hx_2_6_4_8 hge q2_2_6_4_8 q4_2_6_4_8 (LogOf.nil _ _) q6_2_6_4_8
        have c0 := hx_2_6_4_8.get 0 rfl
        have f0 := hx_2_6_4_8.free 0
        have c1 := hx_2_6_4_8.get 1 rfl
        have f1 := hx_2_6_4_8.free 1
        have c2 := hx_2_6_4_8.get 2 rfl
        have f2 := hx_2_6_4_8.free 2
        have c3 := hx_2_6_4_8.get 3 rfl
        have f3 := hx_2_6_4_8.free 3
        have c4 := hx_2_6_4_8.get 4 rfl
        have f4 := hx_2_6_4_8.free 4
        have c5 := hx_2_6_4_8.get 5 rfl
        have f5 := hx_2_6_4_8.free 5
        have c6 := hx_2_6_4_8.get 6 rfl
        have f6 := hx_2_6_4_8.free 6
        have hGG : Grew W1 _ := (Below.setCell (Below.setCell (Below.setCell (Below.setCell (Below.setCell (Below.setCell (Below.setCell hg_2_6_4_8 (p := ⟨w_2_6_4.heap.size, 0, none⟩) hge (.int .i64 i)) (p := ⟨w_2_6_4.heap.size, 1, none⟩) hge (.slice x1_2 S.clock.length y1_2)) (p := ⟨w_2_6_4.heap.size, 2, none⟩) hge (.slice x2_2 S.lives.length y2_2)) (p := ⟨w_2_6_4.heap.size, 3, none⟩) hge (.slice x3_2 S.tals.length y3_2)) (p := ⟨w_2_6_4.heap.size, 4, none⟩) hge (.slice (some ⟨w_2_6.heap.size, 0, none⟩) k k)) (p := ⟨w_2_6_4.heap.size, 5, none⟩) hge (.slice none 0 0)) (p := ⟨w_2_6_4.heap.size, 6, none⟩) hge (.slice (some ⟨w_2.heap.size, 0, none⟩) k k))
        refine wpAnyH_ready (rs := [9]) (by kernel_rfl) (by simp) ?_
        refine AllReadyH.cons (o := _) rfl (fun K hK => ?_) AllReadyH.nil
        go_simp
        refine hK.out _ _ trivial (fun _ => ?_)
        clear hK K
        try simp only [Act.put, put1, put2, put3]
        refine wpAnyH_done (by kernel_rfl) ?_ _
        go_wp2_with fail
        go_meet
        exact ⟨_, rfl, hN, hGG⟩
      ·go_simp
       have hb_2_6_8 := Below.plus (Below.refl w_2_6.heap.size w_2_6) (.cells #[.int .i64 0, .slice none 0 0, .slice none 0 0, .slice none 0 0, .slice none 0 0, .slice none 0 0, .slice none 0 0] 44)
       have hx_2_6_8 := Box.new w_2_6 [.int .i64 0, .slice none 0 0, .slice none 0 0, .slice none 0 0, .slice none 0 0, .slice none 0 0, .slice none 0 0] 44
       obtain ⟨w_2_6_8, HW_2_6_8⟩ : ∃ wn, Hid (w_2_6.alloc (.cells #[.int .i64 0, .slice none 0 0, .slice none 0 0, .slice none 0 0, .slice none 0 0, .slice none 0 0, .slice none 0 0] 44) = wn) := ⟨_, rfl⟩
       rw [HW_2_6_8.out] at hb_2_6_8 hx_2_6_8 ⊢
       have hg_2_6_8 : Grew W1 w_2_6_8 := grew_step hg_2_6 hb_2_6_8
       have q2_2_6_8 := q2_2_6.below hb_2_6_8 (nlr _)
       have q6_2_6_8 := hk_2_6.below hb_2_6_8 (nlr _)
       refine hK.out _ _ trivial (fun _ => ?_)
       clear hK K
       try simp only [Act.put, put1, put2, put3]
       refine wpAnyH_ready (rs := [4]) (by kernel_rfl) (by simp) ?_
       refine (AllReadyH.cons (o := _) rfl (fun K hK => ?_) AllReadyH.nil)
       ·go_simp
        have hb_2_6_8_4 := Below.plus (Below.refl w_2_6_8.heap.size w_2_6_8) (.cells cs 3)
        have ha_2_6_8_4 := hoz.out w_2_6_8 hg_2_6_8.size
        obtain ⟨w_2_6_8_4, HW_2_6_8_4⟩ : ∃ wn, Hid (w_2_6_8.alloc (.cells cs 3) = wn) := ⟨_, rfl⟩
        rw [HW_2_6_8_4.out] at hb_2_6_8_4 ha_2_6_8_4 ⊢
        have hg_2_6_8_4 : Grew W1 w_2_6_8_4 := grew_step hg_2_6_8 hb_2_6_8_4
        have q2_2_6_8_4 := q2_2_6_8.below hb_2_6_8_4 (nlr _)
        have q6_2_6_8_4 := q6_2_6_8.below hb_2_6_8_4 (nlr _)
        have q8_2_6_8_4 := hx_2_6_8.below hb_2_6_8_4 (nlr _)
        refine hK.out _ _ trivial (fun _ => ?_)
        clear hK K
        try simp only [Act.put, put1, put2, put3]
        refine take_yes 7 22 (.agg #[.int .i64 i, .slice x1_2 S.clock.length y1_2, .slice x2_2 S.lives.length y2_2, .slice x3_2 S.tals.length y3_2, .slice (some ⟨w_2_6_8.heap.size, 0, none⟩) k k, .slice none 0 0, .slice (some ⟨w_2.heap.size, 0, none⟩) k k]) rfl rfl (by kernel_rfl) (by kernel_rfl) (by kernel_rfl) (fun _ _ _ h => h) rfl (by intro w hSw; (try dsimp only at hSw); go_simp) (by assumption) ?_
        simp only [Act.put, put1, put2, put3]
        have hge : W1.heap.size ≤ w_2_6.heap.size := hg_2_6.size
        have hN := NdV.fill (i := i) q8_2_6_8_4 hge q2_2_6_8_4 ha_2_6_8_4 (LogOf.nil _ _) q6_2_6_8_4
        have c0 := q8_2_6_8_4.get 0 rfl
        have f0 := q8_2_6_8_4.free 0
        have c1 := q8_2_6_8_4.get 1 rfl
        have f1 := q8_2_6_8_4.free 1
        have c2 := q8_2_6_8_4.get 2 rfl
        have f2 := q8_2_6_8_4.free 2
        have c3 := q8_2_6_8_4.get 3 rfl
        have f3 := q8_2_6_8_4.free 3
        have c4 := q8_2_6_8_4.get 4 rfl
        have f4 := q8_2_6_8_4.free 4
        have c5 := q8_2_6_8_4.get 5 rfl
        have f5 := q8_2_6_8_4.free 5
        have c6 := q8_2_6_8_4.get 6 rfl
        have f6 := q8_2_6_8_4.free 6
        have hGG : Grew W1 _ := (Below.setCell (Below.setCell (Below.setCell (Below.setCell (Below.setCell (Below.setCell (Below.setCell hg_2_6_8_4 (p := ⟨w_2_6.heap.size, 0, none⟩) hge (.int .i64 i)) (p := ⟨w_2_6.heap.size, 1, none⟩) hge (.slice x1_2 S.clock.length y1_2)) (p := ⟨w_2_6.heap.size, 2, none⟩) hge (.slice x2_2 S.lives.length y2_2)) (p := ⟨w_2_6.heap.size, 3, none⟩) hge (.slice x3_2 S.tals.length y3_2)) (p := ⟨w_2_6.heap.size, 4, none⟩) hge (.slice (some ⟨w_2_6_8.heap.size, 0, none⟩) k k)) (p := ⟨w_2_6.heap.size, 5, none⟩) hge (.slice none 0 0)) (p := ⟨w_2_6.heap.size, 6, none⟩) hge (.slice (some ⟨w_2.heap.size, 0, none⟩) k k))
        refine wpAnyH_ready (rs := [9]) (by kernel_rfl) (by simp) ?_
        refine AllReadyH.cons (o := _) rfl (fun K hK => ?_) AllReadyH.nil
        go_simp
        refine hK.out _ _ trivial (fun _ => ?_)
        clear hK K
        try simp only [Act.put, put1, put2, put3]
        refine wpAnyH_done (by kernel_rfl) ?_ _
        go_wp2_with fail
        go_meet
        exact ⟨_, rfl, hN, hGG⟩
     ·go_simp
      have hb_2_8 := Below.plus (Below.refl w_2.heap.size w_2) (.cells #[.int .i64 0, .slice none 0 0, .slice none 0 0, .slice none 0 0, .slice none 0 0, .slice none 0 0, .slice none 0 0] 44)
      have hx_2_8 := Box.new w_2 [.int .i64 0, .slice none 0 0, .slice none 0 0, .slice none 0 0, .slice none 0 0, .slice none 0 0, .slice none 0 0] 44
      obtain ⟨w_2_8, HW_2_8⟩ : ∃ wn, Hid (w_2.alloc (.cells #[.int .i64 0, .slice none 0 0, .slice none 0 0, .slice none 0 0, .slice none 0 0, .slice none 0 0, .slice none 0 0] 44) = wn) := ⟨_, rfl⟩
      rw [HW_2_8.out] at hb_2_8 hx_2_8 ⊢
      have hg_2_8 : Grew W1 w_2_8 := grew_step hg_2 hb_2_8
      have q2_2_8 := hst_2.below hb_2_8 (nlr _)
      refine hK.out _ _ trivial (fun _ => ?_)
      clear hK K
      try simp only [Act.put, put1, put2, put3]
      refine wpAnyH_ready (rs := [4, 6]) (by kernel_rfl) (by simp) ?_
      refine (AllReadyH.cons (o := _) rfl (fun K hK => ?_) (AllReadyH.cons (o := _) rfl (fun K hK => ?_) AllReadyH.nil))
      ·go_simp
       have hb_2_8_4 := Below.plus (Below.refl w_2_8.heap.size w_2_8) (.cells cs 3)
       have ha_2_8_4 := hoz.out w_2_8 hg_2_8.size
       obtain ⟨w_2_8_4, HW_2_8_4⟩ : ∃ wn, Hid (w_2_8.alloc (.cells cs 3) = wn) := ⟨_, rfl⟩
       rw [HW_2_8_4.out] at hb_2_8_4 ha_2_8_4 ⊢
       have hg_2_8_4 : Grew W1 w_2_8_4 := grew_step hg_2_8 hb_2_8_4
       have q2_2_8_4 := q2_2_8.below hb_2_8_4 (nlr _)
       have q8_2_8_4 := hx_2_8.below hb_2_8_4 (nlr _)
       refine hK.out _ _ trivial (fun _ => ?_)
       clear hK K
       try simp only [Act.put, put1, put2, put3]
       refine wpAnyH_ready (rs := [6]) (by kernel_rfl) (by simp) ?_
       refine (AllReadyH.cons (o := _) rfl (fun K hK => ?_) AllReadyH.nil)
       ·go_simp
        have hb_2_8_4_6 := Below.plus (Below.refl w_2_8_4.heap.size w_2_8_4) (.cells ns 37)
        have hk_2_8_4_6 := hkz.out w_2_8_4 hg_2_8_4.size
        obtain ⟨w_2_8_4_6, HW_2_8_4_6⟩ : ∃ wn, Hid (w_2_8_4.alloc (.cells ns 37) = wn) := ⟨_, rfl⟩
        rw [HW_2_8_4_6.out] at hb_2_8_4_6 hk_2_8_4_6 ⊢
        have hg_2_8_4_6 : Grew W1 w_2_8_4_6 := grew_step hg_2_8_4 hb_2_8_4_6
        have q2_2_8_4_6 := q2_2_8_4.below hb_2_8_4_6 (nlr _)
        have q4_2_8_4_6 := ha_2_8_4.below hb_2_8_4_6 (nlr _)
        have q8_2_8_4_6 := q8_2_8_4.below hb_2_8_4_6 (nlr _)
        refine hK.out _ _ trivial (fun _ => ?_)
        clear hK K
        try simp only [Act.put, put1, put2, put3]
        refine take_yes 7 22 (.agg #[.int .i64 i, .slice x1_2 S.clock.length y1_2, .slice x2_2 S.lives.length y2_2, .slice x3_2 S.tals.length y3_2, .slice (some ⟨w_2_8.heap.size, 0, none⟩) k k, .slice none 0 0, .slice (some ⟨w_2_8_4.heap.size, 0, none⟩) k k]) rfl rfl (by kernel_rfl) (by kernel_rfl) (by kernel_rfl) (fun _ _ _ h => h) rfl (by intro w hSw; (try dsimp only at hSw); go_simp) (by assumption) ?_
        simp only [Act.put, put1, put2, put3]
        have hge : W1.heap.size ≤ w_2.heap.size := hg_2.size
        have hN := NdV.fill (i := i) q8_2_8_4_6 hge q2_2_8_4_6 q4_2_8_4_6 (LogOf.nil _ _) hk_2_8_4_6
        have c0 := q8_2_8_4_6.get 0 rfl
        have f0 := q8_2_8_4_6.free 0
        have c1 := q8_2_8_4_6.get 1 rfl
        have f1 := q8_2_8_4_6.free 1
        have c2 := q8_2_8_4_6.get 2 rfl
        have f2 := q8_2_8_4_6.free 2
        have c3 := q8_2_8_4_6.get 3 rfl
        have f3 := q8_2_8_4_6.free 3
        have c4 := q8_2_8_4_6.get 4 rfl
        have f4 := q8_2_8_4_6.free 4
        have c5 := q8_2_8_4_6.get 5 rfl
        have f5 := q8_2_8_4_6.free 5
        have c6 := q8_2_8_4_6.get 6 rfl
        have f6 := q8_2_8_4_6.free 6
        have hGG : Grew W1 _ := (Below.setCell (Below.setCell (Below.setCell (Below.setCell (Below.setCell (Below.setCell (Below.setCell hg_2_8_4_6 (p := ⟨w_2.heap.size, 0, none⟩) hge (.int .i64 i)) (p := ⟨w_2.heap.size, 1, none⟩) hge (.slice x1_2 S.clock.length y1_2)) (p := ⟨w_2.heap.size, 2, none⟩) hge (.slice x2_2 S.lives.length y2_2)) (p := ⟨w_2.heap.size, 3, none⟩) hge (.slice x3_2 S.tals.length y3_2)) (p := ⟨w_2.heap.size, 4, none⟩) hge (.slice (some ⟨w_2_8.heap.size, 0, none⟩) k k)) (p := ⟨w_2.heap.size, 5, none⟩) hge (.slice none 0 0)) (p := ⟨w_2.heap.size, 6, none⟩) hge (.slice (some ⟨w_2_8_4.heap.size, 0, none⟩) k k))
        refine wpAnyH_ready (rs := [9]) (by kernel_rfl) (by simp) ?_
        refine AllReadyH.cons (o := _) rfl (fun K hK => ?_) AllReadyH.nil
        go_simp
        refine hK.out _ _ trivial (fun _ => ?_)
        clear hK K
        try simp only [Act.put, put1, put2, put3]
        refine wpAnyH_done (by kernel_rfl) ?_ _
        go_wp2_with fail
        go_meet
        exact ⟨_, rfl, hN, hGG⟩
      ·go_simp
       have hb_2_8_6 := Below.plus (Below.refl w_2_8.heap.size w_2_8) (.cells ns 37)
       have hk_2_8_6 := hkz.out w_2_8 hg_2_8.size
       obtain ⟨w_2_8_6, HW_2_8_6⟩ : ∃ wn, Hid (w_2_8.alloc (.cells ns 37) = wn) := ⟨_, rfl⟩
       rw [HW_2_8_6.out] at hb_2_8_6 hk_2_8_6 ⊢
       have hg_2_8_6 : Grew W1 w_2_8_6 := grew_step hg_2_8 hb_2_8_6
       have q2_2_8_6 := q2_2_8.below hb_2_8_6 (nlr _)
       have q8_2_8_6 := hx_2_8.below hb_2_8_6 (nlr _)
       refine hK.out _ _ trivial (fun _ => ?_)
       clear hK K
       try simp only [Act.put, put1, put2, put3]
       refine wpAnyH_ready (rs := [4]) (by kernel_rfl) (by simp) ?_
       refine (AllReadyH.cons (o := _) rfl (fun K hK => ?_) AllReadyH.nil)
       ·go_simp
        have hb_2_8_6_4 := Below.plus (Below.refl w_2_8_6.heap.size w_2_8_6) (.cells cs 3)
        have ha_2_8_6_4 := hoz.out w_2_8_6 hg_2_8_6.size
        obtain ⟨w_2_8_6_4, HW_2_8_6_4⟩ : ∃ wn, Hid (w_2_8_6.alloc (.cells cs 3) = wn) := ⟨_, rfl⟩
        rw [HW_2_8_6_4.out] at hb_2_8_6_4 ha_2_8_6_4 ⊢
        have hg_2_8_6_4 : Grew W1 w_2_8_6_4 := grew_step hg_2_8_6 hb_2_8_6_4
        have q2_2_8_6_4 := q2_2_8_6.below hb_2_8_6_4 (nlr _)
        have q6_2_8_6_4 := hk_2_8_6.below hb_2_8_6_4 (nlr _)
        have q8_2_8_6_4 := q8_2_8_6.below hb_2_8_6_4 (nlr _)
        refine hK.out _ _ trivial (fun _ => ?_)
        clear hK K
        try simp only [Act.put, put1, put2, put3]
        refine take_yes 7 22 (.agg #[.int .i64 i, .slice x1_2 S.clock.length y1_2, .slice x2_2 S.lives.length y2_2, .slice x3_2 S.tals.length y3_2, .slice (some ⟨w_2_8_6.heap.size, 0, none⟩) k k, .slice none 0 0, .slice (some ⟨w_2_8.heap.size, 0, none⟩) k k]) rfl rfl (by kernel_rfl) (by kernel_rfl) (by kernel_rfl) (fun _ _ _ h => h) rfl (by intro w hSw; (try dsimp only at hSw); go_simp) (by assumption) ?_
        simp only [Act.put, put1, put2, put3]
        have hge : W1.heap.size ≤ w_2.heap.size := hg_2.size
        have hN := NdV.fill (i := i) q8_2_8_6_4 hge q2_2_8_6_4 ha_2_8_6_4 (LogOf.nil _ _) q6_2_8_6_4
        have c0 := q8_2_8_6_4.get 0 rfl
        have f0 := q8_2_8_6_4.free 0
        have c1 := q8_2_8_6_4.get 1 rfl
        have f1 := q8_2_8_6_4.free 1
        have c2 := q8_2_8_6_4.get 2 rfl
        have f2 := q8_2_8_6_4.free 2
        have c3 := q8_2_8_6_4.get 3 rfl
        have f3 := q8_2_8_6_4.free 3
        have c4 := q8_2_8_6_4.get 4 rfl
        have f4 := q8_2_8_6_4.free 4
        have c5 := q8_2_8_6_4.get 5 rfl
        have f5 := q8_2_8_6_4.free 5
        have c6 := q8_2_8_6_4.get 6 rfl
        have f6 := q8_2_8_6_4.free 6
        have hGG : Grew W1 _ := (Below.setCell (Below.setCell (Below.setCell (Below.setCell (Below.setCell (Below.setCell (Below.setCell hg_2_8_6_4 (p := ⟨w_2.heap.size, 0, none⟩) hge (.int .i64 i)) (p := ⟨w_2.heap.size, 1, none⟩) hge (.slice x1_2 S.clock.length y1_2)) (p := ⟨w_2.heap.size, 2, none⟩) hge (.slice x2_2 S.lives.length y2_2)) (p := ⟨w_2.heap.size, 3, none⟩) hge (.slice x3_2 S.tals.length y3_2)) (p := ⟨w_2.heap.size, 4, none⟩) hge (.slice (some ⟨w_2_8_6.heap.size, 0, none⟩) k k)) (p := ⟨w_2.heap.size, 5, none⟩) hge (.slice none 0 0)) (p := ⟨w_2.heap.size, 6, none⟩) hge (.slice (some ⟨w_2_8.heap.size, 0, none⟩) k k))
        refine wpAnyH_ready (rs := [9]) (by kernel_rfl) (by simp) ?_
        refine AllReadyH.cons (o := _) rfl (fun K hK => ?_) AllReadyH.nil
        go_simp
        refine hK.out _ _ trivial (fun _ => ?_)
        clear hK K
        try simp only [Act.put, put1, put2, put3]
        refine wpAnyH_done (by kernel_rfl) ?_ _
        go_wp2_with fail
        go_meet
        exact ⟨_, rfl, hN, hGG⟩
    ·go_simp
     have hb_4 := Below.plus (Below.refl wd.heap.size wd) (.cells cs 3)
     have ha_4 := hoz.out wd hg_.size
     obtain ⟨w_4, HW_4⟩ : ∃ wn, Hid (wd.alloc (.cells cs 3) = wn) := ⟨_, rfl⟩
     rw [HW_4.out] at hb_4 ha_4 ⊢
     have hg_4 : Grew W1 w_4 := grew_step hg_ hb_4
     refine hK.out _ _ trivial (fun _ => ?_)
     clear hK K
     try simp only [Act.put, put1, put2, put3]
     refine wpAnyH_ready (rs := [2, 6, 8]) (by kernel_rfl) (by simp) ?_
     refine (AllReadyH.cons (o := _) rfl (fun K hK => ?_) (AllReadyH.cons (o := _) rfl (fun K hK => ?_) (AllReadyH.cons (o := _) rfl (fun K hK => ?_) AllReadyH.nil)))
     ·go_simp
      refine (hst.out _).mono ?_
      rintro e w_4_2 ⟨rv_4_2, rfl, ho_4_2, hb_4_2⟩
      obtain ⟨x1_4_2, y1_4_2, x2_4_2, y2_4_2, x3_4_2, y3_4_2, hrv⟩ := ho_4_2.formW
      subst hrv
      have hst_4_2 := ho_4_2.base (C := W1.heap.size) hg_4.size
      have hg_4_2 : Grew W1 w_4_2 := grew_step hg_4 hb_4_2
      have q4_4_2 := ha_4.below hb_4_2 (nlr _)
      refine hK.out _ _ trivial (fun _ => ?_)
      clear hK K
      try simp only [Act.put, put1, put2, put3]
      refine wpAnyH_ready (rs := [6, 8]) (by kernel_rfl) (by simp) ?_
      refine (AllReadyH.cons (o := _) rfl (fun K hK => ?_) (AllReadyH.cons (o := _) rfl (fun K hK => ?_) AllReadyH.nil))
      ·go_simp
       have hb_4_2_6 := Below.plus (Below.refl w_4_2.heap.size w_4_2) (.cells ns 37)
       have hk_4_2_6 := hkz.out w_4_2 hg_4_2.size
       obtain ⟨w_4_2_6, HW_4_2_6⟩ : ∃ wn, Hid (w_4_2.alloc (.cells ns 37) = wn) := ⟨_, rfl⟩
       rw [HW_4_2_6.out] at hb_4_2_6 hk_4_2_6 ⊢
       have hg_4_2_6 : Grew W1 w_4_2_6 := grew_step hg_4_2 hb_4_2_6
       have q2_4_2_6 := hst_4_2.below hb_4_2_6 (nlr _)
       have q4_4_2_6 := q4_4_2.below hb_4_2_6 (nlr _)
       refine hK.out _ _ trivial (fun _ => ?_)
       clear hK K
       try simp only [Act.put, put1, put2, put3]
       refine take_yes 7 22 (.agg #[.int .i64 i, .slice x1_4_2 S.clock.length y1_4_2, .slice x2_4_2 S.lives.length y2_4_2, .slice x3_4_2 S.tals.length y3_4_2, .slice (some ⟨wd.heap.size, 0, none⟩) k k, .slice none 0 0, .slice (some ⟨w_4_2.heap.size, 0, none⟩) k k]) rfl rfl (by kernel_rfl) (by kernel_rfl) (by kernel_rfl) (fun _ _ _ h => h) rfl (by intro w hSw; (try dsimp only at hSw); go_simp) (by assumption) ?_
       simp only [Act.put, put1, put2, put3]
       refine wpAnyH_ready (rs := [8]) (by kernel_rfl) (by simp) ?_
       refine (AllReadyH.cons (o := _) rfl (fun K hK => ?_) AllReadyH.nil)
       ·go_simp
        have hb_4_2_6_8 := Below.plus (Below.refl w_4_2_6.heap.size w_4_2_6) (.cells #[.int .i64 0, .slice none 0 0, .slice none 0 0, .slice none 0 0, .slice none 0 0, .slice none 0 0, .slice none 0 0] 44)
        have hx_4_2_6_8 := Box.new w_4_2_6 [.int .i64 0, .slice none 0 0, .slice none 0 0, .slice none 0 0, .slice none 0 0, .slice none 0 0, .slice none 0 0] 44
        obtain ⟨w_4_2_6_8, HW_4_2_6_8⟩ : ∃ wn, Hid (w_4_2_6.alloc (.cells #[.int .i64 0, .slice none 0 0, .slice none 0 0, .slice none 0 0, .slice none 0 0, .slice none 0 0, .slice none 0 0] 44) = wn) := ⟨_, rfl⟩
        rw [HW_4_2_6_8.out] at hb_4_2_6_8 hx_4_2_6_8 ⊢
        have hg_4_2_6_8 : Grew W1 w_4_2_6_8 := grew_step hg_4_2_6 hb_4_2_6_8
        have q2_4_2_6_8 := q2_4_2_6.below hb_4_2_6_8 (nlr _)
        have q4_4_2_6_8 := q4_4_2_6.below hb_4_2_6_8 (nlr _)
        have q6_4_2_6_8 := hk_4_2_6.below hb_4_2_6_8 (nlr _)
        refine hK.out _ _ trivial (fun _ => ?_)
        clear hK K
        try simp only [Act.put, put1, put2, put3]
        have hge : W1.heap.size ≤ w_4_2_6.heap.size := hg_4_2_6.size
        have hN := NdV.fill (i := i) hx_4_2_6_8 hge q2_4_2_6_8 q4_4_2_6_8 (LogOf.nil _ _) q6_4_2_6_8
        have c0 := hx_4_2_6_8.get 0 rfl
        have f0 := hx_4_2_6_8.free 0
        have c1 := hx_4_2_6_8.get 1 rfl
        have f1 := hx_4_2_6_8.free 1
        have c2 := hx_4_2_6_8.get 2 rfl
        have f2 := hx_4_2_6_8.free 2
        have c3 := hx_4_2_6_8.get 3 rfl
        have f3 := hx_4_2_6_8.free 3
        have c4 := hx_4_2_6_8.get 4 rfl
        have f4 := hx_4_2_6_8.free 4
        have c5 := hx_4_2_6_8.get 5 rfl
        have f5 := hx_4_2_6_8.free 5
        have c6 := hx_4_2_6_8.get 6 rfl
        have f6 := hx_4_2_6_8.free 6
        have hGG : Grew W1 _ := (Below.setCell (Below.setCell (Below.setCell (Below.setCell (Below.setCell (Below.setCell (Below.setCell hg_4_2_6_8 (p := ⟨w_4_2_6.heap.size, 0, none⟩) hge (.int .i64 i)) (p := ⟨w_4_2_6.heap.size, 1, none⟩) hge (.slice x1_4_2 S.clock.length y1_4_2)) (p := ⟨w_4_2_6.heap.size, 2, none⟩) hge (.slice x2_4_2 S.lives.length y2_4_2)) (p := ⟨w_4_2_6.heap.size, 3, none⟩) hge (.slice x3_4_2 S.tals.length y3_4_2)) (p := ⟨w_4_2_6.heap.size, 4, none⟩) hge (.slice (some ⟨wd.heap.size, 0, none⟩) k k)) (p := ⟨w_4_2_6.heap.size, 5, none⟩) hge (.slice none 0 0)) (p := ⟨w_4_2_6.heap.size, 6, none⟩) hge (.slice (some ⟨w_4_2.heap.size, 0, none⟩) k k))
        refine wpAnyH_ready (rs := [9]) (by kernel_rfl) (by simp) ?_
        refine AllReadyH.cons (o := _) rfl (fun K hK => ?_) AllReadyH.nil
        go_simp
        refine hK.out _ _ trivial (fun _ => ?_)
        clear hK K
        try simp only [Act.put, put1, put2, put3]
        refine wpAnyH_done (by kernel_rfl) ?_ _
        go_wp2_with fail
        go_meet
        exact ⟨_, rfl, hN, hGG⟩
      ·go_simp
       have hb_4_2_8 := Below.plus (Below.refl w_4_2.heap.size w_4_2) (.cells #[.int .i64 0, .slice none 0 0, .slice none 0 0, .slice none 0 0, .slice none 0 0, .slice none 0 0, .slice none 0 0] 44)
       have hx_4_2_8 := Box.new w_4_2 [.int .i64 0, .slice none 0 0, .slice none 0 0, .slice none 0 0, .slice none 0 0, .slice none 0 0, .slice none 0 0] 44
       obtain ⟨w_4_2_8, HW_4_2_8⟩ : ∃ wn, Hid (w_4_2.alloc (.cells #[.int .i64 0, .slice none 0 0, .slice none 0 0, .slice none 0 0, .slice none 0 0, .slice none 0 0, .slice none 0 0] 44) = wn) := ⟨_, rfl⟩
       rw [HW_4_2_8.out] at hb_4_2_8 hx_4_2_8 ⊢
       have hg_4_2_8 : Grew W1 w_4_2_8 := grew_step hg_4_2 hb_4_2_8
       have q2_4_2_8 := hst_4_2.below hb_4_2_8 (nlr _)
       have q4_4_2_8 := q4_4_2.below hb_4_2_8 (nlr _)
       refine hK.out _ _ trivial (fun _ => ?_)
       clear hK K
       try simp only [Act.put, put1, put2, put3]
       refine wpAnyH_ready (rs := [6]) (by kernel_rfl) (by simp) ?_
       refine (AllReadyH.cons (o := _) rfl (fun K hK => ?_) AllReadyH.nil)
       ·go_simp
        have hb_4_2_8_6 := Below.plus (Below.refl w_4_2_8.heap.size w_4_2_8) (.cells ns 37)
        have hk_4_2_8_6 := hkz.out w_4_2_8 hg_4_2_8.size
        obtain ⟨w_4_2_8_6, HW_4_2_8_6⟩ : ∃ wn, Hid (w_4_2_8.alloc (.cells ns 37) = wn) := ⟨_, rfl⟩
        rw [HW_4_2_8_6.out] at hb_4_2_8_6 hk_4_2_8_6 ⊢
        have hg_4_2_8_6 : Grew W1 w_4_2_8_6 := grew_step hg_4_2_8 hb_4_2_8_6
        have q2_4_2_8_6 := q2_4_2_8.below hb_4_2_8_6 (nlr _)
        have q4_4_2_8_6 := q4_4_2_8.below hb_4_2_8_6 (nlr _)
        have q8_4_2_8_6 := hx_4_2_8.below hb_4_2_8_6 (nlr _)
        refine hK.out _ _ trivial (fun _ => ?_)
        clear hK K
        try simp only [Act.put, put1, put2, put3]
        refine take_yes 7 22 (.agg #[.int .i64 i, .slice x1_4_2 S.clock.length y1_4_2, .slice x2_4_2 S.lives.length y2_4_2, .slice x3_4_2 S.tals.length y3_4_2, .slice (some ⟨wd.heap.size, 0, none⟩) k k, .slice none 0 0, .slice (some ⟨w_4_2_8.heap.size, 0, none⟩) k k]) rfl rfl (by kernel_rfl) (by kernel_rfl) (by kernel_rfl) (fun _ _ _ h => h) rfl (by intro w hSw; (try dsimp only at hSw); go_simp) (by assumption) ?_
        simp only [Act.put, put1, put2, put3]
        have hge : W1.heap.size ≤ w_4_2.heap.size := hg_4_2.size
        have hN := NdV.fill (i := i) q8_4_2_8_6 hge q2_4_2_8_6 q4_4_2_8_6 (LogOf.nil _ _) hk_4_2_8_6
        have c0 := q8_4_2_8_6.get 0 rfl
        have f0 := q8_4_2_8_6.free 0
        have c1 := q8_4_2_8_6.get 1 rfl
        have f1 := q8_4_2_8_6.free 1
        have c2 := q8_4_2_8_6.get 2 rfl
        have f2 := q8_4_2_8_6.free 2
        have c3 := q8_4_2_8_6.get 3 rfl
        have f3 := q8_4_2_8_6.free 3
        have c4 := q8_4_2_8_6.get 4 rfl
        have f4 := q8_4_2_8_6.free 4
        have c5 := q8_4_2_8_6.get 5 rfl
        have f5 := q8_4_2_8_6.free 5
        have c6 := q8_4_2_8_6.get 6 rfl
        have f6 := q8_4_2_8_6.free 6
        have hGG : Grew W1 _ := (Below.setCell (Below.setCell (Below.setCell (Below.setCell (Below.setCell (Below.setCell (Below.setCell hg_4_2_8_6 (p := ⟨w_4_2.heap.size, 0, none⟩) hge (.int .i64 i)) (p := ⟨w_4_2.heap.size, 1, none⟩) hge (.slice x1_4_2 S.clock.length y1_4_2)) (p := ⟨w_4_2.heap.size, 2, none⟩) hge (.slice x2_4_2 S.lives.length y2_4_2)) (p := ⟨w_4_2.heap.size, 3, none⟩) hge (.slice x3_4_2 S.tals.length y3_4_2)) (p := ⟨w_4_2.heap.size, 4, none⟩) hge (.slice (some ⟨wd.heap.size, 0, none⟩) k k)) (p := ⟨w_4_2.heap.size, 5, none⟩) hge (.slice none 0 0)) (p := ⟨w_4_2.heap.size, 6, none⟩) hge (.slice (some ⟨w_4_2_8.heap.size, 0, none⟩) k k))
        refine wpAnyH_ready (rs := [9]) (by kernel_rfl) (by simp) ?_
        refine AllReadyH.cons (o := _) rfl (fun K hK => ?_) AllReadyH.nil
        go_simp
        refine hK.out _ _ trivial (fun _ => ?_)
        clear hK K
        try simp only [Act.put, put1, put2, put3]
        refine wpAnyH_done (by kernel_rfl) ?_ _
        go_wp2_with fail
        go_meet
        exact ⟨_, rfl, hN, hGG⟩
     ·go_simp
      have hb_4_6 := Below.plus (Below.refl w_4.heap.size w_4) (.cells ns 37)
      have hk_4_6 := hkz.out w_4 hg_4.size
      obtain ⟨w_4_6, HW_4_6⟩ : ∃ wn, Hid (w_4.alloc (.cells ns 37) = wn) := ⟨_, rfl⟩
      rw [HW_4_6.out] at hb_4_6 hk_4_6 ⊢
      have hg_4_6 : Grew W1 w_4_6 := grew_step hg_4 hb_4_6
      have q4_4_6 := ha_4.below hb_4_6 (nlr _)
      refine hK.out _ _ trivial (fun _ => ?_)
      clear hK K
      try simp only [Act.put, put1, put2, put3]
      refine wpAnyH_ready (rs := [2, 8]) (by kernel_rfl) (by simp) ?_
      refine (AllReadyH.cons (o := _) rfl (fun K hK => ?_) (AllReadyH.cons (o := _) rfl (fun K hK => ?_) AllReadyH.nil))
      ·go_simp
       refine (hst.out _).mono ?_
       rintro e w_4_6_2 ⟨rv_4_6_2, rfl, ho_4_6_2, hb_4_6_2⟩
       obtain ⟨x1_4_6_2, y1_4_6_2, x2_4_6_2, y2_4_6_2, x3_4_6_2, y3_4_6_2, hrv⟩ := ho_4_6_2.formW
       subst hrv
       have hst_4_6_2 := ho_4_6_2.base (C := W1.heap.size) hg_4_6.size
       have hg_4_6_2 : Grew W1 w_4_6_2 := grew_step hg_4_6 hb_4_6_2
       have q4_4_6_2 := q4_4_6.below hb_4_6_2 (nlr _)
       have q6_4_6_2 := hk_4_6.below hb_4_6_2 (nlr _)
       refine hK.out _ _ trivial (fun _ => ?_)
       clear hK K
       try simp only [Act.put, put1, put2, put3]
       refine take_yes 7 22 (.agg #[.int .i64 i, .slice x1_4_6_2 S.clock.length y1_4_6_2, .slice x2_4_6_2 S.lives.length y2_4_6_2, .slice x3_4_6_2 S.tals.length y3_4_6_2, .slice (some ⟨wd.heap.size, 0, none⟩) k k, .slice none 0 0, .slice (some ⟨w_4.heap.size, 0, none⟩) k k]) rfl rfl (by kernel_rfl) (by kernel_rfl) (by kernel_rfl) (fun _ _ _ h => h) rfl (by intro w hSw; (try dsimp only at hSw); go_simp) (by assumption) ?_
       simp only [Act.put, put1, put2, put3]
       refine wpAnyH_ready (rs := [8]) (by kernel_rfl) (by simp) ?_
       refine (AllReadyH.cons (o := _) rfl (fun K hK => ?_) AllReadyH.nil)
       ·go_simp
        have hb_4_6_2_8 := Below.plus (Below.refl w_4_6_2.heap.size w_4_6_2) (.cells #[.int .i64 0, .slice none 0 0, .slice none 0 0, .slice none 0 0, .slice none 0 0, .slice none 0 0, .slice none 0 0] 44)
        have hx_4_6_2_8 := Box.new w_4_6_2 [.int .i64 0, .slice none 0 0, .slice none 0 0, .slice none 0 0, .slice none 0 0, .slice none 0 0, .slice none 0 0] 44
        obtain ⟨w_4_6_2_8, HW_4_6_2_8⟩ : ∃ wn, Hid (w_4_6_2.alloc (.cells #[.int .i64 0, .slice none 0 0, .slice none 0 0, .slice none 0 0, .slice none 0 0, .slice none 0 0, .slice none 0 0] 44) = wn) := ⟨_, rfl⟩
        rw [HW_4_6_2_8.out] at hb_4_6_2_8 hx_4_6_2_8 ⊢
        have hg_4_6_2_8 : Grew W1 w_4_6_2_8 := grew_step hg_4_6_2 hb_4_6_2_8
        have q2_4_6_2_8 := hst_4_6_2.below hb_4_6_2_8 (nlr _)
        have q4_4_6_2_8 := q4_4_6_2.below hb_4_6_2_8 (nlr _)
        have q6_4_6_2_8 := q6_4_6_2.below hb_4_6_2_8 (nlr _)
        refine hK.out _ _ trivial (fun _ => ?_)
        clear hK K
        try simp only [Act.put, put1, put2, put3]
        have hge : W1.heap.size ≤ w_4_6_2.heap.size := hg_4_6_2.size
        have hN := NdV.fill (i := i) hx_4_6_2_8 hge q2_4_6_2_8 q4_4_6_2_8 (LogOf.nil _ _) q6_4_6_2_8
        have c0 := hx_4_6_2_8.get 0 rfl
        have f0 := hx_4_6_2_8.free 0
        have c1 := hx_4_6_2_8.get 1 rfl
        have f1 := hx_4_6_2_8.free 1
        have c2 := hx_4_6_2_8.get 2 rfl
        have f2 := hx_4_6_2_8.free 2
        have c3 := hx_4_6_2_8.get 3 rfl
        have f3 := hx_4_6_2_8.free 3
        have c4 := hx_4_6_2_8.get 4 rfl
        have f4 := hx_4_6_2_8.free 4
        have c5 := hx_4_6_2_8.get 5 rfl
        have f5 := hx_4_6_2_8.free 5
        have c6 := hx_4_6_2_8.get 6 rfl
        have f6 := hx_4_6_2_8.free 6
        have hGG : Grew W1 _ := (Below.setCell (Below.setCell (Below.setCell (Below.setCell (Below.setCell (Below.setCell (Below.setCell hg_4_6_2_8 (p := ⟨w_4_6_2.heap.size, 0, none⟩) hge (.int .i64 i)) (p := ⟨w_4_6_2.heap.size, 1, none⟩) hge (.slice x1_4_6_2 S.clock.length y1_4_6_2)) (p := ⟨w_4_6_2.heap.size, 2, none⟩) hge (.slice x2_4_6_2 S.lives.length y2_4_6_2)) (p := ⟨w_4_6_2.heap.size, 3, none⟩) hge (.slice x3_4_6_2 S.tals.length y3_4_6_2)) (p := ⟨w_4_6_2.heap.size, 4, none⟩) hge (.slice (some ⟨wd.heap.size, 0, none⟩) k k)) (p := ⟨w_4_6_2.heap.size, 5, none⟩) hge (.slice none 0 0)) (p := ⟨w_4_6_2.heap.size, 6, none⟩) hge (.slice (some ⟨w_4.heap.size, 0, none⟩) k k))
        refine wpAnyH_ready (rs := [9]) (by kernel_rfl) (by simp) ?_
        refine AllReadyH.cons (o := _) rfl (fun K hK => ?_) AllReadyH.nil
        go_simp
        refine hK.out _ _ trivial (fun _ => ?_)
        clear hK K
        try simp only [Act.put, put1, put2, put3]
        refine wpAnyH_done (by kernel_rfl) ?_ _
        go_wp2_with fail
        go_meet
        exact ⟨_, rfl, hN, hGG⟩
      ·go_simp
       have hb_4_6_8 := Below.plus (Below.refl w_4_6.heap.size w_4_6) (.cells #[.int .i64 0, .slice none 0 0, .slice none 0 0, .slice none 0 0, .slice none 0 0, .slice none 0 0, .slice none 0 0] 44)
       have hx_4_6_8 := Box.new w_4_6 [.int .i64 0, .slice none 0 0, .slice none 0 0, .slice none 0 0, .slice none 0 0, .slice none 0 0, .slice none 0 0] 44
       obtain ⟨w_4_6_8, HW_4_6_8⟩ : ∃ wn, Hid (w_4_6.alloc (.cells #[.int .i64 0, .slice none 0 0, .slice none 0 0, .slice none 0 0, .slice none 0 0, .slice none 0 0, .slice none 0 0] 44) = wn) := ⟨_, rfl⟩
       rw [HW_4_6_8.out] at hb_4_6_8 hx_4_6_8 ⊢
       have hg_4_6_8 : Grew W1 w_4_6_8 := grew_step hg_4_6 hb_4_6_8
       have q4_4_6_8 := q4_4_6.below hb_4_6_8 (nlr _)
       have q6_4_6_8 := hk_4_6.below hb_4_6_8 (nlr _)
       refine hK.out _ _ trivial (fun _ => ?_)
       clear hK K
       try simp only [Act.put, put1, put2, put3]
       refine wpAnyH_ready (rs := [2]) (by kernel_rfl) (by simp) ?_
       refine (AllReadyH.cons (o := _) rfl (fun K hK => ?_) AllReadyH.nil)
       ·go_simp
        refine (hst.out _).mono ?_
        rintro e w_4_6_8_2 ⟨rv_4_6_8_2, rfl, ho_4_6_8_2, hb_4_6_8_2⟩
        obtain ⟨x1_4_6_8_2, y1_4_6_8_2, x2_4_6_8_2, y2_4_6_8_2, x3_4_6_8_2, y3_4_6_8_2, hrv⟩ := ho_4_6_8_2.formW
        subst hrv
        have hst_4_6_8_2 := ho_4_6_8_2.base (C := W1.heap.size) hg_4_6_8.size
        have hg_4_6_8_2 : Grew W1 w_4_6_8_2 := grew_step hg_4_6_8 hb_4_6_8_2
        have q4_4_6_8_2 := q4_4_6_8.below hb_4_6_8_2 (nlr _)
        have q6_4_6_8_2 := q6_4_6_8.below hb_4_6_8_2 (nlr _)
        have q8_4_6_8_2 := hx_4_6_8.below hb_4_6_8_2 (nlr _)
        refine hK.out _ _ trivial (fun _ => ?_)
        clear hK K
        try simp only [Act.put, put1, put2, put3]
        refine take_yes 7 22 (.agg #[.int .i64 i, .slice x1_4_6_8_2 S.clock.length y1_4_6_8_2, .slice x2_4_6_8_2 S.lives.length y2_4_6_8_2, .slice x3_4_6_8_2 S.tals.length y3_4_6_8_2, .slice (some ⟨wd.heap.size, 0, none⟩) k k, .slice none 0 0, .slice (some ⟨w_4.heap.size, 0, none⟩) k k]) rfl rfl (by kernel_rfl) (by kernel_rfl) (by kernel_rfl) (fun _ _ _ h => h) rfl (by intro w hSw; (try dsimp only at hSw); go_simp) (by assumption) ?_
        simp only [Act.put, put1, put2, put3]
        have hge : W1.heap.size ≤ w_4_6.heap.size := hg_4_6.size
        have hN := NdV.fill (i := i) q8_4_6_8_2 hge hst_4_6_8_2 q4_4_6_8_2 (LogOf.nil _ _) q6_4_6_8_2
        have c0 := q8_4_6_8_2.get 0 rfl
        have f0 := q8_4_6_8_2.free 0
        have c1 := q8_4_6_8_2.get 1 rfl
        have f1 := q8_4_6_8_2.free 1
        have c2 := q8_4_6_8_2.get 2 rfl
        have f2 := q8_4_6_8_2.free 2
        have c3 := q8_4_6_8_2.get 3 rfl
        have f3 := q8_4_6_8_2.free 3
        have c4 := q8_4_6_8_2.get 4 rfl
        have f4 := q8_4_6_8_2.free 4
        have c5 := q8_4_6_8_2.get 5 rfl
        have f5 := q8_4_6_8_2.free 5
        have c6 := q8_4_6_8_2.get 6 rfl
        have f6 := q8_4_6_8_2.free 6
        have hGG : Grew W1 _ := (Below.setCell (Below.setCell (Below.setCell (Below.setCell (Below.setCell (Below.setCell (Below.setCell hg_4_6_8_2 (p := ⟨w_4_6.heap.size, 0, none⟩) hge (.int .i64 i)) (p := ⟨w_4_6.heap.size, 1, none⟩) hge (.slice x1_4_6_8_2 S.clock.length y1_4_6_8_2)) (p := ⟨w_4_6.heap.size, 2, none⟩) hge (.slice x2_4_6_8_2 S.lives.length y2_4_6_8_2)) (p := ⟨w_4_6.heap.size, 3, none⟩) hge (.slice x3_4_6_8_2 S.tals.length y3_4_6_8_2)) (p := ⟨w_4_6.heap.size, 4, none⟩) hge (.slice (some ⟨wd.heap.size, 0, none⟩) k k)) (p := ⟨w_4_6.heap.size, 5, none⟩) hge (.slice none 0 0)) (p := ⟨w_4_6.heap.size, 6, none⟩) hge (.slice (some ⟨w_4.heap.size, 0, none⟩) k k))
        refine wpAnyH_ready (rs := [9]) (by kernel_rfl) (by simp) ?_
        refine AllReadyH.cons (o := _) rfl (fun K hK => ?_) AllReadyH.nil
        go_simp
        refine hK.out _ _ trivial (fun _ => ?_)
        clear hK K
        try simp only [Act.put, put1, put2, put3]
        refine wpAnyH_done (by kernel_rfl) ?_ _
        go_wp2_with fail
        go_meet
        exact ⟨_, rfl, hN, hGG⟩
     ·go_simp
      have hb_4_8 := Below.plus (Below.refl w_4.heap.size w_4) (.cells #[.int .i64 0, .slice none 0 0, .slice none 0 0, .slice none 0 0, .slice none 0 0, .slice none 0 0, .slice none 0 0] 44)
      have hx_4_8 := Box.new w_4 [.int .i64 0, .slice none 0 0, .slice none 0 0, .slice none 0 0, .slice none 0 0, .slice none 0 0, .slice none 0 0] 44
      obtain ⟨w_4_8, HW_4_8⟩ : ∃ wn, Hid (w_4.alloc (.cells #[.int .i64 0, .slice none 0 0, .slice none 0 0, .slice none 0 0, .slice none 0 0, .slice none 0 0, .slice none 0 0] 44) = wn) := ⟨_, rfl⟩
      rw [HW_4_8.out] at hb_4_8 hx_4_8 ⊢
      have hg_4_8 : Grew W1 w_4_8 := grew_step hg_4 hb_4_8
      have q4_4_8 := ha_4.below hb_4_8 (nlr _)
      refine hK.out _ _ trivial (fun _ => ?_)
      clear hK K
      try simp only [Act.put, put1, put2, put3]
      refine wpAnyH_ready (rs := [2, 6]) (by kernel_rfl) (by simp) ?_
      refine (AllReadyH.cons (o := _) rfl (fun K hK => ?_) (AllReadyH.cons (o := _) rfl (fun K hK => ?_) AllReadyH.nil))
      ·go_simp
       refine (hst.out _).mono ?_
       rintro e w_4_8_2 ⟨rv_4_8_2, rfl, ho_4_8_2, hb_4_8_2⟩
       obtain ⟨x1_4_8_2, y1_4_8_2, x2_4_8_2, y2_4_8_2, x3_4_8_2, y3_4_8_2, hrv⟩ := ho_4_8_2.formW
       subst hrv
       have hst_4_8_2 := ho_4_8_2.base (C := W1.heap.size) hg_4_8.size
       have hg_4_8_2 : Grew W1 w_4_8_2 := grew_step hg_4_8 hb_4_8_2
       have q4_4_8_2 := q4_4_8.below hb_4_8_2 (nlr _)
       have q8_4_8_2 := hx_4_8.below hb_4_8_2 (nlr _)
       refine hK.out _ _ trivial (fun _ => ?_)
       clear hK K
       try simp only [Act.put, put1, put2, put3]
       refine wpAnyH_ready (rs := [6]) (by kernel_rfl) (by simp) ?_
       refine (AllReadyH.cons (o := _) rfl (fun K hK => ?_) AllReadyH.nil)
       ·go_simp
        have hb_4_8_2_6 := Below.plus (Below.refl w_4_8_2.heap.size w_4_8_2) (.cells ns 37)
        have hk_4_8_2_6 := hkz.out w_4_8_2 hg_4_8_2.size
        obtain ⟨w_4_8_2_6, HW_4_8_2_6⟩ : ∃ wn, Hid (w_4_8_2.alloc (.cells ns 37) = wn) := ⟨_, rfl⟩
        rw [HW_4_8_2_6.out] at hb_4_8_2_6 hk_4_8_2_6 ⊢
        have hg_4_8_2_6 : Grew W1 w_4_8_2_6 := grew_step hg_4_8_2 hb_4_8_2_6
        have q2_4_8_2_6 := hst_4_8_2.below hb_4_8_2_6 (nlr _)
        have q4_4_8_2_6 := q4_4_8_2.below hb_4_8_2_6 (nlr _)
        have q8_4_8_2_6 := q8_4_8_2.below hb_4_8_2_6 (nlr _)
        refine hK.out _ _ trivial (fun _ => ?_)
        clear hK K
        try simp only [Act.put, put1, put2, put3]
        refine take_yes 7 22 (.agg #[.int .i64 i, .slice x1_4_8_2 S.clock.length y1_4_8_2, .slice x2_4_8_2 S.lives.length y2_4_8_2, .slice x3_4_8_2 S.tals.length y3_4_8_2, .slice (some ⟨wd.heap.size, 0, none⟩) k k, .slice none 0 0, .slice (some ⟨w_4_8_2.heap.size, 0, none⟩) k k]) rfl rfl (by kernel_rfl) (by kernel_rfl) (by kernel_rfl) (fun _ _ _ h => h) rfl (by intro w hSw; (try dsimp only at hSw); go_simp) (by assumption) ?_
        simp only [Act.put, put1, put2, put3]
        have hge : W1.heap.size ≤ w_4.heap.size := hg_4.size
        have hN := NdV.fill (i := i) q8_4_8_2_6 hge q2_4_8_2_6 q4_4_8_2_6 (LogOf.nil _ _) hk_4_8_2_6
        have c0 := q8_4_8_2_6.get 0 rfl
        have f0 := q8_4_8_2_6.free 0
        have c1 := q8_4_8_2_6.get 1 rfl
        have f1 := q8_4_8_2_6.free 1
        have c2 := q8_4_8_2_6.get 2 rfl
        have f2 := q8_4_8_2_6.free 2
        have c3 := q8_4_8_2_6.get 3 rfl
        have f3 := q8_4_8_2_6.free 3
        have c4 := q8_4_8_2_6.get 4 rfl
        have f4 := q8_4_8_2_6.free 4
        have c5 := q8_4_8_2_6.get 5 rfl
        have f5 := q8_4_8_2_6.free 5
        have c6 := q8_4_8_2_6.get 6 rfl
        have f6 := q8_4_8_2_6.free 6
        have hGG : Grew W1 _ := (Below.setCell (Below.setCell (Below.setCell (Below.setCell (Below.setCell (Below.setCell (Below.setCell hg_4_8_2_6 (p := ⟨w_4.heap.size, 0, none⟩) hge (.int .i64 i)) (p := ⟨w_4.heap.size, 1, none⟩) hge (.slice x1_4_8_2 S.clock.length y1_4_8_2)) (p := ⟨w_4.heap.size, 2, none⟩) hge (.slice x2_4_8_2 S.lives.length y2_4_8_2)) (p := ⟨w_4.heap.size, 3, none⟩) hge (.slice x3_4_8_2 S.tals.length y3_4_8_2)) (p := ⟨w_4.heap.size, 4, none⟩) hge (.slice (some ⟨wd.heap.size, 0, none⟩) k k)) (p := ⟨w_4.heap.size, 5, none⟩) hge (.slice none 0 0)) (p := ⟨w_4.heap.size, 6, none⟩) hge (.slice (some ⟨w_4_8_2.heap.size, 0, none⟩) k k))
        refine wpAnyH_ready (rs := [9]) (by kernel_rfl) (by simp) ?_
        refine AllReadyH.cons (o := _) rfl (fun K hK => ?_) AllReadyH.nil
        go_simp
        refine hK.out _ _ trivial (fun _ => ?_)
        clear hK K
        try simp only [Act.put, put1, put2, put3]
        refine wpAnyH_done (by kernel_rfl) ?_ _
        go_wp2_with fail
        go_meet
        exact ⟨_, rfl, hN, hGG⟩
      ·go_simp
       have hb_4_8_6 := Below.plus (Below.refl w_4_8.heap.size w_4_8) (.cells ns 37)
       have hk_4_8_6 := hkz.out w_4_8 hg_4_8.size
       obtain ⟨w_4_8_6, HW_4_8_6⟩ : ∃ wn, Hid (w_4_8.alloc (.cells ns 37) = wn) := ⟨_, rfl⟩
       rw [HW_4_8_6.out] at hb_4_8_6 hk_4_8_6 ⊢
       have hg_4_8_6 : Grew W1 w_4_8_6 := grew_step hg_4_8 hb_4_8_6
       have q4_4_8_6 := q4_4_8.below hb_4_8_6 (nlr _)
       have q8_4_8_6 := hx_4_8.below hb_4_8_6 (nlr _)
       refine hK.out _ _ trivial (fun _ => ?_)
       clear hK K
       try simp only [Act.put, put1, put2, put3]
       refine wpAnyH_ready (rs := [2]) (by kernel_rfl) (by simp) ?_
       refine (AllReadyH.cons (o := _) rfl (fun K hK => ?_) AllReadyH.nil)
       ·go_simp
        refine (hst.out _).mono ?_
        rintro e w_4_8_6_2 ⟨rv_4_8_6_2, rfl, ho_4_8_6_2, hb_4_8_6_2⟩
        obtain ⟨x1_4_8_6_2, y1_4_8_6_2, x2_4_8_6_2, y2_4_8_6_2, x3_4_8_6_2, y3_4_8_6_2, hrv⟩ := ho_4_8_6_2.formW
        subst hrv
        have hst_4_8_6_2 := ho_4_8_6_2.base (C := W1.heap.size) hg_4_8_6.size
        have hg_4_8_6_2 : Grew W1 w_4_8_6_2 := grew_step hg_4_8_6 hb_4_8_6_2
        have q4_4_8_6_2 := q4_4_8_6.below hb_4_8_6_2 (nlr _)
        have q6_4_8_6_2 := hk_4_8_6.below hb_4_8_6_2 (nlr _)
        have q8_4_8_6_2 := q8_4_8_6.below hb_4_8_6_2 (nlr _)
        refine hK.out _ _ trivial (fun _ => ?_)
        clear hK K
        try simp only [Act.put, put1, put2, put3]
        refine take_yes 7 22 (.agg #[.int .i64 i, .slice x1_4_8_6_2 S.clock.length y1_4_8_6_2, .slice x2_4_8_6_2 S.lives.length y2_4_8_6_2, .slice x3_4_8_6_2 S.tals.length y3_4_8_6_2, .slice (some ⟨wd.heap.size, 0, none⟩) k k, .slice none 0 0, .slice (some ⟨w_4_8.heap.size, 0, none⟩) k k]) rfl rfl (by kernel_rfl) (by kernel_rfl) (by kernel_rfl) (fun _ _ _ h => h) rfl (by intro w hSw; (try dsimp only at hSw); go_simp) (by assumption) ?_
        simp only [Act.put, put1, put2, put3]
        have hge : W1.heap.size ≤ w_4.heap.size := hg_4.size
        have hN := NdV.fill (i := i) q8_4_8_6_2 hge hst_4_8_6_2 q4_4_8_6_2 (LogOf.nil _ _) q6_4_8_6_2
        have c0 := q8_4_8_6_2.get 0 rfl
        have f0 := q8_4_8_6_2.free 0
        have c1 := q8_4_8_6_2.get 1 rfl
        have f1 := q8_4_8_6_2.free 1
        have c2 := q8_4_8_6_2.get 2 rfl
        have f2 := q8_4_8_6_2.free 2
        have c3 := q8_4_8_6_2.get 3 rfl
        have f3 := q8_4_8_6_2.free 3
        have c4 := q8_4_8_6_2.get 4 rfl
        have f4 := q8_4_8_6_2.free 4
        have c5 := q8_4_8_6_2.get 5 rfl
        have f5 := q8_4_8_6_2.free 5
        have c6 := q8_4_8_6_2.get 6 rfl
        have f6 := q8_4_8_6_2.free 6
        have hGG : Grew W1 _ := (Below.setCell (Below.setCell (Below.setCell (Below.setCell (Below.setCell (Below.setCell (Below.setCell hg_4_8_6_2 (p := ⟨w_4.heap.size, 0, none⟩) hge (.int .i64 i)) (p := ⟨w_4.heap.size, 1, none⟩) hge (.slice x1_4_8_6_2 S.clock.length y1_4_8_6_2)) (p := ⟨w_4.heap.size, 2, none⟩) hge (.slice x2_4_8_6_2 S.lives.length y2_4_8_6_2)) (p := ⟨w_4.heap.size, 3, none⟩) hge (.slice x3_4_8_6_2 S.tals.length y3_4_8_6_2)) (p := ⟨w_4.heap.size, 4, none⟩) hge (.slice (some ⟨wd.heap.size, 0, none⟩) k k)) (p := ⟨w_4.heap.size, 5, none⟩) hge (.slice none 0 0)) (p := ⟨w_4.heap.size, 6, none⟩) hge (.slice (some ⟨w_4_8.heap.size, 0, none⟩) k k))
        refine wpAnyH_ready (rs := [9]) (by kernel_rfl) (by simp) ?_
        refine AllReadyH.cons (o := _) rfl (fun K hK => ?_) AllReadyH.nil
        go_simp
        refine hK.out _ _ trivial (fun _ => ?_)
        clear hK K
        try simp only [Act.put, put1, put2, put3]
        refine wpAnyH_done (by kernel_rfl) ?_ _
        go_wp2_with fail
        go_meet
        exact ⟨_, rfl, hN, hGG⟩
    ·go_simp
     have hb_6 := Below.plus (Below.refl wd.heap.size wd) (.cells ns 37)
     have hk_6 := hkz.out wd hg_.size
     obtain ⟨w_6, HW_6⟩ : ∃ wn, Hid (wd.alloc (.cells ns 37) = wn) := ⟨_, rfl⟩
     rw [HW_6.out] at hb_6 hk_6 ⊢
     have hg_6 : Grew W1 w_6 := grew_step hg_ hb_6
     refine hK.out _ _ trivial (fun _ => ?_)
     clear hK K
     try simp only [Act.put, put1, put2, put3]
     refine wpAnyH_ready (rs := [2, 4, 8]) (by kernel_rfl) (by simp) ?_
     refine (AllReadyH.cons (o := _) rfl (fun K hK => ?_) (AllReadyH.cons (o := _) rfl (fun K hK => ?_) (AllReadyH.cons (o := _) rfl (fun K hK => ?_) AllReadyH.nil)))
     ·go_simp
      refine (hst.out _).mono ?_
      rintro e w_6_2 ⟨rv_6_2, rfl, ho_6_2, hb_6_2⟩
      obtain ⟨x1_6_2, y1_6_2, x2_6_2, y2_6_2, x3_6_2, y3_6_2, hrv⟩ := ho_6_2.formW
      subst hrv
      have hst_6_2 := ho_6_2.base (C := W1.heap.size) hg_6.size
      have hg_6_2 : Grew W1 w_6_2 := grew_step hg_6 hb_6_2
      have q6_6_2 := hk_6.below hb_6_2 (nlr _)
      refine hK.out _ _ trivial (fun _ => ?_)
      clear hK K
      try simp only [Act.put, put1, put2, put3]
      refine wpAnyH_ready (rs := [4, 8]) (by kernel_rfl) (by simp) ?_
      refine (AllReadyH.cons (o := _) rfl (fun K hK => ?_) (AllReadyH.cons (o := _) rfl (fun K hK => ?_) AllReadyH.nil))
      ·go_simp
       have hb_6_2_4 := Below.plus (Below.refl w_6_2.heap.size w_6_2) (.cells cs 3)
       have ha_6_2_4 := hoz.out w_6_2 hg_6_2.size
       obtain ⟨w_6_2_4, HW_6_2_4⟩ : ∃ wn, Hid (w_6_2.alloc (.cells cs 3) = wn) := ⟨_, rfl⟩
       rw [HW_6_2_4.out] at hb_6_2_4 ha_6_2_4 ⊢
       have hg_6_2_4 : Grew W1 w_6_2_4 := grew_step hg_6_2 hb_6_2_4
       have q2_6_2_4 := hst_6_2.below hb_6_2_4 (nlr _)
       have q6_6_2_4 := q6_6_2.below hb_6_2_4 (nlr _)
       refine hK.out _ _ trivial (fun _ => ?_)
       clear hK K
       try simp only [Act.put, put1, put2, put3]
       refine take_yes 7 22 (.agg #[.int .i64 i, .slice x1_6_2 S.clock.length y1_6_2, .slice x2_6_2 S.lives.length y2_6_2, .slice x3_6_2 S.tals.length y3_6_2, .slice (some ⟨w_6_2.heap.size, 0, none⟩) k k, .slice none 0 0, .slice (some ⟨wd.heap.size, 0, none⟩) k k]) rfl rfl (by kernel_rfl) (by kernel_rfl) (by kernel_rfl) (fun _ _ _ h => h) rfl (by intro w hSw; (try dsimp only at hSw); go_simp) (by assumption) ?_
       simp only [Act.put, put1, put2, put3]
       refine wpAnyH_ready (rs := [8]) (by kernel_rfl) (by simp) ?_
       refine (AllReadyH.cons (o := _) rfl (fun K hK => ?_) AllReadyH.nil)
       ·go_simp
        have hb_6_2_4_8 := Below.plus (Below.refl w_6_2_4.heap.size w_6_2_4) (.cells #[.int .i64 0, .slice none 0 0, .slice none 0 0, .slice none 0 0, .slice none 0 0, .slice none 0 0, .slice none 0 0] 44)
        have hx_6_2_4_8 := Box.new w_6_2_4 [.int .i64 0, .slice none 0 0, .slice none 0 0, .slice none 0 0, .slice none 0 0, .slice none 0 0, .slice none 0 0] 44
        obtain ⟨w_6_2_4_8, HW_6_2_4_8⟩ : ∃ wn, Hid (w_6_2_4.alloc (.cells #[.int .i64 0, .slice none 0 0, .slice none 0 0, .slice none 0 0, .slice none 0 0, .slice none 0 0, .slice none 0 0] 44) = wn) := ⟨_, rfl⟩
        rw [HW_6_2_4_8.out] at hb_6_2_4_8 hx_6_2_4_8 ⊢
        have hg_6_2_4_8 : Grew W1 w_6_2_4_8 := grew_step hg_6_2_4 hb_6_2_4_8
        have q2_6_2_4_8 := q2_6_2_4.below hb_6_2_4_8 (nlr _)
        have q4_6_2_4_8 := ha_6_2_4.below hb_6_2_4_8 (nlr _)
        have q6_6_2_4_8 := q6_6_2_4.below hb_6_2_4_8 (nlr _)
        refine hK.out _ _ trivial (fun _ => ?_)
        clear hK K
        try simp only [Act.put, put1, put2, put3]
        have hge : W1.heap.size ≤ w_6_2_4.heap.size := hg_6_2_4.size
        have hN := NdV.fill (i := i) hx_6_2_4_8 hge q2_6_2_4_8 q4_6_2_4_8 (LogOf.nil _ _) q6_6_2_4_8
        have c0 := hx_6_2_4_8.get 0 rfl
        have f0 := hx_6_2_4_8.free 0
        have c1 := hx_6_2_4_8.get 1 rfl
        have f1 := hx_6_2_4_8.free 1
        have c2 := hx_6_2_4_8.get 2 rfl
        have f2 := hx_6_2_4_8.free 2
        have c3 := hx_6_2_4_8.get 3 rfl
        have f3 := hx_6_2_4_8.free 3
        have c4 := hx_6_2_4_8.get 4 rfl
        have f4 := hx_6_2_4_8.free 4
        have c5 := hx_6_2_4_8.get 5 rfl
        have f5 := hx_6_2_4_8.free 5
        have c6 := hx_6_2_4_8.get 6 rfl
        have f6 := hx_6_2_4_8.free 6
        have hGG : Grew W1 _ := (Below.setCell (Below.setCell (Below.setCell (Below.setCell (Below.setCell (Below.setCell (Below.setCell hg_6_2_4_8 (p := ⟨w_6_2_4.heap.size, 0, none⟩) hge (.int .i64 i)) (p := ⟨w_6_2_4.heap.size, 1, none⟩) hge (.slice x1_6_2 S.clock.length y1_6_2)) (p := ⟨w_6_2_4.heap.size, 2, none⟩) hge (.slice x2_6_2 S.lives.length y2_6_2)) (p := ⟨w_6_2_4.heap.size, 3, none⟩) hge (.slice x3_6_2 S.tals.length y3_6_2)) (p := ⟨w_6_2_4.heap.size, 4, none⟩) hge (.slice (some ⟨w_6_2.heap.size, 0, none⟩) k k)) (p := ⟨w_6_2_4.heap.size, 5, none⟩) hge (.slice none 0 0)) (p := ⟨w_6_2_4.heap.size, 6, none⟩) hge (.slice (some ⟨wd.heap.size, 0, none⟩) k k))
        refine wpAnyH_ready (rs := [9]) (by kernel_rfl) (by simp) ?_
        refine AllReadyH.cons (o := _) rfl (fun K hK => ?_) AllReadyH.nil
        go_simp
        refine hK.out _ _ trivial (fun _ => ?_)
        clear hK K
        try simp only [Act.put, put1, put2, put3]
        refine wpAnyH_done (by kernel_rfl) ?_ _
        go_wp2_with fail
        go_meet
        exact ⟨_, rfl, hN, hGG⟩
      ·go_simp
       have hb_6_2_8 := Below.plus (Below.refl w_6_2.heap.size w_6_2) (.cells #[.int .i64 0, .slice none 0 0, .slice none 0 0, .slice none 0 0, .slice none 0 0, .slice none 0 0, .slice none 0 0] 44)
       have hx_6_2_8 := Box.new w_6_2 [.int .i64 0, .slice none 0 0, .slice none 0 0, .slice none 0 0, .slice none 0 0, .slice none 0 0, .slice none 0 0] 44
       obtain ⟨w_6_2_8, HW_6_2_8⟩ : ∃ wn, Hid (w_6_2.alloc (.cells #[.int .i64 0, .slice none 0 0, .slice none 0 0, .slice none 0 0, .slice none 0 0, .slice none 0 0, .slice none 0 0] 44) = wn) := ⟨_, rfl⟩
       rw [HW_6_2_8.out] at hb_6_2_8 hx_6_2_8 ⊢
       have hg_6_2_8 : Grew W1 w_6_2_8 := grew_step hg_6_2 hb_6_2_8
       have q2_6_2_8 := hst_6_2.below hb_6_2_8 (nlr _)
       have q6_6_2_8 := q6_6_2.below hb_6_2_8 (nlr _)
       refine hK.out _ _ trivial (fun _ => ?_)
       clear hK K
       try simp only [Act.put, put1, put2, put3]
       refine wpAnyH_ready (rs := [4]) (by kernel_rfl) (by simp) ?_
       refine (AllReadyH.cons (o := _) rfl (fun K hK => ?_) AllReadyH.nil)
       ·go_simp
        have hb_6_2_8_4 := Below.plus (Below.refl w_6_2_8.heap.size w_6_2_8) (.cells cs 3)
        have ha_6_2_8_4 := hoz.out w_6_2_8 hg_6_2_8.size
        obtain ⟨w_6_2_8_4, HW_6_2_8_4⟩ : ∃ wn, Hid (w_6_2_8.alloc (.cells cs 3) = wn) := ⟨_, rfl⟩
        rw [HW_6_2_8_4.out] at hb_6_2_8_4 ha_6_2_8_4 ⊢
        have hg_6_2_8_4 : Grew W1 w_6_2_8_4 := grew_step hg_6_2_8 hb_6_2_8_4
        have q2_6_2_8_4 := q2_6_2_8.below hb_6_2_8_4 (nlr _)
        have q6_6_2_8_4 := q6_6_2_8.below hb_6_2_8_4 (nlr _)
        have q8_6_2_8_4 := hx_6_2_8.below hb_6_2_8_4 (nlr _)
        refine hK.out _ _ trivial (fun _ => ?_)
        clear hK K
        try simp only [Act.put, put1, put2, put3]
        refine take_yes 7 22 (.agg #[.int .i64 i, .slice x1_6_2 S.clock.length y1_6_2, .slice x2_6_2 S.lives.length y2_6_2, .slice x3_6_2 S.tals.length y3_6_2, .slice (some ⟨w_6_2_8.heap.size, 0, none⟩) k k, .slice none 0 0, .slice (some ⟨wd.heap.size, 0, none⟩) k k]) rfl rfl (by kernel_rfl) (by kernel_rfl) (by kernel_rfl) (fun _ _ _ h => h) rfl (by intro w hSw; (try dsimp only at hSw); go_simp) (by assumption) ?_
        simp only [Act.put, put1, put2, put3]
        have hge : W1.heap.size ≤ w_6_2.heap.size := hg_6_2.size
        have hN := NdV.fill (i := i) q8_6_2_8_4 hge q2_6_2_8_4 ha_6_2_8_4 (LogOf.nil _ _) q6_6_2_8_4
        have c0 := q8_6_2_8_4.get 0 rfl
        have f0 := q8_6_2_8_4.free 0
        have c1 := q8_6_2_8_4.get 1 rfl
        have f1 := q8_6_2_8_4.free 1
        have c2 := q8_6_2_8_4.get 2 rfl
        have f2 := q8_6_2_8_4.free 2
        have c3 := q8_6_2_8_4.get 3 rfl
        have f3 := q8_6_2_8_4.free 3
        have c4 := q8_6_2_8_4.get 4 rfl
        have f4 := q8_6_2_8_4.free 4
        have c5 := q8_6_2_8_4.get 5 rfl
        have f5 := q8_6_2_8_4.free 5
        have c6 := q8_6_2_8_4.get 6 rfl
        have f6 := q8_6_2_8_4.free 6
        have hGG : Grew W1 _ := (Below.setCell (Below.setCell (Below.setCell (Below.setCell (Below.setCell (Below.setCell (Below.setCell hg_6_2_8_4 (p := ⟨w_6_2.heap.size, 0, none⟩) hge (.int .i64 i)) (p := ⟨w_6_2.heap.size, 1, none⟩) hge (.slice x1_6_2 S.clock.length y1_6_2)) (p := ⟨w_6_2.heap.size, 2, none⟩) hge (.slice x2_6_2 S.lives.length y2_6_2)) (p := ⟨w_6_2.heap.size, 3, none⟩) hge (.slice x3_6_2 S.tals.length y3_6_2)) (p := ⟨w_6_2.heap.size, 4, none⟩) hge (.slice (some ⟨w_6_2_8.heap.size, 0, none⟩) k k)) (p := ⟨w_6_2.heap.size, 5, none⟩) hge (.slice none 0 0)) (p := ⟨w_6_2.heap.size, 6, none⟩) hge (.slice (some ⟨wd.heap.size, 0, none⟩) k k))
        refine wpAnyH_ready (rs := [9]) (by kernel_rfl) (by simp) ?_
        refine AllReadyH.cons (o := _) rfl (fun K hK => ?_) AllReadyH.nil
        go_simp
        refine hK.out _ _ trivial (fun _ => ?_)
        clear hK K
        try simp only [Act.put, put1, put2, put3]
        refine wpAnyH_done (by kernel_rfl) ?_ _
        go_wp2_with fail
        go_meet
        exact ⟨_, rfl, hN, hGG⟩
     ·go_simp
      have hb_6_4 := Below.plus (Below.refl w_6.heap.size w_6) (.cells cs 3)
      have ha_6_4 := hoz.out w_6 hg_6.size
      obtain ⟨w_6_4, HW_6_4⟩ : ∃ wn, Hid (w_6.alloc (.cells cs 3) = wn) := ⟨_, rfl⟩
      rw [HW_6_4.out] at hb_6_4 ha_6_4 ⊢
      have hg_6_4 : Grew W1 w_6_4 := grew_step hg_6 hb_6_4
      have q6_6_4 := hk_6.below hb_6_4 (nlr _)
      refine hK.out _ _ trivial (fun _ => ?_)
      clear hK K
      try simp only [Act.put, put1, put2, put3]
      refine wpAnyH_ready (rs := [2, 8]) (by kernel_rfl) (by simp) ?_
      refine (AllReadyH.cons (o := _) rfl (fun K hK => ?_) (AllReadyH.cons (o := _) rfl (fun K hK => ?_) AllReadyH.nil))
      ·go_simp
       refine (hst.out _).mono ?_
       rintro e w_6_4_2 ⟨rv_6_4_2, rfl, ho_6_4_2, hb_6_4_2⟩
       obtain ⟨x1_6_4_2, y1_6_4_2, x2_6_4_2, y2_6_4_2, x3_6_4_2, y3_6_4_2, hrv⟩ := ho_6_4_2.formW
       subst hrv
       have hst_6_4_2 := ho_6_4_2.base (C := W1.heap.size) hg_6_4.size
       have hg_6_4_2 : Grew W1 w_6_4_2 := grew_step hg_6_4 hb_6_4_2
       have q4_6_4_2 := ha_6_4.below hb_6_4_2 (nlr _)
       have q6_6_4_2 := q6_6_4.below hb_6_4_2 (nlr _)
       refine hK.out _ _ trivial (fun _ => ?_)
       clear hK K
       try simp only [Act.put, put1, put2, put3]
       refine take_yes 7 22 (.agg #[.int .i64 i, .slice x1_6_4_2 S.clock.length y1_6_4_2, .slice x2_6_4_2 S.lives.length y2_6_4_2, .slice x3_6_4_2 S.tals.length y3_6_4_2, .slice (some ⟨w_6.heap.size, 0, none⟩) k k, .slice none 0 0, .slice (some ⟨wd.heap.size, 0, none⟩) k k]) rfl rfl (by kernel_rfl) (by kernel_rfl) (by kernel_rfl) (fun _ _ _ h => h) rfl (by intro w hSw; (try dsimp only at hSw); go_simp) (by assumption) ?_
       simp only [Act.put, put1, put2, put3]
       refine wpAnyH_ready (rs := [8]) (by kernel_rfl) (by simp) ?_
       refine (AllReadyH.cons (o := _) rfl (fun K hK => ?_) AllReadyH.nil)
       ·go_simp
        have hb_6_4_2_8 := Below.plus (Below.refl w_6_4_2.heap.size w_6_4_2) (.cells #[.int .i64 0, .slice none 0 0, .slice none 0 0, .slice none 0 0, .slice none 0 0, .slice none 0 0, .slice none 0 0] 44)
        have hx_6_4_2_8 := Box.new w_6_4_2 [.int .i64 0, .slice none 0 0, .slice none 0 0, .slice none 0 0, .slice none 0 0, .slice none 0 0, .slice none 0 0] 44
        obtain ⟨w_6_4_2_8, HW_6_4_2_8⟩ : ∃ wn, Hid (w_6_4_2.alloc (.cells #[.int .i64 0, .slice none 0 0, .slice none 0 0, .slice none 0 0, .slice none 0 0, .slice none 0 0, .slice none 0 0] 44) = wn) := ⟨_, rfl⟩
        rw [HW_6_4_2_8.out] at hb_6_4_2_8 hx_6_4_2_8 ⊢
        have hg_6_4_2_8 : Grew W1 w_6_4_2_8 := grew_step hg_6_4_2 hb_6_4_2_8
        have q2_6_4_2_8 := hst_6_4_2.below hb_6_4_2_8 (nlr _)
        have q4_6_4_2_8 := q4_6_4_2.below hb_6_4_2_8 (nlr _)
        have q6_6_4_2_8 := q6_6_4_2.below hb_6_4_2_8 (nlr _)
        refine hK.out _ _ trivial (fun _ => ?_)
        clear hK K
        try simp only [Act.put, put1, put2, put3]
        have hge : W1.heap.size ≤ w_6_4_2.heap.size := hg_6_4_2.size
        have hN := NdV.fill (i := i) hx_6_4_2_8 hge q2_6_4_2_8 q4_6_4_2_8 (LogOf.nil _ _) q6_6_4_2_8
        have c0 := hx_6_4_2_8.get 0 rfl
        have f0 := hx_6_4_2_8.free 0
        have c1 := hx_6_4_2_8.get 1 rfl
        have f1 := hx_6_4_2_8.free 1
        have c2 := hx_6_4_2_8.get 2 rfl
        have f2 := hx_6_4_2_8.free 2
        have c3 := hx_6_4_2_8.get 3 rfl
        have f3 := hx_6_4_2_8.free 3
        have c4 := hx_6_4_2_8.get 4 rfl
        have f4 := hx_6_4_2_8.free 4
        have c5 := hx_6_4_2_8.get 5 rfl
        have f5 := hx_6_4_2_8.free 5
        have c6 := hx_6_4_2_8.get 6 rfl
        have f6 := hx_6_4_2_8.free 6
        have hGG : Grew W1 _ := (Below.setCell (Below.setCell (Below.setCell (Below.setCell (Below.setCell (Below.setCell (Below.setCell hg_6_4_2_8 (p := ⟨w_6_4_2.heap.size, 0, none⟩) hge (.int .i64 i)) (p := ⟨w_6_4_2.heap.size, 1, none⟩) hge (.slice x1_6_4_2 S.clock.length y1_6_4_2)) (p := ⟨w_6_4_2.heap.size, 2, none⟩) hge (.slice x2_6_4_2 S.lives.length y2_6_4_2)) (p := ⟨w_6_4_2.heap.size, 3, none⟩) hge (.slice x3_6_4_2 S.tals.length y3_6_4_2)) (p := ⟨w_6_4_2.heap.size, 4, none⟩) hge (.slice (some ⟨w_6.heap.size, 0, none⟩) k k)) (p := ⟨w_6_4_2.heap.size, 5, none⟩) hge (.slice none 0 0)) (p := ⟨w_6_4_2.heap.size, 6, none⟩) hge (.slice (some ⟨wd.heap.size, 0, none⟩) k k))
        refine wpAnyH_ready (rs := [9]) (by kernel_rfl) (by simp) ?_
        refine AllReadyH.cons (o := _) rfl (fun K hK => ?_) AllReadyH.nil
        go_simp
        refine hK.out _ _ trivial (fun _ => ?_)
        clear hK K
        try simp only [Act.put, put1, put2, put3]
        refine wpAnyH_done (by kernel_rfl) ?_ _
        go_wp2_with fail
        go_meet
        exact ⟨_, rfl, hN, hGG⟩
      ·go_simp
       have hb_6_4_8 := Below.plus (Below.refl w_6_4.heap.size w_6_4) (.cells #[.int .i64 0, .slice none 0 0, .slice none 0 0, .slice none 0 0, .slice none 0 0, .slice none 0 0, .slice none 0 0] 44)
       have hx_6_4_8 := Box.new w_6_4 [.int .i64 0, .slice none 0 0, .slice none 0 0, .slice none 0 0, .slice none 0 0, .slice none 0 0, .slice none 0 0] 44
       obtain ⟨w_6_4_8, HW_6_4_8⟩ : ∃ wn, Hid (w_6_4.alloc (.cells #[.int .i64 0, .slice none 0 0, .slice none 0 0, .slice none 0 0, .slice none 0 0, .slice none 0 0, .slice none 0 0] 44) = wn) := ⟨_, rfl⟩
       rw [HW_6_4_8.out] at hb_6_4_8 hx_6_4_8 ⊢
       have hg_6_4_8 : Grew W1 w_6_4_8 := grew_step hg_6_4 hb_6_4_8
       have q4_6_4_8 := ha_6_4.below hb_6_4_8 (nlr _)
       have q6_6_4_8 := q6_6_4.below hb_6_4_8 (nlr _)
       refine hK.out _ _ trivial (fun _ => ?_)
       clear hK K
       try simp only [Act.put, put1, put2, put3]
       refine wpAnyH_ready (rs := [2]) (by kernel_rfl) (by simp) ?_
       refine (AllReadyH.cons (o := _) rfl (fun K hK => ?_) AllReadyH.nil)
       ·go_simp
        refine (hst.out _).mono ?_
        rintro e w_6_4_8_2 ⟨rv_6_4_8_2, rfl, ho_6_4_8_2, hb_6_4_8_2⟩
        obtain ⟨x1_6_4_8_2, y1_6_4_8_2, x2_6_4_8_2, y2_6_4_8_2, x3_6_4_8_2, y3_6_4_8_2, hrv⟩ := ho_6_4_8_2.formW
        subst hrv
        have hst_6_4_8_2 := ho_6_4_8_2.base (C := W1.heap.size) hg_6_4_8.size
        have hg_6_4_8_2 : Grew W1 w_6_4_8_2 := grew_step hg_6_4_8 hb_6_4_8_2
        have q4_6_4_8_2 := q4_6_4_8.below hb_6_4_8_2 (nlr _)
        have q6_6_4_8_2 := q6_6_4_8.below hb_6_4_8_2 (nlr _)
        have q8_6_4_8_2 := hx_6_4_8.below hb_6_4_8_2 (nlr _)
        refine hK.out _ _ trivial (fun _ => ?_)
        clear hK K
        try simp only [Act.put, put1, put2, put3]
        refine take_yes 7 22 (.agg #[.int .i64 i, .slice x1_6_4_8_2 S.clock.length y1_6_4_8_2, .slice x2_6_4_8_2 S.lives.length y2_6_4_8_2, .slice x3_6_4_8_2 S.tals.length y3_6_4_8_2, .slice (some ⟨w_6.heap.size, 0, none⟩) k k, .slice none 0 0, .slice (some ⟨wd.heap.size, 0, none⟩) k k]) rfl rfl (by kernel_rfl) (by kernel_rfl) (by kernel_rfl) (fun _ _ _ h => h) rfl (by intro w hSw; (try dsimp only at hSw); go_simp) (by assumption) ?_
        simp only [Act.put, put1, put2, put3]
        have hge : W1.heap.size ≤ w_6_4.heap.size := hg_6_4.size
        have hN := NdV.fill (i := i) q8_6_4_8_2 hge hst_6_4_8_2 q4_6_4_8_2 (LogOf.nil _ _) q6_6_4_8_2
        have c0 := q8_6_4_8_2.get 0 rfl
        have f0 := q8_6_4_8_2.free 0
        have c1 := q8_6_4_8_2.get 1 rfl
        have f1 := q8_6_4_8_2.free 1
        have c2 := q8_6_4_8_2.get 2 rfl
        have f2 := q8_6_4_8_2.free 2
        have c3 := q8_6_4_8_2.get 3 rfl
        have f3 := q8_6_4_8_2.free 3
        have c4 := q8_6_4_8_2.get 4 rfl
        have f4 := q8_6_4_8_2.free 4
        have c5 := q8_6_4_8_2.get 5 rfl
        have f5 := q8_6_4_8_2.free 5
        have c6 := q8_6_4_8_2.get 6 rfl
        have f6 := q8_6_4_8_2.free 6
        have hGG : Grew W1 _ := (Below.setCell (Below.setCell (Below.setCell (Below.setCell (Below.setCell (Below.setCell (Below.setCell hg_6_4_8_2 (p := ⟨w_6_4.heap.size, 0, none⟩) hge (.int .i64 i)) (p := ⟨w_6_4.heap.size, 1, none⟩) hge (.slice x1_6_4_8_2 S.clock.length y1_6_4_8_2)) (p := ⟨w_6_4.heap.size, 2, none⟩) hge (.slice x2_6_4_8_2 S.lives.length y2_6_4_8_2)) (p := ⟨w_6_4.heap.size, 3, none⟩) hge (.slice x3_6_4_8_2 S.tals.length y3_6_4_8_2)) (p := ⟨w_6_4.heap.size, 4, none⟩) hge (.slice (some ⟨w_6.heap.size, 0, none⟩) k k)) (p := ⟨w_6_4.heap.size, 5, none⟩) hge (.slice none 0 0)) (p := ⟨w_6_4.heap.size, 6, none⟩) hge (.slice (some ⟨wd.heap.size, 0, none⟩) k k))
        refine wpAnyH_ready (rs := [9]) (by kernel_rfl) (by simp) ?_
        refine AllReadyH.cons (o := _) rfl (fun K hK => ?_) AllReadyH.nil
        go_simp
        refine hK.out _ _ trivial (fun _ => ?_)
        clear hK K
        try simp only [Act.put, put1, put2, put3]
        refine wpAnyH_done (by kernel_rfl) ?_ _
        go_wp2_with fail
        go_meet
        exact ⟨_, rfl, hN, hGG⟩
     ·go_simp
      have hb_6_8 := Below.plus (Below.refl w_6.heap.size w_6) (.cells #[.int .i64 0, .slice none 0 0, .slice none 0 0, .slice none 0 0, .slice none 0 0, .slice none 0 0, .slice none 0 0] 44)
      have hx_6_8 := Box.new w_6 [.int .i64 0, .slice none 0 0, .slice none 0 0, .slice none 0 0, .slice none 0 0, .slice none 0 0, .slice none 0 0] 44
      obtain ⟨w_6_8, HW_6_8⟩ : ∃ wn, Hid (w_6.alloc (.cells #[.int .i64 0, .slice none 0 0, .slice none 0 0, .slice none 0 0, .slice none 0 0, .slice none 0 0, .slice none 0 0] 44) = wn) := ⟨_, rfl⟩
      rw [HW_6_8.out] at hb_6_8 hx_6_8 ⊢
      have hg_6_8 : Grew W1 w_6_8 := grew_step hg_6 hb_6_8
      have q6_6_8 := hk_6.below hb_6_8 (nlr _)
      refine hK.out _ _ trivial (fun _ => ?_)
      clear hK K
      try simp only [Act.put, put1, put2, put3]
      refine wpAnyH_ready (rs := [2, 4]) (by kernel_rfl) (by simp) ?_
      refine (AllReadyH.cons (o := _) rfl (fun K hK => ?_) (AllReadyH.cons (o := _) rfl (fun K hK => ?_) AllReadyH.nil))
      ·go_simp
       refine (hst.out _).mono ?_
       rintro e w_6_8_2 ⟨rv_6_8_2, rfl, ho_6_8_2, hb_6_8_2⟩
       obtain ⟨x1_6_8_2, y1_6_8_2, x2_6_8_2, y2_6_8_2, x3_6_8_2, y3_6_8_2, hrv⟩ := ho_6_8_2.formW
       subst hrv
       have hst_6_8_2 := ho_6_8_2.base (C := W1.heap.size) hg_6_8.size
       have hg_6_8_2 : Grew W1 w_6_8_2 := grew_step hg_6_8 hb_6_8_2
       have q6_6_8_2 := q6_6_8.below hb_6_8_2 (nlr _)
       have q8_6_8_2 := hx_6_8.below hb_6_8_2 (nlr _)
       refine hK.out _ _ trivial (fun _ => ?_)
       clear hK K
       try simp only [Act.put, put1, put2, put3]
       refine wpAnyH_ready (rs := [4]) (by kernel_rfl) (by simp) ?_
       refine (AllReadyH.cons (o := _) rfl (fun K hK => ?_) AllReadyH.nil)
       ·go_simp
        have hb_6_8_2_4 := Below.plus (Below.refl w_6_8_2.heap.size w_6_8_2) (.cells cs 3)
        have ha_6_8_2_4 := hoz.out w_6_8_2 hg_6_8_2.size
        obtain ⟨w_6_8_2_4, HW_6_8_2_4⟩ : ∃ wn, Hid (w_6_8_2.alloc (.cells cs 3) = wn) := ⟨_, rfl⟩
        rw [HW_6_8_2_4.out] at hb_6_8_2_4 ha_6_8_2_4 ⊢
        have hg_6_8_2_4 : Grew W1 w_6_8_2_4 := grew_step hg_6_8_2 hb_6_8_2_4
        have q2_6_8_2_4 := hst_6_8_2.below hb_6_8_2_4 (nlr _)
        have q6_6_8_2_4 := q6_6_8_2.below hb_6_8_2_4 (nlr _)
        have q8_6_8_2_4 := q8_6_8_2.below hb_6_8_2_4 (nlr _)
        refine hK.out _ _ trivial (fun _ => ?_)
        clear hK K
        try simp only [Act.put, put1, put2, put3]
        refine take_yes 7 22 (.agg #[.int .i64 i, .slice x1_6_8_2 S.clock.length y1_6_8_2, .slice x2_6_8_2 S.lives.length y2_6_8_2, .slice x3_6_8_2 S.tals.length y3_6_8_2, .slice (some ⟨w_6_8_2.heap.size, 0, none⟩) k k, .slice none 0 0, .slice (some ⟨wd.heap.size, 0, none⟩) k k]) rfl rfl (by kernel_rfl) (by kernel_rfl) (by kernel_rfl) (fun _ _ _ h => h) rfl (by intro w hSw; (try dsimp only at hSw); go_simp) (by assumption) ?_
        simp only [Act.put, put1, put2, put3]
        have hge : W1.heap.size ≤ w_6.heap.size := hg_6.size
        have hN := NdV.fill (i := i) q8_6_8_2_4 hge q2_6_8_2_4 ha_6_8_2_4 (LogOf.nil _ _) q6_6_8_2_4
        have c0 := q8_6_8_2_4.get 0 rfl
        have f0 := q8_6_8_2_4.free 0
        have c1 := q8_6_8_2_4.get 1 rfl
        have f1 := q8_6_8_2_4.free 1
        have c2 := q8_6_8_2_4.get 2 rfl
        have f2 := q8_6_8_2_4.free 2
        have c3 := q8_6_8_2_4.get 3 rfl
        have f3 := q8_6_8_2_4.free 3
        have c4 := q8_6_8_2_4.get 4 rfl
        have f4 := q8_6_8_2_4.free 4
        have c5 := q8_6_8_2_4.get 5 rfl
        have f5 := q8_6_8_2_4.free 5
        have c6 := q8_6_8_2_4.get 6 rfl
        have f6 := q8_6_8_2_4.free 6
        have hGG : Grew W1 _ := (Below.setCell (Below.setCell (Below.setCell (Below.setCell (Below.setCell (Below.setCell (Below.setCell hg_6_8_2_4 (p := ⟨w_6.heap.size, 0, none⟩) hge (.int .i64 i)) (p := ⟨w_6.heap.size, 1, none⟩) hge (.slice x1_6_8_2 S.clock.length y1_6_8_2)) (p := ⟨w_6.heap.size, 2, none⟩) hge (.slice x2_6_8_2 S.lives.length y2_6_8_2)) (p := ⟨w_6.heap.size, 3, none⟩) hge (.slice x3_6_8_2 S.tals.length y3_6_8_2)) (p := ⟨w_6.heap.size, 4, none⟩) hge (.slice (some ⟨w_6_8_2.heap.size, 0, none⟩) k k)) (p := ⟨w_6.heap.size, 5, none⟩) hge (.slice none 0 0)) (p := ⟨w_6.heap.size, 6, none⟩) hge (.slice (some ⟨wd.heap.size, 0, none⟩) k k))
        refine wpAnyH_ready (rs := [9]) (by kernel_rfl) (by simp) ?_
        refine AllReadyH.cons (o := _) rfl (fun K hK => ?_) AllReadyH.nil
        go_simp
        refine hK.out _ _ trivial (fun _ => ?_)
        clear hK K
        try simp only [Act.put, put1, put2, put3]
        refine wpAnyH_done (by kernel_rfl) ?_ _
        go_wp2_with fail
        go_meet
        exact ⟨_, rfl, hN, hGG⟩
      ·go_simp
       have hb_6_8_4 := Below.plus (Below.refl w_6_8.heap.size w_6_8) (.cells cs 3)
       have ha_6_8_4 := hoz.out w_6_8 hg_6_8.size
       obtain ⟨w_6_8_4, HW_6_8_4⟩ : ∃ wn, Hid (w_6_8.alloc (.cells cs 3) = wn) := ⟨_, rfl⟩
       rw [HW_6_8_4.out] at hb_6_8_4 ha_6_8_4 ⊢
       have hg_6_8_4 : Grew W1 w_6_8_4 := grew_step hg_6_8 hb_6_8_4
       have q6_6_8_4 := q6_6_8.below hb_6_8_4 (nlr _)
       have q8_6_8_4 := hx_6_8.below hb_6_8_4 (nlr _)
       refine hK.out _ _ trivial (fun _ => ?_)
       clear hK K
       try simp only [Act.put, put1, put2, put3]
       refine wpAnyH_ready (rs := [2]) (by kernel_rfl) (by simp) ?_
       refine (AllReadyH.cons (o := _) rfl (fun K hK => ?_) AllReadyH.nil)
       ·go_simp
        refine (hst.out _).mono ?_
        rintro e w_6_8_4_2 ⟨rv_6_8_4_2, rfl, ho_6_8_4_2, hb_6_8_4_2⟩
        obtain ⟨x1_6_8_4_2, y1_6_8_4_2, x2_6_8_4_2, y2_6_8_4_2, x3_6_8_4_2, y3_6_8_4_2, hrv⟩ := ho_6_8_4_2.formW
        subst hrv
        have hst_6_8_4_2 := ho_6_8_4_2.base (C := W1.heap.size) hg_6_8_4.size
        have hg_6_8_4_2 : Grew W1 w_6_8_4_2 := grew_step hg_6_8_4 hb_6_8_4_2
        have q4_6_8_4_2 := ha_6_8_4.below hb_6_8_4_2 (nlr _)
        have q6_6_8_4_2 := q6_6_8_4.below hb_6_8_4_2 (nlr _)
        have q8_6_8_4_2 := q8_6_8_4.below hb_6_8_4_2 (nlr _)
        refine hK.out _ _ trivial (fun _ => ?_)
        clear hK K
        try simp only [Act.put, put1, put2, put3]
        refine take_yes 7 22 (.agg #[.int .i64 i, .slice x1_6_8_4_2 S.clock.length y1_6_8_4_2, .slice x2_6_8_4_2 S.lives.length y2_6_8_4_2, .slice x3_6_8_4_2 S.tals.length y3_6_8_4_2, .slice (some ⟨w_6_8.heap.size, 0, none⟩) k k, .slice none 0 0, .slice (some ⟨wd.heap.size, 0, none⟩) k k]) rfl rfl (by kernel_rfl) (by kernel_rfl) (by kernel_rfl) (fun _ _ _ h => h) rfl (by intro w hSw; (try dsimp only at hSw); go_simp) (by assumption) ?_
        simp only [Act.put, put1, put2, put3]
        have hge : W1.heap.size ≤ w_6.heap.size := hg_6.size
        have hN := NdV.fill (i := i) q8_6_8_4_2 hge hst_6_8_4_2 q4_6_8_4_2 (LogOf.nil _ _) q6_6_8_4_2
        have c0 := q8_6_8_4_2.get 0 rfl
        have f0 := q8_6_8_4_2.free 0
        have c1 := q8_6_8_4_2.get 1 rfl
        have f1 := q8_6_8_4_2.free 1
        have c2 := q8_6_8_4_2.get 2 rfl
        have f2 := q8_6_8_4_2.free 2
        have c3 := q8_6_8_4_2.get 3 rfl
        have f3 := q8_6_8_4_2.free 3
        have c4 := q8_6_8_4_2.get 4 rfl
        have f4 := q8_6_8_4_2.free 4
        have c5 := q8_6_8_4_2.get 5 rfl
        have f5 := q8_6_8_4_2.free 5
        have c6 := q8_6_8_4_2.get 6 rfl
        have f6 := q8_6_8_4_2.free 6
        have hGG : Grew W1 _ := (Below.setCell (Below.setCell (Below.setCell (Below.setCell (Below.setCell (Below.setCell (Below.setCell hg_6_8_4_2 (p := ⟨w_6.heap.size, 0, none⟩) hge (.int .i64 i)) (p := ⟨w_6.heap.size, 1, none⟩) hge (.slice x1_6_8_4_2 S.clock.length y1_6_8_4_2)) (p := ⟨w_6.heap.size, 2, none⟩) hge (.slice x2_6_8_4_2 S.lives.length y2_6_8_4_2)) (p := ⟨w_6.heap.size, 3, none⟩) hge (.slice x3_6_8_4_2 S.tals.length y3_6_8_4_2)) (p := ⟨w_6.heap.size, 4, none⟩) hge (.slice (some ⟨w_6_8.heap.size, 0, none⟩) k k)) (p := ⟨w_6.heap.size, 5, none⟩) hge (.slice none 0 0)) (p := ⟨w_6.heap.size, 6, none⟩) hge (.slice (some ⟨wd.heap.size, 0, none⟩) k k))
        refine wpAnyH_ready (rs := [9]) (by kernel_rfl) (by simp) ?_
        refine AllReadyH.cons (o := _) rfl (fun K hK => ?_) AllReadyH.nil
        go_simp
        refine hK.out _ _ trivial (fun _ => ?_)
        clear hK K
        try simp only [Act.put, put1, put2, put3]
        refine wpAnyH_done (by kernel_rfl) ?_ _
        go_wp2_with fail
        go_meet
        exact ⟨_, rfl, hN, hGG⟩
    ·go_simp
     have hb_8 := Below.plus (Below.refl wd.heap.size wd) (.cells #[.int .i64 0, .slice none 0 0, .slice none 0 0, .slice none 0 0, .slice none 0 0, .slice none 0 0, .slice none 0 0] 44)
     have hx_8 := Box.new wd [.int .i64 0, .slice none 0 0, .slice none 0 0, .slice none 0 0, .slice none 0 0, .slice none 0 0, .slice none 0 0] 44
     obtain ⟨w_8, HW_8⟩ : ∃ wn, Hid (wd.alloc (.cells #[.int .i64 0, .slice none 0 0, .slice none 0 0, .slice none 0 0, .slice none 0 0, .slice none 0 0, .slice none 0 0] 44) = wn) := ⟨_, rfl⟩
     rw [HW_8.out] at hb_8 hx_8 ⊢
     have hg_8 : Grew W1 w_8 := grew_step hg_ hb_8
     refine hK.out _ _ trivial (fun _ => ?_)
     clear hK K
     try simp only [Act.put, put1, put2, put3]
     refine wpAnyH_ready (rs := [2, 4, 6]) (by kernel_rfl) (by simp) ?_
     refine (AllReadyH.cons (o := _) rfl (fun K hK => ?_) (AllReadyH.cons (o := _) rfl (fun K hK => ?_) (AllReadyH.cons (o := _) rfl (fun K hK => ?_) AllReadyH.nil)))
     ·go_simp
      refine (hst.out _).mono ?_
      rintro e w_8_2 ⟨rv_8_2, rfl, ho_8_2, hb_8_2⟩
      obtain ⟨x1_8_2, y1_8_2, x2_8_2, y2_8_2, x3_8_2, y3_8_2, hrv⟩ := ho_8_2.formW
      subst hrv
      have hst_8_2 := ho_8_2.base (C := W1.heap.size) hg_8.size
      have hg_8_2 : Grew W1 w_8_2 := grew_step hg_8 hb_8_2
      have q8_8_2 := hx_8.below hb_8_2 (nlr _)
      refine hK.out _ _ trivial (fun _ => ?_)
      clear hK K
      try simp only [Act.put, put1, put2, put3]
      refine wpAnyH_ready (rs := [4, 6]) (by kernel_rfl) (by simp) ?_
      refine (AllReadyH.cons (o := _) rfl (fun K hK => ?_) (AllReadyH.cons (o := _) rfl (fun K hK => ?_) AllReadyH.nil))
      ·go_simp
       have hb_8_2_4 := Below.plus (Below.refl w_8_2.heap.size w_8_2) (.cells cs 3)
       have ha_8_2_4 := hoz.out w_8_2 hg_8_2.size
       obtain ⟨w_8_2_4, HW_8_2_4⟩ : ∃ wn, Hid (w_8_2.alloc (.cells cs 3) = wn) := ⟨_, rfl⟩
       rw [HW_8_2_4.out] at hb_8_2_4 ha_8_2_4 ⊢
       have hg_8_2_4 : Grew W1 w_8_2_4 := grew_step hg_8_2 hb_8_2_4
       have q2_8_2_4 := hst_8_2.below hb_8_2_4 (nlr _)
       have q8_8_2_4 := q8_8_2.below hb_8_2_4 (nlr _)
       refine hK.out _ _ trivial (fun _ => ?_)
       clear hK K
       try simp only [Act.put, put1, put2, put3]
       refine wpAnyH_ready (rs := [6]) (by kernel_rfl) (by simp) ?_
       refine (AllReadyH.cons (o := _) rfl (fun K hK => ?_) AllReadyH.nil)
       ·go_simp
        have hb_8_2_4_6 := Below.plus (Below.refl w_8_2_4.heap.size w_8_2_4) (.cells ns 37)
        have hk_8_2_4_6 := hkz.out w_8_2_4 hg_8_2_4.size
        obtain ⟨w_8_2_4_6, HW_8_2_4_6⟩ : ∃ wn, Hid (w_8_2_4.alloc (.cells ns 37) = wn) := ⟨_, rfl⟩
        rw [HW_8_2_4_6.out] at hb_8_2_4_6 hk_8_2_4_6 ⊢
        have hg_8_2_4_6 : Grew W1 w_8_2_4_6 := grew_step hg_8_2_4 hb_8_2_4_6
        have q2_8_2_4_6 := q2_8_2_4.below hb_8_2_4_6 (nlr _)
        have q4_8_2_4_6 := ha_8_2_4.below hb_8_2_4_6 (nlr _)
        have q8_8_2_4_6 := q8_8_2_4.below hb_8_2_4_6 (nlr _)
        refine hK.out _ _ trivial (fun _ => ?_)
        clear hK K
        try simp only [Act.put, put1, put2, put3]
        refine take_yes 7 22 (.agg #[.int .i64 i, .slice x1_8_2 S.clock.length y1_8_2, .slice x2_8_2 S.lives.length y2_8_2, .slice x3_8_2 S.tals.length y3_8_2, .slice (some ⟨w_8_2.heap.size, 0, none⟩) k k, .slice none 0 0, .slice (some ⟨w_8_2_4.heap.size, 0, none⟩) k k]) rfl rfl (by kernel_rfl) (by kernel_rfl) (by kernel_rfl) (fun _ _ _ h => h) rfl (by intro w hSw; (try dsimp only at hSw); go_simp) (by assumption) ?_
        simp only [Act.put, put1, put2, put3]
        have hge : W1.heap.size ≤ wd.heap.size := hg_.size
        have hN := NdV.fill (i := i) q8_8_2_4_6 hge q2_8_2_4_6 q4_8_2_4_6 (LogOf.nil _ _) hk_8_2_4_6
        have c0 := q8_8_2_4_6.get 0 rfl
        have f0 := q8_8_2_4_6.free 0
        have c1 := q8_8_2_4_6.get 1 rfl
        have f1 := q8_8_2_4_6.free 1
        have c2 := q8_8_2_4_6.get 2 rfl
        have f2 := q8_8_2_4_6.free 2
        have c3 := q8_8_2_4_6.get 3 rfl
        have f3 := q8_8_2_4_6.free 3
        have c4 := q8_8_2_4_6.get 4 rfl
        have f4 := q8_8_2_4_6.free 4
        have c5 := q8_8_2_4_6.get 5 rfl
        have f5 := q8_8_2_4_6.free 5
        have c6 := q8_8_2_4_6.get 6 rfl
        have f6 := q8_8_2_4_6.free 6
        have hGG : Grew W1 _ := (Below.setCell (Below.setCell (Below.setCell (Below.setCell (Below.setCell (Below.setCell (Below.setCell hg_8_2_4_6 (p := ⟨wd.heap.size, 0, none⟩) hge (.int .i64 i)) (p := ⟨wd.heap.size, 1, none⟩) hge (.slice x1_8_2 S.clock.length y1_8_2)) (p := ⟨wd.heap.size, 2, none⟩) hge (.slice x2_8_2 S.lives.length y2_8_2)) (p := ⟨wd.heap.size, 3, none⟩) hge (.slice x3_8_2 S.tals.length y3_8_2)) (p := ⟨wd.heap.size, 4, none⟩) hge (.slice (some ⟨w_8_2.heap.size, 0, none⟩) k k)) (p := ⟨wd.heap.size, 5, none⟩) hge (.slice none 0 0)) (p := ⟨wd.heap.size, 6, none⟩) hge (.slice (some ⟨w_8_2_4.heap.size, 0, none⟩) k k))
        refine wpAnyH_ready (rs := [9]) (by kernel_rfl) (by simp) ?_
        refine AllReadyH.cons (o := _) rfl (fun K hK => ?_) AllReadyH.nil
        go_simp
        refine hK.out _ _ trivial (fun _ => ?_)
        clear hK K
        try simp only [Act.put, put1, put2, put3]
        refine wpAnyH_done (by kernel_rfl) ?_ _
        go_wp2_with fail
        go_meet
        exact ⟨_, rfl, hN, hGG⟩
      ·go_simp
       have hb_8_2_6 := Below.plus (Below.refl w_8_2.heap.size w_8_2) (.cells ns 37)
       have hk_8_2_6 := hkz.out w_8_2 hg_8_2.size
       obtain ⟨w_8_2_6, HW_8_2_6⟩ : ∃ wn, Hid (w_8_2.alloc (.cells ns 37) = wn) := ⟨_, rfl⟩
       rw [HW_8_2_6.out] at hb_8_2_6 hk_8_2_6 ⊢
       have hg_8_2_6 : Grew W1 w_8_2_6 := grew_step hg_8_2 hb_8_2_6
       have q2_8_2_6 := hst_8_2.below hb_8_2_6 (nlr _)
       have q8_8_2_6 := q8_8_2.below hb_8_2_6 (nlr _)
       refine hK.out _ _ trivial (fun _ => ?_)
       clear hK K
       try simp only [Act.put, put1, put2, put3]
       refine wpAnyH_ready (rs := [4]) (by kernel_rfl) (by simp) ?_
       refine (AllReadyH.cons (o := _) rfl (fun K hK => ?_) AllReadyH.nil)
       ·go_simp
        have hb_8_2_6_4 := Below.plus (Below.refl w_8_2_6.heap.size w_8_2_6) (.cells cs 3)
        have ha_8_2_6_4 := hoz.out w_8_2_6 hg_8_2_6.size
        obtain ⟨w_8_2_6_4, HW_8_2_6_4⟩ : ∃ wn, Hid (w_8_2_6.alloc (.cells cs 3) = wn) := ⟨_, rfl⟩
        rw [HW_8_2_6_4.out] at hb_8_2_6_4 ha_8_2_6_4 ⊢
        have hg_8_2_6_4 : Grew W1 w_8_2_6_4 := grew_step hg_8_2_6 hb_8_2_6_4
        have q2_8_2_6_4 := q2_8_2_6.below hb_8_2_6_4 (nlr _)
        have q6_8_2_6_4 := hk_8_2_6.below hb_8_2_6_4 (nlr _)
        have q8_8_2_6_4 := q8_8_2_6.below hb_8_2_6_4 (nlr _)
        refine hK.out _ _ trivial (fun _ => ?_)
        clear hK K
        try simp only [Act.put, put1, put2, put3]
        refine take_yes 7 22 (.agg #[.int .i64 i, .slice x1_8_2 S.clock.length y1_8_2, .slice x2_8_2 S.lives.length y2_8_2, .slice x3_8_2 S.tals.length y3_8_2, .slice (some ⟨w_8_2_6.heap.size, 0, none⟩) k k, .slice none 0 0, .slice (some ⟨w_8_2.heap.size, 0, none⟩) k k]) rfl rfl (by kernel_rfl) (by kernel_rfl) (by kernel_rfl) (fun _ _ _ h => h) rfl (by intro w hSw; (try dsimp only at hSw); go_simp) (by assumption) ?_
        simp only [Act.put, put1, put2, put3]
        have hge : W1.heap.size ≤ wd.heap.size := hg_.size
        have hN := NdV.fill (i := i) q8_8_2_6_4 hge q2_8_2_6_4 ha_8_2_6_4 (LogOf.nil _ _) q6_8_2_6_4
        have c0 := q8_8_2_6_4.get 0 rfl
        have f0 := q8_8_2_6_4.free 0
        have c1 := q8_8_2_6_4.get 1 rfl
        have f1 := q8_8_2_6_4.free 1
        have c2 := q8_8_2_6_4.get 2 rfl
        have f2 := q8_8_2_6_4.free 2
        have c3 := q8_8_2_6_4.get 3 rfl
        have f3 := q8_8_2_6_4.free 3
        have c4 := q8_8_2_6_4.get 4 rfl
        have f4 := q8_8_2_6_4.free 4
        have c5 := q8_8_2_6_4.get 5 rfl
        have f5 := q8_8_2_6_4.free 5
        have c6 := q8_8_2_6_4.get 6 rfl
        have f6 := q8_8_2_6_4.free 6
        have hGG : Grew W1 _ := (Below.setCell (Below.setCell (Below.setCell (Below.setCell (Below.setCell (Below.setCell (Below.setCell hg_8_2_6_4 (p := ⟨wd.heap.size, 0, none⟩) hge (.int .i64 i)) (p := ⟨wd.heap.size, 1, none⟩) hge (.slice x1_8_2 S.clock.length y1_8_2)) (p := ⟨wd.heap.size, 2, none⟩) hge (.slice x2_8_2 S.lives.length y2_8_2)) (p := ⟨wd.heap.size, 3, none⟩) hge (.slice x3_8_2 S.tals.length y3_8_2)) (p := ⟨wd.heap.size, 4, none⟩) hge (.slice (some ⟨w_8_2_6.heap.size, 0, none⟩) k k)) (p := ⟨wd.heap.size, 5, none⟩) hge (.slice none 0 0)) (p := ⟨wd.heap.size, 6, none⟩) hge (.slice (some ⟨w_8_2.heap.size, 0, none⟩) k k))
        refine wpAnyH_ready (rs := [9]) (by kernel_rfl) (by simp) ?_
        refine AllReadyH.cons (o := _) rfl (fun K hK => ?_) AllReadyH.nil
        go_simp
        refine hK.out _ _ trivial (fun _ => ?_)
        clear hK K
        try simp only [Act.put, put1, put2, put3]
        refine wpAnyH_done (by kernel_rfl) ?_ _
        go_wp2_with fail
        go_meet
        exact ⟨_, rfl, hN, hGG⟩
     ·go_simp
      have hb_8_4 := Below.plus (Below.refl w_8.heap.size w_8) (.cells cs 3)
      have ha_8_4 := hoz.out w_8 hg_8.size
      obtain ⟨w_8_4, HW_8_4⟩ : ∃ wn, Hid (w_8.alloc (.cells cs 3) = wn) := ⟨_, rfl⟩
      rw [HW_8_4.out] at hb_8_4 ha_8_4 ⊢
      have hg_8_4 : Grew W1 w_8_4 := grew_step hg_8 hb_8_4
      have q8_8_4 := hx_8.below hb_8_4 (nlr _)
      refine hK.out _ _ trivial (fun _ => ?_)
      clear hK K
      try simp only [Act.put, put1, put2, put3]
      refine wpAnyH_ready (rs := [2, 6]) (by kernel_rfl) (by simp) ?_
      refine (AllReadyH.cons (o := _) rfl (fun K hK => ?_) (AllReadyH.cons (o := _) rfl (fun K hK => ?_) AllReadyH.nil))
      ·go_simp
       refine (hst.out _).mono ?_
       rintro e w_8_4_2 ⟨rv_8_4_2, rfl, ho_8_4_2, hb_8_4_2⟩
       obtain ⟨x1_8_4_2, y1_8_4_2, x2_8_4_2, y2_8_4_2, x3_8_4_2, y3_8_4_2, hrv⟩ := ho_8_4_2.formW
       subst hrv
       have hst_8_4_2 := ho_8_4_2.base (C := W1.heap.size) hg_8_4.size
       have hg_8_4_2 : Grew W1 w_8_4_2 := grew_step hg_8_4 hb_8_4_2
       have q4_8_4_2 := ha_8_4.below hb_8_4_2 (nlr _)
       have q8_8_4_2 := q8_8_4.below hb_8_4_2 (nlr _)
       refine hK.out _ _ trivial (fun _ => ?_)
       clear hK K
       try simp only [Act.put, put1, put2, put3]
       refine wpAnyH_ready (rs := [6]) (by kernel_rfl) (by simp) ?_
       refine (AllReadyH.cons (o := _) rfl (fun K hK => ?_) AllReadyH.nil)
       ·go_simp
        have hb_8_4_2_6 := Below.plus (Below.refl w_8_4_2.heap.size w_8_4_2) (.cells ns 37)
        have hk_8_4_2_6 := hkz.out w_8_4_2 hg_8_4_2.size
        obtain ⟨w_8_4_2_6, HW_8_4_2_6⟩ : ∃ wn, Hid (w_8_4_2.alloc (.cells ns 37) = wn) := ⟨_, rfl⟩
        rw [HW_8_4_2_6.out] at hb_8_4_2_6 hk_8_4_2_6 ⊢
        have hg_8_4_2_6 : Grew W1 w_8_4_2_6 := grew_step hg_8_4_2 hb_8_4_2_6
        have q2_8_4_2_6 := hst_8_4_2.below hb_8_4_2_6 (nlr _)
        have q4_8_4_2_6 := q4_8_4_2.below hb_8_4_2_6 (nlr _)
        have q8_8_4_2_6 := q8_8_4_2.below hb_8_4_2_6 (nlr _)
        refine hK.out _ _ trivial (fun _ => ?_)
        clear hK K
        try simp only [Act.put, put1, put2, put3]
        refine take_yes 7 22 (.agg #[.int .i64 i, .slice x1_8_4_2 S.clock.length y1_8_4_2, .slice x2_8_4_2 S.lives.length y2_8_4_2, .slice x3_8_4_2 S.tals.length y3_8_4_2, .slice (some ⟨w_8.heap.size, 0, none⟩) k k, .slice none 0 0, .slice (some ⟨w_8_4_2.heap.size, 0, none⟩) k k]) rfl rfl (by kernel_rfl) (by kernel_rfl) (by kernel_rfl) (fun _ _ _ h => h) rfl (by intro w hSw; (try dsimp only at hSw); go_simp) (by assumption) ?_
        simp only [Act.put, put1, put2, put3]
        have hge : W1.heap.size ≤ wd.heap.size := hg_.size
        have hN := NdV.fill (i := i) q8_8_4_2_6 hge q2_8_4_2_6 q4_8_4_2_6 (LogOf.nil _ _) hk_8_4_2_6
        have c0 := q8_8_4_2_6.get 0 rfl
        have f0 := q8_8_4_2_6.free 0
        have c1 := q8_8_4_2_6.get 1 rfl
        have f1 := q8_8_4_2_6.free 1
        have c2 := q8_8_4_2_6.get 2 rfl
        have f2 := q8_8_4_2_6.free 2
        have c3 := q8_8_4_2_6.get 3 rfl
        have f3 := q8_8_4_2_6.free 3
        have c4 := q8_8_4_2_6.get 4 rfl
        have f4 := q8_8_4_2_6.free 4
        have c5 := q8_8_4_2_6.get 5 rfl
        have f5 := q8_8_4_2_6.free 5
        have c6 := q8_8_4_2_6.get 6 rfl
        have f6 := q8_8_4_2_6.free 6
        have hGG : Grew W1 _ := (Below.setCell (Below.setCell (Below.setCell (Below.setCell (Below.setCell (Below.setCell (Below.setCell hg_8_4_2_6 (p := ⟨wd.heap.size, 0, none⟩) hge (.int .i64 i)) (p := ⟨wd.heap.size, 1, none⟩) hge (.slice x1_8_4_2 S.clock.length y1_8_4_2)) (p := ⟨wd.heap.size, 2, none⟩) hge (.slice x2_8_4_2 S.lives.length y2_8_4_2)) (p := ⟨wd.heap.size, 3, none⟩) hge (.slice x3_8_4_2 S.tals.length y3_8_4_2)) (p := ⟨wd.heap.size, 4, none⟩) hge (.slice (some ⟨w_8.heap.size, 0, none⟩) k k)) (p := ⟨wd.heap.size, 5, none⟩) hge (.slice none 0 0)) (p := ⟨wd.heap.size, 6, none⟩) hge (.slice (some ⟨w_8_4_2.heap.size, 0, none⟩) k k))
        refine wpAnyH_ready (rs := [9]) (by kernel_rfl) (by simp) ?_
        refine AllReadyH.cons (o := _) rfl (fun K hK => ?_) AllReadyH.nil
        go_simp
        refine hK.out _ _ trivial (fun _ => ?_)
        clear hK K
        try simp only [Act.put, put1, put2, put3]
        refine wpAnyH_done (by kernel_rfl) ?_ _
        go_wp2_with fail
        go_meet
        exact ⟨_, rfl, hN, hGG⟩
      ·go_simp
       have hb_8_4_6 := Below.plus (Below.refl w_8_4.heap.size w_8_4) (.cells ns 37)
       have hk_8_4_6 := hkz.out w_8_4 hg_8_4.size
       obtain ⟨w_8_4_6, HW_8_4_6⟩ : ∃ wn, Hid (w_8_4.alloc (.cells ns 37) = wn) := ⟨_, rfl⟩
       rw [HW_8_4_6.out] at hb_8_4_6 hk_8_4_6 ⊢
       have hg_8_4_6 : Grew W1 w_8_4_6 := grew_step hg_8_4 hb_8_4_6
       have q4_8_4_6 := ha_8_4.below hb_8_4_6 (nlr _)
       have q8_8_4_6 := q8_8_4.below hb_8_4_6 (nlr _)
       refine hK.out _ _ trivial (fun _ => ?_)
       clear hK K
       try simp only [Act.put, put1, put2, put3]
       refine wpAnyH_ready (rs := [2]) (by kernel_rfl) (by simp) ?_
       refine (AllReadyH.cons (o := _) rfl (fun K hK => ?_) AllReadyH.nil)
       ·go_simp
        refine (hst.out _).mono ?_
        rintro e w_8_4_6_2 ⟨rv_8_4_6_2, rfl, ho_8_4_6_2, hb_8_4_6_2⟩
        obtain ⟨x1_8_4_6_2, y1_8_4_6_2, x2_8_4_6_2, y2_8_4_6_2, x3_8_4_6_2, y3_8_4_6_2, hrv⟩ := ho_8_4_6_2.formW
        subst hrv
        have hst_8_4_6_2 := ho_8_4_6_2.base (C := W1.heap.size) hg_8_4_6.size
        have hg_8_4_6_2 : Grew W1 w_8_4_6_2 := grew_step hg_8_4_6 hb_8_4_6_2
        have q4_8_4_6_2 := q4_8_4_6.below hb_8_4_6_2 (nlr _)
        have q6_8_4_6_2 := hk_8_4_6.below hb_8_4_6_2 (nlr _)
        have q8_8_4_6_2 := q8_8_4_6.below hb_8_4_6_2 (nlr _)
        refine hK.out _ _ trivial (fun _ => ?_)
        clear hK K
        try simp only [Act.put, put1, put2, put3]
        refine take_yes 7 22 (.agg #[.int .i64 i, .slice x1_8_4_6_2 S.clock.length y1_8_4_6_2, .slice x2_8_4_6_2 S.lives.length y2_8_4_6_2, .slice x3_8_4_6_2 S.tals.length y3_8_4_6_2, .slice (some ⟨w_8.heap.size, 0, none⟩) k k, .slice none 0 0, .slice (some ⟨w_8_4.heap.size, 0, none⟩) k k]) rfl rfl (by kernel_rfl) (by kernel_rfl) (by kernel_rfl) (fun _ _ _ h => h) rfl (by intro w hSw; (try dsimp only at hSw); go_simp) (by assumption) ?_
        simp only [Act.put, put1, put2, put3]
        have hge : W1.heap.size ≤ wd.heap.size := hg_.size
        have hN := NdV.fill (i := i) q8_8_4_6_2 hge hst_8_4_6_2 q4_8_4_6_2 (LogOf.nil _ _) q6_8_4_6_2
        have c0 := q8_8_4_6_2.get 0 rfl
        have f0 := q8_8_4_6_2.free 0
        have c1 := q8_8_4_6_2.get 1 rfl
        have f1 := q8_8_4_6_2.free 1
        have c2 := q8_8_4_6_2.get 2 rfl
        have f2 := q8_8_4_6_2.free 2
        have c3 := q8_8_4_6_2.get 3 rfl
        have f3 := q8_8_4_6_2.free 3
        have c4 := q8_8_4_6_2.get 4 rfl
        have f4 := q8_8_4_6_2.free 4
        have c5 := q8_8_4_6_2.get 5 rfl
        have f5 := q8_8_4_6_2.free 5
        have c6 := q8_8_4_6_2.get 6 rfl
        have f6 := q8_8_4_6_2.free 6
        have hGG : Grew W1 _ := (Below.setCell (Below.setCell (Below.setCell (Below.setCell (Below.setCell (Below.setCell (Below.setCell hg_8_4_6_2 (p := ⟨wd.heap.size, 0, none⟩) hge (.int .i64 i)) (p := ⟨wd.heap.size, 1, none⟩) hge (.slice x1_8_4_6_2 S.clock.length y1_8_4_6_2)) (p := ⟨wd.heap.size, 2, none⟩) hge (.slice x2_8_4_6_2 S.lives.length y2_8_4_6_2)) (p := ⟨wd.heap.size, 3, none⟩) hge (.slice x3_8_4_6_2 S.tals.length y3_8_4_6_2)) (p := ⟨wd.heap.size, 4, none⟩) hge (.slice (some ⟨w_8.heap.size, 0, none⟩) k k)) (p := ⟨wd.heap.size, 5, none⟩) hge (.slice none 0 0)) (p := ⟨wd.heap.size, 6, none⟩) hge (.slice (some ⟨w_8_4.heap.size, 0, none⟩) k k))
        refine wpAnyH_ready (rs := [9]) (by kernel_rfl) (by simp) ?_
        refine AllReadyH.cons (o := _) rfl (fun K hK => ?_) AllReadyH.nil
        go_simp
        refine hK.out _ _ trivial (fun _ => ?_)
        clear hK K
        try simp only [Act.put, put1, put2, put3]
        refine wpAnyH_done (by kernel_rfl) ?_ _
        go_wp2_with fail
        go_meet
        exact ⟨_, rfl, hN, hGG⟩
     ·go_simp
      have hb_8_6 := Below.plus (Below.refl w_8.heap.size w_8) (.cells ns 37)
      have hk_8_6 := hkz.out w_8 hg_8.size
      obtain ⟨w_8_6, HW_8_6⟩ : ∃ wn, Hid (w_8.alloc (.cells ns 37) = wn) := ⟨_, rfl⟩
      rw [HW_8_6.out] at hb_8_6 hk_8_6 ⊢
      have hg_8_6 : Grew W1 w_8_6 := grew_step hg_8 hb_8_6
      have q8_8_6 := hx_8.below hb_8_6 (nlr _)
      refine hK.out _ _ trivial (fun _ => ?_)
      clear hK K
      try simp only [Act.put, put1, put2, put3]
      refine wpAnyH_ready (rs := [2, 4]) (by kernel_rfl) (by simp) ?_
      refine (AllReadyH.cons (o := _) rfl (fun K hK => ?_) (AllReadyH.cons (o := _) rfl (fun K hK => ?_) AllReadyH.nil))
      ·go_simp
       refine (hst.out _).mono ?_
       rintro e w_8_6_2 ⟨rv_8_6_2, rfl, ho_8_6_2, hb_8_6_2⟩
       obtain ⟨x1_8_6_2, y1_8_6_2, x2_8_6_2, y2_8_6_2, x3_8_6_2, y3_8_6_2, hrv⟩ := ho_8_6_2.formW
       subst hrv
       have hst_8_6_2 := ho_8_6_2.base (C := W1.heap.size) hg_8_6.size
       have hg_8_6_2 : Grew W1 w_8_6_2 := grew_step hg_8_6 hb_8_6_2
       have q6_8_6_2 := hk_8_6.below hb_8_6_2 (nlr _)
       have q8_8_6_2 := q8_8_6.below hb_8_6_2 (nlr _)
       refine hK.out _ _ trivial (fun _ => ?_)
       clear hK K
       try simp only [Act.put, put1, put2, put3]
       refine wpAnyH_ready (rs := [4]) (by kernel_rfl) (by simp) ?_
       refine (AllReadyH.cons (o := _) rfl (fun K hK => ?_) AllReadyH.nil)
       ·go_simp
        have hb_8_6_2_4 := Below.plus (Below.refl w_8_6_2.heap.size w_8_6_2) (.cells cs 3)
        have ha_8_6_2_4 := hoz.out w_8_6_2 hg_8_6_2.size
        obtain ⟨w_8_6_2_4, HW_8_6_2_4⟩ : ∃ wn, Hid (w_8_6_2.alloc (.cells cs 3) = wn) := ⟨_, rfl⟩
        rw [HW_8_6_2_4.out] at hb_8_6_2_4 ha_8_6_2_4 ⊢
        have hg_8_6_2_4 : Grew W1 w_8_6_2_4 := grew_step hg_8_6_2 hb_8_6_2_4
        have q2_8_6_2_4 := hst_8_6_2.below hb_8_6_2_4 (nlr _)
        have q6_8_6_2_4 := q6_8_6_2.below hb_8_6_2_4 (nlr _)
        have q8_8_6_2_4 := q8_8_6_2.below hb_8_6_2_4 (nlr _)
        refine hK.out _ _ trivial (fun _ => ?_)
        clear hK K
        try simp only [Act.put, put1, put2, put3]
        refine take_yes 7 22 (.agg #[.int .i64 i, .slice x1_8_6_2 S.clock.length y1_8_6_2, .slice x2_8_6_2 S.lives.length y2_8_6_2, .slice x3_8_6_2 S.tals.length y3_8_6_2, .slice (some ⟨w_8_6_2.heap.size, 0, none⟩) k k, .slice none 0 0, .slice (some ⟨w_8.heap.size, 0, none⟩) k k]) rfl rfl (by kernel_rfl) (by kernel_rfl) (by kernel_rfl) (fun _ _ _ h => h) rfl (by intro w hSw; (try dsimp only at hSw); go_simp) (by assumption) ?_
        simp only [Act.put, put1, put2, put3]
        have hge : W1.heap.size ≤ wd.heap.size := hg_.size
        have hN := NdV.fill (i := i) q8_8_6_2_4 hge q2_8_6_2_4 ha_8_6_2_4 (LogOf.nil _ _) q6_8_6_2_4
        have c0 := q8_8_6_2_4.get 0 rfl
        have f0 := q8_8_6_2_4.free 0
        have c1 := q8_8_6_2_4.get 1 rfl
        have f1 := q8_8_6_2_4.free 1
        have c2 := q8_8_6_2_4.get 2 rfl
        have f2 := q8_8_6_2_4.free 2
        have c3 := q8_8_6_2_4.get 3 rfl
        have f3 := q8_8_6_2_4.free 3
        have c4 := q8_8_6_2_4.get 4 rfl
        have f4 := q8_8_6_2_4.free 4
        have c5 := q8_8_6_2_4.get 5 rfl
        have f5 := q8_8_6_2_4.free 5
        have c6 := q8_8_6_2_4.get 6 rfl
        have f6 := q8_8_6_2_4.free 6
        have hGG : Grew W1 _ := (Below.setCell (Below.setCell (Below.setCell (Below.setCell (Below.setCell (Below.setCell (Below.setCell hg_8_6_2_4 (p := ⟨wd.heap.size, 0, none⟩) hge (.int .i64 i)) (p := ⟨wd.heap.size, 1, none⟩) hge (.slice x1_8_6_2 S.clock.length y1_8_6_2)) (p := ⟨wd.heap.size, 2, none⟩) hge (.slice x2_8_6_2 S.lives.length y2_8_6_2)) (p := ⟨wd.heap.size, 3, none⟩) hge (.slice x3_8_6_2 S.tals.length y3_8_6_2)) (p := ⟨wd.heap.size, 4, none⟩) hge (.slice (some ⟨w_8_6_2.heap.size, 0, none⟩) k k)) (p := ⟨wd.heap.size, 5, none⟩) hge (.slice none 0 0)) (p := ⟨wd.heap.size, 6, none⟩) hge (.slice (some ⟨w_8.heap.size, 0, none⟩) k k))
        refine wpAnyH_ready (rs := [9]) (by kernel_rfl) (by simp) ?_
        refine AllReadyH.cons (o := _) rfl (fun K hK => ?_) AllReadyH.nil
        go_simp
        refine hK.out _ _ trivial (fun _ => ?_)
        clear hK K
        try simp only [Act.put, put1, put2, put3]
        refine wpAnyH_done (by kernel_rfl) ?_ _
        go_wp2_with fail
        go_meet
        exact ⟨_, rfl, hN, hGG⟩
      ·go_simp
       have hb_8_6_4 := Below.plus (Below.refl w_8_6.heap.size w_8_6) (.cells cs 3)
       have ha_8_6_4 := hoz.out w_8_6 hg_8_6.size
       obtain ⟨w_8_6_4, HW_8_6_4⟩ : ∃ wn, Hid (w_8_6.alloc (.cells cs 3) = wn) := ⟨_, rfl⟩
       rw [HW_8_6_4.out] at hb_8_6_4 ha_8_6_4 ⊢
       have hg_8_6_4 : Grew W1 w_8_6_4 := grew_step hg_8_6 hb_8_6_4
       have q6_8_6_4 := hk_8_6.below hb_8_6_4 (nlr _)
       have q8_8_6_4 := q8_8_6.below hb_8_6_4 (nlr _)
       refine hK.out _ _ trivial (fun _ => ?_)
       clear hK K
       try simp only [Act.put, put1, put2, put3]
       refine wpAnyH_ready (rs := [2]) (by kernel_rfl) (by simp) ?_
       refine (AllReadyH.cons (o := _) rfl (fun K hK => ?_) AllReadyH.nil)
       ·go_simp
        refine (hst.out _).mono ?_
        rintro e w_8_6_4_2 ⟨rv_8_6_4_2, rfl, ho_8_6_4_2, hb_8_6_4_2⟩
        obtain ⟨x1_8_6_4_2, y1_8_6_4_2, x2_8_6_4_2, y2_8_6_4_2, x3_8_6_4_2, y3_8_6_4_2, hrv⟩ := ho_8_6_4_2.formW
        subst hrv
        have hst_8_6_4_2 := ho_8_6_4_2.base (C := W1.heap.size) hg_8_6_4.size
        have hg_8_6_4_2 : Grew W1 w_8_6_4_2 := grew_step hg_8_6_4 hb_8_6_4_2
        have q4_8_6_4_2 := ha_8_6_4.below hb_8_6_4_2 (nlr _)
        have q6_8_6_4_2 := q6_8_6_4.below hb_8_6_4_2 (nlr _)
        have q8_8_6_4_2 := q8_8_6_4.below hb_8_6_4_2 (nlr _)
        refine hK.out _ _ trivial (fun _ => ?_)
        clear hK K
        try simp only [Act.put, put1, put2, put3]
        refine take_yes 7 22 (.agg #[.int .i64 i, .slice x1_8_6_4_2 S.clock.length y1_8_6_4_2, .slice x2_8_6_4_2 S.lives.length y2_8_6_4_2, .slice x3_8_6_4_2 S.tals.length y3_8_6_4_2, .slice (some ⟨w_8_6.heap.size, 0, none⟩) k k, .slice none 0 0, .slice (some ⟨w_8.heap.size, 0, none⟩) k k]) rfl rfl (by kernel_rfl) (by kernel_rfl) (by kernel_rfl) (fun _ _ _ h => h) rfl (by intro w hSw; (try dsimp only at hSw); go_simp) (by assumption) ?_
        simp only [Act.put, put1, put2, put3]
        have hge : W1.heap.size ≤ wd.heap.size := hg_.size
        have hN := NdV.fill (i := i) q8_8_6_4_2 hge hst_8_6_4_2 q4_8_6_4_2 (LogOf.nil _ _) q6_8_6_4_2
        have c0 := q8_8_6_4_2.get 0 rfl
        have f0 := q8_8_6_4_2.free 0
        have c1 := q8_8_6_4_2.get 1 rfl
        have f1 := q8_8_6_4_2.free 1
        have c2 := q8_8_6_4_2.get 2 rfl
        have f2 := q8_8_6_4_2.free 2
        have c3 := q8_8_6_4_2.get 3 rfl
        have f3 := q8_8_6_4_2.free 3
        have c4 := q8_8_6_4_2.get 4 rfl
        have f4 := q8_8_6_4_2.free 4
        have c5 := q8_8_6_4_2.get 5 rfl
        have f5 := q8_8_6_4_2.free 5
        have c6 := q8_8_6_4_2.get 6 rfl
        have f6 := q8_8_6_4_2.free 6
        have hGG : Grew W1 _ := (Below.setCell (Below.setCell (Below.setCell (Below.setCell (Below.setCell (Below.setCell (Below.setCell hg_8_6_4_2 (p := ⟨wd.heap.size, 0, none⟩) hge (.int .i64 i)) (p := ⟨wd.heap.size, 1, none⟩) hge (.slice x1_8_6_4_2 S.clock.length y1_8_6_4_2)) (p := ⟨wd.heap.size, 2, none⟩) hge (.slice x2_8_6_4_2 S.lives.length y2_8_6_4_2)) (p := ⟨wd.heap.size, 3, none⟩) hge (.slice x3_8_6_4_2 S.tals.length y3_8_6_4_2)) (p := ⟨wd.heap.size, 4, none⟩) hge (.slice (some ⟨w_8_6.heap.size, 0, none⟩) k k)) (p := ⟨wd.heap.size, 5, none⟩) hge (.slice none 0 0)) (p := ⟨wd.heap.size, 6, none⟩) hge (.slice (some ⟨w_8.heap.size, 0, none⟩) k k))
        refine wpAnyH_ready (rs := [9]) (by kernel_rfl) (by simp) ?_
        refine AllReadyH.cons (o := _) rfl (fun K hK => ?_) AllReadyH.nil
        go_simp
        refine hK.out _ _ trivial (fun _ => ?_)
        clear hK K
        try simp only [Act.put, put1, put2, put3]
        refine wpAnyH_done (by kernel_rfl) ?_ _
        go_wp2_with fail
        go_meet
        exact ⟨_, rfl, hN, hGG⟩
   case rest =>
    obtain ⟨gd, rfl, HN2, HGR⟩ := hcut
    obtain ⟨w2, rfl⟩ : ∃ w2, w2 = wc := ⟨wc, rfl⟩
    have R2 := hide (R0.out.below HGR.out (nlr _))
    have HB2 := hide (below_step HB0.out HGR.out)
    have hs2 : Hid (w.heap.size + 1 ≤ w2.heap.size) := by have := HGR.out.size; have := hsz.out; unfold Hid; omega
    obtain ⟨x1, y1, x2, y2, x3, y3, x4, y4, x5, y5, x6, y6, hbx, -⟩ := HN2.out.form
    have HNO := hide (HN2.out.value hbx).node
    have g0 := hbx.get 0 rfl
    have g1 := hbx.get 1 rfl
    have g2 := hbx.get 2 rfl
    have g3 := hbx.get 3 rfl
    have g4 := hbx.get 4 rfl
    have g5 := hbx.get 5 rfl
    have g6 := hbx.get 6 rfl
    obtain ⟨d0, HD0⟩ : ∃ d0, Hid ((⟨i, S, zeroC k, [], List.replicate k []⟩ : NdS) = d0) := ⟨_, rfl⟩
    have hcl : d0.st.clock.length = k := by rw [← HD0.out, ← HS.out]; simp [zeroC]
    have hdS : d0.self = i := by rw [← HD0.out]
    have hdK : d0.known = List.replicate k [] := by rw [← HD0.out]
    have hdX : Hid (d0.st = S ∧ d0.base = zeroC k ∧ d0.log = []) := by unfold Hid; rw [← HD0.out]; exact ⟨rfl, rfl, rfl⟩
    rw [HD0.out] at HN2 HNO g0 g1 g2 g3 g4 g5 g6
    have HDK := hide hdK
    have HCL := hide hcl
    have HDS := hide hdS
    clear hbx R0 HB0 HGR hcl hdK hdS
    go_wp2_with fail
    refine (isNode_node _ d0 i _ HNO.out).mono ?_
    rintro e w3 ⟨rfl, hb3⟩
    rw [HCL.out]
    have HN3 := hide (HN2.out.below hb3 (nlr _))
    have R3 := hide (R2.out.below hb3 (nlr _))
    have HB3 := hide (below_step HB2.out hb3)
    have hs3 : Hid (w.heap.size + 1 ≤ w3.heap.size) := by have := hb3.size; have := hs2.out; unfold Hid; omega
    clear g0 g1 g2 g3 g4 g5 g6 hb3 HN2 R2 HB2 HNO
    by_cases hi : 0 ≤ i ∧ i < (k : Int)
    ·have hdi : decide (0 ≤ i ∧ i < (k : Int)) = true := decide_eq_true hi
     have hE := HE1.out
     rw [if_pos hi] at hE
     subst hE
     have HXX : Hid ((⟨i, S, zeroC k, [], List.replicate k (zeroC k)⟩ : NdS) = X) := by
      unfold Hid
      rw [← HX.out, ← HS.out]
      unfold startX
      rw [if_pos HE.out]
      rfl
     rw [hdi]
     obtain ⟨x1, y1, x2, y2, x3, y3, x4, y4, x5, y5, x6, y6, hbx, -, -, -, -, hkn⟩ := HN3.out.form
     have hkl : d0.known.length = k := by rw [HDK.out, List.length_replicate]
     have g6 := hbx.get 6 rfl
     rw [hkl] at g6
     clear hi hdi HXB HE1 hbx hkn
     go_wp2_with fail
     go_loopw [31] (fun q wr => ∃ (m : Nat), m ≤ k ∧ q = .int .i64 m ∧ Hid (NdV wr W1.heap.size gd ⟨i, S, zeroC k, [], List.replicate m (zeroC k) ++ List.replicate (k - m) []⟩) ∧ Hid (Below W1.heap.size w3 wr)) (fun q _ => k - (intOf q).toNat)
     case atStart =>
      refine ⟨0, Nat.zero_le _, rfl, ?_, hide (Below.refl _ _)⟩
      rw [← HD0.out] at HN3
      exact HN3
     case round =>
      obtain ⟨m, hm, rfl, HNm, HBm⟩ := hrel
      obtain ⟨w4, rfl⟩ : ∃ w4, w4 = wr := ⟨wr, rfl⟩
      have HBw : Hid (Below w.heap.size w w4) := HB3.out.trans (HBm.out.mono (by have := hsz.out; omega))
      have R4 := hide (R3.out.low HBm.out (by have := hsz.out; omega))
      clear g6
      obtain ⟨dm, HDM⟩ : ∃ dm, Hid ((⟨i, S, zeroC k, [], List.replicate m (zeroC k) ++ List.replicate (k - m) []⟩ : NdS) = dm) := ⟨_, hide rfl⟩
      rw [HDM.out] at HNm
      obtain ⟨z1, t1, z2, t2, z3, t3, z4, t4, z5, t5, z6, t6, hbx, -, -, -, -, hkn⟩ := HNm.out.form
      have hml : dm.known.length = k := by rw [← HDM.out]; simp; omega
      by_cases hlt : m < k
      ·have hlt' : (m : Int) < (k : Int) := by omega
       obtain ⟨gk, hgk, -, hkB, hkl2, hcell⟩ := hkn.block (by omega)
       subst hgk
       obtain ⟨v0, hc0, hf0⟩ := hcell m (by omega)
       have HBX := hide hbx
       have HKN := hide hkn
       have g6 := hbx.get 6 rfl
       rw [hml] at g6
       have HG6 := hide g6
       have HC0 := hide hc0
       have HF0 := hide hf0
       have hne : gd ≠ gk := by
        intro he
        obtain ⟨qs, k1, -⟩ := HKN.out
        have hbx2 := HBX.out
        rw [he] at hbx2
        exact row_notBox k1.1 hbx2 (by decide) rfl
       clear hbx hkn hcell hc0 hf0
       go_upto_region 9 with fail
       clear g6
       refine wp_region_held_drew (S := fun w' => w'.cell? ⟨gd, 6, none⟩ = some (.slice (some ⟨gk, 0, none⟩) k t6)) (by kernel_rfl) HG6.out (fun hHeld => ?_)
       obtain ⟨wd, HWD⟩ : ∃ wd, Hid (w4.drew = wd) := ⟨_, rfl⟩
       have hg0 : Grew w4 wd := by rw [← HWD.out]; exact grew_drew (grew_refl w4)
       rw [HWD.out] at hHeld ⊢
       refine take_yes 0 34 (.pointer (some ⟨gd, 6, none⟩)) rfl rfl (by kernel_rfl) (by kernel_rfl) (by kernel_rfl) (fun _ _ _ h => h) rfl (by intro w hSw; (try dsimp only at hSw); go_simp) (by assumption) ?_
       simp only [Act.put, put1, put2, put3]
       refine take_yes 1 35 (.slice (some ⟨gk, 0, none⟩) k t6) rfl rfl (by kernel_rfl) (by kernel_rfl) (by kernel_rfl) (fun _ _ _ h => h) rfl (by intro w hSw; (try dsimp only at hSw); go_simp) (by assumption) ?_
       simp only [Act.put, put1, put2, put3]
       refine take_yes 2 36 (.int .i64 (m : Int)) rfl rfl (by kernel_rfl) (by kernel_rfl) (by kernel_rfl) (fun _ _ _ h => h) rfl (by intro w hSw; (try dsimp only at hSw); go_simp) (by assumption) ?_
       simp only [Act.put, put1, put2, put3]
       refine take_yes 3 37 (.int .i64 (k : Int)) rfl rfl (by kernel_rfl) (by kernel_rfl) (by kernel_rfl) (fun _ _ _ h => h) rfl (by intro w hSw; (try dsimp only at hSw); go_simp) (by assumption) ?_
       simp only [Act.put, put1, put2, put3]
       have hgl := HNm.out.lt
       refine wpAnyH_ready (rs := [4]) (by kernel_rfl) (by simp) ?_
       refine AllReadyH.cons (o := _) rfl (fun K hK => ?_) AllReadyH.nil
       go_simp
       have hb5 := Below.plus (Below.refl wd.heap.size wd) (.cells cs 3)
       have ho5 := hoz.out wd (by have := hg0.size; omega)
       obtain ⟨w5, HW5⟩ : ∃ wn, Hid (wd.alloc (.cells cs 3) = wn) := ⟨_, rfl⟩
       rw [HW5.out] at hb5 ho5 ⊢
       have hg5 : Grew w4 w5 := grew_step hg0 hb5
       have X5 := HBX.out.below hg5 (nlr _)
       have N5 := HNm.out.below hg5 (nlr _)
       refine hK.out _ _ (by have := X5.get 6 rfl; rw [hml] at this; exact this) (fun _ => ?_)
       clear hK K
       try simp only [Act.put, put1, put2, put3]
       refine take_yes 5 39 (.pointer (some ⟨gk, m, none⟩)) rfl rfl (by kernel_rfl) (by kernel_rfl) (by kernel_rfl) (fun _ _ _ h => h) rfl (by intro w hSw; (try dsimp only at hSw); go_simp) (by assumption) ?_
       simp only [Act.put, put1, put2, put3]
       have c5 := (hg5.cell (p := ⟨gk, m, none⟩) (World.block_lt_of_cell? w4 _ HC0.out)).trans HC0.out
       obtain ⟨gk', hgk', -, -, -, hcell2⟩ := (HKN.out.below hg5 (nlr _)).block (by omega)
       simp only [Option.some.injEq, Addr.mk.injEq, and_true] at hgk'
       subst hgk'
       obtain ⟨v5, hc5, hf5⟩ := hcell2 m (by omega)
       have N6 := N5.setKn X5 (k := m) (by omega) ho5
       have X6 := X5.away (g' := gk) (i := m) (v := .slice (some ⟨wd.heap.size, 0, none⟩) k k) hne
       have HB6 := (HBm.out.trans (hg5.mono (B' := W1.heap.size) (by omega))).setCell (p := ⟨gk, m, none⟩) hkB (.slice (some ⟨wd.heap.size, 0, none⟩) k k)
       have hdn : (⟨dm.self, dm.st, dm.base, dm.log, dm.known.set m (zeroC k)⟩ : NdS) = ⟨i, S, zeroC k, [], List.replicate (m + 1) (zeroC k) ++ List.replicate (k - (m + 1)) []⟩ := by
        rw [← HDM.out]
        simp only [NdS.mk.injEq, true_and]
        exact set_rep hlt
       rw [hdn] at N6
       refine wpAnyH_ready (rs := [6]) (by kernel_rfl) (by simp) ?_
       refine AllReadyH.cons (o := _) rfl (fun K hK => ?_) AllReadyH.nil
       go_simp
       refine hK.out _ _ (by have := X6.get 6 rfl; rw [hml] at this; exact this) (fun _ => ?_)
       clear hK K hc5 hf5 c5
       try simp only [Act.put, put1, put2, put3]
       refine wpAnyH_done (by kernel_rfl) ?_ _
       have HN6 := hide N6
       have HHB6 := hide HB6
       clear N6 HB6 X5 N5 X6 ho5
       go_wp2_with fail
       go_roundw
       case rel => exact ⟨m + 1, by omega, by go_num, HN6, HHB6⟩
       case measure => simp [intOf]; omega
      ·have hmk : m = k := by omega
       have hlt' : ¬ (m : Int) < (k : Int) := by omega
       have hdx : dm = X := by
        rw [← HDM.out, ← HXX.out, hmk]
        simp
       clear hmk HDM HXX
       subst hdx
       have g0 := hbx.get 0 rfl
       have g1 := hbx.get 1 rfl
       have g2 := hbx.get 2 rfl
       have g3 := hbx.get 3 rfl
       have g4 := hbx.get 4 rfl
       have g5 := hbx.get 5 rfl
       have g6 := hbx.get 6 rfl
       have HV := hide ((HNm.out.value hbx).base (C := w.heap.size + 1) (by have := hsz.out; omega))
       clear hbx hkn hml hkl
       have r0 := R4.out.get 0 rfl
       have s0 := R4.out.free 0
       have r1 := R4.out.get 1 rfl
       have s1 := R4.out.free 1
       have r2 := R4.out.get 2 rfl
       have s2 := R4.out.free 2
       have r3 := R4.out.get 3 rfl
       have s3 := R4.out.free 3
       have r4 := R4.out.get 4 rfl
       have s4 := R4.out.free 4
       have r5 := R4.out.get 5 rfl
       have s5 := R4.out.free 5
       have r6 := R4.out.get 6 rfl
       have s6 := R4.out.free 6
       go_wp2_with fail
       have hR := ((((((((R4.out).set 0 (.int .i64 dm.self)).set 1 (.slice z1 dm.st.clock.length t1)).set 2 (.slice z2 dm.st.lives.length t2)).set 3 (.slice z3 dm.st.tals.length t3)).set 4 (.slice z4 dm.base.length t4)).set 5 (.slice z5 dm.log.length t5)).set 6 (.slice z6 dm.known.length t6))
       have hV := ((((((((HV.out).away (g := w.heap.size) (by omega) 0 (.int .i64 dm.self)).away (g := w.heap.size) (by omega) 1 (.slice z1 dm.st.clock.length t1)).away (g := w.heap.size) (by omega) 2 (.slice z2 dm.st.lives.length t2)).away (g := w.heap.size) (by omega) 3 (.slice z3 dm.st.tals.length t3)).away (g := w.heap.size) (by omega) 4 (.slice z4 dm.base.length t4)).away (g := w.heap.size) (by omega) 5 (.slice z5 dm.log.length t5)).away (g := w.heap.size) (by omega) 6 (.slice z6 dm.known.length t6))
       refine bodyPost_ret (results_cell_tmp rfl _ _ w.heap.size 44 _ (0, 0) _ rfl hR Tryz.underlying44 rfl Tryz.sizeNode) rfl ⟨_, rfl, hV, ?_⟩
       exact ((((((((HBw.out).setCell (by show w.heap.size ≤ w.heap.size; omega) _).setCell (by show w.heap.size ≤ w.heap.size; omega) _).setCell (by show w.heap.size ≤ w.heap.size; omega) _).setCell (by show w.heap.size ≤ w.heap.size; omega) _).setCell (by show w.heap.size ≤ w.heap.size; omega) _).setCell (by show w.heap.size ≤ w.heap.size; omega) _).setCell (by show w.heap.size ≤ w.heap.size; omega) _)
    ·have hdi : decide (0 ≤ i ∧ i < (k : Int)) = false := decide_eq_false hi
     have hE := HE1.out
     rw [if_neg hi] at hE
     subst hE
     have hX := HXB.out (by decide)
     subst hX
     rw [hdi]
     clear hi hdi HXB HE1
     have r0 := R3.out.get 0 rfl
     have s0 := R3.out.free 0
     have r1 := R3.out.get 1 rfl
     have s1 := R3.out.free 1
     have r2 := R3.out.get 2 rfl
     have s2 := R3.out.free 2
     have r3 := R3.out.get 3 rfl
     have s3 := R3.out.free 3
     have r4 := R3.out.get 4 rfl
     have s4 := R3.out.free 4
     have r5 := R3.out.get 5 rfl
     have s5 := R3.out.free 5
     have r6 := R3.out.get 6 rfl
     have s6 := R3.out.free 6
     go_wp2_with fail
     have hR := ((((((((R3.out).set 0 (.int .i64 0)).set 1 (.slice none 0 0)).set 2 (.slice none 0 0)).set 3 (.slice none 0 0)).set 4 (.slice none 0 0)).set 5 (.slice none 0 0)).set 6 (.slice none 0 0))
     have hV := ((((((((NodeO.none w3 (w.heap.size + 1)).away (g := w.heap.size) (by omega) 0 (.int .i64 0)).away (g := w.heap.size) (by omega) 1 (.slice none 0 0)).away (g := w.heap.size) (by omega) 2 (.slice none 0 0)).away (g := w.heap.size) (by omega) 3 (.slice none 0 0)).away (g := w.heap.size) (by omega) 4 (.slice none 0 0)).away (g := w.heap.size) (by omega) 5 (.slice none 0 0)).away (g := w.heap.size) (by omega) 6 (.slice none 0 0))
     refine bodyPost_ret (results_cell_tmp rfl _ _ w.heap.size 44 _ (0, 0) _ rfl hR Tryz.underlying44 rfl Tryz.sizeNode) rfl ⟨_, rfl, hV, ?_⟩
     exact ((((((((HB3.out).setCell (by show w.heap.size ≤ w.heap.size; omega) _).setCell (by show w.heap.size ≤ w.heap.size; omega) _).setCell (by show w.heap.size ≤ w.heap.size; omega) _).setCell (by show w.heap.size ≤ w.heap.size; omega) _).setCell (by show w.heap.size ≤ w.heap.size; omega) _).setCell (by show w.heap.size ≤ w.heap.size; omega) _).setCell (by show w.heap.size ≤ w.heap.size; omega) _)
  ·have hE : 5 = E := by rw [← HE.out]; unfold startE; rw [if_neg (by omega)]
   have hc1 : ¬ (n < 1) := by omega
   have hc6 : n > 6 := by omega
   have hc6' : 6 < n := by omega
   have hX := HXB.out (by rw [← hE]; decide)
   subst hX
   subst hE
   clear HXB
   go_enter Tryz.func57, Tryz.ntmps57
   go_upto_region 1 with fail
   rw [HW1.out]
   have r0 := R0.out.get 0 rfl
   have s0 := R0.out.free 0
   have r1 := R0.out.get 1 rfl
   have s1 := R0.out.free 1
   have r2 := R0.out.get 2 rfl
   have s2 := R0.out.free 2
   have r3 := R0.out.get 3 rfl
   have s3 := R0.out.free 3
   have r4 := R0.out.get 4 rfl
   have s4 := R0.out.free 4
   have r5 := R0.out.get 5 rfl
   have s5 := R0.out.free 5
   have r6 := R0.out.get 6 rfl
   have s6 := R0.out.free 6
   go_wp2_with fail
   have hR := ((((((((R0.out).set 0 (.int .i64 0)).set 1 (.slice none 0 0)).set 2 (.slice none 0 0)).set 3 (.slice none 0 0)).set 4 (.slice none 0 0)).set 5 (.slice none 0 0)).set 6 (.slice none 0 0))
   have hV := ((((((((NodeO.none W1 (w.heap.size + 1)).away (g := w.heap.size) (by omega) 0 (.int .i64 0)).away (g := w.heap.size) (by omega) 1 (.slice none 0 0)).away (g := w.heap.size) (by omega) 2 (.slice none 0 0)).away (g := w.heap.size) (by omega) 3 (.slice none 0 0)).away (g := w.heap.size) (by omega) 4 (.slice none 0 0)).away (g := w.heap.size) (by omega) 5 (.slice none 0 0)).away (g := w.heap.size) (by omega) 6 (.slice none 0 0))
   refine bodyPost_ret (results_cell_tmp rfl _ _ w.heap.size 44 _ (0, 0) _ rfl hR Tryz.underlying44 rfl Tryz.sizeNode) rfl ⟨_, rfl, hV, ?_⟩
   exact ((((((((HB0.out).setCell (by show w.heap.size ≤ w.heap.size; omega) _).setCell (by show w.heap.size ≤ w.heap.size; omega) _).setCell (by show w.heap.size ≤ w.heap.size; omega) _).setCell (by show w.heap.size ≤ w.heap.size; omega) _).setCell (by show w.heap.size ≤ w.heap.size; omega) _).setCell (by show w.heap.size ≤ w.heap.size; omega) _).setCell (by show w.heap.size ≤ w.heap.size; omega) _)
 ·have hE : 5 = E := by rw [← HE.out]; unfold startE; rw [if_neg (by omega)]
  have hc1 : n < 1 := by omega
  have hX := HXB.out (by rw [← hE]; decide)
  subst hX
  subst hE
  clear HXB
  go_enter Tryz.func57, Tryz.ntmps57
  go_upto_region 1 with fail
  rw [HW1.out]
  have r0 := R0.out.get 0 rfl
  have s0 := R0.out.free 0
  have r1 := R0.out.get 1 rfl
  have s1 := R0.out.free 1
  have r2 := R0.out.get 2 rfl
  have s2 := R0.out.free 2
  have r3 := R0.out.get 3 rfl
  have s3 := R0.out.free 3
  have r4 := R0.out.get 4 rfl
  have s4 := R0.out.free 4
  have r5 := R0.out.get 5 rfl
  have s5 := R0.out.free 5
  have r6 := R0.out.get 6 rfl
  have s6 := R0.out.free 6
  go_wp2_with fail
  have hR := ((((((((R0.out).set 0 (.int .i64 0)).set 1 (.slice none 0 0)).set 2 (.slice none 0 0)).set 3 (.slice none 0 0)).set 4 (.slice none 0 0)).set 5 (.slice none 0 0)).set 6 (.slice none 0 0))
  have hV := ((((((((NodeO.none W1 (w.heap.size + 1)).away (g := w.heap.size) (by omega) 0 (.int .i64 0)).away (g := w.heap.size) (by omega) 1 (.slice none 0 0)).away (g := w.heap.size) (by omega) 2 (.slice none 0 0)).away (g := w.heap.size) (by omega) 3 (.slice none 0 0)).away (g := w.heap.size) (by omega) 4 (.slice none 0 0)).away (g := w.heap.size) (by omega) 5 (.slice none 0 0)).away (g := w.heap.size) (by omega) 6 (.slice none 0 0))
  refine bodyPost_ret (results_cell_tmp rfl _ _ w.heap.size 44 _ (0, 0) _ rfl hR Tryz.underlying44 rfl Tryz.sizeNode) rfl ⟨_, rfl, hV, ?_⟩
  exact ((((((((HB0.out).setCell (by show w.heap.size ≤ w.heap.size; omega) _).setCell (by show w.heap.size ≤ w.heap.size; omega) _).setCell (by show w.heap.size ≤ w.heap.size; omega) _).setCell (by show w.heap.size ≤ w.heap.size; omega) _).setCell (by show w.heap.size ≤ w.heap.size; omega) _).setCell (by show w.heap.size ≤ w.heap.size; omega) _).setCell (by show w.heap.size ≤ w.heap.size; omega) _)
end Go.Proofs.YtbgeblafcbabaaaGreat
