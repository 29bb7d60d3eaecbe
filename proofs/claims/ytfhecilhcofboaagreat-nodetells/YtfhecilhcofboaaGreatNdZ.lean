/- node.Start. -/
import Derived.Test.YtfhecilhcofboaaGreatNdX
import Derived.Test.YtfhecilhcofboaaGreatNdPure
namespace Go.Proofs.YtfhecilhcofboaaGreat
open Go.RowKit

theorem Box.seven {w : World} {g : Nat} {x0 x1 x2 x3 x4 x5 x6 : Value} {t : TypeId} (h : Box w g [x0, x1, x2, x3, x4, x5, x6] t) :
  w.cell? ⟨g, 0, none⟩ = some x0 ∧ w.frozen? ⟨g, 0, none⟩ = false ∧ w.cell? ⟨g, 1, none⟩ = some x1 ∧ w.frozen? ⟨g, 1, none⟩ = false ∧ w.cell? ⟨g, 2, none⟩ = some x2 ∧ w.frozen? ⟨g, 2, none⟩ = false ∧ w.cell? ⟨g, 3, none⟩ = some x3 ∧ w.frozen? ⟨g, 3, none⟩ = false ∧ w.cell? ⟨g, 4, none⟩ = some x4 ∧ w.frozen? ⟨g, 4, none⟩ = false ∧ w.cell? ⟨g, 5, none⟩ = some x5 ∧ w.frozen? ⟨g, 5, none⟩ = false ∧ w.cell? ⟨g, 6, none⟩ = some x6 ∧ w.frozen? ⟨g, 6, none⟩ = false :=
 ⟨h.get 0 rfl, h.free 0, h.get 1 rfl, h.free 1, h.get 2 rfl, h.free 2, h.get 3 rfl, h.free 3, h.get 4 rfl, h.free 4, h.get 5 rfl, h.free 5, h.get 6 rfl, h.free 6⟩
theorem Below.set7b {n g : Nat} {w W : World} {v0 v1 v2 v3 v4 v5 v6 : Value} (h : Below n w W) (hg : n ≤ g) : Below n w (((((((W.setCell ⟨g, 0, none⟩ v0).setCell ⟨g, 1, none⟩ v1).setCell ⟨g, 2, none⟩ v2).setCell ⟨g, 3, none⟩ v3).setCell ⟨g, 4, none⟩ v4).setCell ⟨g, 5, none⟩ v5).setCell ⟨g, 6, none⟩ v6) :=
 (Below.setCell (Below.setCell (Below.setCell (Below.setCell (Below.setCell (Below.setCell (Below.setCell h (p := ⟨g, 0, none⟩) hg v0) (p := ⟨g, 1, none⟩) hg v1) (p := ⟨g, 2, none⟩) hg v2) (p := ⟨g, 3, none⟩) hg v3) (p := ⟨g, 4, none⟩) hg v4) (p := ⟨g, 5, none⟩) hg v5) (p := ⟨g, 6, none⟩) hg v6)
theorem kn_made (w : World) (B : Nat) {k : Nat} (hk : k ≤ 6) (hB : B ≤ w.heap.size) : KnOf (w.alloc (.cells (madeCells #[.slice none 0 0] k) 23)) B (.slice (some ⟨w.heap.size, 0, none⟩) k k) (List.replicate k []) := by
 have hb : Box (w.alloc (.cells (madeCells #[.slice none 0 0] k) 23)) w.heap.size (List.replicate k (.slice none 0 0)) 23 := by
  rw [made_known k hk]
  exact Box.new w _ _
 refine ⟨List.replicate k ([], .slice none 0 0), ⟨?_, fun q hq => ?_⟩, by simp⟩
 ·have h := ownsRow_blockK hb hB (n := k) (by simp) (by unfold maxLen; omega)
  simpa using h
 rw [List.eq_of_mem_replicate hq]
 exact own_none _ _
theorem set_rep {α : Type} {a b : α} {m k : Nat} (h : m < k) : (List.replicate m a ++ List.replicate (k - m) b).set m a = List.replicate (m + 1) a ++ List.replicate (k - (m + 1)) b := by
 obtain ⟨r, hr⟩ : ∃ r, k - m = r + 1 := ⟨k - m - 1, by omega⟩
 rw [hr, show k - (m + 1) = r by omega, List.set_append_right _ _ (by simp), List.replicate_succ (n := r), List.replicate_succ' (n := m)]
 simp
theorem NdV.fill {w : World} {B g : Nat} {i : Int} {x0 x1 x2 x3 x4 x5 x6 c l t b u kk : Value} {s : StS} {xs : List Int} {lg : List Upd} {ks : List (List Int)} (hb : Box w g [x0, x1, x2, x3, x4, x5, x6] 31) (hg : B ≤ g) (hs : StOwn w B (.agg #[c, l, t]) s) (h2 : Own w B b xs) (h3 : LogOf w B u lg) (h4 : KnOf w B kk ks) :
  NdV (((((((w.setCell ⟨g, 0, none⟩ (.int .i64 i)).setCell ⟨g, 1, none⟩ (c)).setCell ⟨g, 2, none⟩ (l)).setCell ⟨g, 3, none⟩ (t)).setCell ⟨g, 4, none⟩ (b)).setCell ⟨g, 5, none⟩ (u)).setCell ⟨g, 6, none⟩ (kk)) B g ⟨i, s, xs, lg, ks⟩ := by
 have kb_0 := hb.set 0 (.int .i64 i)
 have ks_0 := hs.setT hb (by decide) (by decide) (by decide) 0 (.int .i64 i)
 have k2_0 := h2.setT hb (by decide) 0 (.int .i64 i)
 have k3_0 := h3.setT hb (by decide) (by decide) 0 (.int .i64 i)
 have k4_0 := h4.setT hb (by decide) (by decide) 0 (.int .i64 i)
 have kb_1 := kb_0.set 1 (c)
 have ks_1 := ks_0.setT kb_0 (by decide) (by decide) (by decide) 1 (c)
 have k2_1 := k2_0.setT kb_0 (by decide) 1 (c)
 have k3_1 := k3_0.setT kb_0 (by decide) (by decide) 1 (c)
 have k4_1 := k4_0.setT kb_0 (by decide) (by decide) 1 (c)
 have kb_2 := kb_1.set 2 (l)
 have ks_2 := ks_1.setT kb_1 (by decide) (by decide) (by decide) 2 (l)
 have k2_2 := k2_1.setT kb_1 (by decide) 2 (l)
 have k3_2 := k3_1.setT kb_1 (by decide) (by decide) 2 (l)
 have k4_2 := k4_1.setT kb_1 (by decide) (by decide) 2 (l)
 have kb_3 := kb_2.set 3 (t)
 have ks_3 := ks_2.setT kb_2 (by decide) (by decide) (by decide) 3 (t)
 have k2_3 := k2_2.setT kb_2 (by decide) 3 (t)
 have k3_3 := k3_2.setT kb_2 (by decide) (by decide) 3 (t)
 have k4_3 := k4_2.setT kb_2 (by decide) (by decide) 3 (t)
 have kb_4 := kb_3.set 4 (b)
 have ks_4 := ks_3.setT kb_3 (by decide) (by decide) (by decide) 4 (b)
 have k2_4 := k2_3.setT kb_3 (by decide) 4 (b)
 have k3_4 := k3_3.setT kb_3 (by decide) (by decide) 4 (b)
 have k4_4 := k4_3.setT kb_3 (by decide) (by decide) 4 (b)
 have kb_5 := kb_4.set 5 (u)
 have ks_5 := ks_4.setT kb_4 (by decide) (by decide) (by decide) 5 (u)
 have k2_5 := k2_4.setT kb_4 (by decide) 5 (u)
 have k3_5 := k3_4.setT kb_4 (by decide) (by decide) 5 (u)
 have k4_5 := k4_4.setT kb_4 (by decide) (by decide) 5 (u)
 have kb_6 := kb_5.set 6 (kk)
 have ks_6 := ks_5.setT kb_5 (by decide) (by decide) (by decide) 6 (kk)
 have k2_6 := k2_5.setT kb_5 (by decide) 6 (kk)
 have k3_6 := k3_5.setT kb_5 (by decide) (by decide) 6 (kk)
 have k4_6 := k4_5.setT kb_5 (by decide) (by decide) 6 (kk)
 exact ⟨_, _, _, _, _, _, kb_6, hg, ks_6, k2_6, k3_6, k4_6⟩

set_option maxRecDepth 100000 in
set_option maxHeartbeats 8000000 in
theorem start_node (i n : Int) (w : World) :
  Calls Tryz.prog 5 #[.int .i64 i, .int .i64 n] w fun e w' => ∃ rv, e = .returned (.tuple #[rv, .int .i64 (startE i n)]) ∧ NodeO w' (w.heap.size + 1) rv (startX i n) ∧ Below w.heap.size w w' := by
 have hb1 := bpl w (.cells #[.int .i64 0, .slice none 0 0, .slice none 0 0, .slice none 0 0, .slice none 0 0, .slice none 0 0, .slice none 0 0] 31)
 have R0 := hide (Box.new w [.int .i64 0, .slice none 0 0, .slice none 0 0, .slice none 0 0, .slice none 0 0, .slice none 0 0, .slice none 0 0] 31)
 have HB0 := hide hb1
 clear hb1
 obtain ⟨W1, HW1⟩ : ∃ W1, Hid (w.alloc (.cells #[.int .i64 0, .slice none 0 0, .slice none 0 0, .slice none 0 0, .slice none 0 0, .slice none 0 0, .slice none 0 0] 31) = W1) := ⟨_, rfl⟩
 have hsz : Hid (W1.heap.size = w.heap.size + 1) := by unfold Hid; rw [← HW1.out, World.size_alloc]
 rw [HW1.out] at R0 HB0
 obtain ⟨E, HE⟩ : ∃ E, Hid (startE i n = E) := ⟨_, rfl⟩
 obtain ⟨X, HX⟩ : ∃ X, Hid (startX i n = X) := ⟨_, rfl⟩
 have HXB : Hid (¬ E = 0 → X = noNode) := fun hne => by rw [← HX.out]; unfold startX; rw [if_neg (by rw [HE.out]; exact hne)]
 rw [HE.out, HX.out]
 by_cases hn1 : 1 ≤ n
 ·by_cases hn6 : n ≤ 6
  ·obtain ⟨k, hk⟩ : ∃ k : Nat, n = k := ⟨n.toNat, by omega⟩
   subst hk
   have hk6 : k ≤ 6 := by omega
   have hk1 : 1 ≤ k := by omega
   have hc1 : ¬ ((k : Int) < 1) := by omega
   have hc6 : ¬ ((k : Int) > 6) := by omega
   have hc6' : ¬ (6 < (k : Int)) := by omega
   have hmk := fun w : World => run_make_clock hk6 w
   have hmn := fun w : World => run_make_known hk6 w
   obtain ⟨cs, HCS⟩ : ∃ cs, Hid (madeCells #[.int .i64 0] k = cs) := ⟨_, rfl⟩
   obtain ⟨ns, HNS⟩ : ∃ ns, Hid (madeCells #[.slice none 0 0] k = ns) := ⟨_, rfl⟩
   rw [HCS.out] at hmk
   rw [HNS.out] at hmn
   have hoz := hide (fun (w : World) (hB : W1.heap.size ≤ w.heap.size) => own_zero w W1.heap.size hk6 hB)
   have hkz := hide (fun (w : World) (hB : W1.heap.size ≤ w.heap.size) => kn_made w W1.heap.size hk6 hB)
   rw [HCS.out] at hoz
   rw [HNS.out] at hkz
   obtain ⟨S, HS⟩ : ∃ S, Hid ((⟨zeroC k, [], []⟩ : StS) = S) := ⟨_, rfl⟩
   have hst := hide (fun w : World => start_any hk6 w)
   rw [HS.out] at hst
   have HE1 : Hid ((if 0 ≤ i ∧ i < (k : Int) then 0 else 3) = E) := by unfold Hid; rw [← HE.out]; unfold startE; exact (if_pos (⟨hn1, hn6⟩ : (1 : Int) ≤ (k : Int) ∧ (k : Int) ≤ 6)).symm
   clear hn1 hn6
   go_enter Tryz.func5, Tryz.ntmps5
   go_upto_region 1 with fail
   rw [HW1.out]
   go_upto_region 3 with fail
   go_cut [6] (fun c wx => ∃ gd, c = .pointer (some ⟨gd, 0, none⟩) ∧ Hid (NdV wx W1.heap.size gd ⟨i, S, zeroC k, [], List.replicate k []⟩) ∧ Hid (Grew W1 wx))
   case first =>
    refine wp_region_held_drew (S := fun _ => True) (by kernel_rfl) trivial (fun hHeld => ?_)
    obtain ⟨wd, HWD⟩ : ∃ wd, Hid (W1.drew = wd) := ⟨_, rfl⟩
    have hg_ : Grew W1 wd := by rw [← HWD.out]; exact grew_drew (grew_refl W1)
    rw [HWD.out]
    refine ty 0 (.int .i64 i) ?_
    refine ty 1 (.int .i64 (k : Int)) ?_
    refine ty 3 (.int .i64 (k : Int)) ?_
    refine ty 5 (.int .i64 (k : Int)) ?_
    refine wpAnyH_ready (rs := [2, 4, 6, 8]) (by kernel_rfl) (by simp) ?_
    refine (rdc rfl (fun K hK => ?_) (rdc rfl (fun K hK => ?_) (rdc rfl (fun K hK => ?_) (rd1 rfl (fun K hK => ?_)))))
    ·go_simp
     refine (hst.out _).mono ?_
     rintro e w_2 ⟨rv_2, rfl, ho_2, hb_2⟩
     obtain ⟨x1_2, y1_2, x2_2, y2_2, x3_2, y3_2, hrv⟩ := ho_2.formW
     subst hrv
     have hst_2 := ho_2.base (C := W1.heap.size) hg_.size
     have hg_2 : Grew W1 w_2 := grew_step hg_ hb_2
     refine hK.out _ _ trivial (fun _ => ?_)
     clear hK K
     try simp only [Act.put, put1, put2, put3]
     refine wpAnyH_ready (rs := [4, 6, 8]) (by kernel_rfl) (by simp) ?_
     refine (rdc rfl (fun K hK => ?_) (rdc rfl (fun K hK => ?_) (rd1 rfl (fun K hK => ?_))))
     ·go_simp
      have hb_j := bpl w_2 (.cells cs 3)
      have ha_j := hoz.out w_2 hg_2.size
      obtain ⟨w_j, HW_j⟩ : ∃ wn, Hid (w_2.alloc (.cells cs 3) = wn) := ⟨_, rfl⟩
      rw [HW_j.out] at hb_j ha_j ⊢
      have hg_j : Grew W1 w_j := grew_step hg_2 hb_j
      have q2_j := hst_2.below hb_j (nlr _)
      refine hK.out _ _ trivial (fun _ => ?_)
      clear hK K
      try simp only [Act.put, put1, put2, put3]
      refine wpAnyH_ready (rs := [6, 8]) (by kernel_rfl) (by simp) ?_
      refine (rdc rfl (fun K hK => ?_) (rd1 rfl (fun K hK => ?_)))
      ·go_simp
       have hb_y := bpl w_j (.cells ns 23)
       have hk_y := hkz.out w_j hg_j.size
       obtain ⟨w_y, HW_y⟩ : ∃ wn, Hid (w_j.alloc (.cells ns 23) = wn) := ⟨_, rfl⟩
       rw [HW_y.out] at hb_y hk_y ⊢
       have hg_y : Grew W1 w_y := grew_step hg_j hb_y
       have q2_y := q2_j.below hb_y (nlr _)
       have q4_y := ha_j.below hb_y (nlr _)
       refine hK.out _ _ trivial (fun _ => ?_)
       clear hK K
       try simp only [Act.put, put1, put2, put3]
       refine ty 7 (.agg #[.int .i64 i, .slice x1_2 S.clock.length y1_2, .slice x2_2 S.lives.length y2_2, .slice x3_2 S.tals.length y3_2, .slice (some ⟨w_2.heap.size, 0, none⟩) k k, .slice none 0 0, .slice (some ⟨w_j.heap.size, 0, none⟩) k k]) ?_
       refine wr 8 fun K hK => ?_
       go_simp
       have hb_aq := bpl w_y (.cells #[.int .i64 0, .slice none 0 0, .slice none 0 0, .slice none 0 0, .slice none 0 0, .slice none 0 0, .slice none 0 0] 31)
       have hx_aq := Box.new w_y [.int .i64 0, .slice none 0 0, .slice none 0 0, .slice none 0 0, .slice none 0 0, .slice none 0 0, .slice none 0 0] 31
       obtain ⟨w_aq, HW_aq⟩ : ∃ wn, Hid (w_y.alloc (.cells #[.int .i64 0, .slice none 0 0, .slice none 0 0, .slice none 0 0, .slice none 0 0, .slice none 0 0, .slice none 0 0] 31) = wn) := ⟨_, rfl⟩
       rw [HW_aq.out] at hb_aq hx_aq ⊢
       have hg_aq : Grew W1 w_aq := grew_step hg_y hb_aq
       have q2_aq := q2_y.below hb_aq (nlr _)
       have q4_aq := q4_y.below hb_aq (nlr _)
       have q6_aq := hk_y.below hb_aq (nlr _)
       refine hK.out _ _ trivial (fun _ => ?_)
       clear hK K
       try simp only [Act.put, put1, put2, put3]
       have hge : W1.heap.size ≤ w_y.heap.size := hg_y.size
       have hN := NdV.fill (i := i) hx_aq hge q2_aq q4_aq (LogOf.nil _ _) q6_aq
       obtain ⟨c0, f0, c1, f1, c2, f2, c3, f3, c4, f4, c5, f5, c6, f6⟩ := hx_aq.seven
       refine wr 9 fun K hK => ?_
       go_simp
       refine hK.out _ _ trivial (fun _ => ?_)
       clear hK K
       try simp only [Act.put, put1, put2, put3]
       refine wpAnyH_done (by kernel_rfl) ?_ _
       go_wp2_with fail
       go_meet
       exact ⟨_, rfl, hN, Below.set7b hg_aq hge⟩
      go_simp
      have hb_z := bpl w_j (.cells #[.int .i64 0, .slice none 0 0, .slice none 0 0, .slice none 0 0, .slice none 0 0, .slice none 0 0, .slice none 0 0] 31)
      have hx_z := Box.new w_j [.int .i64 0, .slice none 0 0, .slice none 0 0, .slice none 0 0, .slice none 0 0, .slice none 0 0, .slice none 0 0] 31
      obtain ⟨w_z, HW_z⟩ : ∃ wn, Hid (w_j.alloc (.cells #[.int .i64 0, .slice none 0 0, .slice none 0 0, .slice none 0 0, .slice none 0 0, .slice none 0 0, .slice none 0 0] 31) = wn) := ⟨_, rfl⟩
      rw [HW_z.out] at hb_z hx_z ⊢
      have hg_z : Grew W1 w_z := grew_step hg_j hb_z
      have q2_z := q2_j.below hb_z (nlr _)
      have q4_z := ha_j.below hb_z (nlr _)
      refine hK.out _ _ trivial (fun _ => ?_)
      clear hK K
      try simp only [Act.put, put1, put2, put3]
      refine wr 6 fun K hK => ?_
      go_simp
      have hb_ar := bpl w_z (.cells ns 23)
      have hk_ar := hkz.out w_z hg_z.size
      obtain ⟨w_ar, HW_ar⟩ : ∃ wn, Hid (w_z.alloc (.cells ns 23) = wn) := ⟨_, rfl⟩
      rw [HW_ar.out] at hb_ar hk_ar ⊢
      have hg_ar : Grew W1 w_ar := grew_step hg_z hb_ar
      have q2_ar := q2_z.below hb_ar (nlr _)
      have q4_ar := q4_z.below hb_ar (nlr _)
      have q8_ar := hx_z.below hb_ar (nlr _)
      refine hK.out _ _ trivial (fun _ => ?_)
      clear hK K
      try simp only [Act.put, put1, put2, put3]
      refine ty 7 (.agg #[.int .i64 i, .slice x1_2 S.clock.length y1_2, .slice x2_2 S.lives.length y2_2, .slice x3_2 S.tals.length y3_2, .slice (some ⟨w_2.heap.size, 0, none⟩) k k, .slice none 0 0, .slice (some ⟨w_z.heap.size, 0, none⟩) k k]) ?_
      have hge : W1.heap.size ≤ w_j.heap.size := hg_j.size
      have hN := NdV.fill (i := i) q8_ar hge q2_ar q4_ar (LogOf.nil _ _) hk_ar
      obtain ⟨c0, f0, c1, f1, c2, f2, c3, f3, c4, f4, c5, f5, c6, f6⟩ := q8_ar.seven
      refine wr 9 fun K hK => ?_
      go_simp
      refine hK.out _ _ trivial (fun _ => ?_)
      clear hK K
      try simp only [Act.put, put1, put2, put3]
      refine wpAnyH_done (by kernel_rfl) ?_ _
      go_wp2_with fail
      go_meet
      exact ⟨_, rfl, hN, Below.set7b hg_ar hge⟩
     ·go_simp
      have hb_k := bpl w_2 (.cells ns 23)
      have hk_k := hkz.out w_2 hg_2.size
      obtain ⟨w_k, HW_k⟩ : ∃ wn, Hid (w_2.alloc (.cells ns 23) = wn) := ⟨_, rfl⟩
      rw [HW_k.out] at hb_k hk_k ⊢
      have hg_k : Grew W1 w_k := grew_step hg_2 hb_k
      have q2_k := hst_2.below hb_k (nlr _)
      refine hK.out _ _ trivial (fun _ => ?_)
      clear hK K
      try simp only [Act.put, put1, put2, put3]
      refine wpAnyH_ready (rs := [4, 8]) (by kernel_rfl) (by simp) ?_
      refine (rdc rfl (fun K hK => ?_) (rd1 rfl (fun K hK => ?_)))
      ·go_simp
       have hb_aa := bpl w_k (.cells cs 3)
       have ha_aa := hoz.out w_k hg_k.size
       obtain ⟨w_aa, HW_aa⟩ : ∃ wn, Hid (w_k.alloc (.cells cs 3) = wn) := ⟨_, rfl⟩
       rw [HW_aa.out] at hb_aa ha_aa ⊢
       have hg_aa : Grew W1 w_aa := grew_step hg_k hb_aa
       have q2_aa := q2_k.below hb_aa (nlr _)
       have q6_aa := hk_k.below hb_aa (nlr _)
       refine hK.out _ _ trivial (fun _ => ?_)
       clear hK K
       try simp only [Act.put, put1, put2, put3]
       refine ty 7 (.agg #[.int .i64 i, .slice x1_2 S.clock.length y1_2, .slice x2_2 S.lives.length y2_2, .slice x3_2 S.tals.length y3_2, .slice (some ⟨w_k.heap.size, 0, none⟩) k k, .slice none 0 0, .slice (some ⟨w_2.heap.size, 0, none⟩) k k]) ?_
       refine wr 8 fun K hK => ?_
       go_simp
       have hb_as := bpl w_aa (.cells #[.int .i64 0, .slice none 0 0, .slice none 0 0, .slice none 0 0, .slice none 0 0, .slice none 0 0, .slice none 0 0] 31)
       have hx_as := Box.new w_aa [.int .i64 0, .slice none 0 0, .slice none 0 0, .slice none 0 0, .slice none 0 0, .slice none 0 0, .slice none 0 0] 31
       obtain ⟨w_as, HW_as⟩ : ∃ wn, Hid (w_aa.alloc (.cells #[.int .i64 0, .slice none 0 0, .slice none 0 0, .slice none 0 0, .slice none 0 0, .slice none 0 0, .slice none 0 0] 31) = wn) := ⟨_, rfl⟩
       rw [HW_as.out] at hb_as hx_as ⊢
       have hg_as : Grew W1 w_as := grew_step hg_aa hb_as
       have q2_as := q2_aa.below hb_as (nlr _)
       have q4_as := ha_aa.below hb_as (nlr _)
       have q6_as := q6_aa.below hb_as (nlr _)
       refine hK.out _ _ trivial (fun _ => ?_)
       clear hK K
       try simp only [Act.put, put1, put2, put3]
       have hge : W1.heap.size ≤ w_aa.heap.size := hg_aa.size
       have hN := NdV.fill (i := i) hx_as hge q2_as q4_as (LogOf.nil _ _) q6_as
       obtain ⟨c0, f0, c1, f1, c2, f2, c3, f3, c4, f4, c5, f5, c6, f6⟩ := hx_as.seven
       refine wr 9 fun K hK => ?_
       go_simp
       refine hK.out _ _ trivial (fun _ => ?_)
       clear hK K
       try simp only [Act.put, put1, put2, put3]
       refine wpAnyH_done (by kernel_rfl) ?_ _
       go_wp2_with fail
       go_meet
       exact ⟨_, rfl, hN, Below.set7b hg_as hge⟩
      go_simp
      have hb_ab := bpl w_k (.cells #[.int .i64 0, .slice none 0 0, .slice none 0 0, .slice none 0 0, .slice none 0 0, .slice none 0 0, .slice none 0 0] 31)
      have hx_ab := Box.new w_k [.int .i64 0, .slice none 0 0, .slice none 0 0, .slice none 0 0, .slice none 0 0, .slice none 0 0, .slice none 0 0] 31
      obtain ⟨w_ab, HW_ab⟩ : ∃ wn, Hid (w_k.alloc (.cells #[.int .i64 0, .slice none 0 0, .slice none 0 0, .slice none 0 0, .slice none 0 0, .slice none 0 0, .slice none 0 0] 31) = wn) := ⟨_, rfl⟩
      rw [HW_ab.out] at hb_ab hx_ab ⊢
      have hg_ab : Grew W1 w_ab := grew_step hg_k hb_ab
      have q2_ab := q2_k.below hb_ab (nlr _)
      have q6_ab := hk_k.below hb_ab (nlr _)
      refine hK.out _ _ trivial (fun _ => ?_)
      clear hK K
      try simp only [Act.put, put1, put2, put3]
      refine wr 4 fun K hK => ?_
      go_simp
      have hb_at := bpl w_ab (.cells cs 3)
      have ha_at := hoz.out w_ab hg_ab.size
      obtain ⟨w_at, HW_at⟩ : ∃ wn, Hid (w_ab.alloc (.cells cs 3) = wn) := ⟨_, rfl⟩
      rw [HW_at.out] at hb_at ha_at ⊢
      have hg_at : Grew W1 w_at := grew_step hg_ab hb_at
      have q2_at := q2_ab.below hb_at (nlr _)
      have q6_at := q6_ab.below hb_at (nlr _)
      have q8_at := hx_ab.below hb_at (nlr _)
      refine hK.out _ _ trivial (fun _ => ?_)
      clear hK K
      try simp only [Act.put, put1, put2, put3]
      refine ty 7 (.agg #[.int .i64 i, .slice x1_2 S.clock.length y1_2, .slice x2_2 S.lives.length y2_2, .slice x3_2 S.tals.length y3_2, .slice (some ⟨w_ab.heap.size, 0, none⟩) k k, .slice none 0 0, .slice (some ⟨w_2.heap.size, 0, none⟩) k k]) ?_
      have hge : W1.heap.size ≤ w_k.heap.size := hg_k.size
      have hN := NdV.fill (i := i) q8_at hge q2_at ha_at (LogOf.nil _ _) q6_at
      obtain ⟨c0, f0, c1, f1, c2, f2, c3, f3, c4, f4, c5, f5, c6, f6⟩ := q8_at.seven
      refine wr 9 fun K hK => ?_
      go_simp
      refine hK.out _ _ trivial (fun _ => ?_)
      clear hK K
      try simp only [Act.put, put1, put2, put3]
      refine wpAnyH_done (by kernel_rfl) ?_ _
      go_wp2_with fail
      go_meet
      exact ⟨_, rfl, hN, Below.set7b hg_at hge⟩
     go_simp
     have hb_l := bpl w_2 (.cells #[.int .i64 0, .slice none 0 0, .slice none 0 0, .slice none 0 0, .slice none 0 0, .slice none 0 0, .slice none 0 0] 31)
     have hx_l := Box.new w_2 [.int .i64 0, .slice none 0 0, .slice none 0 0, .slice none 0 0, .slice none 0 0, .slice none 0 0, .slice none 0 0] 31
     obtain ⟨w_l, HW_l⟩ : ∃ wn, Hid (w_2.alloc (.cells #[.int .i64 0, .slice none 0 0, .slice none 0 0, .slice none 0 0, .slice none 0 0, .slice none 0 0, .slice none 0 0] 31) = wn) := ⟨_, rfl⟩
     rw [HW_l.out] at hb_l hx_l ⊢
     have hg_l : Grew W1 w_l := grew_step hg_2 hb_l
     have q2_l := hst_2.below hb_l (nlr _)
     refine hK.out _ _ trivial (fun _ => ?_)
     clear hK K
     try simp only [Act.put, put1, put2, put3]
     refine wpAnyH_ready (rs := [4, 6]) (by kernel_rfl) (by simp) ?_
     refine (rdc rfl (fun K hK => ?_) (rd1 rfl (fun K hK => ?_)))
     ·go_simp
      have hb_ac := bpl w_l (.cells cs 3)
      have ha_ac := hoz.out w_l hg_l.size
      obtain ⟨w_ac, HW_ac⟩ : ∃ wn, Hid (w_l.alloc (.cells cs 3) = wn) := ⟨_, rfl⟩
      rw [HW_ac.out] at hb_ac ha_ac ⊢
      have hg_ac : Grew W1 w_ac := grew_step hg_l hb_ac
      have q2_ac := q2_l.below hb_ac (nlr _)
      have q8_ac := hx_l.below hb_ac (nlr _)
      refine hK.out _ _ trivial (fun _ => ?_)
      clear hK K
      try simp only [Act.put, put1, put2, put3]
      refine wr 6 fun K hK => ?_
      go_simp
      have hb_au := bpl w_ac (.cells ns 23)
      have hk_au := hkz.out w_ac hg_ac.size
      obtain ⟨w_au, HW_au⟩ : ∃ wn, Hid (w_ac.alloc (.cells ns 23) = wn) := ⟨_, rfl⟩
      rw [HW_au.out] at hb_au hk_au ⊢
      have hg_au : Grew W1 w_au := grew_step hg_ac hb_au
      have q2_au := q2_ac.below hb_au (nlr _)
      have q4_au := ha_ac.below hb_au (nlr _)
      have q8_au := q8_ac.below hb_au (nlr _)
      refine hK.out _ _ trivial (fun _ => ?_)
      clear hK K
      try simp only [Act.put, put1, put2, put3]
      refine ty 7 (.agg #[.int .i64 i, .slice x1_2 S.clock.length y1_2, .slice x2_2 S.lives.length y2_2, .slice x3_2 S.tals.length y3_2, .slice (some ⟨w_l.heap.size, 0, none⟩) k k, .slice none 0 0, .slice (some ⟨w_ac.heap.size, 0, none⟩) k k]) ?_
      have hge : W1.heap.size ≤ w_2.heap.size := hg_2.size
      have hN := NdV.fill (i := i) q8_au hge q2_au q4_au (LogOf.nil _ _) hk_au
      obtain ⟨c0, f0, c1, f1, c2, f2, c3, f3, c4, f4, c5, f5, c6, f6⟩ := q8_au.seven
      refine wr 9 fun K hK => ?_
      go_simp
      refine hK.out _ _ trivial (fun _ => ?_)
      clear hK K
      try simp only [Act.put, put1, put2, put3]
      refine wpAnyH_done (by kernel_rfl) ?_ _
      go_wp2_with fail
      go_meet
      exact ⟨_, rfl, hN, Below.set7b hg_au hge⟩
     go_simp
     have hb_ad := bpl w_l (.cells ns 23)
     have hk_ad := hkz.out w_l hg_l.size
     obtain ⟨w_ad, HW_ad⟩ : ∃ wn, Hid (w_l.alloc (.cells ns 23) = wn) := ⟨_, rfl⟩
     rw [HW_ad.out] at hb_ad hk_ad ⊢
     have hg_ad : Grew W1 w_ad := grew_step hg_l hb_ad
     have q2_ad := q2_l.below hb_ad (nlr _)
     have q8_ad := hx_l.below hb_ad (nlr _)
     refine hK.out _ _ trivial (fun _ => ?_)
     clear hK K
     try simp only [Act.put, put1, put2, put3]
     refine wr 4 fun K hK => ?_
     go_simp
     have hb_av := bpl w_ad (.cells cs 3)
     have ha_av := hoz.out w_ad hg_ad.size
     obtain ⟨w_av, HW_av⟩ : ∃ wn, Hid (w_ad.alloc (.cells cs 3) = wn) := ⟨_, rfl⟩
     rw [HW_av.out] at hb_av ha_av ⊢
     have hg_av : Grew W1 w_av := grew_step hg_ad hb_av
     have q2_av := q2_ad.below hb_av (nlr _)
     have q6_av := hk_ad.below hb_av (nlr _)
     have q8_av := q8_ad.below hb_av (nlr _)
     refine hK.out _ _ trivial (fun _ => ?_)
     clear hK K
     try simp only [Act.put, put1, put2, put3]
     refine ty 7 (.agg #[.int .i64 i, .slice x1_2 S.clock.length y1_2, .slice x2_2 S.lives.length y2_2, .slice x3_2 S.tals.length y3_2, .slice (some ⟨w_ad.heap.size, 0, none⟩) k k, .slice none 0 0, .slice (some ⟨w_l.heap.size, 0, none⟩) k k]) ?_
     have hge : W1.heap.size ≤ w_2.heap.size := hg_2.size
     have hN := NdV.fill (i := i) q8_av hge q2_av ha_av (LogOf.nil _ _) q6_av
     obtain ⟨c0, f0, c1, f1, c2, f2, c3, f3, c4, f4, c5, f5, c6, f6⟩ := q8_av.seven
     refine wr 9 fun K hK => ?_
     go_simp
     refine hK.out _ _ trivial (fun _ => ?_)
     clear hK K
     try simp only [Act.put, put1, put2, put3]
     refine wpAnyH_done (by kernel_rfl) ?_ _
     go_wp2_with fail
     go_meet
     exact ⟨_, rfl, hN, Below.set7b hg_av hge⟩
    ·go_simp
     have hb_4 := bpl wd (.cells cs 3)
     have ha_4 := hoz.out wd hg_.size
     obtain ⟨w_4, HW_4⟩ : ∃ wn, Hid (wd.alloc (.cells cs 3) = wn) := ⟨_, rfl⟩
     rw [HW_4.out] at hb_4 ha_4 ⊢
     have hg_4 : Grew W1 w_4 := grew_step hg_ hb_4
     refine hK.out _ _ trivial (fun _ => ?_)
     clear hK K
     try simp only [Act.put, put1, put2, put3]
     refine wpAnyH_ready (rs := [2, 6, 8]) (by kernel_rfl) (by simp) ?_
     refine (rdc rfl (fun K hK => ?_) (rdc rfl (fun K hK => ?_) (rd1 rfl (fun K hK => ?_))))
     ·go_simp
      refine (hst.out _).mono ?_
      rintro e w_a ⟨rv_a, rfl, ho_a, hb_a⟩
      obtain ⟨x1_a, y1_a, x2_a, y2_a, x3_a, y3_a, hrv⟩ := ho_a.formW
      subst hrv
      have hst_a := ho_a.base (C := W1.heap.size) hg_4.size
      have hg_a : Grew W1 w_a := grew_step hg_4 hb_a
      have q4_a := ha_4.below hb_a (nlr _)
      refine hK.out _ _ trivial (fun _ => ?_)
      clear hK K
      try simp only [Act.put, put1, put2, put3]
      refine wpAnyH_ready (rs := [6, 8]) (by kernel_rfl) (by simp) ?_
      refine (rdc rfl (fun K hK => ?_) (rd1 rfl (fun K hK => ?_)))
      ·go_simp
       have hb_ae := bpl w_a (.cells ns 23)
       have hk_ae := hkz.out w_a hg_a.size
       obtain ⟨w_ae, HW_ae⟩ : ∃ wn, Hid (w_a.alloc (.cells ns 23) = wn) := ⟨_, rfl⟩
       rw [HW_ae.out] at hb_ae hk_ae ⊢
       have hg_ae : Grew W1 w_ae := grew_step hg_a hb_ae
       have q2_ae := hst_a.below hb_ae (nlr _)
       have q4_ae := q4_a.below hb_ae (nlr _)
       refine hK.out _ _ trivial (fun _ => ?_)
       clear hK K
       try simp only [Act.put, put1, put2, put3]
       refine ty 7 (.agg #[.int .i64 i, .slice x1_a S.clock.length y1_a, .slice x2_a S.lives.length y2_a, .slice x3_a S.tals.length y3_a, .slice (some ⟨wd.heap.size, 0, none⟩) k k, .slice none 0 0, .slice (some ⟨w_a.heap.size, 0, none⟩) k k]) ?_
       refine wr 8 fun K hK => ?_
       go_simp
       have hb_aw := bpl w_ae (.cells #[.int .i64 0, .slice none 0 0, .slice none 0 0, .slice none 0 0, .slice none 0 0, .slice none 0 0, .slice none 0 0] 31)
       have hx_aw := Box.new w_ae [.int .i64 0, .slice none 0 0, .slice none 0 0, .slice none 0 0, .slice none 0 0, .slice none 0 0, .slice none 0 0] 31
       obtain ⟨w_aw, HW_aw⟩ : ∃ wn, Hid (w_ae.alloc (.cells #[.int .i64 0, .slice none 0 0, .slice none 0 0, .slice none 0 0, .slice none 0 0, .slice none 0 0, .slice none 0 0] 31) = wn) := ⟨_, rfl⟩
       rw [HW_aw.out] at hb_aw hx_aw ⊢
       have hg_aw : Grew W1 w_aw := grew_step hg_ae hb_aw
       have q2_aw := q2_ae.below hb_aw (nlr _)
       have q4_aw := q4_ae.below hb_aw (nlr _)
       have q6_aw := hk_ae.below hb_aw (nlr _)
       refine hK.out _ _ trivial (fun _ => ?_)
       clear hK K
       try simp only [Act.put, put1, put2, put3]
       have hge : W1.heap.size ≤ w_ae.heap.size := hg_ae.size
       have hN := NdV.fill (i := i) hx_aw hge q2_aw q4_aw (LogOf.nil _ _) q6_aw
       obtain ⟨c0, f0, c1, f1, c2, f2, c3, f3, c4, f4, c5, f5, c6, f6⟩ := hx_aw.seven
       refine wr 9 fun K hK => ?_
       go_simp
       refine hK.out _ _ trivial (fun _ => ?_)
       clear hK K
       try simp only [Act.put, put1, put2, put3]
       refine wpAnyH_done (by kernel_rfl) ?_ _
       go_wp2_with fail
       go_meet
       exact ⟨_, rfl, hN, Below.set7b hg_aw hge⟩
      go_simp
      have hb_af := bpl w_a (.cells #[.int .i64 0, .slice none 0 0, .slice none 0 0, .slice none 0 0, .slice none 0 0, .slice none 0 0, .slice none 0 0] 31)
      have hx_af := Box.new w_a [.int .i64 0, .slice none 0 0, .slice none 0 0, .slice none 0 0, .slice none 0 0, .slice none 0 0, .slice none 0 0] 31
      obtain ⟨w_af, HW_af⟩ : ∃ wn, Hid (w_a.alloc (.cells #[.int .i64 0, .slice none 0 0, .slice none 0 0, .slice none 0 0, .slice none 0 0, .slice none 0 0, .slice none 0 0] 31) = wn) := ⟨_, rfl⟩
      rw [HW_af.out] at hb_af hx_af ⊢
      have hg_af : Grew W1 w_af := grew_step hg_a hb_af
      have q2_af := hst_a.below hb_af (nlr _)
      have q4_af := q4_a.below hb_af (nlr _)
      refine hK.out _ _ trivial (fun _ => ?_)
      clear hK K
      try simp only [Act.put, put1, put2, put3]
      refine wr 6 fun K hK => ?_
      go_simp
      have hb_ax := bpl w_af (.cells ns 23)
      have hk_ax := hkz.out w_af hg_af.size
      obtain ⟨w_ax, HW_ax⟩ : ∃ wn, Hid (w_af.alloc (.cells ns 23) = wn) := ⟨_, rfl⟩
      rw [HW_ax.out] at hb_ax hk_ax ⊢
      have hg_ax : Grew W1 w_ax := grew_step hg_af hb_ax
      have q2_ax := q2_af.below hb_ax (nlr _)
      have q4_ax := q4_af.below hb_ax (nlr _)
      have q8_ax := hx_af.below hb_ax (nlr _)
      refine hK.out _ _ trivial (fun _ => ?_)
      clear hK K
      try simp only [Act.put, put1, put2, put3]
      refine ty 7 (.agg #[.int .i64 i, .slice x1_a S.clock.length y1_a, .slice x2_a S.lives.length y2_a, .slice x3_a S.tals.length y3_a, .slice (some ⟨wd.heap.size, 0, none⟩) k k, .slice none 0 0, .slice (some ⟨w_af.heap.size, 0, none⟩) k k]) ?_
      have hge : W1.heap.size ≤ w_a.heap.size := hg_a.size
      have hN := NdV.fill (i := i) q8_ax hge q2_ax q4_ax (LogOf.nil _ _) hk_ax
      obtain ⟨c0, f0, c1, f1, c2, f2, c3, f3, c4, f4, c5, f5, c6, f6⟩ := q8_ax.seven
      refine wr 9 fun K hK => ?_
      go_simp
      refine hK.out _ _ trivial (fun _ => ?_)
      clear hK K
      try simp only [Act.put, put1, put2, put3]
      refine wpAnyH_done (by kernel_rfl) ?_ _
      go_wp2_with fail
      go_meet
      exact ⟨_, rfl, hN, Below.set7b hg_ax hge⟩
     ·go_simp
      have hb_d := bpl w_4 (.cells ns 23)
      have hk_d := hkz.out w_4 hg_4.size
      obtain ⟨w_d, HW_d⟩ : ∃ wn, Hid (w_4.alloc (.cells ns 23) = wn) := ⟨_, rfl⟩
      rw [HW_d.out] at hb_d hk_d ⊢
      have hg_d : Grew W1 w_d := grew_step hg_4 hb_d
      have q4_d := ha_4.below hb_d (nlr _)
      refine hK.out _ _ trivial (fun _ => ?_)
      clear hK K
      try simp only [Act.put, put1, put2, put3]
      refine wpAnyH_ready (rs := [2, 8]) (by kernel_rfl) (by simp) ?_
      refine (rdc rfl (fun K hK => ?_) (rd1 rfl (fun K hK => ?_)))
      ·go_simp
       refine (hst.out _).mono ?_
       rintro e w_m ⟨rv_m, rfl, ho_m, hb_m⟩
       obtain ⟨x1_m, y1_m, x2_m, y2_m, x3_m, y3_m, hrv⟩ := ho_m.formW
       subst hrv
       have hst_m := ho_m.base (C := W1.heap.size) hg_d.size
       have hg_m : Grew W1 w_m := grew_step hg_d hb_m
       have q4_m := q4_d.below hb_m (nlr _)
       have q6_m := hk_d.below hb_m (nlr _)
       refine hK.out _ _ trivial (fun _ => ?_)
       clear hK K
       try simp only [Act.put, put1, put2, put3]
       refine ty 7 (.agg #[.int .i64 i, .slice x1_m S.clock.length y1_m, .slice x2_m S.lives.length y2_m, .slice x3_m S.tals.length y3_m, .slice (some ⟨wd.heap.size, 0, none⟩) k k, .slice none 0 0, .slice (some ⟨w_4.heap.size, 0, none⟩) k k]) ?_
       refine wr 8 fun K hK => ?_
       go_simp
       have hb_ay := bpl w_m (.cells #[.int .i64 0, .slice none 0 0, .slice none 0 0, .slice none 0 0, .slice none 0 0, .slice none 0 0, .slice none 0 0] 31)
       have hx_ay := Box.new w_m [.int .i64 0, .slice none 0 0, .slice none 0 0, .slice none 0 0, .slice none 0 0, .slice none 0 0, .slice none 0 0] 31
       obtain ⟨w_ay, HW_ay⟩ : ∃ wn, Hid (w_m.alloc (.cells #[.int .i64 0, .slice none 0 0, .slice none 0 0, .slice none 0 0, .slice none 0 0, .slice none 0 0, .slice none 0 0] 31) = wn) := ⟨_, rfl⟩
       rw [HW_ay.out] at hb_ay hx_ay ⊢
       have hg_ay : Grew W1 w_ay := grew_step hg_m hb_ay
       have q2_ay := hst_m.below hb_ay (nlr _)
       have q4_ay := q4_m.below hb_ay (nlr _)
       have q6_ay := q6_m.below hb_ay (nlr _)
       refine hK.out _ _ trivial (fun _ => ?_)
       clear hK K
       try simp only [Act.put, put1, put2, put3]
       have hge : W1.heap.size ≤ w_m.heap.size := hg_m.size
       have hN := NdV.fill (i := i) hx_ay hge q2_ay q4_ay (LogOf.nil _ _) q6_ay
       obtain ⟨c0, f0, c1, f1, c2, f2, c3, f3, c4, f4, c5, f5, c6, f6⟩ := hx_ay.seven
       refine wr 9 fun K hK => ?_
       go_simp
       refine hK.out _ _ trivial (fun _ => ?_)
       clear hK K
       try simp only [Act.put, put1, put2, put3]
       refine wpAnyH_done (by kernel_rfl) ?_ _
       go_wp2_with fail
       go_meet
       exact ⟨_, rfl, hN, Below.set7b hg_ay hge⟩
      go_simp
      have hb_s := bpl w_d (.cells #[.int .i64 0, .slice none 0 0, .slice none 0 0, .slice none 0 0, .slice none 0 0, .slice none 0 0, .slice none 0 0] 31)
      have hx_s := Box.new w_d [.int .i64 0, .slice none 0 0, .slice none 0 0, .slice none 0 0, .slice none 0 0, .slice none 0 0, .slice none 0 0] 31
      obtain ⟨w_s, HW_s⟩ : ∃ wn, Hid (w_d.alloc (.cells #[.int .i64 0, .slice none 0 0, .slice none 0 0, .slice none 0 0, .slice none 0 0, .slice none 0 0, .slice none 0 0] 31) = wn) := ⟨_, rfl⟩
      rw [HW_s.out] at hb_s hx_s ⊢
      have hg_s : Grew W1 w_s := grew_step hg_d hb_s
      have q4_s := q4_d.below hb_s (nlr _)
      have q6_s := hk_d.below hb_s (nlr _)
      refine hK.out _ _ trivial (fun _ => ?_)
      clear hK K
      try simp only [Act.put, put1, put2, put3]
      refine wr 2 fun K hK => ?_
      go_simp
      refine (hst.out _).mono ?_
      rintro e w_ak ⟨rv_ak, rfl, ho_ak, hb_ak⟩
      obtain ⟨x1_ak, y1_ak, x2_ak, y2_ak, x3_ak, y3_ak, hrv⟩ := ho_ak.formW
      subst hrv
      have hst_ak := ho_ak.base (C := W1.heap.size) hg_s.size
      have hg_ak : Grew W1 w_ak := grew_step hg_s hb_ak
      have q4_ak := q4_s.below hb_ak (nlr _)
      have q6_ak := q6_s.below hb_ak (nlr _)
      have q8_ak := hx_s.below hb_ak (nlr _)
      refine hK.out _ _ trivial (fun _ => ?_)
      clear hK K
      try simp only [Act.put, put1, put2, put3]
      refine ty 7 (.agg #[.int .i64 i, .slice x1_ak S.clock.length y1_ak, .slice x2_ak S.lives.length y2_ak, .slice x3_ak S.tals.length y3_ak, .slice (some ⟨wd.heap.size, 0, none⟩) k k, .slice none 0 0, .slice (some ⟨w_4.heap.size, 0, none⟩) k k]) ?_
      have hge : W1.heap.size ≤ w_d.heap.size := hg_d.size
      have hN := NdV.fill (i := i) q8_ak hge hst_ak q4_ak (LogOf.nil _ _) q6_ak
      obtain ⟨c0, f0, c1, f1, c2, f2, c3, f3, c4, f4, c5, f5, c6, f6⟩ := q8_ak.seven
      refine wr 9 fun K hK => ?_
      go_simp
      refine hK.out _ _ trivial (fun _ => ?_)
      clear hK K
      try simp only [Act.put, put1, put2, put3]
      refine wpAnyH_done (by kernel_rfl) ?_ _
      go_wp2_with fail
      go_meet
      exact ⟨_, rfl, hN, Below.set7b hg_ak hge⟩
     go_simp
     have hb_e := bpl w_4 (.cells #[.int .i64 0, .slice none 0 0, .slice none 0 0, .slice none 0 0, .slice none 0 0, .slice none 0 0, .slice none 0 0] 31)
     have hx_e := Box.new w_4 [.int .i64 0, .slice none 0 0, .slice none 0 0, .slice none 0 0, .slice none 0 0, .slice none 0 0, .slice none 0 0] 31
     obtain ⟨w_e, HW_e⟩ : ∃ wn, Hid (w_4.alloc (.cells #[.int .i64 0, .slice none 0 0, .slice none 0 0, .slice none 0 0, .slice none 0 0, .slice none 0 0, .slice none 0 0] 31) = wn) := ⟨_, rfl⟩
     rw [HW_e.out] at hb_e hx_e ⊢
     have hg_e : Grew W1 w_e := grew_step hg_4 hb_e
     have q4_e := ha_4.below hb_e (nlr _)
     refine hK.out _ _ trivial (fun _ => ?_)
     clear hK K
     try simp only [Act.put, put1, put2, put3]
     refine wpAnyH_ready (rs := [2, 6]) (by kernel_rfl) (by simp) ?_
     refine (rdc rfl (fun K hK => ?_) (rd1 rfl (fun K hK => ?_)))
     ·go_simp
      refine (hst.out _).mono ?_
      rintro e w_n ⟨rv_n, rfl, ho_n, hb_n⟩
      obtain ⟨x1_n, y1_n, x2_n, y2_n, x3_n, y3_n, hrv⟩ := ho_n.formW
      subst hrv
      have hst_n := ho_n.base (C := W1.heap.size) hg_e.size
      have hg_n : Grew W1 w_n := grew_step hg_e hb_n
      have q4_n := q4_e.below hb_n (nlr _)
      have q8_n := hx_e.below hb_n (nlr _)
      refine hK.out _ _ trivial (fun _ => ?_)
      clear hK K
      try simp only [Act.put, put1, put2, put3]
      refine wr 6 fun K hK => ?_
      go_simp
      have hb_az := bpl w_n (.cells ns 23)
      have hk_az := hkz.out w_n hg_n.size
      obtain ⟨w_az, HW_az⟩ : ∃ wn, Hid (w_n.alloc (.cells ns 23) = wn) := ⟨_, rfl⟩
      rw [HW_az.out] at hb_az hk_az ⊢
      have hg_az : Grew W1 w_az := grew_step hg_n hb_az
      have q2_az := hst_n.below hb_az (nlr _)
      have q4_az := q4_n.below hb_az (nlr _)
      have q8_az := q8_n.below hb_az (nlr _)
      refine hK.out _ _ trivial (fun _ => ?_)
      clear hK K
      try simp only [Act.put, put1, put2, put3]
      refine ty 7 (.agg #[.int .i64 i, .slice x1_n S.clock.length y1_n, .slice x2_n S.lives.length y2_n, .slice x3_n S.tals.length y3_n, .slice (some ⟨wd.heap.size, 0, none⟩) k k, .slice none 0 0, .slice (some ⟨w_n.heap.size, 0, none⟩) k k]) ?_
      have hge : W1.heap.size ≤ w_4.heap.size := hg_4.size
      have hN := NdV.fill (i := i) q8_az hge q2_az q4_az (LogOf.nil _ _) hk_az
      obtain ⟨c0, f0, c1, f1, c2, f2, c3, f3, c4, f4, c5, f5, c6, f6⟩ := q8_az.seven
      refine wr 9 fun K hK => ?_
      go_simp
      refine hK.out _ _ trivial (fun _ => ?_)
      clear hK K
      try simp only [Act.put, put1, put2, put3]
      refine wpAnyH_done (by kernel_rfl) ?_ _
      go_wp2_with fail
      go_meet
      exact ⟨_, rfl, hN, Below.set7b hg_az hge⟩
     go_simp
     have hb_t := bpl w_e (.cells ns 23)
     have hk_t := hkz.out w_e hg_e.size
     obtain ⟨w_t, HW_t⟩ : ∃ wn, Hid (w_e.alloc (.cells ns 23) = wn) := ⟨_, rfl⟩
     rw [HW_t.out] at hb_t hk_t ⊢
     have hg_t : Grew W1 w_t := grew_step hg_e hb_t
     have q4_t := q4_e.below hb_t (nlr _)
     have q8_t := hx_e.below hb_t (nlr _)
     refine hK.out _ _ trivial (fun _ => ?_)
     clear hK K
     try simp only [Act.put, put1, put2, put3]
     refine wr 2 fun K hK => ?_
     go_simp
     refine (hst.out _).mono ?_
     rintro e w_al ⟨rv_al, rfl, ho_al, hb_al⟩
     obtain ⟨x1_al, y1_al, x2_al, y2_al, x3_al, y3_al, hrv⟩ := ho_al.formW
     subst hrv
     have hst_al := ho_al.base (C := W1.heap.size) hg_t.size
     have hg_al : Grew W1 w_al := grew_step hg_t hb_al
     have q4_al := q4_t.below hb_al (nlr _)
     have q6_al := hk_t.below hb_al (nlr _)
     have q8_al := q8_t.below hb_al (nlr _)
     refine hK.out _ _ trivial (fun _ => ?_)
     clear hK K
     try simp only [Act.put, put1, put2, put3]
     refine ty 7 (.agg #[.int .i64 i, .slice x1_al S.clock.length y1_al, .slice x2_al S.lives.length y2_al, .slice x3_al S.tals.length y3_al, .slice (some ⟨wd.heap.size, 0, none⟩) k k, .slice none 0 0, .slice (some ⟨w_e.heap.size, 0, none⟩) k k]) ?_
     have hge : W1.heap.size ≤ w_4.heap.size := hg_4.size
     have hN := NdV.fill (i := i) q8_al hge hst_al q4_al (LogOf.nil _ _) q6_al
     obtain ⟨c0, f0, c1, f1, c2, f2, c3, f3, c4, f4, c5, f5, c6, f6⟩ := q8_al.seven
     refine wr 9 fun K hK => ?_
     go_simp
     refine hK.out _ _ trivial (fun _ => ?_)
     clear hK K
     try simp only [Act.put, put1, put2, put3]
     refine wpAnyH_done (by kernel_rfl) ?_ _
     go_wp2_with fail
     go_meet
     exact ⟨_, rfl, hN, Below.set7b hg_al hge⟩
    ·go_simp
     have hb_6 := bpl wd (.cells ns 23)
     have hk_6 := hkz.out wd hg_.size
     obtain ⟨w_6, HW_6⟩ : ∃ wn, Hid (wd.alloc (.cells ns 23) = wn) := ⟨_, rfl⟩
     rw [HW_6.out] at hb_6 hk_6 ⊢
     have hg_6 : Grew W1 w_6 := grew_step hg_ hb_6
     refine hK.out _ _ trivial (fun _ => ?_)
     clear hK K
     try simp only [Act.put, put1, put2, put3]
     refine wpAnyH_ready (rs := [2, 4, 8]) (by kernel_rfl) (by simp) ?_
     refine (rdc rfl (fun K hK => ?_) (rdc rfl (fun K hK => ?_) (rd1 rfl (fun K hK => ?_))))
     ·go_simp
      refine (hst.out _).mono ?_
      rintro e w_b ⟨rv_b, rfl, ho_b, hb_b⟩
      obtain ⟨x1_b, y1_b, x2_b, y2_b, x3_b, y3_b, hrv⟩ := ho_b.formW
      subst hrv
      have hst_b := ho_b.base (C := W1.heap.size) hg_6.size
      have hg_b : Grew W1 w_b := grew_step hg_6 hb_b
      have q6_b := hk_6.below hb_b (nlr _)
      refine hK.out _ _ trivial (fun _ => ?_)
      clear hK K
      try simp only [Act.put, put1, put2, put3]
      refine wpAnyH_ready (rs := [4, 8]) (by kernel_rfl) (by simp) ?_
      refine (rdc rfl (fun K hK => ?_) (rd1 rfl (fun K hK => ?_)))
      ·go_simp
       have hb_ag := bpl w_b (.cells cs 3)
       have ha_ag := hoz.out w_b hg_b.size
       obtain ⟨w_ag, HW_ag⟩ : ∃ wn, Hid (w_b.alloc (.cells cs 3) = wn) := ⟨_, rfl⟩
       rw [HW_ag.out] at hb_ag ha_ag ⊢
       have hg_ag : Grew W1 w_ag := grew_step hg_b hb_ag
       have q2_ag := hst_b.below hb_ag (nlr _)
       have q6_ag := q6_b.below hb_ag (nlr _)
       refine hK.out _ _ trivial (fun _ => ?_)
       clear hK K
       try simp only [Act.put, put1, put2, put3]
       refine ty 7 (.agg #[.int .i64 i, .slice x1_b S.clock.length y1_b, .slice x2_b S.lives.length y2_b, .slice x3_b S.tals.length y3_b, .slice (some ⟨w_b.heap.size, 0, none⟩) k k, .slice none 0 0, .slice (some ⟨wd.heap.size, 0, none⟩) k k]) ?_
       refine wr 8 fun K hK => ?_
       go_simp
       have hb_ba := bpl w_ag (.cells #[.int .i64 0, .slice none 0 0, .slice none 0 0, .slice none 0 0, .slice none 0 0, .slice none 0 0, .slice none 0 0] 31)
       have hx_ba := Box.new w_ag [.int .i64 0, .slice none 0 0, .slice none 0 0, .slice none 0 0, .slice none 0 0, .slice none 0 0, .slice none 0 0] 31
       obtain ⟨w_ba, HW_ba⟩ : ∃ wn, Hid (w_ag.alloc (.cells #[.int .i64 0, .slice none 0 0, .slice none 0 0, .slice none 0 0, .slice none 0 0, .slice none 0 0, .slice none 0 0] 31) = wn) := ⟨_, rfl⟩
       rw [HW_ba.out] at hb_ba hx_ba ⊢
       have hg_ba : Grew W1 w_ba := grew_step hg_ag hb_ba
       have q2_ba := q2_ag.below hb_ba (nlr _)
       have q4_ba := ha_ag.below hb_ba (nlr _)
       have q6_ba := q6_ag.below hb_ba (nlr _)
       refine hK.out _ _ trivial (fun _ => ?_)
       clear hK K
       try simp only [Act.put, put1, put2, put3]
       have hge : W1.heap.size ≤ w_ag.heap.size := hg_ag.size
       have hN := NdV.fill (i := i) hx_ba hge q2_ba q4_ba (LogOf.nil _ _) q6_ba
       obtain ⟨c0, f0, c1, f1, c2, f2, c3, f3, c4, f4, c5, f5, c6, f6⟩ := hx_ba.seven
       refine wr 9 fun K hK => ?_
       go_simp
       refine hK.out _ _ trivial (fun _ => ?_)
       clear hK K
       try simp only [Act.put, put1, put2, put3]
       refine wpAnyH_done (by kernel_rfl) ?_ _
       go_wp2_with fail
       go_meet
       exact ⟨_, rfl, hN, Below.set7b hg_ba hge⟩
      go_simp
      have hb_ah := bpl w_b (.cells #[.int .i64 0, .slice none 0 0, .slice none 0 0, .slice none 0 0, .slice none 0 0, .slice none 0 0, .slice none 0 0] 31)
      have hx_ah := Box.new w_b [.int .i64 0, .slice none 0 0, .slice none 0 0, .slice none 0 0, .slice none 0 0, .slice none 0 0, .slice none 0 0] 31
      obtain ⟨w_ah, HW_ah⟩ : ∃ wn, Hid (w_b.alloc (.cells #[.int .i64 0, .slice none 0 0, .slice none 0 0, .slice none 0 0, .slice none 0 0, .slice none 0 0, .slice none 0 0] 31) = wn) := ⟨_, rfl⟩
      rw [HW_ah.out] at hb_ah hx_ah ⊢
      have hg_ah : Grew W1 w_ah := grew_step hg_b hb_ah
      have q2_ah := hst_b.below hb_ah (nlr _)
      have q6_ah := q6_b.below hb_ah (nlr _)
      refine hK.out _ _ trivial (fun _ => ?_)
      clear hK K
      try simp only [Act.put, put1, put2, put3]
      refine wr 4 fun K hK => ?_
      go_simp
      have hb_bb := bpl w_ah (.cells cs 3)
      have ha_bb := hoz.out w_ah hg_ah.size
      obtain ⟨w_bb, HW_bb⟩ : ∃ wn, Hid (w_ah.alloc (.cells cs 3) = wn) := ⟨_, rfl⟩
      rw [HW_bb.out] at hb_bb ha_bb ⊢
      have hg_bb : Grew W1 w_bb := grew_step hg_ah hb_bb
      have q2_bb := q2_ah.below hb_bb (nlr _)
      have q6_bb := q6_ah.below hb_bb (nlr _)
      have q8_bb := hx_ah.below hb_bb (nlr _)
      refine hK.out _ _ trivial (fun _ => ?_)
      clear hK K
      try simp only [Act.put, put1, put2, put3]
      refine ty 7 (.agg #[.int .i64 i, .slice x1_b S.clock.length y1_b, .slice x2_b S.lives.length y2_b, .slice x3_b S.tals.length y3_b, .slice (some ⟨w_ah.heap.size, 0, none⟩) k k, .slice none 0 0, .slice (some ⟨wd.heap.size, 0, none⟩) k k]) ?_
      have hge : W1.heap.size ≤ w_b.heap.size := hg_b.size
      have hN := NdV.fill (i := i) q8_bb hge q2_bb ha_bb (LogOf.nil _ _) q6_bb
      obtain ⟨c0, f0, c1, f1, c2, f2, c3, f3, c4, f4, c5, f5, c6, f6⟩ := q8_bb.seven
      refine wr 9 fun K hK => ?_
      go_simp
      refine hK.out _ _ trivial (fun _ => ?_)
      clear hK K
      try simp only [Act.put, put1, put2, put3]
      refine wpAnyH_done (by kernel_rfl) ?_ _
      go_wp2_with fail
      go_meet
      exact ⟨_, rfl, hN, Below.set7b hg_bb hge⟩
     ·go_simp
      have hb_f := bpl w_6 (.cells cs 3)
      have ha_f := hoz.out w_6 hg_6.size
      obtain ⟨w_f, HW_f⟩ : ∃ wn, Hid (w_6.alloc (.cells cs 3) = wn) := ⟨_, rfl⟩
      rw [HW_f.out] at hb_f ha_f ⊢
      have hg_f : Grew W1 w_f := grew_step hg_6 hb_f
      have q6_f := hk_6.below hb_f (nlr _)
      refine hK.out _ _ trivial (fun _ => ?_)
      clear hK K
      try simp only [Act.put, put1, put2, put3]
      refine wpAnyH_ready (rs := [2, 8]) (by kernel_rfl) (by simp) ?_
      refine (rdc rfl (fun K hK => ?_) (rd1 rfl (fun K hK => ?_)))
      ·go_simp
       refine (hst.out _).mono ?_
       rintro e w_o ⟨rv_o, rfl, ho_o, hb_o⟩
       obtain ⟨x1_o, y1_o, x2_o, y2_o, x3_o, y3_o, hrv⟩ := ho_o.formW
       subst hrv
       have hst_o := ho_o.base (C := W1.heap.size) hg_f.size
       have hg_o : Grew W1 w_o := grew_step hg_f hb_o
       have q4_o := ha_f.below hb_o (nlr _)
       have q6_o := q6_f.below hb_o (nlr _)
       refine hK.out _ _ trivial (fun _ => ?_)
       clear hK K
       try simp only [Act.put, put1, put2, put3]
       refine ty 7 (.agg #[.int .i64 i, .slice x1_o S.clock.length y1_o, .slice x2_o S.lives.length y2_o, .slice x3_o S.tals.length y3_o, .slice (some ⟨w_6.heap.size, 0, none⟩) k k, .slice none 0 0, .slice (some ⟨wd.heap.size, 0, none⟩) k k]) ?_
       refine wr 8 fun K hK => ?_
       go_simp
       have hb_bc := bpl w_o (.cells #[.int .i64 0, .slice none 0 0, .slice none 0 0, .slice none 0 0, .slice none 0 0, .slice none 0 0, .slice none 0 0] 31)
       have hx_bc := Box.new w_o [.int .i64 0, .slice none 0 0, .slice none 0 0, .slice none 0 0, .slice none 0 0, .slice none 0 0, .slice none 0 0] 31
       obtain ⟨w_bc, HW_bc⟩ : ∃ wn, Hid (w_o.alloc (.cells #[.int .i64 0, .slice none 0 0, .slice none 0 0, .slice none 0 0, .slice none 0 0, .slice none 0 0, .slice none 0 0] 31) = wn) := ⟨_, rfl⟩
       rw [HW_bc.out] at hb_bc hx_bc ⊢
       have hg_bc : Grew W1 w_bc := grew_step hg_o hb_bc
       have q2_bc := hst_o.below hb_bc (nlr _)
       have q4_bc := q4_o.below hb_bc (nlr _)
       have q6_bc := q6_o.below hb_bc (nlr _)
       refine hK.out _ _ trivial (fun _ => ?_)
       clear hK K
       try simp only [Act.put, put1, put2, put3]
       have hge : W1.heap.size ≤ w_o.heap.size := hg_o.size
       have hN := NdV.fill (i := i) hx_bc hge q2_bc q4_bc (LogOf.nil _ _) q6_bc
       obtain ⟨c0, f0, c1, f1, c2, f2, c3, f3, c4, f4, c5, f5, c6, f6⟩ := hx_bc.seven
       refine wr 9 fun K hK => ?_
       go_simp
       refine hK.out _ _ trivial (fun _ => ?_)
       clear hK K
       try simp only [Act.put, put1, put2, put3]
       refine wpAnyH_done (by kernel_rfl) ?_ _
       go_wp2_with fail
       go_meet
       exact ⟨_, rfl, hN, Below.set7b hg_bc hge⟩
      go_simp
      have hb_u := bpl w_f (.cells #[.int .i64 0, .slice none 0 0, .slice none 0 0, .slice none 0 0, .slice none 0 0, .slice none 0 0, .slice none 0 0] 31)
      have hx_u := Box.new w_f [.int .i64 0, .slice none 0 0, .slice none 0 0, .slice none 0 0, .slice none 0 0, .slice none 0 0, .slice none 0 0] 31
      obtain ⟨w_u, HW_u⟩ : ∃ wn, Hid (w_f.alloc (.cells #[.int .i64 0, .slice none 0 0, .slice none 0 0, .slice none 0 0, .slice none 0 0, .slice none 0 0, .slice none 0 0] 31) = wn) := ⟨_, rfl⟩
      rw [HW_u.out] at hb_u hx_u ⊢
      have hg_u : Grew W1 w_u := grew_step hg_f hb_u
      have q4_u := ha_f.below hb_u (nlr _)
      have q6_u := q6_f.below hb_u (nlr _)
      refine hK.out _ _ trivial (fun _ => ?_)
      clear hK K
      try simp only [Act.put, put1, put2, put3]
      refine wr 2 fun K hK => ?_
      go_simp
      refine (hst.out _).mono ?_
      rintro e w_am ⟨rv_am, rfl, ho_am, hb_am⟩
      obtain ⟨x1_am, y1_am, x2_am, y2_am, x3_am, y3_am, hrv⟩ := ho_am.formW
      subst hrv
      have hst_am := ho_am.base (C := W1.heap.size) hg_u.size
      have hg_am : Grew W1 w_am := grew_step hg_u hb_am
      have q4_am := q4_u.below hb_am (nlr _)
      have q6_am := q6_u.below hb_am (nlr _)
      have q8_am := hx_u.below hb_am (nlr _)
      refine hK.out _ _ trivial (fun _ => ?_)
      clear hK K
      try simp only [Act.put, put1, put2, put3]
      refine ty 7 (.agg #[.int .i64 i, .slice x1_am S.clock.length y1_am, .slice x2_am S.lives.length y2_am, .slice x3_am S.tals.length y3_am, .slice (some ⟨w_6.heap.size, 0, none⟩) k k, .slice none 0 0, .slice (some ⟨wd.heap.size, 0, none⟩) k k]) ?_
      have hge : W1.heap.size ≤ w_f.heap.size := hg_f.size
      have hN := NdV.fill (i := i) q8_am hge hst_am q4_am (LogOf.nil _ _) q6_am
      obtain ⟨c0, f0, c1, f1, c2, f2, c3, f3, c4, f4, c5, f5, c6, f6⟩ := q8_am.seven
      refine wr 9 fun K hK => ?_
      go_simp
      refine hK.out _ _ trivial (fun _ => ?_)
      clear hK K
      try simp only [Act.put, put1, put2, put3]
      refine wpAnyH_done (by kernel_rfl) ?_ _
      go_wp2_with fail
      go_meet
      exact ⟨_, rfl, hN, Below.set7b hg_am hge⟩
     go_simp
     have hb_g := bpl w_6 (.cells #[.int .i64 0, .slice none 0 0, .slice none 0 0, .slice none 0 0, .slice none 0 0, .slice none 0 0, .slice none 0 0] 31)
     have hx_g := Box.new w_6 [.int .i64 0, .slice none 0 0, .slice none 0 0, .slice none 0 0, .slice none 0 0, .slice none 0 0, .slice none 0 0] 31
     obtain ⟨w_g, HW_g⟩ : ∃ wn, Hid (w_6.alloc (.cells #[.int .i64 0, .slice none 0 0, .slice none 0 0, .slice none 0 0, .slice none 0 0, .slice none 0 0, .slice none 0 0] 31) = wn) := ⟨_, rfl⟩
     rw [HW_g.out] at hb_g hx_g ⊢
     have hg_g : Grew W1 w_g := grew_step hg_6 hb_g
     have q6_g := hk_6.below hb_g (nlr _)
     refine hK.out _ _ trivial (fun _ => ?_)
     clear hK K
     try simp only [Act.put, put1, put2, put3]
     refine wpAnyH_ready (rs := [2, 4]) (by kernel_rfl) (by simp) ?_
     refine (rdc rfl (fun K hK => ?_) (rd1 rfl (fun K hK => ?_)))
     ·go_simp
      refine (hst.out _).mono ?_
      rintro e w_p ⟨rv_p, rfl, ho_p, hb_p⟩
      obtain ⟨x1_p, y1_p, x2_p, y2_p, x3_p, y3_p, hrv⟩ := ho_p.formW
      subst hrv
      have hst_p := ho_p.base (C := W1.heap.size) hg_g.size
      have hg_p : Grew W1 w_p := grew_step hg_g hb_p
      have q6_p := q6_g.below hb_p (nlr _)
      have q8_p := hx_g.below hb_p (nlr _)
      refine hK.out _ _ trivial (fun _ => ?_)
      clear hK K
      try simp only [Act.put, put1, put2, put3]
      refine wr 4 fun K hK => ?_
      go_simp
      have hb_bd := bpl w_p (.cells cs 3)
      have ha_bd := hoz.out w_p hg_p.size
      obtain ⟨w_bd, HW_bd⟩ : ∃ wn, Hid (w_p.alloc (.cells cs 3) = wn) := ⟨_, rfl⟩
      rw [HW_bd.out] at hb_bd ha_bd ⊢
      have hg_bd : Grew W1 w_bd := grew_step hg_p hb_bd
      have q2_bd := hst_p.below hb_bd (nlr _)
      have q6_bd := q6_p.below hb_bd (nlr _)
      have q8_bd := q8_p.below hb_bd (nlr _)
      refine hK.out _ _ trivial (fun _ => ?_)
      clear hK K
      try simp only [Act.put, put1, put2, put3]
      refine ty 7 (.agg #[.int .i64 i, .slice x1_p S.clock.length y1_p, .slice x2_p S.lives.length y2_p, .slice x3_p S.tals.length y3_p, .slice (some ⟨w_p.heap.size, 0, none⟩) k k, .slice none 0 0, .slice (some ⟨wd.heap.size, 0, none⟩) k k]) ?_
      have hge : W1.heap.size ≤ w_6.heap.size := hg_6.size
      have hN := NdV.fill (i := i) q8_bd hge q2_bd ha_bd (LogOf.nil _ _) q6_bd
      obtain ⟨c0, f0, c1, f1, c2, f2, c3, f3, c4, f4, c5, f5, c6, f6⟩ := q8_bd.seven
      refine wr 9 fun K hK => ?_
      go_simp
      refine hK.out _ _ trivial (fun _ => ?_)
      clear hK K
      try simp only [Act.put, put1, put2, put3]
      refine wpAnyH_done (by kernel_rfl) ?_ _
      go_wp2_with fail
      go_meet
      exact ⟨_, rfl, hN, Below.set7b hg_bd hge⟩
     go_simp
     have hb_v := bpl w_g (.cells cs 3)
     have ha_v := hoz.out w_g hg_g.size
     obtain ⟨w_v, HW_v⟩ : ∃ wn, Hid (w_g.alloc (.cells cs 3) = wn) := ⟨_, rfl⟩
     rw [HW_v.out] at hb_v ha_v ⊢
     have hg_v : Grew W1 w_v := grew_step hg_g hb_v
     have q6_v := q6_g.below hb_v (nlr _)
     have q8_v := hx_g.below hb_v (nlr _)
     refine hK.out _ _ trivial (fun _ => ?_)
     clear hK K
     try simp only [Act.put, put1, put2, put3]
     refine wr 2 fun K hK => ?_
     go_simp
     refine (hst.out _).mono ?_
     rintro e w_an ⟨rv_an, rfl, ho_an, hb_an⟩
     obtain ⟨x1_an, y1_an, x2_an, y2_an, x3_an, y3_an, hrv⟩ := ho_an.formW
     subst hrv
     have hst_an := ho_an.base (C := W1.heap.size) hg_v.size
     have hg_an : Grew W1 w_an := grew_step hg_v hb_an
     have q4_an := ha_v.below hb_an (nlr _)
     have q6_an := q6_v.below hb_an (nlr _)
     have q8_an := q8_v.below hb_an (nlr _)
     refine hK.out _ _ trivial (fun _ => ?_)
     clear hK K
     try simp only [Act.put, put1, put2, put3]
     refine ty 7 (.agg #[.int .i64 i, .slice x1_an S.clock.length y1_an, .slice x2_an S.lives.length y2_an, .slice x3_an S.tals.length y3_an, .slice (some ⟨w_g.heap.size, 0, none⟩) k k, .slice none 0 0, .slice (some ⟨wd.heap.size, 0, none⟩) k k]) ?_
     have hge : W1.heap.size ≤ w_6.heap.size := hg_6.size
     have hN := NdV.fill (i := i) q8_an hge hst_an q4_an (LogOf.nil _ _) q6_an
     obtain ⟨c0, f0, c1, f1, c2, f2, c3, f3, c4, f4, c5, f5, c6, f6⟩ := q8_an.seven
     refine wr 9 fun K hK => ?_
     go_simp
     refine hK.out _ _ trivial (fun _ => ?_)
     clear hK K
     try simp only [Act.put, put1, put2, put3]
     refine wpAnyH_done (by kernel_rfl) ?_ _
     go_wp2_with fail
     go_meet
     exact ⟨_, rfl, hN, Below.set7b hg_an hge⟩
    go_simp
    have hb_8 := bpl wd (.cells #[.int .i64 0, .slice none 0 0, .slice none 0 0, .slice none 0 0, .slice none 0 0, .slice none 0 0, .slice none 0 0] 31)
    have hx_8 := Box.new wd [.int .i64 0, .slice none 0 0, .slice none 0 0, .slice none 0 0, .slice none 0 0, .slice none 0 0, .slice none 0 0] 31
    obtain ⟨w_8, HW_8⟩ : ∃ wn, Hid (wd.alloc (.cells #[.int .i64 0, .slice none 0 0, .slice none 0 0, .slice none 0 0, .slice none 0 0, .slice none 0 0, .slice none 0 0] 31) = wn) := ⟨_, rfl⟩
    rw [HW_8.out] at hb_8 hx_8 ⊢
    have hg_8 : Grew W1 w_8 := grew_step hg_ hb_8
    refine hK.out _ _ trivial (fun _ => ?_)
    clear hK K
    try simp only [Act.put, put1, put2, put3]
    refine wpAnyH_ready (rs := [2, 4, 6]) (by kernel_rfl) (by simp) ?_
    refine (rdc rfl (fun K hK => ?_) (rdc rfl (fun K hK => ?_) (rd1 rfl (fun K hK => ?_))))
    ·go_simp
     refine (hst.out _).mono ?_
     rintro e w_c ⟨rv_c, rfl, ho_c, hb_c⟩
     obtain ⟨x1_c, y1_c, x2_c, y2_c, x3_c, y3_c, hrv⟩ := ho_c.formW
     subst hrv
     have hst_c := ho_c.base (C := W1.heap.size) hg_8.size
     have hg_c : Grew W1 w_c := grew_step hg_8 hb_c
     have q8_c := hx_8.below hb_c (nlr _)
     refine hK.out _ _ trivial (fun _ => ?_)
     clear hK K
     try simp only [Act.put, put1, put2, put3]
     refine wpAnyH_ready (rs := [4, 6]) (by kernel_rfl) (by simp) ?_
     refine (rdc rfl (fun K hK => ?_) (rd1 rfl (fun K hK => ?_)))
     ·go_simp
      have hb_ai := bpl w_c (.cells cs 3)
      have ha_ai := hoz.out w_c hg_c.size
      obtain ⟨w_ai, HW_ai⟩ : ∃ wn, Hid (w_c.alloc (.cells cs 3) = wn) := ⟨_, rfl⟩
      rw [HW_ai.out] at hb_ai ha_ai ⊢
      have hg_ai : Grew W1 w_ai := grew_step hg_c hb_ai
      have q2_ai := hst_c.below hb_ai (nlr _)
      have q8_ai := q8_c.below hb_ai (nlr _)
      refine hK.out _ _ trivial (fun _ => ?_)
      clear hK K
      try simp only [Act.put, put1, put2, put3]
      refine wr 6 fun K hK => ?_
      go_simp
      have hb_be := bpl w_ai (.cells ns 23)
      have hk_be := hkz.out w_ai hg_ai.size
      obtain ⟨w_be, HW_be⟩ : ∃ wn, Hid (w_ai.alloc (.cells ns 23) = wn) := ⟨_, rfl⟩
      rw [HW_be.out] at hb_be hk_be ⊢
      have hg_be : Grew W1 w_be := grew_step hg_ai hb_be
      have q2_be := q2_ai.below hb_be (nlr _)
      have q4_be := ha_ai.below hb_be (nlr _)
      have q8_be := q8_ai.below hb_be (nlr _)
      refine hK.out _ _ trivial (fun _ => ?_)
      clear hK K
      try simp only [Act.put, put1, put2, put3]
      refine ty 7 (.agg #[.int .i64 i, .slice x1_c S.clock.length y1_c, .slice x2_c S.lives.length y2_c, .slice x3_c S.tals.length y3_c, .slice (some ⟨w_c.heap.size, 0, none⟩) k k, .slice none 0 0, .slice (some ⟨w_ai.heap.size, 0, none⟩) k k]) ?_
      have hge : W1.heap.size ≤ wd.heap.size := hg_.size
      have hN := NdV.fill (i := i) q8_be hge q2_be q4_be (LogOf.nil _ _) hk_be
      obtain ⟨c0, f0, c1, f1, c2, f2, c3, f3, c4, f4, c5, f5, c6, f6⟩ := q8_be.seven
      refine wr 9 fun K hK => ?_
      go_simp
      refine hK.out _ _ trivial (fun _ => ?_)
      clear hK K
      try simp only [Act.put, put1, put2, put3]
      refine wpAnyH_done (by kernel_rfl) ?_ _
      go_wp2_with fail
      go_meet
      exact ⟨_, rfl, hN, Below.set7b hg_be hge⟩
     go_simp
     have hb_aj := bpl w_c (.cells ns 23)
     have hk_aj := hkz.out w_c hg_c.size
     obtain ⟨w_aj, HW_aj⟩ : ∃ wn, Hid (w_c.alloc (.cells ns 23) = wn) := ⟨_, rfl⟩
     rw [HW_aj.out] at hb_aj hk_aj ⊢
     have hg_aj : Grew W1 w_aj := grew_step hg_c hb_aj
     have q2_aj := hst_c.below hb_aj (nlr _)
     have q8_aj := q8_c.below hb_aj (nlr _)
     refine hK.out _ _ trivial (fun _ => ?_)
     clear hK K
     try simp only [Act.put, put1, put2, put3]
     refine wr 4 fun K hK => ?_
     go_simp
     have hb_bf := bpl w_aj (.cells cs 3)
     have ha_bf := hoz.out w_aj hg_aj.size
     obtain ⟨w_bf, HW_bf⟩ : ∃ wn, Hid (w_aj.alloc (.cells cs 3) = wn) := ⟨_, rfl⟩
     rw [HW_bf.out] at hb_bf ha_bf ⊢
     have hg_bf : Grew W1 w_bf := grew_step hg_aj hb_bf
     have q2_bf := q2_aj.below hb_bf (nlr _)
     have q6_bf := hk_aj.below hb_bf (nlr _)
     have q8_bf := q8_aj.below hb_bf (nlr _)
     refine hK.out _ _ trivial (fun _ => ?_)
     clear hK K
     try simp only [Act.put, put1, put2, put3]
     refine ty 7 (.agg #[.int .i64 i, .slice x1_c S.clock.length y1_c, .slice x2_c S.lives.length y2_c, .slice x3_c S.tals.length y3_c, .slice (some ⟨w_aj.heap.size, 0, none⟩) k k, .slice none 0 0, .slice (some ⟨w_c.heap.size, 0, none⟩) k k]) ?_
     have hge : W1.heap.size ≤ wd.heap.size := hg_.size
     have hN := NdV.fill (i := i) q8_bf hge q2_bf ha_bf (LogOf.nil _ _) q6_bf
     obtain ⟨c0, f0, c1, f1, c2, f2, c3, f3, c4, f4, c5, f5, c6, f6⟩ := q8_bf.seven
     refine wr 9 fun K hK => ?_
     go_simp
     refine hK.out _ _ trivial (fun _ => ?_)
     clear hK K
     try simp only [Act.put, put1, put2, put3]
     refine wpAnyH_done (by kernel_rfl) ?_ _
     go_wp2_with fail
     go_meet
     exact ⟨_, rfl, hN, Below.set7b hg_bf hge⟩
    ·go_simp
     have hb_h := bpl w_8 (.cells cs 3)
     have ha_h := hoz.out w_8 hg_8.size
     obtain ⟨w_h, HW_h⟩ : ∃ wn, Hid (w_8.alloc (.cells cs 3) = wn) := ⟨_, rfl⟩
     rw [HW_h.out] at hb_h ha_h ⊢
     have hg_h : Grew W1 w_h := grew_step hg_8 hb_h
     have q8_h := hx_8.below hb_h (nlr _)
     refine hK.out _ _ trivial (fun _ => ?_)
     clear hK K
     try simp only [Act.put, put1, put2, put3]
     refine wpAnyH_ready (rs := [2, 6]) (by kernel_rfl) (by simp) ?_
     refine (rdc rfl (fun K hK => ?_) (rd1 rfl (fun K hK => ?_)))
     ·go_simp
      refine (hst.out _).mono ?_
      rintro e w_q ⟨rv_q, rfl, ho_q, hb_q⟩
      obtain ⟨x1_q, y1_q, x2_q, y2_q, x3_q, y3_q, hrv⟩ := ho_q.formW
      subst hrv
      have hst_q := ho_q.base (C := W1.heap.size) hg_h.size
      have hg_q : Grew W1 w_q := grew_step hg_h hb_q
      have q4_q := ha_h.below hb_q (nlr _)
      have q8_q := q8_h.below hb_q (nlr _)
      refine hK.out _ _ trivial (fun _ => ?_)
      clear hK K
      try simp only [Act.put, put1, put2, put3]
      refine wr 6 fun K hK => ?_
      go_simp
      have hb_bg := bpl w_q (.cells ns 23)
      have hk_bg := hkz.out w_q hg_q.size
      obtain ⟨w_bg, HW_bg⟩ : ∃ wn, Hid (w_q.alloc (.cells ns 23) = wn) := ⟨_, rfl⟩
      rw [HW_bg.out] at hb_bg hk_bg ⊢
      have hg_bg : Grew W1 w_bg := grew_step hg_q hb_bg
      have q2_bg := hst_q.below hb_bg (nlr _)
      have q4_bg := q4_q.below hb_bg (nlr _)
      have q8_bg := q8_q.below hb_bg (nlr _)
      refine hK.out _ _ trivial (fun _ => ?_)
      clear hK K
      try simp only [Act.put, put1, put2, put3]
      refine ty 7 (.agg #[.int .i64 i, .slice x1_q S.clock.length y1_q, .slice x2_q S.lives.length y2_q, .slice x3_q S.tals.length y3_q, .slice (some ⟨w_8.heap.size, 0, none⟩) k k, .slice none 0 0, .slice (some ⟨w_q.heap.size, 0, none⟩) k k]) ?_
      have hge : W1.heap.size ≤ wd.heap.size := hg_.size
      have hN := NdV.fill (i := i) q8_bg hge q2_bg q4_bg (LogOf.nil _ _) hk_bg
      obtain ⟨c0, f0, c1, f1, c2, f2, c3, f3, c4, f4, c5, f5, c6, f6⟩ := q8_bg.seven
      refine wr 9 fun K hK => ?_
      go_simp
      refine hK.out _ _ trivial (fun _ => ?_)
      clear hK K
      try simp only [Act.put, put1, put2, put3]
      refine wpAnyH_done (by kernel_rfl) ?_ _
      go_wp2_with fail
      go_meet
      exact ⟨_, rfl, hN, Below.set7b hg_bg hge⟩
     go_simp
     have hb_w := bpl w_h (.cells ns 23)
     have hk_w := hkz.out w_h hg_h.size
     obtain ⟨w_w, HW_w⟩ : ∃ wn, Hid (w_h.alloc (.cells ns 23) = wn) := ⟨_, rfl⟩
     rw [HW_w.out] at hb_w hk_w ⊢
     have hg_w : Grew W1 w_w := grew_step hg_h hb_w
     have q4_w := ha_h.below hb_w (nlr _)
     have q8_w := q8_h.below hb_w (nlr _)
     refine hK.out _ _ trivial (fun _ => ?_)
     clear hK K
     try simp only [Act.put, put1, put2, put3]
     refine wr 2 fun K hK => ?_
     go_simp
     refine (hst.out _).mono ?_
     rintro e w_ao ⟨rv_ao, rfl, ho_ao, hb_ao⟩
     obtain ⟨x1_ao, y1_ao, x2_ao, y2_ao, x3_ao, y3_ao, hrv⟩ := ho_ao.formW
     subst hrv
     have hst_ao := ho_ao.base (C := W1.heap.size) hg_w.size
     have hg_ao : Grew W1 w_ao := grew_step hg_w hb_ao
     have q4_ao := q4_w.below hb_ao (nlr _)
     have q6_ao := hk_w.below hb_ao (nlr _)
     have q8_ao := q8_w.below hb_ao (nlr _)
     refine hK.out _ _ trivial (fun _ => ?_)
     clear hK K
     try simp only [Act.put, put1, put2, put3]
     refine ty 7 (.agg #[.int .i64 i, .slice x1_ao S.clock.length y1_ao, .slice x2_ao S.lives.length y2_ao, .slice x3_ao S.tals.length y3_ao, .slice (some ⟨w_8.heap.size, 0, none⟩) k k, .slice none 0 0, .slice (some ⟨w_h.heap.size, 0, none⟩) k k]) ?_
     have hge : W1.heap.size ≤ wd.heap.size := hg_.size
     have hN := NdV.fill (i := i) q8_ao hge hst_ao q4_ao (LogOf.nil _ _) q6_ao
     obtain ⟨c0, f0, c1, f1, c2, f2, c3, f3, c4, f4, c5, f5, c6, f6⟩ := q8_ao.seven
     refine wr 9 fun K hK => ?_
     go_simp
     refine hK.out _ _ trivial (fun _ => ?_)
     clear hK K
     try simp only [Act.put, put1, put2, put3]
     refine wpAnyH_done (by kernel_rfl) ?_ _
     go_wp2_with fail
     go_meet
     exact ⟨_, rfl, hN, Below.set7b hg_ao hge⟩
    go_simp
    have hb_i := bpl w_8 (.cells ns 23)
    have hk_i := hkz.out w_8 hg_8.size
    obtain ⟨w_i, HW_i⟩ : ∃ wn, Hid (w_8.alloc (.cells ns 23) = wn) := ⟨_, rfl⟩
    rw [HW_i.out] at hb_i hk_i ⊢
    have hg_i : Grew W1 w_i := grew_step hg_8 hb_i
    have q8_i := hx_8.below hb_i (nlr _)
    refine hK.out _ _ trivial (fun _ => ?_)
    clear hK K
    try simp only [Act.put, put1, put2, put3]
    refine wpAnyH_ready (rs := [2, 4]) (by kernel_rfl) (by simp) ?_
    refine (rdc rfl (fun K hK => ?_) (rd1 rfl (fun K hK => ?_)))
    ·go_simp
     refine (hst.out _).mono ?_
     rintro e w_r ⟨rv_r, rfl, ho_r, hb_r⟩
     obtain ⟨x1_r, y1_r, x2_r, y2_r, x3_r, y3_r, hrv⟩ := ho_r.formW
     subst hrv
     have hst_r := ho_r.base (C := W1.heap.size) hg_i.size
     have hg_r : Grew W1 w_r := grew_step hg_i hb_r
     have q6_r := hk_i.below hb_r (nlr _)
     have q8_r := q8_i.below hb_r (nlr _)
     refine hK.out _ _ trivial (fun _ => ?_)
     clear hK K
     try simp only [Act.put, put1, put2, put3]
     refine wr 4 fun K hK => ?_
     go_simp
     have hb_bh := bpl w_r (.cells cs 3)
     have ha_bh := hoz.out w_r hg_r.size
     obtain ⟨w_bh, HW_bh⟩ : ∃ wn, Hid (w_r.alloc (.cells cs 3) = wn) := ⟨_, rfl⟩
     rw [HW_bh.out] at hb_bh ha_bh ⊢
     have hg_bh : Grew W1 w_bh := grew_step hg_r hb_bh
     have q2_bh := hst_r.below hb_bh (nlr _)
     have q6_bh := q6_r.below hb_bh (nlr _)
     have q8_bh := q8_r.below hb_bh (nlr _)
     refine hK.out _ _ trivial (fun _ => ?_)
     clear hK K
     try simp only [Act.put, put1, put2, put3]
     refine ty 7 (.agg #[.int .i64 i, .slice x1_r S.clock.length y1_r, .slice x2_r S.lives.length y2_r, .slice x3_r S.tals.length y3_r, .slice (some ⟨w_r.heap.size, 0, none⟩) k k, .slice none 0 0, .slice (some ⟨w_8.heap.size, 0, none⟩) k k]) ?_
     have hge : W1.heap.size ≤ wd.heap.size := hg_.size
     have hN := NdV.fill (i := i) q8_bh hge q2_bh ha_bh (LogOf.nil _ _) q6_bh
     obtain ⟨c0, f0, c1, f1, c2, f2, c3, f3, c4, f4, c5, f5, c6, f6⟩ := q8_bh.seven
     refine wr 9 fun K hK => ?_
     go_simp
     refine hK.out _ _ trivial (fun _ => ?_)
     clear hK K
     try simp only [Act.put, put1, put2, put3]
     refine wpAnyH_done (by kernel_rfl) ?_ _
     go_wp2_with fail
     go_meet
     exact ⟨_, rfl, hN, Below.set7b hg_bh hge⟩
    go_simp
    have hb_x := bpl w_i (.cells cs 3)
    have ha_x := hoz.out w_i hg_i.size
    obtain ⟨w_x, HW_x⟩ : ∃ wn, Hid (w_i.alloc (.cells cs 3) = wn) := ⟨_, rfl⟩
    rw [HW_x.out] at hb_x ha_x ⊢
    have hg_x : Grew W1 w_x := grew_step hg_i hb_x
    have q6_x := hk_i.below hb_x (nlr _)
    have q8_x := q8_i.below hb_x (nlr _)
    refine hK.out _ _ trivial (fun _ => ?_)
    clear hK K
    try simp only [Act.put, put1, put2, put3]
    refine wr 2 fun K hK => ?_
    go_simp
    refine (hst.out _).mono ?_
    rintro e w_ap ⟨rv_ap, rfl, ho_ap, hb_ap⟩
    obtain ⟨x1_ap, y1_ap, x2_ap, y2_ap, x3_ap, y3_ap, hrv⟩ := ho_ap.formW
    subst hrv
    have hst_ap := ho_ap.base (C := W1.heap.size) hg_x.size
    have hg_ap : Grew W1 w_ap := grew_step hg_x hb_ap
    have q4_ap := ha_x.below hb_ap (nlr _)
    have q6_ap := q6_x.below hb_ap (nlr _)
    have q8_ap := q8_x.below hb_ap (nlr _)
    refine hK.out _ _ trivial (fun _ => ?_)
    clear hK K
    try simp only [Act.put, put1, put2, put3]
    refine ty 7 (.agg #[.int .i64 i, .slice x1_ap S.clock.length y1_ap, .slice x2_ap S.lives.length y2_ap, .slice x3_ap S.tals.length y3_ap, .slice (some ⟨w_i.heap.size, 0, none⟩) k k, .slice none 0 0, .slice (some ⟨w_8.heap.size, 0, none⟩) k k]) ?_
    have hge : W1.heap.size ≤ wd.heap.size := hg_.size
    have hN := NdV.fill (i := i) q8_ap hge hst_ap q4_ap (LogOf.nil _ _) q6_ap
    obtain ⟨c0, f0, c1, f1, c2, f2, c3, f3, c4, f4, c5, f5, c6, f6⟩ := q8_ap.seven
    refine wr 9 fun K hK => ?_
    go_simp
    refine hK.out _ _ trivial (fun _ => ?_)
    clear hK K
    try simp only [Act.put, put1, put2, put3]
    refine wpAnyH_done (by kernel_rfl) ?_ _
    go_wp2_with fail
    go_meet
    exact ⟨_, rfl, hN, Below.set7b hg_ap hge⟩
   obtain ⟨gd, rfl, HN2, HGR⟩ := hcut
   obtain ⟨w2, rfl⟩ : ∃ w2, w2 = wc := ⟨wc, rfl⟩
   have R2 := hide (R0.below HGR.out (nlr _))
   have HB2 := hide (below_step HB0.out HGR.out)
   have hs2 : Hid (w.heap.size + 1 ≤ w2.heap.size) := by have := HGR.size; have := hsz.out; unfold Hid; omega
   obtain ⟨x1, y1, x2, y2, x3, y3, x4, y4, x5, y5, x6, y6, hbx, -⟩ := HN2.form
   have HNO := hide (HN2.value hbx).node
   obtain ⟨g0, g1, g2, g3, g4, g5, g6⟩ := hbx.c7
   obtain ⟨d0, HD0⟩ : ∃ d0, Hid ((⟨i, S, zeroC k, [], List.replicate k []⟩ : NdS) = d0) := ⟨_, rfl⟩
   have hcl : d0.st.clock.length = k := by rw [← HD0.out, ← HS.out]; simp [zeroC]
   have hdS : d0.self = i := by rw [← HD0.out]
   have hdK : d0.known = List.replicate k [] := by rw [← HD0.out]
   have hdX : Hid (d0.st = S ∧ d0.base = zeroC k ∧ d0.log = []) := by unfold Hid; rw [← HD0.out]; exact ⟨rfl, rfl, rfl⟩
   rw [HD0.out] at HN2 HNO g0 g1 g2 g3 g4 g5 g6
   have HDK := hide hdK
   have HCL := hide hcl
   have HDS := hide hdS
   clear hbx R0 HB0 HGR hcl hdK hdS
   go_wp2_with fail
   refine (isNode_node _ d0 i _ HNO.out).mono ?_
   rintro e w3 ⟨rfl, hb3⟩
   rw [HCL.out]
   have HN3 := hide (HN2.below hb3 (nlr _))
   have R3 := hide (R2.below hb3 (nlr _))
   have HB3 := hide (below_step HB2.out hb3)
   have hs3 : Hid (w.heap.size + 1 ≤ w3.heap.size) := by have := hb3.size; have := hs2.out; unfold Hid; omega
   clear g0 g1 g2 g3 g4 g5 g6 hb3 HN2 R2 HB2 HNO
   by_cases hi : 0 ≤ i ∧ i < (k : Int)
   ·have hdi : decide (0 ≤ i ∧ i < (k : Int)) = true := decide_eq_true hi
    have hE := HE1.out
    rw [if_pos hi] at hE
    subst hE
    have HXX : Hid ((⟨i, S, zeroC k, [], List.replicate k (zeroC k)⟩ : NdS) = X) := by
     unfold Hid
     rw [← HX.out, ← HS.out]
     unfold startX
     rw [if_pos HE.out]
     rfl
    rw [hdi]
    obtain ⟨x1, y1, x2, y2, x3, y3, x4, y4, x5, y5, x6, y6, hbx, -, -, -, -, hkn⟩ := HN3.form
    have hkl : d0.known.length = k := by rw [HDK.out, List.length_replicate]
    have g6 := hbx.get 6 rfl
    rw [hkl] at g6
    clear hi hdi HXB HE1 hbx hkn
    go_wp2_with fail
    go_loopw [31] (fun q wr => ∃ (m : Nat), m ≤ k ∧ q = .int .i64 m ∧ Hid (NdV wr W1.heap.size gd ⟨i, S, zeroC k, [], List.replicate m (zeroC k) ++ List.replicate (k - m) []⟩) ∧ Hid (Below W1.heap.size w3 wr)) (fun q _ => k - (intOf q).toNat)
    case atStart =>
     refine ⟨0, Nat.zero_le _, rfl, ?_, hide (Below.refl _ _)⟩
     rw [← HD0.out] at HN3
     exact HN3
    obtain ⟨m, hm, rfl, HNm, HBm⟩ := hrel
    obtain ⟨w4, rfl⟩ : ∃ w4, w4 = wr := ⟨wr, rfl⟩
    have HBw : Hid (Below w.heap.size w w4) := HB3.trans (HBm.mono (by have := hsz.out; omega))
    have R4 := hide (R3.low HBm.out (by have := hsz.out; omega))
    clear g6
    obtain ⟨dm, HDM⟩ : ∃ dm, Hid ((⟨i, S, zeroC k, [], List.replicate m (zeroC k) ++ List.replicate (k - m) []⟩ : NdS) = dm) := ⟨_, hide rfl⟩
    rw [HDM.out] at HNm
    obtain ⟨z1, t1, z2, t2, z3, t3, z4, t4, z5, t5, z6, t6, hbx, -, -, -, -, hkn⟩ := HNm.form
    have hml : dm.known.length = k := by rw [← HDM.out]; simp; omega
    by_cases hlt : m < k
    ·have hlt' : (m : Int) < (k : Int) := by omega
     obtain ⟨gk, hgk, -, hkB, hkl2, hcell⟩ := hkn.block (by omega)
     subst hgk
     obtain ⟨v0, hc0, hf0⟩ := hcell m (by omega)
     have HBX := hide hbx
     have HKN := hide hkn
     have g6 := hbx.get 6 rfl
     rw [hml] at g6
     have HG6 := hide g6
     have HC0 := hide hc0
     have HF0 := hide hf0
     have hne : gd ≠ gk := by
      intro he
      obtain ⟨qs, k1, -⟩ := HKN.out
      have hbx2 := HBX.out
      rw [he] at hbx2
      exact row_notBox k1.1 hbx2 (by decide) rfl
     clear hbx hkn hcell hc0 hf0
     go_upto_region 9 with fail
     clear g6
     refine wp_region_held_drew (S := fun w' => w'.cell? ⟨gd, 6, none⟩ = some (.slice (some ⟨gk, 0, none⟩) k t6)) (by kernel_rfl) HG6.out (fun hHeld => ?_)
     obtain ⟨wd, HWD⟩ : ∃ wd, Hid (w4.drew = wd) := ⟨_, rfl⟩
     have hg0 : Grew w4 wd := by rw [← HWD.out]; exact grew_drew (grew_refl w4)
     rw [HWD.out] at hHeld ⊢
     refine ty 0 (.pointer (some ⟨gd, 6, none⟩)) ?_
     refine ty 1 (.slice (some ⟨gk, 0, none⟩) k t6) ?_
     refine ty 2 (.int .i64 (m : Int)) ?_
     refine ty 3 (.int .i64 (k : Int)) ?_
     have hgl := HNm.lt
     refine wr 4 fun K hK => ?_
     go_simp
     have hb5 := bpl wd (.cells cs 3)
     have ho5 := hoz.out wd (by have := hg0.size; omega)
     obtain ⟨w5, HW5⟩ : ∃ wn, Hid (wd.alloc (.cells cs 3) = wn) := ⟨_, rfl⟩
     rw [HW5.out] at hb5 ho5 ⊢
     have hg5 : Grew w4 w5 := grew_step hg0 hb5
     have X5 := HBX.below hg5 (nlr _)
     have N5 := HNm.below hg5 (nlr _)
     refine hK.out _ _ (by have := X5.get 6 rfl; rw [hml] at this; exact this) (fun _ => ?_)
     clear hK K
     try simp only [Act.put, put1, put2, put3]
     refine ty 5 (.pointer (some ⟨gk, m, none⟩)) ?_
     have c5 := (hg5.cell (p := ⟨gk, m, none⟩) (World.block_lt_of_cell? w4 _ HC0.out)).trans HC0.out
     obtain ⟨gk', hgk', -, -, -, hcell2⟩ := (HKN.below hg5 (nlr _)).block (by omega)
     simp only [Option.some.injEq, Addr.mk.injEq, and_true] at hgk'
     subst hgk'
     obtain ⟨v5, hc5, hf5⟩ := hcell2 m (by omega)
     have N6 := N5.setKn X5 (k := m) (by omega) ho5
     have X6 := X5.away (g' := gk) (i := m) (v := .slice (some ⟨wd.heap.size, 0, none⟩) k k) hne
     have HB6 := (HBm.trans (hg5.mono (B' := W1.heap.size) (by omega))).setCell (p := ⟨gk, m, none⟩) hkB (.slice (some ⟨wd.heap.size, 0, none⟩) k k)
     have hdn : (⟨dm.self, dm.st, dm.base, dm.log, dm.known.set m (zeroC k)⟩ : NdS) = ⟨i, S, zeroC k, [], List.replicate (m + 1) (zeroC k) ++ List.replicate (k - (m + 1)) []⟩ := by
      rw [← HDM.out]
      simp only [NdS.mk.injEq, true_and]
      exact set_rep hlt
     rw [hdn] at N6
     refine wr 6 fun K hK => ?_
     go_simp
     refine hK.out _ _ (by have := X6.get 6 rfl; rw [hml] at this; exact this) (fun _ => ?_)
     clear hK K hc5 hf5 c5
     try simp only [Act.put, put1, put2, put3]
     refine wpAnyH_done (by kernel_rfl) ?_ _
     have HN6 := hide N6
     have HHB6 := hide HB6
     clear N6 HB6 X5 N5 X6 ho5
     go_wp2_with fail
     go_roundw
     case rel => exact ⟨m + 1, by omega, by go_num, HN6, HHB6⟩
     case measure => simp [intOf]; omega
    have hmk : m = k := by omega
    have hlt' : ¬ (m : Int) < (k : Int) := by omega
    have hdx : dm = X := by
     rw [← HDM.out, ← HXX.out, hmk]
     simp
    clear hmk HDM HXX
    subst hdx
    obtain ⟨g0, g1, g2, g3, g4, g5, g6⟩ := hbx.c7
    have HV := hide ((HNm.value hbx).base (C := w.heap.size + 1) (by have := hsz.out; omega))
    clear hbx hkn hml hkl
    have r0 := R4.get 0 rfl
    have s0 := R4.free 0
    have r1 := R4.get 1 rfl
    have s1 := R4.free 1
    have r2 := R4.get 2 rfl
    have s2 := R4.free 2
    have r3 := R4.get 3 rfl
    have s3 := R4.free 3
    have r4 := R4.get 4 rfl
    have s4 := R4.free 4
    have r5 := R4.get 5 rfl
    have s5 := R4.free 5
    have r6 := R4.get 6 rfl
    have s6 := R4.free 6
    go_wp2_with fail
    have hR := ((((((((R4.out).set 0 (.int .i64 dm.self)).set 1 (.slice z1 dm.st.clock.length t1)).set 2 (.slice z2 dm.st.lives.length t2)).set 3 (.slice z3 dm.st.tals.length t3)).set 4 (.slice z4 dm.base.length t4)).set 5 (.slice z5 dm.log.length t5)).set 6 (.slice z6 dm.known.length t6))
    have hV := ((((((((HV.out).away (g := w.heap.size) (by omega) 0 (.int .i64 dm.self)).away (g := w.heap.size) (by omega) 1 (.slice z1 dm.st.clock.length t1)).away (g := w.heap.size) (by omega) 2 (.slice z2 dm.st.lives.length t2)).away (g := w.heap.size) (by omega) 3 (.slice z3 dm.st.tals.length t3)).away (g := w.heap.size) (by omega) 4 (.slice z4 dm.base.length t4)).away (g := w.heap.size) (by omega) 5 (.slice z5 dm.log.length t5)).away (g := w.heap.size) (by omega) 6 (.slice z6 dm.known.length t6))
    refine bodyPost_ret (results_cell_tmp rfl _ _ w.heap.size 31 _ (0, 0) _ rfl hR Tryz.underlying31 rfl Tryz.sizeNode) rfl ⟨_, rfl, hV, ?_⟩
    exact ((((((((HBw.out).setCell (by show w.heap.size ≤ w.heap.size; omega) _).setCell (by show w.heap.size ≤ w.heap.size; omega) _).setCell (by show w.heap.size ≤ w.heap.size; omega) _).setCell (by show w.heap.size ≤ w.heap.size; omega) _).setCell (by show w.heap.size ≤ w.heap.size; omega) _).setCell (by show w.heap.size ≤ w.heap.size; omega) _).setCell (by show w.heap.size ≤ w.heap.size; omega) _)
   have hdi : decide (0 ≤ i ∧ i < (k : Int)) = false := decide_eq_false hi
   have hE := HE1.out
   rw [if_neg hi] at hE
   subst hE
   have hX := HXB.out (by decide)
   subst hX
   rw [hdi]
   clear hi hdi HXB HE1
   have r0 := R3.get 0 rfl
   have s0 := R3.free 0
   have r1 := R3.get 1 rfl
   have s1 := R3.free 1
   have r2 := R3.get 2 rfl
   have s2 := R3.free 2
   have r3 := R3.get 3 rfl
   have s3 := R3.free 3
   have r4 := R3.get 4 rfl
   have s4 := R3.free 4
   have r5 := R3.get 5 rfl
   have s5 := R3.free 5
   have r6 := R3.get 6 rfl
   have s6 := R3.free 6
   go_wp2_with fail
   have hR := ((((((((R3.out).set 0 (.int .i64 0)).set 1 (.slice none 0 0)).set 2 (.slice none 0 0)).set 3 (.slice none 0 0)).set 4 (.slice none 0 0)).set 5 (.slice none 0 0)).set 6 (.slice none 0 0))
   have hV := ((((((((NodeO.none w3 (w.heap.size + 1)).away (g := w.heap.size) (by omega) 0 (.int .i64 0)).away (g := w.heap.size) (by omega) 1 (.slice none 0 0)).away (g := w.heap.size) (by omega) 2 (.slice none 0 0)).away (g := w.heap.size) (by omega) 3 (.slice none 0 0)).away (g := w.heap.size) (by omega) 4 (.slice none 0 0)).away (g := w.heap.size) (by omega) 5 (.slice none 0 0)).away (g := w.heap.size) (by omega) 6 (.slice none 0 0))
   refine bodyPost_ret (results_cell_tmp rfl _ _ w.heap.size 31 _ (0, 0) _ rfl hR Tryz.underlying31 rfl Tryz.sizeNode) rfl ⟨_, rfl, hV, ?_⟩
   exact ((((((((HB3.out).setCell (by show w.heap.size ≤ w.heap.size; omega) _).setCell (by show w.heap.size ≤ w.heap.size; omega) _).setCell (by show w.heap.size ≤ w.heap.size; omega) _).setCell (by show w.heap.size ≤ w.heap.size; omega) _).setCell (by show w.heap.size ≤ w.heap.size; omega) _).setCell (by show w.heap.size ≤ w.heap.size; omega) _).setCell (by show w.heap.size ≤ w.heap.size; omega) _)
  have hE : 5 = E := by rw [← HE.out]; unfold startE; rw [if_neg (by omega)]
  have hc1 : ¬ (n < 1) := by omega
  have hc6 : n > 6 := by omega
  have hc6' : 6 < n := by omega
  have hX := HXB.out (by rw [← hE]; decide)
  subst hX
  subst hE
  clear HXB
  go_enter Tryz.func5, Tryz.ntmps5
  go_upto_region 1 with fail
  rw [HW1.out]
  have r0 := R0.get 0 rfl
  have s0 := R0.free 0
  have r1 := R0.get 1 rfl
  have s1 := R0.free 1
  have r2 := R0.get 2 rfl
  have s2 := R0.free 2
  have r3 := R0.get 3 rfl
  have s3 := R0.free 3
  have r4 := R0.get 4 rfl
  have s4 := R0.free 4
  have r5 := R0.get 5 rfl
  have s5 := R0.free 5
  have r6 := R0.get 6 rfl
  have s6 := R0.free 6
  go_wp2_with fail
  have hR := ((((((((R0.out).set 0 (.int .i64 0)).set 1 (.slice none 0 0)).set 2 (.slice none 0 0)).set 3 (.slice none 0 0)).set 4 (.slice none 0 0)).set 5 (.slice none 0 0)).set 6 (.slice none 0 0))
  have hV := ((((((((NodeO.none W1 (w.heap.size + 1)).away (g := w.heap.size) (by omega) 0 (.int .i64 0)).away (g := w.heap.size) (by omega) 1 (.slice none 0 0)).away (g := w.heap.size) (by omega) 2 (.slice none 0 0)).away (g := w.heap.size) (by omega) 3 (.slice none 0 0)).away (g := w.heap.size) (by omega) 4 (.slice none 0 0)).away (g := w.heap.size) (by omega) 5 (.slice none 0 0)).away (g := w.heap.size) (by omega) 6 (.slice none 0 0))
  refine bodyPost_ret (results_cell_tmp rfl _ _ w.heap.size 31 _ (0, 0) _ rfl hR Tryz.underlying31 rfl Tryz.sizeNode) rfl ⟨_, rfl, hV, ?_⟩
  exact ((((((((HB0.out).setCell (by show w.heap.size ≤ w.heap.size; omega) _).setCell (by show w.heap.size ≤ w.heap.size; omega) _).setCell (by show w.heap.size ≤ w.heap.size; omega) _).setCell (by show w.heap.size ≤ w.heap.size; omega) _).setCell (by show w.heap.size ≤ w.heap.size; omega) _).setCell (by show w.heap.size ≤ w.heap.size; omega) _).setCell (by show w.heap.size ≤ w.heap.size; omega) _)
 have hE : 5 = E := by rw [← HE.out]; unfold startE; rw [if_neg (by omega)]
 have hc1 : n < 1 := by omega
 have hX := HXB.out (by rw [← hE]; decide)
 subst hX
 subst hE
 clear HXB
 go_enter Tryz.func5, Tryz.ntmps5
 go_upto_region 1 with fail
 rw [HW1.out]
 have r0 := R0.get 0 rfl
 have s0 := R0.free 0
 have r1 := R0.get 1 rfl
 have s1 := R0.free 1
 have r2 := R0.get 2 rfl
 have s2 := R0.free 2
 have r3 := R0.get 3 rfl
 have s3 := R0.free 3
 have r4 := R0.get 4 rfl
 have s4 := R0.free 4
 have r5 := R0.get 5 rfl
 have s5 := R0.free 5
 have r6 := R0.get 6 rfl
 have s6 := R0.free 6
 go_wp2_with fail
 have hR := ((((((((R0.out).set 0 (.int .i64 0)).set 1 (.slice none 0 0)).set 2 (.slice none 0 0)).set 3 (.slice none 0 0)).set 4 (.slice none 0 0)).set 5 (.slice none 0 0)).set 6 (.slice none 0 0))
 have hV := ((((((((NodeO.none W1 (w.heap.size + 1)).away (g := w.heap.size) (by omega) 0 (.int .i64 0)).away (g := w.heap.size) (by omega) 1 (.slice none 0 0)).away (g := w.heap.size) (by omega) 2 (.slice none 0 0)).away (g := w.heap.size) (by omega) 3 (.slice none 0 0)).away (g := w.heap.size) (by omega) 4 (.slice none 0 0)).away (g := w.heap.size) (by omega) 5 (.slice none 0 0)).away (g := w.heap.size) (by omega) 6 (.slice none 0 0))
 refine bodyPost_ret (results_cell_tmp rfl _ _ w.heap.size 31 _ (0, 0) _ rfl hR Tryz.underlying31 rfl Tryz.sizeNode) rfl ⟨_, rfl, hV, ?_⟩
 exact ((((((((HB0.out).setCell (by show w.heap.size ≤ w.heap.size; omega) _).setCell (by show w.heap.size ≤ w.heap.size; omega) _).setCell (by show w.heap.size ≤ w.heap.size; omega) _).setCell (by show w.heap.size ≤ w.heap.size; omega) _).setCell (by show w.heap.size ≤ w.heap.size; omega) _).setCell (by show w.heap.size ≤ w.heap.size; omega) _).setCell (by show w.heap.size ≤ w.heap.size; omega) _)
end Go.Proofs.YtfhecilhcofboaaGreat
