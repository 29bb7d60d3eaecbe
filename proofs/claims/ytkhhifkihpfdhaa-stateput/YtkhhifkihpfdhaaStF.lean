/- state.Wrong: what is wrong with a state. The document's own Same of two states that read the same answers true. -/
import Derived.Test.YtkhhifkihpfdhaaStE
namespace Go.Proofs.Ytkhhifkihpfdhaa
open Go.RowKit

/-- A state. -/
structure StS where
  clock : List Int
  lives : List Live
  tals : List Tal
/-- The value v reads, in w, as the state s. -/
def IsSt (w : World) (v : Value) (s : StS) : Prop :=
  ∃ cv lv tv, v = .agg #[cv, lv, tv] ∧ Row w cv s.clock ∧ SliceV 5 encL w lv s.lives ∧ SliceV 3 encT w tv s.tals
theorem IsSt.below {w w' : World} {v : Value} {s : StS} (h : IsSt w v s) {B : Nat} (hb : Below B w w') (hB : w.heap.size ≤ B) : IsSt w' v s := by
  obtain ⟨cv, lv, tv, h1, h2, h3, h4⟩ := h
  exact ⟨cv, lv, tv, h1, h2.below hb hB, h3.below hb hB, h4.below hb hB⟩
theorem IsSt.alloc {w : World} {v : Value} {s : StS} (h : IsSt w v s) (o : Obj) : IsSt (w.alloc o) v s := h.below ((Below.refl w.heap.size _).alloc (Nat.le_refl _) o) (Nat.le_refl _)

def stE (s : StS) (n : Int) : Int := if wrongC s.clock n ≠ 0 then wrongC s.clock n else if listE (wrongLv s.clock) cmpL s.lives ≠ 0 then listE (wrongLv s.clock) cmpL s.lives else listE (wrongTl s.clock) cmpT s.tals
def stA (s : StS) (n : Int) : Int := if wrongC s.clock n ≠ 0 then 0 else if listE (wrongLv s.clock) cmpL s.lives ≠ 0 then listA (wrongLv s.clock) cmpL s.lives else listA (wrongTl s.clock) cmpT s.tals

set_option maxRecDepth 100000 in
set_option maxHeartbeats 2000000 in
theorem wrong_state (v : Value) (s : StS) (n : Int) (w : World) (h : IsSt w v s) :
    Calls Try.prog 10 #[v, .int .i64 n] w fun e w' => e = .returned (.agg #[.int .i64 (stE s n), .int .i64 (stA s n)]) ∧ Below w.heap.size w w' := by
  obtain ⟨cv, lv, tv, rfl, hc, hl, ht⟩ := h
  obtain ⟨a1, cap1, rfl, -, -, -⟩ := id hc
  obtain ⟨a2, cap2, rfl, -, -, -⟩ := id hl
  obtain ⟨a3, cap3, rfl, -, -, -⟩ := id ht
  have hb2 := Below.plus (Below.plus (Below.refl w.heap.size w) (.cells #[.slice a1 s.clock.length cap1, .slice a2 s.lives.length cap2, .slice a3 s.tals.length cap3] 27)) (.cells #[.int .i64 0, .int .i64 0] 31)
  have C0 := hide (hc.below hb2 (Nat.le_refl _))
  have L0 := hide (hl.below hb2 (Nat.le_refl _))
  have T0 := hide (ht.below hb2 (Nat.le_refl _))
  have G0 := hide ((Box.new w [.slice a1 s.clock.length cap1, .slice a2 s.lives.length cap2, .slice a3 s.tals.length cap3] 27).plus (.cells #[.int .i64 0, .int .i64 0] 31))
  have Z0 := hide (Box.new (w.alloc (.cells #[.slice a1 s.clock.length cap1, .slice a2 s.lives.length cap2, .slice a3 s.tals.length cap3] 27)) [.int .i64 0, .int .i64 0] 31)
  rw [World.size_alloc] at Z0
  have HB0 := hide hb2
  clear hc hl ht hb2
  obtain ⟨E, HE⟩ : ∃ E, Hid (stE s n = E) := ⟨_, rfl⟩
  obtain ⟨A, HA⟩ : ∃ A, Hid (stA s n = A) := ⟨_, rfl⟩
  rw [HE.out, HA.out]
  unfold stE at HE
  unfold stA at HA
  obtain ⟨r, HR⟩ : ∃ r, Hid (wrongC s.clock n = r) := ⟨_, rfl⟩
  obtain ⟨r1, HR1⟩ : ∃ r1, Hid (listE (wrongLv s.clock) cmpL s.lives = r1) := ⟨_, rfl⟩
  obtain ⟨q1, HQ1⟩ : ∃ q1, Hid (listA (wrongLv s.clock) cmpL s.lives = q1) := ⟨_, rfl⟩
  obtain ⟨r2, HR2⟩ : ∃ r2, Hid (listE (wrongTl s.clock) cmpT s.tals = r2) := ⟨_, rfl⟩
  obtain ⟨q2, HQ2⟩ : ∃ q2, Hid (listA (wrongTl s.clock) cmpT s.tals = q2) := ⟨_, rfl⟩
  rw [HR.out, HR1.out, HR2.out] at HE
  rw [HR.out, HR1.out, HQ1.out, HQ2.out] at HA
  by_cases hr : r = 0
  · subst hr
    have hk : ∀ k, k < s.clock.length → 0 ≤ s.clock.getD k 0 ∧ s.clock.getD k 0 ≤ 1000 := (wrongC_ok HR.out).2.2.2
    have HKK := hide hk
    clear hk
    by_cases hr1 : r1 = 0
    · subst hr1
      obtain rfl : r2 = E := by rw [← HE.out]; simp
      obtain rfl : q2 = A := by rw [← HA.out]; simp
      clear HE HA
      go_enter Try.func10, Try.ntmps10
      have cG0 := G0.out.get 0 rfl
      have cG1 := G0.out.get 1 rfl
      have cG2 := G0.out.get 2 rfl
      go_wp2_with fail
      refine (wrong_clock _ s.clock n _ C0.out).mono ?_
      rintro e w' ⟨rfl, hw'⟩
      rw [hw']; clear hw' w'
      rw [HR.out]
      go_wp2_with fail
      refine (listWrong_live _ s.lives w.heap.size _ _ _ s.clock _ L0.out G0.out C0.out).mono ?_
      rintro e w1 ⟨rfl, hb⟩
      have HB1 := hide (below_step HB0.out hb)
      have C1 := hide (C0.out.below hb (Nat.le_refl _))
      have L1 := hide (L0.out.below hb (Nat.le_refl _))
      have T1 := hide (T0.out.below hb (Nat.le_refl _))
      have G1 := hide (G0.out.below hb (Nat.le_refl _))
      have Z1 := hide (Z0.out.below hb (Nat.le_refl _))
      clear HB0 hb C0 L0 T0 G0 Z0
      rw [HR1.out, HQ1.out]
      clear cG0 cG1 cG2
      have HB2 := hide (below_step HB1.out (Below.plus (Below.refl _ w1) (.cells #[.int .i64 0, .int .i64 q1] 31)))
      have C2 := hide (C1.out.below (Below.plus (Below.refl _ w1) (.cells #[.int .i64 0, .int .i64 q1] 31)) (Nat.le_refl _))
      have L2 := hide (L1.out.below (Below.plus (Below.refl _ w1) (.cells #[.int .i64 0, .int .i64 q1] 31)) (Nat.le_refl _))
      have T2 := hide (T1.out.below (Below.plus (Below.refl _ w1) (.cells #[.int .i64 0, .int .i64 q1] 31)) (Nat.le_refl _))
      have G2 := hide (G1.out.below (Below.plus (Below.refl _ w1) (.cells #[.int .i64 0, .int .i64 q1] 31)) (Nat.le_refl _))
      have Z2 := hide (Z1.out.below (Below.plus (Below.refl _ w1) (.cells #[.int .i64 0, .int .i64 q1] 31)) (Nat.le_refl _))
      have V2 := hide (Box.new w1 [.int .i64 0, .int .i64 q1] 31)
      clear HB1 C1 L1 T1 G1 Z1
      have cG0 := G2.out.get 0 rfl
      have cG1 := G2.out.get 1 rfl
      have cG2 := G2.out.get 2 rfl
      go_wp2_with fail
      refine (listWrong_tally _ s.tals w.heap.size _ _ _ s.clock _ T2.out G2.out C2.out HKK.out).mono ?_
      rintro e w3 ⟨rfl, hb⟩
      have HB3 := hide (below_step HB2.out hb)
      have C3 := hide (C2.out.below hb (Nat.le_refl _))
      have L3 := hide (L2.out.below hb (Nat.le_refl _))
      have T3 := hide (T2.out.below hb (Nat.le_refl _))
      have G3 := hide (G2.out.below hb (Nat.le_refl _))
      have Z3 := hide (Z2.out.below hb (Nat.le_refl _))
      have V3 := hide (V2.out.below hb (Nat.le_refl _))
      clear HB2 hb C2 L2 T2 G2 Z2 V2
      rw [HR2.out, HQ2.out]
      have cZ0 := Z3.out.get 0 rfl
      have cZ1 := Z3.out.get 1 rfl
      have f0 := Z3.out.free 0
      have f1 := Z3.out.free 1
      go_wp2_with fail
      have hZ := (Z3.out.set 0 (.int .i64 r2)).set 1 (.int .i64 q2)
      refine bodyPost_ret (results_cell_row rfl _ _ (w.heap.size + 1) 31 _ (0, 0) _ rfl hZ Try.underlying31 rfl Try.sizeFault) rfl ⟨rfl, ?_⟩
      exact (HB3.out.setCell (by show w.heap.size ≤ w.heap.size + 1; omega) _).setCell (by show w.heap.size ≤ w.heap.size + 1; omega) _
    · have hr1' : (r1 != 0) = true := by simp [hr1]
      obtain rfl : r1 = E := by rw [← HE.out]; simp [hr1]
      obtain rfl : q1 = A := by rw [← HA.out]; simp [hr1]
      clear HE HA
      go_enter Try.func10, Try.ntmps10
      have cG0 := G0.out.get 0 rfl
      have cG1 := G0.out.get 1 rfl
      have cG2 := G0.out.get 2 rfl
      go_wp2_with fail
      refine (wrong_clock _ s.clock n _ C0.out).mono ?_
      rintro e w' ⟨rfl, hw'⟩
      rw [hw']; clear hw' w'
      rw [HR.out]
      go_wp2_with fail
      refine (listWrong_live _ s.lives w.heap.size _ _ _ s.clock _ L0.out G0.out C0.out).mono ?_
      rintro e w1 ⟨rfl, hb⟩
      have HB1 := hide (below_step HB0.out hb)
      have C1 := hide (C0.out.below hb (Nat.le_refl _))
      have L1 := hide (L0.out.below hb (Nat.le_refl _))
      have T1 := hide (T0.out.below hb (Nat.le_refl _))
      have G1 := hide (G0.out.below hb (Nat.le_refl _))
      have Z1 := hide (Z0.out.below hb (Nat.le_refl _))
      clear HB0 hb C0 L0 T0 G0 Z0
      rw [HR1.out, HQ1.out]
      clear cG0 cG1 cG2
      have HB2 := hide (below_step HB1.out (Below.plus (Below.refl _ w1) (.cells #[.int .i64 r1, .int .i64 q1] 31)))
      have C2 := hide (C1.out.below (Below.plus (Below.refl _ w1) (.cells #[.int .i64 r1, .int .i64 q1] 31)) (Nat.le_refl _))
      have L2 := hide (L1.out.below (Below.plus (Below.refl _ w1) (.cells #[.int .i64 r1, .int .i64 q1] 31)) (Nat.le_refl _))
      have T2 := hide (T1.out.below (Below.plus (Below.refl _ w1) (.cells #[.int .i64 r1, .int .i64 q1] 31)) (Nat.le_refl _))
      have G2 := hide (G1.out.below (Below.plus (Below.refl _ w1) (.cells #[.int .i64 r1, .int .i64 q1] 31)) (Nat.le_refl _))
      have Z2 := hide (Z1.out.below (Below.plus (Below.refl _ w1) (.cells #[.int .i64 r1, .int .i64 q1] 31)) (Nat.le_refl _))
      have V2 := hide (Box.new w1 [.int .i64 r1, .int .i64 q1] 31)
      clear HB1 C1 L1 T1 G1 Z1
      have cV0 := V2.out.get 0 rfl
      have cV1 := V2.out.get 1 rfl
      have cZ0 := Z2.out.get 0 rfl
      have cZ1 := Z2.out.get 1 rfl
      have f0 := Z2.out.free 0
      have f1 := Z2.out.free 1
      go_wp2_with fail
      have hZ := (Z2.out.set 0 (.int .i64 r1)).set 1 (.int .i64 q1)
      refine bodyPost_ret (results_cell_row rfl _ _ (w.heap.size + 1) 31 _ (0, 0) _ rfl hZ Try.underlying31 rfl Try.sizeFault) rfl ⟨rfl, ?_⟩
      exact (HB2.out.setCell (by show w.heap.size ≤ w.heap.size + 1; omega) _).setCell (by show w.heap.size ≤ w.heap.size + 1; omega) _
  · have hr' : (r != 0) = true := by simp [hr]
    obtain rfl : r = E := by rw [← HE.out]; simp [hr]
    obtain rfl : (0 : Int) = A := by rw [← HA.out]; simp [hr]
    clear HE HA
    go_enter Try.func10, Try.ntmps10
    have cG0 := G0.out.get 0 rfl
    have cG1 := G0.out.get 1 rfl
    have cG2 := G0.out.get 2 rfl
    go_wp2_with fail
    refine (wrong_clock _ s.clock n _ C0.out).mono ?_
    rintro e w' ⟨rfl, hw'⟩
    rw [hw']; clear hw' w'
    rw [HR.out]
    have cZ0 := Z0.out.get 0 rfl
    have cZ1 := Z0.out.get 1 rfl
    have f0 := Z0.out.free 0
    have f1 := Z0.out.free 1
    go_wp2_with fail
    have hZ := Box.new (w.alloc (.cells #[.slice a1 s.clock.length cap1, .slice a2 s.lives.length cap2, .slice a3 s.tals.length cap3] 27)) [.int .i64 r, .int .i64 0] 31
    rw [World.size_alloc] at hZ
    refine bodyPost_ret (results_cell_row rfl _ _ (w.heap.size + 1) 31 _ (0, 0) _ rfl hZ Try.underlying31 rfl Try.sizeFault) rfl ⟨rfl, ?_⟩
    exact Below.plus (Below.plus (Below.refl w.heap.size w) _) _


set_option maxRecDepth 100000 in
set_option maxHeartbeats 2000000 in
theorem same_st (v u : Value) (s : StS) (w : World) (h : IsSt w v s) (hu : IsSt w u s) :
    Calls Try.prog 12 #[v, u] w fun e w' => e = .returned (.bool true) ∧ Below w.heap.size w w' := by
  obtain ⟨cv, lv, tv, rfl, hc, hv, ht⟩ := h
  obtain ⟨a1, cap1, rfl, -, -, -⟩ := id hc
  obtain ⟨a2, cap2, rfl, -, -, -⟩ := id hv
  obtain ⟨a3, cap3, rfl, -, -, -⟩ := id ht
  obtain ⟨cv', lv', tv', rfl, hc', hv', ht'⟩ := hu
  obtain ⟨b1, dap1, rfl, -, -, -⟩ := id hc'
  obtain ⟨b2, dap2, rfl, -, -, -⟩ := id hv'
  obtain ⟨b3, dap3, rfl, -, -, -⟩ := id ht'
  have hlL := hv.len_le
  have hlT := ht.len_le
  have hb2 := Below.plus (Below.plus (Below.refl w.heap.size w) (.cells #[.slice a1 s.clock.length cap1, .slice a2 s.lives.length cap2, .slice a3 s.tals.length cap3] 27)) (.cells #[.slice b1 s.clock.length dap1, .slice b2 s.lives.length dap2, .slice b3 s.tals.length dap3] 27)
  have C0 := hide (hc.below hb2 (Nat.le_refl _))
  have D0 := hide (hc'.below hb2 (Nat.le_refl _))
  have L0 := hide (hv.below hb2 (Nat.le_refl _))
  have M0 := hide (hv'.below hb2 (Nat.le_refl _))
  have T0 := hide (ht.below hb2 (Nat.le_refl _))
  have S0 := hide (ht'.below hb2 (Nat.le_refl _))
  have G0 := hide ((Box.new w [.slice a1 s.clock.length cap1, .slice a2 s.lives.length cap2, .slice a3 s.tals.length cap3] 27).plus (.cells #[.slice b1 s.clock.length dap1, .slice b2 s.lives.length dap2, .slice b3 s.tals.length dap3] 27))
  have H0 := hide (Box.new (w.alloc (.cells #[.slice a1 s.clock.length cap1, .slice a2 s.lives.length cap2, .slice a3 s.tals.length cap3] 27)) [.slice b1 s.clock.length dap1, .slice b2 s.lives.length dap2, .slice b3 s.tals.length dap3] 27)
  rw [World.size_alloc] at H0
  have HB0 := hide hb2
  have e1 : ((s.lives.length : Int) != (s.lives.length : Int)) = false := by simp
  have e2 : ((s.tals.length : Int) != (s.tals.length : Int)) = false := by simp
  clear hc hv ht hc' hv' ht' hb2
  go_enter Try.func12, Try.ntmps12
  have cG0 := G0.out.get 0 rfl
  have cG1 := G0.out.get 1 rfl
  have cG2 := G0.out.get 2 rfl
  have cH0 := H0.out.get 0 rfl
  have cH1 := H0.out.get 1 rfl
  have cH2 := H0.out.get 2 rfl
  go_wp2_with fail
  refine (same_ref _ _ s.clock s.clock _ C0.out D0.out).mono ?_
  rintro e w1 ⟨rfl, hb⟩
  have HB1 := hide (below_step HB0.out hb)
  have C1 := hide (C0.out.below hb (Nat.le_refl _))
  have D1 := hide (D0.out.below hb (Nat.le_refl _))
  have L1 := hide (L0.out.below hb (Nat.le_refl _))
  have M1 := hide (M0.out.below hb (Nat.le_refl _))
  have T1 := hide (T0.out.below hb (Nat.le_refl _))
  have S1 := hide (S0.out.below hb (Nat.le_refl _))
  have G1 := hide (G0.out.below hb (Nat.le_refl _))
  have H1 := hide (H0.out.below hb (Nat.le_refl _))
  clear HB0 hb C0 D0 L0 M0 T0 S0 G0 H0
  have e0 : decide (s.clock = s.clock) = true := by simp
  rw [e0]
  clear cG0 cG1 cG2
  clear cH0 cH1 cH2
  have cG0 := G1.out.get 0 rfl
  have cG1 := G1.out.get 1 rfl
  have cG2 := G1.out.get 2 rfl
  have cH0 := H1.out.get 0 rfl
  have cH1 := H1.out.get 1 rfl
  have cH2 := H1.out.get 2 rfl
  go_wp2_with fail
  go_loopw [34] (fun i wr => ∃ k : Nat, k ≤ s.lives.length ∧ i = .int .i64 k ∧ Hid (Below w1.heap.size w1 wr)) (fun i _ => s.lives.length - (intOf i).toNat)
  case atStart => exact ⟨0, Nat.zero_le _, rfl, hide (Below.refl _ _)⟩
  case round =>
    obtain ⟨k, hk, rfl, HBr⟩ := hrel
    obtain ⟨w2, rfl⟩ : ∃ w2, w2 = wr := ⟨wr, rfl⟩
    have G2 := hide (G1.out.below HBr.out (Nat.le_refl _))
    have H2 := hide (H1.out.below HBr.out (Nat.le_refl _))
    have L2 := hide (L1.out.below HBr.out (Nat.le_refl _))
    have M2 := hide (M1.out.below HBr.out (Nat.le_refl _))
    have g1 := G2.out.get 1 rfl
    have h1 := H2.out.get 1 rfl
    have g2 := G2.out.get 2 rfl
    have h2 := H2.out.get 2 rfl
    clear cG0 cG1 cG2 cH0 cH1 cH2
    by_cases hlt : k < s.lives.length
    · obtain ⟨x, hx⟩ : ∃ x, s.lives[k]? = some x := ⟨_, List.getElem?_eq_getElem hlt⟩
      obtain ⟨b, off, rfl, d0, d1, d2, d3, d4⟩ := livesAt L2.out hx
      obtain ⟨b', off', rfl, p0, p1, p2, p3, p4⟩ := livesAt M2.out hx
      have hlt' : (k : Int) < (s.lives.length : Int) := by omega
      go_wp2_with fail
      go_quiet (fail)
      go_wp2_with fail
      go_roundw
      case rel => exact ⟨k + 1, by omega, by go_num, hide (below_drewN HBr.out _)⟩
      case measure => simp [intOf]; omega
    · have hlt' : ¬ (k : Int) < (s.lives.length : Int) := by omega
      have HB2 := hide (below_step HB1.out HBr.out)
      have T2 := hide (T1.out.below HBr.out (Nat.le_refl _))
      have S2 := hide (S1.out.below HBr.out (Nat.le_refl _))
      clear HB1 T1 S1 G1 H1 L1 M1 C1 D1 L2 M2 HBr
      go_wp2_with fail
      go_loopw [52] (fun i wr => ∃ k : Nat, k ≤ s.tals.length ∧ i = .int .i64 k ∧ Hid (Below w2.heap.size w2 wr)) (fun i _ => s.tals.length - (intOf i).toNat)
      case atStart => exact ⟨0, Nat.zero_le _, rfl, hide (Below.refl _ _)⟩
      case round =>
        obtain ⟨k, hk, rfl, HBr⟩ := hrel
        obtain ⟨w3, rfl⟩ : ∃ w3, w3 = wr := ⟨wr, rfl⟩
        have G3 := hide (G2.out.below HBr.out (Nat.le_refl _))
        have H3 := hide (H2.out.below HBr.out (Nat.le_refl _))
        have T3 := hide (T2.out.below HBr.out (Nat.le_refl _))
        have S3 := hide (S2.out.below HBr.out (Nat.le_refl _))
        clear g1 g2 h1 h2
        have g2 := G3.out.get 2 rfl
        have h2 := H3.out.get 2 rfl
        by_cases hlt : k < s.tals.length
        · obtain ⟨x, hx⟩ : ∃ x, s.tals[k]? = some x := ⟨_, List.getElem?_eq_getElem hlt⟩
          obtain ⟨b, off, rfl, d0, d1, d2⟩ := talsAt T3.out hx
          obtain ⟨b', off', rfl, p0, p1, p2⟩ := talsAt S3.out hx
          have hlt' : (k : Int) < (s.tals.length : Int) := by omega
          go_wp2_with fail
          go_quiet (fail)
          go_wp2_with fail
          go_roundw
          case rel => exact ⟨k + 1, by omega, by go_num, hide (below_drewN HBr.out _)⟩
          case measure => simp [intOf]; omega
        · have hlt' : ¬ (k : Int) < (s.tals.length : Int) := by omega
          go_wp2_with fail
          go_ret
          exact ⟨rfl, below_step HB2.out HBr.out⟩
end Go.Proofs.Ytkhhifkihpfdhaa
