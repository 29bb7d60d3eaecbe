/- WorldSame, walked. -/
import Derived.Test.YtbgeblafcbabaaaGreatWdD
namespace Go.Proofs.YtbgeblafcbabaaaGreat
open Go.RowKit

set_option maxRecDepth 100000 in
set_option maxHeartbeats 8000000 in
theorem wsame_law (n : Int) (lv : Value) (l : List DoS) (w0 : World) (hl : DoV w0 lv l) :
  Calls Tryz.prog 5 #[.int .i64 n, lv] w0 fun e w' => e = .returned (.bool true) ∧ Below w0.heap.size w0 w' := by
 have HB0 := hide (Below.refl w0.heap.size w0)
 have L0 := hide hl
 obtain ⟨la, lc, hlv, -, -, -⟩ := id hl
 subst hlv
 have hlen := hl.len_le
 obtain ⟨E, HE⟩ : ∃ E, Hid (playWE n l = E) := ⟨_, rfl⟩
 obtain ⟨X, HX⟩ : ∃ X, Hid (playWX n l = X) := ⟨_, rfl⟩
 obtain ⟨C, HC⟩ : ∃ C, Hid (playWC n l = C) := ⟨_, rfl⟩
 clear hl
 by_cases hE : E = 0
 ·subst hE
  obtain ⟨k, hk, hk1, hk6, hl150, hXr, hCr, hXn⟩ := played HE.out
  rw [HX.out] at hXr hXn
  rw [HC.out] at hCr
  have HI := hide (run_all hk1 hk6 l)
  rw [← hXr] at HI
  have HXR := hide hXr
  have HCR := hide hCr
  have HXN := hide hXn
  have HNK := hide hk
  clear hXr hCr hXn hk
  go_enter Tryz.func5, Tryz.ntmps5
  go_wp2_with fail
  refine (alive7 _).mono ?_
  rintro e w1 ⟨rfl, hb1⟩
  have HB1 := hide (below_step HB0.out hb1)
  have L1 := hide (L0.out.below hb1 (nlr _))
  clear hb1 HB0 L0
  go_wp2_with fail
  refine (play_w n _ l _ L1.out).mono ?_
  rintro e w2 ⟨wv, cv, rfl, hW, hC, hb2⟩
  rw [HE.out]
  rw [HX.out] at hW
  rw [HC.out] at hC
  obtain ⟨a1, a2, hwv, hx6⟩ := hW.form
  subst hwv
  obtain ⟨ca, cc, hcv⟩ := hC.form
  subst hcv
  have hbp := Below.plus (Below.refl w2.heap.size w2) (.cells #[.slice a1 X.nodes.length X.nodes.length, .slice a2 X.nodes.length X.nodes.length] 26)
  have W3 := hW.below hbp
  have C3 := hC.below hbp
  have B3 := Box.new w2 [.slice a1 X.nodes.length X.nodes.length, .slice a2 X.nodes.length X.nodes.length] 26
  have hb3 := below_step hb2 hbp
  obtain ⟨w3, HW3⟩ : ∃ W, Hid (w2.alloc (.cells #[.slice a1 X.nodes.length X.nodes.length, .slice a2 X.nodes.length X.nodes.length] 26) = W) := ⟨_, rfl⟩
  rw [HW3.out] at W3 C3 B3 hb3
  have HB3 := hide (below_step HB1.out hb3)
  have L3 := hide (L1.out.below hb3 (nlr _))
  have HWO := hide W3
  have HCO := hide C3
  have HBX := hide B3
  clear hW hC hbp W3 C3 B3 hb3 hb2 HB1 L1
  have z0 := HBX.out.get 0 rfl
  go_wp2_with fail
  rw [HW3.out]
  clear z0
  go_loopw [26] (fun q wr => ∃ i : Nat, i ≤ X.nodes.length ∧ q = .int .i64 i ∧ Hid (Below w3.heap.size w3 wr)) (fun q _ => X.nodes.length - (intOf q).toNat)
  case atStart => exact ⟨0, Nat.zero_le _, rfl, hide (Below.refl _ _)⟩
  case round =>
   obtain ⟨i, hi, rfl, HBi⟩ := hrel
   obtain ⟨w4, rfl⟩ : ∃ w4, w4 = wr := ⟨wr, rfl⟩
   by_cases hlt : i < X.nodes.length
   ·have hlt' : (i : Int) < (X.nodes.length : Int) := by omega
    obtain ⟨d, HD⟩ : ∃ d, Hid (X.nodes.getD i noNode = d) := ⟨_, rfl⟩
    obtain ⟨gn, ba1, bc1, ba2, bc2, ba3, bc3, ba4, bc4, ba5, bc5, ba6, bc6, hga, hno, q0, q1, q2, q3, q4, q5, q6⟩ := (HWO.out.below HBi.out).at (getD_some (z := noNode) hlt)
    rw [HD.out] at hno q0 q1 q2 q3 q4 q5 q6
    subst hga
    have hbp := Below.plus (Below.refl w4.heap.size w4) (.cells #[.int .i64 d.self, .slice ba1 d.st.clock.length bc1, .slice ba2 d.st.lives.length bc2, .slice ba3 d.st.tals.length bc3, .slice ba4 d.base.length bc4, .slice ba5 d.log.length bc5, .slice ba6 d.known.length bc6] 44)
    have A5 := Box.new w4 [.int .i64 d.self, .slice ba1 d.st.clock.length bc1, .slice ba2 d.st.lives.length bc2, .slice ba3 d.st.tals.length bc3, .slice ba4 d.base.length bc4, .slice ba5 d.log.length bc5, .slice ba6 d.known.length bc6] 44
    have N5 := hno.below hbp (nlr _)
    obtain ⟨w5, HW5⟩ : ∃ W, Hid (w4.alloc (.cells #[.int .i64 d.self, .slice ba1 d.st.clock.length bc1, .slice ba2 d.st.lives.length bc2, .slice ba3 d.st.tals.length bc3, .slice ba4 d.base.length bc4, .slice ba5 d.log.length bc5, .slice ba6 d.known.length bc6] 44) = W) := ⟨_, rfl⟩
    rw [HW5.out] at hbp A5 N5
    have HB5 := hide (below_step HBi.out hbp)
    have HA5 := hide A5
    have HN5 := hide N5
    have y0 := (HBX.out.below HB5.out (nlr _)).get 0 rfl
    clear hno hbp A5 N5
    go_upto_region 9 with fail
    rw [HW5.out]
    clear q0 q1 q2 q3 q4 q5 q6
    go_wp2_with fail
    clear y0
    go_loopw [33] (fun q wr => ∃ j : Nat, j ≤ X.nodes.length ∧ q = .int .i64 j ∧ Hid (Below w5.heap.size w5 wr)) (fun q _ => X.nodes.length - (intOf q).toNat)
    case atStart => exact ⟨0, Nat.zero_le _, rfl, hide (Below.refl _ _)⟩
    case round =>
     obtain ⟨j, hj, rfl, HBj⟩ := hrel
     obtain ⟨w6, rfl⟩ : ∃ w6, w6 = wr := ⟨wr, rfl⟩
     have HB6 := hide (below_step HB5.out HBj.out)
     by_cases hjt : j < X.nodes.length
     ·have hjt' : (j : Int) < (X.nodes.length : Int) := by omega
      obtain ⟨f, HF⟩ : ∃ f, Hid (X.nodes.getD j noNode = f) := ⟨_, rfl⟩
      obtain ⟨gm, ea1, ec1, ea2, ec2, ea3, ec3, ea4, ec4, ea5, ec5, ea6, ec6, hgb, hnf, q0, q1, q2, q3, q4, q5, q6⟩ := (HWO.out.below HB6.out).at (getD_some (z := noNode) hjt)
      rw [HF.out] at hnf q0 q1 q2 q3 q4 q5 q6
      simp only [Option.some.injEq, Addr.mk.injEq, and_true] at hgb
      subst hgb
      have hbp := Below.plus (Below.refl w6.heap.size w6) (.cells #[.int .i64 f.self, .slice ea1 f.st.clock.length ec1, .slice ea2 f.st.lives.length ec2, .slice ea3 f.st.tals.length ec3, .slice ea4 f.base.length ec4, .slice ea5 f.log.length ec5, .slice ea6 f.known.length ec6] 44)
      have A7 := Box.new w6 [.int .i64 f.self, .slice ea1 f.st.clock.length ec1, .slice ea2 f.st.lives.length ec2, .slice ea3 f.st.tals.length ec3, .slice ea4 f.base.length ec4, .slice ea5 f.log.length ec5, .slice ea6 f.known.length ec6] 44
      have N7 := hnf.below hbp (nlr _)
      obtain ⟨w7, HW7⟩ : ∃ W, Hid (w6.alloc (.cells #[.int .i64 f.self, .slice ea1 f.st.clock.length ec1, .slice ea2 f.st.lives.length ec2, .slice ea3 f.st.tals.length ec3, .slice ea4 f.base.length ec4, .slice ea5 f.log.length ec5, .slice ea6 f.known.length ec6] 44) = W) := ⟨_, rfl⟩
      rw [HW7.out] at hbp A7 N7
      have HB7 := hide (below_step HBj.out hbp)
      have D7 := hide (HA5.out.below HB7.out (nlr _))
      have M7 := hide (HN5.out.below HB7.out (nlr _))
      have HA7 := hide A7
      have HN7 := hide N7
      clear hnf hbp A7 N7
      go_upto_region 12 with fail
      rw [HW7.out]
      clear q0 q1 q2 q3 q4 q5 q6
      have p1 := D7.out.get 1 rfl
      have r1 := HA7.out.get 1 rfl
      go_wp2_with fail
      refine (same_ref _ _ d.st.clock f.st.clock _ M7.out.clk.1 HN7.out.clk.1).mono ?_
      rintro e w8 ⟨rfl, hb8⟩
      have HB8 := hide (below_step HB7.out hb8)
      have D8 := hide (D7.out.below hb8 (nlr _))
      have A8 := hide (HA7.out.below hb8 (nlr _))
      have M8 := hide (M7.out.below hb8 (nlr _))
      have N8 := hide (HN7.out.below hb8 (nlr _))
      clear hb8 p1 r1 D7 HA7 M7 HN7
      by_cases hcl : d.st.clock = f.st.clock
      ·rw [decide_eq_true hcl]
       have hst : f.st = d.st := by
        have := same_clock HI.out hlt hjt (by rw [HD.out, HF.out]; exact hcl)
        rw [HD.out, HF.out] at this
        exact this.symm
       have HST := hide hst
       clear hcl hst
       have p1 := D8.out.get 1 rfl
       have p2 := D8.out.get 2 rfl
       have p3 := D8.out.get 3 rfl
       have r1 := A8.out.get 1 rfl
       have r2 := A8.out.get 2 rfl
       have r3 := A8.out.get 3 rfl
       go_wp2_with fail
       refine (same_st _ _ d.st _ M8.out.clk.2.2.1 (st_cast N8.out.clk.2.2.1 HST.out)).mono ?_
       rintro e w9 ⟨rfl, hb9⟩
       have HB9 := hide (below_step HB8.out hb9)
       clear hb9 p1 p2 p3 r1 r2 r3
       go_wp2_with fail
       go_roundw
       case rel => exact ⟨j + 1, by omega, by go_num, HB9⟩
       case measure => simp [intOf]; omega
      ·rw [decide_eq_false hcl]
       clear hcl
       go_wp2_with fail
       go_roundw
       case rel => exact ⟨j + 1, by omega, by go_num, HB8⟩
       case measure => simp [intOf]; omega
     ·have hjt' : ¬ (j : Int) < (X.nodes.length : Int) := by omega
      go_wp2_with fail
      go_roundw
      case rel => exact ⟨i + 1, by omega, by go_num, HB6⟩
      case measure => simp [intOf]; omega
   ·have hlt' : ¬ (i : Int) < (X.nodes.length : Int) := by omega
    have HBw := hide (below_step HB3.out HBi.out)
    go_wp2_with fail
    go_ret
    exact ⟨rfl, HBw.out⟩
 ·have hE' : (E != 0) = true := by simp [hE]
  clear hE
  go_enter Tryz.func5, Tryz.ntmps5
  go_wp2_with fail
  refine (alive7 _).mono ?_
  rintro e w1 ⟨rfl, hb1⟩
  have HB1 := hide (below_step HB0.out hb1)
  have L1 := hide (L0.out.below hb1 (nlr _))
  clear hb1
  go_wp2_with fail
  refine (play_w n _ l _ L1.out).mono ?_
  rintro e w2 ⟨wv, cv, rfl, hW, hC, hb2⟩
  rw [HE.out]
  rw [HX.out] at hW
  rw [HC.out] at hC
  obtain ⟨a1, a2, hwv, -⟩ := hW.form
  subst hwv
  obtain ⟨ca, cc, hcv⟩ := hC.form
  subst hcv
  have HB3 := hide (below_step (below_step HB1.out hb2) (Below.plus (Below.refl w2.heap.size w2) (.cells #[.slice a1 X.nodes.length X.nodes.length, .slice a2 X.nodes.length X.nodes.length] 26)))
  go_wp2_with fail
  go_ret
  exact ⟨rfl, HB3.out⟩
end Go.Proofs.YtbgeblafcbabaaaGreat
