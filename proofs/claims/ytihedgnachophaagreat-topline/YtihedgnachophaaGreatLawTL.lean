/- TopLine, walked. -/
import Derived.Test.YtihedgnachophaaGreatTpB
namespace Go.Proofs.YtihedgnachophaaGreat
open Go.RowKit

set_option maxRecDepth 100000 in
set_option maxHeartbeats 4000000 in
theorem topline_law (n key item : Int) (w0 : World) :
  Calls Tryz.prog 8 #[.int .i64 n, .int .i64 key, .int .i64 item] w0 fun e w' => e = .returned (.bool true) ∧ Below w0.heap.size w0 w' := by
 by_cases h2 : n < 2
 ·have HB0 := hide (Below.refl w0.heap.size w0)
  have HS0 := hide (nlr w0.heap.size)
  go_enter Tryz.func8, Tryz.ntmps8
  go_wp2_with fail
  refine (aliveT _).mono ?_
  rintro e w1 ⟨rfl, hb⟩
  have HB1 := hide (HB0.out.trans (hb.mono HS0.out))
  have HS1 := hide (Nat.le_trans HS0.out hb.size)
  clear HB0 HS0  hb
  go_wp2_with fail
  go_ret
  exact ⟨rfl, HB1.out⟩
 ·by_cases h6 : n > 6
  ·have HB0 := hide (Below.refl w0.heap.size w0)
   have HS0 := hide (nlr w0.heap.size)
   go_enter Tryz.func8, Tryz.ntmps8
   go_wp2_with fail
   refine (aliveT _).mono ?_
   rintro e w1 ⟨rfl, hb⟩
   have HB1 := hide (HB0.out.trans (hb.mono HS0.out))
   have HS1 := hide (Nat.le_trans HS0.out hb.size)
   clear HB0 HS0  hb
   go_wp2_with fail
   go_ret
   exact ⟨rfl, HB1.out⟩
  ·obtain ⟨k, hk⟩ : ∃ k : Nat, n = k := ⟨n.toNat, by omega⟩
   subst hk
   have hk2 : 2 ≤ k := by omega
   have hk6 : k ≤ 6 := by omega
   have hk6' : ¬ (6 < (k : Int)) := by omega
   obtain ⟨b, HBB⟩ : ∃ b, Hid (rightB key [item] = b) := ⟨_, rfl⟩
   have HB0 := hide (Below.refl w0.heap.size w0)
   have HS0 := hide (nlr w0.heap.size)
   go_enter Tryz.func8, Tryz.ntmps8
   go_wp2_with fail
   refine (aliveT _).mono ?_
   rintro e w1 ⟨rfl, hb⟩
   have HB1 := hide (HB0.out.trans (hb.mono HS0.out))
   have HS1 := hide (Nat.le_trans HS0.out hb.size)
   clear HB0 HS0  hb
   have hbp := bpl w1 (.cells #[.int .i64 item] 3)
   have xI := (show Row (w1.alloc (.cells #[.int .i64 item] 3)) (.slice (some ⟨w1.heap.size, 0, none⟩) 1 1) [item] from rowLit w1 [item] (by simp))
   obtain ⟨w2, HW2⟩ : ∃ W, Hid (w1.alloc (.cells #[.int .i64 item] 3) = W) := ⟨_, rfl⟩
   rw [HW2.out] at hbp xI
   have HB2 := hide (HB1.out.trans (hbp.mono HS1.out))
   have HS2 := hide (Nat.le_trans HS1.out hbp.size)
   have I2 := hide xI
   clear HB1 HS1  hbp
   clear xI
   go_wp2_with fail
   rw [HW2.out]
   refine (rightT_w key _ [item] _ I2.out).mono ?_
   rintro e w3 ⟨rfl, hb⟩
   have HB3 := hide (HB2.out.trans (hb.mono HS2.out))
   have HS3 := hide (Nat.le_trans HS2.out hb.size)
   have I3 := hide (I2.out.below hb (nlr _))
   clear HB2 HS2 I2 hb
   rw [HBB.out]
   clear I3
   cases b with
   | false =>
    go_wp2_with fail
    go_ret
    exact ⟨rfl, HB3.out⟩
   | true =>
    obtain ⟨r1, r2, r3⟩ := right_ok HBB.out
    have hfit : FitK 1 key item := by have := r1 item (by simp); unfold FitK; omega
    obtain ⟨cs, hAt, hc⟩ := line_run (k := k) (by omega) hk6 hfit (k - 1) (by omega)
    have HR := hide (line_read hAt (i := k - 1) (by omega) hc)
    have HAT := hide hAt
    clear hAt hc hfit r1 r2 r3
    obtain ⟨V, HVV⟩ : ∃ V, Hid (readX (ofS k [⟨0, zeroC k, 1, key, item⟩] (cs.getD (k - 1) [])) = V) := ⟨_, rfl⟩
    rw [HVV.out] at HR
    have hks : (k : Int) - 1 = ((k - 1 : Nat) : Int) := by omega
    obtain ⟨m, HM⟩ : ∃ m, Hid (k - 1 = m) := ⟨_, rfl⟩
    rw [HM.out] at hks HVV HAT
    have hmk : m < k := by have := HM.out; omega
    have HKS := hide hks
    clear hks
    go_wp2_with fail
    refine (issueT_fn 0 1 key item _).mono ?_
    rintro e w4 ⟨rfl, hb⟩
    have HB4 := hide (HB3.out.trans (hb.mono HS3.out))
    have HS4 := hide (Nat.le_trans HS3.out hb.size)
    clear HB3 HS3  hb
    have hbp := bpl w4 (.cells #[.int .i64 1, .int .i64 0, .int .i64 0, .int .i64 0, .slice none 0 0, .int .i64 1, .int .i64 key, .int .i64 item] 39)
    have xO := (show OwnT (w4.alloc (.cells #[.int .i64 1, .int .i64 0, .int .i64 0, .int .i64 0, .slice none 0 0, .int .i64 1, .int .i64 key, .int .i64 item] 39)) w0.heap.size (.slice (some ⟨w4.heap.size, 0, none⟩) 1 1) [issD 0 1 key item] from OwnT.box (l := [issD 0 1 key item]) (Box.new w4 ([issD 0 1 key item].flatMap cellsD) 39) HS4.out (by simp [issD]) (by simp))
    obtain ⟨w5, HW5⟩ : ∃ W, Hid (w4.alloc (.cells #[.int .i64 1, .int .i64 0, .int .i64 0, .int .i64 0, .slice none 0 0, .int .i64 1, .int .i64 key, .int .i64 item] 39) = W) := ⟨_, rfl⟩
    rw [HW5.out] at hbp xO
    have HB5 := hide (HB4.out.trans (hbp.mono HS4.out))
    have HS5 := hide (Nat.le_trans HS4.out hbp.size)
    have O5 := hide xO
    clear HB4 HS4  hbp
    clear xO
    go_wp2_with fail
    rw [HW5.out]
    go_loopw [7, 32] (fun o q wr => ∃ j : Nat, j ≤ m ∧ q = .int .i64 j ∧ Hid (OwnT wr w0.heap.size o (lineL key item j)) ∧ Hid (Below w0.heap.size w0 wr)) (fun _ q _ => m - (intOf q).toNat)
    case atStart => exact ⟨0, Nat.zero_le _, rfl, O5, HB5⟩
    case round =>
     obtain ⟨j, hj, rfl, OJ, HBJ⟩ := hrel
     obtain ⟨w6, rfl⟩ : ∃ w6, w6 = wr := ⟨wr, rfl⟩
     have O6 := OJ
     have HB6 := HBJ
     have HS6 := hide HBJ.out.size
     clear OJ HBJ O5 HB5 HS5
     by_cases hlt : j < m
     ·have hlt' : (j : Int) < (k : Int) - 1 := by rw [HKS.out]; omega
      have hj1 : (j : Int) + 1 = ((j + 1 : Nat) : Int) := by omega
      have HJ1 := hide hj1
      clear hj1
      have HLL := hide (lineL_len key item j)
      go_wp2_with fail
      rw [HJ1.out]
      refine (tellT_w j (j + 1) _ (lineL key item j) _ _ (by rw [HLL.out]; omega) HS6.out O6.out).mono ?_
      rintro e w7 ⟨lv7, rfl, hO, hb, hk⟩
      have HB7 := hide (HB6.out.trans hb)
      have HS7 := hide (Nat.le_trans HS6.out hb.size)
      have O7 := hide hO
      clear HB6 HS6  hb
      clear hO hk O6
      go_wp2_with fail
      go_roundw
      case rel => exact ⟨j + 1, by omega, by go_num, O7, HB7⟩
      case measure => simp [intOf]; omega
     ·have hlt' : ¬ (j : Int) < (k : Int) - 1 := by rw [HKS.out]; omega
      obtain rfl : j = m := by omega
      have HLL := hide (lineL_len key item j)
      go_wp2_with fail
      rw [HKS.out]
      refine (readsT_w HAT.out (by rw [HLL.out]; omega) j hmk _ _ O6.out.dos).mono ?_
      rintro e w7 ⟨rv, rfl, hV, hb⟩
      rw [HVV.out] at hV
      obtain ⟨Vxa1, Vxc1, Vxa2, Vxc2, Vxa3, Vxc3, hrv⟩ := hV.read.form
      subst hrv
      have HB7 := hide (HB6.out.trans (hb.mono HS6.out))
      have HS7 := hide (Nat.le_trans HS6.out hb.size)
      have O7 := hide (O6.out.step hb (nlr _))
      have Vx7 := hide hV
      clear HB6 HS6 O6 hb
      clear O7
      have HGx := HS7
      have hbp := bpl w7 (.cells #[.slice Vxa1 V.regs.length Vxc1, .slice Vxa2 V.sets.length Vxc2, .slice Vxa3 V.cnts.length Vxc3] 58)
      have xx := Box.new w7 [.slice Vxa1 V.regs.length Vxc1, .slice Vxa2 V.sets.length Vxc2, .slice Vxa3 V.cnts.length Vxc3] 58
      obtain ⟨w8, HW8⟩ : ∃ W, Hid (w7.alloc (.cells #[.slice Vxa1 V.regs.length Vxc1, .slice Vxa2 V.sets.length Vxc2, .slice Vxa3 V.cnts.length Vxc3] 58) = W) := ⟨_, rfl⟩
      rw [HW8.out] at hbp xx
      have HB8 := hide (HB7.out.trans (hbp.mono HS7.out))
      have HS8 := hide (Nat.le_trans HS7.out hbp.size)
      have Vx8 := hide (Vx7.out.below hbp (nlr _))
      have x8 := hide xx
      clear HB7 HS7 Vx7 hbp
      clear xx
      have z0 := x8.out.get 0 rfl
      go_wp2_with fail
      rw [HW8.out]
      refine (ofT_fn _ V.regs key _ Vx8.out.read.parts.1).mono ?_
      rintro e w9 ⟨fv, rfl, hF, hb⟩
      rw [HR.out] at hF
      have HB9 := hide (HB8.out.trans (hb.mono HS8.out))
      have HS9 := hide (Nat.le_trans HS8.out hb.size)
      have Vx9 := hide (Vx8.out.below hb (nlr _))
      have x9 := hide (x8.out.below hb (nlr _))
      have F9 := hide hF
      clear HB8 HS8 Vx8 x8 hb
      clear z0 hF
      have hbp := bpl w9 (.cells #[.int .i64 item] 3)
      have xU := (show Row (w9.alloc (.cells #[.int .i64 item] 3)) (.slice (some ⟨w9.heap.size, 0, none⟩) 1 1) [item] from rowLit w9 [item] (by simp))
      obtain ⟨w10, HW10⟩ : ∃ W, Hid (w9.alloc (.cells #[.int .i64 item] 3) = W) := ⟨_, rfl⟩
      rw [HW10.out] at hbp xU
      have HB10 := hide (HB9.out.trans (hbp.mono HS9.out))
      have HS10 := hide (Nat.le_trans HS9.out hbp.size)
      have Vx10 := hide (Vx9.out.below hbp (nlr _))
      have x10 := hide (x9.out.below hbp (nlr _))
      have F10 := hide (F9.out.below hbp (nlr _))
      have U10 := hide xU
      clear HB9 HS9 Vx9 x9 F9 hbp
      clear xU
      go_wp2_with fail
      rw [HW10.out]
      refine (same_ref _ _ [item] [item] _ F10.out U10.out).mono ?_
      rintro e w11 ⟨rfl, hb⟩
      rw [decide_eq_true (rfl : ([item] : List Int) = [item])]
      have HB11 := hide (HB10.out.trans (hb.mono HS10.out))
      have HS11 := hide (Nat.le_trans HS10.out hb.size)
      have Vx11 := hide (Vx10.out.below hb (nlr _))
      have x11 := hide (x10.out.below hb (nlr _))
      have F11 := hide (F10.out.below hb (nlr _))
      have U11 := hide (U10.out.below hb (nlr _))
      clear HB10 HS10 Vx10 x10 F10 U10 hb
      go_wp2_with fail
      go_ret
      exact ⟨rfl, HB11.out⟩
end Go.Proofs.YtihedgnachophaaGreat
