/- TopRegister, walked. -/
import Derived.Test.YtihedgnachophaaGreatTpB
namespace Go.Proofs.YtihedgnachophaaGreat
open Go.RowKit

def regA (key a b : Int) : List Upd := [⟨0, [0, 0], 1, key, a⟩, ⟨1, [0, 0], 1, key, b⟩]
def regB (key a b c : Int) : List Upd := [⟨0, [0, 0], 1, key, a⟩, ⟨1, [0, 0], 1, key, b⟩, ⟨1, [1, 1], 1, key, c⟩]
def regL (key a b : Int) : List DoS := [issD 0 1 key a, issD 1 1 key b] ++ [sendD 0 1, delD 0 1] ++ [sendD 1 0, delD 1 0]
def regM (key a b c : Int) : List DoS := regL key a b ++ [issD 1 1 key c] ++ [sendD 1 0, delD 1 0]
theorem reg_run {key a b c : Int} (fa : FitK 1 key a) (fb : FitK 1 key b) (fc : FitK 1 key c) : At 2 (regA key a b) [[1, 1], [1, 1]] (regL key a b) ∧ At 2 (regB key a b c) [[1, 2], [1, 2]] (regM key a b c) := by
 have s0 : At 2 [] [[0, 0], [0, 0]] [] := At.start (by decide) (by decide)
 have s1 : At 2 [⟨0, [0, 0], 1, key, a⟩] [[1, 0], [0, 0]] [issD 0 1 key a] := (s0.iss (i := 0) (by simp) (by decide) fa).cast (by decide +kernel)
 have s2 : At 2 (regA key a b) [[1, 0], [0, 1]] [issD 0 1 key a, issD 1 1 key b] := (s1.iss (i := 1) (by simp) (by decide) fb).cast (by decide +kernel)
 have s3 := (s2.tell (a := 0) (b := 1) (by simp [regA]) (by decide) (by decide) (by decide)).cast (cs' := [[1, 0], [1, 1]]) (by decide +kernel)
 have s4 : At 2 (regA key a b) [[1, 1], [1, 1]] (regL key a b) := (s3.tell (a := 1) (b := 0) (by simp [regA]) (by decide) (by decide) (by decide)).cast (by decide +kernel)
 have s5 : At 2 (regB key a b c) [[1, 1], [1, 2]] (regL key a b ++ [issD 1 1 key c]) := (s4.iss (i := 1) (by simp [regA]) (by decide) fc).cast (by decide +kernel)
 exact ⟨s4, (s5.tell (a := 1) (b := 0) (by simp [regB]) (by decide) (by decide) (by decide)).cast (by decide +kernel)⟩
theorem regA_read {key a b : Int} {l : List DoS} (h : At 2 (regA key a b) [[1, 1], [1, 1]] l) (hab : a < b) : ofL (readX (ofS (2 : Nat) (regA key a b) ([[1, 1], [1, 1]].getD 0 []))).regs key = [a, b] := by
 refine h.reg (i := 0) (by decide) key (by simp [hab]) fun x => ?_
 show _ ↔ ∃ y ∈ applyLv (applyLv [] ⟨0, [0, 0], 1, key, a⟩) ⟨1, [0, 0], 1, key, b⟩, y.set = false ∧ y.key = key ∧ y.item = x
 have e1 : newL ⟨0, [0, 0], 1, key, a⟩ = some ⟨false, key, a, 0, 1⟩ := rfl
 have e2 : newL ⟨1, [0, 0], 1, key, b⟩ = some ⟨false, key, b, 1, 1⟩ := rfl
 constructor
 ·intro hx
  simp only [List.mem_cons, List.not_mem_nil, or_false] at hx
  rcases hx with hx | hx
  ·rw [hx]
   exact ⟨_, mem_applyLv.2 (.inr ⟨mem_applyLv.2 (.inl e1), not_ends (show ([0, 0] : List Int).getD 0 0 < 1 by decide)⟩), rfl, rfl, rfl⟩
  ·rw [hx]
   exact ⟨_, mem_applyLv.2 (.inl e2), rfl, rfl, rfl⟩
 ·rintro ⟨y, hy, -, -, h3⟩
  rcases mem_applyLv.1 hy with hy | ⟨hy, -⟩
  ·rw [e2] at hy
   rw [← h3, ← Option.some.inj hy]
   simp
  ·rcases mem_applyLv.1 hy with hy | ⟨hy, -⟩
   ·rw [e1] at hy
    rw [← h3, ← Option.some.inj hy]
    simp
   ·simp at hy
theorem regB_read {key a b c : Int} {l : List DoS} (h : At 2 (regB key a b c) [[1, 2], [1, 2]] l) : ofL (readX (ofS (2 : Nat) (regB key a b c) ([[1, 2], [1, 2]].getD 0 []))).regs key = [c] := by
 refine h.reg (i := 0) (by decide) key (by simp) fun x => ?_
 show _ ↔ ∃ y ∈ applyLv (applyLv (applyLv [] ⟨0, [0, 0], 1, key, a⟩) ⟨1, [0, 0], 1, key, b⟩) ⟨1, [1, 1], 1, key, c⟩, y.set = false ∧ y.key = key ∧ y.item = x
 have e1 : newL ⟨0, [0, 0], 1, key, a⟩ = some ⟨false, key, a, 0, 1⟩ := rfl
 have e2 : newL ⟨1, [0, 0], 1, key, b⟩ = some ⟨false, key, b, 1, 1⟩ := rfl
 have e3 : newL ⟨1, [1, 1], 1, key, c⟩ = some ⟨false, key, c, 1, 2⟩ := rfl
 constructor
 ·intro hx
  rw [List.mem_singleton.1 hx]
  exact ⟨_, mem_applyLv.2 (.inl e3), rfl, rfl, rfl⟩
 ·rintro ⟨y, hy, -, -, h3⟩
  rcases mem_applyLv.1 hy with hy | ⟨hy, he⟩
  ·rw [e3] at hy
   rw [← h3, ← Option.some.inj hy]
   simp
  ·rcases mem_applyLv.1 hy with hy | ⟨hy, -⟩
   ·rw [e2] at hy
    rw [← Option.some.inj hy] at he
    simp [endsB, hasC] at he
   ·rcases mem_applyLv.1 hy with hy | ⟨hy, -⟩
    ·rw [e1] at hy
     rw [← Option.some.inj hy] at he
     simp [endsB, hasC] at he
    ·simp at hy

set_option maxRecDepth 100000 in
set_option maxHeartbeats 4000000 in
theorem topreg_law (key a b c : Int) (w0 : World) :
  Calls Tryz.prog 4 #[.int .i64 key, .int .i64 a, .int .i64 b, .int .i64 c] w0 fun e w' => e = .returned (.bool true) ∧ Below w0.heap.size w0 w' := by
 obtain ⟨bb, HBB⟩ : ∃ bb, Hid (rightB key [a, b, c] = bb) := ⟨_, rfl⟩
 obtain ⟨i0, hi, hz0, hz1, hz2⟩ := info_parts Tryz.infoDoT
 have HB0 := hide (Below.refl w0.heap.size w0)
 have HS0 := hide (nlr w0.heap.size)
 go_enter Tryz.func4, Tryz.ntmps4
 go_wp2_with fail
 refine (aliveT _).mono ?_
 rintro e w1 ⟨rfl, hb⟩
 have HB1 := hide (HB0.out.trans (hb.mono HS0.out))
 have HS1 := hide (Nat.le_trans HS0.out hb.size)
 clear HB0 HS0  hb
 have hbp := bpl w1 (.cells #[.int .i64 a, .int .i64 b, .int .i64 c] 3)
 have xI := (show Row (w1.alloc (.cells #[.int .i64 a, .int .i64 b, .int .i64 c] 3)) (.slice (some ⟨w1.heap.size, 0, none⟩) 3 3) [a, b, c] from rowLit w1 [a, b, c] (by simp))
 obtain ⟨w2, HW2⟩ : ∃ W, Hid (w1.alloc (.cells #[.int .i64 a, .int .i64 b, .int .i64 c] 3) = W) := ⟨_, rfl⟩
 rw [HW2.out] at hbp xI
 have HB2 := hide (HB1.out.trans (hbp.mono HS1.out))
 have HS2 := hide (Nat.le_trans HS1.out hbp.size)
 have I2 := hide xI
 clear HB1 HS1  hbp
 clear xI
 go_wp2_with fail
 rw [HW2.out]
 refine (rightT_w key _ [a, b, c] _ I2.out).mono ?_
 rintro e w3 ⟨rfl, hb⟩
 have HB3 := hide (HB2.out.trans (hb.mono HS2.out))
 have HS3 := hide (Nat.le_trans HS2.out hb.size)
 have I3 := hide (I2.out.below hb (nlr _))
 clear HB2 HS2 I2 hb
 rw [HBB.out]
 clear I3
 cases bb with
 | false =>
  go_wp2_with fail
  go_ret
  exact ⟨rfl, HB3.out⟩
 | true =>
  by_cases hab : a ≥ b
  ·go_wp2_with fail
   go_ret
   exact ⟨rfl, HB3.out⟩
  ·obtain ⟨r1, r2, r3⟩ := right_ok HBB.out
   have fa : FitK 1 key a := by have := r1 a (by simp); unfold FitK; omega
   have fb : FitK 1 key b := by have := r1 b (by simp); unfold FitK; omega
   have fc : FitK 1 key c := by have := r1 c (by simp); unfold FitK; omega
   obtain ⟨hA, hB⟩ := reg_run fa fb fc
   have HR := hide (regA_read hA (by omega))
   have HQ := hide (regB_read hB)
   have HA := hide hA
   have HBt := hide hB
   clear hA hB fa fb fc r1 r2 r3
   obtain ⟨V, HVV⟩ : ∃ V, Hid (readX (ofS (2 : Nat) (regA key a b) ([[1, 1], [1, 1]].getD 0 [])) = V) := ⟨_, rfl⟩
   have HVW : Hid (readX (ofS (2 : Nat) (regA key a b) ([[1, 1], [1, 1]].getD 1 [])) = V) := HVV.out
   obtain ⟨U, HVU⟩ : ∃ U, Hid (readX (ofS (2 : Nat) (regB key a b c) ([[1, 2], [1, 2]].getD 0 [])) = U) := ⟨_, rfl⟩
   rw [HVV.out] at HR
   rw [HVU.out] at HQ
   go_wp2_with fail
   refine (issueT_fn 0 1 key a _).mono ?_
   rintro e w4 ⟨rfl, hb⟩
   have HB4 := hide (HB3.out.trans (hb.mono HS3.out))
   have HS4 := hide (Nat.le_trans HS3.out hb.size)
   clear HB3 HS3  hb
   go_wp2_with fail
   refine (issueT_fn 1 1 key b _).mono ?_
   rintro e w5 ⟨rfl, hb⟩
   have HB5 := hide (HB4.out.trans (hb.mono HS4.out))
   have HS5 := hide (Nat.le_trans HS4.out hb.size)
   clear HB4 HS4  hb
   have hbp := bpl w5 (.cells #[.int .i64 1, .int .i64 0, .int .i64 0, .int .i64 0, .slice none 0 0, .int .i64 1, .int .i64 key, .int .i64 a, .int .i64 1, .int .i64 1, .int .i64 0, .int .i64 0, .slice none 0 0, .int .i64 1, .int .i64 key, .int .i64 b] 39)
   have xO := (show OwnT (w5.alloc (.cells #[.int .i64 1, .int .i64 0, .int .i64 0, .int .i64 0, .slice none 0 0, .int .i64 1, .int .i64 key, .int .i64 a, .int .i64 1, .int .i64 1, .int .i64 0, .int .i64 0, .slice none 0 0, .int .i64 1, .int .i64 key, .int .i64 b] 39)) w0.heap.size (.slice (some ⟨w5.heap.size, 0, none⟩) 2 2) [issD 0 1 key a, issD 1 1 key b] from OwnT.box (l := [issD 0 1 key a, issD 1 1 key b]) (Box.new w5 ([issD 0 1 key a, issD 1 1 key b].flatMap cellsD) 39) HS5.out (by simp [issD]) (by simp))
   obtain ⟨w6, HW6⟩ : ∃ W, Hid (w5.alloc (.cells #[.int .i64 1, .int .i64 0, .int .i64 0, .int .i64 0, .slice none 0 0, .int .i64 1, .int .i64 key, .int .i64 a, .int .i64 1, .int .i64 1, .int .i64 0, .int .i64 0, .slice none 0 0, .int .i64 1, .int .i64 key, .int .i64 b] 39) = W) := ⟨_, rfl⟩
   rw [HW6.out] at hbp xO
   have HB6 := hide (HB5.out.trans (hbp.mono HS5.out))
   have HS6 := hide (Nat.le_trans HS5.out hbp.size)
   have O6 := hide xO
   clear HB5 HS5  hbp
   clear xO
   go_wp2_with fail
   rw [HW6.out]
   refine (tellT_w 0 1 _ [issD 0 1 key a, issD 1 1 key b] _ _ (by simp) HS6.out O6.out).mono ?_
   rintro e w7 ⟨lv7, rfl, hO, hb, hk⟩
   have HB7 := hide (HB6.out.trans hb)
   have HS7 := hide (Nat.le_trans HS6.out hb.size)
   have O7 := hide hO
   clear HB6 HS6  hb
   clear hO hk O6
   go_wp2_with fail
   refine (tellT_w 1 0 _ ([issD 0 1 key a, issD 1 1 key b] ++ [sendD 0 1, delD 0 1]) _ _ (by simp) HS7.out O7.out).mono ?_
   rintro e w8 ⟨lv8, rfl, hO, hb, hk⟩
   have HB8 := hide (HB7.out.trans hb)
   have HS8 := hide (Nat.le_trans HS7.out hb.size)
   have O8 := hide hO
   clear HB7 HS7  hb
   clear hO hk O7
   have OL : Hid (OwnT w8 w0.heap.size lv8 (regL key a b)) := O8.out
   clear O8
   have O8 := OL
   clear OL
   go_wp2_with fail
   refine (readsT_w HA.out (by simp [regL]) 0 (by decide) _ _ O8.out.dos).mono ?_
   rintro e w9 ⟨rv, rfl, hV, hb⟩
   rw [HVV.out] at hV
   obtain ⟨Vxa1, Vxc1, Vxa2, Vxc2, Vxa3, Vxc3, hrv⟩ := hV.read.form
   subst hrv
   have HB9 := hide (HB8.out.trans (hb.mono HS8.out))
   have HS9 := hide (Nat.le_trans HS8.out hb.size)
   have O9 := hide (O8.out.step hb (nlr _))
   have Vx9 := hide hV
   clear HB8 HS8 O8 hb
   have HGx := HS9
   have hbp := bpl w9 (.cells #[.slice Vxa1 V.regs.length Vxc1, .slice Vxa2 V.sets.length Vxc2, .slice Vxa3 V.cnts.length Vxc3] 58)
   have xx := Box.new w9 [.slice Vxa1 V.regs.length Vxc1, .slice Vxa2 V.sets.length Vxc2, .slice Vxa3 V.cnts.length Vxc3] 58
   obtain ⟨w10, HW10⟩ : ∃ W, Hid (w9.alloc (.cells #[.slice Vxa1 V.regs.length Vxc1, .slice Vxa2 V.sets.length Vxc2, .slice Vxa3 V.cnts.length Vxc3] 58) = W) := ⟨_, rfl⟩
   rw [HW10.out] at hbp xx
   have HB10 := hide (HB9.out.trans (hbp.mono HS9.out))
   have HS10 := hide (Nat.le_trans HS9.out hbp.size)
   have O10 := hide (O9.out.step hbp (nlr _))
   have Vx10 := hide (Vx9.out.below hbp (nlr _))
   have x10 := hide xx
   clear HB9 HS9 O9 Vx9 hbp
   clear xx
   go_wp2_with fail
   rw [HW10.out]
   refine (readsT_w HA.out (by simp [regL]) 1 (by decide) _ _ O10.out.dos).mono ?_
   rintro e w11 ⟨rv, rfl, hV, hb⟩
   rw [HVW.out] at hV
   obtain ⟨Vya1, Vyc1, Vya2, Vyc2, Vya3, Vyc3, hrv⟩ := hV.read.form
   subst hrv
   have HB11 := hide (HB10.out.trans (hb.mono HS10.out))
   have HS11 := hide (Nat.le_trans HS10.out hb.size)
   have O11 := hide (O10.out.step hb (nlr _))
   have Vx11 := hide (Vx10.out.below hb (nlr _))
   have x11 := hide (x10.out.below hb (nlr _))
   have Vy11 := hide hV
   clear HB10 HS10 O10 Vx10 x10 hb
   have HGy := HS11
   have hbp := bpl w11 (.cells #[.slice Vya1 V.regs.length Vyc1, .slice Vya2 V.sets.length Vyc2, .slice Vya3 V.cnts.length Vyc3] 58)
   have xy := Box.new w11 [.slice Vya1 V.regs.length Vyc1, .slice Vya2 V.sets.length Vyc2, .slice Vya3 V.cnts.length Vyc3] 58
   obtain ⟨w12, HW12⟩ : ∃ W, Hid (w11.alloc (.cells #[.slice Vya1 V.regs.length Vyc1, .slice Vya2 V.sets.length Vyc2, .slice Vya3 V.cnts.length Vyc3] 58) = W) := ⟨_, rfl⟩
   rw [HW12.out] at hbp xy
   have HB12 := hide (HB11.out.trans (hbp.mono HS11.out))
   have HS12 := hide (Nat.le_trans HS11.out hbp.size)
   have O12 := hide (O11.out.step hbp (nlr _))
   have Vx12 := hide (Vx11.out.below hbp (nlr _))
   have x12 := hide (x11.out.below hbp (nlr _))
   have Vy12 := hide (Vy11.out.below hbp (nlr _))
   have y12 := hide xy
   clear HB11 HS11 O11 Vx11 x11 Vy11 hbp
   clear xy
   go_upto_region 9 with fail
   rw [HW12.out]
   have z0 := x12.out.get 0 rfl
   go_wp2_with fail
   refine (ofT_fn _ V.regs key _ Vx12.out.read.parts.1).mono ?_
   rintro e w13 ⟨fv, rfl, hF, hb⟩
   rw [HR.out] at hF
   have HB13 := hide (HB12.out.trans (hb.mono HS12.out))
   have HS13 := hide (Nat.le_trans HS12.out hb.size)
   have O13 := hide (O12.out.step hb (nlr _))
   have Vx13 := hide (Vx12.out.below hb (nlr _))
   have x13 := hide (x12.out.below hb (nlr _))
   have Vy13 := hide (Vy12.out.below hb (nlr _))
   have y13 := hide (y12.out.below hb (nlr _))
   have F13 := hide hF
   clear HB12 HS12 O12 Vx12 x12 Vy12 y12 hb
   clear z0 hF
   have hbp := bpl w13 (.cells #[.int .i64 a, .int .i64 b] 3)
   have xZ := (show Row (w13.alloc (.cells #[.int .i64 a, .int .i64 b] 3)) (.slice (some ⟨w13.heap.size, 0, none⟩) 2 2) [a, b] from rowLit w13 [a, b] (by simp))
   obtain ⟨w14, HW14⟩ : ∃ W, Hid (w13.alloc (.cells #[.int .i64 a, .int .i64 b] 3) = W) := ⟨_, rfl⟩
   rw [HW14.out] at hbp xZ
   have HB14 := hide (HB13.out.trans (hbp.mono HS13.out))
   have HS14 := hide (Nat.le_trans HS13.out hbp.size)
   have O14 := hide (O13.out.step hbp (nlr _))
   have Vx14 := hide (Vx13.out.below hbp (nlr _))
   have x14 := hide (x13.out.below hbp (nlr _))
   have Vy14 := hide (Vy13.out.below hbp (nlr _))
   have y14 := hide (y13.out.below hbp (nlr _))
   have F14 := hide (F13.out.below hbp (nlr _))
   have Z14 := hide xZ
   clear HB13 HS13 O13 Vx13 x13 Vy13 y13 F13 hbp
   clear xZ
   go_wp2_with fail
   rw [HW14.out]
   refine (same_ref _ _ [a, b] [a, b] _ F14.out Z14.out).mono ?_
   rintro e w15 ⟨rfl, hb⟩
   rw [decide_eq_true (rfl : ([a, b] : List Int) = [a, b])]
   have HB15 := hide (HB14.out.trans (hb.mono HS14.out))
   have HS15 := hide (Nat.le_trans HS14.out hb.size)
   have O15 := hide (O14.out.step hb (nlr _))
   have Vx15 := hide (Vx14.out.below hb (nlr _))
   have x15 := hide (x14.out.below hb (nlr _))
   have Vy15 := hide (Vy14.out.below hb (nlr _))
   have y15 := hide (y14.out.below hb (nlr _))
   have F15 := hide (F14.out.below hb (nlr _))
   have Z15 := hide (Z14.out.below hb (nlr _))
   clear HB14 HS14 O14 Vx14 x14 Vy14 y14 F14 Z14 hb
   clear F15
   clear Z15
   have xz0 := x15.out.get 0 rfl
   have xz1 := x15.out.get 1 rfl
   have xz2 := x15.out.get 2 rfl
   have yz0 := y15.out.get 0 rfl
   have yz1 := y15.out.get 1 rfl
   have yz2 := y15.out.get 2 rfl
   go_wp2_with fail
   refine (sameView_yes _ _ V _ Vx15.out.read Vy15.out.read).mono ?_
   rintro e w16 ⟨rfl, hb⟩
   have HB16 := hide (HB15.out.trans (hb.mono HS15.out))
   have HS16 := hide (Nat.le_trans HS15.out hb.size)
   have O16 := hide (O15.out.step hb (nlr _))
   have Vx16 := hide (Vx15.out.below hb (nlr _))
   have x16 := hide (x15.out.below hb (nlr _))
   have Vy16 := hide (Vy15.out.below hb (nlr _))
   have y16 := hide (y15.out.below hb (nlr _))
   clear HB15 HS15 O15 Vx15 x15 Vy15 y15 hb
   clear xz0 xz1 xz2 yz0 yz1 yz2
   clear Vx16
   clear Vy16
   clear y16
   go_wp2_with fail
   refine (issueT_fn 1 1 key c _).mono ?_
   rintro e w17 ⟨rfl, hb⟩
   have HB17 := hide (HB16.out.trans (hb.mono HS16.out))
   have HS17 := hide (Nat.le_trans HS16.out hb.size)
   have O17 := hide (O16.out.step hb (nlr _))
   have x17 := hide (x16.out.below hb (nlr _))
   clear HB16 HS16 O16 x16 hb
   go_wp2_with (at_builtin; refine wpList_append_own _ rfl (.tmp 71) (.tmp 75) 22 rfl w0.heap.size 39 i0 (.agg #[.int .i64 0, .int .i64 0, .int .i64 0, .int .i64 0, .slice none 0 0, .int .i64 0, .int .i64 0, .int .i64 0]) 8 80 Tryz.underlying22 hi hz0 hz1 hz2 rfl (by decide) _ _ _ rfl ((O17.out.step ((Below.refl w17.heap.size w17).alloc (nlr _) _) (nlr _)).1) ⟨w17.heap.size, 0, none⟩ 1 1 ([issD 1 1 key c].flatMap cellsD) rfl rfl ?c1 ?c2 ?c3 ?c4 ?c5 ?_)
   case c1 => exact alloc_cells w17 ([issD 1 1 key c].flatMap cellsD) 39
   case c2 => exact flatD_one _
   case c3 => unfold maxLen; have := (show (regL key a b).length ≤ 100 by simp [regL]); omega
   case c4 => have := (show (regL key a b).length ≤ 100 by simp [regL]); omega
   case c5 => have := HS17.out; simp; omega
   intro lv18 w18 hown' hgrow _
   have hO : OwnT w18 w0.heap.size lv18 (regL key a b ++ [issD 1 1 key c]) := OwnT.more O17.out (by simp [issD]) hown'
   have hk : Keeps [39] w17 w18 := (Keeps.below ((Below.refl w17.heap.size w17).alloc (nlr _) _)).trans (keepsT (O17.out.step ((Below.refl w17.heap.size w17).alloc (nlr _) _) (nlr _)) hgrow)
   have hb := ((Below.refl w0.heap.size w17).alloc HS17.out _).grown hgrow (by have := HS17.out; simp; omega) (fun g hg => (World.ownsRow.lt O17.out.1 g hg).1)
   have HB18 := hide (HB17.out.trans hb)
   have HS18 := hide (Nat.le_trans HS17.out hb.size)
   have x18 := hide (hk.box x17.out (by decide))
   have O18 := hide hO
   clear HB17 HS17 x17 hb
   clear hO hk hown' hgrow O17
   go_wp2_with fail
   refine (tellT_w 1 0 _ (regL key a b ++ [issD 1 1 key c]) _ _ (by simp [regL]) HS18.out O18.out).mono ?_
   rintro e w19 ⟨lv19, rfl, hO, hb, hk⟩
   have HB19 := hide (HB18.out.trans hb)
   have HS19 := hide (Nat.le_trans HS18.out hb.size)
   have x19 := hide (hk.box x18.out (by decide))
   have O19 := hide hO
   clear HB18 HS18 x18 hb
   clear hO hk O18
   have OL : Hid (OwnT w19 w0.heap.size lv19 (regM key a b c)) := O19.out
   clear O19
   have O19 := OL
   clear OL
   have HLTx := hide x19.out.lt
   go_wp2_with fail
   refine (readsT_w HBt.out (by simp [regM, regL]) 0 (by decide) _ _ O19.out.dos).mono ?_
   rintro e w20 ⟨rv, rfl, hV, hb⟩
   rw [HVU.out] at hV
   obtain ⟨Una1, Unc1, Una2, Unc2, Una3, Unc3, hrv⟩ := hV.read.form
   subst hrv
   have HB20 := hide (HB19.out.trans (hb.mono HS19.out))
   have HS20 := hide (Nat.le_trans HS19.out hb.size)
   have x20 := hide (x19.out.below hb (nlr _))
   have O20 := hide (O19.out.step hb (nlr _))
   have Vn20 := hide hV
   clear HB19 HS19 x19 O19 hb
   have z0 := x20.out.get 0 rfl
   have f0 := x20.out.free 0
   have z1 := x20.out.get 1 rfl
   have f1 := x20.out.free 1
   have z2 := x20.out.get 2 rfl
   have f2 := x20.out.free 2
   have xV := ((Vn20.out.away HLTx.out 0 (.slice Una1 U.regs.length Unc1)).away HLTx.out 1 (.slice Una2 U.sets.length Unc2)).away HLTx.out 2 (.slice Una3 U.cnts.length Unc3)
   have xB := (((x20.out.set 0 (.slice Una1 U.regs.length Unc1)).set 1 (.slice Una2 U.sets.length Unc2)).set 2 (.slice Una3 U.cnts.length Unc3))
   simp only [put2, put3] at xB
   have xH := (((HB20.out.setCell (p := ⟨w9.heap.size, 0, none⟩) HGx.out (.slice Una1 U.regs.length Unc1)).setCell (p := ⟨w9.heap.size, 1, none⟩) HGx.out (.slice Una2 U.sets.length Unc2)).setCell (p := ⟨w9.heap.size, 2, none⟩) HGx.out (.slice Una3 U.cnts.length Unc3))
   obtain ⟨w21, HW21⟩ : ∃ W, Hid ((((w20.setCell ⟨w9.heap.size, 0, none⟩ (.slice Una1 U.regs.length Unc1)).setCell ⟨w9.heap.size, 1, none⟩ (.slice Una2 U.sets.length Unc2)).setCell ⟨w9.heap.size, 2, none⟩ (.slice Una3 U.cnts.length Unc3)) = W) := ⟨_, rfl⟩
   rw [HW21.out] at xV xB xH
   have HB21 := hide xH
   have HS21 := hide HB21.out.size
   have Vn21 := hide xV
   have x21 := hide xB
   clear O20
   clear xV xB xH HB20 HS20 Vn20 x20
   have zz := x21.out.get 0 rfl
   go_wp2_with fail
   rw [HW21.out]
   refine (ofT_fn _ U.regs key _ Vn21.out.read.parts.1).mono ?_
   rintro e w22 ⟨fv, rfl, hF, hb⟩
   rw [HQ.out] at hF
   have HB22 := hide (HB21.out.trans (hb.mono HS21.out))
   have HS22 := hide (Nat.le_trans HS21.out hb.size)
   have x22 := hide (x21.out.below hb (nlr _))
   have Vn22 := hide (Vn21.out.below hb (nlr _))
   have F22 := hide hF
   clear HB21 HS21 x21 Vn21 hb
   clear hF
   have hbp := bpl w22 (.cells #[.int .i64 c] 3)
   have xZ := (show Row (w22.alloc (.cells #[.int .i64 c] 3)) (.slice (some ⟨w22.heap.size, 0, none⟩) 1 1) [c] from rowLit w22 [c] (by simp))
   obtain ⟨w23, HW23⟩ : ∃ W, Hid (w22.alloc (.cells #[.int .i64 c] 3) = W) := ⟨_, rfl⟩
   rw [HW23.out] at hbp xZ
   have HB23 := hide (HB22.out.trans (hbp.mono HS22.out))
   have HS23 := hide (Nat.le_trans HS22.out hbp.size)
   have x23 := hide (x22.out.below hbp (nlr _))
   have Vn23 := hide (Vn22.out.below hbp (nlr _))
   have F23 := hide (F22.out.below hbp (nlr _))
   have Z23 := hide xZ
   clear HB22 HS22 x22 Vn22 F22 hbp
   clear xZ
   go_wp2_with fail
   rw [HW23.out]
   refine (same_ref _ _ [c] [c] _ F23.out Z23.out).mono ?_
   rintro e w24 ⟨rfl, hb⟩
   rw [decide_eq_true (rfl : ([c] : List Int) = [c])]
   have HB24 := hide (HB23.out.trans (hb.mono HS23.out))
   have HS24 := hide (Nat.le_trans HS23.out hb.size)
   have x24 := hide (x23.out.below hb (nlr _))
   have Vn24 := hide (Vn23.out.below hb (nlr _))
   have F24 := hide (F23.out.below hb (nlr _))
   have Z24 := hide (Z23.out.below hb (nlr _))
   clear HB23 HS23 x23 Vn23 F23 Z23 hb
   go_wp2_with fail
   go_ret
   exact ⟨rfl, HB24.out⟩
end Go.Proofs.YtihedgnachophaaGreat
