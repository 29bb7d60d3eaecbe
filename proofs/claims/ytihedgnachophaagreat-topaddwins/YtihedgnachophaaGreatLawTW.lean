/- TopAddWins, walked. -/
import Derived.Test.YtihedgnachophaaGreatTpB
namespace Go.Proofs.YtihedgnachophaaGreat
open Go.RowKit

def adA (key it : Int) : List Upd := [⟨0, [0, 0], 3, key, it⟩, ⟨0, [1, 0], 3, key, it⟩, ⟨1, [1, 0], 4, key, it⟩]
def adB (key it : Int) : List Upd := [⟨0, [0, 0], 3, key, it⟩, ⟨0, [1, 0], 3, key, it⟩, ⟨1, [1, 0], 4, key, it⟩, ⟨1, [2, 1], 4, key, it⟩]
def adL (key it : Int) : List DoS := [issD 0 3 key it] ++ [sendD 0 1, delD 0 1] ++ [issD 0 3 key it, issD 1 4 key it] ++ [sendD 0 1, delD 0 1] ++ [sendD 1 0, delD 1 0]
def adM (key it : Int) : List DoS := adL key it ++ [issD 1 4 key it] ++ [sendD 1 0, delD 1 0]
theorem ad_run {key it : Int} (fa : FitK 3 key it) (fb : FitK 4 key it) : At 2 (adA key it) [[2, 1], [2, 1]] (adL key it) ∧ At 2 (adB key it) [[2, 2], [2, 2]] (adM key it) := by
 have s0 : At 2 [] [[0, 0], [0, 0]] [] := At.start (by decide) (by decide)
 have s1 : At 2 [⟨0, [0, 0], 3, key, it⟩] [[1, 0], [0, 0]] [issD 0 3 key it] := (s0.iss (i := 0) (by simp) (by decide) fa).cast (by decide +kernel)
 have s2 := (s1.tell (a := 0) (b := 1) (by simp) (by decide) (by decide) (by decide)).cast (cs' := [[1, 0], [1, 0]]) (by decide +kernel)
 have s3 : At 2 [⟨0, [0, 0], 3, key, it⟩, ⟨0, [1, 0], 3, key, it⟩] [[2, 0], [1, 0]] ([issD 0 3 key it] ++ [sendD 0 1, delD 0 1] ++ [issD 0 3 key it]) := (s2.iss (i := 0) (by simp) (by decide) fa).cast (by decide +kernel)
 have s4 : At 2 (adA key it) [[2, 0], [1, 1]] ([issD 0 3 key it] ++ [sendD 0 1, delD 0 1] ++ [issD 0 3 key it, issD 1 4 key it]) := (s3.iss (i := 1) (by simp) (by decide) fb).cast (by decide +kernel)
 have s5 := (s4.tell (a := 0) (b := 1) (by simp [adA]) (by decide) (by decide) (by decide)).cast (cs' := [[2, 0], [2, 1]]) (by decide +kernel)
 have s6 : At 2 (adA key it) [[2, 1], [2, 1]] (adL key it) := (s5.tell (a := 1) (b := 0) (by simp [adA]) (by decide) (by decide) (by decide)).cast (by decide +kernel)
 have s7 : At 2 (adB key it) [[2, 1], [2, 2]] (adL key it ++ [issD 1 4 key it]) := (s6.iss (i := 1) (by simp [adA]) (by decide) fb).cast (by decide +kernel)
 exact ⟨s6, (s7.tell (a := 1) (b := 0) (by simp [adB]) (by decide) (by decide) (by decide)).cast (by decide +kernel)⟩
theorem adA_read {key it : Int} {l : List DoS} (h : At 2 (adA key it) [[2, 1], [2, 1]] l) : ofL (readX (ofS (2 : Nat) (adA key it) ([[2, 1], [2, 1]].getD 0 []))).sets key = [it] := by
 refine h.sets (i := 0) (by decide) key (by simp) fun x => ?_
 show _ ↔ ∃ y ∈ applyLv (applyLv (applyLv [] ⟨0, [0, 0], 3, key, it⟩) ⟨0, [1, 0], 3, key, it⟩) ⟨1, [1, 0], 4, key, it⟩, y.set = true ∧ y.key = key ∧ y.item = x
 have e1 : newL ⟨0, [0, 0], 3, key, it⟩ = some ⟨true, key, it, 0, 1⟩ := rfl
 have e2 : newL ⟨0, [1, 0], 3, key, it⟩ = some ⟨true, key, it, 0, 2⟩ := rfl
 have e3 : newL ⟨1, [1, 0], 4, key, it⟩ = none := rfl
 constructor
 ·intro hx
  rw [List.mem_singleton.1 hx]
  exact ⟨_, mem_applyLv.2 (.inr ⟨mem_applyLv.2 (.inl e2), not_ends (show ([1, 0] : List Int).getD 0 0 < 2 by decide)⟩), rfl, rfl, rfl⟩
 ·rintro ⟨y, hy, -, -, h3⟩
  rcases mem_applyLv.1 hy with hy | ⟨hy, -⟩
  ·rw [e3] at hy
   cases hy
  ·rcases mem_applyLv.1 hy with hy | ⟨hy, -⟩
   ·rw [e2] at hy
    rw [← h3, ← Option.some.inj hy]
    simp
   ·rcases mem_applyLv.1 hy with hy | ⟨hy, -⟩
    ·rw [e1] at hy
     rw [← h3, ← Option.some.inj hy]
     simp
    ·simp at hy
theorem adB_read {key it : Int} {l : List DoS} (h : At 2 (adB key it) [[2, 2], [2, 2]] l) : ofL (readX (ofS (2 : Nat) (adB key it) ([[2, 2], [2, 2]].getD 0 []))).sets key = [] := by
 refine h.sets (i := 0) (by decide) key (by simp) fun x => ?_
 show _ ↔ ∃ y ∈ applyLv (applyLv (applyLv (applyLv [] ⟨0, [0, 0], 3, key, it⟩) ⟨0, [1, 0], 3, key, it⟩) ⟨1, [1, 0], 4, key, it⟩) ⟨1, [2, 1], 4, key, it⟩, y.set = true ∧ y.key = key ∧ y.item = x
 have e1 : newL ⟨0, [0, 0], 3, key, it⟩ = some ⟨true, key, it, 0, 1⟩ := rfl
 have e2 : newL ⟨0, [1, 0], 3, key, it⟩ = some ⟨true, key, it, 0, 2⟩ := rfl
 have e3 : newL ⟨1, [1, 0], 4, key, it⟩ = none := rfl
 have e4 : newL ⟨1, [2, 1], 4, key, it⟩ = none := rfl
 constructor
 ·intro hx
  simp at hx
 ·rintro ⟨y, hy, -, -, -⟩
  rcases mem_applyLv.1 hy with hy | ⟨hy, he⟩
  ·rw [e4] at hy
   cases hy
  ·rcases mem_applyLv.1 hy with hy | ⟨hy, -⟩
   ·rw [e3] at hy
    cases hy
   ·rcases mem_applyLv.1 hy with hy | ⟨hy, -⟩
    ·rw [e2] at hy
     rw [← Option.some.inj hy] at he
     simp [endsB, hasC] at he
    ·rcases mem_applyLv.1 hy with hy | ⟨hy, -⟩
     ·rw [e1] at hy
      rw [← Option.some.inj hy] at he
      simp [endsB, hasC] at he
     ·simp at hy

set_option maxRecDepth 100000 in
set_option maxHeartbeats 4000000 in
theorem topadd_law (key it : Int) (w0 : World) :
  Calls Tryz.prog 5 #[.int .i64 key, .int .i64 it] w0 fun e w' => e = .returned (.bool true) ∧ Below w0.heap.size w0 w' := by
 obtain ⟨bb, HBB⟩ : ∃ bb, Hid (rightB key [it] = bb) := ⟨_, rfl⟩
 obtain ⟨i0, hi, hz0, hz1, hz2⟩ := info_parts Tryz.infoDoT
 have HB0 := hide (Below.refl w0.heap.size w0)
 have HS0 := hide (nlr w0.heap.size)
 go_enter Tryz.func5, Tryz.ntmps5
 go_wp2_with fail
 refine (aliveT _).mono ?_
 rintro e w1 ⟨rfl, hb⟩
 have HB1 := hide (HB0.out.trans (hb.mono HS0.out))
 have HS1 := hide (Nat.le_trans HS0.out hb.size)
 clear HB0 HS0  hb
 have hbp := bpl w1 (.cells #[.int .i64 it] 3)
 have xI := (show Row (w1.alloc (.cells #[.int .i64 it] 3)) (.slice (some ⟨w1.heap.size, 0, none⟩) 1 1) [it] from rowLit w1 [it] (by simp))
 obtain ⟨w2, HW2⟩ : ∃ W, Hid (w1.alloc (.cells #[.int .i64 it] 3) = W) := ⟨_, rfl⟩
 rw [HW2.out] at hbp xI
 have HB2 := hide (HB1.out.trans (hbp.mono HS1.out))
 have HS2 := hide (Nat.le_trans HS1.out hbp.size)
 have I2 := hide xI
 clear HB1 HS1  hbp
 clear xI
 go_wp2_with fail
 rw [HW2.out]
 refine (rightT_w key _ [it] _ I2.out).mono ?_
 rintro e w3 ⟨rfl, hb⟩
 have HB3 := hide (HB2.out.trans (hb.mono HS2.out))
 have HS3 := hide (Nat.le_trans HS2.out hb.size)
 have I3 := hide (I2.out.below hb (nlr _))
 clear HB2 HS2 I2 hb
 rw [HBB.out]
 clear I3
 cases bb with
 | false =>
  go_wp2_with fail
  go_ret
  exact ⟨rfl, HB3.out⟩
 | true =>
  obtain ⟨r1, r2, r3⟩ := right_ok HBB.out
  have fa : FitK 3 key it := by have := r1 it (by simp); unfold FitK; omega
  have fb : FitK 4 key it := by have := r1 it (by simp); unfold FitK; omega
  obtain ⟨hA, hB⟩ := ad_run fa fb
  have HR := hide (adA_read hA)
  have HQ := hide (adB_read hB)
  have HA := hide hA
  have HBt := hide hB
  clear hA hB fa fb r1 r2 r3
  obtain ⟨V, HVV⟩ : ∃ V, Hid (readX (ofS (2 : Nat) (adA key it) ([[2, 1], [2, 1]].getD 0 [])) = V) := ⟨_, rfl⟩
  have HVW : Hid (readX (ofS (2 : Nat) (adA key it) ([[2, 1], [2, 1]].getD 1 [])) = V) := HVV.out
  obtain ⟨U, HVU⟩ : ∃ U, Hid (readX (ofS (2 : Nat) (adB key it) ([[2, 2], [2, 2]].getD 0 [])) = U) := ⟨_, rfl⟩
  rw [HVV.out] at HR
  rw [HVU.out] at HQ
  go_wp2_with fail
  refine (issueT_fn 0 3 key it _).mono ?_
  rintro e w4 ⟨rfl, hb⟩
  have HB4 := hide (HB3.out.trans (hb.mono HS3.out))
  have HS4 := hide (Nat.le_trans HS3.out hb.size)
  clear HB3 HS3  hb
  have hbp := bpl w4 (.cells #[.int .i64 1, .int .i64 0, .int .i64 0, .int .i64 0, .slice none 0 0, .int .i64 3, .int .i64 key, .int .i64 it] 39)
  have xO := (show OwnT (w4.alloc (.cells #[.int .i64 1, .int .i64 0, .int .i64 0, .int .i64 0, .slice none 0 0, .int .i64 3, .int .i64 key, .int .i64 it] 39)) w0.heap.size (.slice (some ⟨w4.heap.size, 0, none⟩) 1 1) [issD 0 3 key it] from OwnT.box (l := [issD 0 3 key it]) (Box.new w4 ([issD 0 3 key it].flatMap cellsD) 39) HS4.out (by simp [issD]) (by simp))
  obtain ⟨w5, HW5⟩ : ∃ W, Hid (w4.alloc (.cells #[.int .i64 1, .int .i64 0, .int .i64 0, .int .i64 0, .slice none 0 0, .int .i64 3, .int .i64 key, .int .i64 it] 39) = W) := ⟨_, rfl⟩
  rw [HW5.out] at hbp xO
  have HB5 := hide (HB4.out.trans (hbp.mono HS4.out))
  have HS5 := hide (Nat.le_trans HS4.out hbp.size)
  have O5 := hide xO
  clear HB4 HS4  hbp
  clear xO
  go_wp2_with fail
  rw [HW5.out]
  refine (tellT_w 0 1 _ [issD 0 3 key it] _ _ (by simp) HS5.out O5.out).mono ?_
  rintro e w6 ⟨lv6, rfl, hO, hb, hk⟩
  have HB6 := hide (HB5.out.trans hb)
  have HS6 := hide (Nat.le_trans HS5.out hb.size)
  have O6 := hide hO
  clear HB5 HS5  hb
  clear hO hk O5
  go_wp2_with fail
  refine (issueT_fn 0 3 key it _).mono ?_
  rintro e w7 ⟨rfl, hb⟩
  have HB7 := hide (HB6.out.trans (hb.mono HS6.out))
  have HS7 := hide (Nat.le_trans HS6.out hb.size)
  have O7 := hide (O6.out.step hb (nlr _))
  clear HB6 HS6 O6 hb
  go_wp2_with fail
  refine (issueT_fn 1 4 key it _).mono ?_
  rintro e w8 ⟨rfl, hb⟩
  have HB8 := hide (HB7.out.trans (hb.mono HS7.out))
  have HS8 := hide (Nat.le_trans HS7.out hb.size)
  have O8 := hide (O7.out.step hb (nlr _))
  clear HB7 HS7 O7 hb
  go_wp2_with (at_builtin; refine wpList_append_own _ rfl (.tmp 22) (.tmp 29) 22 rfl w0.heap.size 39 i0 (.agg #[.int .i64 0, .int .i64 0, .int .i64 0, .int .i64 0, .slice none 0 0, .int .i64 0, .int .i64 0, .int .i64 0]) 8 80 Tryz.underlying22 hi hz0 hz1 hz2 rfl (by decide) _ _ _ rfl ((O8.out.step ((Below.refl w8.heap.size w8).alloc (nlr _) _) (nlr _)).1) ⟨w8.heap.size, 0, none⟩ 2 2 ([issD 0 3 key it, issD 1 4 key it].flatMap cellsD) rfl rfl ?c1 ?c2 ?c3 ?c4 ?c5 ?_)
  case c1 => exact alloc_cells w8 ([issD 0 3 key it, issD 1 4 key it].flatMap cellsD) 39
  case c2 => exact flatD_one _
  case c3 => unfold maxLen; have := (show ([issD 0 3 key it] ++ [sendD 0 1, delD 0 1]).length ≤ 100 by simp); omega
  case c4 => have := (show ([issD 0 3 key it] ++ [sendD 0 1, delD 0 1]).length ≤ 100 by simp); omega
  case c5 => have := HS8.out; simp; omega
  intro lv9 w9 hown' hgrow _
  have hO : OwnT w9 w0.heap.size lv9 (([issD 0 3 key it] ++ [sendD 0 1, delD 0 1]) ++ [issD 0 3 key it, issD 1 4 key it]) := OwnT.more O8.out (by simp [issD]) hown'
  have hk : Keeps [39] w8 w9 := (Keeps.below ((Below.refl w8.heap.size w8).alloc (nlr _) _)).trans (keepsT (O8.out.step ((Below.refl w8.heap.size w8).alloc (nlr _) _) (nlr _)) hgrow)
  have hb := ((Below.refl w0.heap.size w8).alloc HS8.out _).grown hgrow (by have := HS8.out; simp; omega) (fun g hg => (World.ownsRow.lt O8.out.1 g hg).1)
  have HB9 := hide (HB8.out.trans hb)
  have HS9 := hide (Nat.le_trans HS8.out hb.size)
  have O9 := hide hO
  clear HB8 HS8  hb
  clear hO hk hown' hgrow O8
  go_wp2_with fail
  refine (tellT_w 0 1 _ (([issD 0 3 key it] ++ [sendD 0 1, delD 0 1]) ++ [issD 0 3 key it, issD 1 4 key it]) _ _ (by simp) HS9.out O9.out).mono ?_
  rintro e w10 ⟨lv10, rfl, hO, hb, hk⟩
  have HB10 := hide (HB9.out.trans hb)
  have HS10 := hide (Nat.le_trans HS9.out hb.size)
  have O10 := hide hO
  clear HB9 HS9  hb
  clear hO hk O9
  go_wp2_with fail
  refine (tellT_w 1 0 _ ((([issD 0 3 key it] ++ [sendD 0 1, delD 0 1]) ++ [issD 0 3 key it, issD 1 4 key it]) ++ [sendD 0 1, delD 0 1]) _ _ (by simp) HS10.out O10.out).mono ?_
  rintro e w11 ⟨lv11, rfl, hO, hb, hk⟩
  have HB11 := hide (HB10.out.trans hb)
  have HS11 := hide (Nat.le_trans HS10.out hb.size)
  have O11 := hide hO
  clear HB10 HS10  hb
  clear hO hk O10
  have OL : Hid (OwnT w11 w0.heap.size lv11 (adL key it)) := O11.out
  clear O11
  have O11 := OL
  clear OL
  go_wp2_with fail
  refine (readsT_w HA.out (by simp [adL]) 0 (by decide) _ _ O11.out.dos).mono ?_
  rintro e w12 ⟨rv, rfl, hV, hb⟩
  rw [HVV.out] at hV
  obtain ⟨Vxa1, Vxc1, Vxa2, Vxc2, Vxa3, Vxc3, hrv⟩ := hV.read.form
  subst hrv
  have HB12 := hide (HB11.out.trans (hb.mono HS11.out))
  have HS12 := hide (Nat.le_trans HS11.out hb.size)
  have O12 := hide (O11.out.step hb (nlr _))
  have Vx12 := hide hV
  clear HB11 HS11 O11 hb
  have HGx := HS12
  have hbp := bpl w12 (.cells #[.slice Vxa1 V.regs.length Vxc1, .slice Vxa2 V.sets.length Vxc2, .slice Vxa3 V.cnts.length Vxc3] 58)
  have xx := Box.new w12 [.slice Vxa1 V.regs.length Vxc1, .slice Vxa2 V.sets.length Vxc2, .slice Vxa3 V.cnts.length Vxc3] 58
  obtain ⟨w13, HW13⟩ : ∃ W, Hid (w12.alloc (.cells #[.slice Vxa1 V.regs.length Vxc1, .slice Vxa2 V.sets.length Vxc2, .slice Vxa3 V.cnts.length Vxc3] 58) = W) := ⟨_, rfl⟩
  rw [HW13.out] at hbp xx
  have HB13 := hide (HB12.out.trans (hbp.mono HS12.out))
  have HS13 := hide (Nat.le_trans HS12.out hbp.size)
  have O13 := hide (O12.out.step hbp (nlr _))
  have Vx13 := hide (Vx12.out.below hbp (nlr _))
  have x13 := hide xx
  clear HB12 HS12 O12 Vx12 hbp
  clear xx
  go_wp2_with fail
  rw [HW13.out]
  refine (readsT_w HA.out (by simp [adL]) 1 (by decide) _ _ O13.out.dos).mono ?_
  rintro e w14 ⟨rv, rfl, hV, hb⟩
  rw [HVW.out] at hV
  obtain ⟨Vya1, Vyc1, Vya2, Vyc2, Vya3, Vyc3, hrv⟩ := hV.read.form
  subst hrv
  have HB14 := hide (HB13.out.trans (hb.mono HS13.out))
  have HS14 := hide (Nat.le_trans HS13.out hb.size)
  have O14 := hide (O13.out.step hb (nlr _))
  have Vx14 := hide (Vx13.out.below hb (nlr _))
  have x14 := hide (x13.out.below hb (nlr _))
  have Vy14 := hide hV
  clear HB13 HS13 O13 Vx13 x13 hb
  have HGy := HS14
  have hbp := bpl w14 (.cells #[.slice Vya1 V.regs.length Vyc1, .slice Vya2 V.sets.length Vyc2, .slice Vya3 V.cnts.length Vyc3] 58)
  have xy := Box.new w14 [.slice Vya1 V.regs.length Vyc1, .slice Vya2 V.sets.length Vyc2, .slice Vya3 V.cnts.length Vyc3] 58
  obtain ⟨w15, HW15⟩ : ∃ W, Hid (w14.alloc (.cells #[.slice Vya1 V.regs.length Vyc1, .slice Vya2 V.sets.length Vyc2, .slice Vya3 V.cnts.length Vyc3] 58) = W) := ⟨_, rfl⟩
  rw [HW15.out] at hbp xy
  have HB15 := hide (HB14.out.trans (hbp.mono HS14.out))
  have HS15 := hide (Nat.le_trans HS14.out hbp.size)
  have O15 := hide (O14.out.step hbp (nlr _))
  have Vx15 := hide (Vx14.out.below hbp (nlr _))
  have x15 := hide (x14.out.below hbp (nlr _))
  have Vy15 := hide (Vy14.out.below hbp (nlr _))
  have y15 := hide xy
  clear HB14 HS14 O14 Vx14 x14 Vy14 hbp
  clear xy
  go_upto_region 10 with fail
  rw [HW15.out]
  have z1 := x15.out.get 1 rfl
  go_wp2_with fail
  refine (ofT_fn _ V.sets key _ Vx15.out.read.parts.2.1).mono ?_
  rintro e w16 ⟨fv, rfl, hF, hb⟩
  rw [HR.out] at hF
  have HB16 := hide (HB15.out.trans (hb.mono HS15.out))
  have HS16 := hide (Nat.le_trans HS15.out hb.size)
  have O16 := hide (O15.out.step hb (nlr _))
  have Vx16 := hide (Vx15.out.below hb (nlr _))
  have x16 := hide (x15.out.below hb (nlr _))
  have Vy16 := hide (Vy15.out.below hb (nlr _))
  have y16 := hide (y15.out.below hb (nlr _))
  have F16 := hide hF
  clear HB15 HS15 O15 Vx15 x15 Vy15 y15 hb
  clear z1 hF
  have hbp := bpl w16 (.cells #[.int .i64 it] 3)
  have xZ := (show Row (w16.alloc (.cells #[.int .i64 it] 3)) (.slice (some ⟨w16.heap.size, 0, none⟩) 1 1) [it] from rowLit w16 [it] (by simp))
  obtain ⟨w17, HW17⟩ : ∃ W, Hid (w16.alloc (.cells #[.int .i64 it] 3) = W) := ⟨_, rfl⟩
  rw [HW17.out] at hbp xZ
  have HB17 := hide (HB16.out.trans (hbp.mono HS16.out))
  have HS17 := hide (Nat.le_trans HS16.out hbp.size)
  have O17 := hide (O16.out.step hbp (nlr _))
  have Vx17 := hide (Vx16.out.below hbp (nlr _))
  have x17 := hide (x16.out.below hbp (nlr _))
  have Vy17 := hide (Vy16.out.below hbp (nlr _))
  have y17 := hide (y16.out.below hbp (nlr _))
  have F17 := hide (F16.out.below hbp (nlr _))
  have Z17 := hide xZ
  clear HB16 HS16 O16 Vx16 x16 Vy16 y16 F16 hbp
  clear xZ
  go_wp2_with fail
  rw [HW17.out]
  refine (same_ref _ _ [it] [it] _ F17.out Z17.out).mono ?_
  rintro e w18 ⟨rfl, hb⟩
  rw [decide_eq_true (rfl : ([it] : List Int) = [it])]
  have HB18 := hide (HB17.out.trans (hb.mono HS17.out))
  have HS18 := hide (Nat.le_trans HS17.out hb.size)
  have O18 := hide (O17.out.step hb (nlr _))
  have Vx18 := hide (Vx17.out.below hb (nlr _))
  have x18 := hide (x17.out.below hb (nlr _))
  have Vy18 := hide (Vy17.out.below hb (nlr _))
  have y18 := hide (y17.out.below hb (nlr _))
  have F18 := hide (F17.out.below hb (nlr _))
  have Z18 := hide (Z17.out.below hb (nlr _))
  clear HB17 HS17 O17 Vx17 x17 Vy17 y17 F17 Z17 hb
  clear F18
  clear Z18
  have xz0 := x18.out.get 0 rfl
  have xz1 := x18.out.get 1 rfl
  have xz2 := x18.out.get 2 rfl
  have yz0 := y18.out.get 0 rfl
  have yz1 := y18.out.get 1 rfl
  have yz2 := y18.out.get 2 rfl
  go_wp2_with fail
  refine (sameView_yes _ _ V _ Vx18.out.read Vy18.out.read).mono ?_
  rintro e w19 ⟨rfl, hb⟩
  have HB19 := hide (HB18.out.trans (hb.mono HS18.out))
  have HS19 := hide (Nat.le_trans HS18.out hb.size)
  have O19 := hide (O18.out.step hb (nlr _))
  have Vx19 := hide (Vx18.out.below hb (nlr _))
  have x19 := hide (x18.out.below hb (nlr _))
  have Vy19 := hide (Vy18.out.below hb (nlr _))
  have y19 := hide (y18.out.below hb (nlr _))
  clear HB18 HS18 O18 Vx18 x18 Vy18 y18 hb
  clear xz0 xz1 xz2 yz0 yz1 yz2
  clear Vx19
  clear Vy19
  clear y19
  go_wp2_with fail
  refine (issueT_fn 1 4 key it _).mono ?_
  rintro e w20 ⟨rfl, hb⟩
  have HB20 := hide (HB19.out.trans (hb.mono HS19.out))
  have HS20 := hide (Nat.le_trans HS19.out hb.size)
  have O20 := hide (O19.out.step hb (nlr _))
  have x20 := hide (x19.out.below hb (nlr _))
  clear HB19 HS19 O19 x19 hb
  go_wp2_with (at_builtin; refine wpList_append_own _ rfl (.tmp 66) (.tmp 70) 22 rfl w0.heap.size 39 i0 (.agg #[.int .i64 0, .int .i64 0, .int .i64 0, .int .i64 0, .slice none 0 0, .int .i64 0, .int .i64 0, .int .i64 0]) 8 80 Tryz.underlying22 hi hz0 hz1 hz2 rfl (by decide) _ _ _ rfl ((O20.out.step ((Below.refl w20.heap.size w20).alloc (nlr _) _) (nlr _)).1) ⟨w20.heap.size, 0, none⟩ 1 1 ([issD 1 4 key it].flatMap cellsD) rfl rfl ?c1 ?c2 ?c3 ?c4 ?c5 ?_)
  case c1 => exact alloc_cells w20 ([issD 1 4 key it].flatMap cellsD) 39
  case c2 => exact flatD_one _
  case c3 => unfold maxLen; have := (show (adL key it).length ≤ 100 by simp [adL]); omega
  case c4 => have := (show (adL key it).length ≤ 100 by simp [adL]); omega
  case c5 => have := HS20.out; simp; omega
  intro lv21 w21 hown' hgrow _
  have hO : OwnT w21 w0.heap.size lv21 (adL key it ++ [issD 1 4 key it]) := OwnT.more O20.out (by simp [issD]) hown'
  have hk : Keeps [39] w20 w21 := (Keeps.below ((Below.refl w20.heap.size w20).alloc (nlr _) _)).trans (keepsT (O20.out.step ((Below.refl w20.heap.size w20).alloc (nlr _) _) (nlr _)) hgrow)
  have hb := ((Below.refl w0.heap.size w20).alloc HS20.out _).grown hgrow (by have := HS20.out; simp; omega) (fun g hg => (World.ownsRow.lt O20.out.1 g hg).1)
  have HB21 := hide (HB20.out.trans hb)
  have HS21 := hide (Nat.le_trans HS20.out hb.size)
  have x21 := hide (hk.box x20.out (by decide))
  have O21 := hide hO
  clear HB20 HS20 x20 hb
  clear hO hk hown' hgrow O20
  go_wp2_with fail
  refine (tellT_w 1 0 _ (adL key it ++ [issD 1 4 key it]) _ _ (by simp [adL]) HS21.out O21.out).mono ?_
  rintro e w22 ⟨lv22, rfl, hO, hb, hk⟩
  have HB22 := hide (HB21.out.trans hb)
  have HS22 := hide (Nat.le_trans HS21.out hb.size)
  have x22 := hide (hk.box x21.out (by decide))
  have O22 := hide hO
  clear HB21 HS21 x21 hb
  clear hO hk O21
  have OL : Hid (OwnT w22 w0.heap.size lv22 (adM key it)) := O22.out
  clear O22
  have O22 := OL
  clear OL
  have HLTx := hide x22.out.lt
  go_wp2_with fail
  refine (readsT_w HBt.out (by simp [adM, adL]) 0 (by decide) _ _ O22.out.dos).mono ?_
  rintro e w23 ⟨rv, rfl, hV, hb⟩
  rw [HVU.out] at hV
  obtain ⟨Una1, Unc1, Una2, Unc2, Una3, Unc3, hrv⟩ := hV.read.form
  subst hrv
  have HB23 := hide (HB22.out.trans (hb.mono HS22.out))
  have HS23 := hide (Nat.le_trans HS22.out hb.size)
  have x23 := hide (x22.out.below hb (nlr _))
  have O23 := hide (O22.out.step hb (nlr _))
  have Vn23 := hide hV
  clear HB22 HS22 x22 O22 hb
  have z0 := x23.out.get 0 rfl
  have f0 := x23.out.free 0
  have z1 := x23.out.get 1 rfl
  have f1 := x23.out.free 1
  have z2 := x23.out.get 2 rfl
  have f2 := x23.out.free 2
  have xV := ((Vn23.out.away HLTx.out 0 (.slice Una1 U.regs.length Unc1)).away HLTx.out 1 (.slice Una2 U.sets.length Unc2)).away HLTx.out 2 (.slice Una3 U.cnts.length Unc3)
  have xB := (((x23.out.set 0 (.slice Una1 U.regs.length Unc1)).set 1 (.slice Una2 U.sets.length Unc2)).set 2 (.slice Una3 U.cnts.length Unc3))
  simp only [put2, put3] at xB
  have xH := (((HB23.out.setCell (p := ⟨w12.heap.size, 0, none⟩) HGx.out (.slice Una1 U.regs.length Unc1)).setCell (p := ⟨w12.heap.size, 1, none⟩) HGx.out (.slice Una2 U.sets.length Unc2)).setCell (p := ⟨w12.heap.size, 2, none⟩) HGx.out (.slice Una3 U.cnts.length Unc3))
  obtain ⟨w24, HW24⟩ : ∃ W, Hid ((((w23.setCell ⟨w12.heap.size, 0, none⟩ (.slice Una1 U.regs.length Unc1)).setCell ⟨w12.heap.size, 1, none⟩ (.slice Una2 U.sets.length Unc2)).setCell ⟨w12.heap.size, 2, none⟩ (.slice Una3 U.cnts.length Unc3)) = W) := ⟨_, rfl⟩
  rw [HW24.out] at xV xB xH
  have HB24 := hide xH
  have HS24 := hide HB24.out.size
  have Vn24 := hide xV
  have x24 := hide xB
  clear O23
  clear xV xB xH HB23 HS23 Vn23 x23
  have zz := x24.out.get 1 rfl
  go_wp2_with fail
  rw [HW24.out]
  refine (ofT_fn _ U.sets key _ Vn24.out.read.parts.2.1).mono ?_
  rintro e w25 ⟨fv, rfl, hF, hb⟩
  rw [HQ.out] at hF
  obtain ⟨fa, fc, hfv, -, -, -⟩ := hF
  subst hfv
  simp only [List.length_nil]
  have HB25 := hide (HB24.out.trans (hb.mono HS24.out))
  have HS25 := hide (Nat.le_trans HS24.out hb.size)
  have x25 := hide (x24.out.below hb (nlr _))
  have Vn25 := hide (Vn24.out.below hb (nlr _))
  clear HB24 HS24 x24 Vn24 hb
  go_wp2_with fail
  go_ret
  exact ⟨rfl, HB25.out⟩
end Go.Proofs.YtihedgnachophaaGreat
