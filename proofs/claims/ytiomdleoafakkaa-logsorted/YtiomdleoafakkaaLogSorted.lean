/- The statement LogSorted of the third chapter, as a walk: it answers true for every base, log and number. -/
import Derived.Test.YtiomdleoafakkaaSortPure
import Derived.Test.YtiomdleoafakkaaSameLog
import Derived.Test.YtiomdleoafakkaaAlive4
namespace Go.Proofs.Ytiomdleoafakkaa
open Go.RowKit

set_option maxRecDepth 100000 in
set_option maxHeartbeats 8000000 in
theorem sorted_law (v lv : Value) (xs : List Int) (l : List Upd) (n : Int) (w0 : World) (h : Row w0 v xs) (hl : LogV w0 lv l) :
    Calls Try.prog 10 #[v, lv, .int .i64 n] w0 fun e w' => e = .returned (.bool true) ∧ Below w0.heap.size w0 w' := by
  obtain ⟨a, cap, rfl, -, -, -⟩ := id h
  obtain ⟨a', cap', rfl, -, -, -⟩ := id hl
  have C0 := hide h
  have L0 := hide hl
  have HB0 := hide (Below.refl w0.heap.size w0)
  clear h hl
  by_cases hE : clockE xs l n = 0
  · obtain ⟨g1, g2, g3⟩ := clockE_ok.1 hE
    obtain ⟨x1, x2⟩ := clock_ok hE
    obtain ⟨s1, s2, s3, s4⟩ := sort_main l.length l rfl g1 g3
    have hlenS := s3.length_eq
    have hmem : ∀ u ∈ l, u ∈ sortL xs l := fun u hu => s3.symm.subset hu
    obtain ⟨S, HSL⟩ : ∃ S, Hid (sortL xs l = S) := ⟨_, rfl⟩
    rw [HSL.out] at s1 s2 s3 s4 hlenS hmem
    have hE2 : clockE xs S n = 0 := clockE_ok.2 ⟨g1, by omega, s1⟩
    obtain ⟨x3, x4⟩ := clock_ok hE2
    have hsmS : ∀ u ∈ S, Small u := fun u hu => small_of (small_all S s1 u hu)
    have hsmL : ∀ u ∈ l, Small u := fun u hu => small_of (small_all l g3 u hu)
    have hx6 : xs.length ≤ 6 := by have := goodC_iff.1 g1; omega
    obtain ⟨X, HX⟩ : ∃ X, Hid (clockX xs l n = X) := ⟨_, rfl⟩
    have HX2 : Hid (clockX xs S n = X) := by unfold Hid; rw [x3, s2, ← x1, HX.out]
    have HE := hide hE
    have HA := hide x2
    have HE2 := hide hE2
    have HA2 := hide x4
    have HS4 := hide s4
    have HLEN := hide hlenS
    have HSL2 := hide hsmL
    have HSS2 := hide hsmS
    have HMEM := hide hmem
    have HG2 := hide g2
    have hne : ((l.length : Int) != (l.length : Int)) = false := by simp
    clear hE g1 g3 x1 x2 s1 s2 s3 s4 hE2 x3 x4 hsmL hsmS hmem hlenS
    go_enter Try.func10, Try.ntmps10
    go_wp2_with fail
    refine (alive3 _).mono ?_
    rintro e w1 ⟨rfl, hb⟩
    have HB1 := hide (below_step HB0.out hb)
    have C1 := hide (C0.out.below hb (Nat.le_refl _))
    have L1 := hide (L0.out.below hb (Nat.le_refl _))
    clear HB0 hb C0 L0
    go_wp2_with fail
    refine (sorted_ok _ _ xs l n _ C1.out L1.out HE.out HSL2.out hx6 HG2.out HA.out).mono ?_
    rintro e w2 ⟨vP, rfl, hP, hb⟩
    have HB2 := hide (below_step HB1.out hb)
    have C2 := hide (C1.out.below hb (Nat.le_refl _))
    have L2 := hide (L1.out.below hb (Nat.le_refl _))
    have P2 := hide hP
    clear HB1 hb C1 L1
    rw [HSL.out] at P2 hP
    obtain ⟨aP, cP, rfl, -, -, -⟩ := hP
    rw [HLEN.out] at P2
    rw [HLEN.out]
    have HB3 := hide (below_step HB2.out (Below.plus (Below.refl _ w2) (.cells #[.int .i64 0, .int .i64 0] 50)))
    have C3 := hide (C2.out.below (Below.plus (Below.refl _ w2) (.cells #[.int .i64 0, .int .i64 0] 50)) (Nat.le_refl _))
    have L3 := hide (L2.out.below (Below.plus (Below.refl _ w2) (.cells #[.int .i64 0, .int .i64 0] 50)) (Nat.le_refl _))
    have P3 := hide (P2.out.below (Below.plus (Below.refl _ w2) (.cells #[.int .i64 0, .int .i64 0] 50)) (Nat.le_refl _))
    have F3 := hide (Box.new w2 [.int .i64 0, .int .i64 0] 50)
    clear HB2 C2 L2 P2
    have cF0 := F3.out.get 0 rfl
    have cF1 := F3.out.get 1 rfl
    go_wp2_with fail
    refine (clock_log _ _ xs l n _ C3.out L3.out).mono ?_
    rintro e w4 ⟨vK, rfl, hK, hb⟩
    have HB4 := hide (below_step HB3.out hb)
    have C4 := hide (C3.out.below hb (Nat.le_refl _))
    have L4 := hide (L3.out.below hb (Nat.le_refl _))
    have P4 := hide (P3.out.below hb (Nat.le_refl _))
    have F4 := hide (F3.out.below hb (Nat.le_refl _))
    have K4 := hide hK
    clear HB3 hb C3 L3 P3 F3
    clear cF0 cF1
    rw [HE.out, HA.out]
    rw [HX.out] at K4 hK
    obtain ⟨aK, cK, rfl, -, -, -⟩ := hK
    have HB5 := hide (below_step HB4.out (Below.plus (Below.refl _ w4) (.cells #[.int .i64 0, .int .i64 0] 50)))
    have C5 := hide (C4.out.below (Below.plus (Below.refl _ w4) (.cells #[.int .i64 0, .int .i64 0] 50)) (Nat.le_refl _))
    have L5 := hide (L4.out.below (Below.plus (Below.refl _ w4) (.cells #[.int .i64 0, .int .i64 0] 50)) (Nat.le_refl _))
    have P5 := hide (P4.out.below (Below.plus (Below.refl _ w4) (.cells #[.int .i64 0, .int .i64 0] 50)) (Nat.le_refl _))
    have F5 := hide (F4.out.below (Below.plus (Below.refl _ w4) (.cells #[.int .i64 0, .int .i64 0] 50)) (Nat.le_refl _))
    have K5 := hide (K4.out.below (Below.plus (Below.refl _ w4) (.cells #[.int .i64 0, .int .i64 0] 50)) (Nat.le_refl _))
    have G5 := hide (Box.new w4 [.int .i64 0, .int .i64 0] 50)
    clear HB4 C4 L4 P4 F4 K4
    go_wp2_with fail
    refine (clock_log _ _ xs S n _ C5.out P5.out).mono ?_
    rintro e w6 ⟨vQ, rfl, hQ, hb⟩
    have HB6 := hide (below_step HB5.out hb)
    have C6 := hide (C5.out.below hb (Nat.le_refl _))
    have L6 := hide (L5.out.below hb (Nat.le_refl _))
    have P6 := hide (P5.out.below hb (Nat.le_refl _))
    have F6 := hide (F5.out.below hb (Nat.le_refl _))
    have K6 := hide (K5.out.below hb (Nat.le_refl _))
    have G6 := hide (G5.out.below hb (Nat.le_refl _))
    have Q6 := hide hQ
    clear HB5 hb C5 L5 P5 F5 K5 G5
    rw [HE2.out, HA2.out]
    rw [HX2.out] at Q6 hQ
    obtain ⟨aQ, cQ, rfl, -, -, -⟩ := hQ
    have HB7 := hide (below_step HB6.out (Below.plus (Below.refl _ w6) (.cells #[.int .i64 0, .int .i64 0] 50)))
    have C7 := hide (C6.out.below (Below.plus (Below.refl _ w6) (.cells #[.int .i64 0, .int .i64 0] 50)) (Nat.le_refl _))
    have L7 := hide (L6.out.below (Below.plus (Below.refl _ w6) (.cells #[.int .i64 0, .int .i64 0] 50)) (Nat.le_refl _))
    have P7 := hide (P6.out.below (Below.plus (Below.refl _ w6) (.cells #[.int .i64 0, .int .i64 0] 50)) (Nat.le_refl _))
    have F7 := hide (F6.out.below (Below.plus (Below.refl _ w6) (.cells #[.int .i64 0, .int .i64 0] 50)) (Nat.le_refl _))
    have K7 := hide (K6.out.below (Below.plus (Below.refl _ w6) (.cells #[.int .i64 0, .int .i64 0] 50)) (Nat.le_refl _))
    have G7 := hide (G6.out.below (Below.plus (Below.refl _ w6) (.cells #[.int .i64 0, .int .i64 0] 50)) (Nat.le_refl _))
    have Q7 := hide (Q6.out.below (Below.plus (Below.refl _ w6) (.cells #[.int .i64 0, .int .i64 0] 50)) (Nat.le_refl _))
    have H7 := hide (Box.new w6 [.int .i64 0, .int .i64 0] 50)
    clear HB6 C6 L6 P6 F6 K6 G6 Q6
    go_wp2_with fail
    refine (sorted_ok _ _ xs S n _ C7.out P7.out HE2.out HSS2.out hx6 (by rw [HLEN.out]; exact HG2.out) HA2.out).mono ?_
    rintro e w8 ⟨vY, rfl, hY, hb⟩
    have HB8 := hide (below_step HB7.out hb)
    have C8 := hide (C7.out.below hb (Nat.le_refl _))
    have L8 := hide (L7.out.below hb (Nat.le_refl _))
    have P8 := hide (P7.out.below hb (Nat.le_refl _))
    have F8 := hide (F7.out.below hb (Nat.le_refl _))
    have K8 := hide (K7.out.below hb (Nat.le_refl _))
    have G8 := hide (G7.out.below hb (Nat.le_refl _))
    have Q8 := hide (Q7.out.below hb (Nat.le_refl _))
    have H8 := hide (H7.out.below hb (Nat.le_refl _))
    have Y8 := hide hY
    clear HB7 hb C7 L7 P7 F7 K7 G7 Q7 H7
    rw [HS4.out] at Y8 hY
    obtain ⟨aY, cY, rfl, -, -, -⟩ := hY
    rw [HLEN.out] at Y8
    rw [HLEN.out]
    have HB9 := hide (below_step HB8.out (Below.plus (Below.refl _ w8) (.cells #[.int .i64 0, .int .i64 0] 50)))
    have C9 := hide (C8.out.below (Below.plus (Below.refl _ w8) (.cells #[.int .i64 0, .int .i64 0] 50)) (Nat.le_refl _))
    have L9 := hide (L8.out.below (Below.plus (Below.refl _ w8) (.cells #[.int .i64 0, .int .i64 0] 50)) (Nat.le_refl _))
    have P9 := hide (P8.out.below (Below.plus (Below.refl _ w8) (.cells #[.int .i64 0, .int .i64 0] 50)) (Nat.le_refl _))
    have F9 := hide (F8.out.below (Below.plus (Below.refl _ w8) (.cells #[.int .i64 0, .int .i64 0] 50)) (Nat.le_refl _))
    have K9 := hide (K8.out.below (Below.plus (Below.refl _ w8) (.cells #[.int .i64 0, .int .i64 0] 50)) (Nat.le_refl _))
    have G9 := hide (G8.out.below (Below.plus (Below.refl _ w8) (.cells #[.int .i64 0, .int .i64 0] 50)) (Nat.le_refl _))
    have Q9 := hide (Q8.out.below (Below.plus (Below.refl _ w8) (.cells #[.int .i64 0, .int .i64 0] 50)) (Nat.le_refl _))
    have H9 := hide (H8.out.below (Below.plus (Below.refl _ w8) (.cells #[.int .i64 0, .int .i64 0] 50)) (Nat.le_refl _))
    have Y9 := hide (Y8.out.below (Below.plus (Below.refl _ w8) (.cells #[.int .i64 0, .int .i64 0] 50)) (Nat.le_refl _))
    have J9 := hide (Box.new w8 [.int .i64 0, .int .i64 0] 50)
    clear HB8 C8 L8 P8 F8 K8 G8 Q8 H8 Y8
    have cG0 := G9.out.get 0 rfl
    have cG1 := G9.out.get 1 rfl
    have cH0 := H9.out.get 0 rfl
    have cH1 := H9.out.get 1 rfl
    have cJ0 := J9.out.get 0 rfl
    have cJ1 := J9.out.get 1 rfl
    go_wp2_with fail
    refine (same_yes _ _ X X _ K9.out Q9.out rfl).mono ?_
    rintro e w10 ⟨rfl, hb⟩
    have HB10 := hide (below_step HB9.out hb)
    have C10 := hide (C9.out.below hb (Nat.le_refl _))
    have L10 := hide (L9.out.below hb (Nat.le_refl _))
    have P10 := hide (P9.out.below hb (Nat.le_refl _))
    have F10 := hide (F9.out.below hb (Nat.le_refl _))
    have K10 := hide (K9.out.below hb (Nat.le_refl _))
    have G10 := hide (G9.out.below hb (Nat.le_refl _))
    have Q10 := hide (Q9.out.below hb (Nat.le_refl _))
    have H10 := hide (H9.out.below hb (Nat.le_refl _))
    have Y10 := hide (Y9.out.below hb (Nat.le_refl _))
    have J10 := hide (J9.out.below hb (Nat.le_refl _))
    clear HB9 hb C9 L9 P9 F9 K9 G9 Q9 H9 Y9 J9
    clear cG0 cG1 cH0 cH1 cJ0 cJ1
    go_wp2_with fail
    refine (sameLog_yes _ _ S _ P10.out Y10.out).mono ?_
    rintro e w11 ⟨rfl, hb⟩
    have HB11 := hide (below_step HB10.out hb)
    have C11 := hide (C10.out.below hb (Nat.le_refl _))
    have L11 := hide (L10.out.below hb (Nat.le_refl _))
    have P11 := hide (P10.out.below hb (Nat.le_refl _))
    have F11 := hide (F10.out.below hb (Nat.le_refl _))
    have K11 := hide (K10.out.below hb (Nat.le_refl _))
    have G11 := hide (G10.out.below hb (Nat.le_refl _))
    have Q11 := hide (Q10.out.below hb (Nat.le_refl _))
    have H11 := hide (H10.out.below hb (Nat.le_refl _))
    have Y11 := hide (Y10.out.below hb (Nat.le_refl _))
    have J11 := hide (J10.out.below hb (Nat.le_refl _))
    clear HB10 hb C10 L10 P10 F10 K10 G10 Q10 H10 Y10 J10
    go_wp2_with fail
    have HBE := hide HB11.out
    have HLE := hide L11.out
    have HPE := hide P11.out
    go_loopw [90] (fun i wr => ∃ k : Nat, k ≤ l.length ∧ i = .int .i64 k ∧ Hid (Below w11.heap.size w11 wr)) (fun i _ => l.length - (intOf i).toNat)
    case atStart => exact ⟨0, Nat.zero_le _, rfl, Below.refl _ _⟩
    case round =>
      obtain ⟨k, hk, rfl, HB1⟩ := hrel
      by_cases hlt : k < l.length
      · obtain ⟨u, hu⟩ : ∃ u, l[k]? = some u := ⟨_, List.getElem?_eq_getElem hlt⟩
        have hmu := HMEM.out u (List.mem_of_getElem? hu)
        have hl' := HLE.out.below HB1.out (Nat.le_refl _)
        obtain ⟨b, off, a5, cap5, hab, d0, d1, d2, d3, d4, -, hU⟩ := hl'.at hu
        subst hab
        have hlt' : (k : Int) < (l.length : Int) := by omega
        have U1 := hide (hU.below (Below.plus (Below.refl wr.heap.size wr) (.cells #[.int .i64 u.author, .slice a5 u.seen.length cap5, .int .i64 u.kind, .int .i64 u.key, .int .i64 u.item] 38)) (Nat.le_refl _))
        have X1 := hide (Box.new wr [.int .i64 u.author, .slice a5 u.seen.length cap5, .int .i64 u.kind, .int .i64 u.key, .int .i64 u.item] 38)
        have HB2 := hide (below_step HB1.out (Below.plus (Below.refl wr.heap.size wr) (.cells #[.int .i64 u.author, .slice a5 u.seen.length cap5, .int .i64 u.kind, .int .i64 u.key, .int .i64 u.item] 38)))
        obtain ⟨W1, HW1⟩ : ∃ W1, Hid (wr.alloc (.cells #[.int .i64 u.author, .slice a5 u.seen.length cap5, .int .i64 u.kind, .int .i64 u.key, .int .i64 u.item] 38) = W1) := ⟨_, rfl⟩
        rw [HW1.out] at U1 X1 HB2
        obtain ⟨gU, HGU⟩ : ∃ gU, Hid (wr.heap.size = gU) := ⟨_, rfl⟩
        rw [HGU.out] at X1
        clear hl' hU
        go_wp2_with fail
        rw [HW1.out, HGU.out]
        have HMU := hide hmu
        clear hmu d0 d1 d2 d3 d4
        go_loopw [17, 96] (fun t i wq => ∃ (j : Nat) (s : Bool), j ≤ l.length ∧ i = .int .i64 j ∧ t = .bool s ∧ Hid (s = (S.take j).any (sameU u)) ∧ Hid (Below W1.heap.size W1 wq)) (fun _ i _ => l.length - (intOf i).toNat)
        case atStart => exact ⟨0, false, Nat.zero_le _, rfl, rfl, by simp [Hid], Below.refl _ _⟩
        case round =>
          obtain ⟨j, s, hj, rfl, rfl, HSD, HB3⟩ := hrel
          by_cases hjl : j < l.length
          · obtain ⟨v, hv⟩ : ∃ v, S[j]? = some v := ⟨_, List.getElem?_eq_getElem (by rw [HLEN.out]; exact hjl)⟩
            have hp' := HPE.out.below (below_step HB2.out HB3.out) (Nat.le_refl _)
            obtain ⟨b', off', a6, cap6, hab', e0, e1, e2, e3, e4, -, hV⟩ := hp'.at hv
            subst hab'
            have hjl' : (j : Int) < (l.length : Int) := by omega
            have U0 := hide (U1.out.below HB3.out (Nat.le_refl _))
            have X0 := hide (X1.out.below HB3.out (Nat.le_refl _))
            have V0 := hide hV
            have HTK : Hid ((S.take (j + 1)).any (sameU u) = (s || sameU u v)) := by
              unfold Hid
              rw [HSD.out, take_one hv]
              simp
            clear hp' hV
            cases s
            · have c0 := (X0.out.plus (.cells #[.int .i64 v.author, .slice a6 v.seen.length cap6, .int .i64 v.kind, .int .i64 v.key, .int .i64 v.item] 38)).get 0 rfl
              have c1 := (X0.out.plus (.cells #[.int .i64 v.author, .slice a6 v.seen.length cap6, .int .i64 v.kind, .int .i64 v.key, .int .i64 v.item] 38)).get 1 rfl
              have c2 := (X0.out.plus (.cells #[.int .i64 v.author, .slice a6 v.seen.length cap6, .int .i64 v.kind, .int .i64 v.key, .int .i64 v.item] 38)).get 2 rfl
              have c3 := (X0.out.plus (.cells #[.int .i64 v.author, .slice a6 v.seen.length cap6, .int .i64 v.kind, .int .i64 v.key, .int .i64 v.item] 38)).get 3 rfl
              have c4 := (X0.out.plus (.cells #[.int .i64 v.author, .slice a6 v.seen.length cap6, .int .i64 v.kind, .int .i64 v.key, .int .i64 v.item] 38)).get 4 rfl
              have hb4 := Below.plus (Below.refl wr.heap.size wr) (.cells #[.int .i64 v.author, .slice a6 v.seen.length cap6, .int .i64 v.kind, .int .i64 v.key, .int .i64 v.item] 38)
              have U2 := hide (U0.out.below hb4 (Nat.le_refl _))
              have V2 := hide (V0.out.below hb4 (Nat.le_refl _))
              have HB4 := hide (below_step HB3.out hb4)
              clear U0 V0 X0 hb4
              go_wp2_with fail
              refine (sameUpdate_ref _ _ u v _ U2.out V2.out).mono ?_
              rintro e w12 ⟨rfl, hb5⟩
              have HB5 := hide (below_step HB4.out hb5)
              clear U2 V2 hb5
              obtain ⟨q, HQ⟩ : ∃ q, Hid (sameU u v = q) := ⟨_, rfl⟩
              rw [HQ.out]
              rw [HQ.out] at HTK
              go_wp2_with fail
              go_roundw
              case rel => exact ⟨j + 1, q, by omega, by go_num, rfl, hide (by rw [HTK.out]; simp), HB5⟩
              case measure => simp [intOf]; omega
            · have HB4 := hide (below_step HB3.out (Below.plus (Below.refl wr.heap.size wr) (.cells #[.int .i64 v.author, .slice a6 v.seen.length cap6, .int .i64 v.kind, .int .i64 v.key, .int .i64 v.item] 38)))
              clear U0 V0 X0
              go_wp2_with fail
              go_roundw
              case rel => exact ⟨j + 1, true, by omega, by go_num, rfl, hide (by rw [HTK.out]; simp), HB4⟩
              case measure => simp [intOf]; omega
          · have hjl' : ¬ (j : Int) < (l.length : Int) := by omega
            have hst : s = true := by
              rw [HSD.out, List.take_of_length_le (by rw [HLEN.out]; omega)]
              exact List.any_eq_true.2 ⟨u, HMU.out, sameU_self u⟩
            subst hst
            go_wp2_with fail
            go_roundw
            case rel => exact ⟨k + 1, by omega, by go_num, hide (below_step HB2.out HB3.out)⟩
            case measure => simp [intOf]; omega
      · have hlt' : ¬ (k : Int) < (l.length : Int) := by omega
        go_wp2_with fail
        go_ret
        exact ⟨rfl, below_step HBE.out HB1.out⟩
  · obtain ⟨E, HE⟩ : ∃ E, Hid (clockE xs l n = E) := ⟨_, rfl⟩
    obtain ⟨A, HA⟩ : ∃ A, Hid (clockA xs l n = A) := ⟨_, rfl⟩
    have hE2 := hide hE
    rw [HE.out] at hE
    have hne : (E != 0) = true := by simp [hE]
    clear hE
    go_enter Try.func10, Try.ntmps10
    go_wp2_with fail
    refine (alive3 _).mono ?_
    rintro e w1 ⟨rfl, hb⟩
    have HB1 := hide (below_step HB0.out hb)
    have C1 := hide (C0.out.below hb (Nat.le_refl _))
    have L1 := hide (L0.out.below hb (Nat.le_refl _))
    clear HB0 hb C0 L0
    go_wp2_with fail
    refine (sorted_bad _ _ xs l n _ C1.out L1.out hE2.out).mono ?_
    rintro e w2 ⟨rfl, hb⟩
    have HB2 := hide (below_step HB1.out hb)
    have C2 := hide (C1.out.below hb (Nat.le_refl _))
    have L2 := hide (L1.out.below hb (Nat.le_refl _))
    clear HB1 hb C1 L1
    rw [HE.out, HA.out]
    have HB3 := hide (below_step HB2.out (Below.plus (Below.refl _ w2) (.cells #[.int .i64 E, .int .i64 A] 50)))
    have C3 := hide (C2.out.below (Below.plus (Below.refl _ w2) (.cells #[.int .i64 E, .int .i64 A] 50)) (Nat.le_refl _))
    have L3 := hide (L2.out.below (Below.plus (Below.refl _ w2) (.cells #[.int .i64 E, .int .i64 A] 50)) (Nat.le_refl _))
    have F3 := hide (Box.new w2 [.int .i64 E, .int .i64 A] 50)
    clear HB2 C2 L2
    have cF0 := F3.out.get 0 rfl
    have cF1 := F3.out.get 1 rfl
    go_wp2_with fail
    go_ret
    exact ⟨rfl, HB3.out⟩
end Go.Proofs.Ytiomdleoafakkaa
