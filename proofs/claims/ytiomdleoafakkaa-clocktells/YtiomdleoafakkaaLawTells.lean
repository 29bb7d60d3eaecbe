/- The statement ClockTells of the first chapter, as a walk: it answers true for every two clocks and every three numbers. -/
import Derived.Test.YtiomdleoafakkaaLawTick
import Derived.Test.YtiomdleoafakkaaRefMix
import Derived.Test.YtiomdleoafakkaaGrow
namespace Go.Proofs.Ytiomdleoafakkaa
open Go.RowKit

theorem Below.self' (w : World) : Hid (Below w.heap.size w w) := Below.refl _ _
theorem own_form {w : World} {B : Nat} {v : Value} {xs : List Int} (h : Own w B v xs) (hp : 0 < xs.length) : ∃ g cap, v = .slice (some ⟨g, 0, none⟩) xs.length cap ∧ B ≤ g := by
  rcases h.2 with ⟨-, h0⟩ | ⟨g, cap, cur, hv, hg, -⟩
  · omega
  · exact ⟨g, cap, hv, hg⟩
theorem own_lit (w : World) : (w.alloc (.cells #[] 3)).ownsRow w.heap.size 3 1 (.slice (some ⟨w.heap.size, 0, none⟩) 0 0) 0 [] :=
  World.ownsRow_lit w #[] 0 (Nat.le_refl _) (Nat.zero_le _) rfl

set_option maxRecDepth 100000 in
set_option maxHeartbeats 2000000 in
theorem tells_in (va vb : Value) (xs ys : List Int) (n s : Int) (k : Nat) (w : World) (ha : Row w va xs) (hb : Row w vb ys) (hr : xs.length * 8 ≤ 140737488351232) (hr' : ys.length * 8 ≤ 140737488351232) (hk : k < xs.length) :
    Calls Try.prog 3 #[va, vb, .int .i64 n, .int .i64 k, .int .i64 s] w fun e w' => e = .returned (.bool true) ∧ Below w.heap.size w w' := by
  obtain ⟨i0, hi, hz0, hz1, hz2⟩ := info_parts Try.infoInt
  have A0 := hide ha
  have B0 := hide hb
  have HB0 := Below.self' w
  have hk' : (k : Int) < (xs.length : Int) := by omega
  obtain ⟨y, HY⟩ : ∃ y, Hid (xs.getD k 0 = y) := ⟨_, rfl⟩
  have hR : hasC xs k s = decide (s ≤ y) := by
    unfold hasC; rw [Int.toNat_natCast, HY.out]; simp [hk]
  have HT : Hid (tickC xs k = xs.set k (wrap64 (y + 1))) := by unfold Hid tickC; rw [if_pos ⟨by omega, by omega⟩, Int.toNat_natCast, HY.out]
  obtain ⟨a, cap, rfl, -, -, hc⟩ := ha
  obtain ⟨b, off, rfl, hck⟩ := hc k hk
  rw [HY.out] at hck
  have HCK := hide hck
  clear hc hck hb
  go_enter Try.func3, Try.ntmps3
  go_wp2_with fail
  refine (wrong_clock _ xs _ _ A0.out).mono ?_
  rintro e w' ⟨rfl, hw'⟩
  rw [hw']; clear hw' w'
  go_wp2_with fail
  refine (wrong_ref _ xs _ _ A0.out).mono ?_
  rintro e w' ⟨rfl, hw'⟩
  rw [hw']; clear hw' w'
  go_wp2_with fail
  refine (join_clock _ _ xs ys _ A0.out B0.out hr hr').mono ?_
  rintro e w1 ⟨vJ, rfl, ho, hb⟩
  have HB1 := hide (below_step HB0.out hb)
  have A1 := hide (A0.out.below hb (Nat.le_refl _))
  have B1 := hide (B0.out.below hb (Nat.le_refl _))
  have J1 := hide ho.row
  clear HB0 hb A0 B0
  clear ho
  go_wp2_with fail
  refine (join_ref _ _ xs ys _ A1.out B1.out hr hr').mono ?_
  rintro e w2 ⟨vK, rfl, ho, hb⟩
  have HB2 := hide (below_step HB1.out hb)
  have A2 := hide (A1.out.below hb (Nat.le_refl _))
  have B2 := hide (B1.out.below hb (Nat.le_refl _))
  have J2 := hide (J1.out.below hb (Nat.le_refl _))
  have K2 := hide ho.row
  clear HB1 hb A1 B1 J1
  clear ho
  go_wp2_with fail
  refine (same_yes _ _ _ _ _ J2.out K2.out rfl).mono ?_
  rintro e w3 ⟨rfl, hb⟩
  have HB3 := hide (below_step HB2.out hb)
  have A3 := hide (A2.out.below hb (Nat.le_refl _))
  have B3 := hide (B2.out.below hb (Nat.le_refl _))
  have J3 := hide (J2.out.below hb (Nat.le_refl _))
  have K3 := hide (K2.out.below hb (Nat.le_refl _))
  clear HB2 hb A2 B2 J2 K2
  clear J3 K3
  go_wp2_with fail
  refine (meet_clock _ _ xs ys _ A3.out B3.out hr hr').mono ?_
  rintro e w4 ⟨vM, rfl, ho, hb⟩
  have HB4 := hide (below_step HB3.out hb)
  have A4 := hide (A3.out.below hb (Nat.le_refl _))
  have B4 := hide (B3.out.below hb (Nat.le_refl _))
  have M4 := hide ho.row
  clear HB3 hb A3 B3
  clear ho
  go_wp2_with fail
  refine (meet_ref _ _ xs ys _ A4.out B4.out hr hr').mono ?_
  rintro e w5 ⟨vN, rfl, ho, hb⟩
  have HB5 := hide (below_step HB4.out hb)
  have A5 := hide (A4.out.below hb (Nat.le_refl _))
  have B5 := hide (B4.out.below hb (Nat.le_refl _))
  have M5 := hide (M4.out.below hb (Nat.le_refl _))
  have N5 := hide ho.row
  clear HB4 hb A4 B4 M4
  clear ho
  go_wp2_with fail
  refine (same_yes _ _ _ _ _ M5.out N5.out rfl).mono ?_
  rintro e w6 ⟨rfl, hb⟩
  have HB6 := hide (below_step HB5.out hb)
  have A6 := hide (A5.out.below hb (Nat.le_refl _))
  have B6 := hide (B5.out.below hb (Nat.le_refl _))
  have M6 := hide (M5.out.below hb (Nat.le_refl _))
  have N6 := hide (N5.out.below hb (Nat.le_refl _))
  clear HB5 hb A5 B5 M5 N5
  clear M6 N6
  go_wp2_with fail
  refine (sees_clock _ _ xs ys _ A6.out B6.out).mono ?_
  rintro e w7 ⟨rfl, hb⟩
  have HB7 := hide (below_step HB6.out hb)
  have A7 := hide (A6.out.below hb (Nat.le_refl _))
  have B7 := hide (B6.out.below hb (Nat.le_refl _))
  clear HB6 hb A6 B6
  go_wp2_with fail
  refine (sees_ref _ _ xs ys _ A7.out B7.out).mono ?_
  rintro e w' ⟨rfl, hw'⟩
  rw [hw']; clear hw' w'
  have ck := (HB7.out.cell (World.block_lt_of_cell? w _ HCK.out)).trans HCK.out
  have HA := hide ((A7.out.alloc (.cells #[] 3)).src Try.underlying23)
  obtain ⟨CS, HCS⟩ : ∃ CS, Hid (CS = xs.map (Value.int .i64)) := ⟨_, rfl⟩
  rw [← HCS.out] at HA
  go_wp2_with (at_builtin; refine wpList_append_own_src _ rfl (.tmp 65) (.tmp 66) 22 23 rfl w7.heap.size 3 i0 (.int .i64 0) 1 8 Try.underlying22 hi hz0 hz1 hz2 rfl _ 0 [] rfl (own_lit w7) _ rfl xs.length CS HA.out ?c1 ?c2 (by simp) ?_)
  case c1 => unfold maxLen; omega
  case c2 => omega
  intro v8 w8 hown hgrow
  have hb8 : Below w7.heap.size w7 w8 := ((Below.refl _ _).alloc (Nat.le_refl _) _).grown hgrow (by simp) (fun g hg => by simp [Value.ownBlock] at hg; omega)
  have HO : Hid (Own w8 w7.heap.size v8 xs) := by
    unfold Hid Own; rw [← HCS.out]; simpa using hown
  obtain ⟨g, tcap, hv8, hg⟩ := own_form HO.out (by omega)
  subst hv8
  have c1 : w8.cell? ⟨g, k, none⟩ = some (.int .i64 y) := by
    rw [HO.out.cellAt k (by omega)]; simp [hk, ← HY.out]
  have c2 : w8.frozen? ⟨g, k, none⟩ = false := HO.out.frozenAt k
  have hb9 : Below w7.heap.size w7 (w8.setCell ⟨g, k, none⟩ (.int .i64 (wrap64 (y + 1)))) := hb8.setCell hg _
  have HB9 := hide (below_step HB7.out hb9)
  have A9 := hide (A7.out.below hb9 (Nat.le_refl _))
  have T9 : Hid (Row (w8.setCell ⟨g, k, none⟩ (.int .i64 (wrap64 (y + 1)))) (.slice (some ⟨g, 0, none⟩) xs.length tcap) (tickC xs k)) := by
    refine hide (Own.row (B := w7.heap.size) ?_)
    have := (HO.out.stored k (.int .i64 (wrap64 (y + 1)))).1
    unfold Own
    rw [HT.out, List.length_set, List.map_set]
    exact this
  clear hown hgrow HA HB7 A7 B7 ck HCS hb9 HO hb8
  go_wp2_with fail
  clear c1 c2
  generalize w8.setCell ⟨g, k, none⟩ (.int .i64 (wrap64 (y + 1))) = w9 at *
  go_wp2_with fail
  refine (has_clock _ xs _ _ _ A9.out).mono ?_
  rintro e w' ⟨rfl, hw'⟩
  rw [hw']; clear hw' w'
  go_wp2_with fail
  refine (tick_clock _ xs _ _ A9.out hr).mono ?_
  rintro e w10 ⟨vU, rfl, ho, hb⟩
  have HB10 := hide (below_step HB9.out hb)
  have A10 := hide (A9.out.below hb (Nat.le_refl _))
  have T10 := hide (T9.out.below hb (Nat.le_refl _))
  have U10 := hide ho.row
  clear HB9 hb A9 T9
  clear ho
  go_wp2_with fail
  refine (same_yes _ _ _ _ _ U10.out T10.out rfl).mono ?_
  rintro e w11 ⟨rfl, hb⟩
  have HB11 := hide (below_step HB10.out hb)
  have A11 := hide (A10.out.below hb (Nat.le_refl _))
  have T11 := hide (T10.out.below hb (Nat.le_refl _))
  have U11 := hide (U10.out.below hb (Nat.le_refl _))
  clear HB10 hb A10 T10 U10
  go_wp2_with fail
  go_ret
  exact ⟨rfl, HB11.out⟩

set_option maxRecDepth 100000 in
set_option maxHeartbeats 4000000 in
theorem tells_out (va vb : Value) (xs ys : List Int) (n s i : Int) (w : World) (ha : Row w va xs) (hb : Row w vb ys) (hr : xs.length * 8 ≤ 140737488351232) (hr' : ys.length * 8 ≤ 140737488351232) (hout : i < 0 ∨ (0 ≤ i ∧ (xs.length : Int) ≤ i)) :
    Calls Try.prog 3 #[va, vb, .int .i64 n, .int .i64 i, .int .i64 s] w fun e w' => e = .returned (.bool true) ∧ Below w.heap.size w w' := by
  obtain ⟨i0, hi, hz0, hz1, hz2⟩ := info_parts Try.infoInt
  have A0 := hide ha
  have B0 := hide hb
  have HB0 := Below.self' w
  have hR : hasC xs i s = false := by unfold hasC; rw [decide_eq_false_iff_not]; omega
  have HT : Hid (tickC xs i = xs) := by unfold Hid tickC; rw [if_neg (by omega)]
  obtain ⟨a, cap, rfl, -, -, -⟩ := ha
  clear hb
  rcases hout with h1 | ⟨h0, h1⟩
  all_goals
    have hd : Hid True := trivial
    go_enter Try.func3, Try.ntmps3
    go_wp2_with fail
    refine (wrong_clock _ xs _ _ A0.out).mono ?_
    rintro e w' ⟨rfl, hw'⟩
    rw [hw']; clear hw' w'
    go_wp2_with fail
    refine (wrong_ref _ xs _ _ A0.out).mono ?_
    rintro e w' ⟨rfl, hw'⟩
    rw [hw']; clear hw' w'
    go_wp2_with fail
    refine (join_clock _ _ xs ys _ A0.out B0.out hr hr').mono ?_
    rintro e w1 ⟨vJ, rfl, ho, hb⟩
    have HB1 := hide (below_step HB0.out hb)
    have A1 := hide (A0.out.below hb (Nat.le_refl _))
    have B1 := hide (B0.out.below hb (Nat.le_refl _))
    have J1 := hide ho.row
    clear HB0 hb A0 B0
    clear ho
    go_wp2_with fail
    refine (join_ref _ _ xs ys _ A1.out B1.out hr hr').mono ?_
    rintro e w2 ⟨vK, rfl, ho, hb⟩
    have HB2 := hide (below_step HB1.out hb)
    have A2 := hide (A1.out.below hb (Nat.le_refl _))
    have B2 := hide (B1.out.below hb (Nat.le_refl _))
    have J2 := hide (J1.out.below hb (Nat.le_refl _))
    have K2 := hide ho.row
    clear HB1 hb A1 B1 J1
    clear ho
    go_wp2_with fail
    refine (same_yes _ _ _ _ _ J2.out K2.out rfl).mono ?_
    rintro e w3 ⟨rfl, hb⟩
    have HB3 := hide (below_step HB2.out hb)
    have A3 := hide (A2.out.below hb (Nat.le_refl _))
    have B3 := hide (B2.out.below hb (Nat.le_refl _))
    have J3 := hide (J2.out.below hb (Nat.le_refl _))
    have K3 := hide (K2.out.below hb (Nat.le_refl _))
    clear HB2 hb A2 B2 J2 K2
    clear J3 K3
    go_wp2_with fail
    refine (meet_clock _ _ xs ys _ A3.out B3.out hr hr').mono ?_
    rintro e w4 ⟨vM, rfl, ho, hb⟩
    have HB4 := hide (below_step HB3.out hb)
    have A4 := hide (A3.out.below hb (Nat.le_refl _))
    have B4 := hide (B3.out.below hb (Nat.le_refl _))
    have M4 := hide ho.row
    clear HB3 hb A3 B3
    clear ho
    go_wp2_with fail
    refine (meet_ref _ _ xs ys _ A4.out B4.out hr hr').mono ?_
    rintro e w5 ⟨vN, rfl, ho, hb⟩
    have HB5 := hide (below_step HB4.out hb)
    have A5 := hide (A4.out.below hb (Nat.le_refl _))
    have B5 := hide (B4.out.below hb (Nat.le_refl _))
    have M5 := hide (M4.out.below hb (Nat.le_refl _))
    have N5 := hide ho.row
    clear HB4 hb A4 B4 M4
    clear ho
    go_wp2_with fail
    refine (same_yes _ _ _ _ _ M5.out N5.out rfl).mono ?_
    rintro e w6 ⟨rfl, hb⟩
    have HB6 := hide (below_step HB5.out hb)
    have A6 := hide (A5.out.below hb (Nat.le_refl _))
    have B6 := hide (B5.out.below hb (Nat.le_refl _))
    have M6 := hide (M5.out.below hb (Nat.le_refl _))
    have N6 := hide (N5.out.below hb (Nat.le_refl _))
    clear HB5 hb A5 B5 M5 N5
    clear M6 N6
    go_wp2_with fail
    refine (sees_clock _ _ xs ys _ A6.out B6.out).mono ?_
    rintro e w7 ⟨rfl, hb⟩
    have HB7 := hide (below_step HB6.out hb)
    have A7 := hide (A6.out.below hb (Nat.le_refl _))
    have B7 := hide (B6.out.below hb (Nat.le_refl _))
    clear HB6 hb A6 B6
    go_wp2_with fail
    refine (sees_ref _ _ xs ys _ A7.out B7.out).mono ?_
    rintro e w' ⟨rfl, hw'⟩
    rw [hw']; clear hw' w'
    have HA := hide ((A7.out.alloc (.cells #[] 3)).src Try.underlying23)
    obtain ⟨CS, HCS⟩ : ∃ CS, Hid (CS = xs.map (Value.int .i64)) := ⟨_, rfl⟩
    rw [← HCS.out] at HA
    go_wp2_with (at_builtin; refine wpList_append_own_src _ rfl (.tmp 65) (.tmp 66) 22 23 rfl w7.heap.size 3 i0 (.int .i64 0) 1 8 Try.underlying22 hi hz0 hz1 hz2 rfl _ 0 [] rfl (own_lit w7) _ rfl xs.length CS HA.out ?c1 ?c2 (by simp) ?_)
    case c1 => unfold maxLen; omega
    case c2 => omega
    intro v8 w8 hown hgrow
    have hb8 : Below w7.heap.size w7 w8 := ((Below.refl _ _).alloc (Nat.le_refl _) _).grown hgrow (by simp) (fun g hg => by simp [Value.ownBlock] at hg; omega)
    have HO : Hid (Own w8 w7.heap.size v8 xs) := by
      unfold Hid Own; rw [← HCS.out]; simpa using hown
    have HB8 := hide (below_step HB7.out hb8)
    have A8 := hide (A7.out.below hb8 (Nat.le_refl _))
    have T8 := hide HO.out.row
    obtain ⟨ta, tcap, rfl, -, -, -⟩ := HO.out.row
    clear hown hgrow HA HB7 A7 B7 HCS hb8 HO hd
    go_wp2_with fail
    refine (has_clock _ xs _ _ _ A8.out).mono ?_
    rintro e w' ⟨rfl, hw'⟩
    rw [hw']; clear hw' w'
    go_wp2_with fail
    refine (tick_clock _ xs _ _ A8.out hr).mono ?_
    rintro e w9 ⟨vU, rfl, ho, hb⟩
    have HB9 := hide (below_step HB8.out hb)
    have A9 := hide (A8.out.below hb (Nat.le_refl _))
    have T9 := hide (T8.out.below hb (Nat.le_refl _))
    have U9 := hide ho.row
    clear HB8 hb A8 T8
    clear ho
    go_wp2_with fail
    refine (same_yes _ _ _ _ _ U9.out T9.out HT.out).mono ?_
    rintro e w10 ⟨rfl, hb⟩
    have HB10 := hide (below_step HB9.out hb)
    have A10 := hide (A9.out.below hb (Nat.le_refl _))
    have T10 := hide (T9.out.below hb (Nat.le_refl _))
    have U10 := hide (U9.out.below hb (Nat.le_refl _))
    clear HB9 hb A9 T9 U9
    go_wp2_with fail
    go_ret
    exact ⟨rfl, HB10.out⟩

theorem tells_law (va vb : Value) (xs ys : List Int) (n i s : Int) (w : World) (ha : Row w va xs) (hb : Row w vb ys) (hr : xs.length * 8 ≤ 140737488351232) (hr' : ys.length * 8 ≤ 140737488351232) :
    Calls Try.prog 3 #[va, vb, .int .i64 n, .int .i64 i, .int .i64 s] w fun e w' => e = .returned (.bool true) ∧ Below w.heap.size w w' := by
  by_cases h : 0 ≤ i ∧ i < xs.length
  · obtain ⟨h0, h1⟩ := h
    obtain ⟨k, rfl⟩ := Int.eq_ofNat_of_zero_le h0
    exact tells_in va vb xs ys n s k w ha hb hr hr' (by omega)
  · exact tells_out va vb xs ys n s i w ha hb hr hr' (by omega)
end Go.Proofs.Ytiomdleoafakkaa
