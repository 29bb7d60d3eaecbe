/- The statement UpdateSize of the second chapter, as a walk: it answers true for every update, every number and any more bytes. -/
import Derived.Test.YtiomdleoafakkaaUTurns
namespace Go.Proofs.Ytiomdleoafakkaa
open Go.RowKit

theorem own_lit8 (w : World) : (w.alloc (.cells #[] 5)).ownsRow w.heap.size 5 1 (.slice (some ⟨w.heap.size, 0, none⟩) 0 0) 0 [] :=
  World.ownsRow_lit w #[] 0 (Nat.le_refl _) (Nat.zero_le _) rfl
theorem bytes_oneCell (bs : List Int) : ∀ u ∈ bs.map (Value.int .u8), u.oneCell' = true := by
  intro u hu
  rw [List.mem_map] at hu
  obtain ⟨x, -, rfl⟩ := hu
  rfl
/-- A slice of bytes, as what is appended. -/
theorem RowB.src {P : Program} {w : World} {v : Value} {bs : List Int} {tx e' : TypeId} (h : RowB w v bs) (hk : P.underlying tx = some (.slice e')) : Src P 1 tx v bs.length (bs.map (Value.int .u8)) w := by
  obtain ⟨a, cap, rfl, -, -, -, hc⟩ := h
  cases a with
  | some ad =>
    refine Src.ofSlice w hk ad _ _ _ (by simp) (fun j u hj => ?_) (bytes_oneCell bs)
    have hjl : j < bs.length := by
      rcases Nat.lt_or_ge j bs.length with h | h
      · exact h
      · rw [List.getElem?_eq_none (by simpa using h)] at hj; cases hj
    obtain ⟨b, off, e, hcell⟩ := hc j hjl
    simp only [Option.some.injEq] at e
    subst e
    have ha : (⟨b, off, none⟩ : Addr).add j = ⟨b, off + j, none⟩ := by
      simp only [Addr.add]
      split
      · next e => rw [e]; rfl
      · rfl
    rw [ha, hcell]
    rw [List.getElem?_map, List.getElem?_eq_getElem hjl] at hj
    simp only [Option.map_some, Option.some.injEq] at hj
    rw [← hj, getD_at hjl]
  | none =>
    have h0 : bs = [] := by
      cases bs with
      | nil => rfl
      | cons x xs => obtain ⟨_, _, h, _⟩ := hc 0 (by simp); cases h
    subst h0
    exact Src.ofNil w hk cap

theorem RowB.take {w : World} {a : Option Addr} {n c k : Nat} {bs : List Int} (h : RowB w (.slice a n c) bs) (hk : k ≤ n) : RowB w (.slice a k c) (bs.take k) := by
  obtain ⟨a', c', h1, h2, h3, h0, h4⟩ := h
  simp only [Value.slice.injEq] at h1
  obtain ⟨rfl, rfl, rfl⟩ := h1
  have hl : (bs.take k).length = k := by rw [List.length_take]; omega
  refine ⟨_, _, by rw [hl], by omega, h3, fun b hb => h0 b (List.mem_of_mem_take hb), fun i hi => ?_⟩
  rw [hl] at hi
  obtain ⟨b, off, e, hc⟩ := h4 i (by omega)
  refine ⟨b, off, e, ?_⟩
  have h5 : (bs.take k).getD i 0 = bs.getD i 0 := by simp [List.getD, hi]
  rw [h5]; exact hc

set_option maxRecDepth 100000 in
set_option maxHeartbeats 2000000 in
theorem usize_law (v bv : Value) (u : Upd) (n : Int) (bs : List Int) (w : World) (h : IsUpd w v u) (hbv : RowB w bv bs) (hsz : bs.length ≤ 140737488351232) :
    Calls Try.prog 9 #[v, .int .i64 n, bv] w fun e w' => e = .returned (.bool true) ∧ Below w.heap.size w w' := by
  have hrange : ∀ b ∈ bs, 0 ≤ b ∧ b ≤ 255 := by obtain ⟨_, _, _, _, _, h0, _⟩ := hbv; exact h0
  have hin := h
  obtain ⟨sv, rfl, hs⟩ := h
  obtain ⟨a, cap, rfl, -, -, -⟩ := id hs
  have U0 := hide (hin.below (Below.plus (Below.refl w.heap.size w) (.cells #[.int .i64 u.author, .slice a u.seen.length cap, .int .i64 u.kind, .int .i64 u.key, .int .i64 u.item] 38)) (Nat.le_refl _))
  have B0 := hide (hbv.alloc (.cells #[.int .i64 u.author, .slice a u.seen.length cap, .int .i64 u.kind, .int .i64 u.key, .int .i64 u.item] 38))
  have X0 := hide (Box.new w [.int .i64 u.author, .slice a u.seen.length cap, .int .i64 u.kind, .int .i64 u.key, .int .i64 u.item] 38)
  have HB0 := hide (Below.plus (Below.refl w.heap.size w) (.cells #[.int .i64 u.author, .slice a u.seen.length cap, .int .i64 u.kind, .int .i64 u.key, .int .i64 u.item] 38))
  clear hin hs
  obtain ⟨ab, capb, rfl, -, -, -, -⟩ := hbv
  obtain ⟨LB, HLB⟩ : ∃ L, Hid (bs.length = L) := ⟨_, rfl⟩
  rw [HLB.out] at B0 hsz ⊢
  obtain ⟨r, HR⟩ : ∃ r, Hid (wrongU u n = r) := ⟨_, rfl⟩
  by_cases hr : r = 0
  · subst hr
    have HO : Hid (outB u n = bytesU u n) := by unfold Hid outB; rw [if_pos HR.out]
    obtain ⟨hc, -⟩ := wrongU_ok HR.out
    obtain ⟨g1, g2, g3, -⟩ := wrongC_ok hc
    obtain ⟨L1, hL1⟩ : ∃ L1, u.seen.length = L1 := ⟨_, rfl⟩
    have HBL : Hid ((bytesU u n).length = 6 + 2 * L1) := by unfold Hid; rw [bytesU_length, hL1]
    have HLESS := hide (parse_less HR.out)
    rw [hL1] at HLESS
    have hn : n = L1 := by omega
    have hq : ((6 + 2 * L1 : Nat) : Int) = 6 + 2 * n := by omega
    obtain ⟨M, HM⟩ : ∃ M, Hid (6 + 2 * L1 = M) := ⟨_, rfl⟩
    rw [HM.out] at HBL hq
    have hM1 : 7 ≤ M := by rw [← HM.out]; omega
    have hM2 : M ≤ 18 := by rw [← HM.out]; omega
    have hq1 : ((M : Int) != 6 + 2 * n) = false := by simp; omega
    have hq2 : ((M : Int) == 6 + 2 * n) = true := by simp; omega
    have HLESS' : Hid (parseE ((bytesU u n).take (M - 1)) = 2) := by rw [show M - 1 = 5 + 2 * L1 by rw [← HM.out]; omega]; exact HLESS
    have HMORE : Hid (bs ≠ [] → parseE (bytesU u n ++ bs) = 2) := fun hm => parse_more HR.out hm
    have HRG := hide (bytesU_range HR.out)
    have hnb1 : n ≤ 6 := g2
    have hnb0 : 1 ≤ n := g1
    clear HLESS hq hn g1 g2 g3 hc hL1
    by_cases hb0 : LB = 0
    · have hb1 : ((LB : Int) == 0) = true := by simp [hb0]
      clear hb0
      go_enter Try.func9, Try.ntmps9
      go_wp2_with fail
      refine (ualive_law _).mono ?_
      rintro e w1 ⟨rfl, hb⟩
      have HB1 := hide (below_step HB0.out hb)
      have U1 := hide (U0.out.below hb (Nat.le_refl _))
      have B1 := hide (B0.out.below hb (Nat.le_refl _))
      have X1 := hide (X0.out.below hb (Nat.le_refl _))
      clear HB0 hb U0 B0 X0
      have cX0 := X1.out.get 0 rfl
      have cX1 := X1.out.get 1 rfl
      have cX2 := X1.out.get 2 rfl
      have cX3 := X1.out.get 3 rfl
      have cX4 := X1.out.get 4 rfl
      go_wp2_with fail
      refine (bytes_upd _ u n _ U1.out).mono ?_
      rintro e w2 ⟨vY, rfl, hY, hb⟩
      have HB2 := hide (below_step HB1.out hb)
      have U2 := hide (U1.out.below hb (Nat.le_refl _))
      have B2 := hide (B1.out.below hb (Nat.le_refl _))
      have X2 := hide (X1.out.below hb (Nat.le_refl _))
      have Y2 := hide hY
      clear HB1 hb U1 B1 X1
      clear cX0 cX1 cX2 cX3 cX4
      rw [HR.out]
      rw [HO.out] at hY Y2
      obtain ⟨aY, capY, hvY, -, -, -, -⟩ := hY
      rw [HBL.out] at hvY
      subst hvY
      go_wp2
      go_ret
      exact ⟨rfl, HB2.out⟩
    · have hb1 : ((LB : Int) == 0) = false := by simp; omega
      have hne : bs ≠ [] := by intro e; rw [e] at HLB; exact hb0 HLB.out.symm
      have HMO := hide (HMORE.out hne)
      have HRB : Hid (∀ b ∈ bytesU u n ++ bs, 0 ≤ b ∧ b ≤ 255) := fun b hb => by
        rw [List.mem_append] at hb
        exact hb.elim (HRG.out b) (hrange b)
      obtain ⟨i0, hi, hz0, hz1, hz2⟩ := info_parts Try.infoByte
      clear hb0 hne HMORE hrange
      go_enter Try.func9, Try.ntmps9
      go_wp2_with fail
      refine (ualive_law _).mono ?_
      rintro e w1 ⟨rfl, hb⟩
      have HB1 := hide (below_step HB0.out hb)
      have U1 := hide (U0.out.below hb (Nat.le_refl _))
      have B1 := hide (B0.out.below hb (Nat.le_refl _))
      have X1 := hide (X0.out.below hb (Nat.le_refl _))
      clear HB0 hb U0 B0 X0
      have cX0 := X1.out.get 0 rfl
      have cX1 := X1.out.get 1 rfl
      have cX2 := X1.out.get 2 rfl
      have cX3 := X1.out.get 3 rfl
      have cX4 := X1.out.get 4 rfl
      go_wp2_with fail
      refine (bytes_upd _ u n _ U1.out).mono ?_
      rintro e w2 ⟨vY, rfl, hY, hb⟩
      have HB2 := hide (below_step HB1.out hb)
      have U2 := hide (U1.out.below hb (Nat.le_refl _))
      have B2 := hide (B1.out.below hb (Nat.le_refl _))
      have X2 := hide (X1.out.below hb (Nat.le_refl _))
      have Y2 := hide hY
      clear HB1 hb U1 B1 X1
      clear cX0 cX1 cX2 cX3 cX4
      rw [HR.out]
      rw [HO.out] at hY Y2
      clear U2 X2
      obtain ⟨aY, capY, hvY, -, -, -, -⟩ := id hY
      rw [HBL.out] at hvY
      subst hvY
      obtain ⟨bY, oY, haY, -, -⟩ := hY.at (by rw [HBL.out]; omega)
      subst haY
      have HSY := hide ((Y2.out.alloc (.cells #[] 5)).src Try.underlying39)
      rw [HBL.out] at HSY
      obtain ⟨CS, HCS⟩ : ∃ CS, Hid (CS = (bytesU u n).map (Value.int .u8)) := ⟨_, rfl⟩
      rw [← HCS.out] at HSY
      go_wp2_with (at_builtin; refine wpList_append_own_src _ rfl (.tmp 43) (.tmp 44) 39 39 rfl w2.heap.size 5 i0 (.int .u8 0) 1 1 Try.underlying39 hi hz0 hz1 hz2 rfl _ 0 [] rfl (own_lit8 w2) _ rfl M CS HSY.out ?c1 ?c2 (by simp) ?_)
      case c1 => unfold maxLen; omega
      case c2 => omega
      intro v3 w3 hown3 hgrow3
      have hb3 : Below w2.heap.size w2 w3 := ((Below.refl _ _).alloc (Nat.le_refl _) _).grown hgrow3 (by simp) (fun g hg => by simp [Value.ownBlock] at hg; omega)
      have HO3 := hide hown3
      clear hown3 hgrow3 HSY
      have B3 := hide (B2.out.below hb3 (Nat.le_refl _))
      have Y3 := hide (Y2.out.below hb3 (Nat.le_refl _))
      have HB3 := hide (below_step HB2.out hb3)
      have HSB := hide (B3.out.src Try.underlying39)
      rw [HLB.out] at HSB
      obtain ⟨DS, HDS⟩ : ∃ CS, Hid (CS = bs.map (Value.int .u8)) := ⟨_, rfl⟩
      rw [← HDS.out] at HSB
      have HLE := hide hb3.size
      have HLB3 := hide hb3
      have HB2k := HB2
      clear hb3 B2 Y2 HB2
      go_wp2_with (at_builtin; refine wpList_append_own_src _ rfl (.tmp 45) (.tmp 46) 39 39 rfl w2.heap.size 5 i0 (.int .u8 0) 1 1 Try.underlying39 hi hz0 hz1 hz2 rfl _ M CS rfl HO3.out _ rfl LB DS HSB.out ?d1 ?d2 ?d3 ?_)
      case d1 => unfold maxLen; omega
      case d2 => omega
      case d3 => exact HLE.out
      intro v4 w4 hown4 hgrow4
      have hb4 : Below w2.heap.size w3 w4 := (Below.refl _ _).grown hgrow4 HLE.out (fun g hg => (HO3.out.lt g hg).1)
      have HR4 : Hid (RowB w4 v4 (bytesU u n ++ bs)) := by
        have := hown4
        rw [HCS.out, HDS.out, ← List.map_append] at this
        exact ownsRow_rowB this HRB.out
      have Y4 := hide (hY.below (HLB3.out.trans hb4) (Nat.le_refl _))
      have HB4 := hide (below_step HB2k.out (HLB3.out.trans hb4))
      clear hown4 hgrow4 HSB hb4 HO3 B3 Y3 HB3 HLE HLB3 HB2k hY
      go_wp2_with fail
      refine (parse_upd _ _ _ HR4.out).mono ?_
      rintro e w5 ⟨vP, rfl, hP, hb⟩
      have HB5 := hide (below_step HB4.out hb)
      have Y5 := hide (Y4.out.below hb (Nat.le_refl _))
      have P5 := hide hP
      clear HB4 hb Y4
      rw [HMO.out]
      clear P5
      clear HR4 HMO
      have HT := hide (Y5.out.take (k := M - 1) (by omega))
      have hM3 : (M : Int) - 1 ≤ (capY : Int) := by obtain ⟨_, _, e, hle, _⟩ := Y5.out; simp only [Value.slice.injEq] at e; omega
      have hM4 : ((M : Int) - 1).toNat = M - 1 := by omega
      have hM5 : (0 : Int) ≤ (M : Int) - 1 := by omega
      go_wp2_with fail
      refine (parse_upd _ _ _ HT.out).mono ?_
      rintro e w6 ⟨vQ, rfl, hQ, hb⟩
      have HB6 := hide (below_step HB5.out hb)
      have Y6 := hide (Y5.out.below hb (Nat.le_refl _))
      have Q6 := hide hQ
      clear HB5 hb Y5
      rw [HLESS'.out]
      obtain ⟨svQ, rfl, hsQ⟩ := hQ
      obtain ⟨aQ, capQ, rfl, -, -, -⟩ := hsQ
      go_wp2
      go_ret
      exact ⟨rfl, Below.plus HB6.out _⟩
  · have hr' : (r != 0) = true := by simp [hr]
    have HO : Hid (outB u n = []) := by unfold Hid outB; rw [if_neg (by rw [HR.out]; exact hr)]
    go_enter Try.func9, Try.ntmps9
    go_wp2_with fail
    refine (ualive_law _).mono ?_
    rintro e w1 ⟨rfl, hb⟩
    have HB1 := hide (below_step HB0.out hb)
    have U1 := hide (U0.out.below hb (Nat.le_refl _))
    have B1 := hide (B0.out.below hb (Nat.le_refl _))
    have X1 := hide (X0.out.below hb (Nat.le_refl _))
    clear HB0 hb U0 B0 X0
    have cX0 := X1.out.get 0 rfl
    have cX1 := X1.out.get 1 rfl
    have cX2 := X1.out.get 2 rfl
    have cX3 := X1.out.get 3 rfl
    have cX4 := X1.out.get 4 rfl
    go_wp2_with fail
    refine (bytes_upd _ u n _ U1.out).mono ?_
    rintro e w2 ⟨vY, rfl, hY, hb⟩
    have HB2 := hide (below_step HB1.out hb)
    have U2 := hide (U1.out.below hb (Nat.le_refl _))
    have B2 := hide (B1.out.below hb (Nat.le_refl _))
    have X2 := hide (X1.out.below hb (Nat.le_refl _))
    have Y2 := hide hY
    clear HB1 hb U1 B1 X1
    clear cX0 cX1 cX2 cX3 cX4
    rw [HR.out]
    rw [HO.out] at hY
    obtain ⟨aY, capY, hvY, -, -, -, -⟩ := hY
    subst hvY
    go_wp2
    go_ret
    exact ⟨rfl, HB2.out⟩
end Go.Proofs.Ytiomdleoafakkaa
