/- Right updates: whether a clock has seen one, and why one can't come next. -/
import Derived.Test.YtkhhifkihpfdhaaTick
import Derived.Test.YtkhhifkihpfdhaaUpdRef
import Derived.Test.YtkhhifkihpfdhaaGrew
namespace Go.Proofs.Ytkhhifkihpfdhaa
open Go.RowKit

/-- What an update saw of its own author. -/
def entU (u : Upd) : Int := u.seen.getD u.author.toNat 0
/-- Has a clock seen u? -/
def seenU (u : Upd) (xs : List Int) : Bool := hasC xs u.author (entU u + 1)
/-- Its author is one of its own clock's, with an entry in range. -/
def FitU (u : Upd) : Prop := 0 ≤ u.author ∧ u.author < u.seen.length ∧ 0 ≤ entU u ∧ entU u ≤ 1000
theorem wrongU_right {u : Upd} {n : Int} (h : wrongU u n = 0) : wrongC u.seen n = 0 ∧ 0 ≤ u.author ∧ u.author < n ∧ u.seen.getD u.author.toNat 0 < 1000 := by
  rcases wrongU_ways u n with ⟨h1, h2⟩ | ⟨h0, h2⟩
  · omega
  · omega
theorem fitU_of {u : Upd} {n : Int} (h : wrongU u n = 0) : FitU u := by
  obtain ⟨hcc, h1, h2, h3⟩ := wrongU_right h
  obtain ⟨-, -, g3, g4⟩ := wrongC_ok hcc
  have := g4 u.author.toNat (by omega)
  exact ⟨by omega, by omega, this.1, this.2⟩

set_option maxRecDepth 100000 in
set_option maxHeartbeats 2000000 in
theorem seenBy_upd (v cv : Value) (u : Upd) (xs : List Int) (w : World) (h : IsUpd w v u) (hc : Row w cv xs) (hf : FitU u) :
    Calls Try.prog 91 #[v, cv] w fun e w' => e = .returned (.bool (seenU u xs)) ∧ Below w.heap.size w w' := by
  obtain ⟨h0, h1, h2, h3⟩ := hf
  obtain ⟨k, hk⟩ : ∃ k : Nat, u.author = k := ⟨u.author.toNat, by omega⟩
  have hkl : k < u.seen.length := by omega
  obtain ⟨y, HY⟩ : ∃ y, Hid (entU u = y) := ⟨_, rfl⟩
  obtain ⟨s, HS⟩ : ∃ s, Hid (seenU u xs = s) := ⟨_, rfl⟩
  rw [HY.out] at h2 h3
  rw [HS.out]
  have hyk : u.seen.getD k 0 = y := by rw [← HY.out]; unfold entU; rw [hk, Int.toNat_natCast]
  have hin := h
  obtain ⟨sv, rfl, hs⟩ := h
  obtain ⟨a, cap, rfl, -, -, -⟩ := id hs
  obtain ⟨a', cap', rfl, -, -, -⟩ := id hc
  obtain ⟨W0, HW0⟩ : ∃ W0, Hid (w.alloc (.cells #[.int .i64 u.author, .slice a u.seen.length cap, .int .i64 u.kind, .int .i64 u.key, .int .i64 u.item] 47) = W0) := ⟨_, rfl⟩
  have HB : Hid (Below w.heap.size w W0) := by rw [← HW0.out]; exact Below.plus (Below.refl w.heap.size w) _
  have HBox : Hid (Box W0 w.heap.size [.int .i64 u.author, .slice a u.seen.length cap, .int .i64 u.kind, .int .i64 u.key, .int .i64 u.item] 47) := by rw [← HW0.out]; exact Box.new _ _ _
  obtain ⟨g0, HG0⟩ : ∃ g0, Hid (w.heap.size = g0) := ⟨_, rfl⟩
  rw [HG0.out] at HBox
  have HI := hide (hin.below HB.out (Nat.le_refl _))
  have HSR := hide (hs.below HB.out (Nat.le_refl _))
  have HCR := hide (hc.below HB.out (Nat.le_refl _))
  have HK : Hid (∀ w', Grew W0 w' → w'.cell? ⟨g0, 0, none⟩ = some (.int .i64 u.author) ∧ w'.cell? ⟨g0, 1, none⟩ = some (.slice a u.seen.length cap) ∧ w'.cell? ⟨g0, 2, none⟩ = some (.int .i64 u.kind) ∧ w'.cell? ⟨g0, 3, none⟩ = some (.int .i64 u.key) ∧ w'.cell? ⟨g0, 4, none⟩ = some (.int .i64 u.item)) :=
    fun w' hg => (HBox.out.below hg (Nat.le_refl _)).reads
  have H1 : Hid (∀ w', Grew W0 w' → Calls Try.prog 66 #[.slice a u.seen.length cap, .int .i64 u.author] w' fun e w'' => e = .returned (.bool true) ∧ w'' = w') := fun w' hg =>
    hasAuthor_yes _ u.seen u.author w' (HSR.out.below hg (Nat.le_refl _)) h0 h1
  have H2 : Hid (∀ w', Grew W0 w' → Calls Try.prog 80 #[.agg #[.int .i64 u.author, .slice a u.seen.length cap, .int .i64 u.kind, .int .i64 u.key, .int .i64 u.item]] w' fun e w'' => e = .returned (.int .i64 (y + 1)) ∧ Grew W0 w'') := fun w' hg => by
    refine (seq_upd _ u k y w' (HI.out.below hg (Nat.le_refl _)) hk hkl hyk h2 h3).mono ?_
    rintro e w'' ⟨rfl, hb⟩
    exact ⟨rfl, grew_step hg hb⟩
  have H3 : Hid (∀ w', Grew W0 w' → Calls Try.prog 27 #[.slice a' xs.length cap', .int .i64 u.author, .int .i64 (y + 1)] w' fun e w'' => e = .returned (.bool s) ∧ w'' = w') := fun w' hg => by
    have := has_clock _ xs u.author (y + 1) w' (HCR.out.below hg (Nat.le_refl _))
    rw [← HY.out, show hasC xs u.author (entU u + 1) = s from HS.out] at this
    rw [← HY.out]
    exact this
  clear hin hs hc HI HSR HCR HBox hyk hk hkl
  go_enter Try.func91, Try.ntmps91
  go_upto_region 1 with fail
  rw [HW0.out, HG0.out]
  go_region_held3 (fun w' => w'.cell? ⟨g0, 0, none⟩ = some (.int .i64 u.author) ∧ w'.cell? ⟨g0, 1, none⟩ = some (.slice a u.seen.length cap) ∧ w'.cell? ⟨g0, 2, none⟩ = some (.int .i64 u.kind) ∧ w'.cell? ⟨g0, 3, none⟩ = some (.int .i64 u.key) ∧ w'.cell? ⟨g0, 4, none⟩ = some (.int .i64 u.item))
    ((refine HK.out _ ?_; (first | assumption | exact grew_drew (grew_refl _) | exact grew_drew (by assumption))))
    (first
      | (go_at_call 66; refine (H1.out _ ?_).mono ?_; (first | assumption | exact grew_drew (grew_refl _) | exact grew_drew (by assumption)); rintro e w' ⟨rfl, rfl⟩)
      | (go_at_call 80; refine (H2.out _ ?_).mono ?_; (first | assumption | exact grew_drew (grew_refl _) | exact grew_drew (by assumption)); rintro e w' ⟨rfl, hgr⟩)
      | (go_at_call 27; refine (H3.out _ ?_).mono ?_; (first | assumption | exact grew_drew (grew_refl _) | exact grew_drew (by assumption)); rintro e w' ⟨rfl, rfl⟩))
  all_goals (go_wp2_with fail; go_ret; exact ⟨rfl, below_step HB.out (by assumption)⟩)

/-- Why an update can't come next. -/
def misfitU (u : Upd) (xs : List Int) : Int := if seenU u xs then 7 else if seesC xs u.seen then 0 else 8

set_option maxRecDepth 100000 in
set_option maxHeartbeats 1000000 in
theorem misfit_upd (v cv : Value) (u : Upd) (xs : List Int) (w : World) (h : IsUpd w v u) (hc : Row w cv xs) (hf : FitU u) :
    Calls Try.prog 60 #[v, cv] w fun e w' => e = .returned (.int .i64 (misfitU u xs)) ∧ Below w.heap.size w w' := by
  obtain ⟨m, HM⟩ : ∃ m, Hid (misfitU u xs = m) := ⟨_, rfl⟩
  rw [HM.out]
  have hin := h
  obtain ⟨sv, rfl, hs⟩ := h
  obtain ⟨a, cap, rfl, -, -, -⟩ := id hs
  obtain ⟨a', cap', rfl, -, -, -⟩ := id hc
  have U0 := hide (hin.below (Below.plus (Below.refl w.heap.size w) (.cells #[.int .i64 u.author, .slice a u.seen.length cap, .int .i64 u.kind, .int .i64 u.key, .int .i64 u.item] 47)) (Nat.le_refl _))
  have S0 := hide (hs.alloc (.cells #[.int .i64 u.author, .slice a u.seen.length cap, .int .i64 u.kind, .int .i64 u.key, .int .i64 u.item] 47))
  have C0 := hide (hc.alloc (.cells #[.int .i64 u.author, .slice a u.seen.length cap, .int .i64 u.kind, .int .i64 u.key, .int .i64 u.item] 47))
  have X0 := hide (Box.new w [.int .i64 u.author, .slice a u.seen.length cap, .int .i64 u.kind, .int .i64 u.key, .int .i64 u.item] 47)
  have HB0 := hide (Below.plus (Below.refl w.heap.size w) (.cells #[.int .i64 u.author, .slice a u.seen.length cap, .int .i64 u.kind, .int .i64 u.key, .int .i64 u.item] 47))
  clear hin hs hc
  cases hs7 : seenU u xs
  · cases hs8 : seesC xs u.seen
    · obtain rfl : m = 8 := by rw [← HM.out]; simp [misfitU, hs7, hs8]
      clear HM
      go_enter Try.func60, Try.ntmps60
      go_wp2_with fail
      refine (seenBy_upd _ _ u xs _ U0.out C0.out hf).mono ?_
      rintro e w1 ⟨rfl, hb⟩
      have HB1 := hide (below_step HB0.out hb)
      have U1 := hide (U0.out.below hb (Nat.le_refl _))
      have S1 := hide (S0.out.below hb (Nat.le_refl _))
      have C1 := hide (C0.out.below hb (Nat.le_refl _))
      have X1 := hide (X0.out.below hb (Nat.le_refl _))
      clear HB0 hb U0 S0 C0 X0
      rw [hs7]
      have cX0 := X1.out.get 0 rfl
      have cX1 := X1.out.get 1 rfl
      have cX2 := X1.out.get 2 rfl
      have cX3 := X1.out.get 3 rfl
      have cX4 := X1.out.get 4 rfl
      go_wp2_with fail
      refine (sees_clock _ _ xs u.seen _ C1.out S1.out).mono ?_
      rintro e w2 ⟨rfl, hb⟩
      have HB2 := hide (below_step HB1.out hb)
      have U2 := hide (U1.out.below hb (Nat.le_refl _))
      have S2 := hide (S1.out.below hb (Nat.le_refl _))
      have C2 := hide (C1.out.below hb (Nat.le_refl _))
      have X2 := hide (X1.out.below hb (Nat.le_refl _))
      clear HB1 hb U1 S1 C1 X1
      rw [hs8]
      go_wp2
      go_ret
      exact ⟨rfl, HB2.out⟩
    · obtain rfl : m = 0 := by rw [← HM.out]; simp [misfitU, hs7, hs8]
      clear HM
      go_enter Try.func60, Try.ntmps60
      go_wp2_with fail
      refine (seenBy_upd _ _ u xs _ U0.out C0.out hf).mono ?_
      rintro e w1 ⟨rfl, hb⟩
      have HB1 := hide (below_step HB0.out hb)
      have U1 := hide (U0.out.below hb (Nat.le_refl _))
      have S1 := hide (S0.out.below hb (Nat.le_refl _))
      have C1 := hide (C0.out.below hb (Nat.le_refl _))
      have X1 := hide (X0.out.below hb (Nat.le_refl _))
      clear HB0 hb U0 S0 C0 X0
      rw [hs7]
      have cX0 := X1.out.get 0 rfl
      have cX1 := X1.out.get 1 rfl
      have cX2 := X1.out.get 2 rfl
      have cX3 := X1.out.get 3 rfl
      have cX4 := X1.out.get 4 rfl
      go_wp2_with fail
      refine (sees_clock _ _ xs u.seen _ C1.out S1.out).mono ?_
      rintro e w2 ⟨rfl, hb⟩
      have HB2 := hide (below_step HB1.out hb)
      have U2 := hide (U1.out.below hb (Nat.le_refl _))
      have S2 := hide (S1.out.below hb (Nat.le_refl _))
      have C2 := hide (C1.out.below hb (Nat.le_refl _))
      have X2 := hide (X1.out.below hb (Nat.le_refl _))
      clear HB1 hb U1 S1 C1 X1
      rw [hs8]
      go_wp2
      go_ret
      exact ⟨rfl, HB2.out⟩
  · obtain rfl : m = 7 := by rw [← HM.out]; simp [misfitU, hs7]
    clear HM
    go_enter Try.func60, Try.ntmps60
    go_wp2_with fail
    refine (seenBy_upd _ _ u xs _ U0.out C0.out hf).mono ?_
    rintro e w1 ⟨rfl, hb⟩
    have HB1 := hide (below_step HB0.out hb)
    have U1 := hide (U0.out.below hb (Nat.le_refl _))
    have S1 := hide (S0.out.below hb (Nat.le_refl _))
    have C1 := hide (C0.out.below hb (Nat.le_refl _))
    have X1 := hide (X0.out.below hb (Nat.le_refl _))
    clear HB0 hb U0 S0 C0 X0
    rw [hs7]
    go_wp2
    go_ret
    exact ⟨rfl, HB1.out⟩

/-- What is wrong with an update, or why it can't come next. -/
def wrongL (u : Upd) (xs : List Int) (n : Int) : Int := if wrongU u n = 0 then misfitU u xs else wrongU u n

set_option maxRecDepth 100000 in
set_option maxHeartbeats 1000000 in
theorem wrong_log (v cv : Value) (u : Upd) (xs : List Int) (n : Int) (w : World) (h : IsUpd w v u) (hc : Row w cv xs) :
    Calls Try.prog 77 #[v, cv, .int .i64 n] w fun e w' => e = .returned (.int .i64 (wrongL u xs n)) ∧ Below w.heap.size w w' := by
  have hin := h
  obtain ⟨sv, rfl, hs⟩ := h
  obtain ⟨a, cap, rfl, -, -, -⟩ := id hs
  obtain ⟨a', cap', rfl, -, -, -⟩ := id hc
  have U0 := hide (hin.below (Below.plus (Below.refl w.heap.size w) (.cells #[.int .i64 u.author, .slice a u.seen.length cap, .int .i64 u.kind, .int .i64 u.key, .int .i64 u.item] 47)) (Nat.le_refl _))
  have C0 := hide (hc.alloc (.cells #[.int .i64 u.author, .slice a u.seen.length cap, .int .i64 u.kind, .int .i64 u.key, .int .i64 u.item] 47))
  have X0 := hide (Box.new w [.int .i64 u.author, .slice a u.seen.length cap, .int .i64 u.kind, .int .i64 u.key, .int .i64 u.item] 47)
  have HB0 := hide (Below.plus (Below.refl w.heap.size w) (.cells #[.int .i64 u.author, .slice a u.seen.length cap, .int .i64 u.kind, .int .i64 u.key, .int .i64 u.item] 47))
  clear hin hs hc
  obtain ⟨m, HM⟩ : ∃ m, Hid (wrongL u xs n = m) := ⟨_, rfl⟩
  rw [HM.out]
  by_cases hw : wrongU u n = 0
  · have hf := hide (fitU_of hw)
    obtain rfl : misfitU u xs = m := by rw [← HM.out]; simp [wrongL, hw]
    have HW := hide hw
    clear HM hw
    go_enter Try.func77, Try.ntmps77
    go_wp2_with fail
    refine (wrongU_upd _ u n _ U0.out).mono ?_
    rintro e w1 ⟨rfl, hb⟩
    have HB1 := hide (below_step HB0.out hb)
    have U1 := hide (U0.out.below hb (Nat.le_refl _))
    have C1 := hide (C0.out.below hb (Nat.le_refl _))
    have X1 := hide (X0.out.below hb (Nat.le_refl _))
    clear HB0 hb U0 C0 X0
    rw [HW.out]
    have cX0 := X1.out.get 0 rfl
    have cX1 := X1.out.get 1 rfl
    have cX2 := X1.out.get 2 rfl
    have cX3 := X1.out.get 3 rfl
    have cX4 := X1.out.get 4 rfl
    go_wp2_with fail
    refine (misfit_upd _ _ u xs _ U1.out C1.out hf.out).mono ?_
    rintro e w2 ⟨rfl, hb⟩
    have HB2 := hide (below_step HB1.out hb)
    have U2 := hide (U1.out.below hb (Nat.le_refl _))
    have C2 := hide (C1.out.below hb (Nat.le_refl _))
    have X2 := hide (X1.out.below hb (Nat.le_refl _))
    clear HB1 hb U1 C1 X1
    go_wp2
    go_ret
    exact ⟨rfl, HB2.out⟩
  · have hne : (wrongU u n != 0) = true := by simp [hw]
    obtain rfl : wrongU u n = m := by rw [← HM.out]; simp [wrongL, hw]
    clear HM hw
    go_enter Try.func77, Try.ntmps77
    go_wp2_with fail
    refine (wrongU_upd _ u n _ U0.out).mono ?_
    rintro e w1 ⟨rfl, hb⟩
    have HB1 := hide (below_step HB0.out hb)
    have U1 := hide (U0.out.below hb (Nat.le_refl _))
    have C1 := hide (C0.out.below hb (Nat.le_refl _))
    have X1 := hide (X0.out.below hb (Nat.le_refl _))
    clear HB0 hb U0 C0 X0
    go_wp2
    go_ret
    exact ⟨rfl, HB1.out⟩

end Go.Proofs.Ytkhhifkihpfdhaa
