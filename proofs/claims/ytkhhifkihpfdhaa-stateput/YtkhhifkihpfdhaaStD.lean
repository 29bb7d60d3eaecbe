/- state.tallyWrong, and the closures of state.Wrong. -/
import Derived.Test.YtkhhifkihpfdhaaStC
namespace Go.Proofs.Ytkhhifkihpfdhaa
open Go.RowKit

set_option maxRecDepth 100000 in
set_option maxHeartbeats 1000000 in
theorem tallyWrong_fn (t : Tal) (cv : Value) (c : List Int) (w : World) (hc : Row w cv c) (hg : ∀ k, k < c.length → 0 ≤ c.getD k 0 ∧ c.getD k 0 ≤ 1000) :
    Calls Try.prog 36 #[.agg #[.int .i64 t.key, .int .i64 t.author, .int .i64 t.sum], cv] w fun e w' => e = .returned (.int .i64 (wrongTl c t)) ∧ Below w.heap.size w w' := by
  have ways := wrongTl_ways c t
  obtain ⟨r, HR⟩ : ∃ r, Hid (wrongTl c t = r) := ⟨_, rfl⟩
  rw [HR.out] at ways
  rw [HR.out]
  clear HR
  have C0 := hide (hc.alloc (.cells #[.int .i64 t.key, .int .i64 t.author, .int .i64 t.sum] 74))
  have X0 := hide (Box.new w [.int .i64 t.key, .int .i64 t.author, .int .i64 t.sum] 74)
  have HB0 := hide (Below.plus (Below.refl w.heap.size w) (.cells #[.int .i64 t.key, .int .i64 t.author, .int .i64 t.sum] 74))
  clear hc
  rcases ways with ⟨h1, rfl⟩ | ⟨h1, h2, ways⟩
  · go_enter Try.func36, Try.ntmps36
    go_wp2_with fail
    refine (hasAuthor_no _ c t.author _ C0.out (by omega)).mono ?_
    rintro e w' ⟨rfl, hw'⟩
    rw [hw']; clear hw' w'
    go_wp2_with fail
    go_ret
    exact ⟨rfl, HB0.out⟩
  rcases ways with ⟨h4, rfl⟩ | ⟨h4, ways⟩
  · go_enter Try.func36, Try.ntmps36
    go_wp2_with fail
    refine (hasAuthor_yes _ c t.author _ C0.out (by omega) (by omega)).mono ?_
    rintro e w' ⟨rfl, hw'⟩
    rw [hw']; clear hw' w'
    go_wp2_with fail
    refine (isKey_fn t.key _).mono ?_
    rintro e w' ⟨rfl, hw'⟩
    rw [hw']; clear hw' w'
    rw [h4]
    go_wp2_with fail
    go_ret
    exact ⟨rfl, HB0.out⟩
  obtain ⟨k, hk⟩ : ∃ k : Nat, t.author = k := ⟨t.author.toNat, by omega⟩
  have hkl : k < c.length := by omega
  obtain ⟨h7, h8⟩ := hg k hkl
  rw [hk, Int.toNat_natCast] at ways
  obtain ⟨y, HY⟩ : ∃ y, Hid (c.getD k 0 = y) := ⟨_, rfl⟩
  rw [HY.out] at ways h7 h8
  have hw : IntKind.i64.wrap (1000 * y) = 1000 * y := wrapS (by omega) (by omega)
  have c0 := X0.out.get 0 rfl
  have c1 := X0.out.get 1 rfl
  have c2 := X0.out.get 2 rfl
  have hka : t.author < (c.length : Int) := h2
  have CC := C0
  obtain ⟨a, cap, hcv, -, -, hcells⟩ := CC.out
  obtain ⟨b, off, rfl, hcell⟩ := hcells k hkl
  subst hcv
  rw [HY.out] at hcell
  clear hcells CC hg
  obtain ⟨t1, t2, t3⟩ := t
  simp only at *
  subst hk
  rcases ways with ⟨rfl, rfl⟩ | ⟨h5, ways⟩
  · go_enter Try.func36, Try.ntmps36
    go_wp2_with fail
    refine (hasAuthor_yes _ c k _ C0.out (by omega) (by omega)).mono ?_
    rintro e w' ⟨rfl, hw'⟩
    rw [hw']; clear hw' w'
    go_wp2_with fail
    refine (isKey_fn t1 _).mono ?_
    rintro e w' ⟨rfl, hw'⟩
    rw [hw']; clear hw' w'
    rw [h4]
    go_wp2_with fail
    go_quiet (fail)
    go_wp2_with fail
    go_ret
    exact ⟨rfl, below_drewN HB0.out _⟩
  have h5' : (t3 == 0) = false := by simp [h5]
  have h5'' : decide (t3 = 0) = false := by simp [h5]
  rcases ways with ⟨h6, rfl⟩ | ⟨h6, rfl⟩
  all_goals
    go_enter Try.func36, Try.ntmps36
    go_wp2_with fail
    refine (hasAuthor_yes _ c k _ C0.out (by omega) (by omega)).mono ?_
    rintro e w' ⟨rfl, hw'⟩
    rw [hw']; clear hw' w'
    go_wp2_with fail
    refine (isKey_fn t1 _).mono ?_
    rintro e w' ⟨rfl, hw'⟩
    rw [hw']; clear hw' w'
    rw [h4]
    go_wp2_with fail
    go_region_held3 (fun w' => w'.cell? ⟨w.heap.size, 1, none⟩ = some (.int .i64 (k : Int)) ∧ w'.cell? ⟨w.heap.size, 2, none⟩ = some (.int .i64 t3) ∧ w'.cell? ⟨b, off + k, none⟩ = some (.int .i64 y)) (go_keep) (first | (go_at_call 73; refine (within_fn _ _ _ (by omega) (by omega)).mono ?_; rintro e w' ⟨rfl, rfl⟩))
    go_wp2_with fail
    go_ret
    exact ⟨rfl, HB0.out.drew⟩

set_option maxRecDepth 100000 in
set_option maxHeartbeats 400000 in
theorem wrongLive_fn (x : Live) (g : Nat) (cv lv tv : Value) (c : List Int) (w : World) (hg : Box w g [cv, lv, tv] 27) (hc : Row w cv c) :
    Calls Try.prog 31 #[.agg #[.bool x.set, .int .i64 x.key, .int .i64 x.item, .int .i64 x.author, .int .i64 x.seq], .pointer (some ⟨g, 0, none⟩)] w fun e w' => e = .returned (.int .i64 (wrongLv c x)) ∧ Below w.heap.size w w' := by
  obtain ⟨a, cap, rfl, -, -, -⟩ := id hc
  have C0 := hide (hc.alloc (.cells #[.bool x.set, .int .i64 x.key, .int .i64 x.item, .int .i64 x.author, .int .i64 x.seq] 64))
  have G0 := hide (hg.plus (.cells #[.bool x.set, .int .i64 x.key, .int .i64 x.item, .int .i64 x.author, .int .i64 x.seq] 64))
  have HB0 := hide (Below.plus (Below.refl w.heap.size w) (.cells #[.bool x.set, .int .i64 x.key, .int .i64 x.item, .int .i64 x.author, .int .i64 x.seq] 64))
  have c0 := G0.out.get 0 rfl
  clear hc hg
  go_enter Try.func31, Try.ntmps31
  go_wp2_with fail
  refine (liveWrong_fn x _ c _ C0.out).mono ?_
  rintro e w1 ⟨rfl, hb⟩
  have HB1 := hide (below_step HB0.out hb)
  have C1 := hide (C0.out.below hb (Nat.le_refl _))
  clear HB0 hb C0
  go_wp2_with fail
  go_ret
  exact ⟨rfl, HB1.out⟩
set_option maxRecDepth 100000 in
set_option maxHeartbeats 400000 in
theorem wrongTally_fn (t : Tal) (g : Nat) (cv lv tv : Value) (c : List Int) (w : World) (hg : Box w g [cv, lv, tv] 27) (hc : Row w cv c) (hk : ∀ k, k < c.length → 0 ≤ c.getD k 0 ∧ c.getD k 0 ≤ 1000) :
    Calls Try.prog 35 #[.agg #[.int .i64 t.key, .int .i64 t.author, .int .i64 t.sum], .pointer (some ⟨g, 0, none⟩)] w fun e w' => e = .returned (.int .i64 (wrongTl c t)) ∧ Below w.heap.size w w' := by
  obtain ⟨a, cap, rfl, -, -, -⟩ := id hc
  have C0 := hide (hc.alloc (.cells #[.int .i64 t.key, .int .i64 t.author, .int .i64 t.sum] 74))
  have G0 := hide (hg.plus (.cells #[.int .i64 t.key, .int .i64 t.author, .int .i64 t.sum] 74))
  have HB0 := hide (Below.plus (Below.refl w.heap.size w) (.cells #[.int .i64 t.key, .int .i64 t.author, .int .i64 t.sum] 74))
  have c0 := G0.out.get 0 rfl
  clear hc hg
  go_enter Try.func35, Try.ntmps35
  go_wp2_with fail
  refine (tallyWrong_fn t _ c _ C0.out hk).mono ?_
  rintro e w1 ⟨rfl, hb⟩
  have HB1 := hide (below_step HB0.out hb)
  have C1 := hide (C0.out.below hb (Nat.le_refl _))
  clear HB0 hb C0
  go_wp2_with fail
  go_ret
  exact ⟨rfl, HB1.out⟩
end Go.Proofs.Ytkhhifkihpfdhaa
