/- state.CompareLives and state.CompareTallies. -/
import Derived.Test.YtkhhifkihpfdhaaStA
namespace Go.Proofs.Ytkhhifkihpfdhaa
open Go.RowKit

theorem row_of_box {w : World} {g : Nat} {xs : List Int} {n : Nat} (h : Box w g (xs.map (Value.int .i64)) 3) (hn : xs.length = n) (hm : n ≤ 1000) : Row w (.slice (some ⟨g, 0, none⟩) n n) xs := by
  subst hn
  refine ⟨some ⟨g, 0, none⟩, xs.length, rfl, Nat.le_refl _, by unfold maxLen; omega, fun i hi => ⟨g, 0, rfl, ?_⟩⟩
  rw [Nat.zero_add]
  exact h.get i (by simp [List.getD, hi])
/-- What compareLives answers. -/
def cmpL (a b : Live) : Int := orL [cmpI (halfI a.set) (halfI b.set), cmpI a.key b.key, cmpI a.item b.item, cmpI a.author b.author, cmpI a.seq b.seq]
def cmpT (a b : Tal) : Int := orL [cmpI a.key b.key, cmpI a.author b.author]

set_option maxRecDepth 100000 in
set_option maxHeartbeats 2000000 in
theorem compareLives_fn (x y : Live) (w : World) : Calls Try.prog 34 #[.agg #[.bool x.set, .int .i64 x.key, .int .i64 x.item, .int .i64 x.author, .int .i64 x.seq], .agg #[.bool y.set, .int .i64 y.key, .int .i64 y.item, .int .i64 y.author, .int .i64 y.seq]] w fun e w' => e = .returned (.int .i64 (cmpL x y)) ∧ Below w.heap.size w w' := by
  obtain ⟨r, HR⟩ : ∃ r, Hid (cmpL x y = r) := ⟨_, rfl⟩
  rw [HR.out]
  obtain ⟨W0, HW0⟩ : ∃ W0, Hid ((w.alloc (.cells #[.bool x.set, .int .i64 x.key, .int .i64 x.item, .int .i64 x.author, .int .i64 x.seq] 64)).alloc (.cells #[.bool y.set, .int .i64 y.key, .int .i64 y.item, .int .i64 y.author, .int .i64 y.seq] 64) = W0) := ⟨_, rfl⟩
  have HB : Hid (Below w.heap.size w W0) := by rw [← HW0.out]; exact Below.plus (Below.plus (Below.refl w.heap.size w) _) _
  have HX : Hid (Box W0 w.heap.size [.bool x.set, .int .i64 x.key, .int .i64 x.item, .int .i64 x.author, .int .i64 x.seq] 64) := by rw [← HW0.out]; exact (Box.new w _ _).plus _
  have HY : Hid (Box W0 (w.heap.size + 1) [.bool y.set, .int .i64 y.key, .int .i64 y.item, .int .i64 y.author, .int .i64 y.seq] 64) := by
    rw [← HW0.out]
    have h := Box.new (w.alloc (.cells #[.bool x.set, .int .i64 x.key, .int .i64 x.item, .int .i64 x.author, .int .i64 x.seq] 64)) [.bool y.set, .int .i64 y.key, .int .i64 y.item, .int .i64 y.author, .int .i64 y.seq] 64
    rw [World.size_alloc] at h
    exact h
  obtain ⟨g0, HG0⟩ : ∃ g0, Hid (w.heap.size = g0) := ⟨_, rfl⟩
  rw [HG0.out] at HX HY
  have HK : Hid (∀ w', Grew W0 w' → (w'.cell? ⟨g0, 0, none⟩ = some (.bool x.set) ∧ w'.cell? ⟨g0, 1, none⟩ = some (.int .i64 x.key) ∧ w'.cell? ⟨g0, 2, none⟩ = some (.int .i64 x.item) ∧ w'.cell? ⟨g0, 3, none⟩ = some (.int .i64 x.author) ∧ w'.cell? ⟨g0, 4, none⟩ = some (.int .i64 x.seq)) ∧
      w'.cell? ⟨g0 + 1, 0, none⟩ = some (.bool y.set) ∧ w'.cell? ⟨g0 + 1, 1, none⟩ = some (.int .i64 y.key) ∧ w'.cell? ⟨g0 + 1, 2, none⟩ = some (.int .i64 y.item) ∧ w'.cell? ⟨g0 + 1, 3, none⟩ = some (.int .i64 y.author) ∧ w'.cell? ⟨g0 + 1, 4, none⟩ = some (.int .i64 y.seq)) :=
    fun w' hg => ⟨(HX.out.below hg (Nat.le_refl _)).reads, (HY.out.below hg (Nat.le_refl _)).reads⟩
  have H1 : Hid (∀ (z : Live) w', Grew W0 w' → Calls Try.prog 76 #[.agg #[.bool z.set, .int .i64 z.key, .int .i64 z.item, .int .i64 z.author, .int .i64 z.seq]] w' fun e w'' => e = .returned (.int .i64 (halfI z.set)) ∧ Grew W0 w'') := fun z w' hg => by
    refine (half_fn z w').mono ?_
    rintro e w'' ⟨rfl, hb⟩
    exact ⟨rfl, grew_step hg hb⟩
  have H3 : Hid (∀ w', Grew W0 w' → Calls Try.prog 74 #[.slice (some ⟨w'.heap.size, 0, none⟩) 5 5] (w'.alloc (.cells #[.int .i64 (cmpI (halfI x.set) (halfI y.set)), .int .i64 (cmpI x.key y.key), .int .i64 (cmpI x.item y.item), .int .i64 (cmpI x.author y.author), .int .i64 (cmpI x.seq y.seq)] 3)) fun e w'' => e = .returned (.int .i64 r) ∧ Grew W0 w'') := fun w' hg => by
    refine (or_fn _ [cmpI (halfI x.set) (halfI y.set), cmpI x.key y.key, cmpI x.item y.item, cmpI x.author y.author, cmpI x.seq y.seq] _ (row_of_box (n := 5) (Box.new w' _ _) rfl (by omega))).mono ?_
    rintro e w'' ⟨rfl, rfl⟩
    refine ⟨?_, grew_alloc _ hg⟩
    rw [← HR.out]; rfl
  clear HX HY HR
  go_enter Try.func34, Try.ntmps34
  go_upto_region 1 with fail
  rw [HW0.out, HG0.out]
  go_region_held3 (fun w' => (w'.cell? ⟨g0, 0, none⟩ = some (.bool x.set) ∧ w'.cell? ⟨g0, 1, none⟩ = some (.int .i64 x.key) ∧ w'.cell? ⟨g0, 2, none⟩ = some (.int .i64 x.item) ∧ w'.cell? ⟨g0, 3, none⟩ = some (.int .i64 x.author) ∧ w'.cell? ⟨g0, 4, none⟩ = some (.int .i64 x.seq)) ∧
      w'.cell? ⟨g0 + 1, 0, none⟩ = some (.bool y.set) ∧ w'.cell? ⟨g0 + 1, 1, none⟩ = some (.int .i64 y.key) ∧ w'.cell? ⟨g0 + 1, 2, none⟩ = some (.int .i64 y.item) ∧ w'.cell? ⟨g0 + 1, 3, none⟩ = some (.int .i64 y.author) ∧ w'.cell? ⟨g0 + 1, 4, none⟩ = some (.int .i64 y.seq))
    ((refine HK.out _ ?_; (first | assumption | exact grew_drew (grew_refl _) | exact grew_drew (by assumption) | exact grew_alloc _ (by assumption))))
    (first
      | (go_at_call 76; refine (H1.out _ _ ?_).mono ?_; (first | assumption | exact grew_drew (grew_refl _) | exact grew_drew (by assumption)); rintro e w' ⟨rfl, hgr⟩)
      | (go_at_call 75; refine (compare_fn _ _ _).mono ?_; rintro e w' ⟨rfl, rfl⟩)
      | (go_at_call 74; refine (H3.out _ ?_).mono ?_; (first | assumption | exact grew_drew (grew_refl _) | exact grew_drew (by assumption)); rintro e w' ⟨rfl, hgr⟩))
  all_goals (go_wp2_with fail; go_ret; exact ⟨rfl, below_step HB.out (by assumption)⟩)
set_option maxRecDepth 100000 in
set_option maxHeartbeats 2000000 in
theorem compareTallies_fn (x y : Tal) (w : World) : Calls Try.prog 38 #[.agg #[.int .i64 x.key, .int .i64 x.author, .int .i64 x.sum], .agg #[.int .i64 y.key, .int .i64 y.author, .int .i64 y.sum]] w fun e w' => e = .returned (.int .i64 (cmpT x y)) ∧ Below w.heap.size w w' := by
  obtain ⟨r, HR⟩ : ∃ r, Hid (cmpT x y = r) := ⟨_, rfl⟩
  rw [HR.out]
  obtain ⟨W0, HW0⟩ : ∃ W0, Hid ((w.alloc (.cells #[.int .i64 x.key, .int .i64 x.author, .int .i64 x.sum] 74)).alloc (.cells #[.int .i64 y.key, .int .i64 y.author, .int .i64 y.sum] 74) = W0) := ⟨_, rfl⟩
  have HB : Hid (Below w.heap.size w W0) := by rw [← HW0.out]; exact Below.plus (Below.plus (Below.refl w.heap.size w) _) _
  have HX : Hid (Box W0 w.heap.size [.int .i64 x.key, .int .i64 x.author, .int .i64 x.sum] 74) := by rw [← HW0.out]; exact (Box.new w _ _).plus _
  have HY : Hid (Box W0 (w.heap.size + 1) [.int .i64 y.key, .int .i64 y.author, .int .i64 y.sum] 74) := by
    rw [← HW0.out]
    have h := Box.new (w.alloc (.cells #[.int .i64 x.key, .int .i64 x.author, .int .i64 x.sum] 74)) [.int .i64 y.key, .int .i64 y.author, .int .i64 y.sum] 74
    rw [World.size_alloc] at h
    exact h
  obtain ⟨g0, HG0⟩ : ∃ g0, Hid (w.heap.size = g0) := ⟨_, rfl⟩
  rw [HG0.out] at HX HY
  have HK : Hid (∀ w', Grew W0 w' → (w'.cell? ⟨g0, 0, none⟩ = some (.int .i64 x.key) ∧ w'.cell? ⟨g0, 1, none⟩ = some (.int .i64 x.author)) ∧
      w'.cell? ⟨g0 + 1, 0, none⟩ = some (.int .i64 y.key) ∧ w'.cell? ⟨g0 + 1, 1, none⟩ = some (.int .i64 y.author)) :=
    fun w' hg => ⟨⟨(HX.out.below hg (Nat.le_refl _)).get 0 rfl, (HX.out.below hg (Nat.le_refl _)).get 1 rfl⟩, (HY.out.below hg (Nat.le_refl _)).get 0 rfl, (HY.out.below hg (Nat.le_refl _)).get 1 rfl⟩
  have H3 : Hid (∀ w', Box w' W0.heap.size [.int .i64 (cmpI x.key y.key), .int .i64 (cmpI x.author y.author)] 3 → Grew W0 w' → Calls Try.prog 74 #[.slice (some ⟨W0.heap.size, 0, none⟩) 2 2] w' fun e w'' => e = .returned (.int .i64 r) ∧ Grew W0 w'') := fun w' hbx hg => by
    refine (or_fn _ [cmpI x.key y.key, cmpI x.author y.author] _ (row_of_box (n := 2) hbx rfl (by omega))).mono ?_
    rintro e w'' ⟨rfl, rfl⟩
    refine ⟨?_, hg⟩
    rw [← HR.out]; rfl
  clear HX HY HR
  go_enter Try.func38, Try.ntmps38
  go_upto_region 1 with fail
  rw [HW0.out, HG0.out]
  go_region_held3 (fun w' => (w'.cell? ⟨g0, 0, none⟩ = some (.int .i64 x.key) ∧ w'.cell? ⟨g0, 1, none⟩ = some (.int .i64 x.author)) ∧
      w'.cell? ⟨g0 + 1, 0, none⟩ = some (.int .i64 y.key) ∧ w'.cell? ⟨g0 + 1, 1, none⟩ = some (.int .i64 y.author))
    ((refine HK.out _ ?_; (first | assumption | exact grew_drew (grew_refl _) | exact grew_drew (by assumption) | exact grew_alloc _ (by assumption) | exact grew_alloc _ (grew_drew (grew_refl _)))))
    (first
      | (go_at_call 75; refine (compare_fn _ _ _).mono ?_; rintro e w' ⟨rfl, rfl⟩)
      | (go_at_call 74; refine (H3.out _ ?_ ?_).mono ?_; (exact Box.new W0 _ _); (first | exact grew_alloc _ (grew_drew (grew_refl _)) | exact grew_drew (grew_alloc _ (grew_refl _))); rintro e w' ⟨rfl, hgr⟩))
  all_goals (go_wp2_with fail; go_ret; exact ⟨rfl, below_step HB.out (by assumption)⟩)

/-- What the two say. -/
theorem or_lt (x y : Int) (r : List Int) : orL (cmpI x y :: r) < 0 ↔ x < y ∨ (x = y ∧ orL r < 0) := by
  rcases Int.lt_trichotomy x y with h | h | h
  · rw [cmpI_lt h, orL, if_neg (by omega)]
    omega
  · subst h
    rw [cmpI_eq, orL, if_pos rfl]
    omega
  · rw [cmpI_gt h, orL, if_neg (by omega)]
    omega
theorem or_zero (x y : Int) (r : List Int) : orL (cmpI x y :: r) = 0 ↔ x = y ∧ orL r = 0 := by
  rcases Int.lt_trichotomy x y with h | h | h
  · rw [cmpI_lt h, orL, if_neg (by omega)]
    omega
  · subst h
    rw [cmpI_eq, orL, if_pos rfl]
    omega
  · rw [cmpI_gt h, orL, if_neg (by omega)]
    omega
theorem or_nil : orL [] = 0 := rfl
theorem cmpL_lt {a b : Live} : cmpL a b < 0 ↔ ahead a b := by
  unfold cmpL ahead
  rw [or_lt, or_lt, or_lt, or_lt, or_lt, or_nil]
  cases a.set <;> cases b.set <;> simp [halfI]
theorem cmpL_zero {a b : Live} : cmpL a b = 0 ↔ a = b := by
  obtain ⟨s1, k1, i1, u1, q1⟩ := a
  obtain ⟨s2, k2, i2, u2, q2⟩ := b
  unfold cmpL
  rw [or_zero, or_zero, or_zero, or_zero, or_zero, or_nil]
  cases s1 <;> cases s2 <;> simp [halfI]
theorem cmpL_ge {a b : Live} : 0 ≤ cmpL a b ↔ aheadB a b = false := by
  have h := @cmpL_lt a b
  rw [← aheadB_iff] at h
  cases hb : aheadB a b
  · rw [hb] at h; simp at h; simp; exact h
  · rw [hb] at h; simp at h; simp; omega
theorem cmpT_lt {a b : Tal} : cmpT a b < 0 ↔ lessT a b := by
  unfold cmpT lessT
  rw [or_lt, or_lt, or_nil]
  omega
theorem cmpT_zero {a b : Tal} : cmpT a b = 0 ↔ a.key = b.key ∧ a.author = b.author := by
  unfold cmpT
  rw [or_zero, or_zero, or_nil]
  omega
end Go.Proofs.Ytkhhifkihpfdhaa
