/- How lives and tallies are compared: cmp.Compare, cmp.Or, state.half, state.CompareLives, state.CompareTallies. -/
import Derived.Test.YtfhecilhcofboaaGreatSlV
import Derived.Test.YtfhecilhcofboaaGreatStPure
namespace Go.Proofs.YtfhecilhcofboaaGreat
open Go.RowKit

def cmpI (x y : Int) : Int := if x < y then -1 else if y < x then 1 else 0
theorem cmpI_lt {x y : Int} (h : x < y) : cmpI x y = -1 := by simp [cmpI, h]
theorem cmpI_gt {x y : Int} (h : y < x) : cmpI x y = 1 := by rw [cmpI, if_neg (by omega), if_pos h]
theorem cmpI_eq (x : Int) : cmpI x x = 0 := by simp [cmpI]
theorem compare_fn (x y : Int) (w : World) : Calls Tryz.prog 108 #[.int .i64 x, .int .i64 y] w fun e w' => e = .returned (.int .i64 (cmpI x y)) ∧ w' = w := by
 have e1 : (x != x) = false := by simp
 have e2 : (y != y) = false := by simp
 rcases Int.lt_trichotomy x y with h | h | h
 ·rw [cmpI_lt h]
  go_enter Tryz.func108, Tryz.ntmps108
  go_wp2
  go_ret
  exact ⟨rfl, rfl⟩
 ·subst h
  rw [cmpI_eq]
  have h1 : ¬ x < x := by omega
  go_enter Tryz.func108, Tryz.ntmps108
  go_wp2
  go_ret
  exact ⟨rfl, rfl⟩
 rw [cmpI_gt h]
 have h1 : ¬ x < y := by omega
 go_enter Tryz.func108, Tryz.ntmps108
 go_wp2
 go_ret
 exact ⟨rfl, rfl⟩

def orL : List Int → Int
 | [] => 0
 | x :: r => if x = 0 then orL r else x
theorem orL_skip {xs : List Int} {k : Nat} (h : orL (xs.take k) = 0) (hk : k < xs.length) (hx : xs.getD k 0 = 0) : orL (xs.take (k + 1)) = 0 := by
 rw [List.take_succ_eq_append_getElem hk]
 rw [getD_at hk] at hx
 rw [hx]
 clear hx
 generalize xs.take k = l at h
 induction l with
 | nil => simp [orL]
 | cons x r ih =>
  rw [List.cons_append, orL]
  rw [orL] at h
  split
  ·next e => rw [if_pos e] at h; exact ih h
  next e => rw [if_neg e] at h; exact absurd h e
theorem orL_stop : ∀ {xs : List Int} {k : Nat}, orL (xs.take k) = 0 → k < xs.length → ¬ xs.getD k 0 = 0 → orL xs = xs.getD k 0
 | [], k, _, h, _ => by simp at h
 | x :: r, 0, _, _, h => by simp at h; simp [orL, h]
 | x :: r, k + 1, h0, hk, hx => by
  rw [List.take_succ_cons, orL] at h0
  rw [orL]
  split
  ·next e =>
   rw [if_pos e] at h0
   rw [orL_stop (k := k) h0 (by simpa using hk) (by simpa using hx)]
   simp
  next e => rw [if_neg e] at h0; exact absurd h0 e
set_option maxRecDepth 100000 in
set_option maxHeartbeats 400000 in
theorem or_fn (v : Value) (xs : List Int) (w : World) (h : Row w v xs) : Calls Tryz.prog 107 #[v] w fun e w' => e = .returned (.int .i64 (orL xs)) ∧ w' = w := by
 have hx := h.len_le
 obtain ⟨a, cap, rfl, hl, hm, hc⟩ := h
 clear hl hm
 obtain ⟨r, HR⟩ : ∃ r, Hid (orL xs = r) := ⟨_, rfl⟩
 rw [HR.out]
 go_enter Tryz.func107, Tryz.ntmps107
 go_wp2
 go_loop [8] (fun i => ∃ k : Nat, k ≤ xs.length ∧ i = .int .i64 k ∧ Hid (orL (xs.take k) = 0)) (fun i => xs.length - (intOf i).toNat)
 case atStart => exact ⟨0, Nat.zero_le _, rfl, by simp [Hid, orL]⟩
 obtain ⟨k, hk, rfl, HA⟩ := hrel
 by_cases hlt : k < xs.length
 ·obtain ⟨b, off, rfl, hcell⟩ := hc k hlt
  clear hc
  obtain ⟨y, HY⟩ : ∃ y, Hid (xs.getD k 0 = y) := ⟨_, rfl⟩
  rw [HY.out] at hcell
  by_cases hy : y = 0
  ·have hy' : (y != 0) = false := by simp [hy]
   have HE := hide hy
   clear hy
   go_wp2
   go_round
   case rel => exact ⟨k + 1, by omega, by go_num, orL_skip HA.out hlt (by rw [HY.out]; exact HE.out)⟩
   case measure => simp [intOf]; omega
  have hy' : (y != 0) = true := by simp [hy]
  have HE := hide hy
  clear hy
  go_wp2
  go_ret
  exact ⟨ret_int (by rw [← HR.out, ← HY.out]; exact (orL_stop HA.out hlt (by rw [HY.out]; exact HE.out)).symm), rfl⟩
 have hkl : xs.take k = xs := List.take_of_length_le (by omega)
 rw [hkl] at HA
 go_wp2
 go_ret
 exact ⟨ret_int (by rw [← HR.out, HA.out]), rfl⟩

def encL (x : Live) : List Value := [.bool x.set, .int .i64 x.key, .int .i64 x.item, .int .i64 x.author, .int .i64 x.seq]
theorem encL_length (x : Live) : (encL x).length = 5 := rfl
def encT (t : Tal) : List Value := [.int .i64 t.key, .int .i64 t.author, .int .i64 t.sum]
theorem encT_length (t : Tal) : (encT t).length = 3 := rfl
def halfI (b : Bool) : Int := if b then 1 else 0
set_option maxRecDepth 100000 in
set_option maxHeartbeats 400000 in
theorem half_fn (x : Live) (w : World) : Calls Tryz.prog 109 #[.agg #[.bool x.set, .int .i64 x.key, .int .i64 x.item, .int .i64 x.author, .int .i64 x.seq]] w fun e w' => e = .returned (.int .i64 (halfI x.set)) ∧ Below w.heap.size w w' := by
 have hb := bpl w (.cells #[.bool x.set, .int .i64 x.key, .int .i64 x.item, .int .i64 x.author, .int .i64 x.seq] 106)
 cases hs : x.set
 ·rw [hs] at hb
  go_enter Tryz.func109, Tryz.ntmps109
  go_wp2
  go_ret
  exact ⟨rfl, hb⟩
 rw [hs] at hb
 go_enter Tryz.func109, Tryz.ntmps109
 go_wp2
 go_ret
 exact ⟨rfl, hb⟩
end Go.Proofs.YtfhecilhcofboaaGreat
/- state.CompareLives and state.CompareTallies. -/
namespace Go.Proofs.YtfhecilhcofboaaGreat
open Go.RowKit

theorem row_of_box {w : World} {g : Nat} {xs : List Int} {n : Nat} (h : Box w g (xs.map (Value.int .i64)) 3) (hn : xs.length = n) (hm : n ≤ 1000) : Row w (.slice (some ⟨g, 0, none⟩) n n) xs := by
 subst hn
 refine ⟨some ⟨g, 0, none⟩, xs.length, rfl, nlr _, by unfold maxLen; omega, fun i hi => ⟨g, 0, rfl, ?_⟩⟩
 rw [Nat.zero_add]
 exact h.get i (by simp [List.getD, hi])
def cmpL (a b : Live) : Int := orL [cmpI (halfI a.set) (halfI b.set), cmpI a.key b.key, cmpI a.item b.item, cmpI a.author b.author, cmpI a.seq b.seq]
def cmpT (a b : Tal) : Int := orL [cmpI a.key b.key, cmpI a.author b.author]

set_option maxRecDepth 100000 in
set_option maxHeartbeats 2000000 in
theorem compareLives_fn (x y : Live) (w : World) : Calls Tryz.prog 66 #[.agg #[.bool x.set, .int .i64 x.key, .int .i64 x.item, .int .i64 x.author, .int .i64 x.seq], .agg #[.bool y.set, .int .i64 y.key, .int .i64 y.item, .int .i64 y.author, .int .i64 y.seq]] w fun e w' => e = .returned (.int .i64 (cmpL x y)) ∧ Below w.heap.size w w' := by
 obtain ⟨r, HR⟩ : ∃ r, Hid (cmpL x y = r) := ⟨_, rfl⟩
 rw [HR.out]
 obtain ⟨W0, HW0⟩ : ∃ W0, Hid ((w.alloc (.cells #[.bool x.set, .int .i64 x.key, .int .i64 x.item, .int .i64 x.author, .int .i64 x.seq] 106)).alloc (.cells #[.bool y.set, .int .i64 y.key, .int .i64 y.item, .int .i64 y.author, .int .i64 y.seq] 106) = W0) := ⟨_, rfl⟩
 have HB : Hid (Below w.heap.size w W0) := by rw [← HW0.out]; exact Below.plus (bpl w _) _
 have HX : Hid (Box W0 w.heap.size [.bool x.set, .int .i64 x.key, .int .i64 x.item, .int .i64 x.author, .int .i64 x.seq] 106) := by rw [← HW0.out]; exact (Box.new w _ _).plus _
 have HY : Hid (Box W0 (w.heap.size + 1) [.bool y.set, .int .i64 y.key, .int .i64 y.item, .int .i64 y.author, .int .i64 y.seq] 106) := by
  rw [← HW0.out]
  have h := Box.new (w.alloc (.cells #[.bool x.set, .int .i64 x.key, .int .i64 x.item, .int .i64 x.author, .int .i64 x.seq] 106)) [.bool y.set, .int .i64 y.key, .int .i64 y.item, .int .i64 y.author, .int .i64 y.seq] 106
  rw [World.size_alloc] at h
  exact h
 obtain ⟨g0, HG0⟩ : ∃ g0, Hid (w.heap.size = g0) := ⟨_, rfl⟩
 rw [HG0.out] at HX HY
 have HK : Hid (∀ w', Grew W0 w' → (w'.cell? ⟨g0, 0, none⟩ = some (.bool x.set) ∧ w'.cell? ⟨g0, 1, none⟩ = some (.int .i64 x.key) ∧ w'.cell? ⟨g0, 2, none⟩ = some (.int .i64 x.item) ∧ w'.cell? ⟨g0, 3, none⟩ = some (.int .i64 x.author) ∧ w'.cell? ⟨g0, 4, none⟩ = some (.int .i64 x.seq)) ∧
   w'.cell? ⟨g0 + 1, 0, none⟩ = some (.bool y.set) ∧ w'.cell? ⟨g0 + 1, 1, none⟩ = some (.int .i64 y.key) ∧ w'.cell? ⟨g0 + 1, 2, none⟩ = some (.int .i64 y.item) ∧ w'.cell? ⟨g0 + 1, 3, none⟩ = some (.int .i64 y.author) ∧ w'.cell? ⟨g0 + 1, 4, none⟩ = some (.int .i64 y.seq)) :=
  fun w' hg => ⟨(HX.below hg (nlr _)).reads, (HY.below hg (nlr _)).reads⟩
 have H1 : Hid (∀ (z : Live) w', Grew W0 w' → Calls Tryz.prog 109 #[.agg #[.bool z.set, .int .i64 z.key, .int .i64 z.item, .int .i64 z.author, .int .i64 z.seq]] w' fun e w'' => e = .returned (.int .i64 (halfI z.set)) ∧ Grew W0 w'') := fun z w' hg => by
  refine (half_fn z w').mono ?_
  rintro e w'' ⟨rfl, hb⟩
  exact ⟨rfl, grew_step hg hb⟩
 have H3 : Hid (∀ w', Grew W0 w' → Calls Tryz.prog 107 #[.slice (some ⟨w'.heap.size, 0, none⟩) 5 5] (w'.alloc (.cells #[.int .i64 (cmpI (halfI x.set) (halfI y.set)), .int .i64 (cmpI x.key y.key), .int .i64 (cmpI x.item y.item), .int .i64 (cmpI x.author y.author), .int .i64 (cmpI x.seq y.seq)] 3)) fun e w'' => e = .returned (.int .i64 r) ∧ Grew W0 w'') := fun w' hg => by
  refine (or_fn _ [cmpI (halfI x.set) (halfI y.set), cmpI x.key y.key, cmpI x.item y.item, cmpI x.author y.author, cmpI x.seq y.seq] _ (row_of_box (n := 5) (Box.new w' _ _) rfl (by omega))).mono ?_
  rintro e w'' ⟨rfl, rfl⟩
  refine ⟨?_, grew_alloc _ hg⟩
  rw [← HR.out]; rfl
 clear HX HY HR
 go_enter Tryz.func66, Tryz.ntmps66
 go_upto_region 1 with fail
 rw [HW0.out, HG0.out]
 go_region_held3 (fun w' => (w'.cell? ⟨g0, 0, none⟩ = some (.bool x.set) ∧ w'.cell? ⟨g0, 1, none⟩ = some (.int .i64 x.key) ∧ w'.cell? ⟨g0, 2, none⟩ = some (.int .i64 x.item) ∧ w'.cell? ⟨g0, 3, none⟩ = some (.int .i64 x.author) ∧ w'.cell? ⟨g0, 4, none⟩ = some (.int .i64 x.seq)) ∧
   w'.cell? ⟨g0 + 1, 0, none⟩ = some (.bool y.set) ∧ w'.cell? ⟨g0 + 1, 1, none⟩ = some (.int .i64 y.key) ∧ w'.cell? ⟨g0 + 1, 2, none⟩ = some (.int .i64 y.item) ∧ w'.cell? ⟨g0 + 1, 3, none⟩ = some (.int .i64 y.author) ∧ w'.cell? ⟨g0 + 1, 4, none⟩ = some (.int .i64 y.seq))
  ((refine HK.out _ ?_; (first | assumption | exact grew_drew (grew_refl _) | exact grew_drew (by assumption) | exact grew_alloc _ (by assumption))))
  (first
   | (go_at_call 109; refine (H1.out _ _ ?_).mono ?_; (first | assumption | exact grew_drew (grew_refl _) | exact grew_drew (by assumption)); rintro e w' ⟨rfl, hgr⟩)
   | (go_at_call 108; refine (compare_fn _ _ _).mono ?_; rintro e w' ⟨rfl, rfl⟩)
   | (go_at_call 107; refine (H3.out _ ?_).mono ?_; (first | assumption | exact grew_drew (grew_refl _) | exact grew_drew (by assumption)); rintro e w' ⟨rfl, hgr⟩))
 all_goals (go_wp2_with fail; go_ret; exact ⟨rfl, below_step HB.out (by assumption)⟩)
set_option maxRecDepth 100000 in
set_option maxHeartbeats 2000000 in
theorem compareTallies_fn (x y : Tal) (w : World) : Calls Tryz.prog 70 #[.agg #[.int .i64 x.key, .int .i64 x.author, .int .i64 x.sum], .agg #[.int .i64 y.key, .int .i64 y.author, .int .i64 y.sum]] w fun e w' => e = .returned (.int .i64 (cmpT x y)) ∧ Below w.heap.size w w' := by
 obtain ⟨r, HR⟩ : ∃ r, Hid (cmpT x y = r) := ⟨_, rfl⟩
 rw [HR.out]
 obtain ⟨W0, HW0⟩ : ∃ W0, Hid ((w.alloc (.cells #[.int .i64 x.key, .int .i64 x.author, .int .i64 x.sum] 108)).alloc (.cells #[.int .i64 y.key, .int .i64 y.author, .int .i64 y.sum] 108) = W0) := ⟨_, rfl⟩
 have HB : Hid (Below w.heap.size w W0) := by rw [← HW0.out]; exact Below.plus (bpl w _) _
 have HX : Hid (Box W0 w.heap.size [.int .i64 x.key, .int .i64 x.author, .int .i64 x.sum] 108) := by rw [← HW0.out]; exact (Box.new w _ _).plus _
 have HY : Hid (Box W0 (w.heap.size + 1) [.int .i64 y.key, .int .i64 y.author, .int .i64 y.sum] 108) := by
  rw [← HW0.out]
  have h := Box.new (w.alloc (.cells #[.int .i64 x.key, .int .i64 x.author, .int .i64 x.sum] 108)) [.int .i64 y.key, .int .i64 y.author, .int .i64 y.sum] 108
  rw [World.size_alloc] at h
  exact h
 obtain ⟨g0, HG0⟩ : ∃ g0, Hid (w.heap.size = g0) := ⟨_, rfl⟩
 rw [HG0.out] at HX HY
 have HK : Hid (∀ w', Grew W0 w' → (w'.cell? ⟨g0, 0, none⟩ = some (.int .i64 x.key) ∧ w'.cell? ⟨g0, 1, none⟩ = some (.int .i64 x.author)) ∧
   w'.cell? ⟨g0 + 1, 0, none⟩ = some (.int .i64 y.key) ∧ w'.cell? ⟨g0 + 1, 1, none⟩ = some (.int .i64 y.author)) :=
  fun w' hg => ⟨⟨(HX.below hg (nlr _)).get 0 rfl, (HX.below hg (nlr _)).get 1 rfl⟩, (HY.below hg (nlr _)).get 0 rfl, (HY.below hg (nlr _)).get 1 rfl⟩
 have H3 : Hid (∀ w', Box w' W0.heap.size [.int .i64 (cmpI x.key y.key), .int .i64 (cmpI x.author y.author)] 3 → Grew W0 w' → Calls Tryz.prog 107 #[.slice (some ⟨W0.heap.size, 0, none⟩) 2 2] w' fun e w'' => e = .returned (.int .i64 r) ∧ Grew W0 w'') := fun w' hbx hg => by
  refine (or_fn _ [cmpI x.key y.key, cmpI x.author y.author] _ (row_of_box (n := 2) hbx rfl (by omega))).mono ?_
  rintro e w'' ⟨rfl, rfl⟩
  refine ⟨?_, hg⟩
  rw [← HR.out]; rfl
 clear HX HY HR
 go_enter Tryz.func70, Tryz.ntmps70
 go_upto_region 1 with fail
 rw [HW0.out, HG0.out]
 go_region_held3 (fun w' => (w'.cell? ⟨g0, 0, none⟩ = some (.int .i64 x.key) ∧ w'.cell? ⟨g0, 1, none⟩ = some (.int .i64 x.author)) ∧
   w'.cell? ⟨g0 + 1, 0, none⟩ = some (.int .i64 y.key) ∧ w'.cell? ⟨g0 + 1, 1, none⟩ = some (.int .i64 y.author))
  ((refine HK.out _ ?_; (first | assumption | exact grew_drew (grew_refl _) | exact grew_drew (by assumption) | exact grew_alloc _ (by assumption) | exact grew_alloc _ (grew_drew (grew_refl _)))))
  (first
   | (go_at_call 108; refine (compare_fn _ _ _).mono ?_; rintro e w' ⟨rfl, rfl⟩)
   | (go_at_call 107; refine (H3.out _ ?_ ?_).mono ?_; (exact Box.new W0 _ _); (first | exact grew_alloc _ (grew_drew (grew_refl _)) | exact grew_drew (grew_alloc _ (grew_refl _))); rintro e w' ⟨rfl, hgr⟩))
 all_goals (go_wp2_with fail; go_ret; exact ⟨rfl, below_step HB.out (by assumption)⟩)

theorem or_lt (x y : Int) (r : List Int) : orL (cmpI x y :: r) < 0 ↔ x < y ∨ (x = y ∧ orL r < 0) := by
 rcases Int.lt_trichotomy x y with h | h | h
 ·rw [cmpI_lt h, orL, if_neg (by omega)]
  omega
 ·subst h
  rw [cmpI_eq, orL, if_pos rfl]
  omega
 rw [cmpI_gt h, orL, if_neg (by omega)]
 omega
theorem or_zero (x y : Int) (r : List Int) : orL (cmpI x y :: r) = 0 ↔ x = y ∧ orL r = 0 := by
 rcases Int.lt_trichotomy x y with h | h | h
 ·rw [cmpI_lt h, orL, if_neg (by omega)]
  omega
 ·subst h
  rw [cmpI_eq, orL, if_pos rfl]
  omega
 rw [cmpI_gt h, orL, if_neg (by omega)]
 omega
theorem or_nil : orL [] = 0 := rfl
theorem cmpL_lt {a b : Live} : cmpL a b < 0 ↔ ahead a b := by
 unfold cmpL ahead
 rw [or_lt, or_lt, or_lt, or_lt, or_lt, or_nil]
 cases a.set <;> cases b.set <;> simp [halfI]
theorem cmpL_zero {a b : Live} : cmpL a b = 0 ↔ a = b := by
 obtain ⟨s1, k1, i1, u1, q1⟩ := a
 obtain ⟨s2, k2, i2, u2, q2⟩ := b
 unfold cmpL
 rw [or_zero, or_zero, or_zero, or_zero, or_zero, or_nil]
 cases s1 <;> cases s2 <;> simp [halfI]
theorem cmpL_ge {a b : Live} : 0 ≤ cmpL a b ↔ aheadB a b = false := by
 have h := @cmpL_lt a b
 rw [← aheadB_iff] at h
 cases hb : aheadB a b
 ·rw [hb] at h; simp at h; simp; exact h
 rw [hb] at h; simp at h; simp; omega
theorem cmpT_lt {a b : Tal} : cmpT a b < 0 ↔ lessT a b := by
 unfold cmpT lessT
 rw [or_lt, or_lt, or_nil]
 omega
theorem cmpT_zero {a b : Tal} : cmpT a b = 0 ↔ a.key = b.key ∧ a.author = b.author := by
 unfold cmpT
 rw [or_zero, or_zero, or_nil]
 omega
end Go.Proofs.YtfhecilhcofboaaGreat
