/- How lives and tallies are compared: cmp.Compare, cmp.Or, state.half, state.CompareLives, state.CompareTallies. -/
import Derived.Test.YtkhhifkihpfdhaaSlV
import Derived.Test.YtkhhifkihpfdhaaStPure
namespace Go.Proofs.Ytkhhifkihpfdhaa
open Go.RowKit

/-- cmp.Compare. -/
def cmpI (x y : Int) : Int := if x < y then -1 else if y < x then 1 else 0
theorem cmpI_lt {x y : Int} (h : x < y) : cmpI x y = -1 := by simp [cmpI, h]
theorem cmpI_gt {x y : Int} (h : y < x) : cmpI x y = 1 := by rw [cmpI, if_neg (by omega), if_pos h]
theorem cmpI_eq (x : Int) : cmpI x x = 0 := by simp [cmpI]
theorem compare_fn (x y : Int) (w : World) : Calls Try.prog 75 #[.int .i64 x, .int .i64 y] w fun e w' => e = .returned (.int .i64 (cmpI x y)) ∧ w' = w := by
  have e1 : (x != x) = false := by simp
  have e2 : (y != y) = false := by simp
  rcases Int.lt_trichotomy x y with h | h | h
  · rw [cmpI_lt h]
    go_enter Try.func75, Try.ntmps75
    go_wp2
    go_ret
    exact ⟨rfl, rfl⟩
  · subst h
    rw [cmpI_eq]
    have h1 : ¬ x < x := by omega
    go_enter Try.func75, Try.ntmps75
    go_wp2
    go_ret
    exact ⟨rfl, rfl⟩
  · rw [cmpI_gt h]
    have h1 : ¬ x < y := by omega
    go_enter Try.func75, Try.ntmps75
    go_wp2
    go_ret
    exact ⟨rfl, rfl⟩

/-- cmp.Or: the first that is not 0. -/
def orL : List Int → Int
  | [] => 0
  | x :: r => if x = 0 then orL r else x
theorem orL_skip {xs : List Int} {k : Nat} (h : orL (xs.take k) = 0) (hk : k < xs.length) (hx : xs.getD k 0 = 0) : orL (xs.take (k + 1)) = 0 := by
  rw [List.take_succ_eq_append_getElem hk]
  rw [getD_at hk] at hx
  rw [hx]
  clear hx
  generalize xs.take k = l at h
  induction l with
  | nil => simp [orL]
  | cons x r ih =>
    rw [List.cons_append, orL]
    rw [orL] at h
    split
    · next e => rw [if_pos e] at h; exact ih h
    · next e => rw [if_neg e] at h; exact absurd h e
theorem orL_stop : ∀ {xs : List Int} {k : Nat}, orL (xs.take k) = 0 → k < xs.length → ¬ xs.getD k 0 = 0 → orL xs = xs.getD k 0
  | [], k, _, h, _ => by simp at h
  | x :: r, 0, _, _, h => by simp at h; simp [orL, h]
  | x :: r, k + 1, h0, hk, hx => by
    rw [List.take_succ_cons, orL] at h0
    rw [orL]
    split
    · next e =>
      rw [if_pos e] at h0
      rw [orL_stop (k := k) h0 (by simpa using hk) (by simpa using hx)]
      simp
    · next e => rw [if_neg e] at h0; exact absurd h0 e
set_option maxRecDepth 100000 in
set_option maxHeartbeats 400000 in
theorem or_fn (v : Value) (xs : List Int) (w : World) (h : Row w v xs) : Calls Try.prog 74 #[v] w fun e w' => e = .returned (.int .i64 (orL xs)) ∧ w' = w := by
  have hx := h.len_le
  obtain ⟨a, cap, rfl, hl, hm, hc⟩ := h
  clear hl hm
  obtain ⟨r, HR⟩ : ∃ r, Hid (orL xs = r) := ⟨_, rfl⟩
  rw [HR.out]
  go_enter Try.func74, Try.ntmps74
  go_wp2
  go_loop [8] (fun i => ∃ k : Nat, k ≤ xs.length ∧ i = .int .i64 k ∧ Hid (orL (xs.take k) = 0)) (fun i => xs.length - (intOf i).toNat)
  case atStart => exact ⟨0, Nat.zero_le _, rfl, by simp [Hid, orL]⟩
  case round =>
    obtain ⟨k, hk, rfl, HA⟩ := hrel
    by_cases hlt : k < xs.length
    · obtain ⟨b, off, rfl, hcell⟩ := hc k hlt
      clear hc
      obtain ⟨y, HY⟩ : ∃ y, Hid (xs.getD k 0 = y) := ⟨_, rfl⟩
      rw [HY.out] at hcell
      by_cases hy : y = 0
      · have hy' : (y != 0) = false := by simp [hy]
        have HE := hide hy
        clear hy
        go_wp2
        go_round
        case rel => exact ⟨k + 1, by omega, by go_num, orL_skip HA.out hlt (by rw [HY.out]; exact HE.out)⟩
        case measure => simp [intOf]; omega
      · have hy' : (y != 0) = true := by simp [hy]
        have HE := hide hy
        clear hy
        go_wp2
        go_ret
        exact ⟨ret_int (by rw [← HR.out, ← HY.out]; exact (orL_stop HA.out hlt (by rw [HY.out]; exact HE.out)).symm), rfl⟩
    · have hkl : xs.take k = xs := List.take_of_length_le (by omega)
      rw [hkl] at HA
      go_wp2
      go_ret
      exact ⟨ret_int (by rw [← HR.out, HA.out]), rfl⟩

/-- A live as its five cells. -/
def encL (x : Live) : List Value := [.bool x.set, .int .i64 x.key, .int .i64 x.item, .int .i64 x.author, .int .i64 x.seq]
theorem encL_length (x : Live) : (encL x).length = 5 := rfl
def encT (t : Tal) : List Value := [.int .i64 t.key, .int .i64 t.author, .int .i64 t.sum]
theorem encT_length (t : Tal) : (encT t).length = 3 := rfl
def halfI (b : Bool) : Int := if b then 1 else 0
set_option maxRecDepth 100000 in
set_option maxHeartbeats 400000 in
theorem half_fn (x : Live) (w : World) : Calls Try.prog 76 #[.agg #[.bool x.set, .int .i64 x.key, .int .i64 x.item, .int .i64 x.author, .int .i64 x.seq]] w fun e w' => e = .returned (.int .i64 (halfI x.set)) ∧ Below w.heap.size w w' := by
  have hb := Below.plus (Below.refl w.heap.size w) (.cells #[.bool x.set, .int .i64 x.key, .int .i64 x.item, .int .i64 x.author, .int .i64 x.seq] 64)
  cases hs : x.set
  · rw [hs] at hb
    go_enter Try.func76, Try.ntmps76
    go_wp2
    go_ret
    exact ⟨rfl, hb⟩
  · rw [hs] at hb
    go_enter Try.func76, Try.ntmps76
    go_wp2
    go_ret
    exact ⟨rfl, hb⟩
end Go.Proofs.Ytkhhifkihpfdhaa
