/- state.Start for whatever number of authors; rows of zeros; small logs in one block. -/
import Derived.Test.YtfhecilhcofboaaGreatStL
import Derived.Test.YtfhecilhcofboaaGreatStJoin
namespace Go.Proofs.YtfhecilhcofboaaGreat
open Go.RowKit

theorem made_zero : ∀ k, k ≤ 6 → madeCells #[.int .i64 0] k = ((zeroC k).map (Value.int .i64)).toArray
 | 0, _ => by kernel_rfl
 | 1, _ => by kernel_rfl
 | 2, _ => by kernel_rfl
 | 3, _ => by kernel_rfl
 | 4, _ => by kernel_rfl
 | 5, _ => by kernel_rfl
 | 6, _ => by kernel_rfl
 | k + 7, h => by omega
theorem zeroC_length (k : Nat) : (zeroC k).length = k := by simp [zeroC]
theorem run_make_clock {k : Nat} (hk : k ≤ 6) (w : World) : (Instr.makeSlice 23 (.int .i64 k) (.int .i64 k)).run Tryz.prog w = .ok (.slice (some ⟨w.heap.size, 0, none⟩) k k) (w.alloc (.cells (madeCells #[.int .i64 0] k) 3)) :=
 run_make_row' 23 3 (.int .i64 0) 8 Tryz.underlying23 Tryz.infoInt rfl .i64 .i64 k (by omega) (by omega) w
theorem own_zero (w : World) (B : Nat) {k : Nat} (hk : k ≤ 6) (hB : B ≤ w.heap.size) : Own (w.alloc (.cells (madeCells #[.int .i64 0] k) 3)) B (.slice (some ⟨w.heap.size, 0, none⟩) k k) (zeroC k) := by
 have hn := heap_alloc_new w (.cells (madeCells #[.int .i64 0] k) 3)
 have h := own_of_block (w := w.alloc (.cells (madeCells #[.int .i64 0] k) 3)) (B := B) (g := w.heap.size) (xs := zeroC k) (by rw [hn, made_zero k hk]) hB (by rw [zeroC_length]; unfold maxLen; omega)
 rw [zeroC_length] at h
 exact h
set_option maxRecDepth 100000 in
set_option maxHeartbeats 1000000 in
theorem start_any {k : Nat} (hk : k ≤ 6) (w : World) : Calls Tryz.prog 22 #[.int .i64 k] w fun e w' => ∃ v, e = .returned v ∧ StOwn w' w.heap.size v ⟨zeroC k, [], []⟩ ∧ Below w.heap.size w w' := by
 have hmk := fun w : World => run_make_clock hk w
 obtain ⟨cs, HCS⟩ : ∃ cs, Hid (madeCells #[.int .i64 0] k = cs) := ⟨_, rfl⟩
 rw [HCS.out] at hmk
 go_enter Tryz.func22, Tryz.ntmps22
 go_wp2_with fail
 have hR := (Box.new w [.slice (some ⟨w.heap.size + 1, 0, none⟩) k k, .slice none 0 0, .slice none 0 0] 27).plus (.cells cs 3)
 refine bodyPost_ret (results_cell_row rfl _ _ w.heap.size 27 _ (0, 0) _ rfl hR Tryz.underlying27 rfl Tryz.sizeState) rfl ⟨_, rfl, ?_, Below.plus (bpl w _) _⟩
 refine ⟨_, _, _, rfl, ?_, World.ownsRow_nil _ _ _ _, World.ownsRow_nil _ _ _ _⟩
 have := own_zero (w.alloc (.cells #[.slice (some ⟨w.heap.size + 1, 0, none⟩) k k, .slice none 0 0, .slice none 0 0] 27)) w.heap.size hk (by simp)
 rw [HCS.out, World.size_alloc] at this
 exact this
theorem same_yesW (v u : Value) (xs : List Int) (w : World) (h : Row w v xs) (hu : Row w u xs) :
  Calls Tryz.prog 25 #[v, u] w fun e w' => e = .returned (.bool true) ∧ Below w.heap.size w w' := by
 have := same_ref v u xs xs w h hu
 rw [decide_eq_true rfl] at this
 exact this
theorem StOwn.formW {w : World} {B : Nat} {v : Value} {s : StS} (h : StOwn w B v s) : ∃ a1 c1 a2 c2 a3 c3, v = .agg #[.slice a1 s.clock.length c1, .slice a2 s.lives.length c2, .slice a3 s.tals.length c3] := by
 obtain ⟨cv, lv, tv, h1, h2, h3, h4⟩ := h
 obtain ⟨a1, c1, rfl, -⟩ := h2.row
 obtain ⟨a2, c2, rfl, -⟩ := slice_of_own encL_length h3
 obtain ⟨a3, c3, rfl, -⟩ := slice_of_own encT_length h4
 exact ⟨a1, c1, a2, c2, a3, c3, h1⟩
theorem clockE_iff {xs : List Int} {l : List Upd} {n : Int} : clockE xs l n = 0 ↔ wrongC xs n = 0 ∧ l.length ≤ 300 ∧ errL n xs l = 0 := by
 unfold clockE
 by_cases h1 : wrongC xs n = 0
 ·rw [if_neg (by simpa using h1)]
  by_cases h2 : 300 < l.length
  ·rw [if_pos h2]; omega
  rw [if_neg h2]
  constructor
  ·exact fun h => ⟨h1, by omega, h⟩
  exact fun h => h.2.2
 rw [if_pos h1]
 simp [h1]
theorem playE_iff {s : StS} {l : List Upd} : playE s l = 0 ↔ OkS s.clock.length s.clock s.lives s.tals ∧ l.length ≤ 300 ∧ errL s.clock.length s.clock l = 0 := by
 unfold playE
 by_cases h1 : stE s s.clock.length = 0
 ·rw [if_neg (by simpa using h1), clockE_iff]
  have hok := stE_ok.1 h1
  constructor
  ·exact fun h => ⟨hok, h.2.1, h.2.2⟩
  exact fun h => ⟨hok.clock, h.2.1, h.2.2⟩
 rw [if_pos h1]
 constructor
 ·exact fun h => absurd h h1
 exact fun h => absurd (stE_ok.2 h.1) h1
theorem errL_each {n : Int} : ∀ (l : List Upd) {c : List Int}, errL n c l = 0 → ∀ u ∈ l, wrongU u n = 0
 | [], _, _, u, hu => by simp at hu
 | x :: r, c, h, u, hu => by
  obtain ⟨h1, h2⟩ := errL_cons h
  rcases List.mem_cons.1 hu with rfl | hu
  ·unfold wrongL at h1
   split at h1
   ·next hw => exact hw
   exact h1
  exact errL_each r h2 u hu
end Go.Proofs.YtfhecilhcofboaaGreat
