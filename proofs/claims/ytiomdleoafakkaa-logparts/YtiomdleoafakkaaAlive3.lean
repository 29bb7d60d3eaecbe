/- The closed fact that the statements of the third chapter ask first is true. -/
import Derived.Test.YtiomdleoafakkaaHeads
namespace Go.Proofs.Ytiomdleoafakkaa
open Go.RowKit

set_option maxRecDepth 100000 in
set_option maxHeartbeats 1000000 in
theorem up_fn (i : Int) (v : Value) (xs : List Int) (w : World) (h : Row w v xs) :
    Calls Try.prog 64 #[.int .i64 i, v] w fun e w' => e = .returned (.agg #[.int .i64 i, v, .int .i64 5, .int .i64 1, .int .i64 1]) ∧ Below w.heap.size w w' := by
  obtain ⟨a, cap, rfl, -, -, -⟩ := id h
  clear h
  go_enter Try.func64, Try.ntmps64
  go_wp2_with fail
  refine bodyPost_ret (results_cell_row rfl _ _ w.heap.size 38 _ (0, 0) _ rfl (Box.new w [.int .i64 i, .slice a xs.length cap, .int .i64 5, .int .i64 1, .int .i64 1] 38) Try.underlying38 rfl Try.sizeUpd) rfl ⟨rfl, Below.plus (Below.refl w.heap.size w) _⟩

theorem log_box {w : World} {g : Nat} {ps : List (Upd × Value)} (h : Box w g (cellsP ps) 38) (hr : ∀ p ∈ ps, Row w p.2 p.1.seen) (hm : ps.length ≤ 1000) : LogV w (.slice (some ⟨g, 0, none⟩) ps.length ps.length) (ps.map (·.1)) := by
  refine OwnP.log (R := Row w) (B := 0) ⟨⟨cellsP_length ps, .inr ⟨g, ps.length, _, rfl, Nat.zero_le _, h, Nat.le_refl _, by unfold maxLen; omega, ?_, ?_⟩⟩, hr⟩ fun _ _ h => h
  · simp [cellsP_length]
  · exact List.take_of_length_le (by simp [cellsP_length])

theorem row_two (w : World) (p q : Int) : Row (w.alloc (.cells #[.int .i64 p, .int .i64 q] 3)) (.slice (some ⟨w.heap.size, 0, none⟩) 2 2) [p, q] := by
  refine ⟨_, 2, rfl, by simp, by unfold maxLen; omega, fun i hi => ⟨_, _, rfl, ?_⟩⟩
  match i, hi with
  | 0, _ => simp
  | 1, _ => simp
theorem same_yes (v u : Value) (xs ys : List Int) (w : World) (h : Row w v xs) (hu : Row w u ys) (he : xs = ys) :
    Calls Try.prog 16 #[v, u] w fun e w' => e = .returned (.bool true) ∧ Below w.heap.size w w' := by
  have := same_ref v u xs ys w h hu
  rw [decide_eq_true he] at this
  exact this

def u0 : Upd := ⟨0, [0, 0], 5, 1, 1⟩
def u1 : Upd := ⟨1, [0, 0], 5, 1, 1⟩
def u2 : Upd := ⟨0, [1, 1], 5, 1, 1⟩
theorem alive_clock : clockE [0, 0] [u0, u1, u2] 2 = 0 ∧ clockA [0, 0] [u0, u1, u2] 2 = 0 ∧ clockX [0, 0] [u0, u1, u2] 2 = [2, 1] := by decide +kernel
theorem alive_lacks : lacksL [u0, u1, u2] [1, 0] = [u1, u2] := by kernel_rfl
theorem alive_small : ∀ u ∈ [u0, u1, u2], Small u := by
  intro u hu
  simp only [List.mem_cons, List.not_mem_nil, or_false] at hu
  rcases hu with rfl | rfl | rfl <;> exact ⟨by unfold FitU; decide +kernel, by decide⟩

/-- outF without the values. -/
def outP (pre : List (Nat × Upd)) : List Int × List Int :=
  pre.foldl (fun s x => (if seenU x.2 s.2 then s.1 else s.1 ++ [(x.1 : Int)], raiseC s.2 x.2.seen)) ([], [])
theorem outF_eq {w : World} (pre : List (Item w)) : outF pre = outP (pre.map fun x => (x.1.1, x.1.2.1)) := by
  unfold outF outP
  rw [List.foldl_map]
theorem alive_heads : (outP [(2, u2), (1, u1), (0, u0)]).1 = [2] := by decide +kernel

/-- The three updates, by their places. -/
def fAl {w : World} (s0 s1 s2 : Value) (h0 : Row w s0 [0, 0]) (h1 : Row w s1 [0, 0]) (h2 : Row w s2 [1, 1]) : Nat → Item w
  | 0 => ⟨(0, u0, s0), h0, alive_small _ (by simp)⟩
  | 1 => ⟨(1, u1, s1), h1, alive_small _ (by simp)⟩
  | _ => ⟨(2, u2, s2), h2, alive_small _ (by simp)⟩
theorem fAl_out {w : World} (s0 s1 s2 : Value) (h0 : Row w s0 [0, 0]) (h1 : Row w s1 [0, 0]) (h2 : Row w s2 [1, 1]) : (outF (down (fAl s0 s1 s2 h0 h1 h2) 3 0)).1 = [2] := by
  rw [outF_eq]; exact alive_heads

theorem heads_alive (g : Nat) (s0 s1 s2 : Value) (w : World) (h0 : Row w s0 [0, 0]) (h1 : Row w s1 [0, 0]) (h2 : Row w s2 [1, 1]) (hb : Box w g (cellsP [(u0, s0), (u1, s1), (u2, s2)]) 38) :
    Calls Try.prog 65 #[.slice (some ⟨g, 0, none⟩) 3 3] w fun e w' => ∃ r, e = .returned r ∧ Row w' r [2] ∧ Below w.heap.size w w' := by
  have hl := log_box hb (by intro p hp; simp at hp; rcases hp with rfl | rfl | rfl <;> assumption) (by simp)
  refine heads_log g 0 3 [u0, u1, u2] w (fAl s0 s1 s2 h0 h1 h2) hl hb.lt (by simp) (fun j hj => ?_) 2 (fAl_out s0 s1 s2 h0 h1 h2)
  match j, hj with
  | 0, _ => exact ⟨rfl, rfl, hb.get 1 rfl⟩
  | 1, _ => exact ⟨rfl, rfl, hb.get 6 rfl⟩
  | 2, _ => exact ⟨rfl, rfl, hb.get 11 rfl⟩

end Go.Proofs.Ytiomdleoafakkaa
