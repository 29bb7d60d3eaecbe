/- slices.Delete of one update out of a row of the call's own. -/
import Derived.Test.YtkhhifkihpfdhaaGreatLogD
import Derived.Deep.RegionLaw
namespace Go.Proofs.YtkhhifkihpfdhaaGreat
open Go.RowKit

theorem cellsP_append (a b : List (Upd × Value)) : cellsP (a ++ b) = cellsP a ++ cellsP b := by simp [cellsP]
theorem cellsP_take (ps : List (Upd × Value)) (k : Nat) : (cellsP ps).take (k * 5) = cellsP (ps.take k) := by
  by_cases hk : k ≤ ps.length
  · have e : cellsP ps = cellsP (ps.take k) ++ cellsP (ps.drop k) := by rw [← cellsP_append, List.take_append_drop]
    rw [e, List.take_left' (by rw [cellsP_length, List.length_take, Nat.min_eq_left hk])]
  · rw [List.take_of_length_le (by rw [cellsP_length]; omega), List.take_of_length_le (by omega)]
theorem cellsP_drop (ps : List (Upd × Value)) (k : Nat) : (cellsP ps).drop (k * 5) = cellsP (ps.drop k) := by
  by_cases hk : k ≤ ps.length
  · have e : cellsP ps = cellsP (ps.take k) ++ cellsP (ps.drop k) := by rw [← cellsP_append, List.take_append_drop]
    rw [e, List.drop_left' (by rw [cellsP_length, List.length_take, Nat.min_eq_left hk])]
  · rw [List.drop_of_length_le (by rw [cellsP_length]; omega), List.drop_of_length_le (by omega)]; rfl

/-- A block that holds these updates first. -/
def Holds (w : World) (g cap : Nat) (ps : List (Upd × Value)) : Prop := ∃ cur : Array Value, w.heap[g]? = some (.cells cur 52 (0, 0)) ∧ cur.size = cap * 5 ∧ cur.toList.take (ps.length * 5) = cellsP ps
theorem Holds.cell {w : World} {g cap : Nat} {ps : List (Upd × Value)} (h : Holds w g cap ps) {j : Nat} (hj : j < ps.length * 5) : w.cell? ⟨g, j, none⟩ = (cellsP ps)[j]? := by
  obtain ⟨cur, h1, h2, h3⟩ := h
  rw [← h3, List.getElem?_take_of_lt hj]
  simp [World.cell?, h1]
theorem Holds.room {w : World} {g cap : Nat} {ps : List (Upd × Value)} (h : Holds w g cap ps) {j : Nat} (hj : j < cap * 5) : (w.cell? ⟨g, j, none⟩).isSome = true ∧ w.frozen? ⟨g, j, none⟩ = false := by
  obtain ⟨cur, h1, h2, h3⟩ := h
  constructor
  · simp [World.cell?, h1, h2, hj]
  · simp [World.frozen?, h1]
theorem Holds.put {w : World} {g cap o : Nat} {ps : List (Upd × Value)} (h : Holds w g cap ps) (news : List Value) (qs : List (Upd × Value)) (hfit : o + news.length ≤ cap * 5) (hq : (cellsP ps).take o ++ news = cellsP qs) (ho : o ≤ ps.length * 5) : Holds (w.setCells g o news) g cap qs ∧ w.grownBy (w.setCells g o news) (some g) := by
  obtain ⟨cur, h1, h2, h3⟩ := h
  obtain ⟨⟨cur', k1, k2, k3⟩, k4⟩ := row_setCells g 52 news o w cur h1 (by rw [h2]; exact hfit)
  refine ⟨⟨cur', k1, by rw [k2, h2], ?_⟩, k4⟩
  have hl : qs.length * 5 = o + news.length := by
    have := congrArg List.length hq
    rw [List.length_append, List.length_take, cellsP_length, cellsP_length] at this
    omega
  rw [hl, k3, ← hq, ← h3, List.take_take, Nat.min_eq_left ho]

theorem Holds.less {w : World} {g cap : Nat} {ps : List (Upd × Value)} {p : Upd × Value} (h : Holds w g cap (ps ++ [p])) : Holds w g cap ps := by
  obtain ⟨cur, h1, h2, h3⟩ := h
  refine ⟨cur, h1, h2, ?_⟩
  have := congrArg (List.take (ps.length * 5)) h3
  rw [List.take_take, Nat.min_eq_left (by simp; omega), cellsP_append, List.take_left' (cellsP_length ps)] at this
  exact this
theorem clear_one (w : World) (g o c : Nat) (hc : ∀ j, j < 5 → (w.cell? ⟨g, o + j, none⟩).isSome = true) (hf : ∀ j, j < 5 → w.frozen? ⟨g, o + j, none⟩ = false) :
    (Builtin.clear_ #[22] 0 #[.slice (some ⟨g, o, none⟩) 1 c]).run Tryz.prog w = .ok (.tuple #[]) (w.setCells g o [.int .i64 0, .slice none 0 0, .int .i64 0, .int .i64 0, .int .i64 0]) := by
  obtain ⟨i0, hi0, hz0, hz1, hz2⟩ := info_parts Tryz.infoUpd
  have hst := run_storeCells_cells (P := Tryz.prog) g o [.int .i64 0, .slice none 0 0, .int .i64 0, .int .i64 0, .int .i64 0] 0 w (by simpa using hc) (by simpa using hf) (by intro v hv; simp at hv; rcases hv with rfl | rfl | rfl <;> rfl)
  simp only [Nat.add_zero] at hst
  have hzc : (Builtin.zeroCells (Value.agg #[.int .i64 0, .slice none 0 0, .int .i64 0, .int .i64 0, .int .i64 0]).cells 1).toList = [.int .i64 0, .slice none 0 0, .int .i64 0, .int .i64 0, .int .i64 0] := by kernel_rfl
  simp [Builtin.clear_, run_underlying Tryz.underlying22, zeroValue, typeInfo, hi0, hz0, hzc, hst]

end Go.Proofs.YtkhhifkihpfdhaaGreat
