/- slices.Clone of a log: a row of the call's own, with the same updates. -/
import Derived.Test.YtfhecilhcofboaaGreatLogC
import Derived.Test.YtfhecilhcofboaaGreatGrow
import Derived.Deep.RegionLaw
namespace Go.Proofs.YtfhecilhcofboaaGreat
open Go.RowKit

end Go.Proofs.YtfhecilhcofboaaGreat
/- slices.Delete of one update out of a row of the call's own. -/
namespace Go.Proofs.YtfhecilhcofboaaGreat
open Go.RowKit

theorem cellsP_append (a b : List (Upd × Value)) : cellsP (a ++ b) = cellsP a ++ cellsP b := by simp [cellsP]
def Holds (w : World) (g cap : Nat) (ps : List (Upd × Value)) : Prop := ∃ cur : Array Value, w.heap[g]? = some (.cells cur 33 (0, 0)) ∧ cur.size = cap * 5 ∧ cur.toList.take (ps.length * 5) = cellsP ps
theorem Holds.cell {w : World} {g cap : Nat} {ps : List (Upd × Value)} (h : Holds w g cap ps) {j : Nat} (hj : j < ps.length * 5) : w.cell? ⟨g, j, none⟩ = (cellsP ps)[j]? := by
 obtain ⟨cur, h1, h2, h3⟩ := h
 rw [← h3, List.getElem?_take_of_lt hj]
 simp [World.cell?, h1]
theorem Holds.room {w : World} {g cap : Nat} {ps : List (Upd × Value)} (h : Holds w g cap ps) {j : Nat} (hj : j < cap * 5) : (w.cell? ⟨g, j, none⟩).isSome = true ∧ w.frozen? ⟨g, j, none⟩ = false := by
 obtain ⟨cur, h1, h2, h3⟩ := h
 constructor
 ·simp [World.cell?, h1, h2, hj]
 simp [World.frozen?, h1]
theorem Holds.put {w : World} {g cap o : Nat} {ps : List (Upd × Value)} (h : Holds w g cap ps) (news : List Value) (qs : List (Upd × Value)) (hfit : o + news.length ≤ cap * 5) (hq : (cellsP ps).take o ++ news = cellsP qs) (ho : o ≤ ps.length * 5) : Holds (w.setCells g o news) g cap qs ∧ w.grownBy (w.setCells g o news) (some g) := by
 obtain ⟨cur, h1, h2, h3⟩ := h
 obtain ⟨⟨cur', k1, k2, k3⟩, k4⟩ := row_setCells g 33 news o w cur h1 (by rw [h2]; exact hfit)
 refine ⟨⟨cur', k1, by rw [k2, h2], ?_⟩, k4⟩
 have hl : qs.length * 5 = o + news.length := by
  have := congrArg List.length hq
  rw [List.length_append, List.length_take, cellsP_length, cellsP_length] at this
  omega
 rw [hl, k3, ← hq, ← h3, List.take_take, Nat.min_eq_left ho]

theorem Holds.less {w : World} {g cap : Nat} {ps : List (Upd × Value)} {p : Upd × Value} (h : Holds w g cap (ps ++ [p])) : Holds w g cap ps := by
 obtain ⟨cur, h1, h2, h3⟩ := h
 refine ⟨cur, h1, h2, ?_⟩
 have := congrArg (List.take (ps.length * 5)) h3
 rw [List.take_take, Nat.min_eq_left (by simp; omega), cellsP_append, List.take_left' (cellsP_length ps)] at this
 exact this
end Go.Proofs.YtfhecilhcofboaaGreat
