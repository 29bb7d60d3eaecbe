/- slices.Clone of a log: a row of the call's own, with the same updates. -/
import Derived.Test.YtalglngjafkdjaaLogC
import Derived.Test.YtalglngjafkdjaaGrow
import Derived.Deep.RegionLaw
namespace Go.Proofs.Ytalglngjafkdjaa
open Go.RowKit

theorem addr_addC (b off j : Nat) : (⟨b, off, none⟩ : Addr).add j = ⟨b, off + j, none⟩ := by
  simp only [Addr.add]
  split
  · next e => rw [e]; rfl
  · rfl
/-- The cells of a log, one behind the other. -/
theorem LogV.pairs {w : World} {b off m c : Nat} {l : List Upd} (h : LogV w (.slice (some ⟨b, off, none⟩) m c) l) :
    ∃ ps : List (Upd × Value), ps.map (·.1) = l ∧ (∀ p ∈ ps, Row w p.2 p.1.seen) ∧ ∀ j x, (cellsP ps)[j]? = some x → w.cell? ((⟨b, off, none⟩ : Addr).add j) = some x := by
  suffices hs : ∀ k, k ≤ l.length → ∃ ps : List (Upd × Value), ps.map (·.1) = l.take k ∧ (∀ p ∈ ps, Row w p.2 p.1.seen) ∧ ∀ j x, (cellsP ps)[j]? = some x → w.cell? ((⟨b, off, none⟩ : Addr).add j) = some x by
    obtain ⟨ps, h1, h2, h3⟩ := hs l.length (Nat.le_refl _)
    exact ⟨ps, by rw [h1, List.take_length], h2, h3⟩
  intro k
  induction k with
  | zero => intro _; exact ⟨[], rfl, fun p hp => by simp at hp, fun j x hj => by simp [cellsP] at hj⟩
  | succ k ih =>
    intro hk
    obtain ⟨ps, h1, h2, h3⟩ := ih (by omega)
    obtain ⟨u, hu⟩ : ∃ u, l[k]? = some u := ⟨_, List.getElem?_eq_getElem (by omega)⟩
    obtain ⟨b', off', a5, cap5, e, d0, d1, d2, d3, d4, hrow, -⟩ := h.at hu
    simp only [Option.some.injEq, Addr.mk.injEq, and_true] at e
    obtain ⟨rfl, rfl⟩ := e
    have hpl : ps.length = k := by have := congrArg List.length h1; simp at this; omega
    refine ⟨ps ++ [(u, .slice a5 u.seen.length cap5)], by rw [List.map_append, h1, take_one hu]; rfl, fun p hp => ?_, fun j x hj => ?_⟩
    · rcases List.mem_append.1 hp with hp | hp
      · exact h2 p hp
      · simp at hp; subst hp; exact hrow
    · rw [cellsP_snoc] at hj
      rcases Nat.lt_or_ge j (cellsP ps).length with hlt | hge
      · rw [List.getElem?_append_left hlt] at hj
        exact h3 j x hj
      · rw [List.getElem?_append_right hge] at hj
        rw [cellsP_length, hpl] at hj hge
        obtain ⟨q, rfl⟩ : ∃ q, j = k * 5 + q := ⟨j - k * 5, by omega⟩
        rw [Nat.add_sub_cancel_left] at hj
        rw [addr_addC, ← Nat.add_assoc]
        match q, hj with
        | 0, hj => simp [cellsU] at hj; subst hj; exact d0
        | 1, hj => simp [cellsU] at hj; subst hj; exact d1
        | 2, hj => simp [cellsU] at hj; subst hj; exact d2
        | 3, hj => simp [cellsU] at hj; subst hj; exact d3
        | 4, hj => simp [cellsU] at hj; subst hj; exact d4
        | q + 5, hj => simp [cellsU] at hj

theorem ones_of {w : World} {ps : List (Upd × Value)} (h : ∀ p ∈ ps, Row w p.2 p.1.seen) : ∀ u ∈ cellsP ps, u.oneCell' = true := by
  intro u hu
  obtain ⟨q, hq, hu⟩ := List.mem_flatMap.1 hu
  exact cellsU_one (h q hq).one u hu

end Go.Proofs.Ytalglngjafkdjaa
/- slices.Delete of one update out of a row of the call's own. -/
namespace Go.Proofs.Ytalglngjafkdjaa
open Go.RowKit

theorem cellsP_append (a b : List (Upd × Value)) : cellsP (a ++ b) = cellsP a ++ cellsP b := by simp [cellsP]
theorem cellsP_take (ps : List (Upd × Value)) (k : Nat) : (cellsP ps).take (k * 5) = cellsP (ps.take k) := by
  by_cases hk : k ≤ ps.length
  · have e : cellsP ps = cellsP (ps.take k) ++ cellsP (ps.drop k) := by rw [← cellsP_append, List.take_append_drop]
    rw [e, List.take_left' (by rw [cellsP_length, List.length_take, Nat.min_eq_left hk])]
  · rw [List.take_of_length_le (by rw [cellsP_length]; omega), List.take_of_length_le (by omega)]
theorem cellsP_drop (ps : List (Upd × Value)) (k : Nat) : (cellsP ps).drop (k * 5) = cellsP (ps.drop k) := by
  by_cases hk : k ≤ ps.length
  · have e : cellsP ps = cellsP (ps.take k) ++ cellsP (ps.drop k) := by rw [← cellsP_append, List.take_append_drop]
    rw [e, List.drop_left' (by rw [cellsP_length, List.length_take, Nat.min_eq_left hk])]
  · rw [List.drop_of_length_le (by rw [cellsP_length]; omega), List.drop_of_length_le (by omega)]; rfl

/-- A block that holds these updates first. -/
def Holds (w : World) (g cap : Nat) (ps : List (Upd × Value)) : Prop := ∃ cur : Array Value, w.heap[g]? = some (.cells cur 47 (0, 0)) ∧ cur.size = cap * 5 ∧ cur.toList.take (ps.length * 5) = cellsP ps
theorem Holds.cell {w : World} {g cap : Nat} {ps : List (Upd × Value)} (h : Holds w g cap ps) {j : Nat} (hj : j < ps.length * 5) : w.cell? ⟨g, j, none⟩ = (cellsP ps)[j]? := by
  obtain ⟨cur, h1, h2, h3⟩ := h
  rw [← h3, List.getElem?_take_of_lt hj]
  simp [World.cell?, h1]
theorem Holds.room {w : World} {g cap : Nat} {ps : List (Upd × Value)} (h : Holds w g cap ps) {j : Nat} (hj : j < cap * 5) : (w.cell? ⟨g, j, none⟩).isSome = true ∧ w.frozen? ⟨g, j, none⟩ = false := by
  obtain ⟨cur, h1, h2, h3⟩ := h
  constructor
  · simp [World.cell?, h1, h2, hj]
  · simp [World.frozen?, h1]
theorem Holds.put {w : World} {g cap o : Nat} {ps : List (Upd × Value)} (h : Holds w g cap ps) (news : List Value) (qs : List (Upd × Value)) (hfit : o + news.length ≤ cap * 5) (hq : (cellsP ps).take o ++ news = cellsP qs) (ho : o ≤ ps.length * 5) : Holds (w.setCells g o news) g cap qs ∧ w.grownBy (w.setCells g o news) (some g) := by
  obtain ⟨cur, h1, h2, h3⟩ := h
  obtain ⟨⟨cur', k1, k2, k3⟩, k4⟩ := row_setCells g 47 news o w cur h1 (by rw [h2]; exact hfit)
  refine ⟨⟨cur', k1, by rw [k2, h2], ?_⟩, k4⟩
  have hl : qs.length * 5 = o + news.length := by
    have := congrArg List.length hq
    rw [List.length_append, List.length_take, cellsP_length, cellsP_length] at this
    omega
  rw [hl, k3, ← hq, ← h3, List.take_take, Nat.min_eq_left ho]

theorem Holds.less {w : World} {g cap : Nat} {ps : List (Upd × Value)} {p : Upd × Value} (h : Holds w g cap (ps ++ [p])) : Holds w g cap ps := by
  obtain ⟨cur, h1, h2, h3⟩ := h
  refine ⟨cur, h1, h2, ?_⟩
  have := congrArg (List.take (ps.length * 5)) h3
  rw [List.take_take, Nat.min_eq_left (by simp; omega), cellsP_append, List.take_left' (cellsP_length ps)] at this
  exact this
theorem clear_one (w : World) (g o c : Nat) (hc : ∀ j, j < 5 → (w.cell? ⟨g, o + j, none⟩).isSome = true) (hf : ∀ j, j < 5 → w.frozen? ⟨g, o + j, none⟩ = false) :
    (Builtin.clear_ #[28] 0 #[.slice (some ⟨g, o, none⟩) 1 c]).run Try.prog w = .ok (.tuple #[]) (w.setCells g o [.int .i64 0, .slice none 0 0, .int .i64 0, .int .i64 0, .int .i64 0]) := by
  obtain ⟨i0, hi0, hz0, hz1, hz2⟩ := info_parts Try.infoUpd
  have hst := run_storeCells_cells (P := Try.prog) g o [.int .i64 0, .slice none 0 0, .int .i64 0, .int .i64 0, .int .i64 0] 0 w (by simpa using hc) (by simpa using hf) (by intro v hv; simp at hv; rcases hv with rfl | rfl | rfl <;> rfl)
  simp only [Nat.add_zero] at hst
  have hzc : (Builtin.zeroCells (Value.agg #[.int .i64 0, .slice none 0 0, .int .i64 0, .int .i64 0, .int .i64 0]).cells 1).toList = [.int .i64 0, .slice none 0 0, .int .i64 0, .int .i64 0, .int .i64 0] := by kernel_rfl
  simp [Builtin.clear_, run_underlying Try.underlying28, zeroValue, typeInfo, hi0, hz0, hzc, hst]

end Go.Proofs.Ytalglngjafkdjaa
