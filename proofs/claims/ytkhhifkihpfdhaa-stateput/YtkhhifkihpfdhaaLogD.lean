/- log.keep and log.Lacks: those updates of a log that a clock has not seen. -/
import Derived.Test.YtkhhifkihpfdhaaLogC
namespace Go.Proofs.Ytkhhifkihpfdhaa
open Go.RowKit

theorem or_map {a b c d : Prop} (h : a ∨ b) (f : a → c) (g : b → d) : c ∨ d := by
  rcases h with h | h
  · exact .inl (f h)
  · exact .inr (g h)
/-- Those that a clock lacks. -/
def lacksL (l : List Upd) (xs : List Int) : List Upd := l.filter fun u => !seenU u xs
theorem lacksL_take {l : List Upd} {k : Nat} {u : Upd} (xs : List Int) (h : l[k]? = some u) : lacksL (l.take (k + 1)) xs = if seenU u xs then lacksL (l.take k) xs else lacksL (l.take k) xs ++ [u] := by
  unfold lacksL
  rw [take_one h, List.filter_append]
  cases hs : seenU u xs <;> simp [hs]
/-- An update that is small enough to be copied, and whose author is one of its own. -/
def Small (u : Upd) : Prop := FitU u ∧ u.seen.length ≤ 6
theorem small_of {u : Upd} {n : Int} (h : wrongU u n = 0) : Small u := by
  obtain ⟨hcc, -⟩ := wrongU_right h
  have := wrongC_ok hcc
  exact ⟨fitU_of h, by omega⟩

/-- The read of update k of a log. -/
theorem LogV.at {w : World} {a : Option Addr} {m c : Nat} {l : List Upd} (h : LogV w (.slice a m c) l) {k : Nat} {u : Upd} (hu : l[k]? = some u) :
    ∃ b off a5 cap5, a = some ⟨b, off, none⟩ ∧ w.cell? ⟨b, off + k * 5, none⟩ = some (.int .i64 u.author) ∧ w.cell? ⟨b, off + k * 5 + 1, none⟩ = some (.slice a5 u.seen.length cap5) ∧ w.cell? ⟨b, off + k * 5 + 2, none⟩ = some (.int .i64 u.kind) ∧ w.cell? ⟨b, off + k * 5 + 3, none⟩ = some (.int .i64 u.key) ∧ w.cell? ⟨b, off + k * 5 + 4, none⟩ = some (.int .i64 u.item) ∧
      Row w (.slice a5 u.seen.length cap5) u.seen ∧ IsUpd w (.agg #[.int .i64 u.author, .slice a5 u.seen.length cap5, .int .i64 u.kind, .int .i64 u.key, .int .i64 u.item]) u := by
  obtain ⟨c1, c2, hv, hc2, hc3, hcell⟩ := h
  obtain ⟨b, off, rfl, sv, hsv, d0, d1, d2, d3, d4⟩ := hcell k u hu
  obtain ⟨a5, cap5, rfl, -, -, -⟩ := id hsv
  simp only [Value.slice.injEq] at hv
  obtain ⟨rfl, -, rfl⟩ := hv
  exact ⟨b, off, a5, cap5, rfl, d0, d1, d2, d3, d4, hsv, _, rfl, hsv⟩

theorem Row.one {w : World} {v : Value} {xs : List Int} (h : Row w v xs) : v.oneCell' = true := by
  obtain ⟨a, cap, rfl, -⟩ := h
  rfl
theorem cellsU_one {u : Upd} {sv : Value} (h : sv.oneCell' = true) : ∀ q ∈ cellsU u sv, q.oneCell' = true := by
  intro q hq
  simp only [cellsU, List.mem_cons, List.not_mem_nil, or_false] at hq
  rcases hq with rfl | rfl | rfl | rfl | rfl
  · rfl
  · exact h
  · rfl
  · rfl
  · rfl
/-- A row of updates of the call's own, their Seen too. -/
def LogO (w : World) (B : Nat) (v : Value) (ps : List (Upd × Value)) : Prop := OwnP (Own w B) w B v ps
theorem LogO.below {w w' : World} {B C : Nat} {v : Value} {ps : List (Upd × Value)} (h : LogO w B v ps) (hb : Below C w w') (hC : w.heap.size ≤ C) : LogO w' B v ps :=
  ⟨ownsRow_below h.1 hb hC, fun p hp => (h.2 p hp).below hb hC⟩
theorem LogO.alloc {w : World} {B : Nat} {v : Value} {ps : List (Upd × Value)} (h : LogO w B v ps) (o : Obj) : LogO (w.alloc o) B v ps := h.below ((Below.refl w.heap.size _).alloc (Nat.le_refl _) o) (Nat.le_refl _)
theorem LogO.log {w : World} {B : Nat} {v : Value} {ps : List (Upd × Value)} (h : LogO w B v ps) : LogV w v (ps.map (·.1)) := OwnP.log h fun _ _ h => h.row
theorem LogO.more {w w' : World} {B : Nat} {v v' sv : Value} {ps : List (Upd × Value)} {u : Upd} (h : LogO w B v ps) (hs : Own w B sv u.seen) (ho : w'.ownsRow B 47 5 v' (ps.length + 1) (cellsP ps ++ cellsU u sv)) (hg : w.grownBy w' v.ownBlock) : LogO w' B v' (ps ++ [(u, sv)]) := by
  refine ⟨by rw [cellsP_snoc]; simpa using ho, fun p hp => ?_⟩
  rcases List.mem_append.1 hp with hp | hp
  · exact (h.2 p hp).grown h.1 hg
  · simp at hp; subst hp; exact hs.grown h.1 hg

end Go.Proofs.Ytkhhifkihpfdhaa
