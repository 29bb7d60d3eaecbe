/- Updates in a row of the call's own; update.Copy; log.Lacks. -/
import Derived.Test.YtalglngjafkdjaaLogA
import Derived.Test.YtalglngjafkdjaaGrow
namespace Go.Proofs.Ytalglngjafkdjaa
open Go.RowKit

theorem Try.infoUpd : (Try.prog.info? 47).map (fun i => (i.zero, i.size, i.bytes)) = some (some (.agg #[.int .i64 0, .slice none 0 0, .int .i64 0, .int .i64 0, .int .i64 0]), 5, 56) := by kernel_rfl
theorem Try.sizeUpd : (Try.prog.info? 47).map (·.size) = some 5 := by kernel_rfl

/-- The five cells of an update whose Seen is the value sv. -/
def cellsU (u : Upd) (sv : Value) : List Value := [.int .i64 u.author, sv, .int .i64 u.kind, .int .i64 u.key, .int .i64 u.item]
def cellsP (ps : List (Upd × Value)) : List Value := ps.flatMap fun p => cellsU p.1 p.2
theorem cellsP_length (ps : List (Upd × Value)) : (cellsP ps).length = ps.length * 5 := by
  induction ps with
  | nil => rfl
  | cons p r ih => simp only [cellsP, List.flatMap_cons, List.length_append] at ih ⊢; rw [ih]; simp [cellsU]; omega
theorem cellsP_snoc (ps : List (Upd × Value)) (u : Upd) (sv : Value) : cellsP (ps ++ [(u, sv)]) = cellsP ps ++ cellsU u sv := by simp [cellsP]
theorem cellsP_get : ∀ (ps : List (Upd × Value)) (i j : Nat) (p : Upd × Value), ps[i]? = some p → j < 5 → (cellsP ps)[i * 5 + j]? = (cellsU p.1 p.2)[j]?
  | [], i, _, _, h, _ => by simp at h
  | q :: r, 0, j, p, h, hj => by
    simp at h
    subst h
    simp only [cellsP, List.flatMap_cons, Nat.zero_mul, Nat.zero_add]
    rw [List.getElem?_append_left (by simp [cellsU]; exact hj)]
  | q :: r, i + 1, j, p, h, hj => by
    have ih := cellsP_get r i j p (by simpa using h) hj
    simp only [cellsP, List.flatMap_cons] at ih ⊢
    rw [List.getElem?_append_right (by simp [cellsU]; omega)]
    rw [← ih]
    congr 1
    simp [cellsU]; omega

/-- The slice value v owns, from block B on, a row of these updates, whose Seen lie as R says. -/
def OwnP (R : Value → List Int → Prop) (w : World) (B : Nat) (v : Value) (ps : List (Upd × Value)) : Prop :=
  w.ownsRow B 47 5 v ps.length (cellsP ps) ∧ ∀ p ∈ ps, R p.2 p.1.seen

theorem ownsRow_below {w w' : World} {B C : Nat} {e : TypeId} {size n : Nat} {v : Value} {xs : List Value} (h : w.ownsRow B e size v n xs) (hb : Below C w w') (hC : w.heap.size ≤ C) : w'.ownsRow B e size v n xs := by
  refine ⟨h.1, ?_⟩
  rcases h.2 with h1 | ⟨g, cap, cur, hv, hg, hh, r⟩
  · exact Or.inl h1
  · exact Or.inr ⟨g, cap, cur, hv, hg, by rw [hb.block g (Nat.lt_of_lt_of_le (lt_of_block hh) hC)]; exact hh, r⟩
theorem OwnP.mono {R R' : Value → List Int → Prop} {w : World} {B : Nat} {v : Value} {ps : List (Upd × Value)} (h : OwnP R w B v ps) (hR : ∀ sv xs, R sv xs → R' sv xs) : OwnP R' w B v ps := ⟨h.1, fun p hp => hR _ _ (h.2 p hp)⟩
theorem OwnP.step {R : Value → List Int → Prop} {w w' : World} {B C : Nat} {v : Value} {ps : List (Upd × Value)} (h : OwnP R w B v ps) (hb : Below C w w') (hC : w.heap.size ≤ C) : OwnP R w' B v ps := ⟨ownsRow_below h.1 hb hC, h.2⟩

theorem OwnP.log {R : Value → List Int → Prop} {w : World} {B : Nat} {v : Value} {ps : List (Upd × Value)} (h : OwnP R w B v ps) (hR : ∀ sv xs, R sv xs → Row w sv xs) : LogV w v (ps.map (·.1)) := by
  obtain ⟨h, hs⟩ := h
  have hx := h.1
  rcases h.2 with ⟨rfl, h0⟩ | ⟨g, cap, cur, rfl, hg, hh, h1, h2, h3, h4⟩
  · have : ps = [] := List.eq_nil_of_length_eq_zero h0
    subst this
    exact LogV.nil _
  · refine ⟨some ⟨g, 0, none⟩, cap, by simp, by simpa using h1, h2, fun i u hi => ⟨g, 0, rfl, ?_⟩⟩
    simp only [List.getElem?_map, Option.map_eq_some_iff] at hi
    obtain ⟨p, hp, rfl⟩ := hi
    have hil : i < ps.length := (List.getElem?_eq_some_iff.1 hp).1
    have cell : ∀ j, j < 5 → w.cell? ⟨g, 0 + i * 5 + j, none⟩ = (cellsU p.1 p.2)[j]? := by
      intro j hj
      rw [Nat.zero_add, ← cellsP_get ps i j p hp hj, ← h4]
      have : i * 5 + j < ps.length * 5 := by omega
      rw [List.getElem?_take_of_lt this]
      simp [World.cell?, hh]
    exact ⟨p.2, hR _ _ (hs p (List.mem_of_getElem? hp)), cell 0 (by omega), cell 1 (by omega), cell 2 (by omega), cell 3 (by omega), cell 4 (by omega)⟩

/-- A row of numbers of the call's own is no row of updates: what grows there leaves it. -/
theorem Own.grown {w w' : World} {B C n : Nat} {sv v : Value} {xs : List Int} {cs : List Value} (h : Own w B sv xs) (hr : w.ownsRow C 47 5 v n cs) (hg : w.grownBy w' v.ownBlock) : Own w' B sv xs := by
  refine ⟨h.1, ?_⟩
  rcases h.2 with h1 | ⟨g, cap, cur, hv, hgB, hh, r⟩
  · exact Or.inl h1
  · refine Or.inr ⟨g, cap, cur, hv, hgB, ?_, r⟩
    rw [hg.block g (lt_of_block hh) ?_]
    · exact hh
    · intro e
      rcases hr.2 with ⟨rfl, -⟩ | ⟨g', cap', cur', rfl, -, hh', -⟩
      · simp [Value.ownBlock] at e
      · simp only [Value.ownBlock, Option.some.injEq] at e
        subst e
        rw [hh] at hh'
        simp at hh'

end Go.Proofs.Ytalglngjafkdjaa
/- log.keep and log.Lacks: those updates of a log that a clock has not seen. -/
namespace Go.Proofs.Ytalglngjafkdjaa
open Go.RowKit

theorem or_map {a b c d : Prop} (h : a ∨ b) (f : a → c) (g : b → d) : c ∨ d := by
  rcases h with h | h
  · exact .inl (f h)
  · exact .inr (g h)
/-- Those that a clock lacks. -/
def lacksL (l : List Upd) (xs : List Int) : List Upd := l.filter fun u => !seenU u xs
theorem lacksL_take {l : List Upd} {k : Nat} {u : Upd} (xs : List Int) (h : l[k]? = some u) : lacksL (l.take (k + 1)) xs = if seenU u xs then lacksL (l.take k) xs else lacksL (l.take k) xs ++ [u] := by
  unfold lacksL
  rw [take_one h, List.filter_append]
  cases hs : seenU u xs <;> simp [hs]
/-- An update that is small enough to be copied, and whose author is one of its own. -/
def Small (u : Upd) : Prop := FitU u ∧ u.seen.length ≤ 6
theorem small_of {u : Upd} {n : Int} (h : wrongU u n = 0) : Small u := by
  obtain ⟨hcc, -⟩ := wrongU_right h
  have := wrongC_ok hcc
  exact ⟨fitU_of h, by omega⟩

/-- The read of update k of a log. -/
theorem LogV.at {w : World} {a : Option Addr} {m c : Nat} {l : List Upd} (h : LogV w (.slice a m c) l) {k : Nat} {u : Upd} (hu : l[k]? = some u) :
    ∃ b off a5 cap5, a = some ⟨b, off, none⟩ ∧ w.cell? ⟨b, off + k * 5, none⟩ = some (.int .i64 u.author) ∧ w.cell? ⟨b, off + k * 5 + 1, none⟩ = some (.slice a5 u.seen.length cap5) ∧ w.cell? ⟨b, off + k * 5 + 2, none⟩ = some (.int .i64 u.kind) ∧ w.cell? ⟨b, off + k * 5 + 3, none⟩ = some (.int .i64 u.key) ∧ w.cell? ⟨b, off + k * 5 + 4, none⟩ = some (.int .i64 u.item) ∧
      Row w (.slice a5 u.seen.length cap5) u.seen ∧ IsUpd w (.agg #[.int .i64 u.author, .slice a5 u.seen.length cap5, .int .i64 u.kind, .int .i64 u.key, .int .i64 u.item]) u := by
  obtain ⟨c1, c2, hv, hc2, hc3, hcell⟩ := h
  obtain ⟨b, off, rfl, sv, hsv, d0, d1, d2, d3, d4⟩ := hcell k u hu
  obtain ⟨a5, cap5, rfl, -, -, -⟩ := id hsv
  simp only [Value.slice.injEq] at hv
  obtain ⟨rfl, -, rfl⟩ := hv
  exact ⟨b, off, a5, cap5, rfl, d0, d1, d2, d3, d4, hsv, _, rfl, hsv⟩

theorem Row.one {w : World} {v : Value} {xs : List Int} (h : Row w v xs) : v.oneCell' = true := by
  obtain ⟨a, cap, rfl, -⟩ := h
  rfl
theorem cellsU_one {u : Upd} {sv : Value} (h : sv.oneCell' = true) : ∀ q ∈ cellsU u sv, q.oneCell' = true := by
  intro q hq
  simp only [cellsU, List.mem_cons, List.not_mem_nil, or_false] at hq
  rcases hq with rfl | rfl | rfl | rfl | rfl
  · rfl
  · exact h
  · rfl
  · rfl
  · rfl
/-- A row of updates of the call's own, their Seen too. -/
def LogO (w : World) (B : Nat) (v : Value) (ps : List (Upd × Value)) : Prop := OwnP (Own w B) w B v ps
theorem LogO.below {w w' : World} {B C : Nat} {v : Value} {ps : List (Upd × Value)} (h : LogO w B v ps) (hb : Below C w w') (hC : w.heap.size ≤ C) : LogO w' B v ps :=
  ⟨ownsRow_below h.1 hb hC, fun p hp => (h.2 p hp).below hb hC⟩
theorem LogO.alloc {w : World} {B : Nat} {v : Value} {ps : List (Upd × Value)} (h : LogO w B v ps) (o : Obj) : LogO (w.alloc o) B v ps := h.below ((Below.refl w.heap.size _).alloc (Nat.le_refl _) o) (Nat.le_refl _)
theorem LogO.log {w : World} {B : Nat} {v : Value} {ps : List (Upd × Value)} (h : LogO w B v ps) : LogV w v (ps.map (·.1)) := OwnP.log h fun _ _ h => h.row
theorem LogO.more {w w' : World} {B : Nat} {v v' sv : Value} {ps : List (Upd × Value)} {u : Upd} (h : LogO w B v ps) (hs : Own w B sv u.seen) (ho : w'.ownsRow B 47 5 v' (ps.length + 1) (cellsP ps ++ cellsU u sv)) (hg : w.grownBy w' v.ownBlock) : LogO w' B v' (ps ++ [(u, sv)]) := by
  refine ⟨by rw [cellsP_snoc]; simpa using ho, fun p hp => ?_⟩
  rcases List.mem_append.1 hp with hp | hp
  · exact (h.2 p hp).grown h.1 hg
  · simp at hp; subst hp; exact hs.grown h.1 hg

end Go.Proofs.Ytalglngjafkdjaa
