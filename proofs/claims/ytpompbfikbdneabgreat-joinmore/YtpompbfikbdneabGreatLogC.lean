/- Updates in a row of the call's own; update.Copy; log.Lacks. -/
import Derived.Test.YtpompbfikbdneabGreatLogB
import Derived.Test.YtpompbfikbdneabGreatGrow
namespace Go.Proofs.YtpompbfikbdneabGreat
open Go.RowKit

theorem Tryz.infoUpd : (Tryz.prog.info? 50).map (fun i => (i.zero, i.size, i.bytes)) = some (some (.agg #[.int .i64 0, .slice none 0 0, .int .i64 0, .int .i64 0, .int .i64 0]), 5, 56) := by kernel_rfl
theorem Tryz.sizeUpd : (Tryz.prog.info? 50).map (·.size) = some 5 := by kernel_rfl

/-- The five cells of an update whose Seen is the value sv. -/
def cellsU (u : Upd) (sv : Value) : List Value := [.int .i64 u.author, sv, .int .i64 u.kind, .int .i64 u.key, .int .i64 u.item]
def cellsP (ps : List (Upd × Value)) : List Value := ps.flatMap fun p => cellsU p.1 p.2
theorem cellsP_length (ps : List (Upd × Value)) : (cellsP ps).length = ps.length * 5 := by
  induction ps with
  | nil => rfl
  | cons p r ih => simp only [cellsP, List.flatMap_cons, List.length_append] at ih ⊢; rw [ih]; simp [cellsU]; omega
theorem cellsP_snoc (ps : List (Upd × Value)) (u : Upd) (sv : Value) : cellsP (ps ++ [(u, sv)]) = cellsP ps ++ cellsU u sv := by simp [cellsP]
theorem cellsP_get : ∀ (ps : List (Upd × Value)) (i j : Nat) (p : Upd × Value), ps[i]? = some p → j < 5 → (cellsP ps)[i * 5 + j]? = (cellsU p.1 p.2)[j]?
  | [], i, _, _, h, _ => by simp at h
  | q :: r, 0, j, p, h, hj => by
    simp at h
    subst h
    simp only [cellsP, List.flatMap_cons, Nat.zero_mul, Nat.zero_add]
    rw [List.getElem?_append_left (by simp [cellsU]; exact hj)]
  | q :: r, i + 1, j, p, h, hj => by
    have ih := cellsP_get r i j p (by simpa using h) hj
    simp only [cellsP, List.flatMap_cons] at ih ⊢
    rw [List.getElem?_append_right (by simp [cellsU]; omega)]
    rw [← ih]
    congr 1
    simp [cellsU]; omega

/-- The slice value v owns, from block B on, a row of these updates, whose Seen lie as R says. -/
def OwnP (R : Value → List Int → Prop) (w : World) (B : Nat) (v : Value) (ps : List (Upd × Value)) : Prop :=
  w.ownsRow B 50 5 v ps.length (cellsP ps) ∧ ∀ p ∈ ps, R p.2 p.1.seen

theorem ownsRow_below {w w' : World} {B C : Nat} {e : TypeId} {size n : Nat} {v : Value} {xs : List Value} (h : w.ownsRow B e size v n xs) (hb : Below C w w') (hC : w.heap.size ≤ C) : w'.ownsRow B e size v n xs := by
  refine ⟨h.1, ?_⟩
  rcases h.2 with h1 | ⟨g, cap, cur, hv, hg, hh, r⟩
  · exact Or.inl h1
  · exact Or.inr ⟨g, cap, cur, hv, hg, by rw [hb.block g (Nat.lt_of_lt_of_le (lt_of_block hh) hC)]; exact hh, r⟩
theorem OwnP.mono {R R' : Value → List Int → Prop} {w : World} {B : Nat} {v : Value} {ps : List (Upd × Value)} (h : OwnP R w B v ps) (hR : ∀ sv xs, R sv xs → R' sv xs) : OwnP R' w B v ps := ⟨h.1, fun p hp => hR _ _ (h.2 p hp)⟩
theorem OwnP.step {R : Value → List Int → Prop} {w w' : World} {B C : Nat} {v : Value} {ps : List (Upd × Value)} (h : OwnP R w B v ps) (hb : Below C w w') (hC : w.heap.size ≤ C) : OwnP R w' B v ps := ⟨ownsRow_below h.1 hb hC, h.2⟩

theorem OwnP.log {R : Value → List Int → Prop} {w : World} {B : Nat} {v : Value} {ps : List (Upd × Value)} (h : OwnP R w B v ps) (hR : ∀ sv xs, R sv xs → Row w sv xs) : LogV w v (ps.map (·.1)) := by
  obtain ⟨h, hs⟩ := h
  have hx := h.1
  rcases h.2 with ⟨rfl, h0⟩ | ⟨g, cap, cur, rfl, hg, hh, h1, h2, h3, h4⟩
  · have : ps = [] := List.eq_nil_of_length_eq_zero h0
    subst this
    exact LogV.nil _
  · refine ⟨some ⟨g, 0, none⟩, cap, by simp, by simpa using h1, h2, fun i u hi => ⟨g, 0, rfl, ?_⟩⟩
    simp only [List.getElem?_map, Option.map_eq_some_iff] at hi
    obtain ⟨p, hp, rfl⟩ := hi
    have hil : i < ps.length := (List.getElem?_eq_some_iff.1 hp).1
    have cell : ∀ j, j < 5 → w.cell? ⟨g, 0 + i * 5 + j, none⟩ = (cellsU p.1 p.2)[j]? := by
      intro j hj
      rw [Nat.zero_add, ← cellsP_get ps i j p hp hj, ← h4]
      have : i * 5 + j < ps.length * 5 := by omega
      rw [List.getElem?_take_of_lt this]
      simp [World.cell?, hh]
    exact ⟨p.2, hR _ _ (hs p (List.mem_of_getElem? hp)), cell 0 (by omega), cell 1 (by omega), cell 2 (by omega), cell 3 (by omega), cell 4 (by omega)⟩

/-- A row of numbers of the call's own is no row of updates: what grows there leaves it. -/
theorem Own.grown {w w' : World} {B C n : Nat} {sv v : Value} {xs : List Int} {cs : List Value} (h : Own w B sv xs) (hr : w.ownsRow C 50 5 v n cs) (hg : w.grownBy w' v.ownBlock) : Own w' B sv xs := by
  refine ⟨h.1, ?_⟩
  rcases h.2 with h1 | ⟨g, cap, cur, hv, hgB, hh, r⟩
  · exact Or.inl h1
  · refine Or.inr ⟨g, cap, cur, hv, hgB, ?_, r⟩
    rw [hg.block g (lt_of_block hh) ?_]
    · exact hh
    · intro e
      rcases hr.2 with ⟨rfl, -⟩ | ⟨g', cap', cur', rfl, -, hh', -⟩
      · simp [Value.ownBlock] at e
      · simp only [Value.ownBlock, Option.some.injEq] at e
        subst e
        rw [hh] at hh'
        simp at hh'

end Go.Proofs.YtpompbfikbdneabGreat
