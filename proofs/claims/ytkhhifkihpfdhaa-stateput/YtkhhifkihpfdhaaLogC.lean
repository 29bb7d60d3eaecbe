/- Updates in a row of the call's own; update.Copy; log.Lacks. -/
import Derived.Test.YtkhhifkihpfdhaaLogB
import Derived.Test.YtkhhifkihpfdhaaGrow
namespace Go.Proofs.Ytkhhifkihpfdhaa
open Go.RowKit

theorem Try.infoUpd : (Try.prog.info? 47).map (fun i => (i.zero, i.size, i.bytes)) = some (some (.agg #[.int .i64 0, .slice none 0 0, .int .i64 0, .int .i64 0, .int .i64 0]), 5, 56) := by kernel_rfl
theorem Try.sizeUpd : (Try.prog.info? 47).map (·.size) = some 5 := by kernel_rfl

/-- The five cells of an update whose Seen is the value sv. -/
def cellsU (u : Upd) (sv : Value) : List Value := [.int .i64 u.author, sv, .int .i64 u.kind, .int .i64 u.key, .int .i64 u.item]
def cellsP (ps : List (Upd × Value)) : List Value := ps.flatMap fun p => cellsU p.1 p.2
theorem cellsP_length (ps : List (Upd × Value)) : (cellsP ps).length = ps.length * 5 := by
  induction ps with
  | nil => rfl
  | cons p r ih => simp only [cellsP, List.flatMap_cons, List.length_append] at ih ⊢; rw [ih]; simp [cellsU]; omega
theorem cellsP_snoc (ps : List (Upd × Value)) (u : Upd) (sv : Value) : cellsP (ps ++ [(u, sv)]) = cellsP ps ++ cellsU u sv := by simp [cellsP]
theorem cellsP_get : ∀ (ps : List (Upd × Value)) (i j : Nat) (p : Upd × Value), ps[i]? = some p → j < 5 → (cellsP ps)[i * 5 + j]? = (cellsU p.1 p.2)[j]?
  | [], i, _, _, h, _ => by simp at h
  | q :: r, 0, j, p, h, hj => by
    simp at h
    subst h
    simp only [cellsP, List.flatMap_cons, Nat.zero_mul, Nat.zero_add]
    rw [List.getElem?_append_left (by simp [cellsU]; exact hj)]
  | q :: r, i + 1, j, p, h, hj => by
    have ih := cellsP_get r i j p (by simpa using h) hj
    simp only [cellsP, List.flatMap_cons] at ih ⊢
    rw [List.getElem?_append_right (by simp [cellsU]; omega)]
    rw [← ih]
    congr 1
    simp [cellsU]; omega

/-- The slice value v owns, from block B on, a row of these updates, whose Seen lie as R says. -/
def OwnP (R : Value → List Int → Prop) (w : World) (B : Nat) (v : Value) (ps : List (Upd × Value)) : Prop :=
  w.ownsRow B 47 5 v ps.length (cellsP ps) ∧ ∀ p ∈ ps, R p.2 p.1.seen

theorem ownsRow_below {w w' : World} {B C : Nat} {e : TypeId} {size n : Nat} {v : Value} {xs : List Value} (h : w.ownsRow B e size v n xs) (hb : Below C w w') (hC : w.heap.size ≤ C) : w'.ownsRow B e size v n xs := by
  refine ⟨h.1, ?_⟩
  rcases h.2 with h1 | ⟨g, cap, cur, hv, hg, hh, r⟩
  · exact Or.inl h1
  · exact Or.inr ⟨g, cap, cur, hv, hg, by rw [hb.block g (Nat.lt_of_lt_of_le (lt_of_block hh) hC)]; exact hh, r⟩
theorem OwnP.mono {R R' : Value → List Int → Prop} {w : World} {B : Nat} {v : Value} {ps : List (Upd × Value)} (h : OwnP R w B v ps) (hR : ∀ sv xs, R sv xs → R' sv xs) : OwnP R' w B v ps := ⟨h.1, fun p hp => hR _ _ (h.2 p hp)⟩
theorem OwnP.step {R : Value → List Int → Prop} {w w' : World} {B C : Nat} {v : Value} {ps : List (Upd × Value)} (h : OwnP R w B v ps) (hb : Below C w w') (hC : w.heap.size ≤ C) : OwnP R w' B v ps := ⟨ownsRow_below h.1 hb hC, h.2⟩

theorem OwnP.log {R : Value → List Int → Prop} {w : World} {B : Nat} {v : Value} {ps : List (Upd × Value)} (h : OwnP R w B v ps) (hR : ∀ sv xs, R sv xs → Row w sv xs) : LogV w v (ps.map (·.1)) := by
  obtain ⟨h, hs⟩ := h
  have hx := h.1
  rcases h.2 with ⟨rfl, h0⟩ | ⟨g, cap, cur, rfl, hg, hh, h1, h2, h3, h4⟩
  · have : ps = [] := List.eq_nil_of_length_eq_zero h0
    subst this
    exact LogV.nil _
  · refine ⟨some ⟨g, 0, none⟩, cap, by simp, by simpa using h1, h2, fun i u hi => ⟨g, 0, rfl, ?_⟩⟩
    simp only [List.getElem?_map, Option.map_eq_some_iff] at hi
    obtain ⟨p, hp, rfl⟩ := hi
    have hil : i < ps.length := (List.getElem?_eq_some_iff.1 hp).1
    have cell : ∀ j, j < 5 → w.cell? ⟨g, 0 + i * 5 + j, none⟩ = (cellsU p.1 p.2)[j]? := by
      intro j hj
      rw [Nat.zero_add, ← cellsP_get ps i j p hp hj, ← h4]
      have : i * 5 + j < ps.length * 5 := by omega
      rw [List.getElem?_take_of_lt this]
      simp [World.cell?, hh]
    exact ⟨p.2, hR _ _ (hs p (List.mem_of_getElem? hp)), cell 0 (by omega), cell 1 (by omega), cell 2 (by omega), cell 3 (by omega), cell 4 (by omega)⟩

/-- A row of numbers of the call's own is no row of updates: what grows there leaves it. -/
theorem Own.grown {w w' : World} {B C n : Nat} {sv v : Value} {xs : List Int} {cs : List Value} (h : Own w B sv xs) (hr : w.ownsRow C 47 5 v n cs) (hg : w.grownBy w' v.ownBlock) : Own w' B sv xs := by
  refine ⟨h.1, ?_⟩
  rcases h.2 with h1 | ⟨g, cap, cur, hv, hgB, hh, r⟩
  · exact Or.inl h1
  · refine Or.inr ⟨g, cap, cur, hv, hgB, ?_, r⟩
    rw [hg.block g (lt_of_block hh) ?_]
    · exact hh
    · intro e
      rcases hr.2 with ⟨rfl, -⟩ | ⟨g', cap', cur', rfl, -, hh', -⟩
      · simp [Value.ownBlock] at e
      · simp only [Value.ownBlock, Option.some.injEq] at e
        subst e
        rw [hh] at hh'
        simp at hh'

set_option maxRecDepth 100000 in
set_option maxHeartbeats 1000000 in
theorem copy_upd (v : Value) (u : Upd) (w : World) (h : IsUpd w v u) (hr : u.seen.length * 8 ≤ 140737488351232) :
    Calls Try.prog 63 #[v] w fun e w' => ∃ sv, e = .returned (.agg #[.int .i64 u.author, sv, .int .i64 u.kind, .int .i64 u.key, .int .i64 u.item]) ∧ Own w' w.heap.size sv u.seen ∧ Below w.heap.size w w' := by
  have hin := h
  obtain ⟨sv, rfl, hs⟩ := h
  obtain ⟨a5, cap5, rfl, -, -, -⟩ := id hs
  have hb2 := Below.plus (Below.plus (Below.refl w.heap.size w) (.cells #[.int .i64 u.author, .slice a5 u.seen.length cap5, .int .i64 u.kind, .int .i64 u.key, .int .i64 u.item] 47)) (.cells #[.int .i64 0, .slice none 0 0, .int .i64 0, .int .i64 0, .int .i64 0] 47)
  have S0 := hide (hs.below hb2 (Nat.le_refl _))
  have X0 := hide ((Box.new w [.int .i64 u.author, .slice a5 u.seen.length cap5, .int .i64 u.kind, .int .i64 u.key, .int .i64 u.item] 47).plus (.cells #[.int .i64 0, .slice none 0 0, .int .i64 0, .int .i64 0, .int .i64 0] 47))
  have Z0 := hide (Box.new (w.alloc (.cells #[.int .i64 u.author, .slice a5 u.seen.length cap5, .int .i64 u.kind, .int .i64 u.key, .int .i64 u.item] 47)) [.int .i64 0, .slice none 0 0, .int .i64 0, .int .i64 0, .int .i64 0] 47)
  rw [World.size_alloc] at Z0
  have HB0 := hide hb2
  clear hin hs hb2
  go_enter Try.func63, Try.ntmps63
  go_wp2_with fail
  refine (copy_clock_at _ u.seen _ S0.out hr).mono ?_
  rintro e w1 ⟨rfl, ho, hb⟩
  have HO := hide ho
  have X1 := hide (X0.out.below hb (Nat.le_refl _))
  have Z1 := hide (Z0.out.below hb (Nat.le_refl _))
  have HB1 := hide (below_step HB0.out hb)
  clear ho hb X0 Z0 HB0 S0
  rw [World.size_alloc, World.size_alloc] at HO ⊢
  have e0 := X1.out.get 0 rfl
  have e1 := X1.out.get 1 rfl
  have e2 := X1.out.get 2 rfl
  have e3 := X1.out.get 3 rfl
  have e4 := X1.out.get 4 rfl
  have f1 := X1.out.free 1
  have d0 := Z1.out.get 0 rfl
  have d1 := Z1.out.get 1 rfl
  have d2 := Z1.out.get 2 rfl
  have d3 := Z1.out.get 3 rfl
  have d4 := Z1.out.get 4 rfl
  have g0 := Z1.out.free 0
  have g1 := Z1.out.free 1
  have g2 := Z1.out.free 2
  have g3 := Z1.out.free 3
  have g4 := Z1.out.free 4
  go_wp2_with fail
  have hZ := (((((Z1.out.away (g' := w.heap.size) (i := 1) (v := .slice (some ⟨w.heap.size + 1 + 1, 0, none⟩) u.seen.length u.seen.length) (by omega)).set 0 (.int .i64 u.author)).set 1 (.slice (some ⟨w.heap.size + 1 + 1, 0, none⟩) u.seen.length u.seen.length)).set 2 (.int .i64 u.kind)).set 3 (.int .i64 u.key)).set 4 (.int .i64 u.item)
  refine bodyPost_ret (results_cell_row rfl _ _ (w.heap.size + 1) 47 _ (0, 0) _ rfl hZ Try.underlying47 rfl Try.sizeUpd) rfl ⟨_, rfl, ?_, ?_⟩
  · refine Own.mono (B := w.heap.size + 1 + 1) ?_ (by omega)
    exact (((((HO.out.away (by omega) _ _).away (by omega) _ _).away (by omega) _ _).away (by omega) _ _).away (by omega) _ _).away (by omega) _ _
  · exact (((((HB1.out.setCell (by show w.heap.size ≤ w.heap.size; omega) _).setCell (by show w.heap.size ≤ w.heap.size + 1; omega) _).setCell (by show w.heap.size ≤ w.heap.size + 1; omega) _).setCell (by show w.heap.size ≤ w.heap.size + 1; omega) _).setCell (by show w.heap.size ≤ w.heap.size + 1; omega) _).setCell (by show w.heap.size ≤ w.heap.size + 1; omega) _

end Go.Proofs.Ytkhhifkihpfdhaa
