/- What the loop of log.Heads holds between two rounds, and how each step of a round turns it. -/
import Derived.Test.YtiomdleoafakkaaBack
import Derived.Test.YtiomdleoafakkaaRaise
import Derived.RangeFuncBox
import Derived.Maps.AppendAt
namespace Go.Proofs.Ytiomdleoafakkaa
open Go.RowKit Go.Shelf

theorem Own.blk {W : World} {B : Nat} {v : Value} {xs : List Int} (h : Own W B v xs) {g : Nat} (hv : v.ownBlock = some g) : ∃ cur, W.heap[g]? = some (.cells cur 3 (0, 0)) ∧ B ≤ g := by
  rcases h.2 with ⟨rfl, -⟩ | ⟨g', cap, cur, rfl, hg, hh, -⟩
  · simp [Value.ownBlock] at hv
  · simp only [Value.ownBlock, Option.some.injEq] at hv
    subst hv
    exact ⟨cur, hh, hg⟩
theorem Own.kept {W W' : World} {B : Nat} {v : Value} {xs : List Int} (h : Own W B v xs) (hk : ∀ g, v.ownBlock = some g → W'.heap[g]? = W.heap[g]?) : Own W' B v xs := by
  refine ⟨h.1, ?_⟩
  rcases h.2 with h1 | ⟨g, cap, cur, hv, hg, hh, r⟩
  · exact Or.inl h1
  · exact Or.inr ⟨g, cap, cur, hv, hg, by rw [hk g (by rw [hv]; rfl)]; exact hh, r⟩
theorem Own.notBox {W : World} {B b : Nat} {t : TypeId} {cs : Array Value} {vo : Value} {os : List Int} (h : Own W B vo os) (hb : W.heap[b]? = some (.cells cs t (0, 0))) (ht : t ≠ 3) : vo.ownBlock ≠ some b := by
  intro e
  obtain ⟨cur, h1, -⟩ := h.blk e
  rw [hb] at h1
  simp at h1
  exact ht h1.2
theorem keeps_below {W W' : World} (h : Below W.heap.size W W') : KeepsOthers W W' := ⟨h.size, fun k _ hk _ => (h.block k (Array.getElem?_eq_some_iff.1 hk).1).trans hk⟩
theorem keeps_row {W W' : World} {B : Nat} {vo : Value} {os : List Int} (ho : Own W B vo os) (hg : W.grownBy W' vo.ownBlock) : KeepsOthers W W' :=
  ⟨hg.size, fun k o hk hn => (hg.block k (Array.getElem?_eq_some_iff.1 hk).1 (fun e => by
    obtain ⟨cur, h1, -⟩ := ho.blk e.symm
    rw [hk] at h1
    simp only [Option.some.injEq] at h1
    subst h1
    simp [Obj.isCells] at hn)).trans hk⟩

structure HeadsI (w : World) (lv : Value) (os bs : List Int) (W : World) (vo vb : Value) : Prop where
  bO : W.heap[w.heap.size]? = some (.cells #[vo] 22 (0, 0))
  bB : W.heap[w.heap.size + 1]? = some (.cells #[vb] 23 (0, 0))
  bL : W.heap[w.heap.size + 1 + 1]? = some (.cells #[lv] 48 (0, 0))
  oO : Own W w.heap.size vo os
  oB : Own W w.heap.size vb bs
  ap : ∀ g, vo.ownBlock = some g → vb.ownBlock ≠ some g
  hB : Below w.heap.size w W

theorem HeadsI.keep {w W W' : World} {lv vo vb : Value} {os bs : List Int} (h : HeadsI w lv os bs W vo vb) (hk : ∀ (g : Nat) cur t, W.heap[g]? = some (.cells cur t (0, 0)) → W'.heap[g]? = some (.cells cur t (0, 0))) (hb : Below w.heap.size w W') : HeadsI w lv os bs W' vo vb :=
  ⟨hk _ _ _ h.bO, hk _ _ _ h.bB, hk _ _ _ h.bL, h.oO.kept (fun g e => by obtain ⟨cur, h1, -⟩ := h.oO.blk e; rw [h1, hk _ _ _ h1]), h.oB.kept (fun g e => by obtain ⟨cur, h1, -⟩ := h.oB.blk e; rw [h1, hk _ _ _ h1]), h.ap, hb⟩
theorem HeadsI.step {w W W' : World} {lv vo vb : Value} {os bs : List Int} (h : HeadsI w lv os bs W vo vb) (hb : Below W.heap.size W W') : HeadsI w lv os bs W' vo vb :=
  h.keep (fun g _ _ hg => (hb.block g (Array.getElem?_eq_some_iff.1 hg).1).trans hg) (below_step h.hB hb)

/-- A store into the first cell of a box. -/
theorem heap_store {W : World} {b : Nat} {v u : Value} {t : TypeId} (h : W.heap[b]? = some (.cells #[v] t (0, 0))) : (W.setCell ⟨b, 0, none⟩ u).heap[b]? = some (.cells #[u] t (0, 0)) := by
  rw [heap_setCell_same W b 0 _ t u h]; rfl
theorem heap_other {W : World} {b c : Nat} {u : Value} (h : b ≠ c) : (W.setCell ⟨c, 0, none⟩ u).heap[b]? = W.heap[b]? := Below.heap_setCell _ _ _ _ h

/-- A place is told. -/
theorem HeadsI.tell {w W W3 : World} {lv vo vb v' : Value} {os bs : List Int} {i : Int} (h : HeadsI w lv os bs W vo vb) (hg : W.grownBy W3 vo.ownBlock)
    (ho : Own W3 w.heap.size v' (os ++ [i])) (hat : v'.ownBlock = vo.ownBlock ∨ v'.ownBlock = some W.heap.size) :
    HeadsI w lv (os ++ [i]) bs (W3.setCell ⟨w.heap.size, 0, none⟩ v') v' vb ∧ KeepsOthers W (W3.setCell ⟨w.heap.size, 0, none⟩ v') ∧ Below w.heap.size W (W3.setCell ⟨w.heap.size, 0, none⟩ v') ∧
      (∀ (b : Nat) cs t, W.heap[b]? = some (.cells cs t (0, 0)) → t ≠ 3 → b ≠ w.heap.size → (W3.setCell ⟨w.heap.size, 0, none⟩ v').heap[b]? = some (.cells cs t (0, 0))) ∧ (∀ (b : Nat) cs t, W.heap[b]? = some (.cells cs t (0, 0)) → t ≠ 3 → W3.heap[b]? = some (.cells cs t (0, 0))) := by
  have hlt : w.heap.size < W.heap.size := lt_of_block h.bO
  have hbox : ∀ (b : Nat) cs t, W.heap[b]? = some (.cells cs t (0, 0)) → t ≠ 3 → W3.heap[b]? = some (.cells cs t (0, 0)) := fun b cs t hb ht => (hg.block b (lt_of_block hb) (fun e => h.oO.notBox hb ht e.symm)).trans hb
  have hbox' : ∀ (b : Nat) cs t, W.heap[b]? = some (.cells cs t (0, 0)) → t ≠ 3 → b ≠ w.heap.size → (W3.setCell ⟨w.heap.size, 0, none⟩ v').heap[b]? = some (.cells cs t (0, 0)) := fun b cs t hb ht hne => (heap_other hne).trans (hbox b cs t hb ht)
  have b3 := hbox _ _ _ h.bO (by decide)
  have hne : v'.ownBlock ≠ some w.heap.size := ho.notBox b3 (by decide)
  have hvb : vb.ownBlock ≠ some w.heap.size := h.oB.notBox h.bO (by decide)
  have hB3 : Below w.heap.size W W3 := (Below.refl _ W).grown hg (by omega) (fun k e => by obtain ⟨_, _, h2⟩ := h.oO.blk e; exact h2)
  refine ⟨⟨heap_store b3, hbox' _ _ _ h.bB (by decide) (by omega), hbox' _ _ _ h.bL (by decide) (by omega), ?_, ?_, ?_, ?_⟩, ?_, hB3.setCell (Nat.le_refl _) _, hbox', hbox⟩
  · exact ho.kept (fun g e => heap_other (fun e2 => hne (by rw [e, e2])))
  · refine h.oB.kept (fun g e => ?_)
    rw [heap_other (fun e2 => hvb (by rw [e, e2]))]
    obtain ⟨cur, h1, -⟩ := h.oB.blk e
    exact hg.block g (lt_of_block h1) (fun e2 => h.ap g e2.symm e)
  · intro g e e2
    rcases hat with e3 | e3
    · exact h.ap g (by rw [← e3, e]) e2
    · rw [e] at e3
      simp only [Option.some.injEq] at e3
      obtain ⟨cur, h1, -⟩ := h.oB.blk e2
      have := lt_of_block h1
      omega
  · exact (h.hB.trans hB3).setCell (Nat.le_refl _) _
  · exact (keeps_row h.oO hg).trans (KeepsOthers.setCell _ _ _)

/-- The clock behind is raised. -/
theorem HeadsI.raised {w W W3 : World} {lv vo vb r : Value} {os bs bs' : List Int} (h : HeadsI w lv os bs W vo vb) (hg : W.grownBy W3 vb.ownBlock)
    (ho : Own W3 w.heap.size r bs') (hat : r.ownBlock = vb.ownBlock ∨ ∃ g, r.ownBlock = some g ∧ W.heap.size ≤ g) :
    HeadsI w lv os bs' (W3.setCell ⟨w.heap.size + 1, 0, none⟩ r) vo r ∧ KeepsOthers W (W3.setCell ⟨w.heap.size + 1, 0, none⟩ r) ∧ Below w.heap.size W (W3.setCell ⟨w.heap.size + 1, 0, none⟩ r) ∧ (∀ (b : Nat) cs t, W.heap[b]? = some (.cells cs t (0, 0)) → t ≠ 3 → W3.heap[b]? = some (.cells cs t (0, 0))) := by
  have hlt : w.heap.size + 1 < W.heap.size := lt_of_block h.bB
  have hbox : ∀ (b : Nat) cs t, W.heap[b]? = some (.cells cs t (0, 0)) → t ≠ 3 → W3.heap[b]? = some (.cells cs t (0, 0)) := fun b cs t hb ht => (hg.block b (lt_of_block hb) (fun e => h.oB.notBox hb ht e.symm)).trans hb
  have hbox' : ∀ (b : Nat) cs t, W.heap[b]? = some (.cells cs t (0, 0)) → t ≠ 3 → b ≠ w.heap.size + 1 → (W3.setCell ⟨w.heap.size + 1, 0, none⟩ r).heap[b]? = some (.cells cs t (0, 0)) := fun b cs t hb ht hne => (heap_other hne).trans (hbox b cs t hb ht)
  have b4 := hbox _ _ _ h.bB (by decide)
  have hne : r.ownBlock ≠ some (w.heap.size + 1) := ho.notBox b4 (by decide)
  have hvo : vo.ownBlock ≠ some (w.heap.size + 1) := h.oO.notBox h.bB (by decide)
  have hB3 : Below w.heap.size W W3 := (Below.refl _ W).grown hg (by omega) (fun k e => by obtain ⟨_, _, h2⟩ := h.oB.blk e; exact h2)
  refine ⟨⟨hbox' _ _ _ h.bO (by decide) (by omega), heap_store b4, hbox' _ _ _ h.bL (by decide) (by omega), ?_, ?_, ?_, ?_⟩, ?_, hB3.setCell (by show w.heap.size ≤ w.heap.size + 1; omega) _, hbox⟩
  · refine h.oO.kept (fun g e => ?_)
    rw [heap_other (fun e2 => hvo (by rw [e, e2]))]
    obtain ⟨cur, h1, -⟩ := h.oO.blk e
    exact hg.block g (lt_of_block h1) (fun e2 => h.ap g e e2.symm)
  · exact ho.kept (fun g e => heap_other (fun e2 => hne (by rw [e, e2])))
  · intro g e e2
    rcases hat with e3 | ⟨g', e3, hge⟩
    · exact h.ap g e (by rw [← e3, e2])
    · rw [e2] at e3
      simp only [Option.some.injEq] at e3
      obtain ⟨cur, h1, -⟩ := h.oO.blk e
      have := lt_of_block h1
      omega
  · exact (h.hB.trans hB3).setCell (by show w.heap.size ≤ w.heap.size + 1; omega) _
  · exact (keeps_row h.oB hg).trans (KeepsOthers.setCell _ _ _)
theorem row_one (w : World) (p : Int) : Row (w.alloc (.cells #[.int .i64 p] 3)) (.slice (some ⟨w.heap.size, 0, none⟩) 1 1) [p] := by
  refine ⟨_, 1, rfl, by simp, by unfold maxLen; omega, fun i hi => ⟨_, _, rfl, ?_⟩⟩
  match i, hi with
  | 0, _ => simp
end Go.Proofs.Ytiomdleoafakkaa
