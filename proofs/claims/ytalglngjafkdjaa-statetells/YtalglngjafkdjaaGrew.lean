/- How a world grows, a rule a step, and variables of the call's own. (Not beside Read or UTells, which have these names.) -/
import Derived.Test.YtalglngjafkdjaaReads
import Derived.Deep.RegionHeld3
import Derived.Deep.DeepCutAuto
import Derived.Deep.OwnRows
namespace Go.Proofs.Ytalglngjafkdjaa
open Go.RowKit

/-- Below, for the walk: each step by a rule of its own. -/
def Grew (w w' : World) : Prop := Below w.heap.size w w'
theorem grew_refl (w : World) : Grew w w := Below.refl _ _
theorem grew_alloc {w w1 : World} (o : Obj) (h : Grew w w1) : Grew w (w1.alloc o) := Below.plus h o
theorem grew_drew {w w1 : World} (h : Grew w w1) : Grew w w1.drew := Below.drew h
theorem grew_drewN {w w1 : World} (n : Nat) (h : Grew w w1) : Grew w (w1.drewN n) := below_drewN h n
theorem grew_step {w w1 w2 : World} (h : Grew w w1) (hb : Below w1.heap.size w1 w2) : Grew w w2 := below_step h hb
theorem alloc_drewN (w : World) (k : Nat) (o : Obj) : (w.drewN k).alloc o = (w.alloc o).drewN k := rfl
theorem setCell_drewN (w : World) (k : Nat) (a : Addr) (v : Value) : (w.drewN k).setCell a v = (w.setCell a v).drewN k := rfl
theorem Box.plus {w : World} {g : Nat} {cs : List Value} {t : TypeId} (h : Box w g cs t) (o : Obj) : Box (w.alloc o) g cs t := h.below (Below.plus (Below.refl w.heap.size w) o) (Nat.le_refl _)
theorem Box.draw {w : World} {g : Nat} {cs : List Value} {t : TypeId} (h : Box w g cs t) (k : Nat) : Box (w.drewN k) g cs t := h
theorem Box.away {w : World} {g g' i : Nat} {cs : List Value} {t : TypeId} {v : Value} (h : Box w g cs t) (hne : g ≠ g') : Box (w.setCell ⟨g', i, none⟩ v) g cs t := by
  unfold Box at h ⊢
  rw [Below.heap_setCell _ _ _ _ hne]; exact h
theorem Box.low {w w' : World} {g B : Nat} {cs : List Value} {t : TypeId} (h : Box w g cs t) (hb : Below B w w') (hB : g < B) : Box w' g cs t := by
  unfold Box at h ⊢
  rw [hb.block g hB]; exact h
theorem Box.reads {w : World} {g : Nat} {x0 x1 x2 x3 x4 : Value} {t : TypeId} (h : Box w g [x0, x1, x2, x3, x4] t) : w.cell? ⟨g, 0, none⟩ = some x0 ∧ w.cell? ⟨g, 1, none⟩ = some x1 ∧ w.cell? ⟨g, 2, none⟩ = some x2 ∧ w.cell? ⟨g, 3, none⟩ = some x3 ∧ w.cell? ⟨g, 4, none⟩ = some x4 :=
  ⟨h.get 0 rfl, h.get 1 rfl, h.get 2 rfl, h.get 3 rfl, h.get 4 rfl⟩
theorem wrapS {x : Int} (h : -1000000000 ≤ x) (h' : x ≤ 1000000000) : IntKind.i64.wrap x = x := by simp [IntKind.wrap, IntKind.bits, IntKind.signed]; omega
end Go.Proofs.Ytalglngjafkdjaa
