/- The document's own SameNode, of two that read as the same node; what stands ahead of each law of chapter 6. -/
import Derived.Test.YtihedgnachophaaGreatNdZ
import Derived.Test.YtihedgnachophaaGreatSameLog
namespace Go.Proofs.YtihedgnachophaaGreat
open Go.RowKit

end Go.Proofs.YtihedgnachophaaGreat
/- A node's variable that is set anew; what stands ahead of each law of chapter 6. -/
namespace Go.Proofs.YtihedgnachophaaGreat
open Go.RowKit

theorem NodeO.setT {w : World} {B g : Nat} {v : Value} {d : NdS} {cs : List Value} (h : NodeO w B v d) (hb : Box w g cs 49) (i : Nat) (x : Value) : NodeO (w.setCell ⟨g, i, Option.none⟩ x) B v d := by
 obtain ⟨cv, lv, tv, bv, uv, kv, h1, h2, h3, h4, h5⟩ := h
 exact ⟨cv, lv, tv, bv, uv, kv, h1, h2.setT hb (by decide) (by decide) (by decide) i x, h3.setT hb (by decide) i x, h4.setT hb (by decide) (by decide) i x, h5.setT hb (by decide) (by decide) i x⟩
theorem PclO.setT {w : World} {B g : Nat} {v : Value} {p : Pcl} {cs : List Value} (h : PclO w B v p) (hb : Box w g cs 49) (i : Nat) (x : Value) : PclO (w.setCell ⟨g, i, Option.none⟩ x) B v p := by
 obtain ⟨cv, lv, tv, uv, kv, h1, h2, h3, h4⟩ := h
 exact ⟨cv, lv, tv, uv, kv, h1, h2.setT hb (by decide) (by decide) (by decide) i x, h3.setT hb (by decide) (by decide) i x, h4.setT hb (by decide) i x⟩
def nA : NdS := ⟨0, ⟨[0, 0], [], []⟩, [0, 0], [], [[0, 0], [0, 0]]⟩
def nB : NdS := ⟨1, ⟨[0, 0], [], []⟩, [0, 0], [], [[0, 0], [0, 0]]⟩
def uA : Upd := ⟨0, [], 1, 1, 5⟩
def nI : NdS := ⟨0, ⟨[1, 0], [⟨false, 1, 5, 0, 1⟩], []⟩, [0, 0], [⟨0, [0, 0], 1, 1, 5⟩], [[1, 0], [0, 0]]⟩
def pS : Pcl := ⟨false, ⟨[], [], []⟩, [⟨0, [0, 0], 1, 1, 5⟩], [1, 0]⟩
def nT : NdS := ⟨1, ⟨[1, 0], [⟨false, 1, 5, 0, 1⟩], []⟩, [0, 0], [⟨0, [0, 0], 1, 1, 5⟩], [[1, 0], [1, 0]]⟩
theorem al_a : startE 0 2 = 0 ∧ startX 0 2 = nA := ⟨by kernel_rfl, by kernel_rfl⟩
theorem al_b : startE 1 2 = 0 ∧ startX 1 2 = nB := ⟨by kernel_rfl, by kernel_rfl⟩
theorem al_i : issueE nA uA = 0 ∧ issueX nA uA = nI := ⟨by kernel_rfl, by kernel_rfl⟩
theorem al_s : otherE nI 1 = 0 ∧ sendX nI 1 = pS := ⟨by kernel_rfl, by kernel_rfl⟩
theorem al_t : takeE nB 0 pS = 0 ∧ takeX nB 0 pS = nT := ⟨by kernel_rfl, by kernel_rfl⟩
theorem NodeO.formL {w : World} {B : Nat} {v : Value} {d : NdS} (h : NodeO w B v d) {i : Int} {n1 n2 n3 n4 n5 n6 : Nat} (h0 : d.self = i) (h1 : d.st.clock.length = n1) (h2 : d.st.lives.length = n2) (h3 : d.st.tals.length = n3) (h4 : d.base.length = n4) (h5 : d.log.length = n5) (h6 : d.known.length = n6) :
  ∃ a1 c1 a2 c2 a3 c3 a4 c4 a5 c5 a6 c6, v = .agg #[.int .i64 i, .slice a1 n1 c1, .slice a2 n2 c2, .slice a3 n3 c3, .slice a4 n4 c4, .slice a5 n5 c5, .slice a6 n6 c6] := by
 subst h0 h1 h2 h3 h4 h5 h6
 exact h.form
theorem PclO.formL {w : World} {B : Nat} {v : Value} {p : Pcl} (h : PclO w B v p) {b : Bool} {n1 n2 n3 n4 n5 : Nat} (h0 : p.whole = b) (h1 : p.st.clock.length = n1) (h2 : p.st.lives.length = n2) (h3 : p.st.tals.length = n3) (h4 : p.ups.length = n4) (h5 : p.clock.length = n5) :
  ∃ a1 c1 a2 c2 a3 c3 a4 c4 a5 c5, v = .agg #[.bool b, .slice a1 n1 c1, .slice a2 n2 c2, .slice a3 n3 c3, .slice a4 n4 c4, .slice a5 n5 c5] := by
 subst h0 h1 h2 h3 h4 h5
 obtain ⟨a1, c1, a2, c2, a3, c3, a4, c4, a5, c5, e, -⟩ := h.pcl.form
 exact ⟨a1, c1, a2, c2, a3, c3, a4, c4, a5, c5, e⟩

end Go.Proofs.YtihedgnachophaaGreat
