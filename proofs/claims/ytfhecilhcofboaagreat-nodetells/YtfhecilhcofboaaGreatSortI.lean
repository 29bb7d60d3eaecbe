/- log.least: the place of the least author, of those that fit. -/
import Derived.Test.YtfhecilhcofboaaGreatLogC
import Derived.Test.YtfhecilhcofboaaGreatClone
import Derived.Deep.RegionWith
import Derived.Test.YtfhecilhcofboaaGreatLacksPure
namespace Go.Proofs.YtfhecilhcofboaaGreat
open Go.RowKit

section
variable {P : Program} {ops : Array Oper} {Q : Exit → Act → World → Prop} {md : Region.Mode} {S : World → Prop}
theorem take_yes (i d : Nat) (v : Value) {oi : Oper} {fuel : Nat} {listed : Array Bool} {a : Act} {w : World} (hi : ops[i]? = some oi) (hd : oi.dst = some d)
  (hs : Region.noSelect ops = true) (hf : Region.free md ops listed i = true) (hr : (Region.ready md ops listed).contains i = true)
  (hQ : ∀ c a w, Q (.panic c) (a.put oi.dst v) w → Q (.panic c) a w) (hw : Region.wanted oi (yielded ops a.tmps) = true) (hy : ∀ w, S w → (execOp a.eval oi).run P w = .ok (.value v) w) (hS : S w)
  (h : wpAnyH P md ops Q S fuel (listed.setIfInBounds i true) (a.put (some d) v) w) : wpAnyH P md ops Q S (fuel + 1) listed a w :=
 wpAnyH_take hi hs hf hr hQ (Or.inl ⟨hw, hy⟩) hS (by rw [hd]; exact h)
theorem take_skip (i d : Nat) {oi : Oper} {fuel : Nat} {listed : Array Bool} {a : Act} {w : World} (hi : ops[i]? = some oi) (hd : oi.dst = some d)
  (hs : Region.noSelect ops = true) (hf : Region.free md ops listed i = true) (hr : (Region.ready md ops listed).contains i = true)
  (hQ : ∀ c a w, Q (.panic c) (a.put oi.dst undef) w → Q (.panic c) a w) (hw : Region.wanted oi (yielded ops a.tmps) = false) (hS : S w)
  (h : wpAnyH P md ops Q S fuel (listed.setIfInBounds i true) (a.put (some d) undef) w) : wpAnyH P md ops Q S (fuel + 1) listed a w :=
 wpAnyH_take hi hs hf hr hQ (Or.inr ⟨hw, rfl⟩) hS (by rw [hd]; exact h)
theorem ty (i : Nat) (v : Value) {d : Nat} {oi : Oper} {fuel : Nat} {listed : Array Bool} {a a' : Act} {w : World} (h : wpAnyH P md ops Q S fuel (listed.setIfInBounds i true) a' w)
  (hi : ops[i]? = some oi := by rfl) (hd : oi.dst = some d := by rfl)
  (hs : (Region.noSelect ops && (Region.free md ops listed i && (Region.ready md ops listed).contains i)) = true := by kernel_rfl)
  (hQ : ∀ c a w, Q (.panic c) (a.put oi.dst v) w → Q (.panic c) a w := by exact fun _ _ _ h => h) (hw : Region.wanted oi (yielded ops a.tmps) = true := by rfl)
  (hy : ∀ w, S w → (execOp a.eval oi).run P w = .ok (.value v) w := by intro w hSw; (try dsimp only at hSw); go_simp) (hS : S w := by assumption)
  (ha : a.put (some d) v = a' := by simp only [Act.put, put1, put2, put3]; exact rfl) : wpAnyH P md ops Q S (fuel + 1) listed a w := by
 simp only [Bool.and_eq_true] at hs
 exact take_yes i d v hi hd hs.1 hs.2.1 hs.2.2 hQ hw hy hS (by rw [ha]; exact h)
theorem ts (i : Nat) {d : Nat} {oi : Oper} {fuel : Nat} {listed : Array Bool} {a a' : Act} {w : World} (h : wpAnyH P md ops Q S fuel (listed.setIfInBounds i true) a' w)
  (hi : ops[i]? = some oi := by rfl) (hd : oi.dst = some d := by rfl)
  (hs : (Region.noSelect ops && (Region.free md ops listed i && (Region.ready md ops listed).contains i)) = true := by kernel_rfl)
  (hQ : ∀ c a w, Q (.panic c) (a.put oi.dst undef) w → Q (.panic c) a w := by exact fun _ _ _ h => h) (hw : Region.wanted oi (yielded ops a.tmps) = false := by rfl) (hS : S w := by assumption)
  (ha : a.put (some d) undef = a' := by simp only [Act.put, put1, put2, put3]; exact rfl) : wpAnyH P md ops Q S (fuel + 1) listed a w := by
 simp only [Bool.and_eq_true] at hs
 exact take_skip i d hi hd hs.1 hs.2.1 hs.2.2 hQ hw hS (by rw [ha]; exact h)
theorem rgn {id : Nat} {a : Act} {w : World} (hk : ∀ w', Grew w w' → S w') (h : ∀ wd, Grew w wd → S wd → wpAnyH P .any ops Q S ops.size (Array.replicate ops.size false) a wd) (hm : P.follows .mixedOrders = true := by kernel_rfl) :
  (Code.region id ops true).wp P Q a w := wp_region_held_drew hm (hk _ (grew_drew (grew_refl _))) (h _ (grew_drew (grew_refl _)))
theorem wr {fuel : Nat} {listed : Array Bool} {a : Act} {w : World} (i : Nat) {o : Oper}
  (h : ∀ K : Act → World → Prop, Shut (∀ a w, S w → (S w → wpAnyH P md ops Q S fuel (listed.setIfInBounds i true) a w) → K a w) → if Region.wanted o (yielded ops a.tmps) = true then Oper.wp P o a w K Q else K (a.put o.dst undef) w)
  (ho : ops[i]? = some o := by rfl) (hr : Region.ready md ops listed = [i] := by kernel_rfl) : wpAnyH P md ops Q S (fuel + 1) listed a w := wpAnyH_ready hr (by simp) (AllReadyH.cons ho h AllReadyH.nil)
theorem rdc {fuel : Nat} {listed : Array Bool} {a : Act} {w : World} {i : Nat} {o : Oper} {rs : List Nat} (ho : ops[i]? = some o)
  (h : ∀ K : Act → World → Prop, Shut (∀ a w, S w → (S w → wpAnyH P md ops Q S fuel (listed.setIfInBounds i true) a w) → K a w) → if Region.wanted o (yielded ops a.tmps) = true then Oper.wp P o a w K Q else K (a.put o.dst undef) w)
  (hs : AllReadyH P md ops Q S fuel listed a w rs) : AllReadyH P md ops Q S fuel listed a w (i :: rs) := AllReadyH.cons ho h hs
theorem rd1 {fuel : Nat} {listed : Array Bool} {a : Act} {w : World} {i : Nat} {o : Oper} (ho : ops[i]? = some o)
  (h : ∀ K : Act → World → Prop, Shut (∀ a w, S w → (S w → wpAnyH P md ops Q S fuel (listed.setIfInBounds i true) a w) → K a w) → if Region.wanted o (yielded ops a.tmps) = true then Oper.wp P o a w K Q else K (a.put o.dst undef) w) :
  AllReadyH P md ops Q S fuel listed a w [i] := AllReadyH.cons ho h AllReadyH.nil
end

end Go.Proofs.YtfhecilhcofboaaGreat
/- What the loop of log.Sorted holds between two rounds, and how each step of a round turns it. -/
namespace Go.Proofs.YtfhecilhcofboaaGreat
open Go.RowKit

structure SortI (w : World) (gS : Nat) (vl vo cv : Value) (ps qs : List (Upd × Value)) (X : List Int) (W : World) : Prop where
 res : Box W w.heap.size [.int .i64 0, .int .i64 0] 65
 box : Box W gS [cv] 23
 left : OwnP (Row w) W (gS + 1) vl ps
 out : LogO W (gS + 1) vo qs
 ap : ∀ g, vl.ownBlock = some g → vo.ownBlock ≠ some g
 seen : Row w cv X ∨ Own W (gS + 1) cv X
 hB : Below w.heap.size w W
 lt : w.heap.size < gS

theorem SortI.below {w W W' : World} {gS : Nat} {vl vo cv : Value} {ps qs : List (Upd × Value)} {X : List Int} (h : SortI w gS vl vo cv ps qs X W) {B : Nat} (hb : Below B W W') (hB : W.heap.size ≤ B) : SortI w gS vl vo cv ps qs X W' :=
 ⟨h.res.below hb hB, h.box.below hb hB, h.left.step hb hB, h.out.below hb hB, h.ap, or_map h.seen id (fun g => g.below hb hB), h.hB.trans (hb.mono (Nat.le_trans h.hB.size hB)), h.lt⟩
theorem SortI.row {w W : World} {gS : Nat} {vl vo cv : Value} {ps qs : List (Upd × Value)} {X : List Int} (h : SortI w gS vl vo cv ps qs X W) : Row W cv X := by
 rcases h.seen with g | g
 ·exact g.below h.hB (nlr _)
 exact g.row
theorem SortI.log {w W : World} {gS : Nat} {vl vo cv : Value} {ps qs : List (Upd × Value)} {X : List Int} (h : SortI w gS vl vo cv ps qs X W) : LogV W vl (ps.map (·.1)) :=
 h.left.log fun _ _ g => g.below h.hB (nlr _)

theorem SortI.holds {w W : World} {gS g cap m : Nat} {vo cv : Value} {ps qs : List (Upd × Value)} {X : List Int} (h : SortI w gS (.slice (some ⟨g, 0, none⟩) m cap) vo cv ps qs X W) : Holds W g cap ps ∧ m = ps.length ∧ ps.length ≤ cap ∧ cap ≤ maxLen := by
 rcases h.left.1.2 with ⟨e, -⟩ | ⟨g', cap', cur, e, hg', hh, h1, h2, h3, h4⟩
 ·cases e
 simp only [Value.slice.injEq, Option.some.injEq, Addr.mk.injEq, and_true] at e
 obtain ⟨rfl, rfl, rfl⟩ := e
 exact ⟨⟨cur, hh, h3, h4⟩, rfl, h1, h2⟩
end Go.Proofs.YtfhecilhcofboaaGreat
/- log.Sorted: all of a log, one behind the other, at each place of those that fit the one of the least author. -/
namespace Go.Proofs.YtfhecilhcofboaaGreat
open Go.RowKit

end Go.Proofs.YtfhecilhcofboaaGreat
/- Sorted logs as lists: the same clock, the same updates, and sorted again the same. -/
namespace Go.Proofs.YtfhecilhcofboaaGreat
open Go.RowKit

theorem errL_split {n : Int} {xs : List Int} {p q : List Upd} (h : errL n xs (p ++ q) = 0) : errL n xs p = 0 ∧ errL n (tickL xs p) q = 0 := by
 rw [errL_append] at h
 split at h
 ·next h0 => exact ⟨h0, h⟩
 next h0 => exact absurd h h0
end Go.Proofs.YtfhecilhcofboaaGreat
