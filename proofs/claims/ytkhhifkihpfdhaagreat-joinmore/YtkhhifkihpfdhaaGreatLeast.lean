/- log.least: the place of the least author, of those that fit. -/
import Derived.Test.YtkhhifkihpfdhaaGreatLogD
namespace Go.Proofs.YtkhhifkihpfdhaaGreat
open Go.RowKit

/-- Does u fit, where so much was seen? -/
def fitsB (u : Upd) (xs : List Int) : Bool := misfitU u xs == 0
/-- The best place yet, behind the first k. -/
def bestL (xs : List Int) (l : List Upd) : Nat → Nat
  | 0 => 0
  | k + 1 => match l[k]?, l[bestL xs l k]? with
    | some u, some v => if u.author < v.author ∧ fitsB u xs = true then k else bestL xs l k
    | _, _ => bestL xs l k
def leastL (xs : List Int) (l : List Upd) : Nat := bestL xs l l.length
theorem bestL_lt (xs : List Int) (l : List Upd) (h0 : 0 < l.length) : ∀ k, k ≤ l.length → bestL xs l k < l.length
  | 0, _ => h0
  | k + 1, hk => by
    have ih := bestL_lt xs l h0 k (by omega)
    unfold bestL
    split
    · split
      · omega
      · exact ih
    · exact ih
theorem bestL_step {xs : List Int} {l : List Upd} {k : Nat} {u v : Upd} (hu : l[k]? = some u) (hv : l[bestL xs l k]? = some v) : bestL xs l (k + 1) = if u.author < v.author ∧ fitsB u xs = true then k else bestL xs l k := by
  rw [bestL, hu, hv]

section
variable {P : Program} {ops : Array Oper} {Q : Exit → Act → World → Prop} {md : Region.Mode} {S : World → Prop}
/-- An operation of a region that draws: it yields its value wherever S holds. -/
theorem take_yes (i d : Nat) (v : Value) {oi : Oper} {fuel : Nat} {listed : Array Bool} {a : Act} {w : World} (hi : ops[i]? = some oi) (hd : oi.dst = some d)
    (hs : Region.noSelect ops = true) (hf : Region.free md ops listed i = true) (hr : (Region.ready md ops listed).contains i = true)
    (hQ : ∀ c a w, Q (.panic c) (a.put oi.dst v) w → Q (.panic c) a w) (hw : Region.wanted oi (yielded ops a.tmps) = true) (hy : ∀ w, S w → (execOp a.eval oi).run P w = .ok (.value v) w) (hS : S w)
    (h : wpAnyH P md ops Q S fuel (listed.setIfInBounds i true) (a.put (some d) v) w) : wpAnyH P md ops Q S (fuel + 1) listed a w :=
  wpAnyH_take hi hs hf hr hQ (Or.inl ⟨hw, hy⟩) hS (by rw [hd]; exact h)
/-- .. it is guarded, and not wanted. -/
theorem take_skip (i d : Nat) {oi : Oper} {fuel : Nat} {listed : Array Bool} {a : Act} {w : World} (hi : ops[i]? = some oi) (hd : oi.dst = some d)
    (hs : Region.noSelect ops = true) (hf : Region.free md ops listed i = true) (hr : (Region.ready md ops listed).contains i = true)
    (hQ : ∀ c a w, Q (.panic c) (a.put oi.dst undef) w → Q (.panic c) a w) (hw : Region.wanted oi (yielded ops a.tmps) = false) (hS : S w)
    (h : wpAnyH P md ops Q S fuel (listed.setIfInBounds i true) (a.put (some d) undef) w) : wpAnyH P md ops Q S (fuel + 1) listed a w :=
  wpAnyH_take hi hs hf hr hQ (Or.inr ⟨hw, rfl⟩) hS (by rw [hd]; exact h)
end

end Go.Proofs.YtkhhifkihpfdhaaGreat
