/- log.Sorted: all of a log, one behind the other, at each place of those that fit the one of the least author. -/
import Derived.Test.YtalglngjafkdjaaSortI
import Derived.Deep.RegionWith
namespace Go.Proofs.Ytalglngjafkdjaa
open Go.RowKit

def sortN : Nat → List Int → List Upd → List Upd
  | 0, _, _ => []
  | n + 1, xs, l => match l[leastL xs l]? with
    | some u => u :: sortN n (tickC xs u.author) (l.eraseIdx (leastL xs l))
    | none => []
/-- The log in order. -/
def sortL (xs : List Int) (l : List Upd) : List Upd := sortN l.length xs l
theorem leastL_lt {xs : List Int} {l : List Upd} (h : 0 < l.length) : leastL xs l < l.length := bestL_lt xs l h l.length (Nat.le_refl _)
theorem sortL_step {xs : List Int} {l : List Upd} {u : Upd} (h : 0 < l.length) (hu : l[leastL xs l]? = some u) : sortL xs l = u :: sortL (tickC xs u.author) (l.eraseIdx (leastL xs l)) := by
  have hl : (l.eraseIdx (leastL xs l)).length = l.length - 1 := by rw [List.length_eraseIdx, if_pos (leastL_lt h)]
  unfold sortL
  rw [hl]
  obtain ⟨n, hn⟩ : ∃ n, l.length = n + 1 := ⟨l.length - 1, by omega⟩
  rw [hn, Nat.add_sub_cancel, sortN, hu]
theorem map_erase (ps : List (Upd × Value)) (k : Nat) : (ps.eraseIdx k).map (·.1) = (ps.map (·.1)).eraseIdx k := by
  rw [List.eraseIdx_eq_take_drop_succ, List.eraseIdx_eq_take_drop_succ, List.map_append, List.map_take, List.map_drop]
def lenV : Value → Nat
  | .slice _ n _ => n
  | _ => 0

end Go.Proofs.Ytalglngjafkdjaa
