/- What is read of a state, and what one update that has seen all does to it. (Ahead of chapter 4's code: lists alone.) -/
import Derived.Test.YtfhecilhcofboaaGreatStPure
namespace Go.Proofs.YtfhecilhcofboaaGreat
open Go.RowKit

section
variable {n : Int} {c : List Int} {lv : List Live} {ts : List Tal} {u : Upd}
end

end Go.Proofs.YtfhecilhcofboaaGreat
/- Put together is played together: of two who played some updates of one log each. (Ahead of chapter 5's code: lists alone.) -/
namespace Go.Proofs.YtfhecilhcofboaaGreat
open Go.RowKit

def zeroC (n : Nat) : List Int := List.replicate n 0
section
variable {n : Int} {a b : List Int} {l : List Upd}
theorem join_good (ha : wrongC a n = 0) (hb : wrongC b n = 0) : wrongC (joinC a b) n = 0 := by
 obtain ⟨a1, a2, a3, a4⟩ := goodC_iff.1 ha
 obtain ⟨-, -, b3, b4⟩ := goodC_iff.1 hb
 refine goodC_iff.2 ⟨a1, a2, ?_, fun i => ?_⟩
 ·rw [joinC_length]
  unfold lenM
  split <;> omega
 rw [joinC_getD]
 have := a4 i
 have := b4 i
 unfold joinI
 split <;> omega
end
end Go.Proofs.YtfhecilhcofboaaGreat
