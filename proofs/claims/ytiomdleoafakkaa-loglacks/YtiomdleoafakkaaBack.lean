/- slices.Backward over a slice of updates: what its iterator hands to a loop. -/
import Derived.RangeFuncNested
import Derived.RangeFuncBound
import Derived.RangeFuncCalls
import Derived.RangeFuncLeaves
import Derived.Shelf.Abstract
import Derived.Shelf.RegionOpen
import Derived.OwnWalkIn
import Derived.TacticsInMore
import Derived.LoopNIn
import Derived.LoopIn
import Derived.Test.YtiomdleoafakkaaLogD
namespace Go.Proofs.Ytiomdleoafakkaa
open Go.RowKit Go.Shelf

attribute [local go_sem] Oper.semAt_some

/-- f (n - 1), .., f m. -/
def down {α : Type} (f : Nat → α) (n m : Nat) : List α := (((List.range n).drop m).reverse).map f
theorem down_all {α : Type} (f : Nat → α) (n : Nat) : down f n n = [] := by simp [down]
theorem down_step {α : Type} (f : Nat → α) {n m : Nat} (h : m < n) : down f n m = down f n (m + 1) ++ [f m] := by
  unfold down
  rw [List.drop_eq_getElem_cons (by simpa using h)]
  simp
theorem down_length {α : Type} (f : Nat → α) (n m : Nat) : (down f n m).length = n - m := by simp [down]

/-- What a round keeps: all that lay below n₀, and the box of the slice. -/
def KeepL (n₀ Bs : Nat) (W W' : World) : Prop := Below n₀ W W' ∧ W'.heap[Bs]? = W.heap[Bs]?
theorem KeepL.refl (n₀ Bs : Nat) (W : World) : KeepL n₀ Bs W W := ⟨Below.refl _ _, rfl⟩
theorem KeepL.trans {n₀ Bs : Nat} {A B C : World} (h : KeepL n₀ Bs A B) (h' : KeepL n₀ Bs B C) : KeepL n₀ Bs A C := ⟨h.1.trans h'.1, h'.2.trans h.2⟩
theorem KeepL.box {n₀ Bs : Nat} {W W' : World} (h : KeepL n₀ Bs W W') : W'.cell? ⟨Bs, 0, none⟩ = W.cell? ⟨Bs, 0, none⟩ := World.cell?_of_block (w := W) h.2

set_option maxRecDepth 100000 in
set_option maxHeartbeats 2000000 in
theorem back1_in {α : Type} (F : Fence) (n : Nat) (hF : F.fn 120) (hro : F.round = none) (hn : 1 ≤ n) (l Bs n₀ b off len cap : Nat) (encs : α → Array Value) (f : Nat → α) (U : Nat → Upd) (sv : Nat → Value) (hlen : len ≤ 1000000) (hb : b < n₀)
    (hE : ∀ j, j < len → encs (f j) = #[.int .i64 (j : Int), .agg #[.int .i64 (U j).author, sv j, .int .i64 (U j).kind, .int .i64 (U j).key, .int .i64 (U j).item]]) (J Jx : List α → World → Prop)
    (hY : ∀ pre x W, J pre W → pre.length < len → YieldAt F (n - 1) Try.prog l (encs x) W fun e W' =>
      (e = .returned (.bool true) ∧ J (pre ++ [x]) W' ∧ KeepL n₀ Bs W W') ∨ (e = .returned (.bool false) ∧ Jx (pre ++ [x]) W'))
    (W : World) (hBs : W.cell? ⟨Bs, 0, none⟩ = some (.slice (some ⟨b, off, none⟩) len cap))
    (hc : ∀ j, j < len → W.cell? ⟨b, off + j * 5, none⟩ = some (.int .i64 (U j).author) ∧ W.cell? ⟨b, off + j * 5 + 1, none⟩ = some (sv j) ∧ W.cell? ⟨b, off + j * 5 + 2, none⟩ = some (.int .i64 (U j).kind) ∧ W.cell? ⟨b, off + j * 5 + 3, none⟩ = some (.int .i64 (U j).key) ∧ W.cell? ⟨b, off + j * 5 + 4, none⟩ = some (.int .i64 (U j).item))
    (hsl : ∀ j, j < len → ∃ a m c, sv j = .slice a m c) (h0 : J [] W) :
    CallsIn F n Try.prog 120 #[.func (.yield l) #[] #[], .pointer (some ⟨Bs, 0, none⟩)] W fun e W' => (∃ v, e = .returned v) ∧
      ((∃ ys, ys = down f len 0 ∧ J ys W') ∨ (∃ pre, (∃ k, k ≤ len ∧ pre = down f len k) ∧ Jx pre W')) := by
  refine callsIn_of_wp Try.func120 rfl hF ?_ hro
  simp only [Try.ntmps120, List.size_toArray, List.length_cons, List.length_nil, Nat.reduceAdd, Nat.reduceSub, Array.replicate_succ, Array.replicate_zero, List.push_toArray, List.append_toArray, List.nil_append, List.cons_append]
  gi_wp2
  gi_loopw [3] (fun i wr => ∃ m : Nat, m ≤ len ∧ i = .int .i64 ((m : Int) - 1) ∧ J (down f len m) wr ∧ KeepL n₀ Bs W wr)
    (fun i _ => (intOf i + 1).toNat)
  case atStart => exact ⟨len, Nat.le_refl _, by go_num, by rw [down_all]; exact h0, KeepL.refl _ _ _⟩
  case round =>
    obtain ⟨m, hm, rfl, hJs, hnx⟩ := hrel
    have hBs' := hnx.box.trans hBs
    have hnb := hnx.1
    cases m with
    | zero =>
      gi_wp2
      go_end0
      exact ⟨⟨_, rfl⟩, .inl ⟨_, rfl, hJs⟩⟩
    | succ m =>
      have hlt : m < len := by omega
      obtain ⟨d0, d1, d2, d3, d4⟩ := hc m hlt
      have c0 := (hnb.cell (p := ⟨b, off + m * 5, none⟩) hb).trans d0
      have c1 := (hnb.cell (p := ⟨b, off + m * 5 + 1, none⟩) hb).trans d1
      have c2 := (hnb.cell (p := ⟨b, off + m * 5 + 2, none⟩) hb).trans d2
      have c3 := (hnb.cell (p := ⟨b, off + m * 5 + 3, none⟩) hb).trans d3
      have c4 := (hnb.cell (p := ⟨b, off + m * 5 + 4, none⟩) hb).trans d4
      obtain ⟨a5, l5, cap5, h5⟩ := hsl m hlt
      have hE' := hE m hlt
      rw [h5] at c1 hE'
      clear d0 d1 d2 d3 d4
      obtain ⟨fn, tmps, assign, body, hy, hR⟩ := hY _ (f m) wr hJs (by rw [down_length]; omega)
      rw [hE'] at hy
      rw [show (((m + 1 : Nat) : Int) - 1) = (m : Int) by omega]
      have hge : (0 : Int) ≤ (m : Int) := by omega
      have hlt' : (m : Int) < (len : Int) := by omega
      gi_wp2
      refine hR.mono ?_
      rintro e W3 (⟨rfl, hJ3, hk3⟩ | ⟨rfl, hJx3⟩)
      · gi_wp2
        go_roundw
        case rel => exact ⟨m, by omega, by go_num, by rw [down_step f hlt]; exact hJ3, hnx.trans hk3⟩
        case measure => simp [intOf]
      · gi_wp2
        refine bodyPost_ret (results_none rfl _ _ _) rfl ?_
        exact ⟨⟨_, rfl⟩, .inr ⟨_, ⟨m, by omega, (down_step f hlt).symm⟩, hJx3⟩⟩

set_option maxHeartbeats 1000000 in
theorem backward_fn (a : Option Addr) (len cap : Nat) (w : World) :
    Calls Try.prog 102 #[.slice a len cap] w fun e w' => e = .returned (.func (.func 120) #[] #[.pointer (some ⟨w.heap.size, 0, none⟩)]) ∧ w' = w.alloc (.cells #[.slice a len cap] 48) := by
  go_enter Try.func102, Try.ntmps102
  go_wp2
  go_ret
  exact ⟨rfl, rfl⟩
end Go.Proofs.Ytiomdleoafakkaa
