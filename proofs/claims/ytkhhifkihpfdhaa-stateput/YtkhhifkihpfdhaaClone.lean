/- slices.Clone of a log: a row of the call's own, with the same updates. -/
import Derived.Test.YtkhhifkihpfdhaaLogD
import Derived.Test.YtkhhifkihpfdhaaGrowAt
namespace Go.Proofs.Ytkhhifkihpfdhaa
open Go.RowKit

theorem addr_addC (b off j : Nat) : (⟨b, off, none⟩ : Addr).add j = ⟨b, off + j, none⟩ := by
  simp only [Addr.add]
  split
  · next e => rw [e]; rfl
  · rfl
/-- The cells of a log, one behind the other. -/
theorem LogV.pairs {w : World} {b off m c : Nat} {l : List Upd} (h : LogV w (.slice (some ⟨b, off, none⟩) m c) l) :
    ∃ ps : List (Upd × Value), ps.map (·.1) = l ∧ (∀ p ∈ ps, Row w p.2 p.1.seen) ∧ ∀ j x, (cellsP ps)[j]? = some x → w.cell? ((⟨b, off, none⟩ : Addr).add j) = some x := by
  suffices hs : ∀ k, k ≤ l.length → ∃ ps : List (Upd × Value), ps.map (·.1) = l.take k ∧ (∀ p ∈ ps, Row w p.2 p.1.seen) ∧ ∀ j x, (cellsP ps)[j]? = some x → w.cell? ((⟨b, off, none⟩ : Addr).add j) = some x by
    obtain ⟨ps, h1, h2, h3⟩ := hs l.length (Nat.le_refl _)
    exact ⟨ps, by rw [h1, List.take_length], h2, h3⟩
  intro k
  induction k with
  | zero => intro _; exact ⟨[], rfl, fun p hp => by simp at hp, fun j x hj => by simp [cellsP] at hj⟩
  | succ k ih =>
    intro hk
    obtain ⟨ps, h1, h2, h3⟩ := ih (by omega)
    obtain ⟨u, hu⟩ : ∃ u, l[k]? = some u := ⟨_, List.getElem?_eq_getElem (by omega)⟩
    obtain ⟨b', off', a5, cap5, e, d0, d1, d2, d3, d4, hrow, -⟩ := h.at hu
    simp only [Option.some.injEq, Addr.mk.injEq, and_true] at e
    obtain ⟨rfl, rfl⟩ := e
    have hpl : ps.length = k := by have := congrArg List.length h1; simp at this; omega
    refine ⟨ps ++ [(u, .slice a5 u.seen.length cap5)], by rw [List.map_append, h1, take_one hu]; rfl, fun p hp => ?_, fun j x hj => ?_⟩
    · rcases List.mem_append.1 hp with hp | hp
      · exact h2 p hp
      · simp at hp; subst hp; exact hrow
    · rw [cellsP_snoc] at hj
      rcases Nat.lt_or_ge j (cellsP ps).length with hlt | hge
      · rw [List.getElem?_append_left hlt] at hj
        exact h3 j x hj
      · rw [List.getElem?_append_right hge] at hj
        rw [cellsP_length, hpl] at hj hge
        obtain ⟨q, rfl⟩ : ∃ q, j = k * 5 + q := ⟨j - k * 5, by omega⟩
        rw [Nat.add_sub_cancel_left] at hj
        rw [addr_addC, ← Nat.add_assoc]
        match q, hj with
        | 0, hj => simp [cellsU] at hj; subst hj; exact d0
        | 1, hj => simp [cellsU] at hj; subst hj; exact d1
        | 2, hj => simp [cellsU] at hj; subst hj; exact d2
        | 3, hj => simp [cellsU] at hj; subst hj; exact d3
        | 4, hj => simp [cellsU] at hj; subst hj; exact d4
        | q + 5, hj => simp [cellsU] at hj

theorem ones_of {w : World} {ps : List (Upd × Value)} (h : ∀ p ∈ ps, Row w p.2 p.1.seen) : ∀ u ∈ cellsP ps, u.oneCell' = true := by
  intro u hu
  obtain ⟨q, hq, hu⟩ := List.mem_flatMap.1 hu
  exact cellsU_one (h q hq).one u hu

set_option maxRecDepth 100000 in
set_option maxHeartbeats 2000000 in
theorem clone_fn (lv : Value) (l : List Upd) (w00 w : World) (hb0 : Below w00.heap.size w00 w) (hl : LogV w00 lv l) (hn : l.length ≤ 1000000) :
    Calls Try.prog 61 #[lv] w fun e w' => ∃ v, e = .returned v ∧ (∃ ps, OwnP (Row w00) w' w.heap.size v ps ∧ ps.map (·.1) = l) ∧ Below w.heap.size w w' := by
  obtain ⟨i0, hi, hz0, hz1, hz2⟩ := info_parts Try.infoUpd
  obtain ⟨a, cap, rfl, -, -, hcell⟩ := id hl
  cases a with
  | none =>
    have h0 : l = [] := by
      cases l with
      | nil => rfl
      | cons u r => obtain ⟨_, _, h, _⟩ := hcell 0 u rfl; cases h
    subst h0
    clear hcell hl
    have heq := Lib.run_eql_slice_nil (P := Try.prog) w 28 47 none 0 cap 0 0 Try.underlying28
    go_enter Try.func61, Try.ntmps61
    go_wp2_with fail
    go_ret
    exact ⟨_, rfl, ⟨[], ⟨World.ownsRow_nil _ _ _ _, fun p hp => by simp at hp⟩, rfl⟩, Below.refl _ _⟩
  | some ad =>
    obtain ⟨ps, hp1, hp2, hp3⟩ : ∃ ps : List (Upd × Value), ps.map (·.1) = l ∧ (∀ p ∈ ps, Row w00 p.2 p.1.seen) ∧ ∀ j x, (cellsP ps)[j]? = some x → w00.cell? (ad.add j) = some x := by
      cases l with
      | nil => exact ⟨[], rfl, fun p hp => by simp at hp, fun j x hj => by simp [cellsP] at hj⟩
      | cons u r =>
        obtain ⟨b, off, e, -⟩ := hcell 0 u rfl
        simp only [Option.some.injEq] at e
        subst e
        exact hl.pairs
    clear hcell hl
    have hpl : ps.length = l.length := by rw [← hp1, List.length_map]
    have hlt : ∀ j x, (cellsP ps)[j]? = some x → (w.alloc (.cells #[] 47)).cell? (ad.add j) = some x := fun j x hj =>
      ((hb0.trans ((Below.plus (Below.refl w.heap.size w) (.cells #[] 47)).mono hb0.size)).cell (World.block_lt_of_cell? w00 _ (hp3 j x hj))).trans (hp3 j x hj)
    have HSRC := hide (Src.ofSlice (P := Try.prog) (w.alloc (.cells #[] 47)) (size := 5) Try.underlying28 ad l.length cap (cellsP ps) (by rw [cellsP_length, hpl]) hlt (ones_of hp2))
    have HP2 := hide hp2
    have HP1 := hide hp1
    have HPL := hide hpl
    obtain ⟨CS, HCS⟩ : ∃ CS, Hid (cellsP ps = CS) := ⟨_, rfl⟩
    rw [HCS.out] at HSRC
    clear hp1 hp2 hp3 hpl hlt
    have heq := Lib.run_eql_slice_nil (P := Try.prog) w 28 47 (some ad) l.length cap 0 0 Try.underlying28
    go_enter Try.func61, Try.ntmps61
    go_wp2_with (at_builtin; refine wpList_append_own_src _ rfl (.tmp 5) (.tmp 6) 28 28 rfl w.heap.size 47 i0 (.agg #[.int .i64 0, .slice none 0 0, .int .i64 0, .int .i64 0, .int .i64 0]) 5 56 Try.underlying28 hi hz0 hz1 hz2 rfl _ 0 [] rfl (World.ownsRow_lit w #[] 0 (Nat.le_refl _) (Nat.zero_le _) rfl) _ rfl l.length CS HSRC.out ?c1 ?c2 (by simp) ?_)
    case c1 => unfold maxLen; omega
    case c2 => omega
    intro v' w1 hown hgrow
    have hb : Below w.heap.size w w1 := (Below.plus (Below.refl w.heap.size w) (.cells #[] 47)).grown hgrow (by simp) (fun k e => by simp [Value.ownBlock] at e; omega)
    have HO : Hid (OwnP (Row w00) w1 w.heap.size v' ps) := ⟨by rw [HPL.out, HCS.out]; simpa using hown, HP2.out⟩
    have HB := hide hb
    clear hown hgrow hb
    go_wp2_with fail
    go_ret
    exact ⟨_, rfl, ⟨ps, HO.out, HP1.out⟩, HB.out⟩
end Go.Proofs.Ytkhhifkihpfdhaa
