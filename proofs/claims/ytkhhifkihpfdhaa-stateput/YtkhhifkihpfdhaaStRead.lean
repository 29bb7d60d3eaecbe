/- What is read of a state, and what one update that has seen all does to it. (Ahead of chapter 4's code: lists alone.) -/
import Derived.Test.YtkhhifkihpfdhaaStPure
namespace Go.Proofs.Ytkhhifkihpfdhaa
open Go.RowKit

/-- Each one once, where equal ones stand beside each other. -/
def dedupA : List Int → List Int
  | [] => []
  | x :: r => match dedupA r with
    | [] => [x]
    | y :: q => if x = y then y :: q else x :: y :: q
theorem mem_dedupA {z : Int} : ∀ {l : List Int}, z ∈ dedupA l ↔ z ∈ l
  | [] => by simp [dedupA]
  | x :: r => by
    have ih := mem_dedupA (z := z) (l := r)
    unfold dedupA
    split
    · next h =>
      rw [h] at ih
      rw [List.mem_cons, List.mem_cons, ← ih]
    · next y q h =>
      rw [h] at ih
      split
      · next e =>
        subst e
        rw [ih, List.mem_cons]
        constructor
        · exact fun h => .inr h
        · rintro (rfl | h)
          · exact ih.1 (by simp)
          · exact h
      · rw [List.mem_cons, ih, List.mem_cons]
/-- Lives of a register, or of a set. -/
def ofKey (s : Bool) (k : Int) (lv : List Live) : List Live := lv.filter fun x => (x.set == s) && decide (x.key = k)
/-- Their items. -/
def itemsOf (s : Bool) (k : Int) (lv : List Live) : List Int := dedupA ((ofKey s k lv).map (·.item))
theorem mem_ofKey {s : Bool} {k : Int} {lv : List Live} {x : Live} : x ∈ ofKey s k lv ↔ x ∈ lv ∧ x.set = s ∧ x.key = k := by
  unfold ofKey
  rw [List.mem_filter]
  simp
theorem mem_itemsOf {s : Bool} {k i : Int} {lv : List Live} : i ∈ itemsOf s k lv ↔ ∃ x ∈ lv, x.set = s ∧ x.key = k ∧ x.item = i := by
  unfold itemsOf
  rw [mem_dedupA, List.mem_map]
  constructor
  · rintro ⟨x, hx, rfl⟩
    obtain ⟨h1, h2, h3⟩ := mem_ofKey.1 hx
    exact ⟨x, h1, h2, h3, rfl⟩
  · rintro ⟨x, h1, h2, h3, h4⟩
    exact ⟨x, mem_ofKey.2 ⟨h1, h2, h3⟩, h4⟩
theorem inOrder_filter {lv : List Live} (p : Live → Bool) (h : InOrder lv) : InOrder (lv.filter p) := List.Pairwise.filter _ h

/-- One who has seen all has seen each that stays. -/
theorem seen_all {c : List Int} {lv : List Live} (hb : Bound c lv) {x : Live} (hx : x ∈ lv) : hasC c x.author x.seq = true := by
  obtain ⟨h1, h2, h3⟩ := hb x hx
  unfold hasC
  rw [decide_eq_true_iff]
  exact ⟨h1, h2, h3⟩
theorem ends_iff {u : Upd} {x : Live} (h : hasC u.seen x.author x.seq = true) : endsB u x = true ↔ (u.kind = 1 ∨ u.kind = 2 ∨ u.kind = 4) ∧ decide (u.kind = 4) = x.set ∧ u.key = x.key ∧ (x.set = true → u.item = x.item) := by
  unfold endsB
  rw [h]
  cases hs : x.set <;> simp <;> omega

section
variable {n : Int} {c : List Int} {lv : List Live} {ts : List Tal} {u : Upd}
/-- Who puts finds it alone. -/
theorem put_alone (hs : OkS n c lv ts) (hw : wrongL u c n = 0) (hu : u.seen = c) (hk : u.kind = 1) : itemsOf false u.key (applyLv lv u) = [u.item] := by
  obtain ⟨-, ho⟩ := apply_bound hs.clock hw hs.bound hs.order
  have hnew : newL u = some ⟨false, u.key, u.item, u.author, entU u + 1⟩ := by unfold newL; rw [if_pos (.inl hk)]; simp [hk]
  have hof : ofKey false u.key (applyLv lv u) = [⟨false, u.key, u.item, u.author, entU u + 1⟩] := by
    refine inOrder_ext (inOrder_filter _ ho) (by simp [InOrder]) (fun x => ?_)
    rw [mem_ofKey, mem_applyLv, hnew]
    constructor
    · rintro ⟨h | ⟨h1, h2⟩, h3, h4⟩
      · simp only [Option.some.injEq] at h
        simp [h]
      · have := (ends_iff (u := u) (x := x) (by rw [hu]; exact seen_all hs.bound h1)).2 ⟨.inl hk, by rw [h3, hk]; rfl, h4.symm, fun h => by rw [h3] at h; cases h⟩
        rw [this] at h2
        cases h2
    · intro h
      simp only [List.mem_singleton] at h
      subst h
      exact ⟨.inl rfl, rfl, rfl⟩
  unfold itemsOf
  rw [hof]
  rfl
/-- Who clears finds nothing. -/
theorem clear_none (hs : OkS n c lv ts) (hu : u.seen = c) (hk : u.kind = 2) : itemsOf false u.key (applyLv lv u) = [] := by
  have hnew : newL u = none := by unfold newL; rw [if_neg (by omega)]
  apply List.eq_nil_iff_forall_not_mem.2
  intro i hi
  obtain ⟨x, h1, h2, h3, -⟩ := mem_itemsOf.1 hi
  rcases mem_applyLv.1 h1 with h | ⟨h4, h5⟩
  · rw [hnew] at h; cases h
  · have := (ends_iff (u := u) (x := x) (by rw [hu]; exact seen_all hs.bound h4)).2 ⟨.inr (.inl hk), by rw [h2, hk]; rfl, h3.symm, fun h => by rw [h2] at h; cases h⟩
    rw [this] at h5
    cases h5
/-- Who adds finds it. -/
theorem add_there (hk : u.kind = 3) : u.item ∈ itemsOf true u.key (applyLv lv u) := by
  refine mem_itemsOf.2 ⟨⟨true, u.key, u.item, u.author, entU u + 1⟩, mem_applyLv.2 (.inl ?_), rfl, rfl, rfl⟩
  unfold newL
  rw [if_pos (.inr hk)]
  simp [hk]
/-- Who removes finds it no more. -/
theorem remove_gone (hs : OkS n c lv ts) (hu : u.seen = c) (hk : u.kind = 4) : u.item ∉ itemsOf true u.key (applyLv lv u) := by
  intro hi
  have hnew : newL u = none := by unfold newL; rw [if_neg (by omega)]
  obtain ⟨x, h1, h2, h3, h6⟩ := mem_itemsOf.1 hi
  rcases mem_applyLv.1 h1 with h | ⟨h4, h5⟩
  · rw [hnew] at h; cases h
  · have := (ends_iff (u := u) (x := x) (by rw [hu]; exact seen_all hs.bound h4)).2 ⟨.inr (.inr hk), by rw [h2, hk]; rfl, h3.symm, fun _ => h6.symm⟩
    rw [this] at h5
    cases h5
/-- Sets are no other ones behind a Put. -/
theorem put_sets (hs : OkS n c lv ts) (hw : wrongL u c n = 0) (hk : u.kind = 1) : (applyLv lv u).filter (fun x => x.set) = lv.filter (fun x => x.set) := by
  obtain ⟨-, ho⟩ := apply_bound hs.clock hw hs.bound hs.order
  refine inOrder_ext (inOrder_filter _ ho) (inOrder_filter _ hs.order) (fun x => ?_)
  rw [List.mem_filter, List.mem_filter, mem_applyLv]
  have hnew : newL u = some ⟨false, u.key, u.item, u.author, entU u + 1⟩ := by unfold newL; rw [if_pos (.inl hk)]; simp [hk]
  constructor
  · rintro ⟨h | ⟨h, -⟩, h2⟩
    · rw [hnew] at h
      simp only [Option.some.injEq] at h
      subst h
      cases h2
    · exact ⟨h, h2⟩
  · rintro ⟨h, h2⟩
    refine ⟨.inr ⟨h, ?_⟩, h2⟩
    have h3 : x.set = true := h2
    unfold endsB
    rw [h3, hk]
    simp
/-- Who counts changes no lives. -/
theorem count_lives (hk : u.kind = 5) : applyLv lv u = lv := by
  have hnew : newL u = none := by unfold newL; rw [if_neg (by omega)]
  unfold applyLv
  rw [hnew]
  refine List.filter_eq_self.2 (fun x _ => ?_)
  unfold endsB
  rw [hk]
  simp
end

/-- The sum of a key. -/
def sumK : List Tal → Int → Int
  | [], _ => 0
  | t :: r, k => (if t.key = k then t.sum else 0) + sumK r k
theorem sumK_addT {k a d : Int} : ∀ (l : List Tal) (k' : Int), sumK (addT k a d l) k' = sumK l k' + if k' = k then d else 0
  | [], k' => by
    unfold addT
    split
    · next hd => subst hd; simp [sumK]
    · simp only [sumK]
      split <;> split <;> omega
  | t :: r, k' => by
    unfold addT
    split
    · next e =>
      split
      · rw [sumK]
        split <;> split <;> omega
      · rw [sumK, sumK]
        simp only
        split <;> split <;> omega
    · split
      · split
        · next hd => subst hd; split <;> omega
        · rw [sumK]
          simp only
          split <;> split <;> omega
      · rw [sumK, sumK, sumK_addT r k']
        omega
/-- Who counts finds so much more. -/
theorem count_more {ts : List Tal} {u : Upd} (hk : u.kind = 5) (k : Int) : sumK (applyT ts u) k = sumK ts k + if k = u.key then u.item else 0 := by
  unfold applyT
  rw [if_pos hk]
  exact sumK_addT ts k
end Go.Proofs.Ytkhhifkihpfdhaa
