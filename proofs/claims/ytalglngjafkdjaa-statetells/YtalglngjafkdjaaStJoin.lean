/- What is read of a state, and what one update that has seen all does to it. (Ahead of chapter 4's code: lists alone.) -/
import Derived.Test.YtalglngjafkdjaaStPure
namespace Go.Proofs.Ytalglngjafkdjaa
open Go.RowKit

/-- Each one once, where equal ones stand beside each other. -/
def dedupA : List Int → List Int
  | [] => []
  | x :: r => match dedupA r with
    | [] => [x]
    | y :: q => if x = y then y :: q else x :: y :: q
theorem mem_dedupA {z : Int} : ∀ {l : List Int}, z ∈ dedupA l ↔ z ∈ l
  | [] => by simp [dedupA]
  | x :: r => by
    have ih := mem_dedupA (z := z) (l := r)
    unfold dedupA
    split
    · next h =>
      rw [h] at ih
      rw [List.mem_cons, List.mem_cons, ← ih]
    · next y q h =>
      rw [h] at ih
      split
      · next e =>
        subst e
        rw [ih, List.mem_cons]
        constructor
        · exact fun h => .inr h
        · rintro (rfl | h)
          · exact ih.1 (by simp)
          · exact h
      · rw [List.mem_cons, ih, List.mem_cons]
/-- Lives of a register, or of a set. -/
def ofKey (s : Bool) (k : Int) (lv : List Live) : List Live := lv.filter fun x => (x.set == s) && decide (x.key = k)
/-- Their items. -/
def itemsOf (s : Bool) (k : Int) (lv : List Live) : List Int := dedupA ((ofKey s k lv).map (·.item))
theorem mem_ofKey {s : Bool} {k : Int} {lv : List Live} {x : Live} : x ∈ ofKey s k lv ↔ x ∈ lv ∧ x.set = s ∧ x.key = k := by
  unfold ofKey
  rw [List.mem_filter]
  simp
theorem mem_itemsOf {s : Bool} {k i : Int} {lv : List Live} : i ∈ itemsOf s k lv ↔ ∃ x ∈ lv, x.set = s ∧ x.key = k ∧ x.item = i := by
  unfold itemsOf
  rw [mem_dedupA, List.mem_map]
  constructor
  · rintro ⟨x, hx, rfl⟩
    obtain ⟨h1, h2, h3⟩ := mem_ofKey.1 hx
    exact ⟨x, h1, h2, h3, rfl⟩
  · rintro ⟨x, h1, h2, h3, h4⟩
    exact ⟨x, mem_ofKey.2 ⟨h1, h2, h3⟩, h4⟩
theorem inOrder_filter {lv : List Live} (p : Live → Bool) (h : InOrder lv) : InOrder (lv.filter p) := List.Pairwise.filter _ h

/-- One who has seen all has seen each that stays. -/
theorem seen_all {c : List Int} {lv : List Live} (hb : Bound c lv) {x : Live} (hx : x ∈ lv) : hasC c x.author x.seq = true := by
  obtain ⟨h1, h2, h3⟩ := hb x hx
  unfold hasC
  rw [decide_eq_true_iff]
  exact ⟨h1, h2, h3⟩
theorem ends_iff {u : Upd} {x : Live} (h : hasC u.seen x.author x.seq = true) : endsB u x = true ↔ (u.kind = 1 ∨ u.kind = 2 ∨ u.kind = 4) ∧ decide (u.kind = 4) = x.set ∧ u.key = x.key ∧ (x.set = true → u.item = x.item) := by
  unfold endsB
  rw [h]
  cases hs : x.set <;> simp <;> omega

section
variable {n : Int} {c : List Int} {lv : List Live} {ts : List Tal} {u : Upd}
/-- Who puts finds it alone. -/
theorem put_alone (hs : OkS n c lv ts) (hw : wrongL u c n = 0) (hu : u.seen = c) (hk : u.kind = 1) : itemsOf false u.key (applyLv lv u) = [u.item] := by
  obtain ⟨-, ho⟩ := apply_bound hs.clock hw hs.bound hs.order
  have hnew : newL u = some ⟨false, u.key, u.item, u.author, entU u + 1⟩ := by unfold newL; rw [if_pos (.inl hk)]; simp [hk]
  have hof : ofKey false u.key (applyLv lv u) = [⟨false, u.key, u.item, u.author, entU u + 1⟩] := by
    refine inOrder_ext (inOrder_filter _ ho) (by simp [InOrder]) (fun x => ?_)
    rw [mem_ofKey, mem_applyLv, hnew]
    constructor
    · rintro ⟨h | ⟨h1, h2⟩, h3, h4⟩
      · simp only [Option.some.injEq] at h
        simp [h]
      · have := (ends_iff (u := u) (x := x) (by rw [hu]; exact seen_all hs.bound h1)).2 ⟨.inl hk, by rw [h3, hk]; rfl, h4.symm, fun h => by rw [h3] at h; cases h⟩
        rw [this] at h2
        cases h2
    · intro h
      simp only [List.mem_singleton] at h
      subst h
      exact ⟨.inl rfl, rfl, rfl⟩
  unfold itemsOf
  rw [hof]
  rfl
/-- Who clears finds nothing. -/
theorem clear_none (hs : OkS n c lv ts) (hu : u.seen = c) (hk : u.kind = 2) : itemsOf false u.key (applyLv lv u) = [] := by
  have hnew : newL u = none := by unfold newL; rw [if_neg (by omega)]
  apply List.eq_nil_iff_forall_not_mem.2
  intro i hi
  obtain ⟨x, h1, h2, h3, -⟩ := mem_itemsOf.1 hi
  rcases mem_applyLv.1 h1 with h | ⟨h4, h5⟩
  · rw [hnew] at h; cases h
  · have := (ends_iff (u := u) (x := x) (by rw [hu]; exact seen_all hs.bound h4)).2 ⟨.inr (.inl hk), by rw [h2, hk]; rfl, h3.symm, fun h => by rw [h2] at h; cases h⟩
    rw [this] at h5
    cases h5
/-- Who adds finds it. -/
theorem add_there (hk : u.kind = 3) : u.item ∈ itemsOf true u.key (applyLv lv u) := by
  refine mem_itemsOf.2 ⟨⟨true, u.key, u.item, u.author, entU u + 1⟩, mem_applyLv.2 (.inl ?_), rfl, rfl, rfl⟩
  unfold newL
  rw [if_pos (.inr hk)]
  simp [hk]
/-- Who removes finds it no more. -/
theorem remove_gone (hs : OkS n c lv ts) (hu : u.seen = c) (hk : u.kind = 4) : u.item ∉ itemsOf true u.key (applyLv lv u) := by
  intro hi
  have hnew : newL u = none := by unfold newL; rw [if_neg (by omega)]
  obtain ⟨x, h1, h2, h3, h6⟩ := mem_itemsOf.1 hi
  rcases mem_applyLv.1 h1 with h | ⟨h4, h5⟩
  · rw [hnew] at h; cases h
  · have := (ends_iff (u := u) (x := x) (by rw [hu]; exact seen_all hs.bound h4)).2 ⟨.inr (.inr hk), by rw [h2, hk]; rfl, h3.symm, fun _ => h6.symm⟩
    rw [this] at h5
    cases h5
/-- Sets are no other ones behind a Put. -/
theorem put_sets (hs : OkS n c lv ts) (hw : wrongL u c n = 0) (hk : u.kind = 1) : (applyLv lv u).filter (fun x => x.set) = lv.filter (fun x => x.set) := by
  obtain ⟨-, ho⟩ := apply_bound hs.clock hw hs.bound hs.order
  refine inOrder_ext (inOrder_filter _ ho) (inOrder_filter _ hs.order) (fun x => ?_)
  rw [List.mem_filter, List.mem_filter, mem_applyLv]
  have hnew : newL u = some ⟨false, u.key, u.item, u.author, entU u + 1⟩ := by unfold newL; rw [if_pos (.inl hk)]; simp [hk]
  constructor
  · rintro ⟨h | ⟨h, -⟩, h2⟩
    · rw [hnew] at h
      simp only [Option.some.injEq] at h
      subst h
      cases h2
    · exact ⟨h, h2⟩
  · rintro ⟨h, h2⟩
    refine ⟨.inr ⟨h, ?_⟩, h2⟩
    have h3 : x.set = true := h2
    unfold endsB
    rw [h3, hk]
    simp
/-- Who counts changes no lives. -/
theorem count_lives (hk : u.kind = 5) : applyLv lv u = lv := by
  have hnew : newL u = none := by unfold newL; rw [if_neg (by omega)]
  unfold applyLv
  rw [hnew]
  refine List.filter_eq_self.2 (fun x _ => ?_)
  unfold endsB
  rw [hk]
  simp
end

/-- The sum of a key. -/
def sumK : List Tal → Int → Int
  | [], _ => 0
  | t :: r, k => (if t.key = k then t.sum else 0) + sumK r k
theorem sumK_addT {k a d : Int} : ∀ (l : List Tal) (k' : Int), sumK (addT k a d l) k' = sumK l k' + if k' = k then d else 0
  | [], k' => by
    unfold addT
    split
    · next hd => subst hd; simp [sumK]
    · simp only [sumK]
      split <;> split <;> omega
  | t :: r, k' => by
    unfold addT
    split
    · next e =>
      split
      · rw [sumK]
        split <;> split <;> omega
      · rw [sumK, sumK]
        simp only
        split <;> split <;> omega
    · split
      · split
        · next hd => subst hd; split <;> omega
        · rw [sumK]
          simp only
          split <;> split <;> omega
      · rw [sumK, sumK, sumK_addT r k']
        omega
/-- Who counts finds so much more. -/
theorem count_more {ts : List Tal} {u : Upd} (hk : u.kind = 5) (k : Int) : sumK (applyT ts u) k = sumK ts k + if k = u.key then u.item else 0 := by
  unfold applyT
  rw [if_pos hk]
  exact sumK_addT ts k
end Go.Proofs.Ytalglngjafkdjaa
/- Put together is played together: of two who played some updates of one log each. (Ahead of chapter 5's code: lists alone.) -/
namespace Go.Proofs.Ytalglngjafkdjaa
open Go.RowKit

/-- Is an update among the first so many of its author's? -/
def mineB (a : List Int) (u : Upd) : Bool := decide (entU u < a.getD u.author.toNat 0)
def mine (a : List Int) (l : List Upd) : List Upd := l.filter (mineB a)
theorem mem_mine {a : List Int} {l : List Upd} {u : Upd} : u ∈ mine a l ↔ u ∈ l ∧ entU u < a.getD u.author.toNat 0 := by
  unfold mine mineB
  rw [List.mem_filter]
  simp
/-- What those that are in saw is in. -/
def Closed (a : List Int) (l : List Upd) : Prop := ∀ u ∈ l, entU u < a.getD u.author.toNat 0 → ∀ i, u.seen.getD i 0 ≤ a.getD i 0

theorem min_good {n : Int} {a xs ds : List Int} (ha : wrongC a n = 0) (hg : wrongC xs n = 0) (hl : ds.length = xs.length) (hd : ∀ i, ds.getD i 0 = min (xs.getD i 0) (a.getD i 0)) : wrongC ds n = 0 := by
  obtain ⟨g1, g2, g3, g4⟩ := goodC_iff.1 hg
  obtain ⟨-, -, -, a4⟩ := goodC_iff.1 ha
  refine goodC_iff.2 ⟨g1, g2, by omega, fun i => ?_⟩
  have := g4 i
  have := a4 i
  rw [hd i]
  omega
theorem mine_step {n : Int} {a xs ds : List Int} {u : Upd} (ha : wrongC a n = 0) (hg : wrongC xs n = 0) (hw : wrongL u xs n = 0) (hl : ds.length = xs.length) (hd : ∀ i, ds.getD i 0 = min (xs.getD i 0) (a.getD i 0)) :
    (entU u < a.getD u.author.toNat 0 → ∀ i, (tickC ds u.author).getD i 0 = min ((tickC xs u.author).getD i 0) (a.getD i 0)) ∧
    (¬ entU u < a.getD u.author.toNat 0 → ∀ i, ds.getD i 0 = min ((tickC xs u.author).getD i 0) (a.getD i 0)) := by
  obtain ⟨-, ht⟩ := fits_tick hg hw
  obtain ⟨hwu, hent, -⟩ := (fits_iff hg).1 hw
  obtain ⟨-, a1, a2, -⟩ := wrongU_right hwu
  obtain ⟨-, -, g3, -⟩ := goodC_iff.1 hg
  have gd := min_good ha hg hl hd
  obtain ⟨-, -, -, d4⟩ := goodC_iff.1 gd
  constructor
  · intro hlt i
    rw [tickC_getD a1 (by omega) (d4 _) i, ht i, hd i]
    split
    · next e => subst e; omega
    · rfl
  · intro hlt i
    rw [ht i, hd i]
    split
    · next e => subst e; omega
    · rfl
theorem mine_clock {n : Int} {a : List Int} (ha : wrongC a n = 0) : ∀ (l : List Upd) {xs ds : List Int}, wrongC xs n = 0 → errL n xs l = 0 → ds.length = xs.length → (∀ i, ds.getD i 0 = min (xs.getD i 0) (a.getD i 0)) →
    ∀ i, (tickL ds (mine a l)).getD i 0 = min ((tickL xs l).getD i 0) (a.getD i 0)
  | [], _, _, _, _, _, hd => hd
  | u :: r, xs, ds, hg, he, hl, hd => by
    obtain ⟨hw, hr⟩ := errL_cons he
    obtain ⟨g', -⟩ := fits_tick hg hw
    obtain ⟨s1, s2⟩ := mine_step ha hg hw hl hd
    rw [tickL]
    by_cases hlt : entU u < a.getD u.author.toNat 0
    · have e : mine a (u :: r) = u :: mine a r := by unfold mine mineB; rw [List.filter_cons, decide_eq_true hlt]; rfl
      rw [e, tickL]
      exact mine_clock ha r g' hr (by rw [tickC_length, tickC_length]; exact hl) (s1 hlt)
    · have e : mine a (u :: r) = mine a r := by unfold mine mineB; rw [List.filter_cons, decide_eq_false hlt]; rfl
      rw [e]
      exact mine_clock ha r g' hr (by rw [tickC_length]; exact hl) (s2 hlt)
theorem mine_fits {n : Int} {a : List Int} (ha : wrongC a n = 0) : ∀ (l : List Upd) {xs ds : List Int}, wrongC xs n = 0 → errL n xs l = 0 → ds.length = xs.length → (∀ i, ds.getD i 0 = min (xs.getD i 0) (a.getD i 0)) →
    (errL n ds (mine a l) = 0 ↔ Closed a l)
  | [], _, _, _, _, _, _ => ⟨fun _ u hu => by simp at hu, fun _ => rfl⟩
  | u :: r, xs, ds, hg, he, hl, hd => by
    obtain ⟨hw, hr⟩ := errL_cons he
    obtain ⟨g', -⟩ := fits_tick hg hw
    obtain ⟨hwu, hent, hsee⟩ := (fits_iff hg).1 hw
    obtain ⟨s1, s2⟩ := mine_step ha hg hw hl hd
    have gd := min_good ha hg hl hd
    by_cases hlt : entU u < a.getD u.author.toNat 0
    · have e : mine a (u :: r) = u :: mine a r := by unfold mine mineB; rw [List.filter_cons, decide_eq_true hlt]; rfl
      have ih := mine_fits ha r g' hr (by rw [tickC_length, tickC_length]; exact hl) (s1 hlt)
      have hfit : wrongL u ds n = 0 ↔ ∀ i, u.seen.getD i 0 ≤ a.getD i 0 := by
        rw [fits_iff gd]
        constructor
        · rintro ⟨-, -, h⟩ i
          have := h i
          rw [hd i] at this
          omega
        · intro h
          refine ⟨hwu, by rw [hd]; omega, fun i => ?_⟩
          have h1 := h i
          have h2 := hsee i
          rw [hd i]
          omega
      rw [e]
      constructor
      · intro h
        obtain ⟨h1, h2⟩ := errL_cons h
        have h3 := ih.1 h2
        intro v hv hlv
        rcases List.mem_cons.1 hv with rfl | hv
        · exact hfit.1 h1
        · exact h3 v hv hlv
      · intro h
        rw [errL, if_pos (hfit.2 (h u (by simp) hlt))]
        exact ih.2 (fun v hv => h v (List.mem_cons_of_mem _ hv))
    · have e : mine a (u :: r) = mine a r := by unfold mine mineB; rw [List.filter_cons, decide_eq_false hlt]; rfl
      have ih := mine_fits ha r g' hr (by rw [tickC_length]; exact hl) (s2 hlt)
      rw [e, ih]
      constructor
      · intro h v hv hlv
        rcases List.mem_cons.1 hv with rfl | hv
        · exact absurd hlv hlt
        · exact h v hv hlv
      · exact fun h v hv => h v (List.mem_cons_of_mem _ hv)

/-- Nothing was seen. -/
def zeroC (n : Nat) : List Int := List.replicate n 0
theorem zeroC_getD (n i : Nat) : (zeroC n).getD i 0 = 0 := by
  unfold zeroC
  by_cases h : i < n
  · simp [List.getD, h]
  · exact getD_past (by simp; omega)
theorem zeroC_good {n : Int} {a : List Int} (ha : wrongC a n = 0) : wrongC (zeroC n.toNat) n = 0 := by
  obtain ⟨a1, a2, -, -⟩ := goodC_iff.1 ha
  refine goodC_iff.2 ⟨a1, a2, by simp [zeroC]; omega, fun i => ?_⟩
  rw [zeroC_getD]
  omega
section
variable {n : Int} {a b : List Int} {l : List Upd}
theorem of_fits (ha : wrongC a n = 0) (hl : errL n (zeroC n.toNat) l = 0) : errL n (zeroC n.toNat) (mine a l) = 0 ↔ Closed a l :=
  mine_fits ha l (zeroC_good ha) hl rfl (fun i => by rw [zeroC_getD]; have := (goodC_iff.1 ha).2.2.2 i; omega)
theorem of_clock (ha : wrongC a n = 0) (hl : errL n (zeroC n.toNat) l = 0) (i : Nat) : (tickL (zeroC n.toNat) (mine a l)).getD i 0 = min ((tickL (zeroC n.toNat) l).getD i 0) (a.getD i 0) :=
  mine_clock ha l (zeroC_good ha) hl rfl (fun i => by rw [zeroC_getD]; have := (goodC_iff.1 ha).2.2.2 i; omega) i
theorem bound_nil (c : List Int) : Bound c [] := fun x hx => by simp at hx

theorem join_good (ha : wrongC a n = 0) (hb : wrongC b n = 0) : wrongC (joinC a b) n = 0 := by
  obtain ⟨a1, a2, a3, a4⟩ := goodC_iff.1 ha
  obtain ⟨-, -, b3, b4⟩ := goodC_iff.1 hb
  refine goodC_iff.2 ⟨a1, a2, ?_, fun i => ?_⟩
  · rw [joinC_length]
    unfold lenM
    split <;> omega
  · rw [joinC_getD]
    have := a4 i
    have := b4 i
    unfold joinI
    split <;> omega
theorem mine_join {u : Upd} : entU u < (joinC a b).getD u.author.toNat 0 ↔ entU u < a.getD u.author.toNat 0 ∨ entU u < b.getD u.author.toNat 0 := by
  rw [joinC_getD]
  unfold joinI
  split <;> omega
theorem closed_join (ha : Closed a l) (hb : Closed b l) : Closed (joinC a b) l := by
  intro u hu hlt i
  rw [joinC_getD]
  rcases mine_join.1 hlt with h | h
  · have := ha u hu h i
    unfold joinI
    split <;> omega
  · have := hb u hu h i
    unfold joinI
    split <;> omega

/-- How many there are of an author's. -/
theorem entry_lt (hz : wrongC (zeroC n.toNat) n = 0) (hl : errL n (zeroC n.toNat) l = 0) {u : Upd} (hu : u ∈ l) : entU u + 1 ≤ (tickL (zeroC n.toNat) l).getD u.author.toNat 0 := by
  obtain ⟨p, q, rfl⟩ := List.append_of_mem hu
  obtain ⟨hp, hq⟩ := errL_split hl
  obtain ⟨gC, -⟩ := tickL_good p hz hp
  obtain ⟨hw, hr⟩ := errL_cons hq
  obtain ⟨g', ht⟩ := fits_tick gC hw
  obtain ⟨-, hent, -⟩ := (fits_iff gC).1 hw
  rw [tickL_append, tickL]
  have h1 := (tickL_good q g' hr).2 u.author.toNat
  rw [ht, if_pos rfl] at h1
  omega

/-- What both put together is what all these come to. -/
theorem union_lives (ha : wrongC a n = 0) (hb : wrongC b n = 0) (hl : errL n (zeroC n.toNat) l = 0) (ca : Closed a l) (cb : Closed b l) (x : Live) :
    x ∈ playLv [] (mine (joinC a b) l) ↔
      (x ∈ playLv [] (mine a l) ∧ x ∈ playLv [] (mine b l)) ∨
      (x ∈ playLv [] (mine a l) ∧ ¬ x.seq ≤ (tickL (zeroC n.toNat) (mine b l)).getD x.author.toNat 0) ∨
      (x ∈ playLv [] (mine b l) ∧ ¬ x.seq ≤ (tickL (zeroC n.toNat) (mine a l)).getD x.author.toNat 0) := by
  have hz := zeroC_good ha
  rw [mem_playLv _ hz ((of_fits (join_good ha hb) hl).2 (closed_join ca cb)) (bound_nil _), mem_playLv _ hz ((of_fits ha hl).2 ca) (bound_nil _), mem_playLv _ hz ((of_fits hb hl).2 cb) (bound_nil _),
    of_clock ha hl, of_clock hb hl]
  have nolive : ¬ x ∈ ([] : List Live) := by simp
  -- an update that ends it has seen it
  have ender : ∀ {d : List Int}, Closed d l → ∀ v ∈ l, entU v < d.getD v.author.toNat 0 → endsB v x = true → x.seq ≤ d.getD x.author.toNat 0 := by
    intro d cd v hv hlt he
    have h1 : x.seq ≤ v.seen.getD x.author.toNat 0 := by
      rcases Int.lt_or_le (v.seen.getD x.author.toNat 0) x.seq with h | h
      · rw [not_ends h] at he; cases he
      · exact h
    exact Int.le_trans h1 (cd v hv hlt _)
  constructor
  · rintro ⟨h1 | ⟨u, hu, hn⟩, h2⟩
    · exact absurd h1 nolive
    · obtain ⟨hul, hlt⟩ := mem_mine.1 hu
      obtain ⟨e1, e2⟩ := newL_author hn
      have hzl := entry_lt hz hl hul
      have hA : ∀ v ∈ mine a l, endsB v x = false := fun v hv => h2 v (mem_mine.2 ⟨(mem_mine.1 hv).1, mine_join.2 (.inl (mem_mine.1 hv).2)⟩)
      have hB : ∀ v ∈ mine b l, endsB v x = false := fun v hv => h2 v (mem_mine.2 ⟨(mem_mine.1 hv).1, mine_join.2 (.inr (mem_mine.1 hv).2)⟩)
      by_cases pa : entU u < a.getD u.author.toNat 0
      · by_cases pb : entU u < b.getD u.author.toNat 0
        · exact .inl ⟨⟨.inr ⟨u, mem_mine.2 ⟨hul, pa⟩, hn⟩, hA⟩, ⟨.inr ⟨u, mem_mine.2 ⟨hul, pb⟩, hn⟩, hB⟩⟩
        · refine .inr (.inl ⟨⟨.inr ⟨u, mem_mine.2 ⟨hul, pa⟩, hn⟩, hA⟩, ?_⟩)
          rw [e1, e2]
          omega
      · have pb : entU u < b.getD u.author.toNat 0 := (mine_join.1 hlt).resolve_left pa
        refine .inr (.inr ⟨⟨.inr ⟨u, mem_mine.2 ⟨hul, pb⟩, hn⟩, hB⟩, ?_⟩)
        rw [e1, e2]
        omega
  · rintro (⟨⟨h1 | ⟨u, hu, hn⟩, h2⟩, ⟨-, h4⟩⟩ | ⟨⟨h1 | ⟨u, hu, hn⟩, h2⟩, h3⟩ | ⟨⟨h1 | ⟨u, hu, hn⟩, h2⟩, h3⟩)
    · exact absurd h1 nolive
    · obtain ⟨hul, hlt⟩ := mem_mine.1 hu
      refine ⟨.inr ⟨u, mem_mine.2 ⟨hul, mine_join.2 (.inl hlt)⟩, hn⟩, fun v hv => ?_⟩
      obtain ⟨hvl, hlv⟩ := mem_mine.1 hv
      rcases mine_join.1 hlv with h | h
      · exact h2 v (mem_mine.2 ⟨hvl, h⟩)
      · exact h4 v (mem_mine.2 ⟨hvl, h⟩)
    · exact absurd h1 nolive
    · obtain ⟨hul, hlt⟩ := mem_mine.1 hu
      obtain ⟨e1, e2⟩ := newL_author hn
      have hzl := entry_lt hz hl hul
      refine ⟨.inr ⟨u, mem_mine.2 ⟨hul, mine_join.2 (.inl hlt)⟩, hn⟩, fun v hv => ?_⟩
      obtain ⟨hvl, hlv⟩ := mem_mine.1 hv
      rcases mine_join.1 hlv with h | h
      · exact h2 v (mem_mine.2 ⟨hvl, h⟩)
      · cases he : endsB v x
        · rfl
        · have h5 := ender cb v hvl h he
          rw [e1, e2] at h3 h5
          omega
    · exact absurd h1 nolive
    · obtain ⟨hul, hlt⟩ := mem_mine.1 hu
      obtain ⟨e1, e2⟩ := newL_author hn
      have hzl := entry_lt hz hl hul
      refine ⟨.inr ⟨u, mem_mine.2 ⟨hul, mine_join.2 (.inr hlt)⟩, hn⟩, fun v hv => ?_⟩
      obtain ⟨hvl, hlv⟩ := mem_mine.1 hv
      rcases mine_join.1 hlv with h | h
      · cases he : endsB v x
        · rfl
        · have h5 := ender ca v hvl h he
          rw [e1, e2] at h3 h5
          omega
      · exact h2 v (mem_mine.2 ⟨hvl, h⟩)
theorem sumU_alike {d e : List Int} {k i : Int} : ∀ {l : List Upd}, (∀ u ∈ l, u.author = i → (entU u < d.getD u.author.toNat 0 ↔ entU u < e.getD u.author.toNat 0)) → sumU (mine d l) k i = sumU (mine e l) k i
  | [], _ => rfl
  | u :: r, h => by
    have ih := sumU_alike (d := d) (e := e) (k := k) (i := i) (l := r) (fun v hv => h v (List.mem_cons_of_mem _ hv))
    have hc : u.author ≠ i → cntU u k i = 0 := fun hne => by unfold cntU; rw [if_neg (fun q => hne q.2.2)]
    have hd : sumU (mine d (u :: r)) k i = (if entU u < d.getD u.author.toNat 0 then cntU u k i else 0) + sumU (mine d r) k i := by
      unfold mine mineB
      rw [List.filter_cons]
      split
      · next q => rw [sumU, if_pos (of_decide_eq_true q)]
      · next q => rw [if_neg (fun q2 => q (decide_eq_true q2))]; omega
    have he : sumU (mine e (u :: r)) k i = (if entU u < e.getD u.author.toNat 0 then cntU u k i else 0) + sumU (mine e r) k i := by
      unfold mine mineB
      rw [List.filter_cons]
      split
      · next q => rw [sumU, if_pos (of_decide_eq_true q)]
      · next q => rw [if_neg (fun q2 => q (decide_eq_true q2))]; omega
    rw [hd, he, ih]
    by_cases hi : u.author = i
    · have := h u (by simp) hi
      by_cases hq : entU u < d.getD u.author.toNat 0
      · rw [if_pos hq, if_pos (this.1 hq)]
      · rw [if_neg hq, if_neg (fun q => hq (this.2 q))]
    · rw [hc hi]
      split <;> split <;> rfl
theorem ord_nil : OrdT [] ∧ FullT [] := ⟨List.Pairwise.nil, fun t h => by simp at h⟩
theorem getT_play (l : List Upd) (k i : Int) : getT (playT [] l) k i = sumU l k i := by
  rw [(playT_all l ord_nil.1 ord_nil.2).2.2]
  simp [getT]
/-- Of each author those of the one who has more of theirs. -/
theorem union_tals (ha : wrongC a n = 0) (hb : wrongC b n = 0) (hl : errL n (zeroC n.toNat) l = 0) (k i : Int) :
    getT (playT [] (mine (joinC a b) l)) k i =
      if (tickL (zeroC n.toNat) (mine a l)).getD i.toNat 0 < (tickL (zeroC n.toNat) (mine b l)).getD i.toNat 0 then getT (playT [] (mine b l)) k i else getT (playT [] (mine a l)) k i := by
  have hz := zeroC_good ha
  rw [of_clock ha hl, of_clock hb hl, getT_play, getT_play, getT_play]
  split
  · next hc =>
    refine sumU_alike (fun u hu hi => ?_)
    have := entry_lt hz hl hu
    rw [mine_join]
    rw [hi] at *
    omega
  · next hc =>
    refine sumU_alike (fun u hu hi => ?_)
    have := entry_lt hz hl hu
    rw [mine_join]
    rw [hi] at *
    omega
theorem union_clock (ha : wrongC a n = 0) (hb : wrongC b n = 0) (hl : errL n (zeroC n.toNat) l = 0) :
    tickL (zeroC n.toNat) (mine (joinC a b) l) = joinC (tickL (zeroC n.toNat) (mine a l)) (tickL (zeroC n.toNat) (mine b l)) := by
  refine eq_getD ?_ (fun i => ?_)
  · rw [joinC_length, tickL_length, lenM, tickL_length, tickL_length]
    simp
  · rw [joinC_getD, of_clock (join_good ha hb) hl, of_clock ha hl, of_clock hb hl, joinC_getD]
    unfold joinI
    split <;> split <;> omega
end
end Go.Proofs.Ytalglngjafkdjaa
