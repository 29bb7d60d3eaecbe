/- Sorted logs as lists: the same clock, the same updates, and sorted again the same. -/
import Derived.Test.YtalglngjafkdjaaLacksPure
import Derived.Test.YtalglngjafkdjaaSorted
namespace Go.Proofs.Ytalglngjafkdjaa
open Go.RowKit

theorem errL_split {n : Int} {xs : List Int} {p q : List Upd} (h : errL n xs (p ++ q) = 0) : errL n xs p = 0 ∧ errL n (tickL xs p) q = 0 := by
  rw [errL_append] at h
  split at h
  · next h0 => exact ⟨h0, h⟩
  · next h0 => exact absurd h h0
theorem tick_comm {xs : List Int} {n : Int} {u v : Upd} (hg : wrongC xs n = 0) (hu : wrongL u xs n = 0) (hv : wrongL v xs n = 0) (hu2 : wrongL u (tickC xs v.author) n = 0) (hv2 : wrongL v (tickC xs u.author) n = 0) :
    tickC (tickC xs u.author) v.author = tickC (tickC xs v.author) u.author := by
  obtain ⟨g1, t1⟩ := fits_tick hg hu
  obtain ⟨g2, t2⟩ := fits_tick hg hv
  obtain ⟨-, t3⟩ := fits_tick g1 hv2
  obtain ⟨-, t4⟩ := fits_tick g2 hu2
  refine eq_getD (by simp only [tickC_length]) (fun i => ?_)
  rw [t3 i, t4 i, t1 i, t2 i]
  split <;> split <;> omega

/-- One that fits may come first. -/
theorem move_front {n : Int} (r : List Upd) : ∀ (p : List Upd) {xs : List Int} {u : Upd}, wrongC xs n = 0 → errL n xs (p ++ u :: r) = 0 → wrongL u xs n = 0 →
    errL n (tickC xs u.author) (p ++ r) = 0 ∧ tickL (tickC xs u.author) (p ++ r) = tickL xs (p ++ u :: r)
  | [], xs, u, _, h, _ => ⟨(errL_cons h).2, rfl⟩
  | v :: p, xs, u, hg, h, hu => by
    rw [List.cons_append] at h
    obtain ⟨hv, hr⟩ := errL_cons h
    obtain ⟨gv, tv⟩ := fits_tick hg hv
    obtain ⟨gu, tu⟩ := fits_tick hg hu
    obtain ⟨hp, hq⟩ := errL_split hr
    obtain ⟨gC, mC⟩ := tickL_good p gv hp
    obtain ⟨huC, -⟩ := errL_cons hq
    obtain ⟨u1, u2, u3⟩ := (fits_iff hg).1 hu
    obtain ⟨v1, v2, v3⟩ := (fits_iff hg).1 hv
    obtain ⟨-, u5, -⟩ := (fits_iff gC).1 huC
    have hne : ¬ u.author.toNat = v.author.toNat := by
      intro e
      have h1 := mC u.author.toNat
      have h2 := tv u.author.toNat
      rw [if_pos e] at h2
      omega
    have hu2 : wrongL u (tickC xs v.author) n = 0 := by
      refine (fits_iff gv).2 ⟨u1, ?_, fun i => ?_⟩
      · rw [tv, if_neg hne]; exact u2
      · have := u3 i
        rw [tv i]; split <;> omega
    have hv2 : wrongL v (tickC xs u.author) n = 0 := by
      refine (fits_iff gu).2 ⟨v1, ?_, fun i => ?_⟩
      · rw [tu, if_neg (fun e => hne e.symm)]; exact v2
      · have := v3 i
        rw [tu i]; split <;> omega
    obtain ⟨i1, i2⟩ := move_front r p gv hr hu2
    have hc := tick_comm hg hu hv hu2 hv2
    rw [List.cons_append, errL, if_pos hv2, tickL, hc, List.cons_append, tickL]
    exact ⟨i1, i2⟩

theorem bestL_spec (xs : List Int) (l : List Upd) (h0 : 0 < l.length) : ∀ k, k ≤ l.length → ((bestL xs l k = 0 ∨ ∃ u, l[bestL xs l k]? = some u ∧ fitsB u xs = true) ∧ ∀ j u v, j < k → l[j]? = some u → fitsB u xs = true → l[bestL xs l k]? = some v → v.author ≤ u.author)
  | 0, _ => ⟨.inl rfl, fun j u v hj => by omega⟩
  | k + 1, hk => by
    obtain ⟨i1, i2⟩ := bestL_spec xs l h0 k (by omega)
    obtain ⟨u, hu⟩ : ∃ u, l[k]? = some u := ⟨_, List.getElem?_eq_getElem (by omega)⟩
    obtain ⟨v, hv⟩ : ∃ v, l[bestL xs l k]? = some v := ⟨_, List.getElem?_eq_getElem (bestL_lt xs l h0 k (by omega))⟩
    rw [bestL_step hu hv]
    split
    · next hc =>
      refine ⟨.inr ⟨u, hu, hc.2⟩, fun j u' v' hj hu' hf hv' => ?_⟩
      rw [hu] at hv'
      cases hv'
      rcases Nat.lt_or_ge j k with hlt | hge
      · have := i2 j u' v hlt hu' hf hv
        omega
      · obtain rfl : j = k := by omega
        rw [hu] at hu'
        cases hu'
        omega
    · next hc =>
      refine ⟨i1, fun j u' v' hj hu' hf hv' => ?_⟩
      rcases Nat.lt_or_ge j k with hlt | hge
      · exact i2 j u' v' hlt hu' hf hv'
      · obtain rfl : j = k := by omega
        rw [hu] at hu'
        cases hu'
        rw [hv] at hv'
        cases hv'
        have : ¬ u.author < v.author := fun h => hc ⟨h, hf⟩
        omega
theorem bestL_first {xs : List Int} {u : Upd} {r : List Upd} (h : ∀ v ∈ r, fitsB v xs = true → u.author ≤ v.author) : ∀ k, k ≤ (u :: r).length → bestL xs (u :: r) k = 0
  | 0, _ => rfl
  | k + 1, hk => by
    have ih := bestL_first h k (by omega)
    obtain ⟨v, hv⟩ : ∃ v, (u :: r)[k]? = some v := ⟨_, List.getElem?_eq_getElem (by omega)⟩
    rw [bestL_step (u := v) (v := u) hv (by rw [ih]; rfl), ih, if_neg]
    rintro ⟨h1, h2⟩
    cases k with
    | zero => simp at hv; subst hv; omega
    | succ k =>
      have := h v (List.mem_of_getElem? (by simpa using hv)) h2
      omega

theorem sort_main {n : Int} : ∀ (m : Nat) (l : List Upd), l.length = m → ∀ {xs : List Int}, wrongC xs n = 0 → errL n xs l = 0 →
    errL n xs (sortL xs l) = 0 ∧ tickL xs (sortL xs l) = tickL xs l ∧ (sortL xs l).Perm l ∧ sortL xs (sortL xs l) = sortL xs l := by
  intro m
  induction m with
  | zero =>
    intro l hl xs hg he
    have : l = [] := List.eq_nil_of_length_eq_zero hl
    subst this
    exact ⟨rfl, rfl, List.Perm.refl _, rfl⟩
  | succ m ih =>
    intro l hl xs hg he
    have h0 : 0 < l.length := by omega
    have hK := leastL_lt (xs := xs) h0
    obtain ⟨u, hu⟩ : ∃ u, l[leastL xs l]? = some u := ⟨_, List.getElem?_eq_getElem hK⟩
    obtain ⟨s1, s2⟩ := bestL_spec xs l h0 l.length (Nat.le_refl _)
    have hst := sortL_step h0 hu
    have hsp := split_at hu
    have her : l.eraseIdx (leastL xs l) = l.take (leastL xs l) ++ l.drop (leastL xs l + 1) := List.eraseIdx_eq_take_drop_succ l _
    have hfit : wrongL u xs n = 0 := by
      rcases s1 with hz | ⟨u', hu', hf⟩
      · have hz' : leastL xs l = 0 := hz
        rw [hz'] at hu
        cases l with
        | nil => simp at hu
        | cons v r =>
          simp at hu
          subst hu
          exact (errL_cons he).1
      · have hu'' : l[leastL xs l]? = some u' := hu'
        rw [hu] at hu''
        cases hu''
        unfold wrongL
        rw [if_pos (small_all l he u (List.mem_of_getElem? hu))]
        simpa [fitsB] using hf
    rw [hsp] at he
    obtain ⟨m1, m2⟩ := move_front _ _ hg he hfit
    rw [← hsp] at m2
    rw [← her] at m1 m2
    obtain ⟨g', -⟩ := fits_tick hg hfit
    have hl' : (l.eraseIdx (leastL xs l)).length = m := by rw [List.length_eraseIdx, if_pos hK]; omega
    obtain ⟨i1, i2, i3, i4⟩ := ih _ hl' g' m1
    rw [hst]
    have hperm : (u :: sortL (tickC xs u.author) (l.eraseIdx (leastL xs l))).Perm l := by
      refine (List.Perm.cons u i3).trans ?_
      rw [her]
      have hpm := (List.perm_middle (a := u) (l₁ := l.take (leastL xs l)) (l₂ := l.drop (leastL xs l + 1))).symm
      rw [← hsp] at hpm
      exact hpm
    refine ⟨?_, ?_, hperm, ?_⟩
    · rw [errL, if_pos hfit]; exact i1
    · rw [tickL, i2, m2]
    · have hb : leastL xs (u :: sortL (tickC xs u.author) (l.eraseIdx (leastL xs l))) = 0 := by
        refine bestL_first (fun v hv hf => ?_) _ (Nat.le_refl _)
        have hv2 : v ∈ l := hperm.subset (List.mem_cons_of_mem _ hv)
        obtain ⟨j, hj, hjv⟩ := List.getElem_of_mem hv2
        exact s2 j v u hj (by rw [List.getElem?_eq_getElem hj, hjv]) hf hu
      rw [sortL_step (by simp) (u := u) (by rw [hb]; rfl), hb]
      simp only [List.eraseIdx_zero, List.tail_cons]
      rw [i4]
end Go.Proofs.Ytalglngjafkdjaa
