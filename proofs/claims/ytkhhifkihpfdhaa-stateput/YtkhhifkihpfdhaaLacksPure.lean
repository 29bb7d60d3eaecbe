/- Who lacks what: a clock that has seen the base, and what it lacks of a log. -/
import Derived.Test.YtkhhifkihpfdhaaLogPure
namespace Go.Proofs.Ytkhhifkihpfdhaa
open Go.RowKit

theorem seenU_iff {u : Upd} {cs : List Int} {n : Int} (hw : wrongU u n = 0) (hl : (cs.length : Int) = n) : seenU u cs = true ↔ entU u + 1 ≤ cs.getD u.author.toNat 0 := by
  obtain ⟨hcc, h1, h2, h3⟩ := wrongU_right hw
  unfold seenU hasC
  rw [decide_eq_true_iff]
  exact ⟨fun h => h.2.2, fun h => ⟨h1, by omega, h⟩⟩
/-- Who has seen all lacks nothing. -/
theorem lacks_none {n : Int} {cs : List Int} (hl : (cs.length : Int) = n) : ∀ (l : List Upd) {xs : List Int}, wrongC xs n = 0 → errL n xs l = 0 → (∀ i, xs.getD i 0 ≤ cs.getD i 0) →
    ((∀ i, (tickL xs l).getD i 0 ≤ cs.getD i 0) ↔ lacksL l cs = [])
  | [], xs, _, _, h => ⟨fun _ => rfl, fun _ => h⟩
  | u :: r, xs, hg, he, h => by
    obtain ⟨hw, hr⟩ := errL_cons he
    obtain ⟨hg', ht⟩ := fits_tick hg hw
    obtain ⟨hwu, hent, -⟩ := (fits_iff hg).1 hw
    have hs := seenU_iff hwu hl
    rw [tickL]
    by_cases hsu : seenU u cs = true
    · have hm : ∀ i, (tickC xs u.author).getD i 0 ≤ cs.getD i 0 := by
        intro i
        rw [ht i]
        have := h i
        have := hs.1 hsu
        split
        · next e => rw [e, hent]; exact this
        · exact h i
      rw [lacks_none hl r hg' hr hm]
      unfold lacksL
      rw [List.filter_cons, hsu]
      simp
    · have h2 := (tickL_good r hg' hr).2 u.author.toNat
      rw [ht, if_pos rfl, hent] at h2
      rw [hs] at hsu
      constructor
      · intro hh
        have := hh u.author.toNat
        omega
      · intro hh
        unfold lacksL at hh
        have : seenU u cs = false := by
          cases hx : seenU u cs
          · rfl
          · exact absurd (hs.1 hx) hsu
        rw [List.filter_cons, this] at hh
        simp at hh
/-- What it lacks takes it to what both come to. -/
theorem lacks_join {n : Int} {cs : List Int} (hc : wrongC cs n = 0) : ∀ (l : List Upd) {xs ds : List Int}, wrongC xs n = 0 → errL n xs l = 0 → ds.length = cs.length → (∀ i, ds.getD i 0 = joinI (cs.getD i 0) (xs.getD i 0)) →
    ∀ i, (tickL ds (lacksL l cs)).getD i 0 = joinI (cs.getD i 0) ((tickL xs l).getD i 0)
  | [], xs, ds, _, _, _, h => h
  | u :: r, xs, ds, hg, he, hdl, h => by
    obtain ⟨hw, hr⟩ := errL_cons he
    obtain ⟨hg', ht⟩ := fits_tick hg hw
    obtain ⟨hwu, hent, -⟩ := (fits_iff hg).1 hw
    obtain ⟨-, a1, a2, -⟩ := wrongU_right hwu
    obtain ⟨-, -, c3, c4⟩ := goodC_iff.1 hc
    obtain ⟨-, -, -, g4⟩ := goodC_iff.1 hg
    have hs := seenU_iff hwu c3
    rw [tickL]
    by_cases hsu : seenU u cs = true
    · have e : lacksL (u :: r) cs = lacksL r cs := by unfold lacksL; rw [List.filter_cons, hsu]; simp
      rw [e]
      refine lacks_join hc r hg' hr hdl (fun i => ?_)
      rw [h i, ht i]
      split
      · next e =>
        subst e
        have := hs.1 hsu
        unfold joinI
        rw [if_neg (by omega), if_neg (by omega)]
      · rfl
    · have hf : seenU u cs = false := by
        cases hx : seenU u cs
        · rfl
        · exact absurd hx hsu
      have e : lacksL (u :: r) cs = u :: lacksL r cs := by unfold lacksL; rw [List.filter_cons, hf]; simp
      rw [e, tickL]
      rw [hs] at hsu
      have hda : ds.getD u.author.toNat 0 = xs.getD u.author.toNat 0 := by
        rw [h]; unfold joinI; split <;> omega
      refine lacks_join hc r hg' hr (by rw [tickC_length]; exact hdl) (fun i => ?_)
      rw [tickC_getD a1 (by omega) (by rw [hda]; exact g4 _) i, ht i]
      split
      · next e =>
        subst e
        rw [hda]
        unfold joinI
        split <;> omega
      · exact h i
theorem eq_getD {xs ys : List Int} (hl : xs.length = ys.length) (h : ∀ i, xs.getD i 0 = ys.getD i 0) : xs = ys := by
  apply List.ext_getElem hl
  intro i h1 h2
  have := h i
  rwa [getD_at h1, getD_at h2] at this

/-- All that the statement asks of lists. -/
theorem lacks_all {xs cs : List Int} {l : List Upd} {n : Int} (hE : clockE xs l n = 0) (hc : wrongC cs n = 0) (hsee : seesC cs xs = true) :
    seesC cs (clockX xs l n) = decide (((lacksL l cs).length : Int) = 0) ∧ (clockE cs (lacksL l cs) n = 0 → clockX cs (lacksL l cs) n = joinC cs (clockX xs l n)) := by
  obtain ⟨g1, g2, g3⟩ := clockE_ok.1 hE
  obtain ⟨e1, -⟩ := clock_ok hE
  obtain ⟨w1, w2⟩ := tickL_good l g1 g3
  obtain ⟨-, -, c3, c4⟩ := goodC_iff.1 hc
  obtain ⟨-, -, x3, -⟩ := goodC_iff.1 g1
  rw [e1]
  have hse := seesC_iff.1 hsee
  refine ⟨?_, fun h => ?_⟩
  · rw [Bool.eq_iff_iff, seesC_iff, lacks_none c3 l g1 g3 hse, decide_eq_true_iff]
    constructor
    · intro h; rw [h]; rfl
    · intro h; exact List.eq_nil_of_length_eq_zero (by omega)
  · obtain ⟨e2, -⟩ := clock_ok h
    rw [e2]
    refine eq_getD ?_ (fun i => ?_)
    · rw [tickL_length, joinC_length]
      have : (tickL xs l).length = xs.length := tickL_length l xs
      unfold lenM
      split <;> omega
    · rw [joinC_getD]
      refine lacks_join hc l g1 g3 rfl (fun i => ?_) i
      have := hse i
      unfold joinI
      rw [if_neg (by omega)]
theorem small_all {n : Int} : ∀ (l : List Upd) {xs : List Int}, errL n xs l = 0 → ∀ u ∈ l, wrongU u n = 0
  | [], _, _, u, hu => by simp at hu
  | v :: r, xs, h, u, hu => by
    obtain ⟨hw, hr⟩ := errL_cons h
    rcases List.mem_cons.1 hu with rfl | hu
    · unfold wrongL at hw
      split at hw
      · assumption
      · exact hw
    · exact small_all r hr u hu
end Go.Proofs.Ytkhhifkihpfdhaa
