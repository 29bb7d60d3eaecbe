/- A state is right just where Wrong says so; how many lives and tallies a right one can have. -/
import Derived.Test.YtkhhifkihpfdhaaStF
namespace Go.Proofs.Ytkhhifkihpfdhaa
open Go.RowKit

theorem pair_mem {α : Type} {R S : α → α → Prop} : ∀ {l : List α}, (∀ a ∈ l, ∀ b ∈ l, R a b → S a b) → l.Pairwise R → l.Pairwise S
  | [], _, _ => List.Pairwise.nil
  | x :: r, h, hp => by
    obtain ⟨h1, h2⟩ := List.pairwise_cons.1 hp
    exact List.pairwise_cons.2 ⟨fun z hz => h x (by simp) z (List.mem_cons_of_mem _ hz) (h1 z hz), pair_mem (fun a ha b hb => h a (List.mem_cons_of_mem _ ha) b (List.mem_cons_of_mem _ hb)) h2⟩
section
variable {α : Type} {wr : α → Int} {cm : α → α → Int}
def chainOk (cm : α → α → Int) : Option α → List α → Prop
  | _, [] => True
  | p, x :: r => notBehind cm p x = false ∧ chainOk cm (some x) r
theorem goE_zero : ∀ (l : List α) (p : Option α), goE wr cm p l = 0 ↔ (∀ x ∈ l, wr x = 0) ∧ chainOk cm p l
  | [], p => by simp [goE, chainOk]
  | x :: r, p => by
    rw [goE, chainOk]
    by_cases h1 : wr x = 0
    · rw [if_neg (by simpa using h1)]
      cases h2 : notBehind cm p x
      · rw [if_neg (by simp), goE_zero r (some x)]
        simp [h1]
      · rw [if_pos rfl]
        simp
    · rw [if_pos h1]
      simp [h1]
theorem chain_pair (tr : ∀ x y z, cm x y < 0 → cm y z < 0 → cm x z < 0) : ∀ (r : List α) (y : α), chainOk cm (some y) r → (y :: r).Pairwise fun a b => cm a b < 0
  | [], y, _ => by simp
  | x :: r, y, h => by
    obtain ⟨h1, h2⟩ := h
    have hyx : cm y x < 0 := by
      simp only [notBehind, decide_eq_false_iff_not] at h1
      omega
    have ih := chain_pair tr r x h2
    obtain ⟨i1, -⟩ := List.pairwise_cons.1 ih
    refine List.pairwise_cons.2 ⟨fun z hz => ?_, ih⟩
    rcases List.mem_cons.1 hz with rfl | hz
    · exact hyx
    · exact tr y x z hyx (i1 z hz)
theorem pair_chain : ∀ (r : List α) (p : Option α), (∀ y, p = some y → ∀ z ∈ r, cm y z < 0) → r.Pairwise (fun a b => cm a b < 0) → chainOk cm p r
  | [], _, _, _ => trivial
  | x :: r, p, hp, h => by
    obtain ⟨h1, h2⟩ := List.pairwise_cons.1 h
    refine ⟨?_, pair_chain r (some x) (fun y hy z hz => by simp only [Option.some.injEq] at hy; subst hy; exact h1 z hz) h2⟩
    cases p with
    | none => rfl
    | some y =>
      have := hp y rfl x (by simp)
      simp only [notBehind, decide_eq_false_iff_not]
      omega
theorem listE_zero (tr : ∀ x y z, cm x y < 0 → cm y z < 0 → cm x z < 0) (l : List α) : listE wr cm l = 0 ↔ (∀ x ∈ l, wr x = 0) ∧ l.Pairwise fun a b => cm a b < 0 := by
  unfold listE
  rw [goE_zero]
  constructor
  · rintro ⟨h1, h2⟩
    refine ⟨h1, ?_⟩
    cases l with
    | nil => simp
    | cons x r => exact chain_pair tr r x h2.2
  · rintro ⟨h1, h2⟩
    exact ⟨h1, pair_chain l none (fun y hy => by cases hy) h2⟩
end
theorem cmpL_tr (x y z : Live) (h : cmpL x y < 0) (h' : cmpL y z < 0) : cmpL x z < 0 := cmpL_lt.2 (ahead_trans (cmpL_lt.1 h) (cmpL_lt.1 h'))
theorem cmpT_tr (x y z : Tal) (h : cmpT x y < 0) (h' : cmpT y z < 0) : cmpT x z < 0 := by
  have h1 := cmpT_lt.1 h
  have h2 := cmpT_lt.1 h'
  refine cmpT_lt.2 ?_
  unfold lessT at *
  omega

theorem wrongLv_zero {c : List Int} {x : Live} : wrongLv c x = 0 ↔ liveOk c.length x ∧ x.seq ≤ c.getD x.author.toNat 0 := by
  unfold liveOk
  rcases wrongLv_ways c x with ⟨h1, h2⟩ | ⟨h0, h1, ⟨h2, h3⟩ | ⟨h2, ⟨h3, h4⟩ | ⟨h3, ⟨h4, h5⟩ | ⟨h4, ⟨h5, h6⟩ | ⟨h5, h6⟩⟩⟩⟩⟩
  · rw [h2]; omega
  · rw [h3]; omega
  · rw [h4]
    simp only [keyB, decide_eq_false_iff_not] at h3
    omega
  · rw [h5]
    simp only [withinB, decide_eq_false_iff_not] at h4
    omega
  · rw [h6]
    simp only [keyB, withinB, hasC, decide_eq_true_eq] at h3 h4 h5
    omega
  · rw [h6]
    simp only [hasC, decide_eq_false_iff_not] at h5
    omega
theorem wrongTl_zero {c : List Int} {t : Tal} : wrongTl c t = 0 ↔ talOk c.length c t ∧ t.sum ≠ 0 := by
  unfold talOk
  rcases wrongTl_ways c t with ⟨h1, h2⟩ | ⟨h0, h1, ⟨h2, h3⟩ | ⟨h2, ⟨h3, h4⟩ | ⟨h3, ⟨h4, h5⟩ | ⟨h4, h5⟩⟩⟩⟩
  · rw [h2]; omega
  · rw [h3]
    simp only [keyB, decide_eq_false_iff_not] at h2
    omega
  · rw [h4]; omega
  · rw [h5]
    simp only [withinB, decide_eq_false_iff_not] at h4
    omega
  · rw [h5]
    simp only [keyB, withinB, decide_eq_true_eq] at h2 h4
    omega
theorem stE_zero {s : StS} {n : Int} : stE s n = 0 ↔ wrongC s.clock n = 0 ∧ listE (wrongLv s.clock) cmpL s.lives = 0 ∧ listE (wrongTl s.clock) cmpT s.tals = 0 := by
  unfold stE
  by_cases h1 : wrongC s.clock n = 0
  · rw [if_neg (by simpa using h1)]
    by_cases h2 : listE (wrongLv s.clock) cmpL s.lives = 0
    · rw [if_neg (by simpa using h2)]
      simp [h1, h2]
    · rw [if_pos h2]
      simp [h2]
  · rw [if_pos h1]
    simp [h1]
/-- Right is what Wrong finds right. -/
theorem stE_ok {s : StS} {n : Int} : stE s n = 0 ↔ OkS n s.clock s.lives s.tals := by
  rw [stE_zero, listE_zero cmpL_tr, listE_zero cmpT_tr]
  constructor
  · rintro ⟨h1, ⟨h2, h3⟩, h4, h5⟩
    obtain ⟨-, -, g3, -⟩ := wrongC_ok h1
    refine ⟨h1, fun x hx => ?_, fun x hx => ?_, ?_, fun t ht => ?_, fun t ht => (wrongTl_zero.1 (h4 t ht)).2, ?_⟩
    · rw [← g3]; exact (wrongLv_zero.1 (h2 x hx)).1
    · have := wrongLv_zero.1 (h2 x hx)
      unfold liveOk at this
      exact ⟨this.1.1, this.1.2.1, this.2⟩
    · exact pair_mem (fun _ _ _ _ h => cmpL_lt.1 h) h3
    · rw [← g3]; exact (wrongTl_zero.1 (h4 t ht)).1
    · exact pair_mem (fun _ _ _ _ h => cmpT_lt.1 h) h5
  · intro h
    obtain ⟨-, -, g3, -⟩ := wrongC_ok h.clock
    refine ⟨h.clock, ⟨fun x hx => wrongLv_zero.2 ⟨by rw [g3]; exact h.lives x hx, (h.bound x hx).2.2⟩, ?_⟩, fun t ht => wrongTl_zero.2 ⟨by rw [g3]; exact h.tals t ht, h.full t ht⟩, ?_⟩
    · exact pair_mem (fun _ _ _ _ h => cmpL_lt.2 h) h.order
    · exact pair_mem (fun _ _ _ _ h => cmpT_lt.2 h) h.ord

/-- So many numbers there are. -/
theorem length_le_of {α : Type} (f : α → Int) : ∀ (l : List α) (lo hi : Int), l.Pairwise (fun a b => f a < f b) → (∀ x ∈ l, lo ≤ f x ∧ f x < hi) → lo ≤ hi → (l.length : Int) ≤ hi - lo
  | [], lo, hi, _, _, h => by simp; omega
  | x :: r, lo, hi, hp, hb, h => by
    obtain ⟨h1, h2⟩ := List.pairwise_cons.1 hp
    have hx := hb x (by simp)
    have := length_le_of f r (f x + 1) hi h2 (fun y hy => by have := h1 y hy; have := hb y (List.mem_cons_of_mem _ hy); omega) (by omega)
    simp only [List.length_cons]
    omega
def codeL (x : Live) : Int := ((((if x.set then 1 else 0) * 16 + x.key) * 2001 + (x.item + 1000)) * 6 + x.author) * 1001 + x.seq
theorem codeL_lt {a b : Live} {n : Int} (hn : n ≤ 6) (ha : liveOk n a) (hb : liveOk n b) (sa : a.seq ≤ 1000) (sb : b.seq ≤ 1000) (h : ahead a b) : codeL a < codeL b := by
  unfold liveOk at ha hb
  unfold ahead at h
  unfold codeL
  rcases h with ⟨h1, h2⟩ | ⟨h1, h2⟩
  · rw [h1, h2]
    simp
    omega
  · rw [h1]
    split <;> omega
theorem OkS.seq_le {n : Int} {c : List Int} {lv : List Live} {ts : List Tal} (h : OkS n c lv ts) {x : Live} (hx : x ∈ lv) : x.seq ≤ 1000 := by
  obtain ⟨b1, b2, b3⟩ := h.bound x hx
  obtain ⟨-, -, -, g4⟩ := wrongC_ok h.clock
  have := g4 x.author.toNat (by omega)
  omega
theorem OkS.few {n : Int} {c : List Int} {lv : List Live} {ts : List Tal} (h : OkS n c lv ts) : lv.length ≤ 400000000 ∧ ts.length ≤ 100 := by
  obtain ⟨g1, g2, -, -⟩ := wrongC_ok h.clock
  constructor
  · have hp : lv.Pairwise fun a b => codeL a < codeL b := by
      refine pair_mem (fun a ha b hb hab => codeL_lt g2 (h.lives a ha) (h.lives b hb) (h.seq_le ha) (h.seq_le hb) hab) h.order
    have := length_le_of codeL lv 0 400000000 hp (fun x hx => by
      have h1 := h.lives x hx
      have h2 := h.seq_le hx
      unfold liveOk at h1
      unfold codeL
      split <;> omega) (by omega)
    omega
  · have hp : ts.Pairwise fun a b => a.key * 6 + a.author < b.key * 6 + b.author := by
      refine pair_mem (fun a ha b hb hab => ?_) h.ord
      have h1 := h.tals a ha
      have h2 := h.tals b hb
      unfold talOk at h1 h2
      unfold lessT at hab
      omega
    have := length_le_of (fun t : Tal => t.key * 6 + t.author) ts 0 100 hp (fun x hx => by
      have h1 := h.tals x hx
      unfold talOk at h1
      omega) (by omega)
    omega
theorem OkS.sums {n : Int} {c : List Int} {lv : List Live} {ts : List Tal} (h : OkS n c lv ts) : ∀ t ∈ ts, -1000000 ≤ t.sum ∧ t.sum ≤ 1000000 := by
  intro t ht
  have h1 := h.tals t ht
  unfold talOk at h1
  obtain ⟨-, -, g3, g4⟩ := wrongC_ok h.clock
  have := g4 t.author.toNat (by omega)
  omega
theorem OkS.fresh {n : Int} {c : List Int} {lv : List Live} {ts : List Tal} (h : OkS n c lv ts) {u : Upd} (hw : wrongL u c n = 0) : ∀ x, newL u = some x → x ∉ lv := by
  intro x hx hm
  obtain ⟨-, hent, -⟩ := (fits_iff h.clock).1 hw
  obtain ⟨e1, e2⟩ := newL_author hx
  obtain ⟨-, -, b3⟩ := h.bound x hm
  rw [e1, e2, hent] at b3
  omega
theorem playLv_append : ∀ (a b : List Upd) (lv : List Live), playLv lv (a ++ b) = playLv (playLv lv a) b
  | [], _, _ => rfl
  | u :: a, b, lv => by rw [List.cons_append, playLv, playLv, playLv_append a b]
theorem playT_append : ∀ (a b : List Upd) (ts : List Tal), playT ts (a ++ b) = playT (playT ts a) b
  | [], _, _ => rfl
  | u :: a, b, ts => by rw [List.cons_append, playT, playT, playT_append a b]
end Go.Proofs.Ytkhhifkihpfdhaa
