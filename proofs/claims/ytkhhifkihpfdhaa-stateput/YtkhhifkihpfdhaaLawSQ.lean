/- StatePut, walked: what was seen is replaced. -/
import Derived.Test.YtkhhifkihpfdhaaLawSO
import Derived.Test.YtkhhifkihpfdhaaStX
namespace Go.Proofs.Ytkhhifkihpfdhaa
open Go.RowKit

/-- The first so many have no cell of that key. -/
theorem find_step {α : Type} {p : α → Bool} {l : List α} {k : Nat} {x : α} (h : l[k]? = some x) (hn : (l.take k).find? p = none) : (p x = true → l.find? p = some x) ∧ (p x = false → (l.take (k + 1)).find? p = none) := by
  obtain ⟨hk, rfl⟩ := List.getElem?_eq_some_iff.1 h
  constructor
  · intro hp
    have hs : l = l.take k ++ l[k] :: l.drop (k + 1) := by rw [← List.drop_eq_getElem_cons hk, List.take_append_drop]
    generalize l[k] = x at hs hp
    rw [hs, List.find?_append, hn]
    simp [hp]
  · intro hp
    rw [List.take_succ_eq_append_getElem hk, List.find?_append, hn]
    simp [hp]

set_option maxRecDepth 100000 in
set_option maxHeartbeats 2000000 in
theorem of4_fn (v : Value) (cs : List (Int × List Int)) (key : Int) (gk : Nat) (w : World) (h : CellR w v cs) (hk : Box w gk [.int .i64 key] 3) :
    Calls Try.prog 24 #[v, .pointer (some ⟨gk, 0, none⟩)] w fun e w' => ∃ rv, e = .returned rv ∧ Row w' rv (ofL cs key) ∧ Below w.heap.size w w' := by
  have hl := h.len_le
  have C0 := hide h
  have K0 := hide hk
  obtain ⟨a, cap, rfl, -, -, -⟩ := h
  clear hk
  go_enter Try.func24, Try.ntmps24
  go_wp2_with fail
  go_loopw [8] (fun i wr => ∃ k : Nat, k ≤ cs.length ∧ i = .int .i64 k ∧ Hid ((cs.take k).find? (fun p => decide (p.1 = key)) = none) ∧ Hid (Below w.heap.size w wr)) (fun i _ => cs.length - (intOf i).toNat)
  case atStart => exact ⟨0, Nat.zero_le _, rfl, rfl, hide (Below.refl _ _)⟩
  case round =>
    obtain ⟨k, hk, rfl, HN, HB1⟩ := hrel
    obtain ⟨w1, rfl⟩ : ∃ w1, w1 = wr := ⟨wr, rfl⟩
    have C1 := hide (C0.out.below HB1.out (Nat.le_refl _))
    have K1 := hide (K0.out.below HB1.out (Nat.le_refl _))
    clear C0 K0
    by_cases hlt : k < cs.length
    · obtain ⟨c, hc⟩ : ∃ c, cs[k]? = some c := ⟨_, List.getElem?_eq_getElem hlt⟩
      obtain ⟨ax, cx, hvx, -, -, h4⟩ := C1.out
      simp only [Value.slice.injEq] at hvx
      obtain ⟨rfl, -, rfl⟩ := hvx
      obtain ⟨g1, o1, v1, rfl, e1', e2', e3'⟩ := h4 k c hc
      obtain ⟨t1, u1, rfl, -, -, -⟩ := id e3'
      have HFS := hide (find_step hc HN.out)
      have hbp := Below.plus (Below.refl _ w1) (.cells #[.int .i64 c.1, .slice t1 c.2.length u1] 57)
      have R2 := hide (e3'.below hbp (Nat.le_refl _))
      have K2 := hide (K1.out.below hbp (Nat.le_refl _))
      have HB2 := hide (below_step HB1.out hbp)
      have kk := K2.out.get 0 rfl
      have hlt' : (k : Int) < (cs.length : Int) := by omega
      clear h4 C1 K1 HB1 hbp e3'
      by_cases hq : c.1 = key
      · have hq' : (c.1 == key) = true := by simp [hq]
        have HF : Hid (ofL cs key = c.2) := by unfold Hid ofL; rw [HFS.out.1 (by simp [hq])]
        clear hq
        go_wp2_with fail
        go_ret
        exact ⟨_, rfl, by rw [HF.out]; exact R2.out, HB2.out⟩
      · have hq' : (c.1 == key) = false := by simp [hq]
        have HF := hide (HFS.out.2 (by simp [hq]))
        clear hq
        go_wp2_with fail
        go_roundw
        case rel => exact ⟨k + 1, by omega, by go_num, HF, HB2⟩
        case measure => simp [intOf]; omega
    · have hkl : cs.take k = cs := List.take_of_length_le (by omega)
      rw [hkl] at HN
      have HF : Hid (ofL cs key = []) := by unfold Hid ofL; rw [HN.out]
      have hlt' : ¬ (k : Int) < (cs.length : Int) := by omega
      go_wp2_with fail
      go_ret
      exact ⟨_, rfl, by rw [HF.out]; exact (own_none _ 0).row, HB1.out⟩
set_option maxRecDepth 100000 in
set_option maxHeartbeats 2000000 in
theorem num4_fn (v : Value) (x : Vw) (key : Int) (gk : Nat) (w : World) (h : ViewR w v x) (hk : Box w gk [.int .i64 key] 3) :
    Calls Try.prog 25 #[v, .pointer (some ⟨gk, 0, none⟩)] w fun e w' => e = .returned (.int .i64 (numL x.cnts key)) ∧ Below w.heap.size w w' := by
  obtain ⟨rv, sv, nv, rfl, hr, hs, hn⟩ := h
  obtain ⟨a1, cap1, rfl, -, -, -⟩ := id hr
  obtain ⟨a2, cap2, rfl, -, -, -⟩ := id hs
  obtain ⟨a3, cap3, rfl, -, -, -⟩ := id hn
  have hl := hn.len_le
  have hb0 := Below.plus (Below.refl w.heap.size w) (.cells #[.slice a1 x.regs.length cap1, .slice a2 x.sets.length cap2, .slice a3 x.cnts.length cap3] 40)
  have E0 := hide (hn.below hb0 (Nat.le_refl _))
  have K0 := hide (hk.below hb0 (Nat.le_refl _))
  have HB0 := hide hb0
  obtain ⟨W0, HW0⟩ : ∃ W0, Hid (w.alloc (.cells #[.slice a1 x.regs.length cap1, .slice a2 x.sets.length cap2, .slice a3 x.cnts.length cap3] 40) = W0) := ⟨_, rfl⟩
  rw [HW0.out] at E0 K0 HB0
  clear hr hs hn hk hb0
  obtain ⟨r, HR⟩ : ∃ r, Hid (numL x.cnts key = r) := ⟨_, rfl⟩
  rw [HR.out]
  go_enter Try.func25, Try.ntmps25
  go_wp2_with fail
  rw [HW0.out]
  go_loopw [9] (fun i wr => ∃ k : Nat, k ≤ x.cnts.length ∧ i = .int .i64 k ∧ Hid ((x.cnts.take k).find? (fun p => decide (p.1 = key)) = none) ∧ Hid (Below W0.heap.size W0 wr)) (fun i _ => x.cnts.length - (intOf i).toNat)
  case atStart => exact ⟨0, Nat.zero_le _, rfl, rfl, hide (Below.refl _ _)⟩
  case round =>
    obtain ⟨k, hk, rfl, HN, HB1⟩ := hrel
    obtain ⟨w1, rfl⟩ : ∃ w1, w1 = wr := ⟨wr, rfl⟩
    have K1 := hide (K0.out.below HB1.out (Nat.le_refl _))
    by_cases hlt : k < x.cnts.length
    · obtain ⟨c, hc⟩ : ∃ c, x.cnts[k]? = some c := ⟨_, List.getElem?_eq_getElem hlt⟩
      obtain ⟨b, off, rfl, d0, d1⟩ := pairAt (E0.out.below HB1.out (Nat.le_refl _)) hc
      have HFS := hide (find_step hc HN.out)
      have hbp := Below.plus (Below.refl _ w1) (.cells #[.int .i64 c.1, .int .i64 c.2] 59)
      have K2 := hide (K1.out.below hbp (Nat.le_refl _))
      have HB2 := hide (below_step HB1.out hbp)
      have kk := K2.out.get 0 rfl
      have hlt' : (k : Int) < (x.cnts.length : Int) := by omega
      clear K1 HB1 hbp
      by_cases hq : c.1 = key
      · have hq' : (c.1 == key) = true := by simp [hq]
        have hr : c.2 = r := by rw [← HR.out]; unfold numL; rw [HFS.out.1 (by simp [hq])]
        subst hr
        clear hq
        go_wp2_with fail
        go_ret
        exact ⟨rfl, HB0.out.trans (HB2.out.mono HB0.out.size)⟩
      · have hq' : (c.1 == key) = false := by simp [hq]
        have HF := hide (HFS.out.2 (by simp [hq]))
        clear hq
        go_wp2_with fail
        go_roundw
        case rel => exact ⟨k + 1, by omega, by go_num, HF, HB2⟩
        case measure => simp [intOf]; omega
    · have hkl : x.cnts.take k = x.cnts := List.take_of_length_le (by omega)
      rw [hkl] at HN
      have hr : r = 0 := by rw [← HR.out]; unfold numL; rw [HN.out]
      subst hr
      have hlt' : ¬ (k : Int) < (x.cnts.length : Int) := by omega
      go_wp2_with fail
      go_ret
      exact ⟨rfl, HB0.out.trans (HB1.out.mono HB0.out.size)⟩
set_option maxRecDepth 100000 in
set_option maxHeartbeats 2000000 in
theorem in4_fn (v : Value) (xs : List Int) (item : Int) (gi : Nat) (w : World) (h : Row w v xs) (hk : Box w gi [.int .i64 item] 3) :
    Calls Try.prog 26 #[v, .pointer (some ⟨gi, 0, none⟩)] w fun e w' => e = .returned (.bool (decide (item ∈ xs))) ∧ Below w.heap.size w w' := by
  have hl := h.len_le
  obtain ⟨a, cap, rfl, -, -, -⟩ := id h
  obtain ⟨r, HR⟩ : ∃ r, Hid (decide (item ∈ xs) = r) := ⟨_, rfl⟩
  rw [HR.out]
  have kk := hk.get 0 rfl
  have H0 := hide h
  clear h hk
  go_enter Try.func26, Try.ntmps26
  go_wp2_with fail
  go_loop [8] (fun i => ∃ k : Nat, k ≤ xs.length ∧ i = .int .i64 k ∧ Hid (item ∉ xs.take k)) (fun i => xs.length - (intOf i).toNat)
  case atStart => exact ⟨0, Nat.zero_le _, rfl, by simp [Hid]⟩
  case round =>
    obtain ⟨k, hk, rfl, HN⟩ := hrel
    by_cases hlt : k < xs.length
    · obtain ⟨ax, cx, hvx, -, -, h4⟩ := H0.out
      simp only [Value.slice.injEq] at hvx
      obtain ⟨rfl, -, rfl⟩ := hvx
      obtain ⟨g1, o1, rfl, e1'⟩ := h4 k hlt
      obtain ⟨y, HY⟩ : ∃ y, Hid (xs.getD k 0 = y) := ⟨_, rfl⟩
      rw [HY.out] at e1'
      have HY2 : Hid (xs[k] = y) := by rw [← HY.out]; exact (getD_at hlt).symm
      have hlt' : (k : Int) < (xs.length : Int) := by omega
      clear h4
      by_cases hq : y = item
      · have hq' : (y == item) = true := by simp [hq]
        have hr : r = true := by rw [← HR.out, decide_eq_true_iff, ← hq, ← HY2.out]; exact List.getElem_mem hlt
        subst hr
        clear hq
        go_wp2_with fail
        go_ret
        exact ⟨rfl, Below.refl _ _⟩
      · have hq' : (y == item) = false := by simp [hq]
        have HF : Hid (item ∉ xs.take (k + 1)) := by
          unfold Hid
          rw [List.take_succ_eq_append_getElem hlt, List.mem_append, List.mem_singleton, HY2.out]
          rintro (h | h)
          · exact HN.out h
          · exact hq h.symm
        clear hq
        go_wp2_with fail
        go_round
        case rel => exact ⟨k + 1, by omega, by go_num, HF⟩
        case measure => simp [intOf]; omega
    · have hkl : xs.take k = xs := List.take_of_length_le (by omega)
      rw [hkl] at HN
      have hr : r = false := by rw [← HR.out]; simp [HN.out]
      subst hr
      have hlt' : ¬ (k : Int) < (xs.length : Int) := by omega
      go_wp2_with fail
      go_ret
      exact ⟨rfl, Below.refl _ _⟩

theorem ViewO.form {w : World} {B : Nat} {v : Value} {x : Vw} (h : ViewO w B v x) : ∃ p1 p2 p3 q1 q2 q3, v = .agg #[.slice p1 x.regs.length q1, .slice p2 x.sets.length q2, .slice p3 x.cnts.length q3] := by
  obtain ⟨rv, sv, cv, h1, h2, h3, h4⟩ := h.read
  obtain ⟨a1, c1, rfl, -⟩ := h2
  obtain ⟨a2, c2, rfl, -⟩ := h3
  obtain ⟨a3, c3, rfl, -⟩ := h4
  exact ⟨a1, a2, a3, c1, c2, c3, h1⟩
theorem row_cell {w : World} {g : Nat} {x : Int} (h : w.cell? ⟨g, 0, none⟩ = some (.int .i64 x)) : Row w (.slice (some ⟨g, 0, none⟩) 1 1) [x] := by
  refine ⟨_, 1, rfl, by simp, by unfold maxLen; omega, fun i hi => ⟨_, _, rfl, ?_⟩⟩
  match i, hi with
  | 0, _ => simpa using h
theorem sliceV_nil (w : World) : SliceV 2 encC w (.slice none 0 0) [] := slice_of_own encC_length (World.ownsRow_nil w 0 59 2)
theorem readX_ok {s : StS} (h : stE s s.clock.length = 0) : readX s = ⟨cellsL false s.lives [], cellsL true s.lives [], countL s.tals []⟩ := by unfold readX; rw [if_pos h]
theorem sumK_le {k : Int} : ∀ {l : List Tal}, (∀ t ∈ l, -1000000 ≤ t.sum ∧ t.sum ≤ 1000000) → -(1000000 * (l.length : Int)) ≤ sumK l k ∧ sumK l k ≤ 1000000 * (l.length : Int)
  | [], _ => by simp [sumK]
  | t :: r, h => by
    have h1 := h t (by simp)
    have h2 := sumK_le (k := k) (l := r) (fun t ht => h t (List.mem_cons_of_mem _ ht))
    rw [sumK]
    simp only [List.length_cons]
    split <;> omega
section
variable {s : StS} {u : Upd}
theorem applied (h : playE s [u] = 0) : OkS s.clock.length s.clock s.lives s.tals ∧ wrongL u s.clock s.clock.length = 0 ∧ playX s [u] = ⟨tickC s.clock u.author, applyLv s.lives u, applyT s.tals u⟩ ∧ OkS s.clock.length (tickC s.clock u.author) (applyLv s.lives u) (applyT s.tals u) := by
  obtain ⟨h1, -, h3⟩ := playE_zero.1 h
  obtain ⟨hw, -⟩ := errL_cons h3
  exact ⟨h1, hw, playX_zero h, h1.apply hw⟩
theorem applied_right (h : playE s [u] = 0) : stE s s.clock.length = 0 ∧ stE (playX s [u]) (playX s [u]).clock.length = 0 := by
  obtain ⟨h1, -, h3, h4⟩ := applied h
  refine ⟨stE_ok.2 h1, stE_ok.2 ?_⟩
  rw [h3]
  simp only [tickC_length]
  exact h4
theorem applied_kind (h : playE s [u] = 0) : 1 ≤ u.kind ∧ u.kind ≤ 5 := by
  obtain ⟨-, hw, -, -⟩ := applied h
  have hwu : wrongU u s.clock.length = 0 := by
    unfold wrongL at hw
    split at hw
    · next q => exact q
    · exact hw
  obtain ⟨-, -, -, -, -, h1, h2, -⟩ := wrongU_full hwu
  exact ⟨h1, h2⟩
theorem old_view (h : playE s [u] = 0) : readX s = ⟨cellsL false s.lives [], cellsL true s.lives [], countL s.tals []⟩ := readX_ok (applied_right h).1
theorem new_view (h : playE s [u] = 0) : readX (playX s [u]) = ⟨cellsL false (applyLv s.lives u) [], cellsL true (applyLv s.lives u) [], countL (applyT s.tals u) []⟩ := by
  rw [readX_ok (applied_right h).2, (applied h).2.2.1]
theorem put_regs (h : playE s [u] = 0) (hu : u.seen = s.clock) (hk : u.kind = 1) : ofL (readX (playX s [u])).regs u.key = [u.item] := by
  obtain ⟨h1, hw, -, h4⟩ := applied h
  rw [new_view h]
  obtain ⟨m1, m2⟩ := ofL_mem (cells_all false h4.order) u.key
  refine inc_ext m1 (by simp) (fun i => ?_)
  rw [m2, ← mem_itemsOf, put_alone h1 hw hu hk]
theorem put_same (h : playE s [u] = 0) (hk : u.kind = 1) : (readX (playX s [u])).sets = (readX s).sets ∧ (readX (playX s [u])).cnts = (readX s).cnts := by
  obtain ⟨h1, hw, -, h4⟩ := applied h
  rw [new_view h, old_view h]
  constructor
  · refine CI.ext (cells_all true h4.order) (cells_all true h1.order) (fun k i => ?_)
    have hf := put_sets h1 hw hk
    have hm : ∀ x : Live, x.set = true → (x ∈ applyLv s.lives u ↔ x ∈ s.lives) := fun x hx => by
      have h5 : x ∈ (applyLv s.lives u).filter (fun x => x.set) ↔ x ∈ s.lives.filter (fun x => x.set) := by rw [hf]
      simpa [List.mem_filter, hx] using h5
    constructor
    · rintro ⟨x, hx, q1, q2⟩
      exact ⟨x, (hm x q1).1 hx, q1, q2⟩
    · rintro ⟨x, hx, q1, q2⟩
      exact ⟨x, (hm x q1).2 hx, q1, q2⟩
  · simp only
    unfold applyT
    rw [if_neg (by omega)]
theorem clear_regs (h : playE s [u] = 0) (hu : u.seen = s.clock) (hk : u.kind = 2) : ofL (readX (playX s [u])).regs u.key = [] := by
  obtain ⟨h1, -, -, h4⟩ := applied h
  rw [new_view h]
  obtain ⟨-, m2⟩ := ofL_mem (cells_all false h4.order) u.key
  apply List.eq_nil_iff_forall_not_mem.2
  intro i hi
  rw [m2, ← mem_itemsOf, clear_none h1 hu hk] at hi
  simp at hi
theorem add_sets (h : playE s [u] = 0) (hk : u.kind = 3) : u.item ∈ ofL (readX (playX s [u])).sets u.key := by
  obtain ⟨-, -, -, h4⟩ := applied h
  rw [new_view h]
  obtain ⟨-, m2⟩ := ofL_mem (cells_all true h4.order) u.key
  rw [m2, ← mem_itemsOf]
  exact add_there hk
theorem remove_sets (h : playE s [u] = 0) (hu : u.seen = s.clock) (hk : u.kind = 4) : u.item ∉ ofL (readX (playX s [u])).sets u.key := by
  obtain ⟨h1, -, -, h4⟩ := applied h
  rw [new_view h]
  obtain ⟨-, m2⟩ := ofL_mem (cells_all true h4.order) u.key
  rw [m2, ← mem_itemsOf]
  exact remove_gone h1 hu hk
theorem count_num (h : playE s [u] = 0) (hk : u.kind = 5) : numL (readX (playX s [u])).cnts u.key = numL (readX s).cnts u.key + u.item ∧ (readX (playX s [u])).regs = (readX s).regs ∧ (readX (playX s [u])).sets = (readX s).sets ∧ IntKind.i64.wrap (numL (readX s).cnts u.key + u.item) = numL (readX s).cnts u.key + u.item := by
  obtain ⟨h1, hw, -, h4⟩ := applied h
  rw [new_view h, old_view h]
  simp only
  rw [numL_sum (count_all h4.ord), numL_sum (count_all h1.ord), count_more hk, count_lives hk, if_pos rfl]
  have hwu : wrongU u s.clock.length = 0 := by
    unfold wrongL at hw
    split at hw
    · next q => exact q
    · exact hw
  obtain ⟨-, -, -, -, -, -, -, -, -, i1, i2⟩ := wrongU_full hwu
  have hb := sumK_le (k := u.key) h1.sums
  have hf := h1.few.2
  exact ⟨rfl, rfl, rfl, wrapS (by omega) (by omega)⟩
end
set_option maxRecDepth 100000 in
set_option maxHeartbeats 2000000 in
theorem put_law (v : Value) (s : StS) (author kind key item : Int) (w0 : World) (h : IsSt w0 v s) :
    Calls Try.prog 7 #[v, .int .i64 author, .int .i64 kind, .int .i64 key, .int .i64 item] w0 fun e w' => e = .returned (.bool true) ∧ Below w0.heap.size w0 w' := by
  have hin := h
  obtain ⟨cv, lv, tv, rfl, hc, hv, ht⟩ := h
  obtain ⟨a1, cap1, rfl, -, -, -⟩ := id hc
  obtain ⟨a2, cap2, rfl, -, -, -⟩ := id hv
  obtain ⟨a3, cap3, rfl, -, -, -⟩ := id ht
  have hb3 := Below.plus (Below.plus (Below.plus (Below.refl w0.heap.size w0) (.cells #[.slice a1 s.clock.length cap1, .slice a2 s.lives.length cap2, .slice a3 s.tals.length cap3] 27)) (.cells #[.int .i64 key] 3)) (.cells #[.int .i64 item] 3)
  have S0 := hide (hin.below hb3 (Nat.le_refl _))
  have C0 := hide (hc.below hb3 (Nat.le_refl _))
  have G0 := hide (((Box.new w0 [.slice a1 s.clock.length cap1, .slice a2 s.lives.length cap2, .slice a3 s.tals.length cap3] 27).plus (.cells #[.int .i64 key] 3)).plus (.cells #[.int .i64 item] 3))
  have K0 := hide ((Box.new (w0.alloc (.cells #[.slice a1 s.clock.length cap1, .slice a2 s.lives.length cap2, .slice a3 s.tals.length cap3] 27)) [.int .i64 key] 3).plus (.cells #[.int .i64 item] 3))
  have I0 := hide (Box.new ((w0.alloc (.cells #[.slice a1 s.clock.length cap1, .slice a2 s.lives.length cap2, .slice a3 s.tals.length cap3] 27)).alloc (.cells #[.int .i64 key] 3)) [.int .i64 item] 3)
  simp only [World.size_alloc] at K0 I0
  have HB0 := hide hb3
  clear hin hc hv ht hb3
  obtain ⟨E, HE⟩ : ∃ E, Hid (playE s [⟨author, s.clock, kind, key, item⟩] = E) := ⟨_, rfl⟩
  obtain ⟨X, HX⟩ : ∃ X, Hid (playX s [⟨author, s.clock, kind, key, item⟩] = X) := ⟨_, rfl⟩
  by_cases hE : E = 0
  · subst hE
    obtain ⟨r1, r2⟩ := applied_right HE.out
    rw [HX.out] at r2
    have HR1 := hide r1
    have HR2 := hide r2
    have HK := hide (applied_kind HE.out)
    obtain ⟨Q1, HQ1⟩ : ∃ Q1, Hid (stA s s.clock.length = Q1) := ⟨_, rfl⟩
    obtain ⟨Q2, HQ2⟩ : ∃ Q2, Hid (stA X X.clock.length = Q2) := ⟨_, rfl⟩
    obtain ⟨OV, HOV⟩ : ∃ OV, Hid (readX s = OV) := ⟨_, rfl⟩
    obtain ⟨NV, HNV⟩ : ∃ NV, Hid (readX X = NV) := ⟨_, rfl⟩
    clear r1 r2
    go_enter Try.func7, Try.ntmps7
    go_wp2_with fail
    refine (alive4 _).mono ?_
    rintro e w1 ⟨rfl, hb⟩
    have HB1 := hide (below_step HB0.out hb)
    have S1 := hide (S0.out.below hb (Nat.le_refl _))
    have C1 := hide (C0.out.below hb (Nat.le_refl _))
    have G1 := hide (G0.out.below hb (Nat.le_refl _))
    have K1 := hide (K0.out.below hb (Nat.le_refl _))
    have I1 := hide (I0.out.below hb (Nat.le_refl _))
    clear HB0 hb S0 C0 G0 K0 I0
    have ga0 := G1.out.get 0 rfl
    have ga1 := G1.out.get 1 rfl
    have ga2 := G1.out.get 2 rfl
    have ka0 := K1.out.get 0 rfl
    have ia0 := I1.out.get 0 rfl
    have HB2 := hide (below_step HB1.out (Below.plus (Below.refl _ w1) (.cells #[.int .i64 author, .slice a1 s.clock.length cap1, .int .i64 kind, .int .i64 key, .int .i64 item] 47)))
    have S2 := hide (S1.out.below (Below.plus (Below.refl _ w1) (.cells #[.int .i64 author, .slice a1 s.clock.length cap1, .int .i64 kind, .int .i64 key, .int .i64 item] 47)) (Nat.le_refl _))
    have C2 := hide (C1.out.below (Below.plus (Below.refl _ w1) (.cells #[.int .i64 author, .slice a1 s.clock.length cap1, .int .i64 kind, .int .i64 key, .int .i64 item] 47)) (Nat.le_refl _))
    have G2 := hide (G1.out.below (Below.plus (Below.refl _ w1) (.cells #[.int .i64 author, .slice a1 s.clock.length cap1, .int .i64 kind, .int .i64 key, .int .i64 item] 47)) (Nat.le_refl _))
    have K2 := hide (K1.out.below (Below.plus (Below.refl _ w1) (.cells #[.int .i64 author, .slice a1 s.clock.length cap1, .int .i64 kind, .int .i64 key, .int .i64 item] 47)) (Nat.le_refl _))
    have I2 := hide (I1.out.below (Below.plus (Below.refl _ w1) (.cells #[.int .i64 author, .slice a1 s.clock.length cap1, .int .i64 kind, .int .i64 key, .int .i64 item] 47)) (Nat.le_refl _))
    have U2 := hide (Box.new w1 [.int .i64 author, .slice a1 s.clock.length cap1, .int .i64 kind, .int .i64 key, .int .i64 item] 47)
    clear HB1 S1 C1 G1 K1 I1
    have cG0 := G2.out.get 0 rfl
    have cG1 := G2.out.get 1 rfl
    have cG2 := G2.out.get 2 rfl
    have cU0 := U2.out.get 0 rfl
    have cU1 := U2.out.get 1 rfl
    have cU2 := U2.out.get 2 rfl
    have cU3 := U2.out.get 3 rfl
    have cU4 := U2.out.get 4 rfl
    go_wp2_with fail
    refine (apply_state _ _ s ⟨author, s.clock, kind, key, item⟩ _ S2.out ⟨_, rfl, C2.out⟩).mono ?_
    rintro e w3 ⟨vT, rfl, hT, hb⟩
    have HB3 := hide (below_step HB2.out hb)
    have S3 := hide (S2.out.below hb (Nat.le_refl _))
    have C3 := hide (C2.out.below hb (Nat.le_refl _))
    have G3 := hide (G2.out.below hb (Nat.le_refl _))
    have K3 := hide (K2.out.below hb (Nat.le_refl _))
    have I3 := hide (I2.out.below hb (Nat.le_refl _))
    have U3 := hide (U2.out.below hb (Nat.le_refl _))
    have T3 := hide hT
    clear HB2 hb S2 C2 G2 K2 I2 U2
    rw [HE.out]
    rw [HX.out] at T3
    clear cG0 cG1 cG2
    clear cU0 cU1 cU2 cU3 cU4
    clear ga0 ga1 ga2 ka0 ia0
    clear U3
    obtain ⟨x1, y1, x2, y2, x3, y3, hvt⟩ := T3.out.form
    subst hvt
    clear hT
    have HB4 := hide (below_step HB3.out (Below.plus (Below.refl _ w3) (.cells #[.slice x1 X.clock.length y1, .slice x2 X.lives.length y2, .slice x3 X.tals.length y3] 27)))
    have S4 := hide (S3.out.below (Below.plus (Below.refl _ w3) (.cells #[.slice x1 X.clock.length y1, .slice x2 X.lives.length y2, .slice x3 X.tals.length y3] 27)) (Nat.le_refl _))
    have C4 := hide (C3.out.below (Below.plus (Below.refl _ w3) (.cells #[.slice x1 X.clock.length y1, .slice x2 X.lives.length y2, .slice x3 X.tals.length y3] 27)) (Nat.le_refl _))
    have G4 := hide (G3.out.below (Below.plus (Below.refl _ w3) (.cells #[.slice x1 X.clock.length y1, .slice x2 X.lives.length y2, .slice x3 X.tals.length y3] 27)) (Nat.le_refl _))
    have K4 := hide (K3.out.below (Below.plus (Below.refl _ w3) (.cells #[.slice x1 X.clock.length y1, .slice x2 X.lives.length y2, .slice x3 X.tals.length y3] 27)) (Nat.le_refl _))
    have I4 := hide (I3.out.below (Below.plus (Below.refl _ w3) (.cells #[.slice x1 X.clock.length y1, .slice x2 X.lives.length y2, .slice x3 X.tals.length y3] 27)) (Nat.le_refl _))
    have T4 := hide (T3.out.below (Below.plus (Below.refl _ w3) (.cells #[.slice x1 X.clock.length y1, .slice x2 X.lives.length y2, .slice x3 X.tals.length y3] 27)) (Nat.le_refl _))
    have X4 := hide (Box.new w3 [.slice x1 X.clock.length y1, .slice x2 X.lives.length y2, .slice x3 X.tals.length y3] 27)
    clear HB3 S3 C3 G3 K3 I3 T3
    have cG0 := G4.out.get 0 rfl
    have cG1 := G4.out.get 1 rfl
    have cG2 := G4.out.get 2 rfl
    go_wp2_with fail
    refine (read_state _ s _ S4.out).mono ?_
    rintro e w5 ⟨vO, rfl, hO, hb⟩
    have HB5 := hide (below_step HB4.out hb)
    have S5 := hide (S4.out.below hb (Nat.le_refl _))
    have C5 := hide (C4.out.below hb (Nat.le_refl _))
    have G5 := hide (G4.out.below hb (Nat.le_refl _))
    have K5 := hide (K4.out.below hb (Nat.le_refl _))
    have I5 := hide (I4.out.below hb (Nat.le_refl _))
    have T5 := hide (T4.out.below hb (Nat.le_refl _))
    have X5 := hide (X4.out.below hb (Nat.le_refl _))
    have O5 := hide hO
    clear HB4 hb S4 C4 G4 K4 I4 T4 X4
    rw [HR1.out, HQ1.out]
    rw [HOV.out] at O5
    clear cG0 cG1 cG2
    obtain ⟨p1, p2, p3, q1, q2, q3, hvo⟩ := O5.out.form
    subst hvo
    clear hO
    have HB6 := hide (below_step HB5.out (Below.plus (Below.refl _ w5) (.cells #[.slice p1 OV.regs.length q1, .slice p2 OV.sets.length q2, .slice p3 OV.cnts.length q3] 40)))
    have S6 := hide (S5.out.below (Below.plus (Below.refl _ w5) (.cells #[.slice p1 OV.regs.length q1, .slice p2 OV.sets.length q2, .slice p3 OV.cnts.length q3] 40)) (Nat.le_refl _))
    have C6 := hide (C5.out.below (Below.plus (Below.refl _ w5) (.cells #[.slice p1 OV.regs.length q1, .slice p2 OV.sets.length q2, .slice p3 OV.cnts.length q3] 40)) (Nat.le_refl _))
    have G6 := hide (G5.out.below (Below.plus (Below.refl _ w5) (.cells #[.slice p1 OV.regs.length q1, .slice p2 OV.sets.length q2, .slice p3 OV.cnts.length q3] 40)) (Nat.le_refl _))
    have K6 := hide (K5.out.below (Below.plus (Below.refl _ w5) (.cells #[.slice p1 OV.regs.length q1, .slice p2 OV.sets.length q2, .slice p3 OV.cnts.length q3] 40)) (Nat.le_refl _))
    have I6 := hide (I5.out.below (Below.plus (Below.refl _ w5) (.cells #[.slice p1 OV.regs.length q1, .slice p2 OV.sets.length q2, .slice p3 OV.cnts.length q3] 40)) (Nat.le_refl _))
    have T6 := hide (T5.out.below (Below.plus (Below.refl _ w5) (.cells #[.slice p1 OV.regs.length q1, .slice p2 OV.sets.length q2, .slice p3 OV.cnts.length q3] 40)) (Nat.le_refl _))
    have X6 := hide (X5.out.below (Below.plus (Below.refl _ w5) (.cells #[.slice p1 OV.regs.length q1, .slice p2 OV.sets.length q2, .slice p3 OV.cnts.length q3] 40)) (Nat.le_refl _))
    have O6 := hide (O5.out.below (Below.plus (Below.refl _ w5) (.cells #[.slice p1 OV.regs.length q1, .slice p2 OV.sets.length q2, .slice p3 OV.cnts.length q3] 40)) (Nat.le_refl _))
    have P6 := hide (Box.new w5 [.slice p1 OV.regs.length q1, .slice p2 OV.sets.length q2, .slice p3 OV.cnts.length q3] 40)
    clear HB5 S5 C5 G5 K5 I5 T5 X5 O5
    have HB7 := hide (below_step HB6.out (Below.plus (Below.refl _ (w5.alloc (.cells #[.slice p1 OV.regs.length q1, .slice p2 OV.sets.length q2, .slice p3 OV.cnts.length q3] 40))) (.cells #[.int .i64 0, .int .i64 Q1] 31)))
    have S7 := hide (S6.out.below (Below.plus (Below.refl _ (w5.alloc (.cells #[.slice p1 OV.regs.length q1, .slice p2 OV.sets.length q2, .slice p3 OV.cnts.length q3] 40))) (.cells #[.int .i64 0, .int .i64 Q1] 31)) (Nat.le_refl _))
    have C7 := hide (C6.out.below (Below.plus (Below.refl _ (w5.alloc (.cells #[.slice p1 OV.regs.length q1, .slice p2 OV.sets.length q2, .slice p3 OV.cnts.length q3] 40))) (.cells #[.int .i64 0, .int .i64 Q1] 31)) (Nat.le_refl _))
    have G7 := hide (G6.out.below (Below.plus (Below.refl _ (w5.alloc (.cells #[.slice p1 OV.regs.length q1, .slice p2 OV.sets.length q2, .slice p3 OV.cnts.length q3] 40))) (.cells #[.int .i64 0, .int .i64 Q1] 31)) (Nat.le_refl _))
    have K7 := hide (K6.out.below (Below.plus (Below.refl _ (w5.alloc (.cells #[.slice p1 OV.regs.length q1, .slice p2 OV.sets.length q2, .slice p3 OV.cnts.length q3] 40))) (.cells #[.int .i64 0, .int .i64 Q1] 31)) (Nat.le_refl _))
    have I7 := hide (I6.out.below (Below.plus (Below.refl _ (w5.alloc (.cells #[.slice p1 OV.regs.length q1, .slice p2 OV.sets.length q2, .slice p3 OV.cnts.length q3] 40))) (.cells #[.int .i64 0, .int .i64 Q1] 31)) (Nat.le_refl _))
    have T7 := hide (T6.out.below (Below.plus (Below.refl _ (w5.alloc (.cells #[.slice p1 OV.regs.length q1, .slice p2 OV.sets.length q2, .slice p3 OV.cnts.length q3] 40))) (.cells #[.int .i64 0, .int .i64 Q1] 31)) (Nat.le_refl _))
    have X7 := hide (X6.out.below (Below.plus (Below.refl _ (w5.alloc (.cells #[.slice p1 OV.regs.length q1, .slice p2 OV.sets.length q2, .slice p3 OV.cnts.length q3] 40))) (.cells #[.int .i64 0, .int .i64 Q1] 31)) (Nat.le_refl _))
    have O7 := hide (O6.out.below (Below.plus (Below.refl _ (w5.alloc (.cells #[.slice p1 OV.regs.length q1, .slice p2 OV.sets.length q2, .slice p3 OV.cnts.length q3] 40))) (.cells #[.int .i64 0, .int .i64 Q1] 31)) (Nat.le_refl _))
    have P7 := hide (P6.out.below (Below.plus (Below.refl _ (w5.alloc (.cells #[.slice p1 OV.regs.length q1, .slice p2 OV.sets.length q2, .slice p3 OV.cnts.length q3] 40))) (.cells #[.int .i64 0, .int .i64 Q1] 31)) (Nat.le_refl _))
    have F7 := hide (Box.new (w5.alloc (.cells #[.slice p1 OV.regs.length q1, .slice p2 OV.sets.length q2, .slice p3 OV.cnts.length q3] 40)) [.int .i64 0, .int .i64 Q1] 31)
    clear HB6 S6 C6 G6 K6 I6 T6 X6 O6 P6
    simp only [World.size_alloc] at F7
    have cX0 := X7.out.get 0 rfl
    have cX1 := X7.out.get 1 rfl
    have cX2 := X7.out.get 2 rfl
    go_wp2_with fail
    refine (read_state _ X _ T7.out.st).mono ?_
    rintro e w8 ⟨vN, rfl, hN, hb⟩
    have HB8 := hide (below_step HB7.out hb)
    have S8 := hide (S7.out.below hb (Nat.le_refl _))
    have C8 := hide (C7.out.below hb (Nat.le_refl _))
    have G8 := hide (G7.out.below hb (Nat.le_refl _))
    have K8 := hide (K7.out.below hb (Nat.le_refl _))
    have I8 := hide (I7.out.below hb (Nat.le_refl _))
    have T8 := hide (T7.out.below hb (Nat.le_refl _))
    have X8 := hide (X7.out.below hb (Nat.le_refl _))
    have O8 := hide (O7.out.below hb (Nat.le_refl _))
    have P8 := hide (P7.out.below hb (Nat.le_refl _))
    have F8 := hide (F7.out.below hb (Nat.le_refl _))
    have N8 := hide hN
    clear HB7 hb S7 C7 G7 K7 I7 T7 X7 O7 P7 F7
    rw [HR2.out, HQ2.out]
    rw [HNV.out] at N8
    clear cX0 cX1 cX2
    obtain ⟨p4, p5, p6, q4, q5, q6, hvn⟩ := N8.out.form
    subst hvn
    clear hN
    have HB9 := hide (below_step HB8.out (Below.plus (Below.refl _ w8) (.cells #[.slice p4 NV.regs.length q4, .slice p5 NV.sets.length q5, .slice p6 NV.cnts.length q6] 40)))
    have S9 := hide (S8.out.below (Below.plus (Below.refl _ w8) (.cells #[.slice p4 NV.regs.length q4, .slice p5 NV.sets.length q5, .slice p6 NV.cnts.length q6] 40)) (Nat.le_refl _))
    have C9 := hide (C8.out.below (Below.plus (Below.refl _ w8) (.cells #[.slice p4 NV.regs.length q4, .slice p5 NV.sets.length q5, .slice p6 NV.cnts.length q6] 40)) (Nat.le_refl _))
    have G9 := hide (G8.out.below (Below.plus (Below.refl _ w8) (.cells #[.slice p4 NV.regs.length q4, .slice p5 NV.sets.length q5, .slice p6 NV.cnts.length q6] 40)) (Nat.le_refl _))
    have K9 := hide (K8.out.below (Below.plus (Below.refl _ w8) (.cells #[.slice p4 NV.regs.length q4, .slice p5 NV.sets.length q5, .slice p6 NV.cnts.length q6] 40)) (Nat.le_refl _))
    have I9 := hide (I8.out.below (Below.plus (Below.refl _ w8) (.cells #[.slice p4 NV.regs.length q4, .slice p5 NV.sets.length q5, .slice p6 NV.cnts.length q6] 40)) (Nat.le_refl _))
    have T9 := hide (T8.out.below (Below.plus (Below.refl _ w8) (.cells #[.slice p4 NV.regs.length q4, .slice p5 NV.sets.length q5, .slice p6 NV.cnts.length q6] 40)) (Nat.le_refl _))
    have X9 := hide (X8.out.below (Below.plus (Below.refl _ w8) (.cells #[.slice p4 NV.regs.length q4, .slice p5 NV.sets.length q5, .slice p6 NV.cnts.length q6] 40)) (Nat.le_refl _))
    have O9 := hide (O8.out.below (Below.plus (Below.refl _ w8) (.cells #[.slice p4 NV.regs.length q4, .slice p5 NV.sets.length q5, .slice p6 NV.cnts.length q6] 40)) (Nat.le_refl _))
    have P9 := hide (P8.out.below (Below.plus (Below.refl _ w8) (.cells #[.slice p4 NV.regs.length q4, .slice p5 NV.sets.length q5, .slice p6 NV.cnts.length q6] 40)) (Nat.le_refl _))
    have F9 := hide (F8.out.below (Below.plus (Below.refl _ w8) (.cells #[.slice p4 NV.regs.length q4, .slice p5 NV.sets.length q5, .slice p6 NV.cnts.length q6] 40)) (Nat.le_refl _))
    have N9 := hide (N8.out.below (Below.plus (Below.refl _ w8) (.cells #[.slice p4 NV.regs.length q4, .slice p5 NV.sets.length q5, .slice p6 NV.cnts.length q6] 40)) (Nat.le_refl _))
    have Q9 := hide (Box.new w8 [.slice p4 NV.regs.length q4, .slice p5 NV.sets.length q5, .slice p6 NV.cnts.length q6] 40)
    clear HB8 S8 C8 G8 K8 I8 T8 X8 O8 P8 F8 N8
    have HB10 := hide (below_step HB9.out (Below.plus (Below.refl _ (w8.alloc (.cells #[.slice p4 NV.regs.length q4, .slice p5 NV.sets.length q5, .slice p6 NV.cnts.length q6] 40))) (.cells #[.int .i64 0, .int .i64 Q2] 31)))
    have S10 := hide (S9.out.below (Below.plus (Below.refl _ (w8.alloc (.cells #[.slice p4 NV.regs.length q4, .slice p5 NV.sets.length q5, .slice p6 NV.cnts.length q6] 40))) (.cells #[.int .i64 0, .int .i64 Q2] 31)) (Nat.le_refl _))
    have C10 := hide (C9.out.below (Below.plus (Below.refl _ (w8.alloc (.cells #[.slice p4 NV.regs.length q4, .slice p5 NV.sets.length q5, .slice p6 NV.cnts.length q6] 40))) (.cells #[.int .i64 0, .int .i64 Q2] 31)) (Nat.le_refl _))
    have G10 := hide (G9.out.below (Below.plus (Below.refl _ (w8.alloc (.cells #[.slice p4 NV.regs.length q4, .slice p5 NV.sets.length q5, .slice p6 NV.cnts.length q6] 40))) (.cells #[.int .i64 0, .int .i64 Q2] 31)) (Nat.le_refl _))
    have K10 := hide (K9.out.below (Below.plus (Below.refl _ (w8.alloc (.cells #[.slice p4 NV.regs.length q4, .slice p5 NV.sets.length q5, .slice p6 NV.cnts.length q6] 40))) (.cells #[.int .i64 0, .int .i64 Q2] 31)) (Nat.le_refl _))
    have I10 := hide (I9.out.below (Below.plus (Below.refl _ (w8.alloc (.cells #[.slice p4 NV.regs.length q4, .slice p5 NV.sets.length q5, .slice p6 NV.cnts.length q6] 40))) (.cells #[.int .i64 0, .int .i64 Q2] 31)) (Nat.le_refl _))
    have T10 := hide (T9.out.below (Below.plus (Below.refl _ (w8.alloc (.cells #[.slice p4 NV.regs.length q4, .slice p5 NV.sets.length q5, .slice p6 NV.cnts.length q6] 40))) (.cells #[.int .i64 0, .int .i64 Q2] 31)) (Nat.le_refl _))
    have X10 := hide (X9.out.below (Below.plus (Below.refl _ (w8.alloc (.cells #[.slice p4 NV.regs.length q4, .slice p5 NV.sets.length q5, .slice p6 NV.cnts.length q6] 40))) (.cells #[.int .i64 0, .int .i64 Q2] 31)) (Nat.le_refl _))
    have O10 := hide (O9.out.below (Below.plus (Below.refl _ (w8.alloc (.cells #[.slice p4 NV.regs.length q4, .slice p5 NV.sets.length q5, .slice p6 NV.cnts.length q6] 40))) (.cells #[.int .i64 0, .int .i64 Q2] 31)) (Nat.le_refl _))
    have P10 := hide (P9.out.below (Below.plus (Below.refl _ (w8.alloc (.cells #[.slice p4 NV.regs.length q4, .slice p5 NV.sets.length q5, .slice p6 NV.cnts.length q6] 40))) (.cells #[.int .i64 0, .int .i64 Q2] 31)) (Nat.le_refl _))
    have F10 := hide (F9.out.below (Below.plus (Below.refl _ (w8.alloc (.cells #[.slice p4 NV.regs.length q4, .slice p5 NV.sets.length q5, .slice p6 NV.cnts.length q6] 40))) (.cells #[.int .i64 0, .int .i64 Q2] 31)) (Nat.le_refl _))
    have N10 := hide (N9.out.below (Below.plus (Below.refl _ (w8.alloc (.cells #[.slice p4 NV.regs.length q4, .slice p5 NV.sets.length q5, .slice p6 NV.cnts.length q6] 40))) (.cells #[.int .i64 0, .int .i64 Q2] 31)) (Nat.le_refl _))
    have Q10 := hide (Q9.out.below (Below.plus (Below.refl _ (w8.alloc (.cells #[.slice p4 NV.regs.length q4, .slice p5 NV.sets.length q5, .slice p6 NV.cnts.length q6] 40))) (.cells #[.int .i64 0, .int .i64 Q2] 31)) (Nat.le_refl _))
    have H10 := hide (Box.new (w8.alloc (.cells #[.slice p4 NV.regs.length q4, .slice p5 NV.sets.length q5, .slice p6 NV.cnts.length q6] 40)) [.int .i64 0, .int .i64 Q2] 31)
    clear HB9 S9 C9 G9 K9 I9 T9 X9 O9 P9 F9 N9 Q9
    simp only [World.size_alloc] at H10
    have cF0 := F10.out.get 0 rfl
    have cF1 := F10.out.get 1 rfl
    have cH0 := H10.out.get 0 rfl
    have cH1 := H10.out.get 1 rfl
    obtain ⟨W5, HW5⟩ : ∃ W5, Hid ((w8.alloc (.cells #[.slice p4 NV.regs.length q4, .slice p5 NV.sets.length q5, .slice p6 NV.cnts.length q6] 40)).alloc (.cells #[.int .i64 0, .int .i64 Q2] 31) = W5) := ⟨_, rfl⟩
    rw [HW5.out] at K10 I10 O10 N10 P10 Q10 HB10
    have k1 : 1 ≤ kind := HK.out.1
    have k2 : kind ≤ 5 := HK.out.2
    have hkk : kind = 1 ∨ kind = 2 ∨ kind = 3 ∨ kind = 4 ∨ kind = 5 := by omega
    clear k1 k2 HK S10 C10 G10 T10 X10 F10 H10
    rcases hkk with rfl | rfl | rfl | rfl | rfl
    · have hp1 := put_regs HE.out rfl rfl
      obtain ⟨hp2, hp3⟩ := put_same HE.out rfl
      rw [HX.out, HNV.out] at hp1
      rw [HX.out, HNV.out, HOV.out] at hp2 hp3
      simp only at hp1
      have HP1 := hide hp1
      have HP2 := hide hp2
      have HP3 := hide hp3
      clear hp1 hp2 hp3
      obtain ⟨gp, HGP⟩ : ∃ gp, Hid (w5.heap.size = gp) := ⟨_, rfl⟩
      obtain ⟨gq, HGQ⟩ : ∃ gq, Hid (w8.heap.size = gq) := ⟨_, rfl⟩
      rw [HGP.out] at P10
      rw [HGQ.out] at Q10
      have HK : Hid (∀ w', Grew W5 w' → w'.cell? ⟨w0.heap.size + 1 + 1, 0, none⟩ = some (.int .i64 item) ∧ (w'.cell? ⟨gp, 1, none⟩ = some (.slice p2 OV.sets.length q2) ∧ w'.cell? ⟨gp, 2, none⟩ = some (.slice p3 OV.cnts.length q3)) ∧ w'.cell? ⟨gq, 0, none⟩ = some (.slice p4 NV.regs.length q4) ∧ w'.cell? ⟨gq, 1, none⟩ = some (.slice p5 NV.sets.length q5) ∧ w'.cell? ⟨gq, 2, none⟩ = some (.slice p6 NV.cnts.length q6)) := fun w' hg => ⟨(I10.out.below hg (Nat.le_refl _)).get 0 rfl, ⟨(P10.out.below hg (Nat.le_refl _)).get 1 rfl, (P10.out.below hg (Nat.le_refl _)).get 2 rfl⟩, (Q10.out.below hg (Nat.le_refl _)).get 0 rfl, (Q10.out.below hg (Nat.le_refl _)).get 1 rfl, (Q10.out.below hg (Nat.le_refl _)).get 2 rfl⟩
      have H1 : Hid (∀ w', Grew W5 w' → Calls Try.prog 24 #[.slice p4 NV.regs.length q4, .pointer (some ⟨w0.heap.size + 1, 0, none⟩)] w' fun e w'' => ∃ rv, e = .returned rv ∧ Hid (∀ w3, Grew w'' w3 → Row w3 rv [item]) ∧ Grew W5 w'' ∧ Grew w' w'') := fun w' hg => by
        obtain ⟨rv, sv, cv, hag, hc, -, -⟩ := (N10.out.below hg (Nat.le_refl _)).read
        simp only [Value.agg.injEq, Array.mk.injEq, List.cons.injEq, and_true] at hag
        obtain ⟨rfl, -, -⟩ := hag
        refine (of4_fn _ NV.regs key _ w' hc (K10.out.below hg (Nat.le_refl _))).mono ?_
        rintro e w'' ⟨rv, rfl, hr, hb⟩
        rw [HP1.out] at hr
        exact ⟨rv, rfl, fun w3 h3 => hr.below h3 (Nat.le_refl _), grew_step hg hb, hb⟩
      have H2 : Hid (∀ w' v g, Row w' v [item] → w'.cell? ⟨g, 0, none⟩ = some (.int .i64 item) → Grew W5 w' → Calls Try.prog 22 #[v, .slice (some ⟨g, 0, none⟩) 1 1] w' fun e w'' => e = .returned (.bool true) ∧ Grew W5 w'') := fun w' v g hv hu hg => by
        refine (same_yes _ _ [item] w' hv (row_cell hu)).mono ?_
        rintro e w'' ⟨rfl, hb⟩
        exact ⟨rfl, grew_step hg hb⟩
      have H3 : Hid (∀ w', Grew W5 w' → Calls Try.prog 18 #[.agg #[.slice none 0 0, .slice p2 OV.sets.length q2, .slice p3 OV.cnts.length q3], .agg #[.slice none 0 0, .slice p5 NV.sets.length q5, .slice p6 NV.cnts.length q6]] w' fun e w'' => e = .returned (.bool true) ∧ Grew W5 w'') := fun w' hg => by
        obtain ⟨rv, sv, cv, hag, -, hs, hc⟩ := (N10.out.below hg (Nat.le_refl _)).read
        simp only [Value.agg.injEq, Array.mk.injEq, List.cons.injEq, and_true] at hag
        obtain ⟨-, rfl, rfl⟩ := hag
        obtain ⟨rv', sv', cv', hag, -, hs', hc'⟩ := (O10.out.below hg (Nat.le_refl _)).read
        simp only [Value.agg.injEq, Array.mk.injEq, List.cons.injEq, and_true] at hag
        obtain ⟨-, rfl, rfl⟩ := hag
        have hs2 : CellR w' (.slice p5 NV.sets.length q5) OV.sets := by rw [HP2.out] at hs ⊢; exact hs
        have hc2 : SliceV 2 encC w' (.slice p6 NV.cnts.length q6) OV.cnts := by rw [HP3.out] at hc ⊢; exact hc
        refine (sameView_yes _ _ ⟨[], OV.sets, OV.cnts⟩ w' ⟨_, _, _, rfl, CellR.nil _, hs', hc'⟩ ⟨_, _, _, rfl, CellR.nil _, hs2, hc2⟩).mono ?_
        rintro e w'' ⟨rfl, hb⟩
        exact ⟨rfl, grew_step hg hb⟩
      go_upto_region 16 with fail
      rw [HW5.out, HGP.out, HGQ.out]
      clear cF0 cF1 cH0 cH1
      go_cut [10] (fun cc wx => cc = .bool true ∧ Hid (Grew W5 wx))
      case first =>
        go_region_held3 (fun w' => w'.cell? ⟨w0.heap.size + 1 + 1, 0, none⟩ = some (.int .i64 item) ∧ (w'.cell? ⟨gp, 1, none⟩ = some (.slice p2 OV.sets.length q2) ∧ w'.cell? ⟨gp, 2, none⟩ = some (.slice p3 OV.cnts.length q3)) ∧ w'.cell? ⟨gq, 0, none⟩ = some (.slice p4 NV.regs.length q4) ∧ w'.cell? ⟨gq, 1, none⟩ = some (.slice p5 NV.sets.length q5) ∧ w'.cell? ⟨gq, 2, none⟩ = some (.slice p6 NV.cnts.length q6))
          ((refine HK.out _ ?_; (with_reducible (repeat (first | assumption | exact grew_refl _ | apply grew_alloc | apply grew_drew)))))
          (first
            | (go_at_call 24; (with_reducible refine (H1.out _ ?_).mono ?_); (with_reducible (repeat (first | assumption | exact grew_refl _ | apply grew_alloc | apply grew_drew))); rintro e w' ⟨rv, rfl, hrow, hgr, hst⟩)
            | (go_at_call 22; (with_reducible refine (H2.out _ _ _ ?_ ?_ ?_).mono ?_); (refine hrow.out _ ?_; (with_reducible (repeat (first | assumption | exact grew_refl _ | apply grew_alloc | apply grew_drew)))); (· first | (simp; done) | exact (Below.cell (p := ⟨W5.heap.size, 0, none⟩) hst (show W5.heap.size < (W5.alloc (.cells #[.int .i64 item] 3)).heap.size by simp)).trans (show (W5.alloc (.cells #[.int .i64 item] 3)).cell? ⟨W5.heap.size, 0, none⟩ = _ by simp)); (with_reducible (repeat (first | assumption | exact grew_refl _ | apply grew_alloc | apply grew_drew))); rintro e w' ⟨rfl, hgr2⟩)
            | (go_at_call 18; (with_reducible refine (H3.out _ ?_).mono ?_); (with_reducible (repeat (first | assumption | exact grew_refl _ | apply grew_alloc | apply grew_drew))); rintro e w' ⟨rfl, hgr3⟩))
        all_goals (go_wp2_with fail; go_meet; exact ⟨by simp, by assumption⟩)
      case rest =>
        obtain ⟨rfl, HGR⟩ := hcut
        go_wp2_with fail
        go_ret
        exact ⟨rfl, below_step HB10.out HGR.out⟩
    · have hp := clear_regs HE.out rfl rfl
      rw [HX.out, HNV.out] at hp
      simp only at hp
      have HP := hide hp
      clear hp
      obtain ⟨rv0, sv0, cv0, hag, hc, -, -⟩ := N10.out.read
      simp only [Value.agg.injEq, Array.mk.injEq, List.cons.injEq, and_true] at hag
      obtain ⟨rfl, -, -⟩ := hag
      have R10 := hide hc
      have qc0 := Q10.out.get 0 rfl
      have qc1 := Q10.out.get 1 rfl
      rw [← HW5.out] at qc0 qc1
      clear hc
      go_wp2_with fail
      rw [HW5.out]
      refine (of4_fn _ NV.regs key _ W5 R10.out K10.out).mono ?_
      rintro e w11 ⟨rv, rfl, hr, hb⟩
      have I11 := hide (I10.out.below hb (Nat.le_refl _))
      have HB11 := hide (below_step HB10.out hb)
      clear hb qc0 qc1 cF0 cF1 cH0 cH1
      rw [HP.out] at hr
      obtain ⟨ar, cr, rfl, -, -, -⟩ := hr
      go_wp2_with fail
      go_ret
      exact ⟨rfl, HB11.out⟩
    · have hp := add_sets HE.out rfl
      rw [HX.out, HNV.out] at hp
      simp only at hp
      have HP : Hid (decide (item ∈ ofL NV.sets key) = true) := decide_eq_true hp
      clear hp
      obtain ⟨rv0, sv0, cv0, hag, -, hc, -⟩ := N10.out.read
      simp only [Value.agg.injEq, Array.mk.injEq, List.cons.injEq, and_true] at hag
      obtain ⟨-, rfl, -⟩ := hag
      have R10 := hide hc
      have qc0 := Q10.out.get 0 rfl
      have qc1 := Q10.out.get 1 rfl
      rw [← HW5.out] at qc0 qc1
      clear hc
      go_wp2_with fail
      rw [HW5.out]
      refine (of4_fn _ NV.sets key _ W5 R10.out K10.out).mono ?_
      rintro e w11 ⟨rv, rfl, hr, hb⟩
      have I11 := hide (I10.out.below hb (Nat.le_refl _))
      have HB11 := hide (below_step HB10.out hb)
      clear hb qc0 qc1 cF0 cF1 cH0 cH1
      have M11 := hide hr
      clear hr
      obtain ⟨ar, cr, hvr, -, -, -⟩ := id M11.out
      subst hvr
      go_wp2_with fail
      refine (in4_fn _ (ofL NV.sets key) item _ w11 M11.out I11.out).mono ?_
      rintro e w12 ⟨rfl, hb⟩
      rw [HP.out]
      have HB12 := hide (below_step HB11.out hb)
      clear hb
      go_wp2_with fail
      go_ret
      exact ⟨rfl, HB12.out⟩
    · have hp := remove_sets HE.out rfl rfl
      rw [HX.out, HNV.out] at hp
      simp only at hp
      have HP : Hid (decide (item ∈ ofL NV.sets key) = false) := decide_eq_false hp
      clear hp
      obtain ⟨rv0, sv0, cv0, hag, -, hc, -⟩ := N10.out.read
      simp only [Value.agg.injEq, Array.mk.injEq, List.cons.injEq, and_true] at hag
      obtain ⟨-, rfl, -⟩ := hag
      have R10 := hide hc
      have qc0 := Q10.out.get 0 rfl
      have qc1 := Q10.out.get 1 rfl
      rw [← HW5.out] at qc0 qc1
      clear hc
      go_wp2_with fail
      rw [HW5.out]
      refine (of4_fn _ NV.sets key _ W5 R10.out K10.out).mono ?_
      rintro e w11 ⟨rv, rfl, hr, hb⟩
      have I11 := hide (I10.out.below hb (Nat.le_refl _))
      have HB11 := hide (below_step HB10.out hb)
      clear hb qc0 qc1 cF0 cF1 cH0 cH1
      have M11 := hide hr
      clear hr
      obtain ⟨ar, cr, hvr, -, -, -⟩ := id M11.out
      subst hvr
      go_wp2_with fail
      refine (in4_fn _ (ofL NV.sets key) item _ w11 M11.out I11.out).mono ?_
      rintro e w12 ⟨rfl, hb⟩
      rw [HP.out]
      have HB12 := hide (below_step HB11.out hb)
      clear hb
      go_wp2_with fail
      go_ret
      exact ⟨rfl, HB12.out⟩
    · obtain ⟨hp1, hp2, hp3, hp4⟩ := count_num HE.out rfl
      rw [HX.out, HNV.out, HOV.out] at hp1 hp2 hp3
      rw [HOV.out] at hp4
      simp only at hp1 hp4
      obtain ⟨n1, HN1⟩ : ∃ n1, Hid (numL NV.cnts key = n1) := ⟨_, rfl⟩
      obtain ⟨n2, HN2⟩ : ∃ n2, Hid (numL OV.cnts key = n2) := ⟨_, rfl⟩
      rw [HN1.out, HN2.out] at hp1
      rw [HN2.out] at hp4
      subst hp1
      have HP2 := hide hp2
      have HP3 := hide hp3
      clear hp2 hp3
      obtain ⟨gp, HGP⟩ : ∃ gp, Hid (w5.heap.size = gp) := ⟨_, rfl⟩
      obtain ⟨gq, HGQ⟩ : ∃ gq, Hid (w8.heap.size = gq) := ⟨_, rfl⟩
      rw [HGP.out] at P10
      rw [HGQ.out] at Q10
      have HK : Hid (∀ w', Grew W5 w' → w'.cell? ⟨w0.heap.size + 1 + 1, 0, none⟩ = some (.int .i64 item) ∧ (w'.cell? ⟨gp, 0, none⟩ = some (.slice p1 OV.regs.length q1) ∧ w'.cell? ⟨gp, 1, none⟩ = some (.slice p2 OV.sets.length q2) ∧ w'.cell? ⟨gp, 2, none⟩ = some (.slice p3 OV.cnts.length q3)) ∧ w'.cell? ⟨gq, 0, none⟩ = some (.slice p4 NV.regs.length q4) ∧ w'.cell? ⟨gq, 1, none⟩ = some (.slice p5 NV.sets.length q5) ∧ w'.cell? ⟨gq, 2, none⟩ = some (.slice p6 NV.cnts.length q6)) := fun w' hg => ⟨(I10.out.below hg (Nat.le_refl _)).get 0 rfl, ⟨(P10.out.below hg (Nat.le_refl _)).get 0 rfl, (P10.out.below hg (Nat.le_refl _)).get 1 rfl, (P10.out.below hg (Nat.le_refl _)).get 2 rfl⟩, (Q10.out.below hg (Nat.le_refl _)).get 0 rfl, (Q10.out.below hg (Nat.le_refl _)).get 1 rfl, (Q10.out.below hg (Nat.le_refl _)).get 2 rfl⟩
      have H1 : Hid (∀ w', Grew W5 w' → Calls Try.prog 25 #[.agg #[.slice p4 NV.regs.length q4, .slice p5 NV.sets.length q5, .slice p6 NV.cnts.length q6], .pointer (some ⟨w0.heap.size + 1, 0, none⟩)] w' fun e w'' => e = .returned (.int .i64 (n2 + item)) ∧ Grew W5 w'') := fun w' hg => by
        refine (num4_fn _ NV key _ w' (N10.out.below hg (Nat.le_refl _)).read (K10.out.below hg (Nat.le_refl _))).mono ?_
        rintro e w'' ⟨rfl, hb⟩
        rw [HN1.out]
        exact ⟨rfl, grew_step hg hb⟩
      have H2 : Hid (∀ w', Grew W5 w' → Calls Try.prog 25 #[.agg #[.slice p1 OV.regs.length q1, .slice p2 OV.sets.length q2, .slice p3 OV.cnts.length q3], .pointer (some ⟨w0.heap.size + 1, 0, none⟩)] w' fun e w'' => e = .returned (.int .i64 n2) ∧ Grew W5 w'') := fun w' hg => by
        refine (num4_fn _ OV key _ w' (O10.out.below hg (Nat.le_refl _)).read (K10.out.below hg (Nat.le_refl _))).mono ?_
        rintro e w'' ⟨rfl, hb⟩
        rw [HN2.out]
        exact ⟨rfl, grew_step hg hb⟩
      have H3 : Hid (∀ w', Grew W5 w' → Calls Try.prog 18 #[.agg #[.slice p1 OV.regs.length q1, .slice p2 OV.sets.length q2, .slice none 0 0], .agg #[.slice p4 NV.regs.length q4, .slice p5 NV.sets.length q5, .slice none 0 0]] w' fun e w'' => e = .returned (.bool true) ∧ Grew W5 w'') := fun w' hg => by
        obtain ⟨rv, sv, cv, hag, hr, hs, -⟩ := (N10.out.below hg (Nat.le_refl _)).read
        simp only [Value.agg.injEq, Array.mk.injEq, List.cons.injEq, and_true] at hag
        obtain ⟨rfl, rfl, -⟩ := hag
        obtain ⟨rv', sv', cv', hag, hr', hs', -⟩ := (O10.out.below hg (Nat.le_refl _)).read
        simp only [Value.agg.injEq, Array.mk.injEq, List.cons.injEq, and_true] at hag
        obtain ⟨rfl, rfl, -⟩ := hag
        have hr2 : CellR w' (.slice p4 NV.regs.length q4) OV.regs := by rw [HP2.out] at hr ⊢; exact hr
        have hs2 : CellR w' (.slice p5 NV.sets.length q5) OV.sets := by rw [HP3.out] at hs ⊢; exact hs
        refine (sameView_yes _ _ ⟨OV.regs, OV.sets, []⟩ w' ⟨_, _, _, rfl, hr', hs', sliceV_nil w'⟩ ⟨_, _, _, rfl, hr2, hs2, sliceV_nil w'⟩).mono ?_
        rintro e w'' ⟨rfl, hb⟩
        exact ⟨rfl, grew_step hg hb⟩
      have hee : (n2 + item == n2 + item) = true := by simp
      go_upto_region 23 with fail
      rw [HW5.out, HGP.out, HGQ.out]
      clear cF0 cF1 cH0 cH1
      go_cut [10] (fun cc wx => cc = .bool true ∧ Hid (Grew W5 wx))
      case first =>
        go_region_held3 (fun w' => w'.cell? ⟨w0.heap.size + 1 + 1, 0, none⟩ = some (.int .i64 item) ∧ (w'.cell? ⟨gp, 0, none⟩ = some (.slice p1 OV.regs.length q1) ∧ w'.cell? ⟨gp, 1, none⟩ = some (.slice p2 OV.sets.length q2) ∧ w'.cell? ⟨gp, 2, none⟩ = some (.slice p3 OV.cnts.length q3)) ∧ w'.cell? ⟨gq, 0, none⟩ = some (.slice p4 NV.regs.length q4) ∧ w'.cell? ⟨gq, 1, none⟩ = some (.slice p5 NV.sets.length q5) ∧ w'.cell? ⟨gq, 2, none⟩ = some (.slice p6 NV.cnts.length q6))
          ((refine HK.out _ ?_; (with_reducible (repeat (first | assumption | exact grew_refl _ | apply grew_alloc | apply grew_drew)))))
          (first
            | (go_at_call 25; (with_reducible refine (H1.out _ ?_).mono ?_); (with_reducible (repeat (first | assumption | exact grew_refl _ | apply grew_alloc | apply grew_drew))); rintro e w' ⟨rfl, hgr⟩)
            | (go_at_call 25; (with_reducible refine (H2.out _ ?_).mono ?_); (with_reducible (repeat (first | assumption | exact grew_refl _ | apply grew_alloc | apply grew_drew))); rintro e w' ⟨rfl, hgr⟩)
            | (go_at_call 18; (with_reducible refine (H3.out _ ?_).mono ?_); (with_reducible (repeat (first | assumption | exact grew_refl _ | apply grew_alloc | apply grew_drew))); rintro e w' ⟨rfl, hgr3⟩))
        all_goals (go_wp2_with fail; go_meet; exact ⟨by simp, by assumption⟩)
      case rest =>
        obtain ⟨rfl, HGR⟩ := hcut
        go_wp2_with fail
        go_ret
        exact ⟨rfl, below_step HB10.out HGR.out⟩
  · have hE' : (E != 0) = true := by simp [hE]
    clear hE
    go_enter Try.func7, Try.ntmps7
    go_wp2_with fail
    refine (alive4 _).mono ?_
    rintro e w1 ⟨rfl, hb⟩
    have HB1 := hide (below_step HB0.out hb)
    have S1 := hide (S0.out.below hb (Nat.le_refl _))
    have C1 := hide (C0.out.below hb (Nat.le_refl _))
    have G1 := hide (G0.out.below hb (Nat.le_refl _))
    have K1 := hide (K0.out.below hb (Nat.le_refl _))
    have I1 := hide (I0.out.below hb (Nat.le_refl _))
    clear HB0 hb S0 C0 G0 K0 I0
    have ga0 := G1.out.get 0 rfl
    have ga1 := G1.out.get 1 rfl
    have ga2 := G1.out.get 2 rfl
    have ka0 := K1.out.get 0 rfl
    have ia0 := I1.out.get 0 rfl
    have HB2 := hide (below_step HB1.out (Below.plus (Below.refl _ w1) (.cells #[.int .i64 author, .slice a1 s.clock.length cap1, .int .i64 kind, .int .i64 key, .int .i64 item] 47)))
    have S2 := hide (S1.out.below (Below.plus (Below.refl _ w1) (.cells #[.int .i64 author, .slice a1 s.clock.length cap1, .int .i64 kind, .int .i64 key, .int .i64 item] 47)) (Nat.le_refl _))
    have C2 := hide (C1.out.below (Below.plus (Below.refl _ w1) (.cells #[.int .i64 author, .slice a1 s.clock.length cap1, .int .i64 kind, .int .i64 key, .int .i64 item] 47)) (Nat.le_refl _))
    have G2 := hide (G1.out.below (Below.plus (Below.refl _ w1) (.cells #[.int .i64 author, .slice a1 s.clock.length cap1, .int .i64 kind, .int .i64 key, .int .i64 item] 47)) (Nat.le_refl _))
    have K2 := hide (K1.out.below (Below.plus (Below.refl _ w1) (.cells #[.int .i64 author, .slice a1 s.clock.length cap1, .int .i64 kind, .int .i64 key, .int .i64 item] 47)) (Nat.le_refl _))
    have I2 := hide (I1.out.below (Below.plus (Below.refl _ w1) (.cells #[.int .i64 author, .slice a1 s.clock.length cap1, .int .i64 kind, .int .i64 key, .int .i64 item] 47)) (Nat.le_refl _))
    have U2 := hide (Box.new w1 [.int .i64 author, .slice a1 s.clock.length cap1, .int .i64 kind, .int .i64 key, .int .i64 item] 47)
    clear HB1 S1 C1 G1 K1 I1
    have cG0 := G2.out.get 0 rfl
    have cG1 := G2.out.get 1 rfl
    have cG2 := G2.out.get 2 rfl
    have cU0 := U2.out.get 0 rfl
    have cU1 := U2.out.get 1 rfl
    have cU2 := U2.out.get 2 rfl
    have cU3 := U2.out.get 3 rfl
    have cU4 := U2.out.get 4 rfl
    go_wp2_with fail
    refine (apply_state _ _ s ⟨author, s.clock, kind, key, item⟩ _ S2.out ⟨_, rfl, C2.out⟩).mono ?_
    rintro e w3 ⟨vT, rfl, hT, hb⟩
    have HB3 := hide (below_step HB2.out hb)
    have S3 := hide (S2.out.below hb (Nat.le_refl _))
    have C3 := hide (C2.out.below hb (Nat.le_refl _))
    have G3 := hide (G2.out.below hb (Nat.le_refl _))
    have K3 := hide (K2.out.below hb (Nat.le_refl _))
    have I3 := hide (I2.out.below hb (Nat.le_refl _))
    have U3 := hide (U2.out.below hb (Nat.le_refl _))
    have T3 := hide hT
    clear HB2 hb S2 C2 G2 K2 I2 U2
    rw [HE.out]
    rw [HX.out] at T3
    clear cG0 cG1 cG2
    clear cU0 cU1 cU2 cU3 cU4
    clear ga0 ga1 ga2 ka0 ia0
    clear U3
    obtain ⟨x1, y1, x2, y2, x3, y3, hvt⟩ := T3.out.form
    subst hvt
    clear hT
    have HB4 := hide (below_step HB3.out (Below.plus (Below.refl _ w3) (.cells #[.slice x1 X.clock.length y1, .slice x2 X.lives.length y2, .slice x3 X.tals.length y3] 27)))
    have S4 := hide (S3.out.below (Below.plus (Below.refl _ w3) (.cells #[.slice x1 X.clock.length y1, .slice x2 X.lives.length y2, .slice x3 X.tals.length y3] 27)) (Nat.le_refl _))
    have C4 := hide (C3.out.below (Below.plus (Below.refl _ w3) (.cells #[.slice x1 X.clock.length y1, .slice x2 X.lives.length y2, .slice x3 X.tals.length y3] 27)) (Nat.le_refl _))
    have G4 := hide (G3.out.below (Below.plus (Below.refl _ w3) (.cells #[.slice x1 X.clock.length y1, .slice x2 X.lives.length y2, .slice x3 X.tals.length y3] 27)) (Nat.le_refl _))
    have K4 := hide (K3.out.below (Below.plus (Below.refl _ w3) (.cells #[.slice x1 X.clock.length y1, .slice x2 X.lives.length y2, .slice x3 X.tals.length y3] 27)) (Nat.le_refl _))
    have I4 := hide (I3.out.below (Below.plus (Below.refl _ w3) (.cells #[.slice x1 X.clock.length y1, .slice x2 X.lives.length y2, .slice x3 X.tals.length y3] 27)) (Nat.le_refl _))
    have T4 := hide (T3.out.below (Below.plus (Below.refl _ w3) (.cells #[.slice x1 X.clock.length y1, .slice x2 X.lives.length y2, .slice x3 X.tals.length y3] 27)) (Nat.le_refl _))
    have X4 := hide (Box.new w3 [.slice x1 X.clock.length y1, .slice x2 X.lives.length y2, .slice x3 X.tals.length y3] 27)
    clear HB3 S3 C3 G3 K3 I3 T3
    go_wp2_with fail
    go_ret
    exact ⟨rfl, HB4.out⟩
end Go.Proofs.Ytkhhifkihpfdhaa
