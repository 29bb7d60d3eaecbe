/- slices.Delete of one tally, and state.playTallies: what an update does to the tallies. -/
import Derived.Test.YtkhhifkihpfdhaaStG
namespace Go.Proofs.Ytkhhifkihpfdhaa
open Go.RowKit

set_option maxRecDepth 100000 in
set_option maxHeartbeats 2000000 in
theorem delete_tally (g cap i : Nat) (l : List Tal) (w : World) (h : HoldsS 74 3 encT w g cap l) (hi : i < l.length) (hn : l.length ≤ cap) (hc : cap ≤ maxLen) (hl : l.length ≤ 1000000) :
    Calls Try.prog 85 #[.slice (some ⟨g, 0, none⟩) l.length cap, .int .i64 i, .int .i64 (i + 1)] w fun e w' => e = .returned (.slice (some ⟨g, 0, none⟩) (l.length - 1) cap) ∧ HoldsS 74 3 encT w' g cap (l.eraseIdx i) ∧ w.grownBy w' (some g) := by
  obtain ⟨i0, hi0, hz0, hz1, hz2⟩ := info_parts Try.infoTally
  have HH := hide h
  clear h
  obtain ⟨n, HN⟩ : ∃ n, Hid (l.length = n) := ⟨_, rfl⟩
  rw [HN.out] at hi hn hl ⊢
  have hne : ¬ n = i := by omega
  have heq : ((i : Int) == (i : Int) + 1) = false := beq_eq_false_iff_ne.2 (by omega)
  have h1 : (i : Int) + 1 ≤ (n : Int) := by omega
  have h2 : (n : Int) ≤ (cap : Int) := by omega
  have h3 : (i : Int) ≤ (cap : Int) := by omega
  have hw1 : IntKind.i64.wrap ((i : Int) + 1) = (i : Int) + 1 := wrapS (by omega) (by omega)
  go_enter Try.func85, Try.ntmps85
  obtain ⟨news, HNW⟩ : ∃ news, Hid (cellsS encT (l.drop (i + 1)) = news) := ⟨_, rfl⟩
  have s1 : Hid (news.length = (n - (i + 1)) * 3) := by unfold Hid; rw [← HNW.out, cellsS_length encT_length, List.length_drop, HN.out]
  have s2 : Hid (∀ u ∈ news, u.oneCell' = true) := by
    intro u hu
    rw [← HNW.out] at hu
    exact cellsS_one encT_one _ u hu
  have s3 : Hid (∀ j, j < news.length → (w.cell? ⟨g, 0 + i * 3 + j, none⟩).isSome = true ∧ w.frozen? ⟨g, 0 + i * 3 + j, none⟩ = false) := fun j hj => by
    rw [s1.out] at hj
    exact HH.out.room (by omega)
  have s4 : Hid (∀ j u, news[j]? = some u → w.cell? ((⟨g, (i + 1) * 3, none⟩ : Addr).add j) = some u) := fun j u hj => by
    have hjl := (List.getElem?_eq_some_iff.1 hj).1
    rw [s1.out] at hjl
    rw [addr_addS, HH.out.cell (by rw [HN.out]; omega), ← hj, ← HNW.out, ← cellsS_drop encT_length, List.getElem?_drop]
  have s5 : Hid (HoldsS 74 3 encT (w.drew.setCells g (i * 3) news) g cap (l.eraseIdx i) ∧ w.grownBy (w.drew.setCells g (i * 3) news) (some g)) := by
    have HD : HoldsS 74 3 encT w.drew g cap l := HH.out
    have hgr := grown_setCells g news (i * 3) w.drew
    refine ⟨HD.put encT_length news (l.eraseIdx i) (by rw [s1.out]; omega) ?_ (by rw [HN.out]; omega), hgr.os, hgr.tape, hgr.output, hgr.size, hgr.block⟩
    rw [cellsS_take encT_length, ← HNW.out, ← cellsS_append, List.eraseIdx_eq_take_drop_succ]
  have hsub : i + (n - (i + 1)) = n - 1 := by omega
  have hA : (i : Int) ≤ (i : Int) + 1 := by omega
  have hB : (0 : Int) ≤ (i : Int) + 1 := by omega
  have hC : (i : Int) + 1 ≤ (cap : Int) := by omega
  go_upto_region 5 with fail
  go_cut [0] (fun c wx => c = .slice (some ⟨g, 0, none⟩) (n - 1) cap ∧ Hid (HoldsS 74 3 encT wx g cap (l.eraseIdx i)) ∧ Hid (w.grownBy wx (some g)))
  case first =>
    by_cases hcc : cap = i + 1
    · obtain rfl : n = i + 1 := by omega
      subst hcc
      have s6 : Hid (news = []) := List.eq_nil_of_length_eq_zero (by rw [s1.out]; omega)
      rw [s6.out] at s2 s3 s4 s5
      go_region_law (refine step_append_room rfl (.tmp 22) (.tmp 25) 25 rfl 74 i0 3 Try.underlying25 hi0 hz1 g 0 i (i + 1) (by simp [Act.eval, Act.put]) ⟨g, 0, none⟩ 0 0 [] (by simp [Act.eval, Act.put]) rfl (by intro j u hj; simp at hj) s2.out (by omega) s3.out ?_)
      go_wp2_with fail
      go_meet
      exact ⟨by simp, s5.out.1, s5.out.2⟩
    · have hcc' : ¬ i + 1 = cap := fun e => hcc e.symm
      go_region_law (refine step_append_room rfl (.tmp 22) (.tmp 25) 25 rfl 74 i0 3 Try.underlying25 hi0 hz1 g 0 i cap (by simp [Act.eval, Act.put]) ⟨g, (i + 1) * 3, none⟩ (n - (i + 1)) (cap - (i + 1)) news (by simp [Act.eval, Act.put]) s1.out s4.out s2.out (by omega) s3.out ?_)
      go_wp2_with fail
      go_meet
      exact ⟨rfl, s5.out.1, s5.out.2⟩
  case rest =>
    obtain ⟨rfl, H1, H2⟩ := hcut
    have HN1 : Hid ((l.eraseIdx i).length = n - 1) := by unfold Hid; rw [List.length_eraseIdx, HN.out, if_pos hi]
    obtain ⟨Z, hZ, hcl⟩ := run_clear_many (P := Try.prog) wc 25 0 74 i0 _ 3 g ((n - 1) * 3) 1 (cap - (n - 1)) Try.underlying25 hi0 hz0 rfl (by intro v hv; simp [Value.cells] at hv; subst hv; rfl) (fun j hj => (H1.out.room (by omega)).1) (fun j hj => (H1.out.room (by omega)).2)
    have HCL := hide hcl
    have HCUT := hide (H1.out.cut encT_length (i := n - 1) Z (by rw [hZ]; omega) (by rw [HN1.out]; exact Nat.le_refl _))
    have e0 : Hid ((l.eraseIdx i).take (n - 1) = l.eraseIdx i) := List.take_of_length_le (by rw [HN1.out]; exact Nat.le_refl _)
    rw [e0.out] at HCUT
    have e1 : ¬ cap = n - 1 := by omega
    have e2 : ((n - 1 : Nat) : Int) ≤ (n : Int) := by omega
    have e3 : n - (n - 1) = 1 := by omega
    clear hcl hZ
    go_wp2_with fail
    rw [HCL.out]
    go_wp2_with fail
    go_ret
    exact ⟨rfl, HCUT.out, grown_trans H2.out (grown_setCells g Z ((n - 1) * 3) wc)⟩

/-- So much more, at its place. -/
theorem addT_at {key a d : Int} : ∀ {ts : List Tal} {k : Nat}, k ≤ ts.length → OrdT ts → (∀ (i : Nat) (y : Tal), i < k → ts[i]? = some y → cmpT y ⟨key, a, 0⟩ < 0) → (∀ (i : Nat) (y : Tal), k ≤ i → ts[i]? = some y → 0 ≤ cmpT y ⟨key, a, 0⟩) →
    (∀ t, ts[k]? = some t → cmpT t ⟨key, a, 0⟩ = 0 → addT key a d ts = if t.sum + d = 0 then ts.eraseIdx k else ts.set k ⟨key, a, t.sum + d⟩) ∧
    ((¬ ∃ t, ts[k]? = some t ∧ cmpT t ⟨key, a, 0⟩ = 0) → addT key a d ts = if d = 0 then ts else ts.take k ++ ⟨key, a, d⟩ :: ts.drop k)
  | [], k, hk, _, _, _ => by
    refine ⟨fun t ht => by simp at ht, fun _ => ?_⟩
    simp [addT]
  | t :: r, 0, _, ho, _, h2 => by
    have h3 := h2 0 t (Nat.le_refl _) rfl
    refine ⟨fun s hs h0 => ?_, fun hno => ?_⟩
    · simp at hs
      subst hs
      rw [cmpT_zero] at h0
      rw [addT, if_pos h0]
      simp
    · have h4 : ¬ (t.key = key ∧ t.author = a) := fun h => hno ⟨t, rfl, cmpT_zero.2 h⟩
      have h5 : ¬ lessT t ⟨key, a, 0⟩ := fun h => by have := cmpT_lt.2 h; omega
      unfold lessT at h5
      simp only at h5
      rw [addT, if_neg h4, if_pos (by omega)]
      simp
  | t :: r, k + 1, hk, ho, h1, h2 => by
    have h3 := cmpT_lt.1 (h1 0 t (by omega) rfl)
    unfold lessT at h3
    simp only at h3
    have h4 : ¬ (t.key = key ∧ t.author = a) := by omega
    have h5 : ¬ (key < t.key ∨ (key = t.key ∧ a < t.author)) := by omega
    obtain ⟨i1, i2⟩ := addT_at (key := key) (a := a) (d := d) (ts := r) (k := k) (by simpa using hk) (List.pairwise_cons.1 ho).2 (fun i y hi hy => h1 (i + 1) y (by omega) (by simpa using hy)) (fun i y hi hy => h2 (i + 1) y (by omega) (by simpa using hy))
    refine ⟨fun s hs h0 => ?_, fun hno => ?_⟩
    · rw [addT, if_neg h4, if_neg h5, i1 s (by simpa using hs) h0]
      split <;> simp
    · rw [addT, if_neg h4, if_neg h5, i2 (fun ⟨s, hs, h0⟩ => hno ⟨s, by simpa using hs, h0⟩)]
      split <;> simp
theorem ordT_mono {l : List Tal} (h : OrdT l) (x : Tal) : ∀ (i j : Nat) (y z : Tal), i ≤ j → l[i]? = some y → l[j]? = some z → cmpT z x < 0 → cmpT y x < 0 := by
  intro i j y z hij hy hz hc
  rcases Nat.lt_or_ge i j with hlt | hge
  · obtain ⟨h1, rfl⟩ := List.getElem?_eq_some_iff.1 hy
    obtain ⟨h2, rfl⟩ := List.getElem?_eq_some_iff.1 hz
    have h3 := List.pairwise_iff_getElem.1 h i j h1 h2 hlt
    have h4 := cmpT_lt.1 hc
    refine cmpT_lt.2 ?_
    unfold lessT at *
    omega
  · obtain rfl : i = j := by omega
    rw [hy] at hz
    simp only [Option.some.injEq] at hz
    subst hz
    exact hc
theorem grown_on {w w1 w2 : World} {row : Option Nat} {g : Nat} (h : w.grownBy w1 row) (h' : w1.grownBy w2 (some g)) (hg : row = some g ∨ w.heap.size ≤ g) : w.grownBy w2 row := by
  refine ⟨h'.os.trans h.os, h'.tape.trans h.tape, h'.output.trans h.output, Nat.le_trans h.size h'.size, fun k hk hne => ?_⟩
  refine (h'.block k (Nat.lt_of_lt_of_le hk h.size) (fun e => ?_)).trans (h.block k hk hne)
  simp only [Option.some.injEq] at e
  subst e
  rcases hg with hg | hg
  · exact hne hg.symm
  · omega
end Go.Proofs.Ytkhhifkihpfdhaa
