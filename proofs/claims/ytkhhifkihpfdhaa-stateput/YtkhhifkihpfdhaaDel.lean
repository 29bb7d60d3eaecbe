/- slices.Delete of one update out of a row of the call's own. -/
import Derived.Test.YtkhhifkihpfdhaaLogD
import Derived.Deep.RegionLaw
namespace Go.Proofs.Ytkhhifkihpfdhaa
open Go.RowKit

theorem cellsP_append (a b : List (Upd × Value)) : cellsP (a ++ b) = cellsP a ++ cellsP b := by simp [cellsP]
theorem cellsP_take (ps : List (Upd × Value)) (k : Nat) : (cellsP ps).take (k * 5) = cellsP (ps.take k) := by
  by_cases hk : k ≤ ps.length
  · have e : cellsP ps = cellsP (ps.take k) ++ cellsP (ps.drop k) := by rw [← cellsP_append, List.take_append_drop]
    rw [e, List.take_left' (by rw [cellsP_length, List.length_take, Nat.min_eq_left hk])]
  · rw [List.take_of_length_le (by rw [cellsP_length]; omega), List.take_of_length_le (by omega)]
theorem cellsP_drop (ps : List (Upd × Value)) (k : Nat) : (cellsP ps).drop (k * 5) = cellsP (ps.drop k) := by
  by_cases hk : k ≤ ps.length
  · have e : cellsP ps = cellsP (ps.take k) ++ cellsP (ps.drop k) := by rw [← cellsP_append, List.take_append_drop]
    rw [e, List.drop_left' (by rw [cellsP_length, List.length_take, Nat.min_eq_left hk])]
  · rw [List.drop_of_length_le (by rw [cellsP_length]; omega), List.drop_of_length_le (by omega)]; rfl

/-- A block that holds these updates first. -/
def Holds (w : World) (g cap : Nat) (ps : List (Upd × Value)) : Prop := ∃ cur : Array Value, w.heap[g]? = some (.cells cur 47 (0, 0)) ∧ cur.size = cap * 5 ∧ cur.toList.take (ps.length * 5) = cellsP ps
theorem Holds.cell {w : World} {g cap : Nat} {ps : List (Upd × Value)} (h : Holds w g cap ps) {j : Nat} (hj : j < ps.length * 5) : w.cell? ⟨g, j, none⟩ = (cellsP ps)[j]? := by
  obtain ⟨cur, h1, h2, h3⟩ := h
  rw [← h3, List.getElem?_take_of_lt hj]
  simp [World.cell?, h1]
theorem Holds.room {w : World} {g cap : Nat} {ps : List (Upd × Value)} (h : Holds w g cap ps) {j : Nat} (hj : j < cap * 5) : (w.cell? ⟨g, j, none⟩).isSome = true ∧ w.frozen? ⟨g, j, none⟩ = false := by
  obtain ⟨cur, h1, h2, h3⟩ := h
  constructor
  · simp [World.cell?, h1, h2, hj]
  · simp [World.frozen?, h1]
theorem Holds.put {w : World} {g cap o : Nat} {ps : List (Upd × Value)} (h : Holds w g cap ps) (news : List Value) (qs : List (Upd × Value)) (hfit : o + news.length ≤ cap * 5) (hq : (cellsP ps).take o ++ news = cellsP qs) (ho : o ≤ ps.length * 5) : Holds (w.setCells g o news) g cap qs ∧ w.grownBy (w.setCells g o news) (some g) := by
  obtain ⟨cur, h1, h2, h3⟩ := h
  obtain ⟨⟨cur', k1, k2, k3⟩, k4⟩ := row_setCells g 47 news o w cur h1 (by rw [h2]; exact hfit)
  refine ⟨⟨cur', k1, by rw [k2, h2], ?_⟩, k4⟩
  have hl : qs.length * 5 = o + news.length := by
    have := congrArg List.length hq
    rw [List.length_append, List.length_take, cellsP_length, cellsP_length] at this
    omega
  rw [hl, k3, ← hq, ← h3, List.take_take, Nat.min_eq_left ho]

theorem Holds.less {w : World} {g cap : Nat} {ps : List (Upd × Value)} {p : Upd × Value} (h : Holds w g cap (ps ++ [p])) : Holds w g cap ps := by
  obtain ⟨cur, h1, h2, h3⟩ := h
  refine ⟨cur, h1, h2, ?_⟩
  have := congrArg (List.take (ps.length * 5)) h3
  rw [List.take_take, Nat.min_eq_left (by simp; omega), cellsP_append, List.take_left' (cellsP_length ps)] at this
  exact this
theorem clear_one (w : World) (g o c : Nat) (hc : ∀ j, j < 5 → (w.cell? ⟨g, o + j, none⟩).isSome = true) (hf : ∀ j, j < 5 → w.frozen? ⟨g, o + j, none⟩ = false) :
    (Builtin.clear_ #[28] 0 #[.slice (some ⟨g, o, none⟩) 1 c]).run Try.prog w = .ok (.tuple #[]) (w.setCells g o [.int .i64 0, .slice none 0 0, .int .i64 0, .int .i64 0, .int .i64 0]) := by
  obtain ⟨i0, hi0, hz0, hz1, hz2⟩ := info_parts Try.infoUpd
  have hst := run_storeCells_cells (P := Try.prog) g o [.int .i64 0, .slice none 0 0, .int .i64 0, .int .i64 0, .int .i64 0] 0 w (by simpa using hc) (by simpa using hf) (by intro v hv; simp at hv; rcases hv with rfl | rfl | rfl <;> rfl)
  simp only [Nat.add_zero] at hst
  have hzc : (Builtin.zeroCells (Value.agg #[.int .i64 0, .slice none 0 0, .int .i64 0, .int .i64 0, .int .i64 0]).cells 1).toList = [.int .i64 0, .slice none 0 0, .int .i64 0, .int .i64 0, .int .i64 0] := by kernel_rfl
  simp [Builtin.clear_, run_underlying Try.underlying28, zeroValue, typeInfo, hi0, hz0, hzc, hst]

set_option maxRecDepth 100000 in
set_option maxHeartbeats 2000000 in
theorem delete_fn (g cap i : Nat) (ps : List (Upd × Value)) (w : World) (h : Holds w g cap ps) (hs : ∀ p ∈ ps, p.2.oneCell' = true) (hi : i < ps.length) (hn : ps.length ≤ cap) (hc : cap ≤ maxLen) (hl : ps.length ≤ 1000000) :
    Calls Try.prog 64 #[.slice (some ⟨g, 0, none⟩) ps.length cap, .int .i64 i, .int .i64 (i + 1)] w fun e w' => e = .returned (.slice (some ⟨g, 0, none⟩) (ps.length - 1) cap) ∧ Holds w' g cap (ps.eraseIdx i) ∧ w.grownBy w' (some g) := by
  obtain ⟨i0, hi0, hz0, hz1, hz2⟩ := info_parts Try.infoUpd
  have HH := hide h
  have HS := hide hs
  clear h hs
  obtain ⟨n, HN⟩ : ∃ n, Hid (ps.length = n) := ⟨_, rfl⟩
  rw [HN.out] at hi hn hl ⊢
  have hne : ¬ n = i := by omega
  have heq : ((i : Int) == (i : Int) + 1) = false := by simp; omega
  have h1 : (i : Int) + 1 ≤ (n : Int) := by omega
  have h2 : (n : Int) ≤ (cap : Int) := by omega
  have h3 : (i : Int) ≤ (cap : Int) := by omega
  have hw1 : IntKind.i64.wrap ((i : Int) + 1) = (i : Int) + 1 := wrapS (by omega) (by omega)
  go_enter Try.func64, Try.ntmps64
  obtain ⟨news, HNW⟩ : ∃ news, Hid (cellsP (ps.drop (i + 1)) = news) := ⟨_, rfl⟩
  have s1 : Hid (news.length = (n - (i + 1)) * 5) := by unfold Hid; rw [← HNW.out, cellsP_length, List.length_drop, HN.out]
  have s2 : Hid (∀ u ∈ news, u.oneCell' = true) := by
    intro u hu
    rw [← HNW.out] at hu
    obtain ⟨q, hq, hu⟩ := List.mem_flatMap.1 hu
    exact cellsU_one (HS.out q (List.mem_of_mem_drop hq)) u hu
  have s3 : Hid (∀ j, j < news.length → (w.cell? ⟨g, 0 + i * 5 + j, none⟩).isSome = true ∧ w.frozen? ⟨g, 0 + i * 5 + j, none⟩ = false) := fun j hj => by
    rw [s1.out] at hj
    exact HH.out.room (by omega)
  have s4 : Hid (∀ j u, news[j]? = some u → w.cell? ((⟨g, (i + 1) * 5, none⟩ : Addr).add j) = some u) := fun j u hj => by
    have hjl := (List.getElem?_eq_some_iff.1 hj).1
    rw [s1.out] at hjl
    have ha : (⟨g, (i + 1) * 5, none⟩ : Addr).add j = ⟨g, (i + 1) * 5 + j, none⟩ := by
      simp only [Addr.add]
      split
      · next e => rw [e]; rfl
      · rfl
    rw [ha, HH.out.cell (by rw [HN.out]; omega), ← hj, ← HNW.out, ← cellsP_drop, List.getElem?_drop]
  have s5 : Hid (Holds (w.drew.setCells g (i * 5) news) g cap (ps.eraseIdx i) ∧ w.grownBy (w.drew.setCells g (i * 5) news) (some g)) := by
    have HD : Holds w.drew g cap ps := HH.out
    refine (fun (h : Holds (w.drew.setCells g (i * 5) news) g cap (ps.eraseIdx i) ∧ w.drew.grownBy (w.drew.setCells g (i * 5) news) (some g)) => ⟨h.1, h.2.os, h.2.tape, h.2.output, h.2.size, h.2.block⟩) ?_
    refine HD.put news (ps.eraseIdx i) (by rw [s1.out]; omega) ?_ (by rw [HN.out]; omega)
    rw [cellsP_take, ← HNW.out, ← cellsP_append, List.eraseIdx_eq_take_drop_succ]
  have hsub : i + (n - (i + 1)) = n - 1 := by omega
  have hA : (i : Int) ≤ (i : Int) + 1 := by omega
  have hB : (0 : Int) ≤ (i : Int) + 1 := by omega
  have hC : (i : Int) + 1 ≤ (cap : Int) := by omega
  go_upto_region 5 with fail
  go_cut [0] (fun c wx => c = .slice (some ⟨g, 0, none⟩) (n - 1) cap ∧ Hid (Holds wx g cap (ps.eraseIdx i)) ∧ Hid (w.grownBy wx (some g)))
  case first =>
    by_cases hcc : cap = i + 1
    · obtain rfl : n = i + 1 := by omega
      subst hcc
      have s6 : Hid (news = []) := List.eq_nil_of_length_eq_zero (by rw [s1.out]; omega)
      rw [s6.out] at s2 s3 s4 s5
      go_region_law (refine step_append_room rfl (.tmp 22) (.tmp 25) 28 rfl 47 i0 5 Try.underlying28 hi0 hz1 g 0 i (i + 1) (by simp [Act.eval, Act.put]) ⟨g, 0, none⟩ 0 0 [] (by simp [Act.eval, Act.put]) rfl (by intro j u hj; simp at hj) s2.out (by omega) s3.out ?_)
      go_wp2_with fail
      go_meet
      exact ⟨by simp, s5.out.1, s5.out.2⟩
    · have hcc' : ¬ i + 1 = cap := fun e => hcc e.symm
      go_region_law (refine step_append_room rfl (.tmp 22) (.tmp 25) 28 rfl 47 i0 5 Try.underlying28 hi0 hz1 g 0 i cap (by simp [Act.eval, Act.put]) ⟨g, (i + 1) * 5, none⟩ (n - (i + 1)) (cap - (i + 1)) news (by simp [Act.eval, Act.put]) s1.out s4.out s2.out (by omega) s3.out ?_)
      go_wp2_with fail
      go_meet
      exact ⟨rfl, s5.out.1, s5.out.2⟩
  case rest =>
    obtain ⟨rfl, H1, H2⟩ := hcut
    have hr : ∀ j, j < 5 → (wc.cell? ⟨g, (n - 1) * 5 + j, none⟩).isSome = true ∧ wc.frozen? ⟨g, (n - 1) * 5 + j, none⟩ = false := fun j hj => H1.out.room (by omega)
    have HCL := hide (clear_one wc g ((n - 1) * 5) (cap - (n - 1)) (fun j hj => (hr j hj).1) (fun j hj => (hr j hj).2))
    have HN1 : Hid ((ps.eraseIdx i).length = n - 1) := by unfold Hid; rw [List.length_eraseIdx, HN.out, if_pos hi]
    have HPUT := hide (H1.out.put (o := (n - 1) * 5) [.int .i64 0, .slice none 0 0, .int .i64 0, .int .i64 0, .int .i64 0] (ps.eraseIdx i ++ [((⟨0, [], 0, 0, 0⟩ : Upd), .slice none 0 0)]) (by simp; omega) (by rw [← HN1.out, List.take_of_length_le (by rw [cellsP_length]; omega), cellsP_append]; rfl) (by rw [HN1.out]; omega))
    clear hr
    have e1 : ¬ cap = n - 1 := by omega
    have e2 : ((n - 1 : Nat) : Int) ≤ (n : Int) := by omega
    have e3 : n - (n - 1) = 1 := by omega
    go_wp2_with fail
    rw [HCL.out]
    go_wp2_with fail
    go_ret
    exact ⟨rfl, HPUT.out.1.less, grown_trans H2.out HPUT.out.2⟩
end Go.Proofs.Ytkhhifkihpfdhaa
