/- slices.Insert of one record, over lives and over tallies: at the end, in the midst with room, in the midst without. -/
import Derived.Test.YtkhhifkihpfdhaaBSr
import Derived.Lib.SlBuf
import Derived.Shelf.Spec.SlicesInsert
namespace Go.Proofs.Ytkhhifkihpfdhaa
open Go.RowKit

theorem encL_one (x : Live) : ∀ v ∈ encL x, v.oneCell' = true := by
  intro v hv
  simp only [encL, List.mem_cons, List.not_mem_nil, or_false] at hv
  rcases hv with rfl | rfl | rfl | rfl | rfl <;> rfl
theorem encT_one (x : Tal) : ∀ v ∈ encT x, v.oneCell' = true := by
  intro v hv
  simp only [encT, List.mem_cons, List.not_mem_nil, or_false] at hv
  rcases hv with rfl | rfl | rfl <;> rfl
theorem Try.infoTally : (Try.prog.info? 74).map (fun i => (i.zero, i.size, i.bytes)) = some (some (.agg #[.int .i64 0, .int .i64 0, .int .i64 0]), 3, 24) := by kernel_rfl
theorem Try.sizeTally : (Try.prog.info? 74).map (·.size) = some 3 := by kernel_rfl
theorem Box.cellsAt {w : World} {g : Nat} {cs : List Value} {t : TypeId} (h : Box w g cs t) : ∀ j u, cs[j]? = some u → w.cell? ((⟨g, 0, none⟩ : Addr).add j) = some u := by
  intro j u hj
  rw [addr_addS, Nat.zero_add]
  exact h.get j hj
theorem cellsS_one {α : Type} {enc : α → List Value} (h1 : ∀ x, ∀ v ∈ enc x, v.oneCell' = true) (l : List α) : ∀ v ∈ cellsS enc l, v.oneCell' = true := by
  intro v hv
  obtain ⟨x, -, hx⟩ := List.mem_flatMap.1 hv
  exact h1 x v hx

set_option maxRecDepth 100000 in
set_option maxHeartbeats 1000000 in
theorem insert_end_live (B : Nat) (v : Value) (l : List Live) (x : Live) (vb : Nat) (w : World) (h : w.ownsRow B 64 5 v l.length (cellsS encL l)) (hv : Box w vb (encL x) 64) (hB : B ≤ w.heap.size) (hbig : l.length ≤ 1000000000) :
    Calls Try.prog 82 #[v, .int .i64 l.length, .slice (some ⟨vb, 0, none⟩) 1 1] w fun e w' => ∃ v', e = .returned v' ∧ w'.ownsRow B 64 5 v' (l.length + 1) (cellsS encL (l ++ [x])) ∧ w.grownBy w' v.ownBlock ∧ (v'.ownBlock = v.ownBlock ∨ v'.ownBlock = some w.heap.size) := by
  obtain ⟨i0, hi0, hz0, hz1, hz2⟩ := info_parts Try.infoLive
  have HSRC : Hid (Src Try.prog 5 24 (.slice (some ⟨vb, 0, none⟩) 1 1) 1 (encL x) w) := Src.ofSlice w Try.underlying24 ⟨vb, 0, none⟩ 1 1 (encL x) (by rw [encL_length]) hv.cellsAt (encL_one x)
  have HH := hide h
  clear hv
  rcases own_ways h with ⟨rfl, rfl⟩ | ⟨g, cap, rfl, hg, hh, hn, hm⟩
  · clear h
    go_enter Try.func82, Try.ntmps82
    go_wp2_with (at_builtin; refine wpList_append_own_at _ rfl (.tmp 23) (.tmp 24) 24 24 rfl B 64 i0 (.agg #[.bool false, .int .i64 0, .int .i64 0, .int .i64 0, .int .i64 0]) 5 40 Try.underlying24 hi0 hz0 hz1 hz2 rfl _ _ _ rfl HH.out _ rfl 1 (encL x) HSRC.out (by unfold maxLen; simp) (by simp) hB ?_)
    intro v' w4 hown' hgrow hat
    have HO := hide hown'
    have HG := hide hgrow
    have HAT := hide hat
    clear hown' hgrow hat
    go_wp2_with fail
    go_ret
    exact ⟨_, rfl, by have h1 := HO.out; rw [← cellsS_snoc] at h1; exact h1, HG.out, HAT.out⟩
  · have hcm : cap ≤ 9223372036854775807 := by unfold maxLen at hm; omega
    have hnn : (l.length : Int) ≤ (cap : Int) := by omega
    clear h hh hm
    by_cases hcc : cap = l.length
    · subst hcc
      go_enter Try.func82, Try.ntmps82
      go_wp2_with (at_builtin; refine wpList_append_own_at _ rfl (.tmp 23) (.tmp 24) 24 24 rfl B 64 i0 (.agg #[.bool false, .int .i64 0, .int .i64 0, .int .i64 0, .int .i64 0]) 5 40 Try.underlying24 hi0 hz0 hz1 hz2 rfl _ _ _ rfl HH.out _ rfl 1 (encL x) HSRC.out (by unfold maxLen; omega) (by omega) hB ?_)
      intro v' w4 hown' hgrow hat
      have HO := hide hown'
      have HG := hide hgrow
      have HAT := hide hat
      clear hown' hgrow hat
      go_wp2_with fail
      go_ret
      exact ⟨_, rfl, by have h1 := HO.out; rw [← cellsS_snoc] at h1; exact h1, HG.out, HAT.out⟩
    · go_enter Try.func82, Try.ntmps82
      go_wp2_with (at_builtin; refine wpList_append_own_at _ rfl (.tmp 23) (.tmp 24) 24 24 rfl B 64 i0 (.agg #[.bool false, .int .i64 0, .int .i64 0, .int .i64 0, .int .i64 0]) 5 40 Try.underlying24 hi0 hz0 hz1 hz2 rfl _ _ _ rfl HH.out _ rfl 1 (encL x) HSRC.out (by unfold maxLen; omega) (by omega) hB ?_)
      intro v' w4 hown' hgrow hat
      have HO := hide hown'
      have HG := hide hgrow
      have HAT := hide hat
      clear hown' hgrow hat
      go_wp2_with fail
      go_ret
      exact ⟨_, rfl, by have h1 := HO.out; rw [← cellsS_snoc] at h1; exact h1, HG.out, HAT.out⟩

set_option maxRecDepth 100000 in
set_option maxHeartbeats 2000000 in
theorem insert_room_live (g cap i : Nat) (l : List Live) (x : Live) (vb : Nat) (w : World) (h : HoldsS 64 5 encL w g cap l) (hn : l.length + 1 ≤ cap) (hm : cap ≤ maxLen) (hi : i < l.length) (hv : Box w vb (encL x) 64) (hne : vb ≠ g) :
    Calls Try.prog 82 #[.slice (some ⟨g, 0, none⟩) l.length cap, .int .i64 i, .slice (some ⟨vb, 0, none⟩) 1 1] w fun e w' => e = .returned (.slice (some ⟨g, 0, none⟩) (l.length + 1) cap) ∧ HoldsS 64 5 encL w' g cap (l.take i ++ x :: l.drop i) ∧ w.grownBy w' (some g) := by
  obtain ⟨i0, hi0, hz0, hz1, hz2⟩ := info_parts Try.infoLive
  have hcm : cap ≤ 9223372036854775807 := by unfold maxLen at hm; omega
  obtain ⟨n, HN⟩ : ∃ n, Hid (l.length = n) := ⟨_, rfl⟩
  have hN : l.length = n := HN.out
  have hov : ∀ lb cb, (callFunc 109 #[.slice (some ⟨vb, 0, none⟩) 1 1, .slice (some ⟨g, (i + 1) * 5, none⟩) lb cb]).run Try.prog w = .ok (.value (.bool false)) w := fun lb cb => by
    obtain ⟨cur, k1, k2, k3⟩ := h
    have hv2 := hv
    unfold Box at hv2
    rw [run_callFunc_extern Try.func109 (by kernel_rfl) (by kernel_rfl) (by kernel_rfl) (e := Extern.SlicesOverlaps.overlaps #[24, 24] #[4]) (by kernel_rfl),
      Lib.run_overlaps_apart w 24 4 64 Try.underlying24 5 (fun w => by simp [sizeOf, typeInfo, hi0, hz1]) ⟨vb, 0, none⟩ ⟨g, (i + 1) * 5, none⟩ 1 1 lb cb hne 64 64 5 (cap * 5) (by simp [World.shape?, hv2, encL]) (by simp [World.shape?, k1, k2]) (by omega) (hv.free 0) (hv.free 5)]
    rfl
  have hcp1 : ∀ ty dc sc, (Builtin.copy_ #[24, 24] ty #[.slice (some ⟨g, (i + 1) * 5, none⟩) (n - i) dc, .slice (some ⟨g, i * 5, none⟩) (n + 1 - i) sc]).run Try.prog w.drew = .ok (goInt ((n - i : Nat) : Int)) (w.drew.setCells g ((i + 1) * 5) (cellsS encL (l.drop i))) := fun ty dc sc =>
    run_copy_many w.drew 24 24 ty 64 5 g ((i + 1) * 5) (n - i) dc ⟨g, i * 5, none⟩ (n + 1 - i) sc (n - i) (cellsS encL (l.drop i)) Try.underlying24 Try.sizeLive (by simp only [Nat.min_def]; split <;> omega) (by rw [cellsS_length encL_length, List.length_drop, HN.out])
      (fun j v hj => by
        have hjl := (List.getElem?_eq_some_iff.1 hj).1
        rw [cellsS_length encL_length, List.length_drop] at hjl
        have hc := h.cell (j := i * 5 + j) (by omega)
        rw [addr_addS]
        rw [← cellsS_drop encL_length, List.getElem?_drop] at hj
        rw [← hj]
        exact hc)
      (fun j hj => by rw [cellsS_length encL_length, List.length_drop] at hj; exact (h.room (j := (i + 1) * 5 + j) (by omega)).1)
      (fun j hj => h.free ((i + 1) * 5 + j)) (cellsS_one encL_one _)
  obtain ⟨W1, hW1⟩ : ∃ W1, W1 = w.drew.setCells g ((i + 1) * 5) (cellsS encL (l.drop i)) := ⟨_, rfl⟩
  have hd : HoldsS 64 5 encL w.drew g cap l := h
  have H1 : HoldsS 64 5 encL W1 g cap (l.take (i + 1) ++ l.drop i) := by
    rw [hW1]
    exact hd.put encL_length _ _ (by rw [cellsS_length encL_length, List.length_drop]; omega) (by rw [cellsS_take encL_length, cellsS_append]) (by omega)
  have hlen1 : (l.take (i + 1) ++ l.drop i).length = l.length + 1 := by rw [List.length_append, List.length_take, List.length_drop]; omega
  have hv1 : Box W1 vb (encL x) 64 := by
    rw [hW1]
    unfold Box at hv ⊢
    exact ((grown_setCells g (cellsS encL (l.drop i)) ((i + 1) * 5) w.drew).block vb (lt_of_block hv) (by simpa using hne)).trans hv
  have hcp2 : ∀ ty dc, (Builtin.copy_ #[24, 24] ty #[.slice (some ⟨g, i * 5, none⟩) (n + 1 - i) dc, .slice (some ⟨vb, 0, none⟩) 1 1]).run Try.prog W1 = .ok (goInt 1) (W1.setCells g (i * 5) (encL x)) := fun ty dc =>
    run_copy_many W1 24 24 ty 64 5 g (i * 5) (n + 1 - i) dc ⟨vb, 0, none⟩ 1 1 1 (encL x) Try.underlying24 Try.sizeLive (by simp only [Nat.min_def]; split <;> omega) rfl hv1.cellsAt
      (fun j hj => by rw [encL_length] at hj; exact (H1.room (j := i * 5 + j) (by omega)).1)
      (fun j hj => H1.free (i * 5 + j)) (encL_one x)
  have HR : Hid (HoldsS 64 5 encL (W1.setCells g (i * 5) (encL x)) g cap (l.take i ++ x :: l.drop i)) := by
    have := H1.set encL_length (i := i) x (by rw [hlen1]; omega) (by rw [hlen1]; exact hn)
    have e1 : (l.take (i + 1) ++ l.drop i).set i x = l.take i ++ x :: l.drop i := by
      rw [List.take_succ_eq_append_getElem hi, List.append_assoc, List.set_append_right _ _ (by rw [List.length_take]; omega)]
      rw [List.length_take, Nat.min_eq_left (by omega), Nat.sub_self]
      rfl
    rw [e1] at this
    exact this
  have HG : Hid (w.grownBy (W1.setCells g (i * 5) (encL x)) (some g)) := by
    have a1 : w.drew.grownBy W1 (some g) := by rw [hW1]; exact grown_setCells _ _ _ _
    exact grown_trans ⟨a1.os, a1.tape, a1.output, a1.size, a1.block⟩ (grown_setCells g (encL x) (i * 5) W1)
  rw [← hW1] at hcp1
  rw [HN.out] at hi hn ⊢
  have q1 : ¬ ((i : Int) = (n : Int)) := by omega
  have q2 : ¬ ((cap : Int) < (n : Int) + 1) := by omega
  have q3 : (0 : Int) ≤ (i : Int) + 1 := by omega
  have q4 : ((i : Int) + 1).toNat = i + 1 := by omega
  have q5 : ¬ (cap = i + 1) := by omega
  have q6 : ¬ (cap = i) := by omega
  have q7 : (i : Int) ≤ (n : Int) + 1 := by omega
  have q8 : (i : Int) ≤ (n : Int) := by omega
  have q9 : (n : Int) ≤ (cap : Int) := by omega
  have hw1 : IntKind.i64.wrap ((i : Int) + 1) = (i : Int) + 1 := wrapL (by omega) (by omega)
  clear hd h H1 hv hv1 hW1 hm hN hlen1
  go_enter Try.func82, Try.ntmps82
  go_wp2_with (simp only [hov])
  go_region_law (refine Go.Proofs.step_copy_runI rfl _ _ 24 24 rfl _ _ (by simp [Act.eval, Act.put]) (by simp [Act.eval, Act.put]) (hcp1 _ _ _) ?_)
  go_wp2_with (at_builtin; refine Go.Proofs.wpList_copy_runI _ rfl _ _ 24 24 rfl _ _ rfl rfl (hcp2 _ _) ?_)
  go_ret
  exact ⟨rfl, HR.out, HG.out⟩
set_option maxRecDepth 100000 in
set_option maxHeartbeats 1000000 in
theorem insert_end_tally (B : Nat) (v : Value) (l : List Tal) (x : Tal) (vb : Nat) (w : World) (h : w.ownsRow B 74 3 v l.length (cellsS encT l)) (hv : Box w vb (encT x) 74) (hB : B ≤ w.heap.size) (hbig : l.length ≤ 1000000000) :
    Calls Try.prog 84 #[v, .int .i64 l.length, .slice (some ⟨vb, 0, none⟩) 1 1] w fun e w' => ∃ v', e = .returned v' ∧ w'.ownsRow B 74 3 v' (l.length + 1) (cellsS encT (l ++ [x])) ∧ w.grownBy w' v.ownBlock ∧ (v'.ownBlock = v.ownBlock ∨ v'.ownBlock = some w.heap.size) := by
  obtain ⟨i0, hi0, hz0, hz1, hz2⟩ := info_parts Try.infoTally
  have HSRC : Hid (Src Try.prog 3 25 (.slice (some ⟨vb, 0, none⟩) 1 1) 1 (encT x) w) := Src.ofSlice w Try.underlying25 ⟨vb, 0, none⟩ 1 1 (encT x) (by rw [encT_length]) hv.cellsAt (encT_one x)
  have HH := hide h
  clear hv
  rcases own_ways h with ⟨rfl, rfl⟩ | ⟨g, cap, rfl, hg, hh, hn, hm⟩
  · clear h
    go_enter Try.func84, Try.ntmps84
    go_wp2_with (at_builtin; refine wpList_append_own_at _ rfl (.tmp 23) (.tmp 24) 25 25 rfl B 74 i0 (.agg #[.int .i64 0, .int .i64 0, .int .i64 0]) 3 24 Try.underlying25 hi0 hz0 hz1 hz2 rfl _ _ _ rfl HH.out _ rfl 1 (encT x) HSRC.out (by unfold maxLen; simp) (by simp) hB ?_)
    intro v' w4 hown' hgrow hat
    have HO := hide hown'
    have HG := hide hgrow
    have HAT := hide hat
    clear hown' hgrow hat
    go_wp2_with fail
    go_ret
    exact ⟨_, rfl, by have h1 := HO.out; rw [← cellsS_snoc] at h1; exact h1, HG.out, HAT.out⟩
  · have hcm : cap ≤ 9223372036854775807 := by unfold maxLen at hm; omega
    have hnn : (l.length : Int) ≤ (cap : Int) := by omega
    clear h hh hm
    by_cases hcc : cap = l.length
    · subst hcc
      go_enter Try.func84, Try.ntmps84
      go_wp2_with (at_builtin; refine wpList_append_own_at _ rfl (.tmp 23) (.tmp 24) 25 25 rfl B 74 i0 (.agg #[.int .i64 0, .int .i64 0, .int .i64 0]) 3 24 Try.underlying25 hi0 hz0 hz1 hz2 rfl _ _ _ rfl HH.out _ rfl 1 (encT x) HSRC.out (by unfold maxLen; omega) (by omega) hB ?_)
      intro v' w4 hown' hgrow hat
      have HO := hide hown'
      have HG := hide hgrow
      have HAT := hide hat
      clear hown' hgrow hat
      go_wp2_with fail
      go_ret
      exact ⟨_, rfl, by have h1 := HO.out; rw [← cellsS_snoc] at h1; exact h1, HG.out, HAT.out⟩
    · go_enter Try.func84, Try.ntmps84
      go_wp2_with (at_builtin; refine wpList_append_own_at _ rfl (.tmp 23) (.tmp 24) 25 25 rfl B 74 i0 (.agg #[.int .i64 0, .int .i64 0, .int .i64 0]) 3 24 Try.underlying25 hi0 hz0 hz1 hz2 rfl _ _ _ rfl HH.out _ rfl 1 (encT x) HSRC.out (by unfold maxLen; omega) (by omega) hB ?_)
      intro v' w4 hown' hgrow hat
      have HO := hide hown'
      have HG := hide hgrow
      have HAT := hide hat
      clear hown' hgrow hat
      go_wp2_with fail
      go_ret
      exact ⟨_, rfl, by have h1 := HO.out; rw [← cellsS_snoc] at h1; exact h1, HG.out, HAT.out⟩

set_option maxRecDepth 100000 in
set_option maxHeartbeats 2000000 in
theorem insert_room_tally (g cap i : Nat) (l : List Tal) (x : Tal) (vb : Nat) (w : World) (h : HoldsS 74 3 encT w g cap l) (hn : l.length + 1 ≤ cap) (hm : cap ≤ maxLen) (hi : i < l.length) (hv : Box w vb (encT x) 74) (hne : vb ≠ g) :
    Calls Try.prog 84 #[.slice (some ⟨g, 0, none⟩) l.length cap, .int .i64 i, .slice (some ⟨vb, 0, none⟩) 1 1] w fun e w' => e = .returned (.slice (some ⟨g, 0, none⟩) (l.length + 1) cap) ∧ HoldsS 74 3 encT w' g cap (l.take i ++ x :: l.drop i) ∧ w.grownBy w' (some g) := by
  obtain ⟨i0, hi0, hz0, hz1, hz2⟩ := info_parts Try.infoTally
  have hcm : cap ≤ 9223372036854775807 := by unfold maxLen at hm; omega
  obtain ⟨n, HN⟩ : ∃ n, Hid (l.length = n) := ⟨_, rfl⟩
  have hN : l.length = n := HN.out
  have hov : ∀ lb cb, (callFunc 111 #[.slice (some ⟨vb, 0, none⟩) 1 1, .slice (some ⟨g, (i + 1) * 3, none⟩) lb cb]).run Try.prog w = .ok (.value (.bool false)) w := fun lb cb => by
    obtain ⟨cur, k1, k2, k3⟩ := h
    have hv2 := hv
    unfold Box at hv2
    rw [run_callFunc_extern Try.func111 (by kernel_rfl) (by kernel_rfl) (by kernel_rfl) (e := Extern.SlicesOverlaps.overlaps #[25, 25] #[4]) (by kernel_rfl),
      Lib.run_overlaps_apart w 25 4 74 Try.underlying25 3 (fun w => by simp [sizeOf, typeInfo, hi0, hz1]) ⟨vb, 0, none⟩ ⟨g, (i + 1) * 3, none⟩ 1 1 lb cb hne 74 74 3 (cap * 3) (by simp [World.shape?, hv2, encT]) (by simp [World.shape?, k1, k2]) (by omega) (hv.free 0) (hv.free 3)]
    rfl
  have hcp1 : ∀ ty dc sc, (Builtin.copy_ #[25, 25] ty #[.slice (some ⟨g, (i + 1) * 3, none⟩) (n - i) dc, .slice (some ⟨g, i * 3, none⟩) (n + 1 - i) sc]).run Try.prog w.drew = .ok (goInt ((n - i : Nat) : Int)) (w.drew.setCells g ((i + 1) * 3) (cellsS encT (l.drop i))) := fun ty dc sc =>
    run_copy_many w.drew 25 25 ty 74 3 g ((i + 1) * 3) (n - i) dc ⟨g, i * 3, none⟩ (n + 1 - i) sc (n - i) (cellsS encT (l.drop i)) Try.underlying25 Try.sizeTally (by simp only [Nat.min_def]; split <;> omega) (by rw [cellsS_length encT_length, List.length_drop, HN.out])
      (fun j v hj => by
        have hjl := (List.getElem?_eq_some_iff.1 hj).1
        rw [cellsS_length encT_length, List.length_drop] at hjl
        have hc := h.cell (j := i * 3 + j) (by omega)
        rw [addr_addS]
        rw [← cellsS_drop encT_length, List.getElem?_drop] at hj
        rw [← hj]
        exact hc)
      (fun j hj => by rw [cellsS_length encT_length, List.length_drop] at hj; exact (h.room (j := (i + 1) * 3 + j) (by omega)).1)
      (fun j hj => h.free ((i + 1) * 3 + j)) (cellsS_one encT_one _)
  obtain ⟨W1, hW1⟩ : ∃ W1, W1 = w.drew.setCells g ((i + 1) * 3) (cellsS encT (l.drop i)) := ⟨_, rfl⟩
  have hd : HoldsS 74 3 encT w.drew g cap l := h
  have H1 : HoldsS 74 3 encT W1 g cap (l.take (i + 1) ++ l.drop i) := by
    rw [hW1]
    exact hd.put encT_length _ _ (by rw [cellsS_length encT_length, List.length_drop]; omega) (by rw [cellsS_take encT_length, cellsS_append]) (by omega)
  have hlen1 : (l.take (i + 1) ++ l.drop i).length = l.length + 1 := by rw [List.length_append, List.length_take, List.length_drop]; omega
  have hv1 : Box W1 vb (encT x) 74 := by
    rw [hW1]
    unfold Box at hv ⊢
    exact ((grown_setCells g (cellsS encT (l.drop i)) ((i + 1) * 3) w.drew).block vb (lt_of_block hv) (by simpa using hne)).trans hv
  have hcp2 : ∀ ty dc, (Builtin.copy_ #[25, 25] ty #[.slice (some ⟨g, i * 3, none⟩) (n + 1 - i) dc, .slice (some ⟨vb, 0, none⟩) 1 1]).run Try.prog W1 = .ok (goInt 1) (W1.setCells g (i * 3) (encT x)) := fun ty dc =>
    run_copy_many W1 25 25 ty 74 3 g (i * 3) (n + 1 - i) dc ⟨vb, 0, none⟩ 1 1 1 (encT x) Try.underlying25 Try.sizeTally (by simp only [Nat.min_def]; split <;> omega) rfl hv1.cellsAt
      (fun j hj => by rw [encT_length] at hj; exact (H1.room (j := i * 3 + j) (by omega)).1)
      (fun j hj => H1.free (i * 3 + j)) (encT_one x)
  have HR : Hid (HoldsS 74 3 encT (W1.setCells g (i * 3) (encT x)) g cap (l.take i ++ x :: l.drop i)) := by
    have := H1.set encT_length (i := i) x (by rw [hlen1]; omega) (by rw [hlen1]; exact hn)
    have e1 : (l.take (i + 1) ++ l.drop i).set i x = l.take i ++ x :: l.drop i := by
      rw [List.take_succ_eq_append_getElem hi, List.append_assoc, List.set_append_right _ _ (by rw [List.length_take]; omega)]
      rw [List.length_take, Nat.min_eq_left (by omega), Nat.sub_self]
      rfl
    rw [e1] at this
    exact this
  have HG : Hid (w.grownBy (W1.setCells g (i * 3) (encT x)) (some g)) := by
    have a1 : w.drew.grownBy W1 (some g) := by rw [hW1]; exact grown_setCells _ _ _ _
    exact grown_trans ⟨a1.os, a1.tape, a1.output, a1.size, a1.block⟩ (grown_setCells g (encT x) (i * 3) W1)
  rw [← hW1] at hcp1
  rw [HN.out] at hi hn ⊢
  have q1 : ¬ ((i : Int) = (n : Int)) := by omega
  have q2 : ¬ ((cap : Int) < (n : Int) + 1) := by omega
  have q3 : (0 : Int) ≤ (i : Int) + 1 := by omega
  have q4 : ((i : Int) + 1).toNat = i + 1 := by omega
  have q5 : ¬ (cap = i + 1) := by omega
  have q6 : ¬ (cap = i) := by omega
  have q7 : (i : Int) ≤ (n : Int) + 1 := by omega
  have q8 : (i : Int) ≤ (n : Int) := by omega
  have q9 : (n : Int) ≤ (cap : Int) := by omega
  have hw1 : IntKind.i64.wrap ((i : Int) + 1) = (i : Int) + 1 := wrapL (by omega) (by omega)
  clear hd h H1 hv hv1 hW1 hm hN hlen1
  go_enter Try.func84, Try.ntmps84
  go_wp2_with (simp only [hov])
  go_region_law (refine Go.Proofs.step_copy_runI rfl _ _ 25 25 rfl _ _ (by simp [Act.eval, Act.put]) (by simp [Act.eval, Act.put]) (hcp1 _ _ _) ?_)
  go_wp2_with (at_builtin; refine Go.Proofs.wpList_copy_runI _ rfl _ _ 25 25 rfl _ _ rfl rfl (hcp2 _ _) ?_)
  go_ret
  exact ⟨rfl, HR.out, HG.out⟩
end Go.Proofs.Ytkhhifkihpfdhaa
