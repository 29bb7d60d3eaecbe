/- slices.Insert of one record, over lives and over tallies: at the end, in the midst with room, in the midst without. -/
import Derived.Test.YtfhecilhcofboaaGreatBSr
import Derived.Lib.SlBuf
import Derived.Shelf.Spec.SlicesInsert
namespace Go.Proofs.YtfhecilhcofboaaGreat
open Go.RowKit

theorem encL_one (x : Live) : ∀ v ∈ encL x, v.oneCell' = true := by
 intro v hv
 simp only [encL, List.mem_cons, List.not_mem_nil, or_false] at hv
 rcases hv with rfl | rfl | rfl | rfl | rfl <;> rfl
theorem encT_one (x : Tal) : ∀ v ∈ encT x, v.oneCell' = true := by
 intro v hv
 simp only [encT, List.mem_cons, List.not_mem_nil, or_false] at hv
 rcases hv with rfl | rfl | rfl <;> rfl
theorem Tryz.infoTally : (Tryz.prog.info? 108).map (fun i => (i.zero, i.size, i.bytes)) = some (some (.agg #[.int .i64 0, .int .i64 0, .int .i64 0]), 3, 24) := by kernel_rfl
theorem Tryz.sizeTally : (Tryz.prog.info? 108).map (·.size) = some 3 := by kernel_rfl
theorem Box.cellsAt {w : World} {g : Nat} {cs : List Value} {t : TypeId} (h : Box w g cs t) : ∀ j u, cs[j]? = some u → w.cell? ((⟨g, 0, none⟩ : Addr).add j) = some u := by
 intro j u hj
 rw [addr_addS, Nat.zero_add]
 exact h.get j hj
theorem cellsS_one {α : Type} {enc : α → List Value} (h1 : ∀ x, ∀ v ∈ enc x, v.oneCell' = true) (l : List α) : ∀ v ∈ cellsS enc l, v.oneCell' = true := by
 intro v hv
 obtain ⟨x, -, hx⟩ := List.mem_flatMap.1 hv
 exact h1 x v hx

set_option maxRecDepth 100000 in
set_option maxHeartbeats 1000000 in
theorem insert_end_live (B : Nat) (v : Value) (l : List Live) (x : Live) (vb : Nat) (w : World) (h : w.ownsRow B 106 5 v l.length (cellsS encL l)) (hv : Box w vb (encL x) 106) (hB : B ≤ w.heap.size) (hbig : l.length ≤ 1000000000) :
  Calls Tryz.prog 133 #[v, .int .i64 l.length, .slice (some ⟨vb, 0, none⟩) 1 1] w fun e w' => ∃ v', e = .returned v' ∧ w'.ownsRow B 106 5 v' (l.length + 1) (cellsS encL (l ++ [x])) ∧ w.grownBy w' v.ownBlock ∧ (v'.ownBlock = v.ownBlock ∨ v'.ownBlock = some w.heap.size) := by
 obtain ⟨i0, hi0, hz0, hz1, hz2⟩ := info_parts Tryz.infoLive
 have HSRC : Hid (Src Tryz.prog 5 24 (.slice (some ⟨vb, 0, none⟩) 1 1) 1 (encL x) w) := Src.ofSlice w Tryz.underlying24 ⟨vb, 0, none⟩ 1 1 (encL x) (by rw [encL_length]) hv.cellsAt (encL_one x)
 have HH := hide h
 clear hv
 rcases own_ways h with ⟨rfl, rfl⟩ | ⟨g, cap, rfl, hg, hh, hn, hm⟩
 ·clear h
  go_enter Tryz.func133, Tryz.ntmps133
  go_wp2_with (at_builtin; refine wpList_append_own_at _ rfl (.tmp 23) (.tmp 24) 24 24 rfl B 106 i0 (.agg #[.bool false, .int .i64 0, .int .i64 0, .int .i64 0, .int .i64 0]) 5 40 Tryz.underlying24 hi0 hz0 hz1 hz2 rfl _ _ _ rfl HH.out _ rfl 1 (encL x) HSRC.out (by unfold maxLen; simp) (by simp) hB ?_)
  intro v' w4 hown' hgrow hat
  have HO := hide hown'
  have HG := hide hgrow
  have HAT := hide hat
  clear hown' hgrow hat
  go_wp2_with fail
  go_ret
  exact ⟨_, rfl, by have h1 := HO.out; rw [← cellsS_snoc] at h1; exact h1, HG.out, HAT.out⟩
 have hcm : cap ≤ 9223372036854775807 := by unfold maxLen at hm; omega
 have hnn : (l.length : Int) ≤ (cap : Int) := by omega
 clear h hh hm
 by_cases hcc : cap = l.length
 ·subst hcc
  go_enter Tryz.func133, Tryz.ntmps133
  go_wp2_with (at_builtin; refine wpList_append_own_at _ rfl (.tmp 23) (.tmp 24) 24 24 rfl B 106 i0 (.agg #[.bool false, .int .i64 0, .int .i64 0, .int .i64 0, .int .i64 0]) 5 40 Tryz.underlying24 hi0 hz0 hz1 hz2 rfl _ _ _ rfl HH.out _ rfl 1 (encL x) HSRC.out (by unfold maxLen; omega) (by omega) hB ?_)
  intro v' w4 hown' hgrow hat
  have HO := hide hown'
  have HG := hide hgrow
  have HAT := hide hat
  clear hown' hgrow hat
  go_wp2_with fail
  go_ret
  exact ⟨_, rfl, by have h1 := HO.out; rw [← cellsS_snoc] at h1; exact h1, HG.out, HAT.out⟩
 go_enter Tryz.func133, Tryz.ntmps133
 go_wp2_with (at_builtin; refine wpList_append_own_at _ rfl (.tmp 23) (.tmp 24) 24 24 rfl B 106 i0 (.agg #[.bool false, .int .i64 0, .int .i64 0, .int .i64 0, .int .i64 0]) 5 40 Tryz.underlying24 hi0 hz0 hz1 hz2 rfl _ _ _ rfl HH.out _ rfl 1 (encL x) HSRC.out (by unfold maxLen; omega) (by omega) hB ?_)
 intro v' w4 hown' hgrow hat
 have HO := hide hown'
 have HG := hide hgrow
 have HAT := hide hat
 clear hown' hgrow hat
 go_wp2_with fail
 go_ret
 exact ⟨_, rfl, by have h1 := HO.out; rw [← cellsS_snoc] at h1; exact h1, HG.out, HAT.out⟩

set_option maxRecDepth 100000 in
set_option maxHeartbeats 2000000 in
theorem insert_room_live (g cap i : Nat) (l : List Live) (x : Live) (vb : Nat) (w : World) (h : HoldsS 106 5 encL w g cap l) (hn : l.length + 1 ≤ cap) (hm : cap ≤ maxLen) (hi : i < l.length) (hv : Box w vb (encL x) 106) (hne : vb ≠ g) :
  Calls Tryz.prog 133 #[.slice (some ⟨g, 0, none⟩) l.length cap, .int .i64 i, .slice (some ⟨vb, 0, none⟩) 1 1] w fun e w' => e = .returned (.slice (some ⟨g, 0, none⟩) (l.length + 1) cap) ∧ HoldsS 106 5 encL w' g cap (l.take i ++ x :: l.drop i) ∧ w.grownBy w' (some g) := by
 obtain ⟨i0, hi0, hz0, hz1, hz2⟩ := info_parts Tryz.infoLive
 have hcm : cap ≤ 9223372036854775807 := by unfold maxLen at hm; omega
 obtain ⟨n, HN⟩ : ∃ n, Hid (l.length = n) := ⟨_, rfl⟩
 have hN : l.length = n := HN.out
 have hov : ∀ lb cb, (callFunc 145 #[.slice (some ⟨vb, 0, none⟩) 1 1, .slice (some ⟨g, (i + 1) * 5, none⟩) lb cb]).run Tryz.prog w = .ok (.value (.bool false)) w := fun lb cb => by
  obtain ⟨cur, k1, k2, k3⟩ := h
  have hv2 := hv
  unfold Box at hv2
  rw [run_callFunc_extern Tryz.func145 (by kernel_rfl) (by kernel_rfl) (by kernel_rfl) (e := Extern.SlicesOverlaps.overlaps #[24, 24] #[4]) (by kernel_rfl),
   Lib.run_overlaps_apart w 24 4 106 Tryz.underlying24 5 (fun w => by simp [sizeOf, typeInfo, hi0, hz1]) ⟨vb, 0, none⟩ ⟨g, (i + 1) * 5, none⟩ 1 1 lb cb hne 106 106 5 (cap * 5) (by simp [World.shape?, hv2, encL]) (by simp [World.shape?, k1, k2]) (by omega) (hv.free 0) (hv.free 5)]
  rfl
 have hcp1 : ∀ ty dc sc, (Builtin.copy_ #[24, 24] ty #[.slice (some ⟨g, (i + 1) * 5, none⟩) (n - i) dc, .slice (some ⟨g, i * 5, none⟩) (n + 1 - i) sc]).run Tryz.prog w.drew = .ok (goInt ((n - i : Nat) : Int)) (w.drew.setCells g ((i + 1) * 5) (cellsS encL (l.drop i))) := fun ty dc sc =>
  run_copy_many w.drew 24 24 ty 106 5 g ((i + 1) * 5) (n - i) dc ⟨g, i * 5, none⟩ (n + 1 - i) sc (n - i) (cellsS encL (l.drop i)) Tryz.underlying24 Tryz.sizeLive (by simp only [Nat.min_def]; split <;> omega) (by rw [cellsS_length encL_length, List.length_drop, HN.out])
   (fun j v hj => by
    have hjl := (List.getElem?_eq_some_iff.1 hj).1
    rw [cellsS_length encL_length, List.length_drop] at hjl
    have hc := h.cell (j := i * 5 + j) (by omega)
    rw [addr_addS]
    rw [← cellsS_drop encL_length, List.getElem?_drop] at hj
    rw [← hj]
    exact hc)
   (fun j hj => by rw [cellsS_length encL_length, List.length_drop] at hj; exact (h.room (j := (i + 1) * 5 + j) (by omega)).1)
   (fun j hj => h.free ((i + 1) * 5 + j)) (cellsS_one encL_one _)
 obtain ⟨W1, hW1⟩ : ∃ W1, W1 = w.drew.setCells g ((i + 1) * 5) (cellsS encL (l.drop i)) := ⟨_, rfl⟩
 have hd : HoldsS 106 5 encL w.drew g cap l := h
 have H1 : HoldsS 106 5 encL W1 g cap (l.take (i + 1) ++ l.drop i) := by
  rw [hW1]
  exact hd.put encL_length _ _ (by rw [cellsS_length encL_length, List.length_drop]; omega) (by rw [cellsS_take encL_length, cellsS_append]) (by omega)
 have hlen1 : (l.take (i + 1) ++ l.drop i).length = l.length + 1 := by rw [List.length_append, List.length_take, List.length_drop]; omega
 have hv1 : Box W1 vb (encL x) 106 := by
  rw [hW1]
  unfold Box at hv ⊢
  exact ((grown_setCells g (cellsS encL (l.drop i)) ((i + 1) * 5) w.drew).block vb (lt_of_block hv) (by simpa using hne)).trans hv
 have hcp2 : ∀ ty dc, (Builtin.copy_ #[24, 24] ty #[.slice (some ⟨g, i * 5, none⟩) (n + 1 - i) dc, .slice (some ⟨vb, 0, none⟩) 1 1]).run Tryz.prog W1 = .ok (goInt 1) (W1.setCells g (i * 5) (encL x)) := fun ty dc =>
  run_copy_many W1 24 24 ty 106 5 g (i * 5) (n + 1 - i) dc ⟨vb, 0, none⟩ 1 1 1 (encL x) Tryz.underlying24 Tryz.sizeLive (by simp only [Nat.min_def]; split <;> omega) rfl hv1.cellsAt
   (fun j hj => by rw [encL_length] at hj; exact (H1.room (j := i * 5 + j) (by omega)).1)
   (fun j hj => H1.free (i * 5 + j)) (encL_one x)
 have HR : Hid (HoldsS 106 5 encL (W1.setCells g (i * 5) (encL x)) g cap (l.take i ++ x :: l.drop i)) := by
  have := H1.set encL_length (i := i) x (by rw [hlen1]; omega) (by rw [hlen1]; exact hn)
  have e1 : (l.take (i + 1) ++ l.drop i).set i x = l.take i ++ x :: l.drop i := by
   rw [List.take_succ_eq_append_getElem hi, List.append_assoc, List.set_append_right _ _ (by rw [List.length_take]; omega)]
   rw [List.length_take, Nat.min_eq_left (by omega), Nat.sub_self]
   rfl
  rw [e1] at this
  exact this
 have HG : Hid (w.grownBy (W1.setCells g (i * 5) (encL x)) (some g)) := by
  have a1 : w.drew.grownBy W1 (some g) := by rw [hW1]; exact grown_setCells _ _ _ _
  exact grown_trans ⟨a1.os, a1.tape, a1.output, a1.size, a1.block⟩ (grown_setCells g (encL x) (i * 5) W1)
 rw [← hW1] at hcp1
 rw [HN.out] at hi hn ⊢
 have q1 : ¬ ((i : Int) = (n : Int)) := by omega
 have q2 : ¬ ((cap : Int) < (n : Int) + 1) := by omega
 have q3 : (0 : Int) ≤ (i : Int) + 1 := by omega
 have q4 : ((i : Int) + 1).toNat = i + 1 := by omega
 have q5 : ¬ (cap = i + 1) := by omega
 have q6 : ¬ (cap = i) := by omega
 have q7 : (i : Int) ≤ (n : Int) + 1 := by omega
 have q8 : (i : Int) ≤ (n : Int) := by omega
 have q9 : (n : Int) ≤ (cap : Int) := by omega
 have hw1 : IntKind.i64.wrap ((i : Int) + 1) = (i : Int) + 1 := wrapL (by omega) (by omega)
 clear hd h H1 hv hv1 hW1 hm hN hlen1
 go_enter Tryz.func133, Tryz.ntmps133
 go_wp2_with (simp only [hov])
 go_region_law (refine Go.Proofs.step_copy_runI rfl _ _ 24 24 rfl _ _ (by simp [Act.eval, Act.put]) (by simp [Act.eval, Act.put]) (hcp1 _ _ _) ?_)
 go_wp2_with (at_builtin; refine Go.Proofs.wpList_copy_runI _ rfl _ _ 24 24 rfl _ _ rfl rfl (hcp2 _ _) ?_)
 go_ret
 exact ⟨rfl, HR.out, HG.out⟩
set_option maxRecDepth 100000 in
set_option maxHeartbeats 1000000 in
theorem insert_end_tally (B : Nat) (v : Value) (l : List Tal) (x : Tal) (vb : Nat) (w : World) (h : w.ownsRow B 108 3 v l.length (cellsS encT l)) (hv : Box w vb (encT x) 108) (hB : B ≤ w.heap.size) (hbig : l.length ≤ 1000000000) :
  Calls Tryz.prog 135 #[v, .int .i64 l.length, .slice (some ⟨vb, 0, none⟩) 1 1] w fun e w' => ∃ v', e = .returned v' ∧ w'.ownsRow B 108 3 v' (l.length + 1) (cellsS encT (l ++ [x])) ∧ w.grownBy w' v.ownBlock ∧ (v'.ownBlock = v.ownBlock ∨ v'.ownBlock = some w.heap.size) := by
 obtain ⟨i0, hi0, hz0, hz1, hz2⟩ := info_parts Tryz.infoTally
 have HSRC : Hid (Src Tryz.prog 3 25 (.slice (some ⟨vb, 0, none⟩) 1 1) 1 (encT x) w) := Src.ofSlice w Tryz.underlying25 ⟨vb, 0, none⟩ 1 1 (encT x) (by rw [encT_length]) hv.cellsAt (encT_one x)
 have HH := hide h
 clear hv
 rcases own_ways h with ⟨rfl, rfl⟩ | ⟨g, cap, rfl, hg, hh, hn, hm⟩
 ·clear h
  go_enter Tryz.func135, Tryz.ntmps135
  go_wp2_with (at_builtin; refine wpList_append_own_at _ rfl (.tmp 23) (.tmp 24) 25 25 rfl B 108 i0 (.agg #[.int .i64 0, .int .i64 0, .int .i64 0]) 3 24 Tryz.underlying25 hi0 hz0 hz1 hz2 rfl _ _ _ rfl HH.out _ rfl 1 (encT x) HSRC.out (by unfold maxLen; simp) (by simp) hB ?_)
  intro v' w4 hown' hgrow hat
  have HO := hide hown'
  have HG := hide hgrow
  have HAT := hide hat
  clear hown' hgrow hat
  go_wp2_with fail
  go_ret
  exact ⟨_, rfl, by have h1 := HO.out; rw [← cellsS_snoc] at h1; exact h1, HG.out, HAT.out⟩
 have hcm : cap ≤ 9223372036854775807 := by unfold maxLen at hm; omega
 have hnn : (l.length : Int) ≤ (cap : Int) := by omega
 clear h hh hm
 by_cases hcc : cap = l.length
 ·subst hcc
  go_enter Tryz.func135, Tryz.ntmps135
  go_wp2_with (at_builtin; refine wpList_append_own_at _ rfl (.tmp 23) (.tmp 24) 25 25 rfl B 108 i0 (.agg #[.int .i64 0, .int .i64 0, .int .i64 0]) 3 24 Tryz.underlying25 hi0 hz0 hz1 hz2 rfl _ _ _ rfl HH.out _ rfl 1 (encT x) HSRC.out (by unfold maxLen; omega) (by omega) hB ?_)
  intro v' w4 hown' hgrow hat
  have HO := hide hown'
  have HG := hide hgrow
  have HAT := hide hat
  clear hown' hgrow hat
  go_wp2_with fail
  go_ret
  exact ⟨_, rfl, by have h1 := HO.out; rw [← cellsS_snoc] at h1; exact h1, HG.out, HAT.out⟩
 go_enter Tryz.func135, Tryz.ntmps135
 go_wp2_with (at_builtin; refine wpList_append_own_at _ rfl (.tmp 23) (.tmp 24) 25 25 rfl B 108 i0 (.agg #[.int .i64 0, .int .i64 0, .int .i64 0]) 3 24 Tryz.underlying25 hi0 hz0 hz1 hz2 rfl _ _ _ rfl HH.out _ rfl 1 (encT x) HSRC.out (by unfold maxLen; omega) (by omega) hB ?_)
 intro v' w4 hown' hgrow hat
 have HO := hide hown'
 have HG := hide hgrow
 have HAT := hide hat
 clear hown' hgrow hat
 go_wp2_with fail
 go_ret
 exact ⟨_, rfl, by have h1 := HO.out; rw [← cellsS_snoc] at h1; exact h1, HG.out, HAT.out⟩

set_option maxRecDepth 100000 in
set_option maxHeartbeats 2000000 in
theorem insert_room_tally (g cap i : Nat) (l : List Tal) (x : Tal) (vb : Nat) (w : World) (h : HoldsS 108 3 encT w g cap l) (hn : l.length + 1 ≤ cap) (hm : cap ≤ maxLen) (hi : i < l.length) (hv : Box w vb (encT x) 108) (hne : vb ≠ g) :
  Calls Tryz.prog 135 #[.slice (some ⟨g, 0, none⟩) l.length cap, .int .i64 i, .slice (some ⟨vb, 0, none⟩) 1 1] w fun e w' => e = .returned (.slice (some ⟨g, 0, none⟩) (l.length + 1) cap) ∧ HoldsS 108 3 encT w' g cap (l.take i ++ x :: l.drop i) ∧ w.grownBy w' (some g) := by
 obtain ⟨i0, hi0, hz0, hz1, hz2⟩ := info_parts Tryz.infoTally
 have hcm : cap ≤ 9223372036854775807 := by unfold maxLen at hm; omega
 obtain ⟨n, HN⟩ : ∃ n, Hid (l.length = n) := ⟨_, rfl⟩
 have hN : l.length = n := HN.out
 have hov : ∀ lb cb, (callFunc 147 #[.slice (some ⟨vb, 0, none⟩) 1 1, .slice (some ⟨g, (i + 1) * 3, none⟩) lb cb]).run Tryz.prog w = .ok (.value (.bool false)) w := fun lb cb => by
  obtain ⟨cur, k1, k2, k3⟩ := h
  have hv2 := hv
  unfold Box at hv2
  rw [run_callFunc_extern Tryz.func147 (by kernel_rfl) (by kernel_rfl) (by kernel_rfl) (e := Extern.SlicesOverlaps.overlaps #[25, 25] #[4]) (by kernel_rfl),
   Lib.run_overlaps_apart w 25 4 108 Tryz.underlying25 3 (fun w => by simp [sizeOf, typeInfo, hi0, hz1]) ⟨vb, 0, none⟩ ⟨g, (i + 1) * 3, none⟩ 1 1 lb cb hne 108 108 3 (cap * 3) (by simp [World.shape?, hv2, encT]) (by simp [World.shape?, k1, k2]) (by omega) (hv.free 0) (hv.free 3)]
  rfl
 have hcp1 : ∀ ty dc sc, (Builtin.copy_ #[25, 25] ty #[.slice (some ⟨g, (i + 1) * 3, none⟩) (n - i) dc, .slice (some ⟨g, i * 3, none⟩) (n + 1 - i) sc]).run Tryz.prog w.drew = .ok (goInt ((n - i : Nat) : Int)) (w.drew.setCells g ((i + 1) * 3) (cellsS encT (l.drop i))) := fun ty dc sc =>
  run_copy_many w.drew 25 25 ty 108 3 g ((i + 1) * 3) (n - i) dc ⟨g, i * 3, none⟩ (n + 1 - i) sc (n - i) (cellsS encT (l.drop i)) Tryz.underlying25 Tryz.sizeTally (by simp only [Nat.min_def]; split <;> omega) (by rw [cellsS_length encT_length, List.length_drop, HN.out])
   (fun j v hj => by
    have hjl := (List.getElem?_eq_some_iff.1 hj).1
    rw [cellsS_length encT_length, List.length_drop] at hjl
    have hc := h.cell (j := i * 3 + j) (by omega)
    rw [addr_addS]
    rw [← cellsS_drop encT_length, List.getElem?_drop] at hj
    rw [← hj]
    exact hc)
   (fun j hj => by rw [cellsS_length encT_length, List.length_drop] at hj; exact (h.room (j := (i + 1) * 3 + j) (by omega)).1)
   (fun j hj => h.free ((i + 1) * 3 + j)) (cellsS_one encT_one _)
 obtain ⟨W1, hW1⟩ : ∃ W1, W1 = w.drew.setCells g ((i + 1) * 3) (cellsS encT (l.drop i)) := ⟨_, rfl⟩
 have hd : HoldsS 108 3 encT w.drew g cap l := h
 have H1 : HoldsS 108 3 encT W1 g cap (l.take (i + 1) ++ l.drop i) := by
  rw [hW1]
  exact hd.put encT_length _ _ (by rw [cellsS_length encT_length, List.length_drop]; omega) (by rw [cellsS_take encT_length, cellsS_append]) (by omega)
 have hlen1 : (l.take (i + 1) ++ l.drop i).length = l.length + 1 := by rw [List.length_append, List.length_take, List.length_drop]; omega
 have hv1 : Box W1 vb (encT x) 108 := by
  rw [hW1]
  unfold Box at hv ⊢
  exact ((grown_setCells g (cellsS encT (l.drop i)) ((i + 1) * 3) w.drew).block vb (lt_of_block hv) (by simpa using hne)).trans hv
 have hcp2 : ∀ ty dc, (Builtin.copy_ #[25, 25] ty #[.slice (some ⟨g, i * 3, none⟩) (n + 1 - i) dc, .slice (some ⟨vb, 0, none⟩) 1 1]).run Tryz.prog W1 = .ok (goInt 1) (W1.setCells g (i * 3) (encT x)) := fun ty dc =>
  run_copy_many W1 25 25 ty 108 3 g (i * 3) (n + 1 - i) dc ⟨vb, 0, none⟩ 1 1 1 (encT x) Tryz.underlying25 Tryz.sizeTally (by simp only [Nat.min_def]; split <;> omega) rfl hv1.cellsAt
   (fun j hj => by rw [encT_length] at hj; exact (H1.room (j := i * 3 + j) (by omega)).1)
   (fun j hj => H1.free (i * 3 + j)) (encT_one x)
 have HR : Hid (HoldsS 108 3 encT (W1.setCells g (i * 3) (encT x)) g cap (l.take i ++ x :: l.drop i)) := by
  have := H1.set encT_length (i := i) x (by rw [hlen1]; omega) (by rw [hlen1]; exact hn)
  have e1 : (l.take (i + 1) ++ l.drop i).set i x = l.take i ++ x :: l.drop i := by
   rw [List.take_succ_eq_append_getElem hi, List.append_assoc, List.set_append_right _ _ (by rw [List.length_take]; omega)]
   rw [List.length_take, Nat.min_eq_left (by omega), Nat.sub_self]
   rfl
  rw [e1] at this
  exact this
 have HG : Hid (w.grownBy (W1.setCells g (i * 3) (encT x)) (some g)) := by
  have a1 : w.drew.grownBy W1 (some g) := by rw [hW1]; exact grown_setCells _ _ _ _
  exact grown_trans ⟨a1.os, a1.tape, a1.output, a1.size, a1.block⟩ (grown_setCells g (encT x) (i * 3) W1)
 rw [← hW1] at hcp1
 rw [HN.out] at hi hn ⊢
 have q1 : ¬ ((i : Int) = (n : Int)) := by omega
 have q2 : ¬ ((cap : Int) < (n : Int) + 1) := by omega
 have q3 : (0 : Int) ≤ (i : Int) + 1 := by omega
 have q4 : ((i : Int) + 1).toNat = i + 1 := by omega
 have q5 : ¬ (cap = i + 1) := by omega
 have q6 : ¬ (cap = i) := by omega
 have q7 : (i : Int) ≤ (n : Int) + 1 := by omega
 have q8 : (i : Int) ≤ (n : Int) := by omega
 have q9 : (n : Int) ≤ (cap : Int) := by omega
 have hw1 : IntKind.i64.wrap ((i : Int) + 1) = (i : Int) + 1 := wrapL (by omega) (by omega)
 clear hd h H1 hv hv1 hW1 hm hN hlen1
 go_enter Tryz.func135, Tryz.ntmps135
 go_wp2_with (simp only [hov])
 go_region_law (refine Go.Proofs.step_copy_runI rfl _ _ 25 25 rfl _ _ (by simp [Act.eval, Act.put]) (by simp [Act.eval, Act.put]) (hcp1 _ _ _) ?_)
 go_wp2_with (at_builtin; refine Go.Proofs.wpList_copy_runI _ rfl _ _ 25 25 rfl _ _ rfl rfl (hcp2 _ _) ?_)
 go_ret
 exact ⟨rfl, HR.out, HG.out⟩
end Go.Proofs.YtfhecilhcofboaaGreat
/- slices.Insert of one record in the midst of a row without room; and in all: a record laid at its place. -/
namespace Go.Proofs.YtfhecilhcofboaaGreat
open Go.RowKit

set_option maxRecDepth 100000 in
set_option maxHeartbeats 2000000 in
theorem insert_grow_live (B g i : Nat) (l : List Live) (x : Live) (vb : Nat) (w : World) (h : HoldsS 106 5 encL w g l.length l) (hi : i < l.length) (hv : Box w vb (encL x) 106) (hB : B ≤ w.heap.size) (hbig : l.length ≤ 1000000000) :
  Calls Tryz.prog 133 #[.slice (some ⟨g, 0, none⟩) l.length l.length, .int .i64 i, .slice (some ⟨vb, 0, none⟩) 1 1] w fun e w' => ∃ v', e = .returned v' ∧ w'.ownsRow B 106 5 v' (l.length + 1) (cellsS encL (l.take i ++ x :: l.drop i)) ∧ w.grownBy w' (some g) ∧ v'.ownBlock = some w.heap.size := by
 obtain ⟨i0, hi0, hz0, hz1, hz2⟩ := info_parts Tryz.infoLive
 obtain ⟨n, HN⟩ : ∃ n, Hid (l.length = n) := ⟨_, rfl⟩
 have hN : l.length = n := HN.out
 have hgl := h.lt
 have hold : (Builtin.firstCells i0.size i (.slice (some ⟨g, 0, none⟩) i n)).run Tryz.prog w.drew = .ok (cellsS encL (l.take i)).toArray w.drew := by
  rw [hz1]
  exact run_firstCells_some w.drew 5 i ⟨g, 0, none⟩ i n (cellsS encL (l.take i)) (by rw [cellsS_length encL_length, List.length_take]; omega) (fun j v hj => by
   have hjl := (List.getElem?_eq_some_iff.1 hj).1
   rw [cellsS_length encL_length, List.length_take] at hjl
   have hc := h.cell (j := j) (by omega)
   rw [addr_addS, Nat.zero_add]
   rw [← cellsS_take encL_length, List.getElem?_take_of_lt (by omega)] at hj
   rw [← hj]
   exact hc)
 obtain ⟨G, hG⟩ : ∃ G, G = grownCap w (n + 1) n 106 := ⟨_, rfl⟩
 have hGn : n + 1 ≤ G := by rw [hG]; exact grownCap_ge w _ _ _
 have hGm : G ≤ maxLen := by rw [hG]; exact grownCap_le_maxLen w (n + 1) n 106 (by unfold maxLen; omega)
 obtain ⟨ROW, hROW⟩ : ∃ ROW : Array Value, ROW = (cellsS encL (l.take i)).toArray ++ Builtin.zeroCells (Value.cells (.agg #[.bool false, .int .i64 0, .int .i64 0, .int .i64 0, .int .i64 0])) (n + 1 - i) ++ Builtin.zeroCells (Value.cells (.agg #[.bool false, .int .i64 0, .int .i64 0, .int .i64 0, .int .i64 0])) (G - (n + 1)) := ⟨_, rfl⟩
 have hRs : ROW.size = G * 5 := by
  rw [hROW]
  simp only [Array.size_append, List.size_toArray, size_zeroCells, cellsS_length encL_length, List.length_take]
  have : (Value.cells (.agg #[.bool false, .int .i64 0, .int .i64 0, .int .i64 0, .int .i64 0])).size = 5 := rfl
  rw [this]
  omega
 have hrz : ∀ ty, (Builtin.append_ #[24, 3] ty #[.slice (some ⟨g, 0, none⟩) i n, .int .i64 ((n : Int) + 1 - (i : Int))]).run Tryz.prog w =
   .ok (.slice (some ⟨w.heap.size, 0, none⟩) (n + 1) G) (w.drew.alloc (.cells ROW 106)) := fun ty => by
  have h2 := Lib.run_append_grow_zeros w 24 3 ty 106 i0 _ .i64 .i64 Tryz.underlying24 Tryz.underlying3 hi0 hz0 (some ⟨g, 0, none⟩) i n (cellsS encL (l.take i)) hold (n + 1 - i) (by omega) (by omega) (by omega) (by omega) (by rw [hz2]; omega) (by rw [hz2, show i + (n + 1 - i) = n + 1 by omega]; exact growslice_fits (by omega) (by omega))
  rw [show i + (n + 1 - i) = n + 1 by omega, ← hG, ← hROW] at h2
  rw [show (n : Int) + 1 - (i : Int) = ((n + 1 - i : Nat) : Int) by omega]
  exact h2
 obtain ⟨W1, hW1⟩ : ∃ W1, W1 = w.drew.alloc (.cells ROW 106) := ⟨_, rfl⟩
 have H1 : HoldsS 106 5 encL W1 w.heap.size G (l.take i) := by
  rw [hW1]
  refine ⟨ROW, heap_alloc_new w.drew _, hRs, ?_⟩
  rw [hROW]
  simp only [Array.toList_append]
  rw [List.append_assoc, List.take_left' (cellsS_length encL_length _)]
 have hb1 : Below w.heap.size w W1 := by rw [hW1]; exact Below.plus (Below.refl w.heap.size w).drew _
 have hv1 : Box W1 vb (encL x) 106 := hv.below hb1 (nlr _)
 have hh1 : HoldsS 106 5 encL W1 g l.length l := h.below hb1 (nlr _)
 have hlt : (l.take i).length = i := by rw [List.length_take]; omega
 have hvw := hv.lt
 obtain ⟨W2, hW2⟩ : ∃ W2, W2 = W1.setCells w.heap.size (i * 5) (encL x) := ⟨_, rfl⟩
 have H2 : HoldsS 106 5 encL W2 w.heap.size G (l.take i ++ [x]) := by
  rw [hW2]
  exact H1.put encL_length (encL x) _ (by rw [encL_length]; omega) (by rw [List.take_of_length_le (by rw [cellsS_length encL_length, hlt]; omega), cellsS_snoc]) (by rw [hlt]; omega)
 have hg12 : W1.grownBy W2 (some w.heap.size) := by rw [hW2]; exact grown_setCells _ _ _ _
 have hh2 : HoldsS 106 5 encL W2 g l.length l := hh1.grown hg12 (by simp; omega)
 obtain ⟨W3, hW3⟩ : ∃ W3, W3 = W2.setCells w.heap.size ((i + 1) * 5) (cellsS encL (l.drop i)) := ⟨_, rfl⟩
 have H3 : HoldsS 106 5 encL W3 w.heap.size G (l.take i ++ x :: l.drop i) := by
  rw [hW3]
  have := H2.put (o := (i + 1) * 5) encL_length (cellsS encL (l.drop i)) (l.take i ++ [x] ++ l.drop i) (by rw [cellsS_length encL_length, List.length_drop]; omega) (by rw [List.take_of_length_le (by rw [cellsS_length encL_length, List.length_append, hlt]; simp), cellsS_append _ (l.drop i)]) (by rw [List.length_append, hlt]; simp)
  rw [List.append_assoc] at this
  exact this
 have hg23 : W2.grownBy W3 (some w.heap.size) := by rw [hW3]; exact grown_setCells _ _ _ _
 have HO : Hid (W3.ownsRow B 106 5 (.slice (some ⟨w.heap.size, 0, none⟩) (n + 1) G) (n + 1) (cellsS encL (l.take i ++ x :: l.drop i))) := by
  have hl : (l.take i ++ x :: l.drop i).length = n + 1 := by rw [List.length_append, hlt, List.length_cons, List.length_drop]; omega
  have := H3.own encL_length hB (by rw [hl]; exact hGn) hGm
  rw [hl] at this
  exact this
 have HG : Hid (w.grownBy W3.drew (some g)) := by
  have a1 : w.grownBy W3 (some w.heap.size) := grown_trans (grown_trans (grown_of_below hb1) hg12) hg23
  exact ⟨a1.os, a1.tape, a1.output, a1.size, fun k hk _ => a1.block k hk (by simp; omega)⟩
 have hcpA : ∀ (W : World), W = W1 → ∀ ty dc, (Builtin.copy_ #[24, 24] ty #[.slice (some ⟨w.heap.size, i * 5, none⟩) (n + 1 - i) dc, .slice (some ⟨vb, 0, none⟩) 1 1]).run Tryz.prog W = .ok (goInt 1) W2 := fun W hW ty dc => by
  rw [hW, hW2]
  exact run_copy_many W1 24 24 ty 106 5 w.heap.size (i * 5) (n + 1 - i) dc ⟨vb, 0, none⟩ 1 1 1 (encL x) Tryz.underlying24 Tryz.sizeLive (by simp only [Nat.min_def]; split <;> omega) rfl hv1.cellsAt
   (fun j hj => by rw [encL_length] at hj; exact (H1.room (j := i * 5 + j) (by omega)).1)
   (fun j hj => H1.free (i * 5 + j)) (encL_one x)
 have hcpB : ∀ ty dc sc, (Builtin.copy_ #[24, 24] ty #[.slice (some ⟨w.heap.size, (i + 1) * 5, none⟩) (n - i) dc, .slice (some ⟨g, i * 5, none⟩) (n - i) sc]).run Tryz.prog W2.drew = .ok (goInt ((n - i : Nat) : Int)) W3.drew := fun ty dc sc => by
  have hW3' : W3.drew = W2.drew.setCells w.heap.size ((i + 1) * 5) (cellsS encL (l.drop i)) := by rw [hW3]; exact Go.Proofs.drew_setCells _ _ _ _
  rw [hW3']
  exact run_copy_many W2.drew 24 24 ty 106 5 w.heap.size ((i + 1) * 5) (n - i) dc ⟨g, i * 5, none⟩ (n - i) sc (n - i) (cellsS encL (l.drop i)) Tryz.underlying24 Tryz.sizeLive (by simp only [Nat.min_def]; split <;> omega) (by rw [cellsS_length encL_length, List.length_drop, hN])
   (fun j v hj => by
    have hjl := (List.getElem?_eq_some_iff.1 hj).1
    rw [cellsS_length encL_length, List.length_drop] at hjl
    have hc := hh2.cell (j := i * 5 + j) (by omega)
    rw [addr_addS]
    rw [← cellsS_drop encL_length, List.getElem?_drop] at hj
    rw [← hj]
    exact hc)
   (fun j hj => by rw [cellsS_length encL_length, List.length_drop] at hj; exact (H2.room (j := (i + 1) * 5 + j) (by omega)).1)
   (fun j hj => H2.free ((i + 1) * 5 + j)) (cellsS_one encL_one _)
 rw [HN.out] at hi hbig ⊢
 have q1 : ¬ ((i : Int) = (n : Int)) := by omega
 have q3 : (0 : Int) ≤ (i : Int) + 1 := by omega
 have q4 : ((i : Int) + 1).toNat = i + 1 := by omega
 have q5 : ¬ (G = i + 1) := by omega
 have q6 : ¬ (n = i) := by omega
 have q7 : ¬ (G = i) := by omega
 have q8 : (i : Int) ≤ (n : Int) := by omega
 have q9 : (i : Int) ≤ (n : Int) + 1 := by omega
 have hw1 : IntKind.i64.wrap ((i : Int) + 1) = (i : Int) + 1 := wrapL (by omega) (by omega)
 have hG63 : G ≤ 9223372036854775807 := by unfold maxLen at hGm; omega
 have HW1 : Hid (w.drew.alloc (.cells ROW 106) = W1) := hW1.symm
 clear hold hROW hG hRs H1 hb1 hv1 hh1 hW2 H2 hg12 hh2 hW3 H3 hg23 h hv hlt hN hGm
 rw [← hW1] at hrz
 clear hW1
 go_enter Tryz.func133, Tryz.ntmps133
 go_wp2_with (first
  | (at_builtin; refine Lib.wpList_append_run _ rfl _ _ _ _ rfl _ _ rfl rfl _ _ (hrz _) ?_)
  | (at_builtin; refine Go.Proofs.wpList_copy_runI _ rfl _ _ 24 24 rfl _ _ rfl rfl (hcpA _ rfl _ _) ?_))
 go_region_law (refine Go.Proofs.step_copy_runI rfl _ _ 24 24 rfl (.slice (some ⟨w.heap.size, (i + 1) * 5, none⟩) (n - i) (G - (i + 1))) (.slice (some ⟨g, i * 5, none⟩) (n - i) (n - i)) (by simp [Act.eval, Act.put]) (by simp [Act.eval, Act.put]) (hcpB _ _ _) ?_)
 go_wp2_with fail
 go_ret
 exact ⟨_, rfl, HO.out, HG.out, rfl⟩

theorem insert_live (B : Nat) (v : Value) (i : Nat) (l : List Live) (x : Live) (vb : Nat) (w : World) (h : w.ownsRow B 106 5 v l.length (cellsS encL l)) (hv : Box w vb (encL x) 106) (hne : ∀ g, v.ownBlock = some g → vb ≠ g) (hB : B ≤ w.heap.size) (hi : i ≤ l.length) (hbig : l.length ≤ 1000000000) :
  Calls Tryz.prog 133 #[v, .int .i64 i, .slice (some ⟨vb, 0, none⟩) 1 1] w fun e w' => ∃ v', e = .returned v' ∧ w'.ownsRow B 106 5 v' (l.length + 1) (cellsS encL (l.take i ++ x :: l.drop i)) ∧ w.grownBy w' v.ownBlock ∧ (v'.ownBlock = v.ownBlock ∨ v'.ownBlock = some w.heap.size) := by
 by_cases hil : i = l.length
 ·subst hil
  rw [List.take_length, List.drop_length]
  exact insert_end_live B v l x vb w h hv hB hbig
 rcases own_ways h with ⟨rfl, rfl⟩ | ⟨g, cap, rfl, hg, hh, hn, hm⟩
 ·simp at hi hil
  omega
 by_cases hc : l.length + 1 ≤ cap
 ·refine (insert_room_live g cap i l x vb w hh hc hm (by omega) hv (hne g rfl)).mono ?_
  rintro e w' ⟨rfl, h1, h2⟩
  have hl : (l.take i ++ x :: l.drop i).length = l.length + 1 := by rw [List.length_append, List.length_cons, List.length_take, List.length_drop]; omega
  refine ⟨_, rfl, ?_, h2, .inl rfl⟩
  have := h1.own encL_length hg (by rw [hl]; exact hc) hm
  rw [hl] at this
  exact this
 obtain rfl : cap = l.length := by omega
 refine (insert_grow_live B g i l x vb w hh (by omega) hv hB hbig).mono ?_
 rintro e w' ⟨v', rfl, h1, h2, h3⟩
 exact ⟨v', rfl, h1, h2, .inr h3⟩
set_option maxRecDepth 100000 in
set_option maxHeartbeats 2000000 in
theorem insert_grow_tally (B g i : Nat) (l : List Tal) (x : Tal) (vb : Nat) (w : World) (h : HoldsS 108 3 encT w g l.length l) (hi : i < l.length) (hv : Box w vb (encT x) 108) (hB : B ≤ w.heap.size) (hbig : l.length ≤ 1000000000) :
  Calls Tryz.prog 135 #[.slice (some ⟨g, 0, none⟩) l.length l.length, .int .i64 i, .slice (some ⟨vb, 0, none⟩) 1 1] w fun e w' => ∃ v', e = .returned v' ∧ w'.ownsRow B 108 3 v' (l.length + 1) (cellsS encT (l.take i ++ x :: l.drop i)) ∧ w.grownBy w' (some g) ∧ v'.ownBlock = some w.heap.size := by
 obtain ⟨i0, hi0, hz0, hz1, hz2⟩ := info_parts Tryz.infoTally
 obtain ⟨n, HN⟩ : ∃ n, Hid (l.length = n) := ⟨_, rfl⟩
 have hN : l.length = n := HN.out
 have hgl := h.lt
 have hold : (Builtin.firstCells i0.size i (.slice (some ⟨g, 0, none⟩) i n)).run Tryz.prog w.drew = .ok (cellsS encT (l.take i)).toArray w.drew := by
  rw [hz1]
  exact run_firstCells_some w.drew 3 i ⟨g, 0, none⟩ i n (cellsS encT (l.take i)) (by rw [cellsS_length encT_length, List.length_take]; omega) (fun j v hj => by
   have hjl := (List.getElem?_eq_some_iff.1 hj).1
   rw [cellsS_length encT_length, List.length_take] at hjl
   have hc := h.cell (j := j) (by omega)
   rw [addr_addS, Nat.zero_add]
   rw [← cellsS_take encT_length, List.getElem?_take_of_lt (by omega)] at hj
   rw [← hj]
   exact hc)
 obtain ⟨G, hG⟩ : ∃ G, G = grownCap w (n + 1) n 108 := ⟨_, rfl⟩
 have hGn : n + 1 ≤ G := by rw [hG]; exact grownCap_ge w _ _ _
 have hGm : G ≤ maxLen := by rw [hG]; exact grownCap_le_maxLen w (n + 1) n 108 (by unfold maxLen; omega)
 obtain ⟨ROW, hROW⟩ : ∃ ROW : Array Value, ROW = (cellsS encT (l.take i)).toArray ++ Builtin.zeroCells (Value.cells (.agg #[.int .i64 0, .int .i64 0, .int .i64 0])) (n + 1 - i) ++ Builtin.zeroCells (Value.cells (.agg #[.int .i64 0, .int .i64 0, .int .i64 0])) (G - (n + 1)) := ⟨_, rfl⟩
 have hRs : ROW.size = G * 3 := by
  rw [hROW]
  simp only [Array.size_append, List.size_toArray, size_zeroCells, cellsS_length encT_length, List.length_take]
  have : (Value.cells (.agg #[.int .i64 0, .int .i64 0, .int .i64 0])).size = 3 := rfl
  rw [this]
  omega
 have hrz : ∀ ty, (Builtin.append_ #[25, 3] ty #[.slice (some ⟨g, 0, none⟩) i n, .int .i64 ((n : Int) + 1 - (i : Int))]).run Tryz.prog w =
   .ok (.slice (some ⟨w.heap.size, 0, none⟩) (n + 1) G) (w.drew.alloc (.cells ROW 108)) := fun ty => by
  have h2 := Lib.run_append_grow_zeros w 25 3 ty 108 i0 _ .i64 .i64 Tryz.underlying25 Tryz.underlying3 hi0 hz0 (some ⟨g, 0, none⟩) i n (cellsS encT (l.take i)) hold (n + 1 - i) (by omega) (by omega) (by omega) (by omega) (by rw [hz2]; omega) (by rw [hz2, show i + (n + 1 - i) = n + 1 by omega]; exact growslice_fits (by omega) (by omega))
  rw [show i + (n + 1 - i) = n + 1 by omega, ← hG, ← hROW] at h2
  rw [show (n : Int) + 1 - (i : Int) = ((n + 1 - i : Nat) : Int) by omega]
  exact h2
 obtain ⟨W1, hW1⟩ : ∃ W1, W1 = w.drew.alloc (.cells ROW 108) := ⟨_, rfl⟩
 have H1 : HoldsS 108 3 encT W1 w.heap.size G (l.take i) := by
  rw [hW1]
  refine ⟨ROW, heap_alloc_new w.drew _, hRs, ?_⟩
  rw [hROW]
  simp only [Array.toList_append]
  rw [List.append_assoc, List.take_left' (cellsS_length encT_length _)]
 have hb1 : Below w.heap.size w W1 := by rw [hW1]; exact Below.plus (Below.refl w.heap.size w).drew _
 have hv1 : Box W1 vb (encT x) 108 := hv.below hb1 (nlr _)
 have hh1 : HoldsS 108 3 encT W1 g l.length l := h.below hb1 (nlr _)
 have hlt : (l.take i).length = i := by rw [List.length_take]; omega
 have hvw := hv.lt
 obtain ⟨W2, hW2⟩ : ∃ W2, W2 = W1.setCells w.heap.size (i * 3) (encT x) := ⟨_, rfl⟩
 have H2 : HoldsS 108 3 encT W2 w.heap.size G (l.take i ++ [x]) := by
  rw [hW2]
  exact H1.put encT_length (encT x) _ (by rw [encT_length]; omega) (by rw [List.take_of_length_le (by rw [cellsS_length encT_length, hlt]; omega), cellsS_snoc]) (by rw [hlt]; omega)
 have hg12 : W1.grownBy W2 (some w.heap.size) := by rw [hW2]; exact grown_setCells _ _ _ _
 have hh2 : HoldsS 108 3 encT W2 g l.length l := hh1.grown hg12 (by simp; omega)
 obtain ⟨W3, hW3⟩ : ∃ W3, W3 = W2.setCells w.heap.size ((i + 1) * 3) (cellsS encT (l.drop i)) := ⟨_, rfl⟩
 have H3 : HoldsS 108 3 encT W3 w.heap.size G (l.take i ++ x :: l.drop i) := by
  rw [hW3]
  have := H2.put (o := (i + 1) * 3) encT_length (cellsS encT (l.drop i)) (l.take i ++ [x] ++ l.drop i) (by rw [cellsS_length encT_length, List.length_drop]; omega) (by rw [List.take_of_length_le (by rw [cellsS_length encT_length, List.length_append, hlt]; simp), cellsS_append _ (l.drop i)]) (by rw [List.length_append, hlt]; simp)
  rw [List.append_assoc] at this
  exact this
 have hg23 : W2.grownBy W3 (some w.heap.size) := by rw [hW3]; exact grown_setCells _ _ _ _
 have HO : Hid (W3.ownsRow B 108 3 (.slice (some ⟨w.heap.size, 0, none⟩) (n + 1) G) (n + 1) (cellsS encT (l.take i ++ x :: l.drop i))) := by
  have hl : (l.take i ++ x :: l.drop i).length = n + 1 := by rw [List.length_append, hlt, List.length_cons, List.length_drop]; omega
  have := H3.own encT_length hB (by rw [hl]; exact hGn) hGm
  rw [hl] at this
  exact this
 have HG : Hid (w.grownBy W3.drew (some g)) := by
  have a1 : w.grownBy W3 (some w.heap.size) := grown_trans (grown_trans (grown_of_below hb1) hg12) hg23
  exact ⟨a1.os, a1.tape, a1.output, a1.size, fun k hk _ => a1.block k hk (by simp; omega)⟩
 have hcpA : ∀ (W : World), W = W1 → ∀ ty dc, (Builtin.copy_ #[25, 25] ty #[.slice (some ⟨w.heap.size, i * 3, none⟩) (n + 1 - i) dc, .slice (some ⟨vb, 0, none⟩) 1 1]).run Tryz.prog W = .ok (goInt 1) W2 := fun W hW ty dc => by
  rw [hW, hW2]
  exact run_copy_many W1 25 25 ty 108 3 w.heap.size (i * 3) (n + 1 - i) dc ⟨vb, 0, none⟩ 1 1 1 (encT x) Tryz.underlying25 Tryz.sizeTally (by simp only [Nat.min_def]; split <;> omega) rfl hv1.cellsAt
   (fun j hj => by rw [encT_length] at hj; exact (H1.room (j := i * 3 + j) (by omega)).1)
   (fun j hj => H1.free (i * 3 + j)) (encT_one x)
 have hcpB : ∀ ty dc sc, (Builtin.copy_ #[25, 25] ty #[.slice (some ⟨w.heap.size, (i + 1) * 3, none⟩) (n - i) dc, .slice (some ⟨g, i * 3, none⟩) (n - i) sc]).run Tryz.prog W2.drew = .ok (goInt ((n - i : Nat) : Int)) W3.drew := fun ty dc sc => by
  have hW3' : W3.drew = W2.drew.setCells w.heap.size ((i + 1) * 3) (cellsS encT (l.drop i)) := by rw [hW3]; exact Go.Proofs.drew_setCells _ _ _ _
  rw [hW3']
  exact run_copy_many W2.drew 25 25 ty 108 3 w.heap.size ((i + 1) * 3) (n - i) dc ⟨g, i * 3, none⟩ (n - i) sc (n - i) (cellsS encT (l.drop i)) Tryz.underlying25 Tryz.sizeTally (by simp only [Nat.min_def]; split <;> omega) (by rw [cellsS_length encT_length, List.length_drop, hN])
   (fun j v hj => by
    have hjl := (List.getElem?_eq_some_iff.1 hj).1
    rw [cellsS_length encT_length, List.length_drop] at hjl
    have hc := hh2.cell (j := i * 3 + j) (by omega)
    rw [addr_addS]
    rw [← cellsS_drop encT_length, List.getElem?_drop] at hj
    rw [← hj]
    exact hc)
   (fun j hj => by rw [cellsS_length encT_length, List.length_drop] at hj; exact (H2.room (j := (i + 1) * 3 + j) (by omega)).1)
   (fun j hj => H2.free ((i + 1) * 3 + j)) (cellsS_one encT_one _)
 rw [HN.out] at hi hbig ⊢
 have q1 : ¬ ((i : Int) = (n : Int)) := by omega
 have q3 : (0 : Int) ≤ (i : Int) + 1 := by omega
 have q4 : ((i : Int) + 1).toNat = i + 1 := by omega
 have q5 : ¬ (G = i + 1) := by omega
 have q6 : ¬ (n = i) := by omega
 have q7 : ¬ (G = i) := by omega
 have q8 : (i : Int) ≤ (n : Int) := by omega
 have q9 : (i : Int) ≤ (n : Int) + 1 := by omega
 have hw1 : IntKind.i64.wrap ((i : Int) + 1) = (i : Int) + 1 := wrapL (by omega) (by omega)
 have hG63 : G ≤ 9223372036854775807 := by unfold maxLen at hGm; omega
 have HW1 : Hid (w.drew.alloc (.cells ROW 108) = W1) := hW1.symm
 clear hold hROW hG hRs H1 hb1 hv1 hh1 hW2 H2 hg12 hh2 hW3 H3 hg23 h hv hlt hN hGm
 rw [← hW1] at hrz
 clear hW1
 go_enter Tryz.func135, Tryz.ntmps135
 go_wp2_with (first
  | (at_builtin; refine Lib.wpList_append_run _ rfl _ _ _ _ rfl _ _ rfl rfl _ _ (hrz _) ?_)
  | (at_builtin; refine Go.Proofs.wpList_copy_runI _ rfl _ _ 25 25 rfl _ _ rfl rfl (hcpA _ rfl _ _) ?_))
 go_region_law (refine Go.Proofs.step_copy_runI rfl _ _ 25 25 rfl (.slice (some ⟨w.heap.size, (i + 1) * 3, none⟩) (n - i) (G - (i + 1))) (.slice (some ⟨g, i * 3, none⟩) (n - i) (n - i)) (by simp [Act.eval, Act.put]) (by simp [Act.eval, Act.put]) (hcpB _ _ _) ?_)
 go_wp2_with fail
 go_ret
 exact ⟨_, rfl, HO.out, HG.out, rfl⟩

theorem insert_tally (B : Nat) (v : Value) (i : Nat) (l : List Tal) (x : Tal) (vb : Nat) (w : World) (h : w.ownsRow B 108 3 v l.length (cellsS encT l)) (hv : Box w vb (encT x) 108) (hne : ∀ g, v.ownBlock = some g → vb ≠ g) (hB : B ≤ w.heap.size) (hi : i ≤ l.length) (hbig : l.length ≤ 1000000000) :
  Calls Tryz.prog 135 #[v, .int .i64 i, .slice (some ⟨vb, 0, none⟩) 1 1] w fun e w' => ∃ v', e = .returned v' ∧ w'.ownsRow B 108 3 v' (l.length + 1) (cellsS encT (l.take i ++ x :: l.drop i)) ∧ w.grownBy w' v.ownBlock ∧ (v'.ownBlock = v.ownBlock ∨ v'.ownBlock = some w.heap.size) := by
 by_cases hil : i = l.length
 ·subst hil
  rw [List.take_length, List.drop_length]
  exact insert_end_tally B v l x vb w h hv hB hbig
 rcases own_ways h with ⟨rfl, rfl⟩ | ⟨g, cap, rfl, hg, hh, hn, hm⟩
 ·simp at hi hil
  omega
 by_cases hc : l.length + 1 ≤ cap
 ·refine (insert_room_tally g cap i l x vb w hh hc hm (by omega) hv (hne g rfl)).mono ?_
  rintro e w' ⟨rfl, h1, h2⟩
  have hl : (l.take i ++ x :: l.drop i).length = l.length + 1 := by rw [List.length_append, List.length_cons, List.length_take, List.length_drop]; omega
  refine ⟨_, rfl, ?_, h2, .inl rfl⟩
  have := h1.own encT_length hg (by rw [hl]; exact hc) hm
  rw [hl] at this
  exact this
 obtain rfl : cap = l.length := by omega
 refine (insert_grow_tally B g i l x vb w hh (by omega) hv hB hbig).mono ?_
 rintro e w' ⟨v', rfl, h1, h2, h3⟩
 exact ⟨v', rfl, h1, h2, .inr h3⟩
end Go.Proofs.YtfhecilhcofboaaGreat
