/- slices.BinarySearchFunc over lives and over tallies, by the program's own order. -/
import Derived.Test.YtfhecilhcofboaaGreatDelF
namespace Go.Proofs.YtfhecilhcofboaaGreat
open Go.RowKit

set_option maxRecDepth 100000 in
set_option maxHeartbeats 2000000 in
theorem bsearch_live (v : Value) (l : List Live) (x : Live) (w : World) (hl : SliceV 5 encL w v l) (hbig : l.length ≤ 4000000000) (hmono : ∀ (i j : Nat) (y z : Live), i ≤ j → l[i]? = some y → l[j]? = some z → cmpL z x < 0 → cmpL y x < 0) :
  Calls Tryz.prog 132 #[v, .agg #[.bool x.set, .int .i64 x.key, .int .i64 x.item, .int .i64 x.author, .int .i64 x.seq], .func (Fn.func 66) #[] #[]] w fun e w' => ∃ (k : Nat) (fo : Bool), e = .returned (.tuple #[.int .i64 k, .bool fo]) ∧ (k ≤ l.length ∧ (∀ (i : Nat) (y : Live), i < k → l[i]? = some y → cmpL y x < 0) ∧ (∀ (i : Nat) (y : Live), k ≤ i → l[i]? = some y → 0 ≤ cmpL y x) ∧ (fo = true ↔ ∃ y, l[k]? = some y ∧ cmpL y x = 0)) ∧ Below w.heap.size w w' := by
 obtain ⟨a, cap, rfl, -, -, -⟩ := id hl
 obtain ⟨W0, HW0⟩ : ∃ W0, Hid (w.alloc (.cells #[.bool x.set, .int .i64 x.key, .int .i64 x.item, .int .i64 x.author, .int .i64 x.seq] 106) = W0) := ⟨_, rfl⟩
 have HB : Hid (Below w.heap.size w W0) := by rw [← HW0.out]; exact bpl w _
 have HX : Hid (Box W0 w.heap.size [.bool x.set, .int .i64 x.key, .int .i64 x.item, .int .i64 x.author, .int .i64 x.seq] 106) := by rw [← HW0.out]; exact Box.new w _ _
 obtain ⟨g0, HG0⟩ : ∃ g0, Hid (w.heap.size = g0) := ⟨_, rfl⟩
 rw [HG0.out] at HX
 have HL := hide (hl.below HB.out (nlr _))
 have HM := hide hmono
 have HCM : Hid (∀ (y : Live) w', Grew W0 w' → Calls Tryz.prog 66 #[.agg #[.bool y.set, .int .i64 y.key, .int .i64 y.item, .int .i64 y.author, .int .i64 y.seq], .agg #[.bool x.set, .int .i64 x.key, .int .i64 x.item, .int .i64 x.author, .int .i64 x.seq]] w' fun e w'' => e = .returned (.int .i64 (cmpL y x)) ∧ Grew W0 w'') := fun y w' hg => by
  refine (compareLives_fn y x w').mono ?_
  rintro e w'' ⟨rfl, hb⟩
  exact ⟨rfl, grew_step hg hb⟩
 clear hl hmono
 obtain ⟨n, HN⟩ : ∃ n, Hid (l.length = n) := ⟨_, rfl⟩
 rw [HN.out] at hbig ⊢
 go_enter Tryz.func132, Tryz.ntmps132
 go_wp2_with fail
 rw [HW0.out, HG0.out]
 go_loopw [9, 10] (fun i j wr => ∃ lo hi : Nat, i = .int .i64 lo ∧ j = .int .i64 hi ∧ lo ≤ hi ∧ hi ≤ n ∧ Hid (∀ (i : Nat) (y : Live), i < lo → l[i]? = some y → cmpL y x < 0) ∧ Hid (∀ (i : Nat) (y : Live), hi ≤ i → l[i]? = some y → 0 ≤ cmpL y x) ∧ Hid (Grew W0 wr)) (fun i j _ => (intOf j).toNat - (intOf i).toNat)
 case atStart => exact ⟨0, n, rfl, rfl, Nat.zero_le _, nlr _, hide (fun i y h => by omega), hide (fun i y h h2 => by have := (List.getElem?_eq_some_iff.1 h2).1; rw [HN.out] at this; omega), hide (grew_refl _)⟩
 obtain ⟨lo, hi, rfl, rfl, hlh, hin, H1, H2, HGR⟩ := hrel
 obtain ⟨w0, rfl⟩ : ∃ w0, w0 = wr := ⟨wr, rfl⟩
 by_cases hlt : lo < hi
 ·obtain ⟨m, Hm⟩ : ∃ m, Hid ((lo + hi) / 2 = m) := ⟨_, rfl⟩
  have hm1 : lo ≤ m := by rw [← Hm.out]; omega
  have hm2 : m < hi := by rw [← Hm.out]; omega
  have hmI : ((lo : Int) + (hi : Int)) / 2 = (m : Int) := by rw [← Hm.out]; omega
  obtain ⟨y, hy⟩ : ∃ y, l[m]? = some y := ⟨_, List.getElem?_eq_getElem (by rw [HN.out]; omega)⟩
  obtain ⟨b, off, rfl, -⟩ := livesAt HL.out hy
  obtain ⟨q, HQ⟩ : ∃ q, Hid (cmpL y x = q) := ⟨_, rfl⟩
  have HK : Hid (∀ w', Grew W0 w' → (w'.cell? ⟨g0, 0, none⟩ = some (.bool x.set) ∧ w'.cell? ⟨g0, 1, none⟩ = some (.int .i64 x.key) ∧ w'.cell? ⟨g0, 2, none⟩ = some (.int .i64 x.item) ∧ w'.cell? ⟨g0, 3, none⟩ = some (.int .i64 x.author) ∧ w'.cell? ⟨g0, 4, none⟩ = some (.int .i64 x.seq)) ∧ (w'.cell? ⟨b, off + m * 5, none⟩ = some (.bool y.set) ∧ w'.cell? ⟨b, off + m * 5 + 1, none⟩ = some (.int .i64 y.key) ∧ w'.cell? ⟨b, off + m * 5 + 2, none⟩ = some (.int .i64 y.item) ∧ w'.cell? ⟨b, off + m * 5 + 3, none⟩ = some (.int .i64 y.author) ∧ w'.cell? ⟨b, off + m * 5 + 4, none⟩ = some (.int .i64 y.seq))) := fun w' hg => by
   have h := HX.below hg (nlr _)
   obtain ⟨b2, off2, hbb, hcs⟩ := livesAt (HL.below hg (nlr _)) hy
   simp only [Option.some.injEq, Addr.mk.injEq, and_true] at hbb
   obtain ⟨rfl, rfl⟩ := hbb
   exact ⟨⟨h.get 0 rfl, h.get 1 rfl, h.get 2 rfl, h.get 3 rfl, h.get 4 rfl⟩, hcs⟩
  have HC := hide (HCM.out y)
  rw [HQ.out] at HC
  have hgr := HGR.out
  have hmn : (m : Int) < (n : Int) := by omega
  have hm0 : (0 : Int) ≤ (m : Int) := by omega
  have hlt' : (lo : Int) < (hi : Int) := by omega
  go_upto_region 5 with fail
  go_cut [31] (fun c wx => c = .bool (decide (q < 0)) ∧ Hid (Grew W0 wx))
  case first =>
   go_region_held3 (fun w' => (w'.cell? ⟨g0, 0, none⟩ = some (.bool x.set) ∧ w'.cell? ⟨g0, 1, none⟩ = some (.int .i64 x.key) ∧ w'.cell? ⟨g0, 2, none⟩ = some (.int .i64 x.item) ∧ w'.cell? ⟨g0, 3, none⟩ = some (.int .i64 x.author) ∧ w'.cell? ⟨g0, 4, none⟩ = some (.int .i64 x.seq)) ∧ (w'.cell? ⟨b, off + m * 5, none⟩ = some (.bool y.set) ∧ w'.cell? ⟨b, off + m * 5 + 1, none⟩ = some (.int .i64 y.key) ∧ w'.cell? ⟨b, off + m * 5 + 2, none⟩ = some (.int .i64 y.item) ∧ w'.cell? ⟨b, off + m * 5 + 3, none⟩ = some (.int .i64 y.author) ∧ w'.cell? ⟨b, off + m * 5 + 4, none⟩ = some (.int .i64 y.seq)))
    ((refine HK.out _ ?_; (first | assumption | exact grew_drew (by assumption))))
    (first | (go_at_call 66; refine (HC.out _ ?_).mono ?_; (first | assumption | exact grew_drew (by assumption)); rintro e w' ⟨rfl, hgr2⟩))
   all_goals (go_wp2_with fail; go_meet; exact ⟨by simp, by assumption⟩)
  obtain ⟨rfl, HGR2⟩ := hcut
  by_cases hq : q < 0
  ·have hqd : decide (q < 0) = true := by simp [hq]
   rw [hqd]
   clear hqd
   go_wp2_with fail
   go_roundw
   case rel => exact ⟨m + 1, hi, by go_num, rfl, by omega, hin, hide (fun i z h1 h2 => HM.out i m z y (by omega) h2 hy (by rw [HQ.out]; exact hq)), H2, HGR2⟩
   case measure => simp [intOf]; omega
  have hqd : decide (q < 0) = false := by simp; omega
  rw [hqd]
  clear hqd
  go_wp2_with fail
  go_roundw
  case rel => exact ⟨lo, m, rfl, rfl, by omega, by omega, H1, hide (fun i z h1 h2 => Int.not_lt.1 (fun h3 => hq (by rw [← HQ.out]; exact HM.out m i y z h1 hy h2 h3))), HGR2⟩
  case measure => simp [intOf]; omega
 obtain rfl : hi = lo := by omega
 have hgr := HGR.out
 by_cases hn : hi < n
 ·obtain ⟨y, hy⟩ : ∃ y, l[hi]? = some y := ⟨_, List.getElem?_eq_getElem (by rw [HN.out]; omega)⟩
  obtain ⟨m, Hm⟩ : ∃ m, Hid (hi = m) := ⟨_, rfl⟩
  obtain ⟨b, off, rfl, -⟩ := livesAt HL.out hy
  obtain ⟨q, HQ⟩ : ∃ q, Hid (cmpL y x = q) := ⟨_, rfl⟩
  have HK : Hid (∀ w', Grew W0 w' → (w'.cell? ⟨g0, 0, none⟩ = some (.bool x.set) ∧ w'.cell? ⟨g0, 1, none⟩ = some (.int .i64 x.key) ∧ w'.cell? ⟨g0, 2, none⟩ = some (.int .i64 x.item) ∧ w'.cell? ⟨g0, 3, none⟩ = some (.int .i64 x.author) ∧ w'.cell? ⟨g0, 4, none⟩ = some (.int .i64 x.seq)) ∧ (w'.cell? ⟨b, off + m * 5, none⟩ = some (.bool y.set) ∧ w'.cell? ⟨b, off + m * 5 + 1, none⟩ = some (.int .i64 y.key) ∧ w'.cell? ⟨b, off + m * 5 + 2, none⟩ = some (.int .i64 y.item) ∧ w'.cell? ⟨b, off + m * 5 + 3, none⟩ = some (.int .i64 y.author) ∧ w'.cell? ⟨b, off + m * 5 + 4, none⟩ = some (.int .i64 y.seq))) := fun w' hg => by
   have h := HX.below hg (nlr _)
   obtain ⟨b2, off2, hbb, hcs⟩ := livesAt (HL.below hg (nlr _)) hy
   simp only [Option.some.injEq, Addr.mk.injEq, and_true] at hbb
   obtain ⟨rfl, rfl⟩ := hbb
   rw [Hm.out] at hcs
   exact ⟨⟨h.get 0 rfl, h.get 1 rfl, h.get 2 rfl, h.get 3 rfl, h.get 4 rfl⟩, hcs⟩
  have HC := hide (HCM.out y)
  rw [HQ.out] at HC
  have hmd : Hid (hi = m) := Hm
  rw [Hm.out] at hn hy H1 H2 ⊢
  have hmn : (m : Int) < (n : Int) := by omega
  have hm0 : (0 : Int) ≤ (m : Int) := by omega
  have hd : decide (m < n) = true := by simp; omega
  go_upto_region 8 with fail
  go_region_held3 (fun w' => (w'.cell? ⟨g0, 0, none⟩ = some (.bool x.set) ∧ w'.cell? ⟨g0, 1, none⟩ = some (.int .i64 x.key) ∧ w'.cell? ⟨g0, 2, none⟩ = some (.int .i64 x.item) ∧ w'.cell? ⟨g0, 3, none⟩ = some (.int .i64 x.author) ∧ w'.cell? ⟨g0, 4, none⟩ = some (.int .i64 x.seq)) ∧ (w'.cell? ⟨b, off + m * 5, none⟩ = some (.bool y.set) ∧ w'.cell? ⟨b, off + m * 5 + 1, none⟩ = some (.int .i64 y.key) ∧ w'.cell? ⟨b, off + m * 5 + 2, none⟩ = some (.int .i64 y.item) ∧ w'.cell? ⟨b, off + m * 5 + 3, none⟩ = some (.int .i64 y.author) ∧ w'.cell? ⟨b, off + m * 5 + 4, none⟩ = some (.int .i64 y.seq)))
   ((refine HK.out _ ?_; (first | assumption | exact grew_drew (by assumption))))
   (first | (go_at_call 66; refine (HC.out _ ?_).mono ?_; (first | assumption | exact grew_drew (by assumption)); rintro e w' ⟨rfl, hgr2⟩))
  all_goals
   go_wp2_with fail
   go_ret2
   refine ⟨m, q == 0, by simp, ⟨by omega, H1.out, H2.out, ?_⟩, below_step HB.out (by assumption)⟩
   rw [beq_iff_eq, ← HQ.out]
   constructor
   ·intro h0
    exact ⟨y, hy, h0⟩
   rintro ⟨y', h1, h2⟩
   rw [hy] at h1
   simp only [Option.some.injEq] at h1
   subst h1
   exact h2
 have hd : decide (hi < n) = false := by simp; omega
 go_upto_region 8 with fail
 refine wp_region_held_drew (S := fun w' => Grew W0 w') (by kernel_rfl) (grew_drew hgr) (fun hHeld => ?_)
 refine ty 0 (.int .i64 (hi : Int)) ?_
 refine ty 1 (.int .i64 (hi : Int)) ?_
 refine ty 2 (.int .i64 (n : Int)) ?_
 refine ty 3 (.bool false) ?_
 refine ty 4 (.bool false) ?_
 refine ts 5 ?_
 refine ts 6 ?_
 refine ts 7 ?_
 refine ts 8 ?_
 refine ts 9 ?_
 refine ts 10 ?_
 refine ts 11 ?_
 refine ts 12 ?_
 refine ty 13 (.bool false) ?_
 refine ty 14 (.int .i64 (hi : Int)) ?_
 refine ty 15 (.bool false) ?_
 refine wpAnyH_done (by kernel_rfl) ?_ _
 go_wp2_with fail
 go_ret2
 refine ⟨hi, false, by simp, ⟨by omega, H1.out, H2.out, ?_⟩, below_step HB.out (grew_drew hgr)⟩
 constructor
 ·intro h0
  cases h0
 rintro ⟨y', h1, h2⟩
 have := (List.getElem?_eq_some_iff.1 h1).1
 rw [HN.out] at this
 exact absurd this hn
set_option maxRecDepth 100000 in
set_option maxHeartbeats 2000000 in
theorem bsearch_tally (v : Value) (l : List Tal) (x : Tal) (w : World) (hl : SliceV 3 encT w v l) (hbig : l.length ≤ 4000000000) (hmono : ∀ (i j : Nat) (y z : Tal), i ≤ j → l[i]? = some y → l[j]? = some z → cmpT z x < 0 → cmpT y x < 0) :
  Calls Tryz.prog 134 #[v, .agg #[.int .i64 x.key, .int .i64 x.author, .int .i64 x.sum], .func (Fn.func 70) #[] #[]] w fun e w' => ∃ (k : Nat) (fo : Bool), e = .returned (.tuple #[.int .i64 k, .bool fo]) ∧ (k ≤ l.length ∧ (∀ (i : Nat) (y : Tal), i < k → l[i]? = some y → cmpT y x < 0) ∧ (∀ (i : Nat) (y : Tal), k ≤ i → l[i]? = some y → 0 ≤ cmpT y x) ∧ (fo = true ↔ ∃ y, l[k]? = some y ∧ cmpT y x = 0)) ∧ Below w.heap.size w w' := by
 obtain ⟨a, cap, rfl, -, -, -⟩ := id hl
 obtain ⟨W0, HW0⟩ : ∃ W0, Hid (w.alloc (.cells #[.int .i64 x.key, .int .i64 x.author, .int .i64 x.sum] 108) = W0) := ⟨_, rfl⟩
 have HB : Hid (Below w.heap.size w W0) := by rw [← HW0.out]; exact bpl w _
 have HX : Hid (Box W0 w.heap.size [.int .i64 x.key, .int .i64 x.author, .int .i64 x.sum] 108) := by rw [← HW0.out]; exact Box.new w _ _
 obtain ⟨g0, HG0⟩ : ∃ g0, Hid (w.heap.size = g0) := ⟨_, rfl⟩
 rw [HG0.out] at HX
 have HL := hide (hl.below HB.out (nlr _))
 have HM := hide hmono
 have HCM : Hid (∀ (y : Tal) w', Grew W0 w' → Calls Tryz.prog 70 #[.agg #[.int .i64 y.key, .int .i64 y.author, .int .i64 y.sum], .agg #[.int .i64 x.key, .int .i64 x.author, .int .i64 x.sum]] w' fun e w'' => e = .returned (.int .i64 (cmpT y x)) ∧ Grew W0 w'') := fun y w' hg => by
  refine (compareTallies_fn y x w').mono ?_
  rintro e w'' ⟨rfl, hb⟩
  exact ⟨rfl, grew_step hg hb⟩
 clear hl hmono
 obtain ⟨n, HN⟩ : ∃ n, Hid (l.length = n) := ⟨_, rfl⟩
 rw [HN.out] at hbig ⊢
 go_enter Tryz.func134, Tryz.ntmps134
 go_wp2_with fail
 rw [HW0.out, HG0.out]
 go_loopw [9, 10] (fun i j wr => ∃ lo hi : Nat, i = .int .i64 lo ∧ j = .int .i64 hi ∧ lo ≤ hi ∧ hi ≤ n ∧ Hid (∀ (i : Nat) (y : Tal), i < lo → l[i]? = some y → cmpT y x < 0) ∧ Hid (∀ (i : Nat) (y : Tal), hi ≤ i → l[i]? = some y → 0 ≤ cmpT y x) ∧ Hid (Grew W0 wr)) (fun i j _ => (intOf j).toNat - (intOf i).toNat)
 case atStart => exact ⟨0, n, rfl, rfl, Nat.zero_le _, nlr _, hide (fun i y h => by omega), hide (fun i y h h2 => by have := (List.getElem?_eq_some_iff.1 h2).1; rw [HN.out] at this; omega), hide (grew_refl _)⟩
 obtain ⟨lo, hi, rfl, rfl, hlh, hin, H1, H2, HGR⟩ := hrel
 obtain ⟨w0, rfl⟩ : ∃ w0, w0 = wr := ⟨wr, rfl⟩
 by_cases hlt : lo < hi
 ·obtain ⟨m, Hm⟩ : ∃ m, Hid ((lo + hi) / 2 = m) := ⟨_, rfl⟩
  have hm1 : lo ≤ m := by rw [← Hm.out]; omega
  have hm2 : m < hi := by rw [← Hm.out]; omega
  have hmI : ((lo : Int) + (hi : Int)) / 2 = (m : Int) := by rw [← Hm.out]; omega
  obtain ⟨y, hy⟩ : ∃ y, l[m]? = some y := ⟨_, List.getElem?_eq_getElem (by rw [HN.out]; omega)⟩
  obtain ⟨b, off, rfl, -⟩ := talsAt HL.out hy
  obtain ⟨q, HQ⟩ : ∃ q, Hid (cmpT y x = q) := ⟨_, rfl⟩
  have HK : Hid (∀ w', Grew W0 w' → (w'.cell? ⟨g0, 0, none⟩ = some (.int .i64 x.key) ∧ w'.cell? ⟨g0, 1, none⟩ = some (.int .i64 x.author) ∧ w'.cell? ⟨g0, 2, none⟩ = some (.int .i64 x.sum)) ∧ (w'.cell? ⟨b, off + m * 3, none⟩ = some (.int .i64 y.key) ∧ w'.cell? ⟨b, off + m * 3 + 1, none⟩ = some (.int .i64 y.author) ∧ w'.cell? ⟨b, off + m * 3 + 2, none⟩ = some (.int .i64 y.sum))) := fun w' hg => by
   have h := HX.below hg (nlr _)
   obtain ⟨b2, off2, hbb, hcs⟩ := talsAt (HL.below hg (nlr _)) hy
   simp only [Option.some.injEq, Addr.mk.injEq, and_true] at hbb
   obtain ⟨rfl, rfl⟩ := hbb
   exact ⟨⟨h.get 0 rfl, h.get 1 rfl, h.get 2 rfl⟩, hcs⟩
  have HC := hide (HCM.out y)
  rw [HQ.out] at HC
  have hgr := HGR.out
  have hmn : (m : Int) < (n : Int) := by omega
  have hm0 : (0 : Int) ≤ (m : Int) := by omega
  have hlt' : (lo : Int) < (hi : Int) := by omega
  go_upto_region 5 with fail
  go_cut [31] (fun c wx => c = .bool (decide (q < 0)) ∧ Hid (Grew W0 wx))
  case first =>
   go_region_held3 (fun w' => (w'.cell? ⟨g0, 0, none⟩ = some (.int .i64 x.key) ∧ w'.cell? ⟨g0, 1, none⟩ = some (.int .i64 x.author) ∧ w'.cell? ⟨g0, 2, none⟩ = some (.int .i64 x.sum)) ∧ (w'.cell? ⟨b, off + m * 3, none⟩ = some (.int .i64 y.key) ∧ w'.cell? ⟨b, off + m * 3 + 1, none⟩ = some (.int .i64 y.author) ∧ w'.cell? ⟨b, off + m * 3 + 2, none⟩ = some (.int .i64 y.sum)))
    ((refine HK.out _ ?_; (first | assumption | exact grew_drew (by assumption))))
    (first | (go_at_call 70; refine (HC.out _ ?_).mono ?_; (first | assumption | exact grew_drew (by assumption)); rintro e w' ⟨rfl, hgr2⟩))
   all_goals (go_wp2_with fail; go_meet; exact ⟨by simp, by assumption⟩)
  obtain ⟨rfl, HGR2⟩ := hcut
  by_cases hq : q < 0
  ·have hqd : decide (q < 0) = true := by simp [hq]
   rw [hqd]
   clear hqd
   go_wp2_with fail
   go_roundw
   case rel => exact ⟨m + 1, hi, by go_num, rfl, by omega, hin, hide (fun i z h1 h2 => HM.out i m z y (by omega) h2 hy (by rw [HQ.out]; exact hq)), H2, HGR2⟩
   case measure => simp [intOf]; omega
  have hqd : decide (q < 0) = false := by simp; omega
  rw [hqd]
  clear hqd
  go_wp2_with fail
  go_roundw
  case rel => exact ⟨lo, m, rfl, rfl, by omega, by omega, H1, hide (fun i z h1 h2 => Int.not_lt.1 (fun h3 => hq (by rw [← HQ.out]; exact HM.out m i y z h1 hy h2 h3))), HGR2⟩
  case measure => simp [intOf]; omega
 obtain rfl : hi = lo := by omega
 have hgr := HGR.out
 by_cases hn : hi < n
 ·obtain ⟨y, hy⟩ : ∃ y, l[hi]? = some y := ⟨_, List.getElem?_eq_getElem (by rw [HN.out]; omega)⟩
  obtain ⟨m, Hm⟩ : ∃ m, Hid (hi = m) := ⟨_, rfl⟩
  obtain ⟨b, off, rfl, -⟩ := talsAt HL.out hy
  obtain ⟨q, HQ⟩ : ∃ q, Hid (cmpT y x = q) := ⟨_, rfl⟩
  have HK : Hid (∀ w', Grew W0 w' → (w'.cell? ⟨g0, 0, none⟩ = some (.int .i64 x.key) ∧ w'.cell? ⟨g0, 1, none⟩ = some (.int .i64 x.author) ∧ w'.cell? ⟨g0, 2, none⟩ = some (.int .i64 x.sum)) ∧ (w'.cell? ⟨b, off + m * 3, none⟩ = some (.int .i64 y.key) ∧ w'.cell? ⟨b, off + m * 3 + 1, none⟩ = some (.int .i64 y.author) ∧ w'.cell? ⟨b, off + m * 3 + 2, none⟩ = some (.int .i64 y.sum))) := fun w' hg => by
   have h := HX.below hg (nlr _)
   obtain ⟨b2, off2, hbb, hcs⟩ := talsAt (HL.below hg (nlr _)) hy
   simp only [Option.some.injEq, Addr.mk.injEq, and_true] at hbb
   obtain ⟨rfl, rfl⟩ := hbb
   rw [Hm.out] at hcs
   exact ⟨⟨h.get 0 rfl, h.get 1 rfl, h.get 2 rfl⟩, hcs⟩
  have HC := hide (HCM.out y)
  rw [HQ.out] at HC
  have hmd : Hid (hi = m) := Hm
  rw [Hm.out] at hn hy H1 H2 ⊢
  have hmn : (m : Int) < (n : Int) := by omega
  have hm0 : (0 : Int) ≤ (m : Int) := by omega
  have hd : decide (m < n) = true := by simp; omega
  go_upto_region 8 with fail
  go_region_held3 (fun w' => (w'.cell? ⟨g0, 0, none⟩ = some (.int .i64 x.key) ∧ w'.cell? ⟨g0, 1, none⟩ = some (.int .i64 x.author) ∧ w'.cell? ⟨g0, 2, none⟩ = some (.int .i64 x.sum)) ∧ (w'.cell? ⟨b, off + m * 3, none⟩ = some (.int .i64 y.key) ∧ w'.cell? ⟨b, off + m * 3 + 1, none⟩ = some (.int .i64 y.author) ∧ w'.cell? ⟨b, off + m * 3 + 2, none⟩ = some (.int .i64 y.sum)))
   ((refine HK.out _ ?_; (first | assumption | exact grew_drew (by assumption))))
   (first | (go_at_call 70; refine (HC.out _ ?_).mono ?_; (first | assumption | exact grew_drew (by assumption)); rintro e w' ⟨rfl, hgr2⟩))
  all_goals
   go_wp2_with fail
   go_ret2
   refine ⟨m, q == 0, by simp, ⟨by omega, H1.out, H2.out, ?_⟩, below_step HB.out (by assumption)⟩
   rw [beq_iff_eq, ← HQ.out]
   constructor
   ·intro h0
    exact ⟨y, hy, h0⟩
   rintro ⟨y', h1, h2⟩
   rw [hy] at h1
   simp only [Option.some.injEq] at h1
   subst h1
   exact h2
 have hd : decide (hi < n) = false := by simp; omega
 go_upto_region 8 with fail
 refine wp_region_held_drew (S := fun w' => Grew W0 w') (by kernel_rfl) (grew_drew hgr) (fun hHeld => ?_)
 refine ty 0 (.int .i64 (hi : Int)) ?_
 refine ty 1 (.int .i64 (hi : Int)) ?_
 refine ty 2 (.int .i64 (n : Int)) ?_
 refine ty 3 (.bool false) ?_
 refine ty 4 (.bool false) ?_
 refine ts 5 ?_
 refine ts 6 ?_
 refine ts 7 ?_
 refine ts 8 ?_
 refine ts 9 ?_
 refine ts 10 ?_
 refine ts 11 ?_
 refine ts 12 ?_
 refine ty 13 (.bool false) ?_
 refine ty 14 (.int .i64 (hi : Int)) ?_
 refine ty 15 (.bool false) ?_
 refine wpAnyH_done (by kernel_rfl) ?_ _
 go_wp2_with fail
 go_ret2
 refine ⟨hi, false, by simp, ⟨by omega, H1.out, H2.out, ?_⟩, below_step HB.out (grew_drew hgr)⟩
 constructor
 ·intro h0
  cases h0
 rintro ⟨y', h1, h2⟩
 have := (List.getElem?_eq_some_iff.1 h1).1
 rw [HN.out] at this
 exact absurd this hn
end Go.Proofs.YtfhecilhcofboaaGreat
