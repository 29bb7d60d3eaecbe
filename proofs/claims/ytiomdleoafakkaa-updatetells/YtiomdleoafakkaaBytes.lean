/- update.Bytes writes an update as the document says, for every update and every number of authors. -/
import Derived.Test.YtiomdleoafakkaaByt
import Derived.Test.YtiomdleoafakkaaMix
namespace Go.Proofs.Ytiomdleoafakkaa
open Go.RowKit

/-- A number's two bytes, the high one first. -/
def pairB (x : Int) : List Int := [x / 256, x % 256]
def pairsB (xs : List Int) : List Int := xs.flatMap pairB
def headB (u : Upd) (n : Int) : List Int := [n, u.author, u.kind, u.key, (u.item + 1000) / 256, (u.item + 1000) % 256]
/-- An update's bytes. -/
def bytesU (u : Upd) (n : Int) : List Int := headB u n ++ pairsB u.seen
/-- What Bytes hands back. -/
def outB (u : Upd) (n : Int) : List Int := if wrongU u n = 0 then bytesU u n else []
/-- The bytes as they stand when k entries are written. -/
def stageB (u : Upd) (n : Int) (k : Nat) : List Int := headB u n ++ (pairsB (u.seen.take k) ++ List.replicate (2 * (u.seen.length - k)) 0)

theorem pairsB_length (xs : List Int) : (pairsB xs).length = 2 * xs.length := by
  induction xs with
  | nil => rfl
  | cons x xs ih => simp only [pairsB, List.flatMap_cons, List.length_append, pairB, List.length_cons, List.length_nil] at ih ⊢; omega
theorem pairsB_snoc (xs : List Int) (x : Int) : pairsB (xs ++ [x]) = pairsB xs ++ pairB x := by simp [pairsB]
theorem stageB_length (u : Upd) (n : Int) {k : Nat} (hk : k ≤ u.seen.length) : (stageB u n k).length = 6 + 2 * u.seen.length := by
  simp only [stageB, headB, List.length_append, List.length_cons, List.length_nil, pairsB_length, List.length_take, List.length_replicate]; omega
theorem stageB_step (u : Upd) (n : Int) {k : Nat} (hk : k < u.seen.length) :
    ((stageB u n k).set (6 + 2 * k) (u.seen.getD k 0 / 256)).set (6 + 2 * k + 1) (u.seen.getD k 0 % 256) = stageB u n (k + 1) := by
  have hl : (pairsB (u.seen.take k)).length = 2 * k := by rw [pairsB_length, List.length_take]; omega
  unfold stageB
  rw [List.set_append_right _ _ (by simp only [headB, List.length_cons, List.length_nil]; omega), List.set_append_right _ _ (by simp only [headB, List.length_cons, List.length_nil]; omega)]
  congr 1
  simp only [headB, List.length_cons, List.length_nil]
  rw [List.set_append_right _ _ (by omega), List.set_append_right _ _ (by omega), List.take_succ_eq_append_getElem hk, pairsB_snoc, List.append_assoc]
  congr 1
  rw [hl, getD_at hk]
  rw [show 6 + 2 * k - (0 + 1 + 1 + 1 + 1 + 1 + 1) - 2 * k = 0 by omega, show 6 + 2 * k + 1 - (0 + 1 + 1 + 1 + 1 + 1 + 1) - 2 * k = 1 by omega]
  rw [show 2 * (u.seen.length - k) = 2 * (u.seen.length - (k + 1)) + 1 + 1 by omega, List.replicate_succ, List.replicate_succ]
  simp [pairB]
theorem stageB_full (u : Upd) (n : Int) : stageB u n u.seen.length = bytesU u n := by simp [stageB, bytesU]
theorem stageB_zero (u : Upd) (n : Int) : (((((((List.replicate (6 + 2 * u.seen.length) (0 : Int)).set 0 n).set 1 u.author).set 2 u.kind).set 3 u.key).set 4 ((u.item + 1000) / 256)).set (4 + 1) ((u.item + 1000) % 256)) = stageB u n 0 := by
  rw [show 6 + 2 * u.seen.length = 2 * u.seen.length + 1 + 1 + 1 + 1 + 1 + 1 by omega]
  simp only [List.replicate_succ]
  simp [stageB, headB, pairsB]

theorem wrongU_ok {u : Upd} {n : Int} (h : wrongU u n = 0) : wrongC u.seen n = 0 ∧ 0 ≤ u.author ∧ u.author < n ∧ u.seen.getD u.author.toNat 0 < 1000 ∧ 1 ≤ u.kind ∧ u.kind ≤ 5 ∧ 0 ≤ u.key ∧ u.key ≤ 15 ∧ -1000 ≤ u.item ∧ u.item ≤ 1000 := by
  rcases wrongU_ways u n with ⟨h1, h2⟩ | ⟨h0, h2⟩
  · omega
  · omega

theorem bytesU_range {u : Upd} {n : Int} (h : wrongU u n = 0) : ∀ b ∈ bytesU u n, 0 ≤ b ∧ b ≤ 255 := by
  obtain ⟨hc, h1, h2, h3, h4, h5, h6, h7, h8, h9⟩ := wrongU_ok h
  obtain ⟨g1, g2, g3, g4⟩ := wrongC_ok hc
  intro b hb
  simp only [bytesU, headB, List.mem_append, List.mem_cons, List.not_mem_nil, or_false, pairsB, List.mem_flatMap, pairB] at hb
  rcases hb with hb | ⟨x, hx, hb⟩
  · omega
  · obtain ⟨i, hi, rfl⟩ := List.getElem_of_mem hx
    have := g4 i hi
    rw [getD_at hi] at this
    omega

theorem Try.infoByte : (Try.prog.info? 5).map (fun i => (i.zero, i.size, i.bytes)) = some (some (.int .u8 0), 1, 1) := by kernel_rfl
theorem made_bytes (n : Nat) : (madeCells (Value.int IntKind.u8 0).cells (n * 1)).toList = (List.replicate n (0 : Int)).map (Value.int .u8) := by
  rw [Nat.mul_one]
  show (madeCells #[Value.int IntKind.u8 0] n).toList = _
  rw [toList_madeCells_one, List.map_replicate]
theorem made_bytes' (n : Nat) : (madeCells #[Value.int IntKind.u8 0] n).toList = (List.replicate n (0 : Int)).map (Value.int .u8) := by
  rw [toList_madeCells_one, List.map_replicate]

theorem rowB_box {w : World} {g : Nat} {bs : List Int} {t : TypeId} {n : Nat} (h : Box w g (bs.map (Value.int .u8)) t) (hn : bs.length = n) (hm : n ≤ 1000) (hr : ∀ b ∈ bs, 0 ≤ b ∧ b ≤ 255) : RowB w (.slice (some ⟨g, 0, none⟩) n n) bs :=
  ⟨_, n, by rw [hn], by omega, by unfold maxLen; omega, hr, fun i hi => ⟨g, 0, rfl, by rw [Nat.zero_add]; exact box_byte_get h i hi⟩⟩

set_option maxRecDepth 100000 in
set_option maxHeartbeats 1000000 in
theorem bytes_upd (v : Value) (u : Upd) (n : Int) (w : World) (h : IsUpd w v u) :
    Calls Try.prog 29 #[v, .int .i64 n] w fun e w' => ∃ bv, e = .returned (.tuple #[bv, .int .i64 (wrongU u n)]) ∧ RowB w' bv (outB u n) ∧ Below w.heap.size w w' := by
  have hin := h
  obtain ⟨sv, rfl, hs⟩ := h
  have HI := hide (hin.below (Below.plus (Below.refl w.heap.size w) (.cells #[.int .i64 u.author, sv, .int .i64 u.kind, .int .i64 u.key, .int .i64 u.item] 38)) (Nat.le_refl _))
  have HBox := hide (Box.new w [.int .i64 u.author, sv, .int .i64 u.kind, .int .i64 u.key, .int .i64 u.item] 38)
  have HB := hide (Below.plus (Below.refl w.heap.size w) (.cells #[.int .i64 u.author, sv, .int .i64 u.kind, .int .i64 u.key, .int .i64 u.item] 38))
  have HS := hide hs
  clear hin hs
  obtain ⟨r, HU⟩ : ∃ r, Hid (wrongU u n = r) := ⟨_, rfl⟩
  rw [HU.out]
  by_cases hr : r = 0
  · subst hr
    obtain ⟨hc, h1, h2, h3, h4, h5, h6, h7, h8, h9⟩ := wrongU_ok HU.out
    obtain ⟨g1, g2, g3, g4⟩ := wrongC_ok hc
    have HO : Hid (outB u n = bytesU u n) := by unfold Hid outB; rw [if_pos HU.out]
    rw [HO.out]
    obtain ⟨i0, hi, hz0, hz1, hz2⟩ := info_parts Try.infoByte
    have H4 := hide g4
    clear hc g4 h3
    subst g3
    have HST0 := hide (stageB_zero u u.seen.length)
    have HSTL : Hid (∀ k, k ≤ u.seen.length → (stageB u u.seen.length k).length = 6 + 2 * u.seen.length) := fun k hk => stageB_length u _ hk
    have HSTS : Hid (∀ k, k < u.seen.length → ((stageB u u.seen.length k).set (6 + 2 * k) (u.seen.getD k 0 / 256)).set (6 + 2 * k + 1) (u.seen.getD k 0 % 256) = stageB u u.seen.length (k + 1)) := fun k hk => stageB_step u _ hk
    have HSTF := hide (stageB_full u u.seen.length)
    have HRG := hide (bytesU_range HU.out)
    obtain ⟨B, hB⟩ : ∃ B, B = bytesU u u.seen.length := ⟨_, rfl⟩
    rw [← hB] at HSTF HRG ⊢
    obtain ⟨ST, hST⟩ : ∃ ST, ST = stageB u u.seen.length := ⟨_, rfl⟩
    rw [← hST] at HST0 HSTL HSTS HSTF
    clear hB hST
    go_enter Try.func29, Try.ntmps29
    go_wp2_with fail
    refine (wrongU_upd _ u _ _ HI.out).mono ?_
    rintro e w1 ⟨rfl, hb⟩
    rw [HU.out]
    have HB1 := hide (below_step HB.out hb)
    replace HBox := hide (HBox.out.below hb (Nat.le_refl _))
    have HS1 := hide (HS.out.below HB1.out (Nat.le_refl _))
    clear HB hb HI HS HU HO
    obtain ⟨author, seen, kind, key, item⟩ := u
    simp only at *
    go_wp2_with fail
    refine (size_fn _ (6 + 2 * seen.length) _ (by omega) (by omega) (by omega)).mono ?_
    rintro e w2 ⟨rfl, hw2⟩
    rw [hw2]; clear hw2 w2
    go_wp2_with (at_make; refine wpList_make_full _ rfl _ _ 39 rfl w1.heap.size 5 i0 (.int .u8 0) 1 Try.underlying39 hi hz0 hz1 _ _ _ _ (6 + 2 * seen.length) rfl rfl rfl rfl ?b2 ?b3 ?b4 ?_)
    case b2 => rw [hz2]; omega
    case b3 => unfold maxLen; omega
    case b4 => exact Nat.le_refl _
    intro w2 hown hgrow
    have hb2 : Below w1.heap.size w1 w2 := (Below.refl _ _).grown hgrow (Nat.le_refl _) (fun k hk => by cases hk)
    have hbox : Box w2 w1.heap.size ((List.replicate (6 + 2 * seen.length) (0 : Int)).map (Value.int .u8)) 5 := by
      have := (own_block hown).1
      first | (rw [made_bytes] at this; exact this) | (rw [made_bytes'] at this; exact this)
    have HBX := HBox.out.below hb2 (Nat.le_refl _)
    have hg : w.heap.size < w1.heap.size := HBox.out.lt
    have HB2 := hide hb2
    clear hown hgrow hb2
    obtain ⟨g, HG⟩ : ∃ g, Hid (w1.heap.size = g) := ⟨_, rfl⟩
    obtain ⟨g0, HG0⟩ : ∃ g, Hid (w.heap.size = g) := ⟨_, rfl⟩
    rw [HG.out] at hg hbox HB2 ⊢
    rw [HG0.out] at hg HBX ⊢
    have d0 := HBX.get 0 rfl
    have d2 := HBX.get 2 rfl
    have d3 := HBX.get 3 rfl
    have d4 := HBX.get 4 rfl
    have hbx := hbox
    rw [show 6 + 2 * seen.length = 2 * seen.length + 1 + 1 + 1 + 1 + 1 + 1 by omega] at hbx
    simp only [List.replicate_succ, List.map_cons] at hbx
    have c0 := hbx.get 0 rfl
    have c1 := hbx.get 1 rfl
    have c2 := hbx.get 2 rfl
    have c3 := hbx.get 3 rfl
    have f0 := hbx.free 0
    have f1 := hbx.free 1
    have f2 := hbx.free 2
    have f3 := hbx.free 3
    clear hbx
    have hne : ¬ g0 = g := by omega
    have hne' : ¬ g = g0 := by omega
    have HBOX := hide (box_byte (box_byte (box_byte (box_byte hbox 0 seen.length) 1 author) 2 kind) 3 key)
    clear hbox HBX
    go_wp2_with fail
    refine (writePair_fn g 4 _ (item + 1000) (6 + 2 * seen.length) _ HBOX.out (by simp) (by omega) (by omega) (by omega) (by omega)).mono ?_
    rintro e w3 ⟨rfl, hw3⟩
    have HX3 : Hid (Box w3 g ((ST 0).map (Value.int .u8)) 5) := by
      rw [hw3, ← HST0.out]; exact box_byte (box_byte HBOX.out 4 _) (4 + 1) _
    have HB3 : Hid (Below g w1 w3) := by
      rw [hw3]
      exact ((((((HB2.out.trans (below_set _ _ _ _)).trans (below_set _ _ _ _)).trans (below_set _ _ _ _)).trans (below_set _ _ _ _)).trans (below_set _ _ _ _)).trans (below_set _ _ _ _))
    clear hw3 HBOX HB2 d0 d2 d3 d4 c0 c1 c2 c3 f0 f1 f2 f3 HST0 h1 h2 h4 h5 h6 h7 h8 h9
    have d1 := (HBox.out.below HB3.out (by rw [HG.out]; exact Nat.le_refl _)).get 1 rfl
    rw [HG0.out] at d1
    clear HBox
    obtain ⟨a, cap, hsv, hl', hm', hc⟩ := HS1.out
    clear HS1 hl' hm'
    subst hsv
    go_wp2_with fail
    clear d1
    go_loopw [46] (fun i wr => ∃ k : Nat, k ≤ seen.length ∧ i = .int .i64 k ∧ Hid (Box wr g ((ST k).map (Value.int .u8)) 5) ∧ Hid (Below g w1 wr)) (fun i _ => seen.length - (intOf i).toNat)
    case atStart => exact ⟨0, Nat.zero_le _, rfl, HX3, HB3⟩
    case round =>
      obtain ⟨k, hk, rfl, hbox, hbr⟩ := hrel
      clear HX3 HB3
      by_cases hlt : k < seen.length
      · have hlt' : (k : Int) < (seen.length : Int) := by omega
        obtain ⟨b, off, rfl, hcell⟩ := hc k hlt
        clear hc
        have c1 := (hbr.out.cell (by show b < g; rw [← HG.out]; exact World.block_lt_of_cell? w1 _ hcell)).trans hcell
        have hy := H4.out k hlt
        have HSS := hide (HSTS.out k hlt)
        have HLL := hide (HSTL.out k hk)
        obtain ⟨y, HY⟩ : ∃ y, Hid (seen.getD k 0 = y) := ⟨_, rfl⟩
        rw [HY.out] at hcell c1 hy HSS
        obtain ⟨hy0, hy1⟩ := hy
        clear hcell HY
        go_wp2_with fail
        refine (entryAt_fn k (6 + 2 * k) _ (by omega) (by omega) (by omega)).mono ?_
        rintro e w' ⟨rfl, hw'⟩
        rw [hw']; clear hw' w'
        go_wp2_with fail
        refine (writePair_fn g (6 + 2 * k) (ST k) y (6 + 2 * seen.length) _ hbox.out HLL.out (by omega) (by omega) (by omega) (by omega)).mono ?_
        rintro e w4 ⟨rfl, hw4⟩
        have HX4 : Hid (Box w4 g ((ST (k + 1)).map (Value.int .u8)) 5) := by
          rw [hw4, ← HSS.out]; exact box_byte (box_byte hbox.out (6 + 2 * k) _) (6 + 2 * k + 1) _
        have HB4 : Hid (Below g w1 w4) := by
          rw [hw4]
          exact (hbr.out.trans (below_set _ _ _ _)).trans (below_set _ _ _ _)
        clear hw4 hbox hbr c1
        go_wp2_with fail
        go_roundw
        case rel => exact ⟨k + 1, by omega, by go_num, HX4, HB4⟩
        case measure => simp [intOf]; omega
      · have hlt' : ¬ (k : Int) < (seen.length : Int) := by omega
        obtain rfl : k = seen.length := by omega
        clear hc
        go_wp2_with fail
        refine bodyPost_ret (results_tmp2 rfl _ _ _) rfl ?_
        refine ⟨_, rfl, ?_, below_step HB1.out (by rw [HG.out]; exact hbr.out)⟩
        have := hbox.out
        rw [HSTF.out] at this
        exact rowB_box this (by rw [← HSTF.out]; exact HSTL.out _ (Nat.le_refl _)) (by omega) HRG.out
  · have HO : Hid (outB u n = []) := by unfold Hid outB; rw [if_neg (by rw [HU.out]; exact hr)]
    rw [HO.out]
    have hne : (r != 0) = true := by simp [hr]
    clear hr
    go_enter Try.func29, Try.ntmps29
    go_wp2_with fail
    refine (wrongU_upd _ u _ _ HI.out).mono ?_
    rintro e w1 ⟨rfl, hb⟩
    rw [HU.out]
    have HB1 := hide (below_step HB.out hb)
    clear HB hb HI HS HU HO HBox
    go_wp2_with fail
    refine bodyPost_ret (results_tmp2 rfl _ _ _) rfl ?_
    exact ⟨_, rfl, RowB.nil _, HB1.out⟩
end Go.Proofs.Ytiomdleoafakkaa
