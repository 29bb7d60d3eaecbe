/- The document's own Bytes answers as update.Bytes does, for every update and every number of authors. -/
import Derived.Test.YtiomdleoafakkaaBytes
namespace Go.Proofs.Ytiomdleoafakkaa
open Go.RowKit

theorem ownsRow_block {w : World} {B g : Nat} {e : TypeId} {L : List Value} {n : Nat} (h : w.heap[g]? = some (.cells L.toArray e (0, 0))) (hg : B ≤ g) (hn : L.length = n) (hm : n ≤ maxLen) : w.ownsRow B e 1 (.slice (some ⟨g, 0, none⟩) n n) n L :=
  ⟨by rw [hn]; simp, .inr ⟨g, n, _, rfl, hg, h, Nat.le_refl _, hm, by simp [hn], List.take_of_length_le (by simp [hn])⟩⟩

theorem ownsRow_rowB {w : World} {B : Nat} {e : TypeId} {v : Value} {bs : List Int} {n : Nat} (h : w.ownsRow B e 1 v n (bs.map (Value.int .u8))) (hr : ∀ b ∈ bs, 0 ≤ b ∧ b ≤ 255) : RowB w v bs := by
  have hl : bs.length = n := by have := h.1; simpa using this
  rcases h.2 with ⟨h1, h2⟩ | ⟨g, cap, cur, hv, hg, hh, h1, h2, h3, h4⟩
  · subst h2
    refine ⟨none, 0, by rw [h1, hl], by omega, by unfold maxLen; omega, hr, fun i hi => by omega⟩
  · subst hv
    refine ⟨some ⟨g, 0, none⟩, cap, by rw [hl], by omega, h2, hr, fun i hi => ⟨g, 0, rfl, ?_⟩⟩
    rw [Nat.zero_add, h.cellAt i (by omega)]
    simp [List.getD, hi]

/-- The bytes when k entries are appended. -/
def growB (u : Upd) (n : Int) (k : Nat) : List Int := headB u n ++ pairsB (u.seen.take k)
theorem growB_step (u : Upd) (n : Int) {k : Nat} (hk : k < u.seen.length) : growB u n k ++ [u.seen.getD k 0 / 256, u.seen.getD k 0 % 256] = growB u n (k + 1) := by
  unfold growB
  rw [List.take_succ_eq_append_getElem hk, pairsB_snoc, List.append_assoc, getD_at hk]
  rfl
theorem growB_full (u : Upd) (n : Int) : growB u n u.seen.length = bytesU u n := by simp [growB, bytesU]

set_option maxRecDepth 100000 in
set_option maxHeartbeats 1000000 in
theorem bytes_ref (v : Value) (u : Upd) (n : Int) (w : World) (h : IsUpd w v u) :
    Calls Try.prog 30 #[v, .int .i64 n] w fun e w' => ∃ bv, e = .returned (.tuple #[bv, .int .i64 (wrongU u n)]) ∧ RowB w' bv (outB u n) ∧ Below w.heap.size w w' := by
  have hin := h
  obtain ⟨sv, rfl, hs⟩ := h
  have HI := hide (hin.below (Below.plus (Below.refl w.heap.size w) (.cells #[.int .i64 u.author, sv, .int .i64 u.kind, .int .i64 u.key, .int .i64 u.item] 38)) (Nat.le_refl _))
  have HBox := hide (Box.new w [.int .i64 u.author, sv, .int .i64 u.kind, .int .i64 u.key, .int .i64 u.item] 38)
  have HB := hide (Below.plus (Below.refl w.heap.size w) (.cells #[.int .i64 u.author, sv, .int .i64 u.kind, .int .i64 u.key, .int .i64 u.item] 38))
  have HS := hide hs
  clear hin hs
  obtain ⟨r, HU⟩ : ∃ r, Hid (wrongU u n = r) := ⟨_, rfl⟩
  rw [HU.out]
  by_cases hr : r = 0
  · subst hr
    obtain ⟨hc, h1, h2, h3, h4, h5, h6, h7, h8, h9⟩ := wrongU_ok HU.out
    obtain ⟨g1, g2, g3, g4⟩ := wrongC_ok hc
    have HO : Hid (outB u n = bytesU u n) := by unfold Hid outB; rw [if_pos HU.out]
    rw [HO.out]
    obtain ⟨i0, hi, hz0, hz1, hz2⟩ := info_parts Try.infoByte
    have H4 := hide g4
    clear hc g4 h3
    subst g3
    have HST0 : Hid (growB u u.seen.length 0 = headB u u.seen.length) := by simp [Hid, growB, pairsB]
    have HSTS : Hid (∀ k, k < u.seen.length → growB u u.seen.length k ++ [u.seen.getD k 0 / 256, u.seen.getD k 0 % 256] = growB u u.seen.length (k + 1)) := fun k hk => growB_step u _ hk
    have HSTF := hide (growB_full u u.seen.length)
    have HRG := hide (bytesU_range HU.out)
    obtain ⟨B, hB⟩ : ∃ B, B = bytesU u u.seen.length := ⟨_, rfl⟩
    rw [← hB] at HSTF HRG ⊢
    obtain ⟨ST, hST⟩ : ∃ ST, ST = growB u u.seen.length := ⟨_, rfl⟩
    rw [← hST] at HST0 HSTS HSTF
    clear hB hST
    go_enter Try.func30, Try.ntmps30
    go_wp2_with fail
    refine (wrongU_ref _ u _ _ HI.out).mono ?_
    rintro e w1 ⟨rfl, hb⟩
    rw [HU.out]
    have HB1 := hide (below_step HB.out hb)
    replace HBox := hide (HBox.out.below hb (Nat.le_refl _))
    have HS1 := hide (HS.out.below HB1.out (Nat.le_refl _))
    clear HB hb HI HS HU HO
    obtain ⟨author, seen, kind, key, item⟩ := u
    simp only [headB] at *
    have hg : w.heap.size < w1.heap.size := HBox.out.lt
    have d0 := HBox.out.get 0 rfl
    have d1 := HBox.out.get 1 rfl
    have d2 := HBox.out.get 2 rfl
    have d3 := HBox.out.get 3 rfl
    have d4 := HBox.out.get 4 rfl
    clear HBox
    obtain ⟨a, cap, hsv, hl', hm', hc⟩ := HS1.out
    clear HS1 hl' hm'
    subst hsv
    have hq1 : (item + 1000) / 256 ≤ 255 := by omega
    have hq0 : 0 ≤ (item + 1000) / 256 := by omega
    have hx0 : 0 ≤ item + 1000 := by omega
    go_wp2_with fail
    have HX0 : Hid ((w1.alloc (.cells #[.int .u8 seen.length, .int .u8 author, .int .u8 kind, .int .u8 key, .int .u8 ((item + 1000) / 256), .int .u8 ((item + 1000) % 256)] 5)).ownsRow w1.heap.size 5 1 (.slice (some ⟨w1.heap.size, 0, none⟩) 6 6) (6 + 2 * 0) ((ST 0).map (Value.int .u8))) := by
      rw [HST0.out]
      exact ownsRow_block (heap_alloc_new w1 _) (Nat.le_refl _) rfl (by unfold maxLen; omega)
    have HB2 := hide (Below.plus (Below.refl w1.heap.size w1) (.cells #[.int .u8 seen.length, .int .u8 author, .int .u8 kind, .int .u8 key, .int .u8 ((item + 1000) / 256), .int .u8 ((item + 1000) % 256)] 5))
    clear d0 d1 d2 d3 d4 HST0
    go_loopw [8, 41] (fun o i wr => ∃ k : Nat, k ≤ seen.length ∧ i = .int .i64 k ∧ Hid (wr.ownsRow w1.heap.size 5 1 o (6 + 2 * k) ((ST k).map (Value.int .u8))) ∧ Hid (Below w1.heap.size w1 wr)) (fun _ i _ => seen.length - (intOf i).toNat)
    case atStart => exact ⟨0, Nat.zero_le _, rfl, HX0, HB2⟩
    case round =>
      obtain ⟨k, hk, rfl, hown, hbr⟩ := hrel
      clear HX0 HB2
      by_cases hlt : k < seen.length
      · have hlt' : (k : Int) < (seen.length : Int) := by omega
        obtain ⟨b, off, rfl, hcell⟩ := hc k hlt
        clear hc
        have c1 := (hbr.out.cell (World.block_lt_of_cell? w1 _ hcell)).trans hcell
        have hy := H4.out k hlt
        have HSS := hide (HSTS.out k hlt)
        obtain ⟨y, HY⟩ : ∃ y, Hid (seen.getD k 0 = y) := ⟨_, rfl⟩
        rw [HY.out] at hcell c1 hy HSS
        obtain ⟨hy0, hy1⟩ := hy
        clear hcell HY
        go_wp2_with (at_builtin; refine wpList_append_own _ rfl (.tmp 45) (.tmp 52) 39 rfl w1.heap.size 5 i0 (.int .u8 0) 1 1 Try.underlying39 hi hz0 hz1 hz2 rfl (by decide) _ _ _ rfl (hown.out.alloc _) ⟨wr.heap.size, 0, none⟩ 2 2 [.int .u8 (y / 256), .int .u8 (y % 256)] rfl rfl ?c1 ?c2 ?c3 ?c4 ?c5 ?_)
        case c1 => intro j q hj; match j, hj with
          | 0, hj => simp at hj; subst hj; simp [Addr.add]
          | 1, hj => simp at hj; subst hj; simp [Addr.add]
        case c2 => intro q hj; simp at hj; rcases hj with rfl | rfl <;> rfl
        case c3 => unfold maxLen; omega
        case c4 => omega
        case c5 => have := hbr.out.size; simp; omega
        intro v' w2 hown' hgrow _
        have HB2 : Hid (Below w1.heap.size w1 w2) := (hbr.out.alloc hbr.out.size _).grown hgrow (by have := hbr.out.size; simp; omega) (fun g hg => (hown.out.lt g hg).1)
        have HOWN : Hid (w2.ownsRow w1.heap.size 5 1 v' (6 + 2 * (k + 1)) ((ST (k + 1)).map (Value.int .u8))) := by
          rw [← HSS.out, List.map_append]
          exact hown'
        clear hown' hgrow hown c1 HSS
        go_wp2_with fail
        go_roundw
        case rel => exact ⟨k + 1, by omega, by go_num, HOWN, HB2⟩
        case measure => simp [intOf]; omega
      · have hlt' : ¬ (k : Int) < (seen.length : Int) := by omega
        obtain rfl : k = seen.length := by omega
        clear hc
        go_wp2_with fail
        refine bodyPost_ret (results_tmp2 rfl _ _ _) rfl ?_
        have := hown.out
        rw [HSTF.out] at this
        exact ⟨_, rfl, ownsRow_rowB this HRG.out, below_step HB1.out hbr.out⟩
  · have HO : Hid (outB u n = []) := by unfold Hid outB; rw [if_neg (by rw [HU.out]; exact hr)]
    rw [HO.out]
    have hne : (r != 0) = true := by simp [hr]
    clear hr
    go_enter Try.func30, Try.ntmps30
    go_wp2_with fail
    refine (wrongU_ref _ u _ _ HI.out).mono ?_
    rintro e w1 ⟨rfl, hb⟩
    rw [HU.out]
    have HB1 := hide (below_step HB.out hb)
    clear HB hb HI HS HU HO HBox
    go_wp2_with fail
    refine bodyPost_ret (results_tmp2 rfl _ _ _) rfl ?_
    exact ⟨_, rfl, RowB.nil _, HB1.out⟩
end Go.Proofs.Ytiomdleoafakkaa
