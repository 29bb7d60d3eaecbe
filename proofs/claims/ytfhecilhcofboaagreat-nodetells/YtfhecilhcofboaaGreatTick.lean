/- clock.Has answers whether a clock has an author's update, and clock.Tick answers a new clock with one more for that author. -/
import Derived.Test.YtfhecilhcofboaaGreatSees
namespace Go.Proofs.YtfhecilhcofboaaGreat
open Go.RowKit

def hasC (xs : List Int) (i s : Int) : Bool := decide (0 ≤ i ∧ i < xs.length ∧ s ≤ xs.getD i.toNat 0)

set_option maxRecDepth 100000 in
set_option maxHeartbeats 400000 in
theorem has_clock (v : Value) (xs : List Int) (i s : Int) (w : World) (h : Row w v xs) :
  Calls Tryz.prog 106 #[v, .int .i64 i, .int .i64 s] w fun e w' => e = .returned (.bool (hasC xs i s)) ∧ w' = w := by
 by_cases hi : 0 ≤ i ∧ i < xs.length
 ·obtain ⟨h0, h1⟩ := hi
  obtain ⟨k, rfl⟩ := Int.eq_ofNat_of_zero_le h0
  have hk : k < xs.length := by omega
  have HH := hide (hasAuthor_yes v xs k w h h0 h1)
  have hx := h.len_le
  obtain ⟨a, cap, rfl, hl, hm, hc⟩ := h
  obtain ⟨b, off, rfl, hcell⟩ := hc k hk
  clear hc hl hm
  obtain ⟨y, HY⟩ : ∃ y, Hid (xs.getD k 0 = y) := ⟨_, rfl⟩
  rw [HY.out] at hcell
  have HR : Hid (decide (s ≤ y) = hasC xs k s) := by
   unfold Hid hasC; rw [Int.toNat_natCast, HY.out]; simp [hk]
  go_enter Tryz.func106, Tryz.ntmps106
  go_wp2_with (go_at_call 61; refine HH.mono ?_; rintro e w' ⟨rfl, rfl⟩)
  go_ret
  exact ⟨ret_bool HR.out, rfl⟩
 have HH := hide (hasAuthor_no v xs i w h (by omega))
 have HR : Hid (false = hasC xs i s) := by
  unfold Hid hasC; symm; rw [decide_eq_false_iff_not]; intro g; exact hi ⟨g.1, g.2.1⟩
 clear hi
 obtain ⟨a, cap, rfl, -, -, -⟩ := h
 go_enter Tryz.func106, Tryz.ntmps106
 go_wp2_with (go_at_call 61; refine HH.mono ?_; rintro e w' ⟨rfl, rfl⟩)
 go_ret
 exact ⟨ret_bool HR.out, rfl⟩

def tickC (xs : List Int) (i : Int) : List Int := if 0 ≤ i ∧ i < xs.length then xs.set i.toNat (wrap64 (xs.getD i.toNat 0 + 1)) else xs
theorem tickC_length (xs : List Int) (i : Int) : (tickC xs i).length = xs.length := by unfold tickC; split <;> simp

theorem splice_whole {α : Type} (L cs : List α) (h : L.length = cs.length) : splice L 0 cs = cs := by
 simp [splice, h]

set_option maxRecDepth 100000 in
set_option maxHeartbeats 800000 in
theorem copy_clock_at (v : Value) (xs : List Int) (w : World) (h : Row w v xs) (hr : xs.length * 8 ≤ 140737488351232) :
  Calls Tryz.prog 42 #[v] w fun e w' => e = .returned (.slice (some ⟨w.heap.size, 0, none⟩) xs.length xs.length) ∧ Own w' w.heap.size (.slice (some ⟨w.heap.size, 0, none⟩) xs.length xs.length) xs ∧ Below w.heap.size w w' := by
 obtain ⟨i0, hi, hz0, hz1, hz2⟩ := info_parts Tryz.infoInt
 have HROW := hide h
 obtain ⟨a, cap, rfl, -, -, -⟩ := h
 go_enter Tryz.func42, Tryz.ntmps42
 go_wp2_with (at_make; refine wpList_make_full _ rfl _ _ 23 rfl w.heap.size 3 i0 (.int .i64 0) 1 Tryz.underlying23 hi hz0 hz1 _ _ _ _ xs.length rfl rfl rfl rfl ?b2 ?b3 ?b4 ?_)
 case b2 => rw [hz2]; omega
 case b3 => unfold maxLen; omega
 case b4 => exact nlr _
 intro w1 hown hgrow
 have hb1 : Below w.heap.size w w1 := (Below.refl _ _).grown hgrow (nlr _) (fun k hk => by cases hk)
 obtain ⟨L, HBLK, HLEN⟩ : ∃ L : List Value, Hid (w1.heap[w.heap.size]? = some (.cells L.toArray 3 (0, 0))) ∧ Hid (L.length = xs.length) := ⟨_, (own_block hown).1, (own_block hown).2.2⟩
 obtain ⟨CS, HCS⟩ : ∃ CS, Hid (CS = xs.map (Value.int .i64)) := ⟨_, rfl⟩
 clear hown hgrow
 have hcl : Hid (CS.length = xs.length) := by rw [HCS.out]; simp [Hid]
 have hR := (HROW.below hb1 (nlr _)).cells
 have HP := hide hR.2.2.2
 have HONE : Hid (∀ v ∈ CS, v.oneCell' = true) := by rw [HCS.out]; exact ints_oneCell _ _
 rw [← HCS.out] at HP
 clear hR
 go_wp2_with (refine wpList_copy_splice rfl (.tmp 7) (.tmp 8) 23 23 rfl 3 Tryz.underlying23 Tryz.sizeInt _ _ _ _ _ _ rfl rfl w.heap.size 0 L 3 HBLK.out CS ?d1 ?d2 ?d3 HONE.out w.heap.size w hb1 (nlr _) ?_)
 case d1 => rw [hcl.out]; simp
 case d2 => intro hp; rw [hcl.out] at hp; exact HP.out hp
 case d3 => rw [hcl.out, HLEN.out]; omega
 intro w2 HB2 hb2
 rw [splice_whole _ _ (HLEN.trans hcl.out.symm), HCS.out] at HB2
 have HOWN := hide (own_of_block (B := w.heap.size) HB2.out (nlr _) (by unfold maxLen; omega))
 clear HB2 HBLK HLEN hcl HP HONE HCS hb1
 go_wp2
 go_ret
 exact ⟨rfl, HOWN.out, hb2⟩

theorem copy_clock (v : Value) (xs : List Int) (w : World) (h : Row w v xs) (hr : xs.length * 8 ≤ 140737488351232) :
  Calls Tryz.prog 42 #[v] w fun e w' => ∃ r, e = .returned r ∧ Own w' w.heap.size r xs ∧ Below w.heap.size w w' := by
 refine (copy_clock_at v xs w h hr).mono ?_
 rintro e w' ⟨rfl, h1, h2⟩
 exact ⟨_, rfl, h1, h2⟩

set_option maxRecDepth 100000 in
set_option maxHeartbeats 800000 in
theorem tick_clock (v : Value) (xs : List Int) (i : Int) (w : World) (h : Row w v xs) (hr : xs.length * 8 ≤ 140737488351232) :
  Calls Tryz.prog 72 #[v, .int .i64 i] w fun e w' => ∃ r, e = .returned r ∧ Own w' w.heap.size r (tickC xs i) ∧ Below w.heap.size w w' := by
 have HROW := hide h
 obtain ⟨a, cap, rfl, -, -, -⟩ := h
 go_enter Tryz.func72, Tryz.ntmps72
 go_wp2_with fail
 refine (copy_clock_at _ xs w HROW.out hr).mono ?_
 rintro e w2 ⟨rfl, hown, hb2⟩
 have HOWN := hide hown
 clear hown
 have HR2 := HROW.below hb2 (nlr _)
 by_cases hin : 0 ≤ i ∧ i < xs.length
 ·obtain ⟨h0, h1⟩ := hin
  obtain ⟨k, rfl⟩ := Int.eq_ofNat_of_zero_le h0
  have hk : k < xs.length := by omega
  have HH := hide (hasAuthor_yes _ xs k w2 HR2 h0 h1)
  clear HR2
  obtain ⟨y, HY⟩ : ∃ y, Hid (xs.getD k 0 = y) := ⟨_, rfl⟩
  have c1 : w2.cell? ⟨w.heap.size, k, none⟩ = some (.int .i64 y) := by
   rw [HOWN.cellAt k (by omega)]; simp [hk, ← HY.out]
  have c2 : w2.frozen? ⟨w.heap.size, k, none⟩ = false := HOWN.frozenAt k
  have HT : Hid (tickC xs k = xs.set k (wrap64 (y + 1))) := by unfold Hid tickC; rw [if_pos ⟨h0, h1⟩, Int.toNat_natCast, HY.out]
  go_wp2_with (go_at_call 61; refine HH.mono ?_; rintro e w' ⟨rfl, rfl⟩)
  go_ret
  refine ⟨_, rfl, ?_, hb2.setCell (nlr _) _⟩
  have := HOWN.stored k (.int .i64 (wrap64 (y + 1)))
  unfold Own
  rw [HT.out, List.length_set, List.map_set]
  exact this.1
 have HH := hide (hasAuthor_no _ xs i w2 HR2 (by omega))
 have HT : Hid (tickC xs i = xs) := by unfold Hid tickC; rw [if_neg hin]
 clear HR2 hin
 go_wp2_with (go_at_call 61; refine HH.mono ?_; rintro e w' ⟨rfl, rfl⟩)
 go_ret
 refine ⟨_, rfl, ?_, hb2⟩
 rw [HT.out]
 exact HOWN.out
end Go.Proofs.YtfhecilhcofboaaGreat
