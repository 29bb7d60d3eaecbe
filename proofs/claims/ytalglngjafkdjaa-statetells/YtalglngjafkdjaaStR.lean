/- state.cells and state.counters. -/
import Derived.Test.YtalglngjafkdjaaStO
import Derived.Test.YtalglngjafkdjaaStI
namespace Go.Proofs.Ytalglngjafkdjaa
open Go.RowKit

set_option maxRecDepth 100000 in
theorem read1_fn (x : Live) (w : World) : Calls Try.prog 41 #[.agg #[.bool x.set, .int .i64 x.key, .int .i64 x.item, .int .i64 x.author, .int .i64 x.seq]] w fun e w' => e = .returned (.bool (!x.set)) ∧ Below w.heap.size w w' := by
  have hb := Below.plus (Below.refl w.heap.size w) (.cells #[.bool x.set, .int .i64 x.key, .int .i64 x.item, .int .i64 x.author, .int .i64 x.seq] 52)
  go_enter Try.func41, Try.ntmps41
  go_wp2
  go_ret
  exact ⟨rfl, hb⟩
set_option maxRecDepth 100000 in
theorem read2_fn (x : Live) (w : World) : Calls Try.prog 42 #[.agg #[.bool x.set, .int .i64 x.key, .int .i64 x.item, .int .i64 x.author, .int .i64 x.seq]] w fun e w' => e = .returned (.bool (x.set)) ∧ Below w.heap.size w w' := by
  have hb := Below.plus (Below.refl w.heap.size w) (.cells #[.bool x.set, .int .i64 x.key, .int .i64 x.item, .int .i64 x.author, .int .i64 x.seq] 52)
  go_enter Try.func42, Try.ntmps42
  go_wp2
  go_ret
  exact ⟨rfl, hb⟩
set_option maxRecDepth 100000 in
set_option maxHeartbeats 2000000 in
theorem cells_reg (v : Value) (l : List Live) (w : World) (hl : SliceV 5 encL w v l) (hbig : l.length ≤ 400000000) :
    Calls Try.prog 40 #[v, .func (Fn.func 41) #[] #[]] w fun e w' => ∃ v', e = .returned v' ∧ ∃ ps, CellO w' w.heap.size v' ps ∧ ps.map (·.1) = cellsL false l [] ∧ Below w.heap.size w w' := by
  obtain ⟨a, cap, rfl, -, -, -⟩ := id hl
  have HL := hide hl
  clear hl
  go_enter Try.func40, Try.ntmps40
  go_wp2_with fail
  go_loopw [5, 10] (fun o i wr => ∃ (k : Nat) (ps : List ((Int × List Int) × Value)), k ≤ l.length ∧ i = .int .i64 k ∧ Hid (ps.map (·.1) = cellsL false (l.take k) []) ∧ Hid (CellO wr w.heap.size o ps) ∧ Hid (Below w.heap.size w wr)) (fun _ i _ => l.length - (intOf i).toNat)
  case atStart => exact ⟨0, [], Nat.zero_le _, rfl, rfl, ⟨World.ownsRow_nil _ _ _ _, fun p hp => by simp at hp, List.Pairwise.nil⟩, Below.refl _ _⟩
  case round =>
    obtain ⟨k, ps, hk, rfl, HP, HC, HB⟩ := hrel
    obtain ⟨w0, rfl⟩ : ∃ w0, w0 = wr := ⟨wr, rfl⟩
    by_cases hlt : k < l.length
    · obtain ⟨x, hu⟩ : ∃ x, l[k]? = some x := ⟨_, List.getElem?_eq_getElem hlt⟩
      obtain ⟨b, off, rfl, d0, d1, d2, d3, d4⟩ := livesAt (HL.out.below HB.out (Nat.le_refl _)) hu
      have hlt' : (k : Int) < (l.length : Int) := by omega
      have HS := hide (cellsL_step (s := false) hu [])
      have hlen := cellsL_len false (l.take k) [] 0 (by simp) (by simp)
      rw [← HP.out, List.length_map, List.length_take] at hlen
      have hpl : ps.length ≤ 500000000 := by omega
      have hits : Hid (∀ p ∈ ps, p.1.2.length ≤ 500000000) := fun p hp => by
        have := hlen.2 p.1 (List.mem_map.2 ⟨p, hp, rfl⟩)
        omega
      have hbp := Below.plus (Below.refl w0.heap.size w0) (.cells #[.bool x.set, .int .i64 x.key, .int .i64 x.item, .int .i64 x.author, .int .i64 x.seq] 52)
      have V1 := hide (Box.new w0 [.bool x.set, .int .i64 x.key, .int .i64 x.item, .int .i64 x.author, .int .i64 x.seq] 52)
      have HC1 := hide (HC.out.below hbp (Nat.le_refl _))
      have HB1 := hide (below_step HB.out hbp)
      clear hbp hlen HC HB
      obtain ⟨q, HQ⟩ : ∃ q : Bool, Hid ((!x.set) = q) := ⟨_, rfl⟩
      cases q
      · have hns : Hid (¬ x.set = false) := by have := HQ.out; unfold Hid; cases hx : x.set <;> rw [hx] at this <;> simp_all
        go_wp2_with fail
        refine (read1_fn x _).mono ?_
        rintro e w2 ⟨rfl, hb⟩
        rw [HQ.out]
        have HC2 := hide (HC1.out.below hb (Nat.le_refl _))
        have HB2 := hide (below_step HB1.out hb)
        clear hb HC1 HB1 V1 d0 d1 d2 d3 d4
        go_wp2_with fail
        go_roundw
        case rel => exact ⟨k + 1, ps, by omega, by go_num, hide (by rw [HS.out, HP.out]; simp only [if_neg hns.out]), HC2, HB2⟩
        case measure => simp [intOf]; omega
      · have hns : Hid (x.set = false) := by have := HQ.out; unfold Hid; cases hx : x.set <;> rw [hx] at this <;> simp_all
        go_wp2_with fail
        refine (read1_fn x _).mono ?_
        rintro e w2 ⟨rfl, hb⟩
        rw [HQ.out]
        have HC2 := hide (HC1.out.below hb (Nat.le_refl _))
        have HB2 := hide (below_step HB1.out hb)
        have V2 := hide (V1.out.below hb (Nat.le_refl _))
        clear hb HC1 HB1 V1 d0 d1 d2 d3 d4
        have c1 := V2.out.get 1 rfl
        have c2 := V2.out.get 2 rfl
        go_wp2_with fail
        refine (showItem_fn _ ps x.key x.item w2 w.heap.size HC2.out HB2.out.size hpl hits.out).mono ?_
        rintro e w3 ⟨v3, rfl, ps3, hc3, hm3, hb3⟩
        have HC3 := hide hc3
        have HM3 := hide hm3
        have HB3 : Hid (Below w.heap.size w w3) := HB2.out.trans hb3
        clear hc3 hm3 hb3 c1 c2 V2
        go_wp2_with fail
        go_roundw
        case rel => exact ⟨k + 1, ps3, by omega, by go_num, hide (by rw [HS.out, HM3.out, HP.out]; simp only [if_pos hns.out]), HC3, HB3⟩
        case measure => simp [intOf]; omega
    · have hkl : l.take k = l := List.take_of_length_le (by omega)
      rw [hkl] at HP
      have hlt' : ¬ (k : Int) < (l.length : Int) := by omega
      go_wp2_with fail
      go_ret
      exact ⟨_, rfl, ps, HC.out, HP.out, HB.out⟩
set_option maxRecDepth 100000 in
set_option maxHeartbeats 2000000 in
theorem cells_set (v : Value) (l : List Live) (w : World) (hl : SliceV 5 encL w v l) (hbig : l.length ≤ 400000000) :
    Calls Try.prog 40 #[v, .func (Fn.func 42) #[] #[]] w fun e w' => ∃ v', e = .returned v' ∧ ∃ ps, CellO w' w.heap.size v' ps ∧ ps.map (·.1) = cellsL true l [] ∧ Below w.heap.size w w' := by
  obtain ⟨a, cap, rfl, -, -, -⟩ := id hl
  have HL := hide hl
  clear hl
  go_enter Try.func40, Try.ntmps40
  go_wp2_with fail
  go_loopw [5, 10] (fun o i wr => ∃ (k : Nat) (ps : List ((Int × List Int) × Value)), k ≤ l.length ∧ i = .int .i64 k ∧ Hid (ps.map (·.1) = cellsL true (l.take k) []) ∧ Hid (CellO wr w.heap.size o ps) ∧ Hid (Below w.heap.size w wr)) (fun _ i _ => l.length - (intOf i).toNat)
  case atStart => exact ⟨0, [], Nat.zero_le _, rfl, rfl, ⟨World.ownsRow_nil _ _ _ _, fun p hp => by simp at hp, List.Pairwise.nil⟩, Below.refl _ _⟩
  case round =>
    obtain ⟨k, ps, hk, rfl, HP, HC, HB⟩ := hrel
    obtain ⟨w0, rfl⟩ : ∃ w0, w0 = wr := ⟨wr, rfl⟩
    by_cases hlt : k < l.length
    · obtain ⟨x, hu⟩ : ∃ x, l[k]? = some x := ⟨_, List.getElem?_eq_getElem hlt⟩
      obtain ⟨b, off, rfl, d0, d1, d2, d3, d4⟩ := livesAt (HL.out.below HB.out (Nat.le_refl _)) hu
      have hlt' : (k : Int) < (l.length : Int) := by omega
      have HS := hide (cellsL_step (s := true) hu [])
      have hlen := cellsL_len true (l.take k) [] 0 (by simp) (by simp)
      rw [← HP.out, List.length_map, List.length_take] at hlen
      have hpl : ps.length ≤ 500000000 := by omega
      have hits : Hid (∀ p ∈ ps, p.1.2.length ≤ 500000000) := fun p hp => by
        have := hlen.2 p.1 (List.mem_map.2 ⟨p, hp, rfl⟩)
        omega
      have hbp := Below.plus (Below.refl w0.heap.size w0) (.cells #[.bool x.set, .int .i64 x.key, .int .i64 x.item, .int .i64 x.author, .int .i64 x.seq] 52)
      have V1 := hide (Box.new w0 [.bool x.set, .int .i64 x.key, .int .i64 x.item, .int .i64 x.author, .int .i64 x.seq] 52)
      have HC1 := hide (HC.out.below hbp (Nat.le_refl _))
      have HB1 := hide (below_step HB.out hbp)
      clear hbp hlen HC HB
      obtain ⟨q, HQ⟩ : ∃ q : Bool, Hid ((x.set) = q) := ⟨_, rfl⟩
      cases q
      · have hns : Hid (¬ x.set = true) := by have := HQ.out; unfold Hid; cases hx : x.set <;> rw [hx] at this <;> simp_all
        go_wp2_with fail
        refine (read2_fn x _).mono ?_
        rintro e w2 ⟨rfl, hb⟩
        rw [HQ.out]
        have HC2 := hide (HC1.out.below hb (Nat.le_refl _))
        have HB2 := hide (below_step HB1.out hb)
        clear hb HC1 HB1 V1 d0 d1 d2 d3 d4
        go_wp2_with fail
        go_roundw
        case rel => exact ⟨k + 1, ps, by omega, by go_num, hide (by rw [HS.out, HP.out]; simp only [if_neg hns.out]), HC2, HB2⟩
        case measure => simp [intOf]; omega
      · have hns : Hid (x.set = true) := by have := HQ.out; unfold Hid; cases hx : x.set <;> rw [hx] at this <;> simp_all
        go_wp2_with fail
        refine (read2_fn x _).mono ?_
        rintro e w2 ⟨rfl, hb⟩
        rw [HQ.out]
        have HC2 := hide (HC1.out.below hb (Nat.le_refl _))
        have HB2 := hide (below_step HB1.out hb)
        have V2 := hide (V1.out.below hb (Nat.le_refl _))
        clear hb HC1 HB1 V1 d0 d1 d2 d3 d4
        have c1 := V2.out.get 1 rfl
        have c2 := V2.out.get 2 rfl
        go_wp2_with fail
        refine (showItem_fn _ ps x.key x.item w2 w.heap.size HC2.out HB2.out.size hpl hits.out).mono ?_
        rintro e w3 ⟨v3, rfl, ps3, hc3, hm3, hb3⟩
        have HC3 := hide hc3
        have HM3 := hide hm3
        have HB3 : Hid (Below w.heap.size w w3) := HB2.out.trans hb3
        clear hc3 hm3 hb3 c1 c2 V2
        go_wp2_with fail
        go_roundw
        case rel => exact ⟨k + 1, ps3, by omega, by go_num, hide (by rw [HS.out, HM3.out, HP.out]; simp only [if_pos hns.out]), HC3, HB3⟩
        case measure => simp [intOf]; omega
    · have hkl : l.take k = l := List.take_of_length_le (by omega)
      rw [hkl] at HP
      have hlt' : ¬ (k : Int) < (l.length : Int) := by omega
      go_wp2_with fail
      go_ret
      exact ⟨_, rfl, ps, HC.out, HP.out, HB.out⟩
end Go.Proofs.Ytalglngjafkdjaa
