/- The closed fact that the statements of the fourth chapter ask first is true. -/
import Derived.Test.YtkhhifkihpfdhaaStU
import Derived.Test.YtkhhifkihpfdhaaStL
import Derived.Test.YtkhhifkihpfdhaaStF
namespace Go.Proofs.Ytkhhifkihpfdhaa
open Go.RowKit

set_option maxRecDepth 100000 in
set_option maxHeartbeats 1000000 in
theorem up4_fn (kind key item author : Int) (v : Value) (xs : List Int) (w : World) (h : Row w v xs) :
    Calls Try.prog 58 #[.int .i64 kind, .int .i64 key, .int .i64 item, .int .i64 author, v] w fun e w' => e = .returned (.agg #[.int .i64 author, v, .int .i64 kind, .int .i64 key, .int .i64 item]) ∧ Below w.heap.size w w' := by
  obtain ⟨a, cap, rfl, -, -, -⟩ := id h
  clear h
  go_enter Try.func58, Try.ntmps58
  go_wp2_with fail
  refine bodyPost_ret (results_cell_row rfl _ _ w.heap.size 47 _ (0, 0) _ rfl (Box.new w [.int .i64 author, .slice a xs.length cap, .int .i64 kind, .int .i64 key, .int .i64 item] 47) Try.underlying47 rfl Try.sizeUpd) rfl ⟨rfl, Below.plus (Below.refl w.heap.size w) _⟩
theorem log_boxN {w : World} {g : Nat} {ps : List (Upd × Value)} (h : Box w g (cellsP ps) 47) (hr : ∀ p ∈ ps, Row w p.2 p.1.seen) (hm : ps.length ≤ 1000) : LogV w (.slice (some ⟨g, 0, none⟩) ps.length ps.length) (ps.map (·.1)) := by
  refine OwnP.log (R := Row w) (B := 0) ⟨⟨cellsP_length ps, .inr ⟨g, ps.length, _, rfl, Nat.zero_le _, h, Nat.le_refl _, by unfold maxLen; omega, ?_, ?_⟩⟩, hr⟩ fun _ _ h => h
  · simp [cellsP_length]
  · exact List.take_of_length_le (by simp [cellsP_length])
theorem row_two (w : World) (p q : Int) : Row (w.alloc (.cells #[.int .i64 p, .int .i64 q] 3)) (.slice (some ⟨w.heap.size, 0, none⟩) 2 2) [p, q] := by
  refine ⟨_, 2, rfl, by simp, by unfold maxLen; omega, fun i hi => ⟨_, _, rfl, ?_⟩⟩
  match i, hi with
  | 0, _ => simp
  | 1, _ => simp
theorem same_yes (v u : Value) (xs : List Int) (w : World) (h : Row w v xs) (hu : Row w u xs) :
    Calls Try.prog 22 #[v, u] w fun e w' => e = .returned (.bool true) ∧ Below w.heap.size w w' := by
  have := same_ref v u xs xs w h hu
  rw [decide_eq_true rfl] at this
  exact this

set_option maxRecDepth 100000 in
set_option maxHeartbeats 1000000 in
theorem start_two (w : World) : Calls Try.prog 13 #[.int .i64 2] w fun e w' => ∃ v, e = .returned v ∧ StOwn w' w.heap.size v ⟨[0, 0], [], []⟩ ∧ Below w.heap.size w w' := by
  have hmk : ∀ (w : World), (Instr.makeSlice 23 (.int .i64 2) (.int .i64 2)).run Try.prog w = .ok (.slice (some ⟨w.heap.size, 0, none⟩) 2 2) (w.alloc (.cells (madeCells #[.int .i64 0] 2) 3)) :=
    run_make_row' 23 3 (.int .i64 0) 8 Try.underlying23 Try.infoInt rfl .i64 .i64 2 (by omega) (by omega)
  go_enter Try.func13, Try.ntmps13
  go_wp2_with fail
  have hR := (Box.new w [.slice (some ⟨w.heap.size + 1, 0, none⟩) 2 2, .slice none 0 0, .slice none 0 0] 27).plus (.cells (madeCells #[.int .i64 0] 2) 3)
  refine bodyPost_ret (results_cell_row rfl _ _ w.heap.size 27 _ (0, 0) _ rfl hR Try.underlying27 rfl Try.sizeState) rfl ⟨_, rfl, ?_, Below.plus (Below.plus (Below.refl w.heap.size w) _) _⟩
  refine ⟨_, _, _, rfl, ?_, World.ownsRow_nil _ _ _ _, World.ownsRow_nil _ _ _ _⟩
  have hn := heap_alloc_new (w.alloc (.cells #[.slice (some ⟨w.heap.size + 1, 0, none⟩) 2 2, .slice none 0 0, .slice none 0 0] 27)) (.cells (madeCells #[.int .i64 0] 2) 3)
  rw [World.size_alloc] at hn
  have hm : madeCells #[.int .i64 0] 2 = (([0, 0] : List Int).map (Value.int .i64)).toArray := by kernel_rfl
  have := own_of_block (w := (w.alloc (.cells #[.slice (some ⟨w.heap.size + 1, 0, none⟩) 2 2, .slice none 0 0, .slice none 0 0] 27)).alloc (.cells (madeCells #[.int .i64 0] 2) 3)) (B := w.heap.size) (g := w.heap.size + 1) (xs := [0, 0]) (by rw [hn, hm]) (by omega) (by unfold maxLen; simp)
  exact this

def s0 : StS := ⟨[0, 0], [], []⟩
def q0 : Upd := ⟨0, [0, 0], 1, 1, 5⟩
def q1 : Upd := ⟨1, [0, 0], 1, 1, 6⟩
def q2 : Upd := ⟨0, [1, 0], 5, 2, 7⟩
def s1 : StS := ⟨[2, 1], [⟨false, 1, 5, 0, 1⟩, ⟨false, 1, 6, 1, 1⟩], [⟨2, 0, 7⟩]⟩
theorem alive_play : playE s0 [q0, q1, q2] = 0 ∧ playA s0 [q0, q1, q2] = 0 ∧ playX s0 [q0, q1, q2] = s1 := ⟨by kernel_rfl, by kernel_rfl, by kernel_rfl⟩
theorem alive_read : stE s1 s1.clock.length = 0 ∧ stA s1 s1.clock.length = 0 ∧ readX s1 = ⟨[(1, [5, 6])], [], [(2, 7)]⟩ := ⟨by kernel_rfl, by kernel_rfl, by kernel_rfl⟩
/-- A cell and what it holds. -/
def At (w : World) (g i : Nat) (v : Value) : Prop := w.cell? ⟨g, i, none⟩ = some v
theorem At.below {w w' : World} {g i : Nat} {v : Value} (h : At w g i v) {B : Nat} (hb : Below B w w') (hB : w.heap.size ≤ B) : At w' g i v := (hb.cell (p := ⟨g, i, none⟩) (Nat.lt_of_lt_of_le (World.block_lt_of_cell? w _ h) hB)).trans h
theorem cell_first {w : World} {B : Nat} {v : Value} {ps : List ((Int × List Int) × Value)} {k : Int} {its : List Int} (h : CellO w B v ps) (hm : ps.map (·.1) = [(k, its)]) : ∃ g cap vi, v = .slice (some ⟨g, 0, none⟩) 1 cap ∧ w.cell? ⟨g, 0, none⟩ = some (.int .i64 k) ∧ w.cell? ⟨g, 1, none⟩ = some vi ∧ Row w vi its := by
  cases ps with
  | nil => simp at hm
  | cons p r =>
    simp only [List.map_cons, List.cons.injEq, List.map_eq_nil_iff] at hm
    obtain ⟨h1, rfl⟩ := hm
    rcases own_ways h.row with ⟨-, h2⟩ | ⟨g, cap, hv, -, hh, -, -⟩
    · simp at h2
    · have e0 := hh.at encP_length (i := 0) (x := p) rfl (j := 0) rfl
      have e1 := hh.at encP_length (i := 0) (x := p) rfl (j := 1) rfl
      simp only [Nat.zero_mul, Nat.zero_add] at e0 e1
      refine ⟨g, cap, p.2, hv, ?_, e1, ?_⟩
      · rw [e0, h1]
      · have := (h.items p (by simp)).1.row
        rw [h1] at this
        exact this
theorem pair_first {w : World} {B : Nat} {v : Value} {k s : Int} (h : w.ownsRow B 59 2 v ([(k, s)] : List (Int × Int)).length (cellsS encC [(k, s)])) : ∃ g cap, v = .slice (some ⟨g, 0, none⟩) 1 cap ∧ w.cell? ⟨g, 0, none⟩ = some (.int .i64 k) ∧ w.cell? ⟨g, 1, none⟩ = some (.int .i64 s) := by
  rcases own_ways h with ⟨-, h2⟩ | ⟨g, cap, hv, -, hh, -, -⟩
  · simp at h2
  · have e0 := hh.at encC_length (i := 0) (x := (k, s)) rfl (j := 0) rfl
    have e1 := hh.at encC_length (i := 0) (x := (k, s)) rfl (j := 1) rfl
    simp only [Nat.zero_mul, Nat.zero_add] at e0 e1
    exact ⟨g, cap, hv, e0, e1⟩

theorem eq_pair (w : World) : (Op.equalIn 10000 59 (.agg #[.int .i64 2, .int .i64 7]) (.agg #[.int .i64 2, .int .i64 7])).run Try.prog w = .ok true w := by kernel_rfl
set_option maxRecDepth 100000 in
set_option maxHeartbeats 2000000 in
theorem alive4 (w : World) : Calls Try.prog 20 #[] w fun e w' => e = .returned (.bool true) ∧ Below w.heap.size w w' := by
  obtain ⟨w0, rfl⟩ : ∃ w0, w0 = w := ⟨w, rfl⟩
  have HB0 := hide (Below.refl w0.heap.size w0)
  have heq := eq_pair
  go_enter Try.func20, Try.ntmps20
  go_wp2_with fail
  refine (start_two _).mono ?_
  rintro e w1 ⟨vS, rfl, hS, hb⟩
  have HB1 := hide (below_step HB0.out hb)
  have S1 := hide hS
  clear HB0 hb 
  have HB2 := hide (below_step HB1.out (Below.plus (Below.refl _ w1) (.cells #[.int .i64 0, .int .i64 0] 3)))
  have S2 := hide (S1.out.below (Below.plus (Below.refl _ w1) (.cells #[.int .i64 0, .int .i64 0] 3)) (Nat.le_refl _))
  have A2 := hide (row_two w1 0 0)
  clear HB1 S1
  go_wp2_with fail
  refine (up4_fn 1 1 5 0 _ [0, 0] _ A2.out).mono ?_
  rintro e w3 ⟨rfl, hb⟩
  have HB3 := hide (below_step HB2.out hb)
  have S3 := hide (S2.out.below hb (Nat.le_refl _))
  have A3 := hide (A2.out.below hb (Nat.le_refl _))
  clear HB2 hb S2 A2
  have HB4 := hide (below_step HB3.out (Below.plus (Below.refl _ w3) (.cells #[.int .i64 0, .int .i64 0] 3)))
  have S4 := hide (S3.out.below (Below.plus (Below.refl _ w3) (.cells #[.int .i64 0, .int .i64 0] 3)) (Nat.le_refl _))
  have A4 := hide (A3.out.below (Below.plus (Below.refl _ w3) (.cells #[.int .i64 0, .int .i64 0] 3)) (Nat.le_refl _))
  have B4 := hide (row_two w3 0 0)
  clear HB3 S3 A3
  go_wp2_with fail
  refine (up4_fn 1 1 6 1 _ [0, 0] _ B4.out).mono ?_
  rintro e w5 ⟨rfl, hb⟩
  have HB5 := hide (below_step HB4.out hb)
  have S5 := hide (S4.out.below hb (Nat.le_refl _))
  have A5 := hide (A4.out.below hb (Nat.le_refl _))
  have B5 := hide (B4.out.below hb (Nat.le_refl _))
  clear HB4 hb S4 A4 B4
  have HB6 := hide (below_step HB5.out (Below.plus (Below.refl _ w5) (.cells #[.int .i64 1, .int .i64 0] 3)))
  have S6 := hide (S5.out.below (Below.plus (Below.refl _ w5) (.cells #[.int .i64 1, .int .i64 0] 3)) (Nat.le_refl _))
  have A6 := hide (A5.out.below (Below.plus (Below.refl _ w5) (.cells #[.int .i64 1, .int .i64 0] 3)) (Nat.le_refl _))
  have B6 := hide (B5.out.below (Below.plus (Below.refl _ w5) (.cells #[.int .i64 1, .int .i64 0] 3)) (Nat.le_refl _))
  have C6 := hide (row_two w5 1 0)
  clear HB5 S5 A5 B5
  go_wp2_with fail
  refine (up4_fn 5 2 7 0 _ [1, 0] _ C6.out).mono ?_
  rintro e w7 ⟨rfl, hb⟩
  have HB7 := hide (below_step HB6.out hb)
  have S7 := hide (S6.out.below hb (Nat.le_refl _))
  have A7 := hide (A6.out.below hb (Nat.le_refl _))
  have B7 := hide (B6.out.below hb (Nat.le_refl _))
  have C7 := hide (C6.out.below hb (Nat.le_refl _))
  clear HB6 hb S6 A6 B6 C6
  have HB8 := hide (below_step HB7.out (Below.plus (Below.refl _ w7) (.cells #[.int .i64 0, .slice (some ⟨w1.heap.size, 0, none⟩) 2 2, .int .i64 1, .int .i64 1, .int .i64 5, .int .i64 1, .slice (some ⟨w3.heap.size, 0, none⟩) 2 2, .int .i64 1, .int .i64 1, .int .i64 6, .int .i64 0, .slice (some ⟨w5.heap.size, 0, none⟩) 2 2, .int .i64 5, .int .i64 2, .int .i64 7] 47)))
  have S8 := hide (S7.out.below (Below.plus (Below.refl _ w7) (.cells #[.int .i64 0, .slice (some ⟨w1.heap.size, 0, none⟩) 2 2, .int .i64 1, .int .i64 1, .int .i64 5, .int .i64 1, .slice (some ⟨w3.heap.size, 0, none⟩) 2 2, .int .i64 1, .int .i64 1, .int .i64 6, .int .i64 0, .slice (some ⟨w5.heap.size, 0, none⟩) 2 2, .int .i64 5, .int .i64 2, .int .i64 7] 47)) (Nat.le_refl _))
  have A8 := hide (A7.out.below (Below.plus (Below.refl _ w7) (.cells #[.int .i64 0, .slice (some ⟨w1.heap.size, 0, none⟩) 2 2, .int .i64 1, .int .i64 1, .int .i64 5, .int .i64 1, .slice (some ⟨w3.heap.size, 0, none⟩) 2 2, .int .i64 1, .int .i64 1, .int .i64 6, .int .i64 0, .slice (some ⟨w5.heap.size, 0, none⟩) 2 2, .int .i64 5, .int .i64 2, .int .i64 7] 47)) (Nat.le_refl _))
  have B8 := hide (B7.out.below (Below.plus (Below.refl _ w7) (.cells #[.int .i64 0, .slice (some ⟨w1.heap.size, 0, none⟩) 2 2, .int .i64 1, .int .i64 1, .int .i64 5, .int .i64 1, .slice (some ⟨w3.heap.size, 0, none⟩) 2 2, .int .i64 1, .int .i64 1, .int .i64 6, .int .i64 0, .slice (some ⟨w5.heap.size, 0, none⟩) 2 2, .int .i64 5, .int .i64 2, .int .i64 7] 47)) (Nat.le_refl _))
  have C8 := hide (C7.out.below (Below.plus (Below.refl _ w7) (.cells #[.int .i64 0, .slice (some ⟨w1.heap.size, 0, none⟩) 2 2, .int .i64 1, .int .i64 1, .int .i64 5, .int .i64 1, .slice (some ⟨w3.heap.size, 0, none⟩) 2 2, .int .i64 1, .int .i64 1, .int .i64 6, .int .i64 0, .slice (some ⟨w5.heap.size, 0, none⟩) 2 2, .int .i64 5, .int .i64 2, .int .i64 7] 47)) (Nat.le_refl _))
  have L8 := hide (Box.new w7 [.int .i64 0, .slice (some ⟨w1.heap.size, 0, none⟩) 2 2, .int .i64 1, .int .i64 1, .int .i64 5, .int .i64 1, .slice (some ⟨w3.heap.size, 0, none⟩) 2 2, .int .i64 1, .int .i64 1, .int .i64 6, .int .i64 0, .slice (some ⟨w5.heap.size, 0, none⟩) 2 2, .int .i64 5, .int .i64 2, .int .i64 7] 47)
  clear HB7 S7 A7 B7 C7
  have M8 : Hid (LogV (w7.alloc (.cells #[.int .i64 0, .slice (some ⟨w1.heap.size, 0, none⟩) 2 2, .int .i64 1, .int .i64 1, .int .i64 5, .int .i64 1, .slice (some ⟨w3.heap.size, 0, none⟩) 2 2, .int .i64 1, .int .i64 1, .int .i64 6, .int .i64 0, .slice (some ⟨w5.heap.size, 0, none⟩) 2 2, .int .i64 5, .int .i64 2, .int .i64 7] 47)) (.slice (some ⟨w7.heap.size, 0, none⟩) 3 3) [q0, q1, q2]) := (log_boxN (ps := [(q0, .slice (some ⟨w1.heap.size, 0, none⟩) 2 2), (q1, .slice (some ⟨w3.heap.size, 0, none⟩) 2 2), (q2, .slice (some ⟨w5.heap.size, 0, none⟩) 2 2)]) L8.out (by intro p hp; simp at hp; rcases hp with rfl | rfl | rfl; exact A8.out; exact B8.out; exact C8.out) (by simp))
  go_wp2_with fail
  refine (play_state _ _ s0 [q0, q1, q2] _ S8.out.st M8.out).mono ?_
  rintro e w9 ⟨vP, rfl, hP, hb⟩
  have HB9 := hide (below_step HB8.out hb)
  have S9 := hide (S8.out.below hb (Nat.le_refl _))
  have A9 := hide (A8.out.below hb (Nat.le_refl _))
  have B9 := hide (B8.out.below hb (Nat.le_refl _))
  have C9 := hide (C8.out.below hb (Nat.le_refl _))
  have L9 := hide (L8.out.below hb (Nat.le_refl _))
  have M9 := hide (M8.out.below hb (Nat.le_refl _))
  have P9 := hide hP
  clear HB8 hb S8 A8 B8 C8 L8 M8
  rw [alive_play.1, alive_play.2.1]
  rw [alive_play.2.2] at P9
  obtain ⟨vc, vl, vt, hvp, k1, k2, k3⟩ := id P9.out
  obtain ⟨aC, cC, hvc, -⟩ := k1.row
  obtain ⟨aL, cL, hvl, -⟩ := slice_of_own encL_length k2
  obtain ⟨aT, cT, hvt, -⟩ := slice_of_own encT_length k3
  subst hvc hvl hvt hvp
  clear hP k1 k2 k3
  clear A9 B9 C9 L9 M9 S9
  have HB10 := hide (below_step HB9.out (Below.plus (Below.refl _ w9) (.cells #[.slice aC s1.clock.length cC, .slice aL s1.lives.length cL, .slice aT s1.tals.length cT] 27)))
  have P10 := hide (P9.out.below (Below.plus (Below.refl _ w9) (.cells #[.slice aC s1.clock.length cC, .slice aL s1.lives.length cL, .slice aT s1.tals.length cT] 27)) (Nat.le_refl _))
  have X10 := hide (Box.new w9 [.slice aC s1.clock.length cC, .slice aL s1.lives.length cL, .slice aT s1.tals.length cT] 27)
  clear HB9 P9
  have HB11 := hide (below_step HB10.out (Below.plus (Below.refl _ (w9.alloc (.cells #[.slice aC s1.clock.length cC, .slice aL s1.lives.length cL, .slice aT s1.tals.length cT] 27))) (.cells #[.int .i64 0, .int .i64 0] 31)))
  have P11 := hide (P10.out.below (Below.plus (Below.refl _ (w9.alloc (.cells #[.slice aC s1.clock.length cC, .slice aL s1.lives.length cL, .slice aT s1.tals.length cT] 27))) (.cells #[.int .i64 0, .int .i64 0] 31)) (Nat.le_refl _))
  have X11 := hide (X10.out.below (Below.plus (Below.refl _ (w9.alloc (.cells #[.slice aC s1.clock.length cC, .slice aL s1.lives.length cL, .slice aT s1.tals.length cT] 27))) (.cells #[.int .i64 0, .int .i64 0] 31)) (Nat.le_refl _))
  have F11 := hide (Box.new (w9.alloc (.cells #[.slice aC s1.clock.length cC, .slice aL s1.lives.length cL, .slice aT s1.tals.length cT] 27)) [.int .i64 0, .int .i64 0] 31)
  clear HB10 P10 X10
  simp only [World.size_alloc] at F11
  have cX0 := X11.out.get 0 rfl
  have cX1 := X11.out.get 1 rfl
  have cX2 := X11.out.get 2 rfl
  go_wp2_with fail
  refine (read_state _ s1 _ P11.out.st).mono ?_
  rintro e w12 ⟨vV, rfl, hV, hb⟩
  have HB12 := hide (below_step HB11.out hb)
  have P12 := hide (P11.out.below hb (Nat.le_refl _))
  have X12 := hide (X11.out.below hb (Nat.le_refl _))
  have F12 := hide (F11.out.below hb (Nat.le_refl _))
  have V12 := hide hV
  clear HB11 hb P11 X11 F11
  rw [alive_read.1, alive_read.2.1]
  rw [alive_read.2.2] at V12
  clear cX0 cX1 cX2
  obtain ⟨vr, vs, vn, pr, ps, hvv, j1, j2, j3, j4, j5⟩ := id V12.out
  obtain ⟨gr, cr, vi, hvr, z0, z1, zi⟩ := cell_first j1 j2
  obtain ⟨ae, ce, hvs⟩ := j3.slice
  obtain ⟨gn, cn, hvn, y0, y1⟩ := pair_first j5
  obtain ⟨ai, ci, hvi, -, -, -⟩ := id zi
  have I12 := hide zi
  have N12 : Hid (At w12 gr 1 vi) := z1
  have D12 : Hid (At w12 gn 0 (.int .i64 2)) := y0
  have E12 : Hid (At w12 gn 1 (.int .i64 7)) := y1
  clear hV V12 j1 j2 j3 j4 j5 zi z0 z1 y0 y1
  subst hvr hvs hvn hvi
  subst hvv
  clear P12 X12
  have HB13 := hide (below_step HB12.out (Below.plus (Below.refl _ w12) (.cells #[.slice (some ⟨gr, 0, none⟩) 1 cr, .slice ae ps.length ce, .slice (some ⟨gn, 0, none⟩) 1 cn] 40)))
  have F13 := hide (F12.out.below (Below.plus (Below.refl _ w12) (.cells #[.slice (some ⟨gr, 0, none⟩) 1 cr, .slice ae ps.length ce, .slice (some ⟨gn, 0, none⟩) 1 cn] 40)) (Nat.le_refl _))
  have I13 := hide (I12.out.below (Below.plus (Below.refl _ w12) (.cells #[.slice (some ⟨gr, 0, none⟩) 1 cr, .slice ae ps.length ce, .slice (some ⟨gn, 0, none⟩) 1 cn] 40)) (Nat.le_refl _))
  have N13 := hide (N12.out.below (Below.plus (Below.refl _ w12) (.cells #[.slice (some ⟨gr, 0, none⟩) 1 cr, .slice ae ps.length ce, .slice (some ⟨gn, 0, none⟩) 1 cn] 40)) (Nat.le_refl _))
  have D13 := hide (D12.out.below (Below.plus (Below.refl _ w12) (.cells #[.slice (some ⟨gr, 0, none⟩) 1 cr, .slice ae ps.length ce, .slice (some ⟨gn, 0, none⟩) 1 cn] 40)) (Nat.le_refl _))
  have E13 := hide (E12.out.below (Below.plus (Below.refl _ w12) (.cells #[.slice (some ⟨gr, 0, none⟩) 1 cr, .slice ae ps.length ce, .slice (some ⟨gn, 0, none⟩) 1 cn] 40)) (Nat.le_refl _))
  have Y13 := hide (Box.new w12 [.slice (some ⟨gr, 0, none⟩) 1 cr, .slice ae ps.length ce, .slice (some ⟨gn, 0, none⟩) 1 cn] 40)
  clear HB12 F12 I12 N12 D12 E12
  have HB14 := hide (below_step HB13.out (Below.plus (Below.refl _ (w12.alloc (.cells #[.slice (some ⟨gr, 0, none⟩) 1 cr, .slice ae ps.length ce, .slice (some ⟨gn, 0, none⟩) 1 cn] 40))) (.cells #[.int .i64 0, .int .i64 0] 31)))
  have F14 := hide (F13.out.below (Below.plus (Below.refl _ (w12.alloc (.cells #[.slice (some ⟨gr, 0, none⟩) 1 cr, .slice ae ps.length ce, .slice (some ⟨gn, 0, none⟩) 1 cn] 40))) (.cells #[.int .i64 0, .int .i64 0] 31)) (Nat.le_refl _))
  have I14 := hide (I13.out.below (Below.plus (Below.refl _ (w12.alloc (.cells #[.slice (some ⟨gr, 0, none⟩) 1 cr, .slice ae ps.length ce, .slice (some ⟨gn, 0, none⟩) 1 cn] 40))) (.cells #[.int .i64 0, .int .i64 0] 31)) (Nat.le_refl _))
  have N14 := hide (N13.out.below (Below.plus (Below.refl _ (w12.alloc (.cells #[.slice (some ⟨gr, 0, none⟩) 1 cr, .slice ae ps.length ce, .slice (some ⟨gn, 0, none⟩) 1 cn] 40))) (.cells #[.int .i64 0, .int .i64 0] 31)) (Nat.le_refl _))
  have D14 := hide (D13.out.below (Below.plus (Below.refl _ (w12.alloc (.cells #[.slice (some ⟨gr, 0, none⟩) 1 cr, .slice ae ps.length ce, .slice (some ⟨gn, 0, none⟩) 1 cn] 40))) (.cells #[.int .i64 0, .int .i64 0] 31)) (Nat.le_refl _))
  have E14 := hide (E13.out.below (Below.plus (Below.refl _ (w12.alloc (.cells #[.slice (some ⟨gr, 0, none⟩) 1 cr, .slice ae ps.length ce, .slice (some ⟨gn, 0, none⟩) 1 cn] 40))) (.cells #[.int .i64 0, .int .i64 0] 31)) (Nat.le_refl _))
  have Y14 := hide (Y13.out.below (Below.plus (Below.refl _ (w12.alloc (.cells #[.slice (some ⟨gr, 0, none⟩) 1 cr, .slice ae ps.length ce, .slice (some ⟨gn, 0, none⟩) 1 cn] 40))) (.cells #[.int .i64 0, .int .i64 0] 31)) (Nat.le_refl _))
  have G14 := hide (Box.new (w12.alloc (.cells #[.slice (some ⟨gr, 0, none⟩) 1 cr, .slice ae ps.length ce, .slice (some ⟨gn, 0, none⟩) 1 cn] 40)) [.int .i64 0, .int .i64 0] 31)
  clear HB13 F13 I13 N13 D13 E13 Y13
  simp only [World.size_alloc] at G14
  have cY0 := Y14.out.get 0 rfl
  have cY1 := Y14.out.get 1 rfl
  have cY2 := Y14.out.get 2 rfl
  have cF0 := F14.out.get 0 rfl
  have cF1 := F14.out.get 1 rfl
  have cG0 := G14.out.get 0 rfl
  have cG1 := G14.out.get 1 rfl
  have cN := N14.out
  have cD := D14.out
  have cE := E14.out
  unfold At at cN cD cE
  have HB15 := hide (below_step HB14.out (Below.plus (Below.refl _ ((w12.alloc (.cells #[.slice (some ⟨gr, 0, none⟩) 1 cr, .slice ae ps.length ce, .slice (some ⟨gn, 0, none⟩) 1 cn] 40)).alloc (.cells #[.int .i64 0, .int .i64 0] 31))) (.cells #[.int .i64 5, .int .i64 6] 3)))
  have F15 := hide (F14.out.below (Below.plus (Below.refl _ ((w12.alloc (.cells #[.slice (some ⟨gr, 0, none⟩) 1 cr, .slice ae ps.length ce, .slice (some ⟨gn, 0, none⟩) 1 cn] 40)).alloc (.cells #[.int .i64 0, .int .i64 0] 31))) (.cells #[.int .i64 5, .int .i64 6] 3)) (Nat.le_refl _))
  have I15 := hide (I14.out.below (Below.plus (Below.refl _ ((w12.alloc (.cells #[.slice (some ⟨gr, 0, none⟩) 1 cr, .slice ae ps.length ce, .slice (some ⟨gn, 0, none⟩) 1 cn] 40)).alloc (.cells #[.int .i64 0, .int .i64 0] 31))) (.cells #[.int .i64 5, .int .i64 6] 3)) (Nat.le_refl _))
  have N15 := hide (N14.out.below (Below.plus (Below.refl _ ((w12.alloc (.cells #[.slice (some ⟨gr, 0, none⟩) 1 cr, .slice ae ps.length ce, .slice (some ⟨gn, 0, none⟩) 1 cn] 40)).alloc (.cells #[.int .i64 0, .int .i64 0] 31))) (.cells #[.int .i64 5, .int .i64 6] 3)) (Nat.le_refl _))
  have D15 := hide (D14.out.below (Below.plus (Below.refl _ ((w12.alloc (.cells #[.slice (some ⟨gr, 0, none⟩) 1 cr, .slice ae ps.length ce, .slice (some ⟨gn, 0, none⟩) 1 cn] 40)).alloc (.cells #[.int .i64 0, .int .i64 0] 31))) (.cells #[.int .i64 5, .int .i64 6] 3)) (Nat.le_refl _))
  have E15 := hide (E14.out.below (Below.plus (Below.refl _ ((w12.alloc (.cells #[.slice (some ⟨gr, 0, none⟩) 1 cr, .slice ae ps.length ce, .slice (some ⟨gn, 0, none⟩) 1 cn] 40)).alloc (.cells #[.int .i64 0, .int .i64 0] 31))) (.cells #[.int .i64 5, .int .i64 6] 3)) (Nat.le_refl _))
  have Y15 := hide (Y14.out.below (Below.plus (Below.refl _ ((w12.alloc (.cells #[.slice (some ⟨gr, 0, none⟩) 1 cr, .slice ae ps.length ce, .slice (some ⟨gn, 0, none⟩) 1 cn] 40)).alloc (.cells #[.int .i64 0, .int .i64 0] 31))) (.cells #[.int .i64 5, .int .i64 6] 3)) (Nat.le_refl _))
  have G15 := hide (G14.out.below (Below.plus (Below.refl _ ((w12.alloc (.cells #[.slice (some ⟨gr, 0, none⟩) 1 cr, .slice ae ps.length ce, .slice (some ⟨gn, 0, none⟩) 1 cn] 40)).alloc (.cells #[.int .i64 0, .int .i64 0] 31))) (.cells #[.int .i64 5, .int .i64 6] 3)) (Nat.le_refl _))
  have J15 := hide (row_two ((w12.alloc (.cells #[.slice (some ⟨gr, 0, none⟩) 1 cr, .slice ae ps.length ce, .slice (some ⟨gn, 0, none⟩) 1 cn] 40)).alloc (.cells #[.int .i64 0, .int .i64 0] 31)) 5 6)
  simp only [World.size_alloc] at J15
  clear HB14 F14 I14 N14 D14 E14 Y14 G14
  go_wp2_with fail
  refine (same_yes _ _ [5, 6] _ I15.out J15.out).mono ?_
  rintro e w16 ⟨rfl, hb⟩
  have HB16 := hide (below_step HB15.out hb)
  have F16 := hide (F15.out.below hb (Nat.le_refl _))
  have I16 := hide (I15.out.below hb (Nat.le_refl _))
  have N16 := hide (N15.out.below hb (Nat.le_refl _))
  have D16 := hide (D15.out.below hb (Nat.le_refl _))
  have E16 := hide (E15.out.below hb (Nat.le_refl _))
  have Y16 := hide (Y15.out.below hb (Nat.le_refl _))
  have G16 := hide (G15.out.below hb (Nat.le_refl _))
  have J16 := hide (J15.out.below hb (Nat.le_refl _))
  clear HB15 hb F15 I15 N15 D15 E15 Y15 G15 J15
  clear cN cD cE cF0 cF1 cG0 cG1 cY0 cY1 cY2
  have cY0 := Y16.out.get 0 rfl
  have cY1 := Y16.out.get 1 rfl
  have cY2 := Y16.out.get 2 rfl
  have cN := N16.out
  have cD := D16.out
  have cE := E16.out
  unfold At at cN cD cE
  go_wp2_with fail
  go_ret
  exact ⟨rfl, HB16.out⟩
end Go.Proofs.Ytkhhifkihpfdhaa
