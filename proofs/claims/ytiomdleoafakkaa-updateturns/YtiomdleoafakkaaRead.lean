/- update.read takes bytes as an update. -/
import Derived.Test.YtiomdleoafakkaaBytes
import Derived.Deep.RegionHeld3
import Derived.Deep.DeepCutAuto
import Derived.Deep.OwnRows
namespace Go.Proofs.Ytiomdleoafakkaa
open Go.RowKit

/-- The entry that stands at place i. -/
def entB (bs : List Int) (i : Nat) : Int := 256 * bs.getD (6 + 2 * i) 0 + bs.getD (6 + 2 * i + 1) 0
/-- The update that the bytes tell, among n authors. -/
def readU (bs : List Int) (n : Nat) : Upd := ⟨bs.getD 1 0, (List.range n).map (entB bs), bs.getD 2 0, bs.getD 3 0, 256 * bs.getD 4 0 + bs.getD (4 + 1) 0 - 1000⟩

/-- Below, for the walk: each step by a rule of its own. -/
def Grew (w w' : World) : Prop := Below w.heap.size w w'
theorem grew_refl (w : World) : Grew w w := Below.refl _ _
theorem grew_alloc {w w1 : World} (o : Obj) (h : Grew w w1) : Grew w (w1.alloc o) := Below.plus h o
theorem grew_drew {w w1 : World} (h : Grew w w1) : Grew w w1.drew := Below.drew h
theorem grew_drewN {w w1 : World} (n : Nat) (h : Grew w w1) : Grew w (w1.drewN n) := below_drewN h n

theorem grew_set2 {w w1 : World} (i : Nat) (v : Value) (h : Grew w w1) : Grew w (w1.setCell ⟨w.heap.size + 1 + 1, i, none⟩ v) := Below.setCell h (by show w.heap.size ≤ w.heap.size + 1 + 1; omega) v
theorem alloc_drewN (w : World) (k : Nat) (o : Obj) : (w.drewN k).alloc o = (w.alloc o).drewN k := rfl
theorem setCell_drewN (w : World) (k : Nat) (a : Addr) (v : Value) : (w.drewN k).setCell a v = (w.setCell a v).drewN k := rfl

theorem Box.plus {w : World} {g : Nat} {cs : List Value} {t : TypeId} (h : Box w g cs t) (o : Obj) : Box (w.alloc o) g cs t := h.below (Below.plus (Below.refl w.heap.size w) o) (Nat.le_refl _)
theorem Box.draw {w : World} {g : Nat} {cs : List Value} {t : TypeId} (h : Box w g cs t) (k : Nat) : Box (w.drewN k) g cs t := h
theorem Box.away {w : World} {g g' i : Nat} {cs : List Value} {t : TypeId} {v : Value} (h : Box w g cs t) (hne : g ≠ g') : Box (w.setCell ⟨g', i, none⟩ v) g cs t := by
  unfold Box at h ⊢
  rw [Below.heap_setCell _ _ _ _ hne]; exact h

/-- An update's cells as they stand when nothing is laid into them. -/
abbrev zeroCells : List Value := [.int .i64 0, .slice none 0 0, .int .i64 0, .int .i64 0, .int .i64 0]
/-- Behind the first statement of 'read': the variable, its Seen, the result. -/
def RdRel (w : World) (n : Nat) (x1 x2 x3 x4 : Int) (u : Value) (wx : World) : Prop :=
  ∃ gU gS, u = .pointer (some ⟨gU, 0, none⟩) ∧ gU ≠ gS ∧ w.heap.size < gU ∧ w.heap.size < gS ∧
    Box wx gU [.int .i64 x1, .slice (some ⟨gS, 0, none⟩) n n, .int .i64 x2, .int .i64 x3, .int .i64 (x4 - 1000)] 38 ∧
    Box wx gS ((List.replicate n (0 : Int)).map (Value.int .i64)) 3 ∧ Box wx w.heap.size zeroCells 38 ∧ Below w.heap.size w wx

theorem box_made (w : World) (n : Nat) : Box (w.alloc (.cells (madeCells #[.int .i64 0] n) 3)) w.heap.size ((List.replicate n (0 : Int)).map (Value.int .i64)) 3 := by
  have e : madeCells #[Value.int IntKind.i64 0] n = ((List.replicate n (0 : Int)).map (Value.int .i64)).toArray := by
    rw [← made_ints' n]
  rw [e]; exact Box.new w _ _
theorem rd1 (w : World) (n k : Nat) (x1 x2 x3 x4 : Int) :
    RdRel w n x1 x2 x3 x4 (.pointer (some ⟨w.heap.size + 1 + 1, 0, none⟩)) ((((w.alloc (.cells #[.int .i64 0, .slice none 0 0, .int .i64 0, .int .i64 0, .int .i64 0] 38)).alloc (.cells (madeCells #[.int .i64 0] n) 3)).alloc
      (.cells #[.int .i64 x1, .slice (some ⟨w.heap.size + 1, 0, none⟩) n n, .int .i64 x2, .int .i64 x3, .int .i64 (x4 - 1000)] 38)).drewN k) := by
  refine ⟨w.heap.size + 1 + 1, w.heap.size + 1, rfl, by omega, by omega, by omega, Box.draw ?_ _, Box.draw (Box.plus ?_ _) _, Box.draw (Box.plus (Box.plus ?_ _) _) _, below_drewN (Below.plus (Below.plus (Below.plus (Below.refl _ _) _) _) _) _⟩
  · have := Box.new ((w.alloc (.cells #[.int .i64 0, .slice none 0 0, .int .i64 0, .int .i64 0, .int .i64 0] 38)).alloc (.cells (madeCells #[.int .i64 0] n) 3)) [.int .i64 x1, .slice (some ⟨w.heap.size + 1, 0, none⟩) n n, .int .i64 x2, .int .i64 x3, .int .i64 (x4 - 1000)] 38
    simpa using this
  · have := box_made (w.alloc (.cells #[.int .i64 0, .slice none 0 0, .int .i64 0, .int .i64 0, .int .i64 0] 38)) n
    simpa using this
  · exact Box.new w zeroCells _
theorem rd2 (w : World) (n k : Nat) (x1 x2 x3 x4 : Int) :
    RdRel w n x1 x2 x3 x4 (.pointer (some ⟨w.heap.size + 1, 0, none⟩)) ((((w.alloc (.cells #[.int .i64 0, .slice none 0 0, .int .i64 0, .int .i64 0, .int .i64 0] 38)).alloc
      (.cells #[.int .i64 x1, .slice (some ⟨w.heap.size + 1 + 1, 0, none⟩) n n, .int .i64 x2, .int .i64 x3, .int .i64 (x4 - 1000)] 38)).alloc (.cells (madeCells #[.int .i64 0] n) 3)).drewN k) := by
  refine ⟨w.heap.size + 1, w.heap.size + 1 + 1, rfl, by omega, by omega, by omega, Box.draw (Box.plus ?_ _) _, Box.draw ?_ _, Box.draw (Box.plus (Box.plus ?_ _) _) _, below_drewN (Below.plus (Below.plus (Below.plus (Below.refl _ _) _) _) _) _⟩
  · have := Box.new (w.alloc (.cells #[.int .i64 0, .slice none 0 0, .int .i64 0, .int .i64 0, .int .i64 0] 38)) [.int .i64 x1, .slice (some ⟨w.heap.size + 1 + 1, 0, none⟩) n n, .int .i64 x2, .int .i64 x3, .int .i64 (x4 - 1000)] 38
    simpa using this
  · have := box_made ((w.alloc (.cells #[.int .i64 0, .slice none 0 0, .int .i64 0, .int .i64 0, .int .i64 0] 38)).alloc (.cells #[.int .i64 x1, .slice (some ⟨w.heap.size + 1 + 1, 0, none⟩) n n, .int .i64 x2, .int .i64 x3, .int .i64 (x4 - 1000)] 38)) n
    simpa using this
  · exact Box.new w zeroCells _

theorem Try.sizeUpd : (Try.prog.info? 38).map (·.size) = some 5 := by kernel_rfl
theorem row_box {w : World} {g : Nat} {xs : List Int} {t : TypeId} {n : Nat} (h : Box w g (xs.map (Value.int .i64)) t) (hn : xs.length = n) (hm : n ≤ 1000) : Row w (.slice (some ⟨g, 0, none⟩) n n) xs :=
  ⟨_, n, by rw [hn], by omega, by unfold maxLen; omega, fun i hi => ⟨g, 0, rfl, by rw [Nat.zero_add]; exact h.get i (by rw [List.getElem?_map, List.getElem?_eq_getElem hi, getD_at hi]; rfl)⟩⟩

theorem RowB.at {w : World} {a : Option Addr} {l c : Nat} {bs : List Int} (h : RowB w (.slice a l c) bs) (hb : 0 < bs.length) : ∃ b off, a = some ⟨b, off, none⟩ ∧ (∀ i, i < bs.length → w.cell? ⟨b, off + i, none⟩ = some (.int .u8 (bs.getD i 0))) ∧ b < w.heap.size := by
  obtain ⟨a', c', h1, h2, h3, h0, h4⟩ := h
  simp only [Value.slice.injEq] at h1
  obtain ⟨rfl, rfl, rfl⟩ := h1
  obtain ⟨b, off, rfl, h6⟩ := h4 0 hb
  refine ⟨b, off, rfl, fun i hi => ?_, World.block_lt_of_cell? w _ h6⟩
  obtain ⟨b', off', h7, h8⟩ := h4 i hi
  simp only [Option.some.injEq, Addr.mk.injEq, and_true] at h7
  obtain ⟨rfl, rfl⟩ := h7
  exact h8
theorem RowB.bound {w : World} {v : Value} {bs : List Int} (h : RowB w v bs) {i : Nat} (hi : i < bs.length) : 0 ≤ bs.getD i 0 ∧ bs.getD i 0 ≤ 255 := by
  obtain ⟨a, cap, -, -, -, h0, -⟩ := h
  exact h0 _ (by rw [getD_at hi]; exact List.getElem_mem _)

set_option maxRecDepth 100000 in
set_option maxHeartbeats 2000000 in
theorem read_fn (v : Value) (bs : List Int) (n : Nat) (w : World) (h : RowB w v bs) (hn : bs.length = 6 + 2 * n) (hn2 : n ≤ 255) :
    Calls Try.prog 63 #[v, .int .i64 n] w fun e w' => ∃ gS, e = .returned (.agg #[.int .i64 (readU bs n).author, .slice (some ⟨gS, 0, none⟩) n n, .int .i64 (readU bs n).kind, .int .i64 (readU bs n).key, .int .i64 (readU bs n).item]) ∧ w.heap.size ≤ gS ∧ Box w' gS ((readU bs n).seen.map (Value.int .i64)) 3 ∧ Below w.heap.size w w' := by
  obtain ⟨U, HUU⟩ : ∃ U, Hid (readU bs n = U) := ⟨_, rfl⟩
  rw [HUU.out]
  have HR : Hid (∀ w', Below w.heap.size w w' → RowB w' v bs) := fun w' hb => h.below hb (Nat.le_refl _)
  have HRP : Hid (∀ w', Below w.heap.size w w' → ∀ p : Nat, p + 1 < bs.length → Calls Try.prog 101 #[v, .int .i64 p] w' fun e w'' => e = .returned (.int .i64 (256 * bs.getD p 0 + bs.getD (p + 1) 0)) ∧ ∃ k, w'' = w'.drewN k) :=
    fun w' hb p hp => readPair_fn v bs p w' (h.below hb (Nat.le_refl _)) hp
  have b1 := h.bound (i := 1) (by omega)
  have b2 := h.bound (i := 2) (by omega)
  have b3 := h.bound (i := 3) (by omega)
  have b4 := h.bound (i := 4) (by omega)
  have b5 := h.bound (i := 4 + 1) (by omega)
  obtain ⟨a, cap, rfl, -, -, -, -⟩ := id h
  obtain ⟨b, off, rfl, hc, hbw⟩ := h.at (by omega)
  have c1 := hc 1 (by omega)
  have c2 := hc 2 (by omega)
  have c3 := hc 3 (by omega)
  obtain ⟨x1, HX1⟩ : ∃ y, Hid (bs.getD 1 0 = y) := ⟨_, rfl⟩
  obtain ⟨x2, HX2⟩ : ∃ y, Hid (bs.getD 2 0 = y) := ⟨_, rfl⟩
  obtain ⟨x3, HX3⟩ : ∃ y, Hid (bs.getD 3 0 = y) := ⟨_, rfl⟩
  obtain ⟨x4, HX4⟩ : ∃ y, Hid (256 * bs.getD 4 0 + bs.getD (4 + 1) 0 = y) := ⟨_, rfl⟩
  have b4' : 0 ≤ x4 ∧ x4 ≤ 65535 := by rw [← HX4.out]; omega
  rw [HX1.out] at c1 b1
  rw [HX2.out] at c2 b2
  rw [HX3.out] at c3 b3
  have HRP4 : Hid (∀ w', Grew w w' → Calls Try.prog 101 #[.slice (some ⟨b, off, none⟩) bs.length cap, .int .i64 4] w' fun e w'' => e = .returned (.int .i64 x4) ∧ ∃ k, w'' = w'.drewN k) := by
    intro w' hb
    have := HRP.out w' hb 4 (by omega)
    rw [HX4.out] at this
    exact this
  clear h b4 b5 hc
  have hmk : ∀ (w : World), (Instr.makeSlice 23 (.int .i64 (n : Int)) (.int .i64 (n : Int))).run Try.prog w = .ok (.slice (some ⟨w.heap.size, 0, none⟩) n n) (w.alloc (.cells (madeCells #[.int .i64 0] n) 3)) :=
    run_make_row' 23 3 (.int .i64 0) 8 Try.underlying23 Try.infoInt rfl .i64 .i64 n (by omega) (by omega)
  obtain ⟨L, HL⟩ : ∃ L, Hid (bs.length = L) := ⟨_, rfl⟩
  rw [HL.out] at HR HRP HRP4 hn ⊢
  have hl1 : (1 : Int) < (L : Int) := by omega
  have hl2 : (2 : Int) < (L : Int) := by omega
  have hl3 : (3 : Int) < (L : Int) := by omega
  have HN := hide hn
  clear hn
  obtain ⟨b1, b1'⟩ := b1
  obtain ⟨b2, b2'⟩ := b2
  obtain ⟨b3, b3'⟩ := b3
  obtain ⟨b4, b4'⟩ := b4'
  have HK : Hid (∀ w', Grew w w' → w'.cell? ⟨b, off + 1, none⟩ = some (.int .u8 x1) ∧ w'.cell? ⟨b, off + 2, none⟩ = some (.int .u8 x2) ∧ w'.cell? ⟨b, off + 3, none⟩ = some (.int .u8 x3)) :=
    fun w' (hb : Below w.heap.size w w') => ⟨(hb.cell hbw).trans c1, (hb.cell hbw).trans c2, (hb.cell hbw).trans c3⟩
  have hda := alloc_drewN
  have hds := setCell_drewN
  have hw1 : IntKind.i64.wrap x1 = x1 := by simp [IntKind.wrap, IntKind.bits, IntKind.signed]; omega
  have hw2 : IntKind.i64.wrap x2 = x2 := by simp [IntKind.wrap, IntKind.bits, IntKind.signed]; omega
  have hw3 : IntKind.i64.wrap x3 = x3 := by simp [IntKind.wrap, IntKind.bits, IntKind.signed]; omega
  have hw4 : IntKind.i64.wrap (x4 - 1000) = x4 - 1000 := by simp [IntKind.wrap, IntKind.bits, IntKind.signed]; omega
  go_enter Try.func63, Try.ntmps63
  go_upto_region 1 with fail
  go_cut [5] (fun u wx => Hid (RdRel w n x1 x2 x3 x4 u wx))
  case first =>
    go_region_held3 (fun w' => w'.cell? ⟨b, off + 1, none⟩ = some (.int .u8 x1) ∧ w'.cell? ⟨b, off + 2, none⟩ = some (.int .u8 x2) ∧ w'.cell? ⟨b, off + 3, none⟩ = some (.int .u8 x3)) ((refine HK.out _ ?_; simp (maxDischargeDepth := 30) only [grew_refl, grew_alloc, grew_drew, grew_drewN]))
      (first
        | (go_at_call 101; refine (HRP4.out _ ?_).mono ?_; (simp (maxDischargeDepth := 30) only [grew_refl, grew_alloc, grew_drew]); rintro e w' ⟨rfl, k, rfl⟩))
    all_goals (go_wp2_with fail; go_meet; first | exact rd1 _ _ _ _ _ _ _ | exact rd2 _ _ _ _ _ _ _)
  case rest =>
    obtain ⟨gU, gS, rfl, hne, hU, hS, hbU, hbS, hb0, hbel⟩ := hcut
    clear c1 c2 c3 HK hmk hw1 hw2 hw3 hw4 b1 b1' b2 b2' b3 b3' b4 b4' hl1 hl2 hl3 HRP4 HR
    rw [← part_zero (entB bs)] at hbS
    have d1 := hbU.get 1 rfl
    have HBU := hide hbU
    have HBS := hide hbS
    have HB0 := hide hb0
    have HBEL := hide hbel
    have HU := hide hU
    have HS := hide hS
    have HNE := hide hne
    clear hbU hbS hb0 hbel hU hS hne
    go_wp2_with fail
    go_loopw [28] (fun i wr => ∃ k : Nat, k ≤ n ∧ i = .int .i64 k ∧ Hid (Box wr gU [.int .i64 x1, .slice (some ⟨gS, 0, none⟩) n n, .int .i64 x2, .int .i64 x3, .int .i64 (x4 - 1000)] 38) ∧ Hid (Box wr gS ((part (entB bs) n k).map (Value.int .i64)) 3) ∧ Hid (Box wr w.heap.size zeroCells 38) ∧ Hid (Below w.heap.size w wr)) (fun i _ => n - (intOf i).toNat)
    case atStart => exact ⟨0, Nat.zero_le _, rfl, HBU, HBS, HB0, HBEL⟩
    case round =>
      obtain ⟨k, hk, rfl, HBU', HBS', HB0', HBEL'⟩ := hrel
      clear HBU HBS HB0 HBEL d1
      by_cases hlt : k < n
      · have hlt' : (k : Int) < (n : Int) := by omega
        have hk0 : (0 : Int) ≤ (k : Int) := by omega
        have d1 := HBU'.out.get 1 rfl
        obtain ⟨y, HY⟩ : ∃ y, Hid (entB bs k = y) := ⟨_, rfl⟩
        have HRPk : Hid (∀ w', Grew w w' → Calls Try.prog 101 #[.slice (some ⟨b, off, none⟩) L cap, .int .i64 (6 + 2 * (k : Int))] w' fun e w'' => e = .returned (.int .i64 y) ∧ ∃ k, w'' = w'.drewN k) := by
          intro w' hb
          have := HRP.out w' hb (6 + 2 * k) (by have := HN.out; omega)
          rw [show ((6 + 2 * k : Nat) : Int) = 6 + 2 * (k : Int) by omega] at this
          rw [← HY.out]
          exact this
        have HE : Hid (∀ w', Calls Try.prog 62 #[.int .i64 (k : Int)] w' fun e w'' => e = .returned (.int .i64 (6 + 2 * (k : Int))) ∧ w'' = w') := by
          intro w'
          have := entryAt_fn k (6 + 2 * k) w' (by omega) (by omega) (by omega)
          rw [show ((6 + 2 * k : Nat) : Int) = 6 + 2 * (k : Int) by omega] at this
          exact this
        have hgr : Grew w wr := HBEL'.out
        have ce : ∃ q, wr.cell? ⟨gS, k, none⟩ = some q := ⟨_, HBS'.out.get k (by rw [List.getElem?_map, List.getElem?_eq_getElem (by rw [part_length]; omega)]; rfl)⟩
        obtain ⟨q, cq⟩ := ce
        have cf : wr.frozen? ⟨gS, k, none⟩ = false := HBS'.out.free k
        have HGR := hide hgr
        have hn1 : ¬ gU = gS := HNE.out
        have hn2 : ¬ gS = gU := fun e => HNE.out e.symm
        clear hgr
        go_wp2_with fail
        go_region_held3 (fun w' => w'.cell? ⟨gU, 1, none⟩ = some (.slice (some ⟨gS, 0, none⟩) n n)) (go_keep)
          (first
            | (go_at_call 62; refine (HE.out _).mono ?_; rintro e w' ⟨rfl, rfl⟩)
            | (go_at_call 101; refine (HRPk.out _ ?_).mono ?_; (simp (maxDischargeDepth := 30) only [HGR.out, grew_drew]); rintro e w' ⟨rfl, kk, rfl⟩))
        clear hn1 hn2 cf cq d1
        go_wp2_with fail
        go_roundw
        case rel =>
          refine ⟨k + 1, by omega, by go_num, hide (Box.draw (HBU'.out.away HNE.out) _), hide (Box.draw ?_ _), hide (Box.draw (HB0'.out.away (by have := HS.out; omega)) _), hide (below_drewN (HBEL'.out.setCell (by have := HS.out; show w.heap.size ≤ gS; omega) _) _)⟩
          have := HBS'.out.set k (.int .i64 y)
          rw [← List.map_set, ← HY.out, part_set] at this
          rw [← HY.out]
          exact this
        case measure => simp [intOf]; omega
      · have hlt' : ¬ (k : Int) < (n : Int) := by omega
        obtain rfl : k = n := by omega
        have d0 := HBU'.out.get 0 rfl
        have d1 := HBU'.out.get 1 rfl
        have d2 := HBU'.out.get 2 rfl
        have d3 := HBU'.out.get 3 rfl
        have d4 := HBU'.out.get 4 rfl
        have e0 := HB0'.out.get 0 rfl
        have e1 := HB0'.out.get 1 rfl
        have e2 := HB0'.out.get 2 rfl
        have e3 := HB0'.out.get 3 rfl
        have e4 := HB0'.out.get 4 rfl
        have f0 := HB0'.out.free 0
        have f1 := HB0'.out.free 1
        have f2 := HB0'.out.free 2
        have f3 := HB0'.out.free 3
        have f4 := HB0'.out.free 4
        go_wp2_with fail
        have hX := ((((HB0'.out.set 0 (.int .i64 x1)).set 1 (.slice (some ⟨gS, 0, none⟩) k k)).set 2 (.int .i64 x2)).set 3 (.int .i64 x3)).set 4 (.int .i64 (x4 - 1000))
        have hS0 := ((((HBS'.out.away (g' := w.heap.size) (i := 0) (v := .int .i64 x1) (by have := HS.out; omega)).away (g' := w.heap.size) (i := 1) (v := .slice (some ⟨gS, 0, none⟩) k k) (by have := HS.out; omega)).away (g' := w.heap.size) (i := 2) (v := .int .i64 x2) (by have := HS.out; omega)).away (g' := w.heap.size) (i := 3) (v := .int .i64 x3) (by have := HS.out; omega)).away (g' := w.heap.size) (i := 4) (v := .int .i64 (x4 - 1000)) (by have := HS.out; omega)
        refine bodyPost_ret (results_cell_row rfl _ _ w.heap.size 38 _ (0, 0) _ rfl hX Try.underlying38 rfl Try.sizeUpd) rfl ⟨gS, ?_, ?_, ?_, ?_⟩
        · rw [← HUU.out]; simp only [readU, HX1.out, HX2.out, HX3.out, HX4.out]; rfl
        · exact Nat.le_of_lt HS.out
        · rw [part_full] at hS0
          rw [← HUU.out]; exact hS0
        · exact ((((HBEL'.out.setCell (Nat.le_refl _) _).setCell (Nat.le_refl _) _).setCell (Nat.le_refl _) _).setCell (Nat.le_refl _) _).setCell (Nat.le_refl _) _
end Go.Proofs.Ytiomdleoafakkaa
