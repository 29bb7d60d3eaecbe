/- state.Read: what is in a state. -/
import Derived.Test.YtalglngjafkdjaaStT
import Derived.Test.YtalglngjafkdjaaStL
namespace Go.Proofs.Ytalglngjafkdjaa
open Go.RowKit

/-- What is read. -/
structure Vw where
  regs : List (Int × List Int)
  sets : List (Int × List Int)
  cnts : List (Int × Int)
def ViewO (w : World) (B : Nat) (v : Value) (x : Vw) : Prop :=
  ∃ rv sv cv pr ps, v = .agg #[rv, sv, cv] ∧ CellO w B rv pr ∧ pr.map (·.1) = x.regs ∧ CellO w B sv ps ∧ ps.map (·.1) = x.sets ∧ w.ownsRow B 82 2 cv x.cnts.length (cellsS encC x.cnts)
theorem CellO.base {w : World} {B C : Nat} {v : Value} {ps : List ((Int × List Int) × Value)} (h : CellO w B v ps) (hB : C ≤ B) : CellO w C v ps := ⟨ownsRow_base h.row hB, fun p hp => ⟨(h.items p hp).1.mono hB, (h.items p hp).2⟩, h.apart⟩
theorem CellO.away {w : World} {B : Nat} {v : Value} {ps : List ((Int × List Int) × Value)} (h : CellO w B v ps) {g : Nat} (hg : g < B) (i : Nat) (x : Value) : CellO (w.setCell ⟨g, i, none⟩ x) B v ps :=
  ⟨ownsRow_setCell_below h.row hg x, fun p hp => ⟨(h.items p hp).1.away hg i x, (h.items p hp).2⟩, h.apart⟩
theorem ViewO.below {w w' : World} {B C : Nat} {v : Value} {x : Vw} (h : ViewO w B v x) (hb : Below C w w') (hC : w.heap.size ≤ C) : ViewO w' B v x := by
  obtain ⟨rv, sv, cv, pr, ps, h1, h2, h3, h4, h5, h6⟩ := h
  exact ⟨rv, sv, cv, pr, ps, h1, h2.below hb hC, h3, h4.below hb hC, h5, ownsRow_below h6 hb hC⟩
theorem ViewO.away {w : World} {B : Nat} {v : Value} {x : Vw} (h : ViewO w B v x) {g : Nat} (hg : g < B) (i : Nat) (y : Value) : ViewO (w.setCell ⟨g, i, none⟩ y) B v x := by
  obtain ⟨rv, sv, cv, pr, ps, h1, h2, h3, h4, h5, h6⟩ := h
  exact ⟨rv, sv, cv, pr, ps, h1, h2.away hg i y, h3, h4.away hg i y, h5, ownsRow_setCell_below h6 hg y⟩
theorem CellO.none (w : World) (B : Nat) : CellO w B (.slice none 0 0) [] := ⟨World.ownsRow_nil _ _ _ _, fun p hp => by simp at hp, List.Pairwise.nil⟩
theorem ViewO.none (w : World) (B : Nat) : ViewO w B (.agg #[.slice none 0 0, .slice none 0 0, .slice none 0 0]) ⟨[], [], []⟩ := ⟨_, _, _, [], [], rfl, CellO.none _ _, rfl, CellO.none _ _, rfl, World.ownsRow_nil _ _ _ _⟩
theorem CellO.slice {w : World} {B : Nat} {v : Value} {ps : List ((Int × List Int) × Value)} (h : CellO w B v ps) : ∃ a cap, v = .slice a ps.length cap := by
  obtain ⟨a, cap, h1, -⟩ := slice_of_own encP_length h.row
  exact ⟨a, cap, h1⟩
theorem Try.sizeView : (Try.prog.info? 40).map (·.size) = some 3 := by kernel_rfl
/-- What Read answers. -/
def readX (s : StS) : Vw := if stE s s.clock.length = 0 then ⟨cellsL false s.lives [], cellsL true s.lives [], countL s.tals []⟩ else ⟨[], [], []⟩
def readA (s : StS) : Int := stA s s.clock.length

set_option maxRecDepth 100000 in
set_option maxHeartbeats 2000000 in
theorem read_state (v : Value) (s : StS) (w : World) (h : IsSt w v s) :
    Calls Try.prog 11 #[v] w fun e w' => ∃ rv, e = .returned (.tuple #[rv, .agg #[.int .i64 (stE s s.clock.length), .int .i64 (stA s s.clock.length)]]) ∧ ViewO w' (w.heap.size + 3) rv (readX s) ∧ Below w.heap.size w w' := by
  have hin := h
  obtain ⟨cv, lv, tv, rfl, hc, hv, ht⟩ := h
  obtain ⟨a1, cap1, rfl, -, -, -⟩ := id hc
  obtain ⟨a2, cap2, rfl, -, -, -⟩ := id hv
  obtain ⟨a3, cap3, rfl, -, -, -⟩ := id ht
  have hb3 := Below.plus (Below.plus (Below.plus (Below.refl w.heap.size w) (.cells #[.slice a1 s.clock.length cap1, .slice a2 s.lives.length cap2, .slice a3 s.tals.length cap3] 27)) (.cells #[.slice none 0 0, .slice none 0 0, .slice none 0 0] 40)) (.cells #[.int .i64 0, .int .i64 0] 31)
  have S0 := hide (hin.below hb3 (Nat.le_refl _))
  have L0 := hide (hv.below hb3 (Nat.le_refl _))
  have T0 := hide (ht.below hb3 (Nat.le_refl _))
  have G0 := hide (((Box.new w [.slice a1 s.clock.length cap1, .slice a2 s.lives.length cap2, .slice a3 s.tals.length cap3] 27).plus (.cells #[.slice none 0 0, .slice none 0 0, .slice none 0 0] 40)).plus (.cells #[.int .i64 0, .int .i64 0] 31))
  have R0 := hide ((Box.new (w.alloc (.cells #[.slice a1 s.clock.length cap1, .slice a2 s.lives.length cap2, .slice a3 s.tals.length cap3] 27)) [.slice none 0 0, .slice none 0 0, .slice none 0 0] 40).plus (.cells #[.int .i64 0, .int .i64 0] 31))
  have Z0 := hide (Box.new ((w.alloc (.cells #[.slice a1 s.clock.length cap1, .slice a2 s.lives.length cap2, .slice a3 s.tals.length cap3] 27)).alloc (.cells #[.slice none 0 0, .slice none 0 0, .slice none 0 0] 40)) [.int .i64 0, .int .i64 0] 31)
  rw [World.size_alloc] at R0
  rw [World.size_alloc, World.size_alloc] at Z0
  have HB0 := hide hb3
  clear hin hc hv ht hb3
  obtain ⟨X, HX⟩ : ∃ X, Hid (readX s = X) := ⟨_, rfl⟩
  obtain ⟨r, HR⟩ : ∃ r, Hid (stE s s.clock.length = r) := ⟨_, rfl⟩
  obtain ⟨q, HQ⟩ : ∃ q, Hid (stA s s.clock.length = q) := ⟨_, rfl⟩
  rw [HR.out, HQ.out, HX.out]
  unfold readX at HX
  rw [HR.out] at HX
  by_cases hr : r = 0
  · subst hr
    rw [if_pos rfl] at HX
    have hok := stE_ok.1 HR.out
    have hfew := hok.few
    have HSM := hide hok.sums
    clear hok
    go_enter Try.func11, Try.ntmps11
    have cG0 := G0.out.get 0 rfl
    have cG1 := G0.out.get 1 rfl
    have cG2 := G0.out.get 2 rfl
    go_wp2_with fail
    refine (wrong_state _ s s.clock.length _ S0.out).mono ?_
    rintro e w1 ⟨rfl, hb⟩
    have HB1 := hide (below_step HB0.out hb)
    have S1 := hide (S0.out.below hb (Nat.le_refl _))
    have L1 := hide (L0.out.below hb (Nat.le_refl _))
    have T1 := hide (T0.out.below hb (Nat.le_refl _))
    have G1 := hide (G0.out.below hb (Nat.le_refl _))
    have R1 := hide (R0.out.below hb (Nat.le_refl _))
    have Z1 := hide (Z0.out.below hb (Nat.le_refl _))
    clear HB0 hb S0 L0 T0 G0 R0 Z0
    rw [HR.out, HQ.out]
    clear cG0 cG1 cG2
    have HB2 := hide (below_step HB1.out (Below.plus (Below.refl _ w1) (.cells #[.int .i64 0, .int .i64 q] 31)))
    have S2 := hide (S1.out.below (Below.plus (Below.refl _ w1) (.cells #[.int .i64 0, .int .i64 q] 31)) (Nat.le_refl _))
    have L2 := hide (L1.out.below (Below.plus (Below.refl _ w1) (.cells #[.int .i64 0, .int .i64 q] 31)) (Nat.le_refl _))
    have T2 := hide (T1.out.below (Below.plus (Below.refl _ w1) (.cells #[.int .i64 0, .int .i64 q] 31)) (Nat.le_refl _))
    have G2 := hide (G1.out.below (Below.plus (Below.refl _ w1) (.cells #[.int .i64 0, .int .i64 q] 31)) (Nat.le_refl _))
    have R2 := hide (R1.out.below (Below.plus (Below.refl _ w1) (.cells #[.int .i64 0, .int .i64 q] 31)) (Nat.le_refl _))
    have Z2 := hide (Z1.out.below (Below.plus (Below.refl _ w1) (.cells #[.int .i64 0, .int .i64 q] 31)) (Nat.le_refl _))
    have V2 := hide (Box.new w1 [.int .i64 0, .int .i64 q] 31)
    clear HB1 S1 L1 T1 G1 R1 Z1
    have cV0 := V2.out.get 0 rfl
    have cV1 := V2.out.get 1 rfl
    obtain ⟨WB, HWB⟩ : ∃ WB, Hid (w1.alloc (.cells #[.int .i64 0, .int .i64 q] 31) = WB) := ⟨_, rfl⟩
    have hqq : Hid (q = 0) := by
      have h1 := stE_zero.1 HR.out
      unfold Hid
      rw [← HQ.out]
      unfold stA
      rw [if_neg (by simpa using h1.1), if_neg (by simpa using h1.2.1)]
      have h3 := h1.2.2
      unfold listE at h3
      unfold listA
      rw [if_pos h3]
    go_upto_region 4 with fail
    rw [HWB.out]
    rw [HWB.out] at HB2 L2 T2 G2 R2 Z2
    have hzB : Hid (w.heap.size + 1 + 1 < WB.heap.size) := Z2.out.lt
    have HK : Hid (∀ w', Grew WB w' → w'.cell? ⟨w.heap.size, 1, none⟩ = some (.slice a2 s.lives.length cap2) ∧ w'.cell? ⟨w.heap.size, 2, none⟩ = some (.slice a3 s.tals.length cap3)) := fun w' hg => ⟨(G2.out.below hg (Nat.le_refl _)).get 1 rfl, (G2.out.below hg (Nat.le_refl _)).get 2 rfl⟩
    clear cV0 cV1 V2 S2
    refine wp_region_held_drew (S := fun w' => w'.cell? ⟨w.heap.size, 1, none⟩ = some (.slice a2 s.lives.length cap2) ∧ w'.cell? ⟨w.heap.size, 2, none⟩ = some (.slice a3 s.tals.length cap3)) (by kernel_rfl) (HK.out _ (grew_drew (grew_refl _))) (fun hHeld => ?_)
    refine take_yes 0 15 (.pointer (some ⟨w.heap.size, 1, none⟩)) rfl rfl (by kernel_rfl) (by kernel_rfl) (by kernel_rfl) (fun _ _ _ h => h) rfl (by intro w hSw; (try dsimp only at hSw); go_simp) (by assumption) ?_
    simp only [Act.put, List.setIfInBounds_toArray, List.set_cons_zero, List.set_cons_succ]
    refine take_yes 1 16 (.slice a2 s.lives.length cap2) rfl rfl (by kernel_rfl) (by kernel_rfl) (by kernel_rfl) (fun _ _ _ h => h) rfl (by intro w hSw; (try dsimp only at hSw); go_simp) (by assumption) ?_
    simp only [Act.put, List.setIfInBounds_toArray, List.set_cons_zero, List.set_cons_succ]
    refine take_yes 3 18 (.pointer (some ⟨w.heap.size, 1, none⟩)) rfl rfl (by kernel_rfl) (by kernel_rfl) (by kernel_rfl) (fun _ _ _ h => h) rfl (by intro w hSw; (try dsimp only at hSw); go_simp) (by assumption) ?_
    simp only [Act.put, List.setIfInBounds_toArray, List.set_cons_zero, List.set_cons_succ]
    refine take_yes 4 19 (.slice a2 s.lives.length cap2) rfl rfl (by kernel_rfl) (by kernel_rfl) (by kernel_rfl) (fun _ _ _ h => h) rfl (by intro w hSw; (try dsimp only at hSw); go_simp) (by assumption) ?_
    simp only [Act.put, List.setIfInBounds_toArray, List.set_cons_zero, List.set_cons_succ]
    refine take_yes 6 21 (.pointer (some ⟨w.heap.size, 2, none⟩)) rfl rfl (by kernel_rfl) (by kernel_rfl) (by kernel_rfl) (fun _ _ _ h => h) rfl (by intro w hSw; (try dsimp only at hSw); go_simp) (by assumption) ?_
    simp only [Act.put, List.setIfInBounds_toArray, List.set_cons_zero, List.set_cons_succ]
    refine take_yes 7 22 (.slice a3 s.tals.length cap3) rfl rfl (by kernel_rfl) (by kernel_rfl) (by kernel_rfl) (fun _ _ _ h => h) rfl (by intro w hSw; (try dsimp only at hSw); go_simp) (by assumption) ?_
    simp only [Act.put, List.setIfInBounds_toArray, List.set_cons_zero, List.set_cons_succ]
    refine take_yes 10 25 (.agg #[.int .i64 0, .int .i64 0]) rfl rfl (by kernel_rfl) (by kernel_rfl) (by kernel_rfl) (fun _ _ _ h => h) rfl (by intro w hSw; (try dsimp only at hSw); go_simp) (by assumption) ?_
    simp only [Act.put, List.setIfInBounds_toArray, List.set_cons_zero, List.set_cons_succ]
    refine wpAnyH_ready (rs := [2]) (by kernel_rfl) (by simp) ?_
    refine AllReadyH.cons (o := _) rfl (fun K hK => ?_) AllReadyH.nil
    go_simp
    refine (cells_reg _ s.lives _ (L2.out.below (grew_drew (grew_refl WB)) (Nat.le_refl _)) (by omega)).mono ?_
    rintro e w4 ⟨v4, rfl, p4, hc4, hm4, hb4⟩
    have hgr4 : Grew WB w4 := grew_step (grew_drew (grew_refl WB)) hb4
    obtain ⟨x4, y4, hx4⟩ := hc4.slice
    subst hx4
    refine hK.out _ _ (HK.out _ hgr4) (fun hHeld2 => ?_)
    clear hK K hHeld hb4
    try simp only [Act.put, List.setIfInBounds_toArray, List.set_cons_zero, List.set_cons_succ]
    refine wpAnyH_ready (rs := [5]) (by kernel_rfl) (by simp) ?_
    refine AllReadyH.cons (o := _) rfl (fun K hK => ?_) AllReadyH.nil
    go_simp
    refine (cells_set _ s.lives _ (L2.out.below hgr4 (Nat.le_refl _)) (by omega)).mono ?_
    rintro e w5 ⟨v5, rfl, p5, hc5, hm5, hb5⟩
    have hgr5 : Grew WB w5 := grew_step hgr4 hb5
    have hc4' := hc4.below hb5 (Nat.le_refl _)
    obtain ⟨x5, y5, hx5⟩ := hc5.slice
    subst hx5
    refine hK.out _ _ (HK.out _ hgr5) (fun hHeld3 => ?_)
    clear hK K hHeld2 hb5 hc4
    try simp only [Act.put, List.setIfInBounds_toArray, List.set_cons_zero, List.set_cons_succ]
    refine wpAnyH_ready (rs := [8]) (by kernel_rfl) (by simp) ?_
    refine AllReadyH.cons (o := _) rfl (fun K hK => ?_) AllReadyH.nil
    go_simp
    refine (counters_fn _ s.tals _ (T2.out.below hgr5 (Nat.le_refl _)) (by omega) HSM.out).mono ?_
    rintro e w6 ⟨v6, rfl, hc6, hb6⟩
    have hgr6 : Grew WB w6 := grew_step hgr5 hb6
    have hc4'' := hc4'.below hb6 (Nat.le_refl _)
    have hc5' := hc5.below hb6 (Nat.le_refl _)
    obtain ⟨x6, y6, hx6, -⟩ := slice_of_own encC_length hc6
    subst hx6
    refine hK.out _ _ (HK.out _ hgr6) (fun hHeld4 => ?_)
    clear hK K hHeld3 hb6 hc4' hc5
    try simp only [Act.put, List.setIfInBounds_toArray, List.set_cons_zero, List.set_cons_succ]
    refine take_yes 9 24 (.agg #[.slice x4 p4.length y4, .slice x5 p5.length y5, .slice x6 (countL s.tals []).length y6]) rfl rfl (by kernel_rfl) (by kernel_rfl) (by kernel_rfl) (fun _ _ _ h => h) rfl (by intro w hSw; (try dsimp only at hSw); go_simp) (by assumption) ?_
    simp only [Act.put, List.setIfInBounds_toArray, List.set_cons_zero, List.set_cons_succ]
    have R6 := hide (R2.out.below hgr6 (Nat.le_refl _))
    have Z6 := hide (Z2.out.below hgr6 (Nat.le_refl _))
    have HV : Hid (ViewO w6 (w.heap.size + 3) (.agg #[.slice x4 p4.length y4, .slice x5 p5.length y5, .slice x6 (countL s.tals []).length y6]) X) := by
      have h4 := hgr4.size
      have h5 := hgr5.size
      have := hzB.out
      rw [← HX.out]
      exact ⟨_, _, _, p4, p5, rfl, hc4''.base (by show w.heap.size + 3 ≤ WB.heap.size; omega), hm4, hc5'.base (by omega), hm5, ownsRow_base hc6 (by omega)⟩
    have HB6 := hide (below_step HB2.out hgr6)
    clear hc4'' hc5' hc6 hm4 hm5
    have c0 := R6.out.get 0 rfl
    have c1 := R6.out.get 1 rfl
    have c2 := R6.out.get 2 rfl
    have f0 := R6.out.free 0
    have f1 := R6.out.free 1
    have f2 := R6.out.free 2
    have d0 := Z6.out.get 0 rfl
    have d1 := Z6.out.get 1 rfl
    have g0 := Z6.out.free 0
    have g1 := Z6.out.free 1
    refine wpAnyH_ready (rs := [11]) (by kernel_rfl) (by simp) ?_
    refine AllReadyH.cons (o := _) rfl (fun K hK => ?_) AllReadyH.nil
    go_simp
    have e1 : Hid (w.heap.size ≤ w.heap.size + 1) := Nat.le_succ _
    have hg1 : Grew WB w6 := hgr6
    have hRs := ((R6.out.set 0 (.slice x4 p4.length y4)).set 1 (.slice x5 p5.length y5)).set 2 (.slice x6 (countL s.tals []).length y6)
    have hZs := ((Z6.out.away (g' := w.heap.size + 1) (i := 0) (v := .slice x4 p4.length y4) (by omega)).away (g' := w.heap.size + 1) (i := 1) (v := .slice x5 p5.length y5) (by omega)).away (g' := w.heap.size + 1) (i := 2) (v := .slice x6 (countL s.tals []).length y6) (by omega)
    have hGs := (((G2.out.below hgr6 (Nat.le_refl _)).away (g' := w.heap.size + 1) (i := 0) (v := .slice x4 p4.length y4) (by omega)).away (g' := w.heap.size + 1) (i := 1) (v := .slice x5 p5.length y5) (by omega)).away (g' := w.heap.size + 1) (i := 2) (v := .slice x6 (countL s.tals []).length y6) (by omega)
    have hVs := ((HV.out.away (g := w.heap.size + 1) (by omega) 0 (.slice x4 p4.length y4)).away (g := w.heap.size + 1) (by omega) 1 (.slice x5 p5.length y5)).away (g := w.heap.size + 1) (by omega) 2 (.slice x6 (countL s.tals []).length y6)
    refine hK.out _ _ ⟨hGs.get 1 rfl, hGs.get 2 rfl⟩ (fun hHeld5 => ?_)
    clear hK K hHeld4
    try simp only [Act.put, List.setIfInBounds_toArray, List.set_cons_zero, List.set_cons_succ]
    clear c0 c1 c2 f0 f1 f2 d0 d1 g0 g1
    have d0 := hZs.get 0 rfl
    have d1 := hZs.get 1 rfl
    have g0 := hZs.free 0
    have g1 := hZs.free 1
    refine wpAnyH_ready (rs := [12]) (by kernel_rfl) (by simp) ?_
    refine AllReadyH.cons (o := _) rfl (fun K hK => ?_) AllReadyH.nil
    go_simp
    have hGs2 := (hGs.away (g' := w.heap.size + 1 + 1) (i := 0) (v := .int .i64 0) (by omega)).away (g' := w.heap.size + 1 + 1) (i := 1) (v := .int .i64 0) (by omega)
    refine hK.out _ _ ⟨hGs2.get 1 rfl, hGs2.get 2 rfl⟩ (fun hHeld6 => ?_)
    clear hK K hHeld5
    try simp only [Act.put, List.setIfInBounds_toArray, List.set_cons_zero, List.set_cons_succ]
    refine wpAnyH_done (by kernel_rfl) ?_ _
    go_wp2_with fail
    have hR := (hRs.away (g' := w.heap.size + 1 + 1) (i := 0) (v := .int .i64 0) (by omega)).away (g' := w.heap.size + 1 + 1) (i := 1) (v := .int .i64 0) (by omega)
    have hZ := (hZs.set 0 (.int .i64 0)).set 1 (.int .i64 0)
    have hq0 := hqq.out
    subst hq0
    refine bodyPost_ret (results_cell_cell rfl _ _ (w.heap.size + 1) (w.heap.size + 1 + 1) 40 31 _ _ (0, 0) (0, 0) _ _ rfl hR Try.underlying40 rfl Try.sizeView rfl hZ Try.underlying31 rfl Try.sizeFault) rfl ⟨_, rfl, ?_, ?_⟩
    · exact (hVs.away (g := w.heap.size + 1 + 1) (by omega) 0 (.int .i64 0)).away (g := w.heap.size + 1 + 1) (by omega) 1 (.int .i64 0)
    · exact ((((HB6.out.setCell (by show w.heap.size ≤ w.heap.size + 1; omega) _).setCell (by show w.heap.size ≤ w.heap.size + 1; omega) _).setCell (by show w.heap.size ≤ w.heap.size + 1; omega) _).setCell (by show w.heap.size ≤ w.heap.size + 1 + 1; omega) _).setCell (by show w.heap.size ≤ w.heap.size + 1 + 1; omega) _
  · have hr' : (r != 0) = true := by simp [hr]
    rw [if_neg hr] at HX
    have hX := HX.out
    subst hX
    clear HX hr
    go_enter Try.func11, Try.ntmps11
    have cG0 := G0.out.get 0 rfl
    have cG1 := G0.out.get 1 rfl
    have cG2 := G0.out.get 2 rfl
    go_wp2_with fail
    refine (wrong_state _ s s.clock.length _ S0.out).mono ?_
    rintro e w1 ⟨rfl, hb⟩
    have HB1 := hide (below_step HB0.out hb)
    have S1 := hide (S0.out.below hb (Nat.le_refl _))
    have L1 := hide (L0.out.below hb (Nat.le_refl _))
    have T1 := hide (T0.out.below hb (Nat.le_refl _))
    have G1 := hide (G0.out.below hb (Nat.le_refl _))
    have R1 := hide (R0.out.below hb (Nat.le_refl _))
    have Z1 := hide (Z0.out.below hb (Nat.le_refl _))
    clear HB0 hb S0 L0 T0 G0 R0 Z0
    rw [HR.out, HQ.out]
    have hzl := Z1.out.lt
    have n1 : ¬ (w1.heap.size = w.heap.size + 1) := by omega
    have n2 : ¬ (w.heap.size + 1 = w1.heap.size) := by omega
    have n3 : ¬ (w1.heap.size = w.heap.size + 2) := by omega
    have n4 : ¬ (w.heap.size + 2 = w1.heap.size) := by omega
    clear cG0 cG1 cG2
    have HB2 := hide (below_step HB1.out (Below.plus (Below.refl _ w1) (.cells #[.int .i64 r, .int .i64 q] 31)))
    have S2 := hide (S1.out.below (Below.plus (Below.refl _ w1) (.cells #[.int .i64 r, .int .i64 q] 31)) (Nat.le_refl _))
    have L2 := hide (L1.out.below (Below.plus (Below.refl _ w1) (.cells #[.int .i64 r, .int .i64 q] 31)) (Nat.le_refl _))
    have T2 := hide (T1.out.below (Below.plus (Below.refl _ w1) (.cells #[.int .i64 r, .int .i64 q] 31)) (Nat.le_refl _))
    have G2 := hide (G1.out.below (Below.plus (Below.refl _ w1) (.cells #[.int .i64 r, .int .i64 q] 31)) (Nat.le_refl _))
    have R2 := hide (R1.out.below (Below.plus (Below.refl _ w1) (.cells #[.int .i64 r, .int .i64 q] 31)) (Nat.le_refl _))
    have Z2 := hide (Z1.out.below (Below.plus (Below.refl _ w1) (.cells #[.int .i64 r, .int .i64 q] 31)) (Nat.le_refl _))
    have V2 := hide (Box.new w1 [.int .i64 r, .int .i64 q] 31)
    clear HB1 S1 L1 T1 G1 R1 Z1
    have cV0 := V2.out.get 0 rfl
    have cV1 := V2.out.get 1 rfl
    have cR0 := R2.out.get 0 rfl
    have cR1 := R2.out.get 1 rfl
    have cR2 := R2.out.get 2 rfl
    have cZ0 := Z2.out.get 0 rfl
    have cZ1 := Z2.out.get 1 rfl
    have f0 := R2.out.free 0
    have f1 := R2.out.free 1
    have f2 := R2.out.free 2
    have g0 := Z2.out.free 0
    have g1 := Z2.out.free 1
    go_upto_region 3 with fail
    go_region
    go_wp2_with fail
    have hR := ((((R2.out.set 0 (.slice none 0 0)).set 1 (.slice none 0 0)).set 2 (.slice none 0 0)).away (g' := w.heap.size + 1 + 1) (i := 0) (v := .int .i64 r) (by omega)).away (g' := w.heap.size + 1 + 1) (i := 1) (v := .int .i64 q) (by omega)
    have hZ := ((((Z2.out.away (g' := w.heap.size + 1) (i := 0) (v := .slice none 0 0) (by omega)).away (g' := w.heap.size + 1) (i := 1) (v := .slice none 0 0) (by omega)).away (g' := w.heap.size + 1) (i := 2) (v := .slice none 0 0) (by omega)).set 0 (.int .i64 r)).set 1 (.int .i64 q)
    refine bodyPost_ret (results_cell_cell rfl _ _ (w.heap.size + 1) (w.heap.size + 1 + 1) 40 31 _ _ (0, 0) (0, 0) _ _ rfl hR.drew Try.underlying40 rfl Try.sizeView rfl hZ.drew Try.underlying31 rfl Try.sizeFault) rfl ⟨_, rfl, ViewO.none _ _, ?_⟩
    exact (((((HB2.out.setCell (by show w.heap.size ≤ w.heap.size + 1; omega) _).setCell (by show w.heap.size ≤ w.heap.size + 1; omega) _).setCell (by show w.heap.size ≤ w.heap.size + 1; omega) _).setCell (by show w.heap.size ≤ w.heap.size + 1 + 1; omega) _).setCell (by show w.heap.size ≤ w.heap.size + 1 + 1; omega) _).drew
end Go.Proofs.Ytalglngjafkdjaa
