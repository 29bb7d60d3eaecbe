/- The document's own Start. -/
import Derived.Test.YtfhecilhcofboaaGreatNrD
import Derived.Test.YtfhecilhcofboaaGreatNrE
import Derived.Test.YtfhecilhcofboaaGreatNrC
namespace Go.Proofs.YtfhecilhcofboaaGreat
open Go.RowKit

theorem zrow (w : World) (B : Nat) {m : Nat} (hm : m ≤ 6) (hB : B ≤ w.heap.size) : ∃ W, Hid (w.alloc (.cells (madeCells #[.int .i64 0] m) 3) = W) ∧ Own W B (.slice (some ⟨w.heap.size, 0, none⟩) m m) (zeroC m) ∧ Below w.heap.size w W := by
 refine ⟨_, rfl, ?_, bpl w _⟩
 rw [made_zero m hm]
 have h := World.ownsRow_lit (base := B) (e := 3) (size := 1) w ((zeroC m).map (Value.int .i64)).toArray m hB (by unfold maxLen; omega) (by simp [zeroC])
 unfold Own
 rw [show (zeroC m).length = m by simp [zeroC]]
 exact h
structure StN (w W : World) (B g m : Nat) (i : Int) (v2 v5 kv : Value) (qs : List (List Int × Value)) : Prop where
 box : Box W g [.int .i64 i, v2, .slice none 0 0, .slice none 0 0, v5, .slice none 0 0, kv] 31
 res : Box W w.heap.size [.int .i64 0, .slice none 0 0, .slice none 0 0, .slice none 0 0, .slice none 0 0, .slice none 0 0, .slice none 0 0] 31
 c : Own W B v2 (zeroC m)
 b : Own W B v5 (zeroC m)
 k : KnO W B kv qs
 hb : Below w.heap.size w W
 hg : B ≤ g
 hB : B = w.heap.size + 1
section
variable {w W W' : World} {B g m : Nat} {i : Int} {v2 v5 kv v' x : Value} {qs : List (List Int × Value)}
theorem StN.below (h : StN w W B g m i v2 v5 kv qs) {C : Nat} (hb : Below C W W') (hC : W.heap.size ≤ C) : StN w W' B g m i v2 v5 kv qs :=
 ⟨h.box.below hb hC, h.res.below hb hC, h.c.below hb hC, h.b.below hb hC, h.k.below hb hC, h.hb.trans (hb.mono (Nat.le_trans h.hb.size hC)), h.hg, h.hB⟩
theorem StN.grow (h : StN w W B g m i v2 v5 kv qs) (ho : W'.ownsRow B 23 1 v' (qs.length + 1) (qs.map (·.2) ++ [x])) (hgr : W.grownBy W' kv.ownBlock) (hx : Own W B x (zeroC m)) : StN w (W'.setCell ⟨g, 6, none⟩ v') B g m i v2 v5 v' (qs ++ [(zeroC m, x)]) := by
 have bx := h.box.grownT h.k.1 hgr (by decide)
 have tr : ∀ {v : Value} {l : List Int}, Own W B v l → Own (W'.setCell ⟨g, 6, none⟩ v') B v l := fun hv => Own.setT (own_grownT hv h.k.1 hgr (by decide)) bx (by decide) 6 v'
 have hne : w.heap.size ≠ g := by have := h.hg; have := h.hB; omega
 refine ⟨bx.set 6 v', (h.res.grownT h.k.1 hgr (by decide)).away hne, tr h.c, tr h.b, ⟨?_, fun q hq => ?_⟩, (h.hb.grown hgr h.hb.size fun k e => by have := (h.k.1.lt k e).1; have := h.hB; omega).setCell (by have := h.hg; have := h.hB; show w.heap.size ≤ g; omega) _, h.hg, h.hB⟩
 ·rw [List.length_append, List.map_append]
  exact row_setT ho bx (by decide) 6 v'
 rcases List.mem_append.1 hq with hq | hq
 ·exact tr (h.k.2 q hq)
 rw [List.mem_singleton] at hq
 rw [hq]
 exact tr hx
theorem StN.start {c0 c1 c2 c3 c4 c5 c6 : Value} (h : Box W g [c0, c1, c2, c3, c4, c5, c6] 31) (res : Box W w.heap.size [.int .i64 0, .slice none 0 0, .slice none 0 0, .slice none 0 0, .slice none 0 0, .slice none 0 0, .slice none 0 0] 31) (z2 : Own W B v2 (zeroC m)) (z5 : Own W B v5 (zeroC m)) (hb : Below w.heap.size w W) (hg : B ≤ g) (hB : B = w.heap.size + 1) :
  StN w (((((((W.setCell ⟨g, 0, none⟩ (.int .i64 i)).setCell ⟨g, 1, none⟩ v2).setCell ⟨g, 2, none⟩ (.slice none 0 0)).setCell ⟨g, 3, none⟩ (.slice none 0 0)).setCell ⟨g, 4, none⟩ v5).setCell ⟨g, 5, none⟩ (.slice none 0 0)).setCell ⟨g, 6, none⟩ (.slice none 0 0)) B g m i v2 v5 (.slice none 0 0) [] := by
 have b0 := h.set 0 (.int .i64 i)
 have b1 := b0.set 1 v2
 have b2 := b1.set 2 (.slice none 0 0)
 have b3 := b2.set 3 (.slice none 0 0)
 have b4 := b3.set 4 v5
 have b5 := b4.set 5 (.slice none 0 0)
 have hne : w.heap.size ≠ g := by omega
 have tr : ∀ {v : Value} {l : List Int}, Own W B v l → Own (((((((W.setCell ⟨g, 0, none⟩ (.int .i64 i)).setCell ⟨g, 1, none⟩ v2).setCell ⟨g, 2, none⟩ (.slice none 0 0)).setCell ⟨g, 3, none⟩ (.slice none 0 0)).setCell ⟨g, 4, none⟩ v5).setCell ⟨g, 5, none⟩ (.slice none 0 0)).setCell ⟨g, 6, none⟩ (.slice none 0 0)) B v l := fun hv => ((((((hv.setT h (by decide) 0 _).setT b0 (by decide) 1 _).setT b1 (by decide) 2 _).setT b2 (by decide) 3 _).setT b3 (by decide) 4 _).setT b4 (by decide) 5 _).setT b5 (by decide) 6 _
 exact ⟨b5.set 6 (.slice none 0 0), ((((((res.away hne).away hne).away hne).away hne).away hne).away hne).away hne, tr z2, tr z5, ⟨World.ownsRow_nil _ _ _ _, fun q hq => by simp at hq⟩, Below.set7b hb (by omega), hg, hB⟩
theorem cells_snd : ∀ qs : List (List Int × Value), cellsS encK qs = qs.map (·.2)
 | [] => rfl
 | q :: r => by rw [List.map_cons, ← cells_snd r]; rfl
theorem StN.nd {S : Nat → Prop} (h : StN w W B g m i v2 v5 kv qs) (hS : ∀ k, S k → k < w.heap.size) : NdF (Mine S w.heap.size (w.heap.size + 1)) W v2 (.slice none 0 0) (.slice none 0 0) v5 (.slice none 0 0) kv ⟨i, ⟨zeroC m, [], []⟩, zeroC m, [], qs.map (·.1)⟩ := by
 have hM : ∀ k, Mine S w.heap.size (w.heap.size + 1) k → k < B := mine_lt hS (by have := h.hB; omega) (by omega)
 refine ⟨StOwn.fix ⟨_, _, _, rfl, h.c, World.ownsRow_nil _ _ _ _, World.ownsRow_nil _ _ _ _⟩ hM, h.b.fix hM, NdF.none.log, KnF.own ?_ hM fun q hq => (h.k.2 q hq).fix hM⟩
 rw [cells_snd]
 exact h.k.1
end

set_option maxRecDepth 100000 in
set_option maxHeartbeats 40000000 in
theorem start_ref {S : Nat → Prop} (i n : Int) (w : World) (hS : ∀ k, S k → k < w.heap.size) :
  Calls Tryz.prog 6 #[.int .i64 i, .int .i64 n] w fun e w' => ∃ rv, e = .returned (.tuple #[rv, .int .i64 (startE i n)]) ∧ NdR S w' rv (startX i n) ∧ Below w.heap.size w w' := by
 obtain ⟨i0, hi0, hz0, hz1, hz2⟩ := info_parts Tryz.infoClock
 obtain ⟨w1, HW1, R1, HB1, hs1⟩ := lay1 w [.int .i64 0, .slice none 0 0, .slice none 0 0, .slice none 0 0, .slice none 0 0, .slice none 0 0, .slice none 0 0] 31
 obtain ⟨E, HE⟩ : ∃ E, Hid (startE i n = E) := ⟨_, rfl⟩
 obtain ⟨X, HX⟩ : ∃ X, Hid (startX i n = X) := ⟨_, rfl⟩
 rw [HE.out, HX.out]
 unfold startX at HX
 rw [HE.out] at HX
 unfold startE at HE
 go_enter Tryz.func6, Tryz.ntmps6
 go_upto_region 1 with fail
 rw [HW1.out]
 by_cases q0 : n < 1
 ·rw [if_neg (by omega)] at HE
  obtain rfl := HE.out
  rw [if_neg (by decide)] at HX
  obtain rfl := HX.out
  obtain ⟨r0, e0, r1, e1, r2, e2, r3, e3, r4, e4, r5, e5, r6, e6⟩ := R1.seven
  go_wp2_with fail
  obtain ⟨hR, hV, hB⟩ := fin7 (S := S) (b := w.heap.size + 1) (d := noNode) R1.out NdF.none HB1.out (nlr _) (by omega)
  exact bodyPost_ret (results_cell_tmp rfl _ _ (w.heap.size) 31 _ (0, 0) _ rfl hR Tryz.underlying31 rfl Tryz.sizeNode) rfl ⟨_, rfl, ⟨_, _, _, _, _, _, rfl, hV⟩, hB⟩
 by_cases q1 : 6 < n
 ·rw [if_neg (by omega)] at HE
  obtain rfl := HE.out
  rw [if_neg (by decide)] at HX
  obtain rfl := HX.out
  obtain ⟨r0, e0, r1, e1, r2, e2, r3, e3, r4, e4, r5, e5, r6, e6⟩ := R1.seven
  go_wp2_with fail
  obtain ⟨hR, hV, hB⟩ := fin7 (S := S) (b := w.heap.size + 1) (d := noNode) R1.out NdF.none HB1.out (nlr _) (by omega)
  exact bodyPost_ret (results_cell_tmp rfl _ _ (w.heap.size) 31 _ (0, 0) _ rfl hR Tryz.underlying31 rfl Tryz.sizeNode) rfl ⟨_, rfl, ⟨_, _, _, _, _, _, rfl, hV⟩, hB⟩
 rw [if_pos (by omega)] at HE
 by_cases q2 : i < 0
 ·rw [if_neg (by omega)] at HE
  obtain rfl := HE.out
  rw [if_neg (by decide)] at HX
  obtain rfl := HX.out
  obtain ⟨r0, e0, r1, e1, r2, e2, r3, e3, r4, e4, r5, e5, r6, e6⟩ := R1.seven
  go_wp2_with fail
  obtain ⟨hR, hV, hB⟩ := fin7 (S := S) (b := w.heap.size + 1) (d := noNode) R1.out NdF.none HB1.out (nlr _) (by omega)
  exact bodyPost_ret (results_cell_tmp rfl _ _ (w.heap.size) 31 _ (0, 0) _ rfl hR Tryz.underlying31 rfl Tryz.sizeNode) rfl ⟨_, rfl, ⟨_, _, _, _, _, _, rfl, hV⟩, hB⟩
 by_cases q3 : n ≤ i
 ·rw [if_neg (by omega)] at HE
  obtain rfl := HE.out
  rw [if_neg (by decide)] at HX
  obtain rfl := HX.out
  obtain ⟨r0, e0, r1, e1, r2, e2, r3, e3, r4, e4, r5, e5, r6, e6⟩ := R1.seven
  go_wp2_with fail
  obtain ⟨hR, hV, hB⟩ := fin7 (S := S) (b := w.heap.size + 1) (d := noNode) R1.out NdF.none HB1.out (nlr _) (by omega)
  exact bodyPost_ret (results_cell_tmp rfl _ _ (w.heap.size) 31 _ (0, 0) _ rfl hR Tryz.underlying31 rfl Tryz.sizeNode) rfl ⟨_, rfl, ⟨_, _, _, _, _, _, rfl, hV⟩, hB⟩
 rw [if_pos (by omega)] at HE
 obtain rfl := HE.out
 rw [if_pos rfl] at HX
 obtain ⟨m, rfl⟩ : ∃ m : Nat, n = m := ⟨n.toNat, by omega⟩
 rw [Int.toNat_natCast] at HX
 have hm6 : Hid (m ≤ 6) := by unfold Hid; omega
 go_upto_region 5 with fail
 refine bD (fun _ => false) (fun _ => True) (grew_refl _) (fun _ _ => trivial) fun W hcd hS' => ?_
 have HB := hide hcd
 clear hcd
 refine yD 0 (.int .i64 i) ?_
 refine yD 1 (.int .i64 (m : Int)) ?_
 refine yD 4 (.int .i64 (m : Int)) ?_
 repeat'
  first
  | refine eD ?_ (by decide +kernel)
  | refine yT 3 (.agg #[.slice (some ⟨g2, 0, none⟩) m m, .slice none 0 0, .slice none 0 0]) ?_ (hs := by decide +kernel)
  | refine yT 6 (.agg #[.int .i64 i, .slice (some ⟨g2, 0, none⟩) m m, .slice none 0 0, .slice none 0 0, .slice (some ⟨g5, 0, none⟩) m m, .slice none 0 0, .slice none 0 0]) ?_ (hs := by decide +kernel)
  | refine aR (cR 2 ?_ (cR 5 ?_ (cR 7 ?_ (cR 8 ?_ nR))))
  | exact fun _ h => absurd h (by decide +kernel)
  | (refine fun (_ : Tg 2) _ K hK => ?_
     have hmk := run_make_row' 22 3 (.int .i64 0) 8 Tryz.underlying22 Tryz.infoInt rfl .i64 .i64 m (by omega) (by omega) W
     go_simp
     clear hmk
     obtain ⟨g2, hg2⟩ : ∃ g, Hid (W.heap.size = g) := ⟨_, rfl⟩
     obtain ⟨W, HW, z2, hb⟩ := zrow W w1.heap.size hm6.out HB.size
     rw [HW.out]
     rw [hg2.out] at z2 ⊢
     try have z5 := z5.below hb (nlr _)
     try have b7 := b7.below hb (nlr _)
     have HB := hide (below_step HB.out hb)
     refine kS hK trivial ?_)
  | (refine fun (_ : Tg 5) _ K hK => ?_
     have hmk := run_make_row' 22 3 (.int .i64 0) 8 Tryz.underlying22 Tryz.infoInt rfl .i64 .i64 m (by omega) (by omega) W
     go_simp
     clear hmk
     obtain ⟨g5, hg5⟩ : ∃ g, Hid (W.heap.size = g) := ⟨_, rfl⟩
     obtain ⟨W, HW, z5, hb⟩ := zrow W w1.heap.size hm6.out HB.size
     rw [HW.out]
     rw [hg5.out] at z5 ⊢
     try have z2 := z2.below hb (nlr _)
     try have b7 := b7.below hb (nlr _)
     have HB := hide (below_step HB.out hb)
     refine kS hK trivial ?_)
  | (refine fun (_ : Tg 7) _ K hK => ?_
     go_simp
     obtain ⟨g7, hg7⟩ : ∃ g, Hid (W.heap.size = g) := ⟨_, rfl⟩
     have hge : w1.heap.size ≤ g7 := by rw [← hg7.out]; exact HB.size
     have HGE := hide hge
     clear hge
     obtain ⟨W, HW, b7, hb, -⟩ := lay1 W [.int .i64 0, .slice none 0 0, .slice none 0 0, .slice none 0 0, .slice none 0 0, .slice none 0 0, .slice none 0 0] 31
     rw [HW.out]
     have b7 := b7.out
     have hb := hb.out
     rw [hg7.out] at b7 ⊢
     try have z2 := z2.below hb (nlr _)
     try have z5 := z5.below hb (nlr _)
     have HB := hide (below_step HB.out hb)
     refine kS hK trivial ?_)
  | (refine fun (_ : Tg 8) _ K hK => ?_
     obtain ⟨r0, e0, r1, e1, r2, e2, r3, e3, r4, e4, r5, e5, r6, e6⟩ := b7.seven
     go_simp
     refine kS hK trivial ?_)
 all_goals
  have S1 := hide (StN.start (i := i) b7 (R1.below HB.out (nlr _)) z2 z5 (below_step HB1.out HB.out) HGE.out hs1.out)
  obtain ⟨w0, HW0⟩ : ∃ w0, Hid ((((((((W.setCell ⟨g7, 0, none⟩ (.int .i64 i)).setCell ⟨g7, 1, none⟩ (.slice (some ⟨g2, 0, none⟩) m m)).setCell ⟨g7, 2, none⟩ (.slice none 0 0)).setCell ⟨g7, 3, none⟩ (.slice none 0 0)).setCell ⟨g7, 4, none⟩ (.slice (some ⟨g5, 0, none⟩) m m)).setCell ⟨g7, 5, none⟩ (.slice none 0 0)).setCell ⟨g7, 6, none⟩ (.slice none 0 0)) = w0) := ⟨_, rfl⟩
  rw [HW0.out] at S1 ⊢
  have HB1B : Hid (w1.heap.size ≤ w.heap.size + 1) := Nat.le_of_eq hs1.out
  clear b7 z2 z5 HB
  go_wp2_with fail
  go_loopw [7] (fun iv wr => ∃ (k : Nat) (kv : Value) (qs : List (List Int × Value)), k ≤ m ∧ iv = .int .i64 k ∧ Hid (qs.map (·.1) = List.replicate k (zeroC m)) ∧ Hid (StN w wr w1.heap.size g7 m i (.slice (some ⟨g2, 0, none⟩) m m) (.slice (some ⟨g5, 0, none⟩) m m) kv qs)) (fun iv _ => m - (intOf iv).toNat)
  case atStart => exact ⟨0, _, [], Nat.zero_le _, rfl, hide rfl, S1⟩
  obtain ⟨k, kv, qs, hk, rfl, HQ, S2⟩ := hrel
  obtain ⟨w2, rfl⟩ : ∃ w2, w2 = wr := ⟨wr, rfl⟩
  clear S1
  obtain ⟨aK, nK, cK, rfl⟩ : ∃ a n c, kv = .slice a n c := by obtain ⟨a, c, h⟩ := KnOf.form ⟨qs, S2.k, rfl⟩; exact ⟨a, _, c, h⟩
  have HQL : Hid (qs.length ≤ 6) := by have h := congrArg List.length HQ.out; rw [List.length_map, List.length_replicate] at h; have := hm6.out; unfold Hid; omega
  by_cases hlt : k < m
  rotate_left
  ·have hlt' : ¬ (k : Int) < (m : Int) := by omega
   obtain rfl : (⟨i, ⟨zeroC m, [], []⟩, zeroC m, [], qs.map (·.1)⟩ : NdS) = X := by rw [HQ.out, ← HX.out, show k = m by omega]
   have ND := hide (S2.nd hS)
   obtain ⟨g0, g1, g2', g3, g4, g5', g6⟩ := S2.box.c7
   obtain ⟨r0, e0, r1, e1, r2, e2, r3, e3, r4, e4, r5, e5, r6, e6⟩ := S2.res.seven
   go_wp2_with fail
   obtain ⟨hR, hV, hB⟩ := fin7 S2.res ND.out S2.hb (nlr _) (by omega)
   exact bodyPost_ret (results_cell_tmp rfl _ _ (w.heap.size) 31 _ (0, 0) _ rfl hR Tryz.underlying31 rfl Tryz.sizeNode) rfl ⟨_, rfl, ⟨_, _, _, _, _, _, rfl, hV⟩, hB⟩
  have hlt' : (k : Int) < (m : Int) := by omega
  have g6 := S2.box.get 6 rfl
  have HSZ : Hid (w1.heap.size ≤ w2.heap.size) := by have := S2.box.lt; have := S2.hg; unfold Hid; omega
  have HK9 := hide fun w' (hg : Grew w2 w') => cell_grewC hg g6
  go_upto_region 9 with fail
  clear g6
  refine bD (fun i => i == 5 || i == 7) (fun _ => True) (grew_refl _) HK9.out fun wd hcd hHeld => ?_
  refine yT 0 (.pointer (some ⟨g7, 6, none⟩)) ?_
  refine yD 1 (.slice aK nK cK) ?_
  refine yT 2 (.int .i64 (m : Int)) ?_
  refine oD 3 fun K hK => ?_
  have hmk := run_make_row' 22 3 (.int .i64 0) 8 Tryz.underlying22 Tryz.infoInt rfl .i64 .i64 m (by omega) (by omega) wd
  go_simp
  clear hmk
  obtain ⟨g3, hg3⟩ : ∃ g, Hid (wd.heap.size = g) := ⟨_, rfl⟩
  obtain ⟨w_3, HW3, z3, hb_3⟩ := zrow wd w1.heap.size hm6.out (Nat.le_trans (HSZ.out) hcd.size)
  rw [HW3.out]
  rw [hg3.out] at z3 ⊢
  have hg_3 : Grew w2 w_3 := grew_step hcd hb_3
  have hH_3 := HK9.out _ hg_3
  refine kS hK hH_3 ?_
  clear hK K
  refine oD 4 fun K hK => ?_
  go_simp
  obtain ⟨g4, hg4⟩ : ∃ g, Hid (w_3.heap.size = g) := ⟨_, rfl⟩
  obtain ⟨w_b, HW4, b4, hb_b, -⟩ := lay1 w_3 [.slice (some ⟨g3, 0, none⟩) m m] 23
  rw [HW4.out]
  have b4 := b4.out
  rw [hg4.out] at b4 ⊢
  have z4 := z3.below hb_b.out (nlr _)
  have hg_b : Grew w2 w_b := grew_step hg_3 hb_b.out
  have hH_b := HK9.out _ hg_b
  refine kS hK hH_b ?_
  clear hK K
  refine oD 5 fun K hK => ?_
  have S4 := S2.below hg_b (nlr _)
  have hsrc := Src.ofSlice (P := Tryz.prog) w_b (size := 1) Tryz.underlying29 ⟨g4, 0, none⟩ 1 1 [.slice (some ⟨g3, 0, none⟩) m m] rfl b4.cellsAt (fun q hq => by rw [List.mem_singleton] at hq; rw [hq]; rfl)
  obtain ⟨v9, w_d, hrun, ho9, hgr9⟩ := run_append_own_src (P := Tryz.prog) w_b w1.heap.size 29 29 29 23 i0 _ 1 24 Tryz.underlying29 hi0 hz0 hz1 hz2 rfl _ _ _ S4.k.1 _ 1 _ hsrc (by unfold maxLen; have := HQL.out; omega) (by have := HQL.out; omega) (Nat.le_trans (HSZ.out) hg_b.size)
  refine step_run hrun ?_
  clear hrun
  have S9 := S4.grow ho9 hgr9 z4
  obtain ⟨aN, nN, cN, hvN⟩ := (show ∃ a n c, v9 = .slice a n c from by obtain ⟨a, c, h⟩ := (KnOf.form ⟨_, S9.k, rfl⟩); exact ⟨a, _, c, h⟩)
  subst hvN
  have hc6 := (S4.box.grownT S4.k.1 hgr9 (by decide)).get 6 rfl
  have hf6 := (S4.box.grownT S4.k.1 hgr9 (by decide)).free 6
  refine kD hK (trivial) ?_
  clear hK K
  refine yT 6 (.pointer (some ⟨g7, 6, none⟩)) ?_
  refine oD 7 fun K hK => ?_
  go_simp
  refine kD hK (trivial) ?_
  clear hK K
  refine eD ?_
  have HS9 := hide S9
  clear S9 S4 hc6 hf6
  go_wp2_with fail
  go_roundw
  case rel => exact ⟨k + 1, _, _, by omega, by go_num, hide (by rw [List.map_append, List.replicate_succ', HQ.out]; rfl), HS9⟩
  case measure => simp [intOf]; omega
end Go.Proofs.YtfhecilhcofboaaGreat
/- NodeTells, walked. -/
namespace Go.Proofs.YtfhecilhcofboaaGreat
open Go.RowKit

structure LwN (w0 W : World) (g h : Nat) (n u p c c' : List Value) : Prop where
 bd : Box W w0.heap.size n 31
 bu : Box W (w0.heap.size + 1) u 33
 bp : Box W (w0.heap.size + 1 + 1) p 35
 b1 : Box W g c 31
 b2 : Box W h c' 31
 hb : Below w0.heap.size w0 W
 hg : w0.heap.size + 1 + 1 < g
 hh : g < h
section
variable {w0 W W' : World} {g h B : Nat} {n u p c c' c2 : List Value} {S : Nat → Prop} {v : Value} {d : NdS} {q : Pcl}
theorem LwN.step (l : LwN w0 W g h n u p c c') (hb : Below W.heap.size W W') : LwN w0 W' g h n u p c c' :=
 ⟨l.bd.below hb (nlr _), l.bu.below hb (nlr _), l.bp.below hb (nlr _), l.b1.below hb (nlr _), l.b2.below hb (nlr _), below_step l.hb hb, l.hg, l.hh⟩
theorem below_off {k : Nat} (hb : Below w0.heap.size w0 W) (ho : Off (fun j => j = k) W W') (hk : w0.heap.size ≤ k) : Below w0.heap.size w0 W' :=
 ⟨ho.os.trans hb.os, ho.tape.trans hb.tape, ho.output.trans hb.output, Nat.le_trans hb.size ho.size, fun j hj => (ho.block j (Nat.lt_of_lt_of_le hj hb.size) (by omega)).trans (hb.block j hj)⟩
theorem LwN.put1 (l : LwN w0 W g h n u p c c') (ho : Off (fun k => k = g) W W') (b : Box W' g c2 31) : LwN w0 W' g h n u p c2 c' := by
 obtain ⟨h1, h2, h3, h4, h5, h6, h7, h8⟩ := l
 exact ⟨h1.off ho (by omega), h2.off ho (by omega), h3.off ho (by omega), b, h5.off ho (by omega), below_off h6 ho (by omega), h7, h8⟩
theorem LwN.put2 (l : LwN w0 W g h n u p c c') (ho : Off (fun k => k = h) W W') (b : Box W' h c2 31) : LwN w0 W' g h n u p c c2 := by
 obtain ⟨h1, h2, h3, h4, h5, h6, h7, h8⟩ := l
 exact ⟨h1.off ho (by omega), h2.off ho (by omega), h3.off ho (by omega), h4.off ho (by omega), b, below_off h6 ho (by omega), h7, h8⟩
theorem st7 (W : World) (g : Nat) (x0 x1 x2 x3 x4 x5 x6 : Value) : ∃ W', Hid ((((((((W.setCell ⟨g, 0, none⟩ x0).setCell ⟨g, 1, none⟩ x1).setCell ⟨g, 2, none⟩ x2).setCell ⟨g, 3, none⟩ x3).setCell ⟨g, 4, none⟩ x4).setCell ⟨g, 5, none⟩ x5).setCell ⟨g, 6, none⟩ x6) = W') ∧ Off (fun k => k = g) W W' ∧ ∀ {c0 c1 c2 c3 c4 c5 c6 : Value}, Box W g [c0, c1, c2, c3, c4, c5, c6] 31 → Box W' g [x0, x1, x2, x3, x4, x5, x6] 31 :=
 ⟨_, rfl, ((((((((Off.refl (fun k => k = g) W).set rfl 0 x0).set rfl 1 x1).set rfl 2 x2).set rfl 3 x3).set rfl 4 x4).set rfl 5 x5).set rfl 6 x6), fun b => (((((((b.set 0 x0).set 1 x1).set 2 x2).set 3 x3).set 4 x4).set 5 x5).set 6 x6)⟩
theorem cells_snd' : ∀ qs : List (List Int × Value), cellsS encK qs = qs.map (·.2)
 | [] => rfl
 | q :: r => by rw [List.map_cons, ← cells_snd' r]; rfl
theorem NdR.ofO (o : NodeO W B v d) (hB : ∀ k, S k → k < B) : NdR S W v d := by
 obtain ⟨cv, lv, tv, bv, uv, kv, h0, h1, h2, ⟨ps, h3, h3'⟩, ⟨qs, h4, h4'⟩⟩ := o
 refine ⟨cv, lv, tv, bv, uv, kv, h0, h1.fix hB, h2.fix hB, ?_, ?_⟩
 ·rw [← h3']
  exact LogF.own h3.1 hB fun p hp => (h3.2 p hp).fix hB
 rw [← h4']
 exact KnF.own (by rw [cells_snd']; exact h4.1) hB fun q hq => (h4.2 q hq).fix hB
theorem NdR.off (o : NdR S W v d) (ho : Off S W W') : NdR S W' v d := by
 obtain ⟨x1, x2, x3, x4, x5, x6, h0, h1⟩ := o
 exact ⟨x1, x2, x3, x4, x5, x6, h0, h1.off ho⟩
theorem NdR.node (o : NdR S W v d) : IsNode W v d := by
 obtain ⟨x1, x2, x3, x4, x5, x6, rfl, h1⟩ := o
 exact h1.node
theorem PcR.pcl (o : PcR S W v q) : IsPcl W v q := by
 obtain ⟨x1, x2, x3, x4, x5, rfl, h1⟩ := o
 exact h1.pcl
end

set_option maxRecDepth 100000 in
set_option maxHeartbeats 40000000 in
theorem ntells_law (i n : Int) (v uv : Value) (j : Int) (pv : Value) (d : NdS) (u : Upd) (p : Pcl) (w0 : World) (h : IsNode w0 v d) (hu : IsUpd w0 uv u) (hp : IsPcl w0 pv p) :
  Calls Tryz.prog 3 #[.int .i64 i, .int .i64 n, v, uv, .int .i64 j, pv] w0 fun e w' => e = .returned (.bool true) ∧ Below w0.heap.size w0 w' := by
 have HI := hide (And.intro h (And.intro hu hp))
 obtain ⟨a1, c1, a2, c2, a3, c3, a4, c4, a5, c5, a6, c6, rfl, -⟩ := h.form
 obtain ⟨b1, e1, b2, e2, b3, e3, b4, e4, b5, e5, rfl, -⟩ := hp.form
 obtain ⟨ua, us, uk, uy, ui⟩ := u
 obtain ⟨sv, rfl, hsv⟩ := hu
 obtain ⟨a9, c9, rfl, -⟩ := id hsv
 obtain ⟨w1, HW1, D1, U1, P1, HB1, -⟩ := lay3 w0 [.int .i64 d.self, .slice a1 d.st.clock.length c1, .slice a2 d.st.lives.length c2, .slice a3 d.st.tals.length c3, .slice a4 d.base.length c4, .slice a5 d.log.length c5, .slice a6 d.known.length c6] 31 [.int .i64 ua, .slice a9 us.length c9, .int .i64 uk, .int .i64 uy, .int .i64 ui] 33 [.bool p.whole, .slice b1 p.st.clock.length e1, .slice b2 p.st.lives.length e2, .slice b3 p.st.tals.length e3, .slice b4 p.ups.length e4, .slice b5 p.clock.length e5] 35
 clear h hp hsv
 go_enter Tryz.func3, Tryz.ntmps3
 go_upto_region 1 with fail
 rw [HW1.out]
 go_wp2_with fail
 refine (start_node i n _).mono ?_
 rintro e w2 ⟨rv, rfl, ho2, hb2⟩
 obtain ⟨E, HE⟩ : ∃ E, Hid (startE i n = E) := ⟨_, rfl⟩
 obtain ⟨X, HX⟩ : ∃ X, Hid (startX i n = X) := ⟨_, rfl⟩
 rw [HE.out]
 rw [HX.out] at ho2
 obtain ⟨o1, p1, o2, p2, o3, p3, o4, p4, o5, p5, o6, p6, rfl⟩ := ho2.form
 obtain ⟨gA, hgA⟩ : ∃ g, Hid (w2.heap.size = g) := ⟨_, rfl⟩
 obtain ⟨w3, HW3, A3, HB3, hs3⟩ := lay1 w2 [.int .i64 X.self, .slice o1 X.st.clock.length p1, .slice o2 X.st.lives.length p2, .slice o3 X.st.tals.length p3, .slice o4 X.base.length p4, .slice o5 X.log.length p5, .slice o6 X.known.length p6] 31
 rw [hgA.out] at A3
 have O3 := hide (ho2.node.below HB3.out (nlr _))
 have HB13 := hide (below_step hb2 HB3.out)
 have HLA : Hid (w1.heap.size ≤ gA ∧ gA < w3.heap.size) := by unfold Hid; have := hb2.size; have := hs3.out; have := hgA.out; omega
 go_upto_region 2 with fail
 rw [HW3.out, hgA.out]
 clear ho2 hb2 HB3 hs3
 go_wp2_with fail
 refine (start_ref (S := fun _ => False) i n _ (fun _ hk => hk.elim)).mono ?_
 rintro e w4 ⟨rv, rfl, ho4, hb4⟩
 rw [HE.out]
 rw [HX.out] at ho4
 obtain ⟨s1, t1, s2, t2, s3, t3, s4, t4, s5, t5, s6, t6, rfl, hF4⟩ := ho4.form
 obtain ⟨gB, hgB⟩ : ∃ g, Hid (w4.heap.size = g) := ⟨_, rfl⟩
 obtain ⟨w5, HW5, B5, HB5, hs5⟩ := lay1 w4 [.int .i64 X.self, .slice s1 X.st.clock.length t1, .slice s2 X.st.lives.length t2, .slice s3 X.st.tals.length t3, .slice s4 X.base.length t4, .slice s5 X.log.length t5, .slice s6 X.known.length t6] 31
 rw [hgB.out] at B5
 have M5 := hide (hF4.node.below HB5.out (nlr _))
 have O5 := hide ((O3.below hb4 (nlr _)).below HB5.out (nlr _))
 have HB35 := hide (below_step hb4 HB5.out)
 have HB15 := hide (below_step HB13.out HB35.out)
 have L5 := hide (LwN.mk (D1.below HB15.out (nlr _)) (U1.below HB15.out (nlr _)) (P1.below HB15.out (nlr _)) (A3.below HB35.out (nlr _)) B5.out (below_step HB1.out HB15.out) (by have := HLA.out; have := P1.lt; omega) (by have := HLA.out; have := hb4.size; have := hgB.out; omega))
 have hEE : (E != E) = false := by simp
 go_upto_region 3 with fail
 rw [HW5.out, hgB.out]
 clear HW1 D1 U1 P1 HB1 HW3 A3 HB13 HLA O3 ho4 hF4 hb4 HW5 B5 HB5 hs5 HB35 HB15
 obtain ⟨Y, HY⟩ : ∃ Y, Hid (nodeE d = Y) := ⟨_, rfl⟩
 have HK3 := hide fun w' (hg : Grew w5 w') => And.intro (L5.b1.below hg (nlr _)).c7 (And.intro (L5.b2.below hg (nlr _)).c7 (L5.bd.below hg (nlr _)).c7)
 refine bD (fun _ => false) (fun _ => True) (grew_refl _) HK3.out fun wd hcd hHeld => ?_
 refine yD 0 (.int .i64 E) ?_
 refine yD 1 (.int .i64 E) ?_
 refine yD 2 (.bool false) ?_
 refine yD 3 (.bool false) ?_
 refine yD 4 (.agg #[.int .i64 X.self, .slice o1 X.st.clock.length p1, .slice o2 X.st.lives.length p2, .slice o3 X.st.tals.length p3, .slice o4 X.base.length p4, .slice o5 X.log.length p5, .slice o6 X.known.length p6]) ?_
 refine yD 5 (.agg #[.int .i64 X.self, .slice s1 X.st.clock.length t1, .slice s2 X.st.lives.length t2, .slice s3 X.st.tals.length t3, .slice s4 X.base.length t4, .slice s5 X.log.length t5, .slice s6 X.known.length t6]) ?_
 refine oD 6 fun K hK => ?_
 go_simp
 refine (sameNode_yes _ _ X _ (O5.below hcd (nlr _)) (M5.below hcd (nlr _))).mono ?_
 rintro e w_6 ⟨rfl, hb_6⟩
 go_simp
 have hg_6 : Grew w5 w_6 := grew_step hcd hb_6
 have hH_6 := HK3.out _ hg_6
 refine kS hK hH_6 ?_
 clear hK K
 refine yD 7 (.bool false) ?_
 refine yD 8 (.bool false) ?_
 refine yD 9 (.bool false) ?_
 refine yD 10 (.agg #[.int .i64 d.self, .slice a1 d.st.clock.length c1, .slice a2 d.st.lives.length c2, .slice a3 d.st.tals.length c3, .slice a4 d.base.length c4, .slice a5 d.log.length c5, .slice a6 d.known.length c6]) ?_
 refine yD 12 (.agg #[.int .i64 d.self, .slice a1 d.st.clock.length c1, .slice a2 d.st.lives.length c2, .slice a3 d.st.tals.length c3, .slice a4 d.base.length c4, .slice a5 d.log.length c5, .slice a6 d.known.length c6]) ?_
 refine oD 11 fun K hK => ?_
 go_simp
 refine (wrong_node _ d _ (HI.1.below (L5.step hg_6).hb (nlr _))).mono ?_
 rintro e w_a ⟨rfl, hb_a⟩
 rw [HY.out]
 go_simp
 have hg_a : Grew w5 w_a := grew_step hg_6 hb_a
 have hH_a := HK3.out _ hg_a
 refine kS hK hH_a ?_
 clear hK K
 refine oD 13 fun K hK => ?_
 go_simp
 refine (wrongNode_ref _ d _ (HI.1.below (L5.step hg_a).hb (nlr _))).mono ?_
 rintro e w_c ⟨rfl, hb_c⟩
 rw [HY.out]
 go_simp
 have hg_c : Grew w5 w_c := grew_step hg_a hb_c
 have hH_c := HK3.out _ hg_c
 refine kS hK hH_c ?_
 clear hK K
 refine yD 14 (.bool false) ?_
 refine yD 15 (.bool false) ?_
 refine eD ?_
 have L6 := hide (L5.step hg_c)
 obtain ⟨w6, rfl⟩ : ∃ w6, w6 = w_c := ⟨w_c, rfl⟩
 clear L5 O5 M5 HK3 hEE
 obtain ⟨E, HE⟩ : ∃ E, Hid (issueE d ⟨ua, us, uk, uy, ui⟩ = E) := ⟨_, rfl⟩
 obtain ⟨X, HX⟩ : ∃ X, Hid (issueX d ⟨ua, us, uk, uy, ui⟩ = X) := ⟨_, rfl⟩
 obtain ⟨g0, g1, g2, g3, g4, g5, g6⟩ := L6.bd.c7
 obtain ⟨v0, v1, v2, v3, v4⟩ := L6.bu.c5
 go_wp2_with fail
 refine (issue_node _ _ d ⟨ua, us, uk, uy, ui⟩ _ (HI.1.below L6.hb (nlr _)) (HI.2.1.below L6.hb (nlr _))).mono ?_
 rintro e w7 ⟨rv, rfl, ho, hb⟩
 rw [HE.out]
 rw [HX.out] at ho
 obtain ⟨o1, p1, o2, p2, o3, p3, o4, p4, o5, p5, o6, p6, rfl⟩ := ho.form
 have L7 := hide (L6.step hb)
 have N1 := hide (NdR.ofO (S := fun k => k = gA ∨ k = gB) ho fun k hk => by have := L6.b1.lt; have := L6.b2.lt; omega)
 obtain ⟨w8, HW, hof, hbx⟩ := st7 w7 gA (.int .i64 X.self) (.slice o1 X.st.clock.length p1) (.slice o2 X.st.lives.length p2) (.slice o3 X.st.tals.length p3) (.slice o4 X.base.length p4) (.slice o5 X.log.length p5) (.slice o6 X.known.length p6)
 have L8 := hide (L7.put1 hof (hbx L7.b1))
 have N2 := hide (N1.off (hof.sub fun k hk => .inl hk))
 clear g0 g1 g2 g3 g4 g5 g6 v0 v1 v2 v3 v4
 obtain ⟨r0, e0, r1, e1, r2, e2, r3, e3, r4, e4, r5, e5, r6, e6⟩ := L7.b1.seven
 go_upto_region 6 with fail
 rw [HW.out]
 clear r0 e0 r1 e1 r2 e2 r3 e3 r4 e4 r5 e5 r6 e6 hof hbx HW ho hb N1 L6 L7
 obtain ⟨g0, g1, g2, g3, g4, g5, g6⟩ := L8.bd.c7
 obtain ⟨v0, v1, v2, v3, v4⟩ := L8.bu.c5
 go_wp2_with fail
 refine (issue_ref (S := fun k => k = gA ∨ k = gB) _ (NdF.old (S := fun k => k = gA ∨ k = gB) HI.1 L8.hb fun k hk => by have := L8.hg; have := L8.hh; omega) (HI.2.1.below L8.hb (nlr _)) (fun k hk => by have := L8.b1.lt; have := L8.b2.lt; omega)).mono ?_
 rintro e w9 ⟨rv, rfl, ho, hb⟩
 rw [HE.out]
 rw [HX.out] at ho
 obtain ⟨s1, t1, s2, t2, s3, t3, s4, t4, s5, t5, s6, t6, rfl, hF⟩ := ho.form
 have L9 := hide (L8.step hb)
 obtain ⟨w10, HW, hof, hbx⟩ := st7 w9 gB (.int .i64 X.self) (.slice s1 X.st.clock.length t1) (.slice s2 X.st.lives.length t2) (.slice s3 X.st.tals.length t3) (.slice s4 X.base.length t4) (.slice s5 X.log.length t5) (.slice s6 X.known.length t6)
 have L10 := hide (L9.put2 hof (hbx L9.b2))
 have N4 := hide ((N2.off (offB hb (nlr _))).off (hof.sub fun k hk => .inr hk)).node
 have M4 := hide (hF.off (hof.sub fun k hk => .inr hk)).node
 clear g0 g1 g2 g3 g4 g5 g6 v0 v1 v2 v3 v4
 obtain ⟨r0, e0, r1, e1, r2, e2, r3, e3, r4, e4, r5, e5, r6, e6⟩ := L9.b2.seven
 go_upto_region 7 with fail
 rw [HW.out]
 clear r0 e0 r1 e1 r2 e2 r3 e3 r4 e4 r5 e5 r6 e6 hof hbx HW ho hF hb N2 L8 L9
 obtain ⟨r0, r1, r2, r3, r4, r5, r6⟩ := L10.b1.c7
 obtain ⟨e0, e1, e2, e3, e4, e5, e6⟩ := L10.b2.c7
 have hEE : (E != E) = false := by simp
 go_wp2_with fail
 refine (sameNode_yes _ _ X _ N4.out M4.out).mono ?_
 rintro e w11 ⟨rfl, hb⟩
 have L11 := hide (L10.step hb)
 clear r0 r1 r2 r3 r4 r5 r6 e0 e1 e2 e3 e4 e5 e6 hEE hb N4 M4 L10
 obtain ⟨E, HE⟩ : ∃ E, Hid (otherE d j = E) := ⟨_, rfl⟩
 obtain ⟨X, HX⟩ : ∃ X, Hid (sendX d j = X) := ⟨_, rfl⟩
 obtain ⟨g0, g1, g2, g3, g4, g5, g6⟩ := L11.bd.c7
 go_wp2_with fail
 refine (send_node _ d j _ (HI.1.below L11.hb (nlr _))).mono ?_
 rintro e w12 ⟨rv, rfl, ho, hb⟩
 rw [HE.out]
 rw [HX.out] at ho
 obtain ⟨o1, p1, o2, p2, o3, p3, o4, p4, o5, p5, rfl, -⟩ := ho.pcl.form
 obtain ⟨w13, HW, V13, HB, -⟩ := lay1 w12 [.bool X.whole, .slice o1 X.st.clock.length p1, .slice o2 X.st.lives.length p2, .slice o3 X.st.tals.length p3, .slice o4 X.ups.length p4, .slice o5 X.clock.length p5] 35
 have L13 := hide ((L11.step hb).step HB.out)
 have N13 := hide (ho.pcl.below HB.out (nlr _))
 clear g0 g1 g2 g3 g4 g5 g6
 go_upto_region 10 with fail
 rw [HW.out]
 clear HW ho hb HB L11
 obtain ⟨g0, g1, g2, g3, g4, g5, g6⟩ := L13.bd.c7
 go_wp2_with fail
 refine (send_ref (S := fun _ => False) j _ (NdF.old HI.1 L13.hb fun _ hk => hk.elim) (fun _ hk => hk.elim)).mono ?_
 rintro e w14 ⟨rv, rfl, ho, hb⟩
 rw [HE.out]
 rw [HX.out] at ho
 have ho := ho.pcl
 obtain ⟨s1, t1, s2, t2, s3, t3, s4, t4, s5, t5, rfl, -⟩ := ho.form
 obtain ⟨w15, HW, V15, HB, -⟩ := lay1 w14 [.bool X.whole, .slice s1 X.st.clock.length t1, .slice s2 X.st.lives.length t2, .slice s3 X.st.tals.length t3, .slice s4 X.ups.length t4, .slice s5 X.clock.length t5] 35
 have L15 := hide ((L13.step hb).step HB.out)
 have N15 := hide ((N13.below hb (nlr _)).below HB.out (nlr _))
 have M15 := hide (ho.below HB.out (nlr _))
 have Z15 := hide ((V13.below hb (nlr _)).below HB.out (nlr _))
 clear g0 g1 g2 g3 g4 g5 g6
 go_upto_region 11 with fail
 rw [HW.out]
 clear HW ho hb HB L13 N13 V13
 obtain ⟨r0, r1, r2, r3, r4, r5⟩ := Z15.c6
 obtain ⟨e0, e1, e2, e3, e4, e5⟩ := V15.c6
 have hEE : (E != E) = false := by simp
 go_wp2_with fail
 refine (sameParcel_yes _ _ X _ N15.out M15.out).mono ?_
 rintro e w16 ⟨rfl, hb⟩
 have L16 := hide (L15.step hb)
 clear r0 r1 r2 r3 r4 r5 e0 e1 e2 e3 e4 e5 hEE hb N15 M15 L15 Z15 V15
 obtain ⟨E, HE⟩ : ∃ E, Hid (takeE d j p = E) := ⟨_, rfl⟩
 obtain ⟨X, HX⟩ : ∃ X, Hid (takeX d j p = X) := ⟨_, rfl⟩
 obtain ⟨g0, g1, g2, g3, g4, g5, g6⟩ := L16.bd.c7
 obtain ⟨v0, v1, v2, v3, v4, v5⟩ := L16.bp.c6
 go_wp2_with fail
 refine (take_node _ _ d j p _ (HI.1.below L16.hb (nlr _)) (HI.2.2.below L16.hb (nlr _))).mono ?_
 rintro e w17 ⟨rv, rfl, ho, hb⟩
 rw [HE.out]
 rw [HX.out] at ho
 obtain ⟨o1, p1, o2, p2, o3, p3, o4, p4, o5, p5, o6, p6, rfl⟩ := ho.form
 have L17 := hide (L16.step hb)
 have N1 := hide (NdR.ofO (S := fun k => k = gA ∨ k = gB) ho fun k hk => by have := L16.b1.lt; have := L16.b2.lt; omega)
 obtain ⟨w18, HW, hof, hbx⟩ := st7 w17 gA (.int .i64 X.self) (.slice o1 X.st.clock.length p1) (.slice o2 X.st.lives.length p2) (.slice o3 X.st.tals.length p3) (.slice o4 X.base.length p4) (.slice o5 X.log.length p5) (.slice o6 X.known.length p6)
 have L18 := hide (L17.put1 hof (hbx L17.b1))
 have N2 := hide (N1.off (hof.sub fun k hk => .inl hk))
 clear g0 g1 g2 g3 g4 g5 g6 v0 v1 v2 v3 v4 v5
 obtain ⟨r0, e0, r1, e1, r2, e2, r3, e3, r4, e4, r5, e5, r6, e6⟩ := L17.b1.seven
 go_upto_region 14 with fail
 rw [HW.out]
 clear r0 e0 r1 e1 r2 e2 r3 e3 r4 e4 r5 e5 r6 e6 hof hbx HW ho hb N1 L16 L17
 obtain ⟨g0, g1, g2, g3, g4, g5, g6⟩ := L18.bd.c7
 obtain ⟨v0, v1, v2, v3, v4, v5⟩ := L18.bp.c6
 go_wp2_with fail
 refine (take_ref (S := fun k => k = gA ∨ k = gB) j _ (NdF.old (S := fun k => k = gA ∨ k = gB) HI.1 L18.hb fun k hk => by have := L18.hg; have := L18.hh; omega) (PcF.old (S := fun k => k = gA ∨ k = gB) HI.2.2 L18.hb fun k hk => by have := L18.hg; have := L18.hh; omega) (fun k hk => by have := L18.b1.lt; have := L18.b2.lt; omega)).mono ?_
 rintro e w19 ⟨rv, rfl, ho, hb⟩
 rw [HE.out]
 rw [HX.out] at ho
 obtain ⟨s1, t1, s2, t2, s3, t3, s4, t4, s5, t5, s6, t6, rfl, hF⟩ := ho.form
 have L19 := hide (L18.step hb)
 obtain ⟨w20, HW, hof, hbx⟩ := st7 w19 gB (.int .i64 X.self) (.slice s1 X.st.clock.length t1) (.slice s2 X.st.lives.length t2) (.slice s3 X.st.tals.length t3) (.slice s4 X.base.length t4) (.slice s5 X.log.length t5) (.slice s6 X.known.length t6)
 have L20 := hide (L19.put2 hof (hbx L19.b2))
 have N4 := hide ((N2.off (offB hb (nlr _))).off (hof.sub fun k hk => .inr hk)).node
 have M4 := hide (hF.off (hof.sub fun k hk => .inr hk)).node
 clear g0 g1 g2 g3 g4 g5 g6 v0 v1 v2 v3 v4 v5
 obtain ⟨r0, e0, r1, e1, r2, e2, r3, e3, r4, e4, r5, e5, r6, e6⟩ := L19.b2.seven
 go_upto_region 15 with fail
 rw [HW.out]
 clear r0 e0 r1 e1 r2 e2 r3 e3 r4 e4 r5 e5 r6 e6 hof hbx HW ho hF hb N2 L18 L19
 obtain ⟨r0, r1, r2, r3, r4, r5, r6⟩ := L20.b1.c7
 obtain ⟨e0, e1, e2, e3, e4, e5, e6⟩ := L20.b2.c7
 have hEE : (E != E) = false := by simp
 go_wp2_with fail
 refine (sameNode_yes _ _ X _ N4.out M4.out).mono ?_
 rintro e w21 ⟨rfl, hb⟩
 have L21 := hide (L20.step hb)
 clear r0 r1 r2 r3 r4 r5 r6 e0 e1 e2 e3 e4 e5 e6 hEE hb N4 M4 L20
 obtain ⟨E, HE⟩ : ∃ E, Hid (nodeE d = E) := ⟨_, rfl⟩
 obtain ⟨X, HX⟩ : ∃ X, Hid (pruneX d = X) := ⟨_, rfl⟩
 obtain ⟨g0, g1, g2, g3, g4, g5, g6⟩ := L21.bd.c7
 go_wp2_with fail
 refine (prune_node _ d _ (HI.1.below L21.hb (nlr _))).mono ?_
 rintro e w22 ⟨rv, rfl, ho, hb⟩
 rw [HE.out]
 rw [HX.out] at ho
 obtain ⟨o1, p1, o2, p2, o3, p3, o4, p4, o5, p5, o6, p6, rfl⟩ := ho.form
 have L22 := hide (L21.step hb)
 have N1 := hide (NdR.ofO (S := fun k => k = gA ∨ k = gB) ho fun k hk => by have := L21.b1.lt; have := L21.b2.lt; omega)
 obtain ⟨w23, HW, hof, hbx⟩ := st7 w22 gA (.int .i64 X.self) (.slice o1 X.st.clock.length p1) (.slice o2 X.st.lives.length p2) (.slice o3 X.st.tals.length p3) (.slice o4 X.base.length p4) (.slice o5 X.log.length p5) (.slice o6 X.known.length p6)
 have L23 := hide (L22.put1 hof (hbx L22.b1))
 have N2 := hide (N1.off (hof.sub fun k hk => .inl hk))
 clear g0 g1 g2 g3 g4 g5 g6
 obtain ⟨r0, e0, r1, e1, r2, e2, r3, e3, r4, e4, r5, e5, r6, e6⟩ := L22.b1.seven
 go_upto_region 18 with fail
 rw [HW.out]
 clear r0 e0 r1 e1 r2 e2 r3 e3 r4 e4 r5 e5 r6 e6 hof hbx HW ho hb N1 L21 L22
 obtain ⟨g0, g1, g2, g3, g4, g5, g6⟩ := L23.bd.c7
 go_wp2_with fail
 refine (prune_ref (S := fun k => k = gA ∨ k = gB) _ (NdF.old (S := fun k => k = gA ∨ k = gB) HI.1 L23.hb fun k hk => by have := L23.hg; have := L23.hh; omega) (fun k hk => by have := L23.b1.lt; have := L23.b2.lt; omega)).mono ?_
 rintro e w24 ⟨rv, rfl, ho, hb⟩
 rw [HE.out]
 rw [HX.out] at ho
 obtain ⟨s1, t1, s2, t2, s3, t3, s4, t4, s5, t5, s6, t6, rfl, hF⟩ := ho.form
 have L24 := hide (L23.step hb)
 obtain ⟨w25, HW, hof, hbx⟩ := st7 w24 gB (.int .i64 X.self) (.slice s1 X.st.clock.length t1) (.slice s2 X.st.lives.length t2) (.slice s3 X.st.tals.length t3) (.slice s4 X.base.length t4) (.slice s5 X.log.length t5) (.slice s6 X.known.length t6)
 have L25 := hide (L24.put2 hof (hbx L24.b2))
 have N4 := hide ((N2.off (offB hb (nlr _))).off (hof.sub fun k hk => .inr hk)).node
 have M4 := hide (hF.off (hof.sub fun k hk => .inr hk)).node
 clear g0 g1 g2 g3 g4 g5 g6
 obtain ⟨r0, e0, r1, e1, r2, e2, r3, e3, r4, e4, r5, e5, r6, e6⟩ := L24.b2.seven
 go_upto_region 19 with fail
 rw [HW.out]
 clear r0 e0 r1 e1 r2 e2 r3 e3 r4 e4 r5 e5 r6 e6 hof hbx HW ho hF hb N2 L23 L24
 obtain ⟨r0, r1, r2, r3, r4, r5, r6⟩ := L25.b1.c7
 obtain ⟨e0, e1, e2, e3, e4, e5, e6⟩ := L25.b2.c7
 have hEE : (E == E) = true := by simp
 go_wp2_with fail
 refine (sameNode_yes _ _ X _ N4.out M4.out).mono ?_
 rintro e w26 ⟨rfl, hb⟩
 have L26 := hide (L25.step hb)
 clear r0 r1 r2 r3 r4 r5 r6 e0 e1 e2 e3 e4 e5 e6 hEE hb N4 M4 L25
 go_wp2_with fail
 go_ret
 exact ⟨rfl, L26.hb⟩
end Go.Proofs.YtfhecilhcofboaaGreat
