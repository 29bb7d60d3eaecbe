/- What is read, looked at: pruneref4.sameCells, pruneref4.SameView, of what is the same. -/
import Derived.Test.YtalglngjafkdjaaStU
import Derived.Test.YtalglngjafkdjaaStVw
namespace Go.Proofs.Ytalglngjafkdjaa
open Go.RowKit

/-- A slice of cells reads so. -/
def CellR (w : World) (v : Value) (cs : List (Int × List Int)) : Prop :=
  ∃ a cap, v = .slice a cs.length cap ∧ cs.length ≤ cap ∧ cap ≤ maxLen ∧ ∀ k c, cs[k]? = some c → ∃ b off vi, a = some ⟨b, off, none⟩ ∧ w.cell? ⟨b, off + k * 2, none⟩ = some (.int .i64 c.1) ∧ w.cell? ⟨b, off + k * 2 + 1, none⟩ = some vi ∧ Row w vi c.2
theorem CellR.below {w w' : World} {v : Value} {cs : List (Int × List Int)} (h : CellR w v cs) {B : Nat} (hb : Below B w w') (hB : w.heap.size ≤ B) : CellR w' v cs := by
  obtain ⟨a, cap, h1, h2, h3, h4⟩ := h
  refine ⟨a, cap, h1, h2, h3, fun k c hc => ?_⟩
  obtain ⟨b, off, vi, e0, e1, e2, e3⟩ := h4 k c hc
  exact ⟨b, off, vi, e0, (hb.cell (p := ⟨b, off + k * 2, none⟩) (Nat.lt_of_lt_of_le (World.block_lt_of_cell? w _ e1) hB)).trans e1, (hb.cell (p := ⟨b, off + k * 2 + 1, none⟩) (Nat.lt_of_lt_of_le (World.block_lt_of_cell? w _ e2) hB)).trans e2, e3.below hb hB⟩
theorem CellR.len_le {w : World} {v : Value} {cs : List (Int × List Int)} (h : CellR w v cs) : cs.length ≤ 9223372036854775807 := by
  obtain ⟨a, cap, -, h2, h3, -⟩ := h
  unfold maxLen at h3
  omega
theorem CellR.nil (w : World) : CellR w (.slice none 0 0) [] := ⟨none, 0, rfl, Nat.le_refl _, by unfold maxLen; omega, fun k c h => by simp at h⟩
theorem CellO.read {w : World} {B : Nat} {v : Value} {ps : List ((Int × List Int) × Value)} (h : CellO w B v ps) : CellR w v (ps.map (·.1)) := by
  rcases own_ways h.row with ⟨rfl, rfl⟩ | ⟨g, cap, hv, -, hh, hn, hm⟩
  · exact CellR.nil w
  · refine ⟨some ⟨g, 0, Option.none⟩, cap, by rw [hv, List.length_map], by rw [List.length_map]; exact hn, hm, fun k c hc => ?_⟩
    rw [List.getElem?_map] at hc
    cases hp : ps[k]? with
    | none => rw [hp] at hc; cases hc
    | some p =>
      rw [hp] at hc
      simp only [Option.map_some, Option.some.injEq] at hc
      subst hc
      have e0 := hh.at encP_length (i := k) (x := p) hp (j := 0) rfl
      have e1 := hh.at encP_length (i := k) (x := p) hp (j := 1) rfl
      exact ⟨g, 0, p.2, rfl, by rw [Nat.zero_add]; exact e0, by rw [Nat.zero_add]; exact e1, (h.items p (List.mem_of_getElem? hp)).1.row⟩
/-- A view reads so. -/
def ViewR (w : World) (v : Value) (x : Vw) : Prop := ∃ rv sv cv, v = .agg #[rv, sv, cv] ∧ CellR w rv x.regs ∧ CellR w sv x.sets ∧ SliceV 2 encC w cv x.cnts
theorem ViewO.read {w : World} {B : Nat} {v : Value} {x : Vw} (h : ViewO w B v x) : ViewR w v x := by
  obtain ⟨rv, sv, cv, pr, ps, h1, h2, h3, h4, h5, h6⟩ := h
  exact ⟨rv, sv, cv, h1, by rw [← h3]; exact h2.read, by rw [← h5]; exact h4.read, slice_of_own encC_length h6⟩
theorem ViewR.below {w w' : World} {v : Value} {x : Vw} (h : ViewR w v x) {B : Nat} (hb : Below B w w') (hB : w.heap.size ≤ B) : ViewR w' v x := by
  obtain ⟨rv, sv, cv, h1, h2, h3, h4⟩ := h
  exact ⟨rv, sv, cv, h1, h2.below hb hB, h3.below hb hB, h4.below hb hB⟩

set_option maxRecDepth 100000 in
set_option maxHeartbeats 2000000 in
theorem sameCells_yes (v u : Value) (cs : List (Int × List Int)) (w : World) (h : CellR w v cs) (hu : CellR w u cs) :
    Calls Try.prog 45 #[v, u] w fun e w' => e = .returned (.bool true) ∧ Below w.heap.size w w' := by
  have hl := h.len_le
  have C0 := hide h
  have D0 := hide hu
  obtain ⟨a, cap, rfl, -, -, -⟩ := h
  obtain ⟨b, dap, rfl, -, -, -⟩ := hu
  have e1 : ((cs.length : Int) != (cs.length : Int)) = false := by simp
  go_enter Try.func45, Try.ntmps45
  go_wp2_with fail
  go_loopw [13] (fun i wr => ∃ k : Nat, k ≤ cs.length ∧ i = .int .i64 k ∧ Hid (Below w.heap.size w wr)) (fun i _ => cs.length - (intOf i).toNat)
  case atStart => exact ⟨0, Nat.zero_le _, rfl, hide (Below.refl _ _)⟩
  case round =>
    obtain ⟨k, hk, rfl, HB1⟩ := hrel
    obtain ⟨w1, rfl⟩ : ∃ w1, w1 = wr := ⟨wr, rfl⟩
    have C1 := hide (C0.out.below HB1.out (Nat.le_refl _))
    have D1 := hide (D0.out.below HB1.out (Nat.le_refl _))
    clear C0 D0
    by_cases hlt : k < cs.length
    · obtain ⟨c, hc⟩ : ∃ c, cs[k]? = some c := ⟨_, List.getElem?_eq_getElem hlt⟩
      obtain ⟨ax, cx, hvx, -, -, h4⟩ := C1.out
      simp only [Value.slice.injEq] at hvx
      obtain ⟨rfl, -, rfl⟩ := hvx
      obtain ⟨g1, o1, v1, rfl, e1', e2', e3'⟩ := h4 k c hc
      obtain ⟨ay, cy, hvy, -, -, h5⟩ := D1.out
      simp only [Value.slice.injEq] at hvy
      obtain ⟨rfl, -, rfl⟩ := hvy
      obtain ⟨g2, o2, v2, rfl, f1, f2, f3⟩ := h5 k c hc
      obtain ⟨t1, u1, rfl, -, -, -⟩ := id e3'
      obtain ⟨t2, u2, rfl, -, -, -⟩ := id f3
      have HK : Hid (∀ w', Grew w1 w' → (w'.cell? ⟨g1, o1 + k * 2, none⟩ = some (.int .i64 c.1) ∧ w'.cell? ⟨g1, o1 + k * 2 + 1, none⟩ = some (.slice t1 c.2.length u1)) ∧ w'.cell? ⟨g2, o2 + k * 2, none⟩ = some (.int .i64 c.1) ∧ w'.cell? ⟨g2, o2 + k * 2 + 1, none⟩ = some (.slice t2 c.2.length u2)) := fun w' hg =>
        ⟨⟨(hg.cell (p := ⟨g1, o1 + k * 2, none⟩) (World.block_lt_of_cell? _ _ e1')).trans e1', (hg.cell (p := ⟨g1, o1 + k * 2 + 1, none⟩) (World.block_lt_of_cell? _ _ e2')).trans e2'⟩, (hg.cell (p := ⟨g2, o2 + k * 2, none⟩) (World.block_lt_of_cell? _ _ f1)).trans f1, (hg.cell (p := ⟨g2, o2 + k * 2 + 1, none⟩) (World.block_lt_of_cell? _ _ f2)).trans f2⟩
      have HS : Hid (∀ w', Grew w1 w' → Calls Try.prog 31 #[.slice t1 c.2.length u1, .slice t2 c.2.length u2] w' fun e w'' => e = .returned (.bool true) ∧ Grew w1 w'') := fun w' hg => by
        have hs := same_ref _ _ c.2 c.2 w' (e3'.below hg (Nat.le_refl _)) (f3.below hg (Nat.le_refl _))
        rw [decide_eq_true rfl] at hs
        refine hs.mono ?_
        rintro e w'' ⟨rfl, hb⟩
        exact ⟨rfl, grew_step hg hb⟩
      have hlt' : (k : Int) < (cs.length : Int) := by omega
      have hk0 : (0 : Int) ≤ (k : Int) := by omega
      have hq : (c.1 != c.1) = false := by simp
      clear h4 h5 C1 D1 hc e1' e2' e3' f1 f2 f3
      go_upto_region 6 with fail
      go_cut [40] (fun cc wx => cc = .bool false ∧ Hid (Grew w1 wx))
      case first =>
        go_region_held3 (fun w' => (w'.cell? ⟨g1, o1 + k * 2, none⟩ = some (.int .i64 c.1) ∧ w'.cell? ⟨g1, o1 + k * 2 + 1, none⟩ = some (.slice t1 c.2.length u1)) ∧ w'.cell? ⟨g2, o2 + k * 2, none⟩ = some (.int .i64 c.1) ∧ w'.cell? ⟨g2, o2 + k * 2 + 1, none⟩ = some (.slice t2 c.2.length u2))
          ((refine HK.out _ ?_; (first | assumption | exact grew_drew (grew_refl _) | exact grew_drew (by assumption))))
          (first | (go_at_call 31; refine (HS.out _ ?_).mono ?_; (first | assumption | exact grew_drew (grew_refl _) | exact grew_drew (by assumption)); rintro e w' ⟨rfl, hgr⟩))
        all_goals (go_wp2_with fail; go_meet; exact ⟨by simp, by assumption⟩)
      case rest =>
        obtain ⟨rfl, HGR⟩ := hcut
        have HB2 := hide (below_step HB1.out HGR.out)
        clear HK HS HGR HB1
        go_wp2_with fail
        go_roundw
        case rel => exact ⟨k + 1, by omega, by go_num, HB2⟩
        case measure => simp [intOf]; omega
    · have hlt' : ¬ (k : Int) < (cs.length : Int) := by omega
      go_wp2_with fail
      go_ret
      exact ⟨rfl, HB1.out⟩

theorem eq_two (p q p' q' : Int) (w : World) : (Op.equalIn 10000 82 (.agg #[.int .i64 p, .int .i64 q]) (.agg #[.int .i64 p', .int .i64 q'])).run Try.prog w = .ok (p == p' && q == q') w := by
  have h1 : ∀ a b : Int, (Op.equalIn 9999 3 (.int .i64 a) (.int .i64 b)).run Try.prog w = .ok (a == b) w := fun a b => run_equalIn_int w 9998 3 .i64 .i64 a b Try.underlying3
  have h2 : (Go.part 3 #[.int .i64 p, .int .i64 q] 0).run Try.prog w = .ok (.int .i64 p) w := by kernel_rfl
  have h3 : (Go.part 3 #[.int .i64 p, .int .i64 q] 1).run Try.prog w = .ok (.int .i64 q) w := by kernel_rfl
  have h4 : (Go.part 3 #[.int .i64 p', .int .i64 q'] 0).run Try.prog w = .ok (.int .i64 p') w := by kernel_rfl
  have h5 : (Go.part 3 #[.int .i64 p', .int .i64 q'] 1).run Try.prog w = .ok (.int .i64 q') w := by kernel_rfl
  have h6 : (Go.sizeOf 3).run Try.prog w = .ok 1 w := by kernel_rfl
  have hu : Try.prog.underlying 82 = some (.array 2 3) := by kernel_rfl
  show (Op.equalIn (9999 + 1) 82 _ _).run Try.prog w = _
  rw [Op.equalIn]
  simp only [Sem.run_bind, run_underlying hu, Result.andThen_ok, h6, Std.Legacy.Range.forIn_eq_forIn_range', Std.Legacy.Range.size, List.range', List.forIn_cons, List.forIn_nil]
  simp only [Nat.zero_mul, h2, h4, Result.andThen_ok, h1]
  cases p == p' with
  | false => simp
  | true =>
    by_cases hq : q = q'
    · subst hq; simp [h3, h5, h1]
    · simp [h3, h5, h1, hq]
theorem pairAt {w : World} {a : Option Addr} {m c : Nat} {l : List (Int × Int)} (h : SliceV 2 encC w (.slice a m c) l) {k : Nat} {x : Int × Int} (hx : l[k]? = some x) :
    ∃ b off, a = some ⟨b, off, none⟩ ∧ w.cell? ⟨b, off + k * 2, none⟩ = some (.int .i64 x.1) ∧ w.cell? ⟨b, off + k * 2 + 1, none⟩ = some (.int .i64 x.2) := by
  obtain ⟨b, off, h1, h2⟩ := h.at hx
  exact ⟨b, off, h1, h2 0 _ rfl, h2 1 _ rfl⟩
set_option maxRecDepth 100000 in
set_option maxHeartbeats 2000000 in
theorem sameView_yes (v u : Value) (x : Vw) (w : World) (h : ViewR w v x) (hu : ViewR w u x) :
    Calls Try.prog 13 #[v, u] w fun e w' => e = .returned (.bool true) ∧ Below w.heap.size w w' := by
  obtain ⟨rv, sv, nv, rfl, hr, hs, hn⟩ := h
  obtain ⟨rv', sv', nv', rfl, hr', hs', hn'⟩ := hu
  obtain ⟨a1, cap1, rfl, -, -, -⟩ := id hr
  obtain ⟨a2, cap2, rfl, -, -, -⟩ := id hs
  obtain ⟨a3, cap3, rfl, -, -, -⟩ := id hn
  obtain ⟨b1, dap1, rfl, -, -, -⟩ := id hr'
  obtain ⟨b2, dap2, rfl, -, -, -⟩ := id hs'
  obtain ⟨b3, dap3, rfl, -, -, -⟩ := id hn'
  have hl := hn.len_le
  have hb2 := Below.plus (Below.plus (Below.refl w.heap.size w) (.cells #[.slice a1 x.regs.length cap1, .slice a2 x.sets.length cap2, .slice a3 x.cnts.length cap3] 40)) (.cells #[.slice b1 x.regs.length dap1, .slice b2 x.sets.length dap2, .slice b3 x.cnts.length dap3] 40)
  have A0 := hide (hr.below hb2 (Nat.le_refl _))
  have B0 := hide (hr'.below hb2 (Nat.le_refl _))
  have C0 := hide (hs.below hb2 (Nat.le_refl _))
  have D0 := hide (hs'.below hb2 (Nat.le_refl _))
  have E0 := hide (hn.below hb2 (Nat.le_refl _))
  have F0 := hide (hn'.below hb2 (Nat.le_refl _))
  have G0 := hide ((Box.new w [.slice a1 x.regs.length cap1, .slice a2 x.sets.length cap2, .slice a3 x.cnts.length cap3] 40).plus (.cells #[.slice b1 x.regs.length dap1, .slice b2 x.sets.length dap2, .slice b3 x.cnts.length dap3] 40))
  have H0 := hide (Box.new (w.alloc (.cells #[.slice a1 x.regs.length cap1, .slice a2 x.sets.length cap2, .slice a3 x.cnts.length cap3] 40)) [.slice b1 x.regs.length dap1, .slice b2 x.sets.length dap2, .slice b3 x.cnts.length dap3] 40)
  rw [World.size_alloc] at H0
  have HB0 := hide hb2
  have e2 : ((x.cnts.length : Int) != (x.cnts.length : Int)) = false := by simp
  clear hr hs hn hr' hs' hn' hb2
  go_enter Try.func13, Try.ntmps13
  have cG0 := G0.out.get 0 rfl
  have cG1 := G0.out.get 1 rfl
  have cG2 := G0.out.get 2 rfl
  have cH0 := H0.out.get 0 rfl
  have cH1 := H0.out.get 1 rfl
  have cH2 := H0.out.get 2 rfl
  go_wp2_with fail
  refine (sameCells_yes _ _ x.regs _ A0.out B0.out).mono ?_
  rintro e w1 ⟨rfl, hb⟩
  have HB1 := hide (below_step HB0.out hb)
  have A1 := hide (A0.out.below hb (Nat.le_refl _))
  have B1 := hide (B0.out.below hb (Nat.le_refl _))
  have C1 := hide (C0.out.below hb (Nat.le_refl _))
  have D1 := hide (D0.out.below hb (Nat.le_refl _))
  have E1 := hide (E0.out.below hb (Nat.le_refl _))
  have F1 := hide (F0.out.below hb (Nat.le_refl _))
  have G1 := hide (G0.out.below hb (Nat.le_refl _))
  have H1 := hide (H0.out.below hb (Nat.le_refl _))
  clear HB0 hb A0 B0 C0 D0 E0 F0 G0 H0
  clear cG0 cG1 cG2
  clear cH0 cH1 cH2
  have cG0 := G1.out.get 0 rfl
  have cG1 := G1.out.get 1 rfl
  have cG2 := G1.out.get 2 rfl
  have cH0 := H1.out.get 0 rfl
  have cH1 := H1.out.get 1 rfl
  have cH2 := H1.out.get 2 rfl
  go_wp2_with fail
  refine (sameCells_yes _ _ x.sets _ C1.out D1.out).mono ?_
  rintro e w2 ⟨rfl, hb⟩
  have HB2 := hide (below_step HB1.out hb)
  have A2 := hide (A1.out.below hb (Nat.le_refl _))
  have B2 := hide (B1.out.below hb (Nat.le_refl _))
  have C2 := hide (C1.out.below hb (Nat.le_refl _))
  have D2 := hide (D1.out.below hb (Nat.le_refl _))
  have E2 := hide (E1.out.below hb (Nat.le_refl _))
  have F2 := hide (F1.out.below hb (Nat.le_refl _))
  have G2 := hide (G1.out.below hb (Nat.le_refl _))
  have H2 := hide (H1.out.below hb (Nat.le_refl _))
  clear HB1 hb A1 B1 C1 D1 E1 F1 G1 H1
  clear cG0 cG1 cG2
  clear cH0 cH1 cH2
  have cG0 := G2.out.get 0 rfl
  have cG1 := G2.out.get 1 rfl
  have cG2 := G2.out.get 2 rfl
  have cH0 := H2.out.get 0 rfl
  have cH1 := H2.out.get 1 rfl
  have cH2 := H2.out.get 2 rfl
  go_wp2_with fail
  go_loopw [32] (fun i wr => ∃ k : Nat, k ≤ x.cnts.length ∧ i = .int .i64 k ∧ Hid (Below w2.heap.size w2 wr)) (fun i _ => x.cnts.length - (intOf i).toNat)
  case atStart => exact ⟨0, Nat.zero_le _, rfl, hide (Below.refl _ _)⟩
  case round =>
    obtain ⟨k, hk, rfl, HBr⟩ := hrel
    obtain ⟨w3, rfl⟩ : ∃ w3, w3 = wr := ⟨wr, rfl⟩
    have G3 := hide (G2.out.below HBr.out (Nat.le_refl _))
    have H3 := hide (H2.out.below HBr.out (Nat.le_refl _))
    have HB3 := hide (below_step HB2.out HBr.out)
    clear cG0 cG1 cG2 cH0 cH1 cH2
    by_cases hlt : k < x.cnts.length
    · obtain ⟨c, hc⟩ : ∃ c, x.cnts[k]? = some c := ⟨_, List.getElem?_eq_getElem hlt⟩
      obtain ⟨b, off, rfl, d0, d1⟩ := pairAt (E2.out.below HBr.out (Nat.le_refl _)) hc
      obtain ⟨b', off', rfl, p0, p1⟩ := pairAt (F2.out.below HBr.out (Nat.le_refl _)) hc
      have hlt' : (k : Int) < (x.cnts.length : Int) := by omega
      have hk0 : (0 : Int) ≤ (k : Int) := by omega
      have hg := G3.out.get 2 rfl
      have hh := H3.out.get 2 rfl
      have heq : ∀ w : World, (Op.equalIn 10000 82 (.agg #[.int .i64 c.1, .int .i64 c.2]) (.agg #[.int .i64 c.1, .int .i64 c.2])).run Try.prog w = .ok true w := fun w => by rw [eq_two]; simp
      go_upto_region 6 with fail
      go_quiet (fail)
      go_wp2_with fail
      go_roundw
      case rel => exact ⟨k + 1, by omega, by go_num, below_drewN HBr.out _⟩
      case measure => simp [intOf]; omega
    · have hlt' : ¬ (k : Int) < (x.cnts.length : Int) := by omega
      go_wp2_with fail
      go_ret
      exact ⟨rfl, HB3.out⟩
end Go.Proofs.Ytalglngjafkdjaa
