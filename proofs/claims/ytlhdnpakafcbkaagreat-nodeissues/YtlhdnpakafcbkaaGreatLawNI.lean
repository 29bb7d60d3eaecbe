/- NodeIssues, walked: what is issued is there. -/
import Derived.Test.YtlhdnpakafcbkaaGreatLawNT
namespace Go.Proofs.YtlhdnpakafcbkaaGreat
open Go.RowKit

theorem st_cast {w : World} {v : Value} {s r : StS} (h : IsSt w v s) (e : s = r) : IsSt w v r := e ▸ h
theorem NodeO.formK {w : World} {B : Nat} {v : Value} {d : NdS} (h : NodeO w B v d) {n5 : Nat} (h5 : d.log.length = n5) :
    ∃ a1 c1 a2 c2 a3 c3 a4 c4 a5 c5 a6 c6, v = .agg #[.int .i64 d.self, .slice a1 d.st.clock.length c1, .slice a2 d.st.lives.length c2, .slice a3 d.st.tals.length c3, .slice a4 d.base.length c4, .slice a5 n5 c5, .slice a6 d.known.length c6] := by
  subst h5
  exact h.form
theorem log_cast {w : World} {v : Value} {s r : List Upd} (h : LogV w v s) (e : s = r) : LogV w v r := e ▸ h
theorem issued_log {d : NdS} {u : Upd} (h : issueE d u = 0) : (issueX d u).log = d.log ++ [ownU d u] ∧ (issueX d u).st = playX d.st [ownU d u] ∧ playE d.st [ownU d u] = 0 ∧ d.log.length < 300 := by
  have hX : issueX d u = selfN (playD d (ownU d u)) := by unfold issueX; rw [if_pos h]
  unfold issueE at h
  split at h
  · next h0 =>
    have ho := nodeE_zero.1 h0
    obtain ⟨h1, -⟩ := (playN_zero ho.toOkM).1 h
    refine ⟨by rw [hX]; rfl, by rw [hX]; rfl, ?_, h1⟩
    unfold playN at h
    rw [if_neg (by omega)] at h
    exact h
  · next h0 => exact absurd h h0

set_option maxRecDepth 100000 in
set_option maxHeartbeats 8000000 in
theorem issues_law (v uv : Value) (d : NdS) (u : Upd) (w0 : World) (h : IsNode w0 v d) (hu : IsUpd w0 uv u) :
    Calls Tryz.prog 7 #[v, uv] w0 fun e w' => e = .returned (.bool true) ∧ Below w0.heap.size w0 w' := by
  have hin := h
  have huin := hu
  obtain ⟨da1, dc1, da2, dc2, da3, dc3, da4, dc4, da5, dc5, da6, dc6, rfl, hs1, hc1, -, hl1, -⟩ := h.form
  obtain ⟨sv, rfl, hs⟩ := hu
  obtain ⟨ua1, uc1, rfl, -, -, -⟩ := id hs
  have hb := Below.plus (Below.plus (Below.refl w0.heap.size w0) (.cells #[.int .i64 d.self, .slice da1 d.st.clock.length dc1, .slice da2 d.st.lives.length dc2, .slice da3 d.st.tals.length dc3, .slice da4 d.base.length dc4, .slice da5 d.log.length dc5, .slice da6 d.known.length dc6] 31)) (.cells #[.int .i64 u.author, .slice ua1 u.seen.length uc1, .int .i64 u.kind, .int .i64 u.key, .int .i64 u.item] 33)
  have G0 := hide ((Box.new w0 [.int .i64 d.self, .slice da1 d.st.clock.length dc1, .slice da2 d.st.lives.length dc2, .slice da3 d.st.tals.length dc3, .slice da4 d.base.length dc4, .slice da5 d.log.length dc5, .slice da6 d.known.length dc6] 31).plus (.cells #[.int .i64 u.author, .slice ua1 u.seen.length uc1, .int .i64 u.kind, .int .i64 u.key, .int .i64 u.item] 33))
  have J0 := hide (Box.new (w0.alloc (.cells #[.int .i64 d.self, .slice da1 d.st.clock.length dc1, .slice da2 d.st.lives.length dc2, .slice da3 d.st.tals.length dc3, .slice da4 d.base.length dc4, .slice da5 d.log.length dc5, .slice da6 d.known.length dc6] 31)) [.int .i64 u.author, .slice ua1 u.seen.length uc1, .int .i64 u.kind, .int .i64 u.key, .int .i64 u.item] 33)
  simp only [World.size_alloc] at J0
  have D0 := hide (hin.below hb (Nat.le_refl _))
  have U0 := hide (huin.below hb (Nat.le_refl _))
  have S0 := hide (hs1.below hb (Nat.le_refl _))
  have C0 := hide (hc1.below hb (Nat.le_refl _))
  have L0 := hide (hl1.below hb (Nat.le_refl _))
  have HB0 := hide hb
  clear h hs hs1 hc1 hl1 hin huin hb
  obtain ⟨E, HE⟩ : ∃ E, Hid (issueE d u = E) := ⟨_, rfl⟩
  obtain ⟨X, HX⟩ : ∃ X, Hid (issueX d u = X) := ⟨_, rfl⟩
  by_cases hE : E = 0
  · subst hE
    obtain ⟨i1, i2, i3, i4⟩ := issued_log HE.out
    rw [HX.out] at i1 i2
    obtain ⟨Z, HZ⟩ : ∃ Z, Hid (playX d.st [ownU d u] = Z) := ⟨_, rfl⟩
    rw [HZ.out] at i2
    have HI1 := hide i1
    have HI2 := hide i2
    have HI3 := hide i3
    have hlen : X.log.length = d.log.length + 1 := by rw [i1]; simp
    have HLEN := hide hlen
    have hu1 : X.log[d.log.length]? = some (ownU d u) := by rw [i1]; simp
    have HU1 := hide hu1
    clear i1 i2 i3 hlen hu1
    go_enter Tryz.func7, Tryz.ntmps7
    go_wp2_with fail
    refine (alive6 _).mono ?_
    rintro e w1 ⟨rfl, hb⟩
    have HB1 := hide (below_step HB0.out hb)
    have G1 := hide (G0.out.below hb (Nat.le_refl _))
    have J1 := hide (J0.out.below hb (Nat.le_refl _))
    have D1 := hide (D0.out.below hb (Nat.le_refl _))
    have U1 := hide (U0.out.below hb (Nat.le_refl _))
    have S1 := hide (S0.out.below hb (Nat.le_refl _))
    have C1 := hide (C0.out.below hb (Nat.le_refl _))
    have L1 := hide (L0.out.below hb (Nat.le_refl _))
    clear HB0 hb G0 J0 D0 U0 S0 C0 L0
    have cG0 := G1.out.get 0 rfl
    have cG1 := G1.out.get 1 rfl
    have cG2 := G1.out.get 2 rfl
    have cG3 := G1.out.get 3 rfl
    have cG4 := G1.out.get 4 rfl
    have cG5 := G1.out.get 5 rfl
    have cG6 := G1.out.get 6 rfl
    have cJ0 := J1.out.get 0 rfl
    have cJ1 := J1.out.get 1 rfl
    have cJ2 := J1.out.get 2 rfl
    have cJ3 := J1.out.get 3 rfl
    have cJ4 := J1.out.get 4 rfl
    go_wp2_with fail
    refine (issue_node _ _ d u _ D1.out U1.out).mono ?_
    rintro e w2 ⟨vX, rfl, hX, hb⟩
    have HB2 := hide (below_step HB1.out hb)
    have G2 := hide (G1.out.below hb (Nat.le_refl _))
    have J2 := hide (J1.out.below hb (Nat.le_refl _))
    have D2 := hide (D1.out.below hb (Nat.le_refl _))
    have U2 := hide (U1.out.below hb (Nat.le_refl _))
    have S2 := hide (S1.out.below hb (Nat.le_refl _))
    have C2 := hide (C1.out.below hb (Nat.le_refl _))
    have L2 := hide (L1.out.below hb (Nat.le_refl _))
    have X2 := hide hX
    clear HB1 hb G1 J1 D1 U1 S1 C1 L1
    rw [HE.out]
    rw [HX.out] at X2
    clear cG0 cG1 cG2 cG3 cG4 cG5 cG6
    clear cJ0 cJ1 cJ2 cJ3 cJ4
    obtain ⟨xa1, xc1, xa2, xc2, xa3, xc3, xa4, xc4, xa5, xc5, xa6, xc6, hvx⟩ := X2.out.formK HLEN.out
    subst hvx
    clear hX
    have HB3 := hide (below_step HB2.out (Below.plus (Below.refl _ w2) (.cells #[.int .i64 X.self, .slice xa1 X.st.clock.length xc1, .slice xa2 X.st.lives.length xc2, .slice xa3 X.st.tals.length xc3, .slice xa4 X.base.length xc4, .slice xa5 (d.log.length + 1) xc5, .slice xa6 X.known.length xc6] 31)))
    have G3 := hide (G2.out.below (Below.plus (Below.refl _ w2) (.cells #[.int .i64 X.self, .slice xa1 X.st.clock.length xc1, .slice xa2 X.st.lives.length xc2, .slice xa3 X.st.tals.length xc3, .slice xa4 X.base.length xc4, .slice xa5 (d.log.length + 1) xc5, .slice xa6 X.known.length xc6] 31)) (Nat.le_refl _))
    have J3 := hide (J2.out.below (Below.plus (Below.refl _ w2) (.cells #[.int .i64 X.self, .slice xa1 X.st.clock.length xc1, .slice xa2 X.st.lives.length xc2, .slice xa3 X.st.tals.length xc3, .slice xa4 X.base.length xc4, .slice xa5 (d.log.length + 1) xc5, .slice xa6 X.known.length xc6] 31)) (Nat.le_refl _))
    have D3 := hide (D2.out.below (Below.plus (Below.refl _ w2) (.cells #[.int .i64 X.self, .slice xa1 X.st.clock.length xc1, .slice xa2 X.st.lives.length xc2, .slice xa3 X.st.tals.length xc3, .slice xa4 X.base.length xc4, .slice xa5 (d.log.length + 1) xc5, .slice xa6 X.known.length xc6] 31)) (Nat.le_refl _))
    have U3 := hide (U2.out.below (Below.plus (Below.refl _ w2) (.cells #[.int .i64 X.self, .slice xa1 X.st.clock.length xc1, .slice xa2 X.st.lives.length xc2, .slice xa3 X.st.tals.length xc3, .slice xa4 X.base.length xc4, .slice xa5 (d.log.length + 1) xc5, .slice xa6 X.known.length xc6] 31)) (Nat.le_refl _))
    have S3 := hide (S2.out.below (Below.plus (Below.refl _ w2) (.cells #[.int .i64 X.self, .slice xa1 X.st.clock.length xc1, .slice xa2 X.st.lives.length xc2, .slice xa3 X.st.tals.length xc3, .slice xa4 X.base.length xc4, .slice xa5 (d.log.length + 1) xc5, .slice xa6 X.known.length xc6] 31)) (Nat.le_refl _))
    have C3 := hide (C2.out.below (Below.plus (Below.refl _ w2) (.cells #[.int .i64 X.self, .slice xa1 X.st.clock.length xc1, .slice xa2 X.st.lives.length xc2, .slice xa3 X.st.tals.length xc3, .slice xa4 X.base.length xc4, .slice xa5 (d.log.length + 1) xc5, .slice xa6 X.known.length xc6] 31)) (Nat.le_refl _))
    have L3 := hide (L2.out.below (Below.plus (Below.refl _ w2) (.cells #[.int .i64 X.self, .slice xa1 X.st.clock.length xc1, .slice xa2 X.st.lives.length xc2, .slice xa3 X.st.tals.length xc3, .slice xa4 X.base.length xc4, .slice xa5 (d.log.length + 1) xc5, .slice xa6 X.known.length xc6] 31)) (Nat.le_refl _))
    have X3 := hide (X2.out.below (Below.plus (Below.refl _ w2) (.cells #[.int .i64 X.self, .slice xa1 X.st.clock.length xc1, .slice xa2 X.st.lives.length xc2, .slice xa3 X.st.tals.length xc3, .slice xa4 X.base.length xc4, .slice xa5 (d.log.length + 1) xc5, .slice xa6 X.known.length xc6] 31)) (Nat.le_refl _))
    have Q3 := hide (Box.new w2 [.int .i64 X.self, .slice xa1 X.st.clock.length xc1, .slice xa2 X.st.lives.length xc2, .slice xa3 X.st.tals.length xc3, .slice xa4 X.base.length xc4, .slice xa5 (d.log.length + 1) xc5, .slice xa6 X.known.length xc6] 31)
    clear HB2 G2 J2 D2 U2 S2 C2 L2 X2
    clear U3 D3
    obtain ⟨W3, HW3⟩ : ∃ W, Hid (w2.alloc (.cells #[.int .i64 X.self, .slice xa1 X.st.clock.length xc1, .slice xa2 X.st.lives.length xc2, .slice xa3 X.st.tals.length xc3, .slice xa4 X.base.length xc4, .slice xa5 (d.log.length + 1) xc5, .slice xa6 X.known.length xc6] 31) = W) := ⟨_, rfl⟩
    rw [HW3.out] at G3 J3 S3 C3 L3 X3 Q3 HB3
    have hlog := X3.out.clk.2.2.2.1
    have hlog' : LogV W3 (.slice xa5 (d.log.length + 1) xc5) X.log := hlog
    obtain ⟨lb, lo, sa, sc, hadr, p0, p1, p2, p3, p4, hsr, hUB⟩ := hlog'.at HU1.out
    subst hadr
    have XLOG := hide hlog
    have HSR := hide hsr
    have HUB := hide hUB
    have P0 := hide p0
    have P1 := hide p1
    have P2 := hide p2
    have P3 := hide p3
    have P4 := hide p4
    clear hlog hlog' hsr hUB p0 p1 p2 p3 p4
    have HK : Hid (∀ w', Grew W3 w' → w'.cell? ⟨w0.heap.size, 0, none⟩ = some (.int .i64 d.self) ∧ w'.cell? ⟨w0.heap.size, 1, none⟩ = some (.slice da1 d.st.clock.length dc1) ∧ w'.cell? ⟨w0.heap.size, 2, none⟩ = some (.slice da2 d.st.lives.length dc2) ∧ w'.cell? ⟨w0.heap.size, 3, none⟩ = some (.slice da3 d.st.tals.length dc3) ∧ w'.cell? ⟨w0.heap.size, 4, none⟩ = some (.slice da4 d.base.length dc4) ∧ w'.cell? ⟨w0.heap.size, 5, none⟩ = some (.slice da5 d.log.length dc5) ∧ w'.cell? ⟨w0.heap.size, 6, none⟩ = some (.slice da6 d.known.length dc6) ∧ w'.cell? ⟨w0.heap.size + 1, 0, none⟩ = some (.int .i64 u.author) ∧ w'.cell? ⟨w0.heap.size + 1, 1, none⟩ = some (.slice ua1 u.seen.length uc1) ∧ w'.cell? ⟨w0.heap.size + 1, 2, none⟩ = some (.int .i64 u.kind) ∧ w'.cell? ⟨w0.heap.size + 1, 3, none⟩ = some (.int .i64 u.key) ∧ w'.cell? ⟨w0.heap.size + 1, 4, none⟩ = some (.int .i64 u.item) ∧ w'.cell? ⟨w2.heap.size, 0, none⟩ = some (.int .i64 X.self) ∧ w'.cell? ⟨w2.heap.size, 1, none⟩ = some (.slice xa1 X.st.clock.length xc1) ∧ w'.cell? ⟨w2.heap.size, 2, none⟩ = some (.slice xa2 X.st.lives.length xc2) ∧ w'.cell? ⟨w2.heap.size, 3, none⟩ = some (.slice xa3 X.st.tals.length xc3) ∧ w'.cell? ⟨w2.heap.size, 4, none⟩ = some (.slice xa4 X.base.length xc4) ∧ w'.cell? ⟨w2.heap.size, 5, none⟩ = some (.slice (some ⟨lb, lo, none⟩) (d.log.length + 1) xc5) ∧ w'.cell? ⟨w2.heap.size, 6, none⟩ = some (.slice xa6 X.known.length xc6) ∧ w'.cell? ⟨lb, lo + d.log.length * 5, none⟩ = some (.int .i64 d.self) ∧ w'.cell? ⟨lb, lo + d.log.length * 5 + 1, none⟩ = some (.slice sa d.st.clock.length sc) ∧ w'.cell? ⟨lb, lo + d.log.length * 5 + 2, none⟩ = some (.int .i64 u.kind) ∧ w'.cell? ⟨lb, lo + d.log.length * 5 + 3, none⟩ = some (.int .i64 u.key) ∧ w'.cell? ⟨lb, lo + d.log.length * 5 + 4, none⟩ = some (.int .i64 u.item)) := fun w' hg => ⟨(G3.out.below hg (Nat.le_refl _)).get 0 rfl, (G3.out.below hg (Nat.le_refl _)).get 1 rfl, (G3.out.below hg (Nat.le_refl _)).get 2 rfl, (G3.out.below hg (Nat.le_refl _)).get 3 rfl, (G3.out.below hg (Nat.le_refl _)).get 4 rfl, (G3.out.below hg (Nat.le_refl _)).get 5 rfl, (G3.out.below hg (Nat.le_refl _)).get 6 rfl, (J3.out.below hg (Nat.le_refl _)).get 0 rfl, (J3.out.below hg (Nat.le_refl _)).get 1 rfl, (J3.out.below hg (Nat.le_refl _)).get 2 rfl, (J3.out.below hg (Nat.le_refl _)).get 3 rfl, (J3.out.below hg (Nat.le_refl _)).get 4 rfl, (Q3.out.below hg (Nat.le_refl _)).get 0 rfl, (Q3.out.below hg (Nat.le_refl _)).get 1 rfl, (Q3.out.below hg (Nat.le_refl _)).get 2 rfl, (Q3.out.below hg (Nat.le_refl _)).get 3 rfl, (Q3.out.below hg (Nat.le_refl _)).get 4 rfl, (Q3.out.below hg (Nat.le_refl _)).get 5 rfl, (Q3.out.below hg (Nat.le_refl _)).get 6 rfl, (hg.cell (p := ⟨lb, lo + d.log.length * 5, none⟩) (World.block_lt_of_cell? W3 _ P0.out)).trans P0.out, (hg.cell (p := ⟨lb, lo + d.log.length * 5 + 1, none⟩) (World.block_lt_of_cell? W3 _ P1.out)).trans P1.out, (hg.cell (p := ⟨lb, lo + d.log.length * 5 + 2, none⟩) (World.block_lt_of_cell? W3 _ P2.out)).trans P2.out, (hg.cell (p := ⟨lb, lo + d.log.length * 5 + 3, none⟩) (World.block_lt_of_cell? W3 _ P3.out)).trans P3.out, (hg.cell (p := ⟨lb, lo + d.log.length * 5 + 4, none⟩) (World.block_lt_of_cell? W3 _ P4.out)).trans P4.out⟩
    have q5 := Q3.out.get 5 rfl
    have hn0 : ((d.log.length : Int) != (d.log.length : Int)) = false := by simp
    have hn1 : (d.self != d.self) = false := by simp
    have hn2 : (u.kind != u.kind) = false := by simp
    have hn3 : (u.key != u.key) = false := by simp
    have hn4 : (u.item != u.item) = false := by simp
    have hlt : (d.log.length : Int) < ((d.log.length + 1 : Nat) : Int) := by omega
    have hlt2 : (d.log.length : Int) < (d.log.length : Int) + 1 := by omega
    go_upto_region 7 with fail
    rw [HW3.out]
    clear q5
    go_cut [85] (fun c wx => c = .bool false ∧ Hid (Grew W3 wx))
    case first =>
      refine wp_region_held_drew (S := fun w' => w'.cell? ⟨w0.heap.size, 0, none⟩ = some (.int .i64 d.self) ∧ w'.cell? ⟨w0.heap.size, 1, none⟩ = some (.slice da1 d.st.clock.length dc1) ∧ w'.cell? ⟨w0.heap.size, 2, none⟩ = some (.slice da2 d.st.lives.length dc2) ∧ w'.cell? ⟨w0.heap.size, 3, none⟩ = some (.slice da3 d.st.tals.length dc3) ∧ w'.cell? ⟨w0.heap.size, 4, none⟩ = some (.slice da4 d.base.length dc4) ∧ w'.cell? ⟨w0.heap.size, 5, none⟩ = some (.slice da5 d.log.length dc5) ∧ w'.cell? ⟨w0.heap.size, 6, none⟩ = some (.slice da6 d.known.length dc6) ∧ w'.cell? ⟨w0.heap.size + 1, 0, none⟩ = some (.int .i64 u.author) ∧ w'.cell? ⟨w0.heap.size + 1, 1, none⟩ = some (.slice ua1 u.seen.length uc1) ∧ w'.cell? ⟨w0.heap.size + 1, 2, none⟩ = some (.int .i64 u.kind) ∧ w'.cell? ⟨w0.heap.size + 1, 3, none⟩ = some (.int .i64 u.key) ∧ w'.cell? ⟨w0.heap.size + 1, 4, none⟩ = some (.int .i64 u.item) ∧ w'.cell? ⟨w2.heap.size, 0, none⟩ = some (.int .i64 X.self) ∧ w'.cell? ⟨w2.heap.size, 1, none⟩ = some (.slice xa1 X.st.clock.length xc1) ∧ w'.cell? ⟨w2.heap.size, 2, none⟩ = some (.slice xa2 X.st.lives.length xc2) ∧ w'.cell? ⟨w2.heap.size, 3, none⟩ = some (.slice xa3 X.st.tals.length xc3) ∧ w'.cell? ⟨w2.heap.size, 4, none⟩ = some (.slice xa4 X.base.length xc4) ∧ w'.cell? ⟨w2.heap.size, 5, none⟩ = some (.slice (some ⟨lb, lo, none⟩) (d.log.length + 1) xc5) ∧ w'.cell? ⟨w2.heap.size, 6, none⟩ = some (.slice xa6 X.known.length xc6) ∧ w'.cell? ⟨lb, lo + d.log.length * 5, none⟩ = some (.int .i64 d.self) ∧ w'.cell? ⟨lb, lo + d.log.length * 5 + 1, none⟩ = some (.slice sa d.st.clock.length sc) ∧ w'.cell? ⟨lb, lo + d.log.length * 5 + 2, none⟩ = some (.int .i64 u.kind) ∧ w'.cell? ⟨lb, lo + d.log.length * 5 + 3, none⟩ = some (.int .i64 u.key) ∧ w'.cell? ⟨lb, lo + d.log.length * 5 + 4, none⟩ = some (.int .i64 u.item)) (by kernel_rfl) (HK.out _ (grew_drew (grew_refl _))) (fun hHeld => ?_)
      obtain ⟨wd, HWD⟩ : ∃ wd, Hid (W3.drew = wd) := ⟨_, rfl⟩
      have hgd : Grew W3 wd := by rw [← HWD.out]; exact grew_drew (grew_refl W3)
      rw [HWD.out] at hHeld ⊢
      refine take_yes 0 24 (.int .i64 (d.log.length : Int)) rfl rfl (by kernel_rfl) (by kernel_rfl) (by kernel_rfl) (fun _ _ _ h => h) rfl (by intro w hSw; (try dsimp only at hSw); go_simp) (by assumption) ?_
      simp only [Act.put, List.setIfInBounds_toArray, List.set_cons_zero, List.set_cons_succ]
      refine take_yes 1 25 (.pointer (some ⟨w0.heap.size, 5, none⟩)) rfl rfl (by kernel_rfl) (by kernel_rfl) (by kernel_rfl) (fun _ _ _ h => h) rfl (by intro w hSw; (try dsimp only at hSw); go_simp) (by assumption) ?_
      simp only [Act.put, List.setIfInBounds_toArray, List.set_cons_zero, List.set_cons_succ]
      refine take_yes 2 26 (.slice da5 d.log.length dc5) rfl rfl (by kernel_rfl) (by kernel_rfl) (by kernel_rfl) (fun _ _ _ h => h) rfl (by intro w hSw; (try dsimp only at hSw); go_simp) (by assumption) ?_
      simp only [Act.put, List.setIfInBounds_toArray, List.set_cons_zero, List.set_cons_succ]
      refine take_yes 3 27 (.int .i64 d.log.length) rfl rfl (by kernel_rfl) (by kernel_rfl) (by kernel_rfl) (fun _ _ _ h => h) rfl (by intro w hSw; (try dsimp only at hSw); go_simp) (by assumption) ?_
      simp only [Act.put, List.setIfInBounds_toArray, List.set_cons_zero, List.set_cons_succ]
      refine take_yes 4 28 (.bool false) rfl rfl (by kernel_rfl) (by kernel_rfl) (by kernel_rfl) (fun _ _ _ h => h) rfl (by intro w hSw; (try dsimp only at hSw); go_simp) (by assumption) ?_
      simp only [Act.put, List.setIfInBounds_toArray, List.set_cons_zero, List.set_cons_succ]
      refine take_yes 5 29 (.bool false) rfl rfl (by kernel_rfl) (by kernel_rfl) (by kernel_rfl) (fun _ _ _ h => h) rfl (by intro w hSw; (try dsimp only at hSw); go_simp) (by assumption) ?_
      simp only [Act.put, List.setIfInBounds_toArray, List.set_cons_zero, List.set_cons_succ]
      refine take_yes 6 30 (.pointer (some ⟨w2.heap.size, 5, none⟩)) rfl rfl (by kernel_rfl) (by kernel_rfl) (by kernel_rfl) (fun _ _ _ h => h) rfl (by intro w hSw; (try dsimp only at hSw); go_simp) (by assumption) ?_
      simp only [Act.put, List.setIfInBounds_toArray, List.set_cons_zero, List.set_cons_succ]
      refine take_yes 7 31 (.slice (some ⟨lb, lo, none⟩) (d.log.length + 1) xc5) rfl rfl (by kernel_rfl) (by kernel_rfl) (by kernel_rfl) (fun _ _ _ h => h) rfl (by intro w hSw; (try dsimp only at hSw); go_simp) (by assumption) ?_
      simp only [Act.put, List.setIfInBounds_toArray, List.set_cons_zero, List.set_cons_succ]
      refine take_yes 8 32 (.int .i64 (d.log.length : Int)) rfl rfl (by kernel_rfl) (by kernel_rfl) (by kernel_rfl) (fun _ _ _ h => h) rfl (by intro w hSw; (try dsimp only at hSw); go_simp) (by assumption) ?_
      simp only [Act.put, List.setIfInBounds_toArray, List.set_cons_zero, List.set_cons_succ]
      refine take_yes 9 33 (.pointer (some ⟨lb, lo + d.log.length * 5, none⟩)) rfl rfl (by kernel_rfl) (by kernel_rfl) (by kernel_rfl) (fun _ _ _ h => h) rfl (by intro w hSw; (try dsimp only at hSw); go_simp) (by assumption) ?_
      simp only [Act.put, List.setIfInBounds_toArray, List.set_cons_zero, List.set_cons_succ]
      refine take_yes 10 34 (.pointer (some ⟨lb, lo + d.log.length * 5, none⟩)) rfl rfl (by kernel_rfl) (by kernel_rfl) (by kernel_rfl) (fun _ _ _ h => h) rfl (by intro w hSw; (try dsimp only at hSw); go_simp) (by assumption) ?_
      simp only [Act.put, List.setIfInBounds_toArray, List.set_cons_zero, List.set_cons_succ]
      refine take_yes 11 35 (.int .i64 d.self) rfl rfl (by kernel_rfl) (by kernel_rfl) (by kernel_rfl) (fun _ _ _ h => h) rfl (by intro w hSw; (try dsimp only at hSw); go_simp) (by assumption) ?_
      simp only [Act.put, List.setIfInBounds_toArray, List.set_cons_zero, List.set_cons_succ]
      refine take_yes 12 36 (.pointer (some ⟨w0.heap.size, 0, none⟩)) rfl rfl (by kernel_rfl) (by kernel_rfl) (by kernel_rfl) (fun _ _ _ h => h) rfl (by intro w hSw; (try dsimp only at hSw); go_simp) (by assumption) ?_
      simp only [Act.put, List.setIfInBounds_toArray, List.set_cons_zero, List.set_cons_succ]
      refine take_yes 13 37 (.int .i64 d.self) rfl rfl (by kernel_rfl) (by kernel_rfl) (by kernel_rfl) (fun _ _ _ h => h) rfl (by intro w hSw; (try dsimp only at hSw); go_simp) (by assumption) ?_
      simp only [Act.put, List.setIfInBounds_toArray, List.set_cons_zero, List.set_cons_succ]
      refine take_yes 14 38 (.bool false) rfl rfl (by kernel_rfl) (by kernel_rfl) (by kernel_rfl) (fun _ _ _ h => h) rfl (by intro w hSw; (try dsimp only at hSw); go_simp) (by assumption) ?_
      simp only [Act.put, List.setIfInBounds_toArray, List.set_cons_zero, List.set_cons_succ]
      refine take_yes 15 39 (.bool false) rfl rfl (by kernel_rfl) (by kernel_rfl) (by kernel_rfl) (fun _ _ _ h => h) rfl (by intro w hSw; (try dsimp only at hSw); go_simp) (by assumption) ?_
      simp only [Act.put, List.setIfInBounds_toArray, List.set_cons_zero, List.set_cons_succ]
      refine take_yes 16 40 (.bool false) rfl rfl (by kernel_rfl) (by kernel_rfl) (by kernel_rfl) (fun _ _ _ h => h) rfl (by intro w hSw; (try dsimp only at hSw); go_simp) (by assumption) ?_
      simp only [Act.put, List.setIfInBounds_toArray, List.set_cons_zero, List.set_cons_succ]
      refine take_yes 17 41 (.pointer (some ⟨w2.heap.size, 5, none⟩)) rfl rfl (by kernel_rfl) (by kernel_rfl) (by kernel_rfl) (fun _ _ _ h => h) rfl (by intro w hSw; (try dsimp only at hSw); go_simp) (by assumption) ?_
      simp only [Act.put, List.setIfInBounds_toArray, List.set_cons_zero, List.set_cons_succ]
      refine take_yes 18 42 (.slice (some ⟨lb, lo, none⟩) (d.log.length + 1) xc5) rfl rfl (by kernel_rfl) (by kernel_rfl) (by kernel_rfl) (fun _ _ _ h => h) rfl (by intro w hSw; (try dsimp only at hSw); go_simp) (by assumption) ?_
      simp only [Act.put, List.setIfInBounds_toArray, List.set_cons_zero, List.set_cons_succ]
      refine take_yes 19 43 (.int .i64 (d.log.length : Int)) rfl rfl (by kernel_rfl) (by kernel_rfl) (by kernel_rfl) (fun _ _ _ h => h) rfl (by intro w hSw; (try dsimp only at hSw); go_simp) (by assumption) ?_
      simp only [Act.put, List.setIfInBounds_toArray, List.set_cons_zero, List.set_cons_succ]
      refine take_yes 20 44 (.pointer (some ⟨lb, lo + d.log.length * 5, none⟩)) rfl rfl (by kernel_rfl) (by kernel_rfl) (by kernel_rfl) (fun _ _ _ h => h) rfl (by intro w hSw; (try dsimp only at hSw); go_simp) (by assumption) ?_
      simp only [Act.put, List.setIfInBounds_toArray, List.set_cons_zero, List.set_cons_succ]
      refine take_yes 21 45 (.pointer (some ⟨lb, lo + d.log.length * 5 + 1, none⟩)) rfl rfl (by kernel_rfl) (by kernel_rfl) (by kernel_rfl) (fun _ _ _ h => h) rfl (by intro w hSw; (try dsimp only at hSw); go_simp) (by assumption) ?_
      simp only [Act.put, List.setIfInBounds_toArray, List.set_cons_zero, List.set_cons_succ]
      refine take_yes 22 46 (.slice sa d.st.clock.length sc) rfl rfl (by kernel_rfl) (by kernel_rfl) (by kernel_rfl) (fun _ _ _ h => h) rfl (by intro w hSw; (try dsimp only at hSw); go_simp) (by assumption) ?_
      simp only [Act.put, List.setIfInBounds_toArray, List.set_cons_zero, List.set_cons_succ]
      refine take_yes 23 47 (.pointer (some ⟨w0.heap.size, 1, none⟩)) rfl rfl (by kernel_rfl) (by kernel_rfl) (by kernel_rfl) (fun _ _ _ h => h) rfl (by intro w hSw; (try dsimp only at hSw); go_simp) (by assumption) ?_
      simp only [Act.put, List.setIfInBounds_toArray, List.set_cons_zero, List.set_cons_succ]
      refine take_yes 24 48 (.pointer (some ⟨w0.heap.size, 1, none⟩)) rfl rfl (by kernel_rfl) (by kernel_rfl) (by kernel_rfl) (fun _ _ _ h => h) rfl (by intro w hSw; (try dsimp only at hSw); go_simp) (by assumption) ?_
      simp only [Act.put, List.setIfInBounds_toArray, List.set_cons_zero, List.set_cons_succ]
      refine take_yes 25 49 (.slice da1 d.st.clock.length dc1) rfl rfl (by kernel_rfl) (by kernel_rfl) (by kernel_rfl) (fun _ _ _ h => h) rfl (by intro w hSw; (try dsimp only at hSw); go_simp) (by assumption) ?_
      simp only [Act.put, List.setIfInBounds_toArray, List.set_cons_zero, List.set_cons_succ]
      refine wpAnyH_ready (rs := [26]) (by kernel_rfl) (by simp) ?_
      refine (AllReadyH.cons (o := _) rfl (fun K hK => ?_) AllReadyH.nil)
      go_simp
      refine (same_yesW _ _ d.st.clock _ (HSR.out.below hgd (Nat.le_refl _)) (C3.out.below hgd (Nat.le_refl _))).mono ?_
      rintro e w_26 ⟨rfl, hb_26⟩
      have hg_26 : Grew W3 w_26 := grew_step hgd hb_26
      refine hK.out _ _ (HK.out _ hg_26) (fun _ => ?_)
      clear hK K
      try simp only [Act.put, List.setIfInBounds_toArray, List.set_cons_zero, List.set_cons_succ]
      refine take_yes 27 51 (.bool false) rfl rfl (by kernel_rfl) (by kernel_rfl) (by kernel_rfl) (fun _ _ _ h => h) rfl (by intro w hSw; (try dsimp only at hSw); go_simp) (by assumption) ?_
      simp only [Act.put, List.setIfInBounds_toArray, List.set_cons_zero, List.set_cons_succ]
      refine take_yes 28 52 (.bool false) rfl rfl (by kernel_rfl) (by kernel_rfl) (by kernel_rfl) (fun _ _ _ h => h) rfl (by intro w hSw; (try dsimp only at hSw); go_simp) (by assumption) ?_
      simp only [Act.put, List.setIfInBounds_toArray, List.set_cons_zero, List.set_cons_succ]
      refine take_yes 29 53 (.bool false) rfl rfl (by kernel_rfl) (by kernel_rfl) (by kernel_rfl) (fun _ _ _ h => h) rfl (by intro w hSw; (try dsimp only at hSw); go_simp) (by assumption) ?_
      simp only [Act.put, List.setIfInBounds_toArray, List.set_cons_zero, List.set_cons_succ]
      refine take_yes 30 54 (.pointer (some ⟨w2.heap.size, 5, none⟩)) rfl rfl (by kernel_rfl) (by kernel_rfl) (by kernel_rfl) (fun _ _ _ h => h) rfl (by intro w hSw; (try dsimp only at hSw); go_simp) (by assumption) ?_
      simp only [Act.put, List.setIfInBounds_toArray, List.set_cons_zero, List.set_cons_succ]
      refine take_yes 31 55 (.slice (some ⟨lb, lo, none⟩) (d.log.length + 1) xc5) rfl rfl (by kernel_rfl) (by kernel_rfl) (by kernel_rfl) (fun _ _ _ h => h) rfl (by intro w hSw; (try dsimp only at hSw); go_simp) (by assumption) ?_
      simp only [Act.put, List.setIfInBounds_toArray, List.set_cons_zero, List.set_cons_succ]
      refine take_yes 32 56 (.int .i64 (d.log.length : Int)) rfl rfl (by kernel_rfl) (by kernel_rfl) (by kernel_rfl) (fun _ _ _ h => h) rfl (by intro w hSw; (try dsimp only at hSw); go_simp) (by assumption) ?_
      simp only [Act.put, List.setIfInBounds_toArray, List.set_cons_zero, List.set_cons_succ]
      refine take_yes 33 57 (.pointer (some ⟨lb, lo + d.log.length * 5, none⟩)) rfl rfl (by kernel_rfl) (by kernel_rfl) (by kernel_rfl) (fun _ _ _ h => h) rfl (by intro w hSw; (try dsimp only at hSw); go_simp) (by assumption) ?_
      simp only [Act.put, List.setIfInBounds_toArray, List.set_cons_zero, List.set_cons_succ]
      refine take_yes 34 58 (.pointer (some ⟨lb, lo + d.log.length * 5 + 2, none⟩)) rfl rfl (by kernel_rfl) (by kernel_rfl) (by kernel_rfl) (fun _ _ _ h => h) rfl (by intro w hSw; (try dsimp only at hSw); go_simp) (by assumption) ?_
      simp only [Act.put, List.setIfInBounds_toArray, List.set_cons_zero, List.set_cons_succ]
      refine take_yes 35 59 (.int .i64 u.kind) rfl rfl (by kernel_rfl) (by kernel_rfl) (by kernel_rfl) (fun _ _ _ h => h) rfl (by intro w hSw; (try dsimp only at hSw); go_simp) (by assumption) ?_
      simp only [Act.put, List.setIfInBounds_toArray, List.set_cons_zero, List.set_cons_succ]
      refine take_yes 36 60 (.pointer (some ⟨w0.heap.size + 1, 2, none⟩)) rfl rfl (by kernel_rfl) (by kernel_rfl) (by kernel_rfl) (fun _ _ _ h => h) rfl (by intro w hSw; (try dsimp only at hSw); go_simp) (by assumption) ?_
      simp only [Act.put, List.setIfInBounds_toArray, List.set_cons_zero, List.set_cons_succ]
      refine take_yes 37 61 (.int .i64 u.kind) rfl rfl (by kernel_rfl) (by kernel_rfl) (by kernel_rfl) (fun _ _ _ h => h) rfl (by intro w hSw; (try dsimp only at hSw); go_simp) (by assumption) ?_
      simp only [Act.put, List.setIfInBounds_toArray, List.set_cons_zero, List.set_cons_succ]
      refine take_yes 38 62 (.bool false) rfl rfl (by kernel_rfl) (by kernel_rfl) (by kernel_rfl) (fun _ _ _ h => h) rfl (by intro w hSw; (try dsimp only at hSw); go_simp) (by assumption) ?_
      simp only [Act.put, List.setIfInBounds_toArray, List.set_cons_zero, List.set_cons_succ]
      refine take_yes 39 63 (.bool false) rfl rfl (by kernel_rfl) (by kernel_rfl) (by kernel_rfl) (fun _ _ _ h => h) rfl (by intro w hSw; (try dsimp only at hSw); go_simp) (by assumption) ?_
      simp only [Act.put, List.setIfInBounds_toArray, List.set_cons_zero, List.set_cons_succ]
      refine take_yes 40 64 (.bool false) rfl rfl (by kernel_rfl) (by kernel_rfl) (by kernel_rfl) (fun _ _ _ h => h) rfl (by intro w hSw; (try dsimp only at hSw); go_simp) (by assumption) ?_
      simp only [Act.put, List.setIfInBounds_toArray, List.set_cons_zero, List.set_cons_succ]
      refine take_yes 41 65 (.pointer (some ⟨w2.heap.size, 5, none⟩)) rfl rfl (by kernel_rfl) (by kernel_rfl) (by kernel_rfl) (fun _ _ _ h => h) rfl (by intro w hSw; (try dsimp only at hSw); go_simp) (by assumption) ?_
      simp only [Act.put, List.setIfInBounds_toArray, List.set_cons_zero, List.set_cons_succ]
      refine take_yes 42 66 (.slice (some ⟨lb, lo, none⟩) (d.log.length + 1) xc5) rfl rfl (by kernel_rfl) (by kernel_rfl) (by kernel_rfl) (fun _ _ _ h => h) rfl (by intro w hSw; (try dsimp only at hSw); go_simp) (by assumption) ?_
      simp only [Act.put, List.setIfInBounds_toArray, List.set_cons_zero, List.set_cons_succ]
      refine take_yes 43 67 (.int .i64 (d.log.length : Int)) rfl rfl (by kernel_rfl) (by kernel_rfl) (by kernel_rfl) (fun _ _ _ h => h) rfl (by intro w hSw; (try dsimp only at hSw); go_simp) (by assumption) ?_
      simp only [Act.put, List.setIfInBounds_toArray, List.set_cons_zero, List.set_cons_succ]
      refine take_yes 44 68 (.pointer (some ⟨lb, lo + d.log.length * 5, none⟩)) rfl rfl (by kernel_rfl) (by kernel_rfl) (by kernel_rfl) (fun _ _ _ h => h) rfl (by intro w hSw; (try dsimp only at hSw); go_simp) (by assumption) ?_
      simp only [Act.put, List.setIfInBounds_toArray, List.set_cons_zero, List.set_cons_succ]
      refine take_yes 45 69 (.pointer (some ⟨lb, lo + d.log.length * 5 + 3, none⟩)) rfl rfl (by kernel_rfl) (by kernel_rfl) (by kernel_rfl) (fun _ _ _ h => h) rfl (by intro w hSw; (try dsimp only at hSw); go_simp) (by assumption) ?_
      simp only [Act.put, List.setIfInBounds_toArray, List.set_cons_zero, List.set_cons_succ]
      refine take_yes 46 70 (.int .i64 u.key) rfl rfl (by kernel_rfl) (by kernel_rfl) (by kernel_rfl) (fun _ _ _ h => h) rfl (by intro w hSw; (try dsimp only at hSw); go_simp) (by assumption) ?_
      simp only [Act.put, List.setIfInBounds_toArray, List.set_cons_zero, List.set_cons_succ]
      refine take_yes 47 71 (.pointer (some ⟨w0.heap.size + 1, 3, none⟩)) rfl rfl (by kernel_rfl) (by kernel_rfl) (by kernel_rfl) (fun _ _ _ h => h) rfl (by intro w hSw; (try dsimp only at hSw); go_simp) (by assumption) ?_
      simp only [Act.put, List.setIfInBounds_toArray, List.set_cons_zero, List.set_cons_succ]
      refine take_yes 48 72 (.int .i64 u.key) rfl rfl (by kernel_rfl) (by kernel_rfl) (by kernel_rfl) (fun _ _ _ h => h) rfl (by intro w hSw; (try dsimp only at hSw); go_simp) (by assumption) ?_
      simp only [Act.put, List.setIfInBounds_toArray, List.set_cons_zero, List.set_cons_succ]
      refine take_yes 49 73 (.bool false) rfl rfl (by kernel_rfl) (by kernel_rfl) (by kernel_rfl) (fun _ _ _ h => h) rfl (by intro w hSw; (try dsimp only at hSw); go_simp) (by assumption) ?_
      simp only [Act.put, List.setIfInBounds_toArray, List.set_cons_zero, List.set_cons_succ]
      refine take_yes 50 74 (.bool false) rfl rfl (by kernel_rfl) (by kernel_rfl) (by kernel_rfl) (fun _ _ _ h => h) rfl (by intro w hSw; (try dsimp only at hSw); go_simp) (by assumption) ?_
      simp only [Act.put, List.setIfInBounds_toArray, List.set_cons_zero, List.set_cons_succ]
      refine take_yes 51 75 (.bool false) rfl rfl (by kernel_rfl) (by kernel_rfl) (by kernel_rfl) (fun _ _ _ h => h) rfl (by intro w hSw; (try dsimp only at hSw); go_simp) (by assumption) ?_
      simp only [Act.put, List.setIfInBounds_toArray, List.set_cons_zero, List.set_cons_succ]
      refine take_yes 52 76 (.pointer (some ⟨w2.heap.size, 5, none⟩)) rfl rfl (by kernel_rfl) (by kernel_rfl) (by kernel_rfl) (fun _ _ _ h => h) rfl (by intro w hSw; (try dsimp only at hSw); go_simp) (by assumption) ?_
      simp only [Act.put, List.setIfInBounds_toArray, List.set_cons_zero, List.set_cons_succ]
      refine take_yes 53 77 (.slice (some ⟨lb, lo, none⟩) (d.log.length + 1) xc5) rfl rfl (by kernel_rfl) (by kernel_rfl) (by kernel_rfl) (fun _ _ _ h => h) rfl (by intro w hSw; (try dsimp only at hSw); go_simp) (by assumption) ?_
      simp only [Act.put, List.setIfInBounds_toArray, List.set_cons_zero, List.set_cons_succ]
      refine take_yes 54 78 (.int .i64 (d.log.length : Int)) rfl rfl (by kernel_rfl) (by kernel_rfl) (by kernel_rfl) (fun _ _ _ h => h) rfl (by intro w hSw; (try dsimp only at hSw); go_simp) (by assumption) ?_
      simp only [Act.put, List.setIfInBounds_toArray, List.set_cons_zero, List.set_cons_succ]
      refine take_yes 55 79 (.pointer (some ⟨lb, lo + d.log.length * 5, none⟩)) rfl rfl (by kernel_rfl) (by kernel_rfl) (by kernel_rfl) (fun _ _ _ h => h) rfl (by intro w hSw; (try dsimp only at hSw); go_simp) (by assumption) ?_
      simp only [Act.put, List.setIfInBounds_toArray, List.set_cons_zero, List.set_cons_succ]
      refine take_yes 56 80 (.pointer (some ⟨lb, lo + d.log.length * 5 + 4, none⟩)) rfl rfl (by kernel_rfl) (by kernel_rfl) (by kernel_rfl) (fun _ _ _ h => h) rfl (by intro w hSw; (try dsimp only at hSw); go_simp) (by assumption) ?_
      simp only [Act.put, List.setIfInBounds_toArray, List.set_cons_zero, List.set_cons_succ]
      refine take_yes 57 81 (.int .i64 u.item) rfl rfl (by kernel_rfl) (by kernel_rfl) (by kernel_rfl) (fun _ _ _ h => h) rfl (by intro w hSw; (try dsimp only at hSw); go_simp) (by assumption) ?_
      simp only [Act.put, List.setIfInBounds_toArray, List.set_cons_zero, List.set_cons_succ]
      refine take_yes 58 82 (.pointer (some ⟨w0.heap.size + 1, 4, none⟩)) rfl rfl (by kernel_rfl) (by kernel_rfl) (by kernel_rfl) (fun _ _ _ h => h) rfl (by intro w hSw; (try dsimp only at hSw); go_simp) (by assumption) ?_
      simp only [Act.put, List.setIfInBounds_toArray, List.set_cons_zero, List.set_cons_succ]
      refine take_yes 59 83 (.int .i64 u.item) rfl rfl (by kernel_rfl) (by kernel_rfl) (by kernel_rfl) (fun _ _ _ h => h) rfl (by intro w hSw; (try dsimp only at hSw); go_simp) (by assumption) ?_
      simp only [Act.put, List.setIfInBounds_toArray, List.set_cons_zero, List.set_cons_succ]
      refine take_yes 60 84 (.bool false) rfl rfl (by kernel_rfl) (by kernel_rfl) (by kernel_rfl) (fun _ _ _ h => h) rfl (by intro w hSw; (try dsimp only at hSw); go_simp) (by assumption) ?_
      simp only [Act.put, List.setIfInBounds_toArray, List.set_cons_zero, List.set_cons_succ]
      refine take_yes 61 85 (.bool false) rfl rfl (by kernel_rfl) (by kernel_rfl) (by kernel_rfl) (fun _ _ _ h => h) rfl (by intro w hSw; (try dsimp only at hSw); go_simp) (by assumption) ?_
      simp only [Act.put, List.setIfInBounds_toArray, List.set_cons_zero, List.set_cons_succ]
      refine wpAnyH_done (by kernel_rfl) ?_ _
      go_wp2_with fail
      go_meet
      exact ⟨rfl, hg_26⟩
    case rest =>
      obtain ⟨rfl, HGR⟩ := hcut
      obtain ⟨w4, rfl⟩ : ∃ w4, w4 = wc := ⟨wc, rfl⟩
      have HK4 : Hid (∀ w', Grew w4 w' → w'.cell? ⟨w0.heap.size, 0, none⟩ = some (.int .i64 d.self) ∧ w'.cell? ⟨w0.heap.size, 1, none⟩ = some (.slice da1 d.st.clock.length dc1) ∧ w'.cell? ⟨w0.heap.size, 2, none⟩ = some (.slice da2 d.st.lives.length dc2) ∧ w'.cell? ⟨w0.heap.size, 3, none⟩ = some (.slice da3 d.st.tals.length dc3) ∧ w'.cell? ⟨w0.heap.size, 4, none⟩ = some (.slice da4 d.base.length dc4) ∧ w'.cell? ⟨w0.heap.size, 5, none⟩ = some (.slice da5 d.log.length dc5) ∧ w'.cell? ⟨w0.heap.size, 6, none⟩ = some (.slice da6 d.known.length dc6) ∧ w'.cell? ⟨w0.heap.size + 1, 0, none⟩ = some (.int .i64 u.author) ∧ w'.cell? ⟨w0.heap.size + 1, 1, none⟩ = some (.slice ua1 u.seen.length uc1) ∧ w'.cell? ⟨w0.heap.size + 1, 2, none⟩ = some (.int .i64 u.kind) ∧ w'.cell? ⟨w0.heap.size + 1, 3, none⟩ = some (.int .i64 u.key) ∧ w'.cell? ⟨w0.heap.size + 1, 4, none⟩ = some (.int .i64 u.item) ∧ w'.cell? ⟨w2.heap.size, 0, none⟩ = some (.int .i64 X.self) ∧ w'.cell? ⟨w2.heap.size, 1, none⟩ = some (.slice xa1 X.st.clock.length xc1) ∧ w'.cell? ⟨w2.heap.size, 2, none⟩ = some (.slice xa2 X.st.lives.length xc2) ∧ w'.cell? ⟨w2.heap.size, 3, none⟩ = some (.slice xa3 X.st.tals.length xc3) ∧ w'.cell? ⟨w2.heap.size, 4, none⟩ = some (.slice xa4 X.base.length xc4) ∧ w'.cell? ⟨w2.heap.size, 5, none⟩ = some (.slice (some ⟨lb, lo, none⟩) (d.log.length + 1) xc5) ∧ w'.cell? ⟨w2.heap.size, 6, none⟩ = some (.slice xa6 X.known.length xc6) ∧ w'.cell? ⟨lb, lo + d.log.length * 5, none⟩ = some (.int .i64 d.self) ∧ w'.cell? ⟨lb, lo + d.log.length * 5 + 1, none⟩ = some (.slice sa d.st.clock.length sc) ∧ w'.cell? ⟨lb, lo + d.log.length * 5 + 2, none⟩ = some (.int .i64 u.kind) ∧ w'.cell? ⟨lb, lo + d.log.length * 5 + 3, none⟩ = some (.int .i64 u.key) ∧ w'.cell? ⟨lb, lo + d.log.length * 5 + 4, none⟩ = some (.int .i64 u.item)) := fun w' hg => HK.out w' (grew_step HGR.out hg)
      have S4 := hide (S3.out.below HGR.out (Nat.le_refl _))
      have L4 := hide (L3.out.below HGR.out (Nat.le_refl _))
      have X4 := hide (X3.out.below HGR.out (Nat.le_refl _))
      have HB4 := hide (below_step HB3.out HGR.out)
      have HUB4 := hide (HUB.out.below HGR.out (Nat.le_refl _))
      clear HK S3 L3 G3 J3 C3 X3 Q3 HB3 HSR HUB XLOG P0 P1 P2 P3 P4
      go_upto_region 9 with fail
      go_cut [8, 9] (fun c1 c2 wx => ∃ gs z1 t1 z2 t2 z3 t3, c1 = .pointer (some ⟨gs, 0, none⟩) ∧ c2 = .int .i64 0 ∧ Hid (Box wx gs [.slice z1 Z.clock.length t1, .slice z2 Z.lives.length t2, .slice z3 Z.tals.length t3] 27) ∧ Hid (StOwn wx w4.heap.size (.agg #[.slice z1 Z.clock.length t1, .slice z2 Z.lives.length t2, .slice z3 Z.tals.length t3]) Z) ∧ Hid (Grew w4 wx))
      case first =>
        refine wp_region_held_drew (S := fun w' => w'.cell? ⟨w0.heap.size, 0, none⟩ = some (.int .i64 d.self) ∧ w'.cell? ⟨w0.heap.size, 1, none⟩ = some (.slice da1 d.st.clock.length dc1) ∧ w'.cell? ⟨w0.heap.size, 2, none⟩ = some (.slice da2 d.st.lives.length dc2) ∧ w'.cell? ⟨w0.heap.size, 3, none⟩ = some (.slice da3 d.st.tals.length dc3) ∧ w'.cell? ⟨w0.heap.size, 4, none⟩ = some (.slice da4 d.base.length dc4) ∧ w'.cell? ⟨w0.heap.size, 5, none⟩ = some (.slice da5 d.log.length dc5) ∧ w'.cell? ⟨w0.heap.size, 6, none⟩ = some (.slice da6 d.known.length dc6) ∧ w'.cell? ⟨w0.heap.size + 1, 0, none⟩ = some (.int .i64 u.author) ∧ w'.cell? ⟨w0.heap.size + 1, 1, none⟩ = some (.slice ua1 u.seen.length uc1) ∧ w'.cell? ⟨w0.heap.size + 1, 2, none⟩ = some (.int .i64 u.kind) ∧ w'.cell? ⟨w0.heap.size + 1, 3, none⟩ = some (.int .i64 u.key) ∧ w'.cell? ⟨w0.heap.size + 1, 4, none⟩ = some (.int .i64 u.item) ∧ w'.cell? ⟨w2.heap.size, 0, none⟩ = some (.int .i64 X.self) ∧ w'.cell? ⟨w2.heap.size, 1, none⟩ = some (.slice xa1 X.st.clock.length xc1) ∧ w'.cell? ⟨w2.heap.size, 2, none⟩ = some (.slice xa2 X.st.lives.length xc2) ∧ w'.cell? ⟨w2.heap.size, 3, none⟩ = some (.slice xa3 X.st.tals.length xc3) ∧ w'.cell? ⟨w2.heap.size, 4, none⟩ = some (.slice xa4 X.base.length xc4) ∧ w'.cell? ⟨w2.heap.size, 5, none⟩ = some (.slice (some ⟨lb, lo, none⟩) (d.log.length + 1) xc5) ∧ w'.cell? ⟨w2.heap.size, 6, none⟩ = some (.slice xa6 X.known.length xc6) ∧ w'.cell? ⟨lb, lo + d.log.length * 5, none⟩ = some (.int .i64 d.self) ∧ w'.cell? ⟨lb, lo + d.log.length * 5 + 1, none⟩ = some (.slice sa d.st.clock.length sc) ∧ w'.cell? ⟨lb, lo + d.log.length * 5 + 2, none⟩ = some (.int .i64 u.kind) ∧ w'.cell? ⟨lb, lo + d.log.length * 5 + 3, none⟩ = some (.int .i64 u.key) ∧ w'.cell? ⟨lb, lo + d.log.length * 5 + 4, none⟩ = some (.int .i64 u.item)) (by kernel_rfl) (HK4.out _ (grew_drew (grew_refl _))) (fun hHeld => ?_)
        obtain ⟨wd, HWD⟩ : ∃ wd, Hid (w4.drew = wd) := ⟨_, rfl⟩
        have hgd : Grew w4 wd := by rw [← HWD.out]; exact grew_drew (grew_refl w4)
        rw [HWD.out] at hHeld ⊢
        refine take_yes 0 87 (.pointer (some ⟨w0.heap.size, 1, none⟩)) rfl rfl (by kernel_rfl) (by kernel_rfl) (by kernel_rfl) (fun _ _ _ h => h) rfl (by intro w hSw; (try dsimp only at hSw); go_simp) (by assumption) ?_
        simp only [Act.put, List.setIfInBounds_toArray, List.set_cons_zero, List.set_cons_succ]
        refine take_yes 1 88 (.agg #[.slice da1 d.st.clock.length dc1, .slice da2 d.st.lives.length dc2, .slice da3 d.st.tals.length dc3]) rfl rfl (by kernel_rfl) (by kernel_rfl) (by kernel_rfl) (fun _ _ _ h => h) rfl (by intro w hSw; (try dsimp only at hSw); go_simp) (by assumption) ?_
        simp only [Act.put, List.setIfInBounds_toArray, List.set_cons_zero, List.set_cons_succ]
        refine take_yes 2 89 (.pointer (some ⟨w2.heap.size, 5, none⟩)) rfl rfl (by kernel_rfl) (by kernel_rfl) (by kernel_rfl) (fun _ _ _ h => h) rfl (by intro w hSw; (try dsimp only at hSw); go_simp) (by assumption) ?_
        simp only [Act.put, List.setIfInBounds_toArray, List.set_cons_zero, List.set_cons_succ]
        refine take_yes 3 90 (.slice (some ⟨lb, lo, none⟩) (d.log.length + 1) xc5) rfl rfl (by kernel_rfl) (by kernel_rfl) (by kernel_rfl) (fun _ _ _ h => h) rfl (by intro w hSw; (try dsimp only at hSw); go_simp) (by assumption) ?_
        simp only [Act.put, List.setIfInBounds_toArray, List.set_cons_zero, List.set_cons_succ]
        refine take_yes 4 91 (.int .i64 (d.log.length : Int)) rfl rfl (by kernel_rfl) (by kernel_rfl) (by kernel_rfl) (fun _ _ _ h => h) rfl (by intro w hSw; (try dsimp only at hSw); go_simp) (by assumption) ?_
        simp only [Act.put, List.setIfInBounds_toArray, List.set_cons_zero, List.set_cons_succ]
        refine take_yes 5 92 (.pointer (some ⟨lb, lo + d.log.length * 5, none⟩)) rfl rfl (by kernel_rfl) (by kernel_rfl) (by kernel_rfl) (fun _ _ _ h => h) rfl (by intro w hSw; (try dsimp only at hSw); go_simp) (by assumption) ?_
        simp only [Act.put, List.setIfInBounds_toArray, List.set_cons_zero, List.set_cons_succ]
        refine take_yes 6 93 (.agg #[.int .i64 d.self, .slice sa d.st.clock.length sc, .int .i64 u.kind, .int .i64 u.key, .int .i64 u.item]) rfl rfl (by kernel_rfl) (by kernel_rfl) (by kernel_rfl) (fun _ _ _ h => h) rfl (by intro w hSw; (try dsimp only at hSw); go_simp) (by assumption) ?_
        simp only [Act.put, List.setIfInBounds_toArray, List.set_cons_zero, List.set_cons_succ]
        refine wpAnyH_ready (rs := [7, 11]) (by kernel_rfl) (by simp) ?_
        refine (AllReadyH.cons (o := _) rfl (fun K hK => ?_) (AllReadyH.cons (o := _) rfl (fun K hK => ?_) AllReadyH.nil))
        · skip
          go_simp
          refine (apply_state _ _ d.st (ownU d u) _ (S4.out.below hgd (Nat.le_refl _)) (HUB4.out.below hgd (Nat.le_refl _))).mono ?_
          rintro e w_7 ⟨rv_7, rfl, hq_7, hb_7⟩
          rw [HI3.out]
          rw [HZ.out] at hq_7
          obtain ⟨za_7, zc_7, zb_7, zd_7, ze_7, zf_7, hrv⟩ := hq_7.formW
          subst hrv
          have ho_7 := hq_7.base (C := w4.heap.size) (by have := hgd.size; omega)
          have hg_7 : Grew w4 w_7 := grew_step hgd hb_7
          refine hK.out _ _ (HK4.out _ hg_7) (fun _ => ?_)
          clear hK K
          try simp only [Act.put, List.setIfInBounds_toArray, List.set_cons_zero, List.set_cons_succ]
          refine take_yes 8 86 (.tuple #[.agg #[.slice za_7 Z.clock.length zc_7, .slice zb_7 Z.lives.length zd_7, .slice ze_7 Z.tals.length zf_7], .int .i64 0]) rfl rfl (by kernel_rfl) (by kernel_rfl) (by kernel_rfl) (fun _ _ _ h => h) rfl (by intro w hSw; (try dsimp only at hSw); go_simp) (by assumption) ?_
          simp only [Act.put, List.setIfInBounds_toArray, List.set_cons_zero, List.set_cons_succ]
          refine take_yes 9 95 (.agg #[.slice za_7 Z.clock.length zc_7, .slice zb_7 Z.lives.length zd_7, .slice ze_7 Z.tals.length zf_7]) rfl rfl (by kernel_rfl) (by kernel_rfl) (by kernel_rfl) (fun _ _ _ h => h) rfl (by intro w hSw; (try dsimp only at hSw); go_simp) (by assumption) ?_
          simp only [Act.put, List.setIfInBounds_toArray, List.set_cons_zero, List.set_cons_succ]
          refine take_yes 10 96 (.int .i64 0) rfl rfl (by kernel_rfl) (by kernel_rfl) (by kernel_rfl) (fun _ _ _ h => h) rfl (by intro w hSw; (try dsimp only at hSw); go_simp) (by assumption) ?_
          simp only [Act.put, List.setIfInBounds_toArray, List.set_cons_zero, List.set_cons_succ]
          refine wpAnyH_ready (rs := [11]) (by kernel_rfl) (by simp) ?_
          refine (AllReadyH.cons (o := _) rfl (fun K hK => ?_) AllReadyH.nil)
          go_simp
          have hb_7_11 := Below.plus (Below.refl w_7.heap.size w_7) (.cells #[.slice none 0 0, .slice none 0 0, .slice none 0 0] 27)
          have bx_7_11 := Box.new w_7 [.slice none 0 0, .slice none 0 0, .slice none 0 0] 27
          obtain ⟨w_7_11, HW_7_11⟩ : ∃ W, Hid (w_7.alloc (.cells #[.slice none 0 0, .slice none 0 0, .slice none 0 0] 27) = W) := ⟨_, rfl⟩
          rw [HW_7_11.out] at hb_7_11 bx_7_11 ⊢
          have hge_7_11 : w4.heap.size ≤ w_7.heap.size := hg_7.size
          have hg_7_11 : Grew w4 w_7_11 := grew_step hg_7 hb_7_11
          have ZO_7_11 := ho_7.below hb_7_11 (Nat.le_refl _)
          refine hK.out _ _ (HK4.out _ hg_7_11) (fun _ => ?_)
          clear hK K
          try simp only [Act.put, List.setIfInBounds_toArray, List.set_cons_zero, List.set_cons_succ]
          refine wpAnyH_ready (rs := [12]) (by kernel_rfl) (by simp) ?_
          refine (AllReadyH.cons (o := _) rfl (fun K hK => ?_) AllReadyH.nil)
          have c0_7_11_12 := bx_7_11.get 0 rfl
          have f0_7_11_12 := bx_7_11.free 0
          have c1_7_11_12 := bx_7_11.get 1 rfl
          have f1_7_11_12 := bx_7_11.free 1
          have c2_7_11_12 := bx_7_11.get 2 rfl
          have f2_7_11_12 := bx_7_11.free 2
          go_simp
          have hgs_7_11_12 : w4.heap.size ≤ w_7.heap.size := by omega
          have bs_7_11_12 := (((bx_7_11.set 0 (.slice za_7 Z.clock.length zc_7)).set 1 (.slice zb_7 Z.lives.length zd_7)).set 2 (.slice ze_7 Z.tals.length zf_7))
          have os_7_11_12 := (((ZO_7_11.setT bx_7_11 (by decide) (by decide) (by decide) 0 (.slice za_7 Z.clock.length zc_7)).setT (bx_7_11.set 0 (.slice za_7 Z.clock.length zc_7)) (by decide) (by decide) (by decide) 1 (.slice zb_7 Z.lives.length zd_7)).setT ((bx_7_11.set 0 (.slice za_7 Z.clock.length zc_7)).set 1 (.slice zb_7 Z.lives.length zd_7)) (by decide) (by decide) (by decide) 2 (.slice ze_7 Z.tals.length zf_7))
          have gr_7_11_12 : Grew w4 _ := (Below.setCell (Below.setCell (Below.setCell hg_7_11 (p := ⟨w_7.heap.size, 0, none⟩) hgs_7_11_12 (.slice za_7 Z.clock.length zc_7)) (p := ⟨w_7.heap.size, 1, none⟩) hgs_7_11_12 (.slice zb_7 Z.lives.length zd_7)) (p := ⟨w_7.heap.size, 2, none⟩) hgs_7_11_12 (.slice ze_7 Z.tals.length zf_7))
          obtain ⟨w_7_11_12, HW_7_11_12⟩ : ∃ W, Hid ((((w_7_11.setCell ⟨w_7.heap.size, 0, none⟩ (.slice za_7 Z.clock.length zc_7)).setCell ⟨w_7.heap.size, 1, none⟩ (.slice zb_7 Z.lives.length zd_7)).setCell ⟨w_7.heap.size, 2, none⟩ (.slice ze_7 Z.tals.length zf_7)) = W) := ⟨_, rfl⟩
          rw [HW_7_11_12.out] at bs_7_11_12 os_7_11_12 gr_7_11_12
          try rw [HW_7_11_12.out]
          clear c0_7_11_12 c1_7_11_12 c2_7_11_12 f0_7_11_12 f1_7_11_12 f2_7_11_12
          have hg_7_11_12 : Grew w4 w_7_11_12 := gr_7_11_12
          refine hK.out _ _ (HK4.out _ hg_7_11_12) (fun _ => ?_)
          clear hK K
          try simp only [Act.put, List.setIfInBounds_toArray, List.set_cons_zero, List.set_cons_succ]
          refine wpAnyH_ready (rs := [13]) (by kernel_rfl) (by simp) ?_
          refine (AllReadyH.cons (o := _) rfl (fun K hK => ?_) AllReadyH.nil)
          go_simp
          refine hK.out _ _ (HK4.out _ hg_7_11_12) (fun _ => ?_)
          clear hK K
          try simp only [Act.put, List.setIfInBounds_toArray, List.set_cons_zero, List.set_cons_succ]
          refine wpAnyH_done (by kernel_rfl) ?_ _
          go_wp2_with fail
          go_meet
          exact ⟨_, _, _, _, _, _, _, rfl, rfl, bs_7_11_12, os_7_11_12, hg_7_11_12⟩
        · skip
          go_simp
          have hb_11 := Below.plus (Below.refl wd.heap.size wd) (.cells #[.slice none 0 0, .slice none 0 0, .slice none 0 0] 27)
          have bx_11 := Box.new wd [.slice none 0 0, .slice none 0 0, .slice none 0 0] 27
          obtain ⟨w_11, HW_11⟩ : ∃ W, Hid (wd.alloc (.cells #[.slice none 0 0, .slice none 0 0, .slice none 0 0] 27) = W) := ⟨_, rfl⟩
          rw [HW_11.out] at hb_11 bx_11 ⊢
          have hge_11 : w4.heap.size ≤ wd.heap.size := hgd.size
          have hg_11 : Grew w4 w_11 := grew_step hgd hb_11
          refine hK.out _ _ (HK4.out _ hg_11) (fun _ => ?_)
          clear hK K
          try simp only [Act.put, List.setIfInBounds_toArray, List.set_cons_zero, List.set_cons_succ]
          refine wpAnyH_ready (rs := [7]) (by kernel_rfl) (by simp) ?_
          refine (AllReadyH.cons (o := _) rfl (fun K hK => ?_) AllReadyH.nil)
          go_simp
          refine (apply_state _ _ d.st (ownU d u) _ (S4.out.below hg_11 (Nat.le_refl _)) (HUB4.out.below hg_11 (Nat.le_refl _))).mono ?_
          rintro e w_11_7 ⟨rv_11_7, rfl, hq_11_7, hb_11_7⟩
          rw [HI3.out]
          rw [HZ.out] at hq_11_7
          obtain ⟨za_11_7, zc_11_7, zb_11_7, zd_11_7, ze_11_7, zf_11_7, hrv⟩ := hq_11_7.formW
          subst hrv
          have ho_11_7 := hq_11_7.base (C := w4.heap.size) (by have := hg_11.size; omega)
          have hg_11_7 : Grew w4 w_11_7 := grew_step hg_11 hb_11_7
          have BX_11_7 := bx_11.below hb_11_7 (Nat.le_refl _)
          refine hK.out _ _ (HK4.out _ hg_11_7) (fun _ => ?_)
          clear hK K
          try simp only [Act.put, List.setIfInBounds_toArray, List.set_cons_zero, List.set_cons_succ]
          refine take_yes 8 86 (.tuple #[.agg #[.slice za_11_7 Z.clock.length zc_11_7, .slice zb_11_7 Z.lives.length zd_11_7, .slice ze_11_7 Z.tals.length zf_11_7], .int .i64 0]) rfl rfl (by kernel_rfl) (by kernel_rfl) (by kernel_rfl) (fun _ _ _ h => h) rfl (by intro w hSw; (try dsimp only at hSw); go_simp) (by assumption) ?_
          simp only [Act.put, List.setIfInBounds_toArray, List.set_cons_zero, List.set_cons_succ]
          refine take_yes 9 95 (.agg #[.slice za_11_7 Z.clock.length zc_11_7, .slice zb_11_7 Z.lives.length zd_11_7, .slice ze_11_7 Z.tals.length zf_11_7]) rfl rfl (by kernel_rfl) (by kernel_rfl) (by kernel_rfl) (fun _ _ _ h => h) rfl (by intro w hSw; (try dsimp only at hSw); go_simp) (by assumption) ?_
          simp only [Act.put, List.setIfInBounds_toArray, List.set_cons_zero, List.set_cons_succ]
          refine take_yes 10 96 (.int .i64 0) rfl rfl (by kernel_rfl) (by kernel_rfl) (by kernel_rfl) (fun _ _ _ h => h) rfl (by intro w hSw; (try dsimp only at hSw); go_simp) (by assumption) ?_
          simp only [Act.put, List.setIfInBounds_toArray, List.set_cons_zero, List.set_cons_succ]
          refine wpAnyH_ready (rs := [12]) (by kernel_rfl) (by simp) ?_
          refine (AllReadyH.cons (o := _) rfl (fun K hK => ?_) AllReadyH.nil)
          have c0_11_7_12 := BX_11_7.get 0 rfl
          have f0_11_7_12 := BX_11_7.free 0
          have c1_11_7_12 := BX_11_7.get 1 rfl
          have f1_11_7_12 := BX_11_7.free 1
          have c2_11_7_12 := BX_11_7.get 2 rfl
          have f2_11_7_12 := BX_11_7.free 2
          go_simp
          have hgs_11_7_12 : w4.heap.size ≤ wd.heap.size := by omega
          have bs_11_7_12 := (((BX_11_7.set 0 (.slice za_11_7 Z.clock.length zc_11_7)).set 1 (.slice zb_11_7 Z.lives.length zd_11_7)).set 2 (.slice ze_11_7 Z.tals.length zf_11_7))
          have os_11_7_12 := (((ho_11_7.setT BX_11_7 (by decide) (by decide) (by decide) 0 (.slice za_11_7 Z.clock.length zc_11_7)).setT (BX_11_7.set 0 (.slice za_11_7 Z.clock.length zc_11_7)) (by decide) (by decide) (by decide) 1 (.slice zb_11_7 Z.lives.length zd_11_7)).setT ((BX_11_7.set 0 (.slice za_11_7 Z.clock.length zc_11_7)).set 1 (.slice zb_11_7 Z.lives.length zd_11_7)) (by decide) (by decide) (by decide) 2 (.slice ze_11_7 Z.tals.length zf_11_7))
          have gr_11_7_12 : Grew w4 _ := (Below.setCell (Below.setCell (Below.setCell hg_11_7 (p := ⟨wd.heap.size, 0, none⟩) hgs_11_7_12 (.slice za_11_7 Z.clock.length zc_11_7)) (p := ⟨wd.heap.size, 1, none⟩) hgs_11_7_12 (.slice zb_11_7 Z.lives.length zd_11_7)) (p := ⟨wd.heap.size, 2, none⟩) hgs_11_7_12 (.slice ze_11_7 Z.tals.length zf_11_7))
          obtain ⟨w_11_7_12, HW_11_7_12⟩ : ∃ W, Hid ((((w_11_7.setCell ⟨wd.heap.size, 0, none⟩ (.slice za_11_7 Z.clock.length zc_11_7)).setCell ⟨wd.heap.size, 1, none⟩ (.slice zb_11_7 Z.lives.length zd_11_7)).setCell ⟨wd.heap.size, 2, none⟩ (.slice ze_11_7 Z.tals.length zf_11_7)) = W) := ⟨_, rfl⟩
          rw [HW_11_7_12.out] at bs_11_7_12 os_11_7_12 gr_11_7_12
          try rw [HW_11_7_12.out]
          clear c0_11_7_12 c1_11_7_12 c2_11_7_12 f0_11_7_12 f1_11_7_12 f2_11_7_12
          have hg_11_7_12 : Grew w4 w_11_7_12 := gr_11_7_12
          refine hK.out _ _ (HK4.out _ hg_11_7_12) (fun _ => ?_)
          clear hK K
          try simp only [Act.put, List.setIfInBounds_toArray, List.set_cons_zero, List.set_cons_succ]
          refine wpAnyH_ready (rs := [13]) (by kernel_rfl) (by simp) ?_
          refine (AllReadyH.cons (o := _) rfl (fun K hK => ?_) AllReadyH.nil)
          go_simp
          refine hK.out _ _ (HK4.out _ hg_11_7_12) (fun _ => ?_)
          clear hK K
          try simp only [Act.put, List.setIfInBounds_toArray, List.set_cons_zero, List.set_cons_succ]
          refine wpAnyH_done (by kernel_rfl) ?_ _
          go_wp2_with fail
          go_meet
          exact ⟨_, _, _, _, _, _, _, rfl, rfl, bs_11_7_12, os_11_7_12, hg_11_7_12⟩
      case rest =>
        obtain ⟨gs, z1, t1, z2, t2, z3, t3, rfl, rfl, BX, OZ, HGS⟩ := hcut
        obtain ⟨w5, rfl⟩ : ∃ w5, w5 = wc := ⟨wc, rfl⟩
        have HK5 : Hid (∀ w', Grew w5 w' → w'.cell? ⟨w0.heap.size, 0, none⟩ = some (.int .i64 d.self) ∧ w'.cell? ⟨w0.heap.size, 1, none⟩ = some (.slice da1 d.st.clock.length dc1) ∧ w'.cell? ⟨w0.heap.size, 2, none⟩ = some (.slice da2 d.st.lives.length dc2) ∧ w'.cell? ⟨w0.heap.size, 3, none⟩ = some (.slice da3 d.st.tals.length dc3) ∧ w'.cell? ⟨w0.heap.size, 4, none⟩ = some (.slice da4 d.base.length dc4) ∧ w'.cell? ⟨w0.heap.size, 5, none⟩ = some (.slice da5 d.log.length dc5) ∧ w'.cell? ⟨w0.heap.size, 6, none⟩ = some (.slice da6 d.known.length dc6) ∧ w'.cell? ⟨w0.heap.size + 1, 0, none⟩ = some (.int .i64 u.author) ∧ w'.cell? ⟨w0.heap.size + 1, 1, none⟩ = some (.slice ua1 u.seen.length uc1) ∧ w'.cell? ⟨w0.heap.size + 1, 2, none⟩ = some (.int .i64 u.kind) ∧ w'.cell? ⟨w0.heap.size + 1, 3, none⟩ = some (.int .i64 u.key) ∧ w'.cell? ⟨w0.heap.size + 1, 4, none⟩ = some (.int .i64 u.item) ∧ w'.cell? ⟨w2.heap.size, 0, none⟩ = some (.int .i64 X.self) ∧ w'.cell? ⟨w2.heap.size, 1, none⟩ = some (.slice xa1 X.st.clock.length xc1) ∧ w'.cell? ⟨w2.heap.size, 2, none⟩ = some (.slice xa2 X.st.lives.length xc2) ∧ w'.cell? ⟨w2.heap.size, 3, none⟩ = some (.slice xa3 X.st.tals.length xc3) ∧ w'.cell? ⟨w2.heap.size, 4, none⟩ = some (.slice xa4 X.base.length xc4) ∧ w'.cell? ⟨w2.heap.size, 5, none⟩ = some (.slice (some ⟨lb, lo, none⟩) (d.log.length + 1) xc5) ∧ w'.cell? ⟨w2.heap.size, 6, none⟩ = some (.slice xa6 X.known.length xc6) ∧ w'.cell? ⟨lb, lo + d.log.length * 5, none⟩ = some (.int .i64 d.self) ∧ w'.cell? ⟨lb, lo + d.log.length * 5 + 1, none⟩ = some (.slice sa d.st.clock.length sc) ∧ w'.cell? ⟨lb, lo + d.log.length * 5 + 2, none⟩ = some (.int .i64 u.kind) ∧ w'.cell? ⟨lb, lo + d.log.length * 5 + 3, none⟩ = some (.int .i64 u.key) ∧ w'.cell? ⟨lb, lo + d.log.length * 5 + 4, none⟩ = some (.int .i64 u.item) ∧ w'.cell? ⟨gs, 0, none⟩ = some (.slice z1 Z.clock.length t1) ∧ w'.cell? ⟨gs, 1, none⟩ = some (.slice z2 Z.lives.length t2) ∧ w'.cell? ⟨gs, 2, none⟩ = some (.slice z3 Z.tals.length t3)) := by
          intro w' hg
          obtain ⟨e0, e1, e2, e3, e4, e5, e6, e7, e8, e9, e10, e11, e12, e13, e14, e15, e16, e17, e18, e19, e20, e21, e22, e23⟩ := HK4.out w' (grew_step HGS.out hg)
          have bx := BX.out.below hg (Nat.le_refl _)
          exact ⟨e0, e1, e2, e3, e4, e5, e6, e7, e8, e9, e10, e11, e12, e13, e14, e15, e16, e17, e18, e19, e20, e21, e22, e23, bx.get 0 rfl, bx.get 1 rfl, bx.get 2 rfl⟩
        have X5 := hide (X4.out.below HGS.out (Nat.le_refl _))
        have L5 := hide (L4.out.below HGS.out (Nat.le_refl _))
        have HB5 := hide (below_step HB4.out HGS.out)
        have hxs := X5.out.clk
        have XS := hide (st_cast hxs.2.2.1 HI2.out)
        have hlg : LogV w5 (.slice (some ⟨lb, lo, none⟩) (d.log.length + 1) xc5) X.log := hxs.2.2.2.1
        have XL : Hid (LogV w5 (.slice (some ⟨lb, lo, none⟩) d.log.length xc5) d.log) := log_cast (hlg.take (k := d.log.length) (by rw [HLEN.out]; omega)) (by rw [HI1.out]; simp)
        have hcap : d.log.length + 1 ≤ xc5 := by obtain ⟨a, c, h1, h2, -⟩ := hlg; simp only [Value.slice.injEq] at h1; obtain ⟨-, h1, rfl⟩ := h1; omega
        have hcap2 : (d.log.length : Int) ≤ (xc5 : Int) := by omega
        clear hxs hlg HK4 X4 L4 S4 HB4
        go_upto_region 10 with fail
        refine wp_region_held_drew (S := fun w' => w'.cell? ⟨w0.heap.size, 0, none⟩ = some (.int .i64 d.self) ∧ w'.cell? ⟨w0.heap.size, 1, none⟩ = some (.slice da1 d.st.clock.length dc1) ∧ w'.cell? ⟨w0.heap.size, 2, none⟩ = some (.slice da2 d.st.lives.length dc2) ∧ w'.cell? ⟨w0.heap.size, 3, none⟩ = some (.slice da3 d.st.tals.length dc3) ∧ w'.cell? ⟨w0.heap.size, 4, none⟩ = some (.slice da4 d.base.length dc4) ∧ w'.cell? ⟨w0.heap.size, 5, none⟩ = some (.slice da5 d.log.length dc5) ∧ w'.cell? ⟨w0.heap.size, 6, none⟩ = some (.slice da6 d.known.length dc6) ∧ w'.cell? ⟨w0.heap.size + 1, 0, none⟩ = some (.int .i64 u.author) ∧ w'.cell? ⟨w0.heap.size + 1, 1, none⟩ = some (.slice ua1 u.seen.length uc1) ∧ w'.cell? ⟨w0.heap.size + 1, 2, none⟩ = some (.int .i64 u.kind) ∧ w'.cell? ⟨w0.heap.size + 1, 3, none⟩ = some (.int .i64 u.key) ∧ w'.cell? ⟨w0.heap.size + 1, 4, none⟩ = some (.int .i64 u.item) ∧ w'.cell? ⟨w2.heap.size, 0, none⟩ = some (.int .i64 X.self) ∧ w'.cell? ⟨w2.heap.size, 1, none⟩ = some (.slice xa1 X.st.clock.length xc1) ∧ w'.cell? ⟨w2.heap.size, 2, none⟩ = some (.slice xa2 X.st.lives.length xc2) ∧ w'.cell? ⟨w2.heap.size, 3, none⟩ = some (.slice xa3 X.st.tals.length xc3) ∧ w'.cell? ⟨w2.heap.size, 4, none⟩ = some (.slice xa4 X.base.length xc4) ∧ w'.cell? ⟨w2.heap.size, 5, none⟩ = some (.slice (some ⟨lb, lo, none⟩) (d.log.length + 1) xc5) ∧ w'.cell? ⟨w2.heap.size, 6, none⟩ = some (.slice xa6 X.known.length xc6) ∧ w'.cell? ⟨lb, lo + d.log.length * 5, none⟩ = some (.int .i64 d.self) ∧ w'.cell? ⟨lb, lo + d.log.length * 5 + 1, none⟩ = some (.slice sa d.st.clock.length sc) ∧ w'.cell? ⟨lb, lo + d.log.length * 5 + 2, none⟩ = some (.int .i64 u.kind) ∧ w'.cell? ⟨lb, lo + d.log.length * 5 + 3, none⟩ = some (.int .i64 u.key) ∧ w'.cell? ⟨lb, lo + d.log.length * 5 + 4, none⟩ = some (.int .i64 u.item) ∧ w'.cell? ⟨gs, 0, none⟩ = some (.slice z1 Z.clock.length t1) ∧ w'.cell? ⟨gs, 1, none⟩ = some (.slice z2 Z.lives.length t2) ∧ w'.cell? ⟨gs, 2, none⟩ = some (.slice z3 Z.tals.length t3)) (by kernel_rfl) (HK5.out _ (grew_drew (grew_refl _))) (fun hHeld => ?_)
        obtain ⟨wd, HWD⟩ : ∃ wd, Hid (w5.drew = wd) := ⟨_, rfl⟩
        have hgd : Grew w5 wd := by rw [← HWD.out]; exact grew_drew (grew_refl w5)
        rw [HWD.out] at hHeld ⊢
        refine take_yes 0 97 (.int .i64 0) rfl rfl (by kernel_rfl) (by kernel_rfl) (by kernel_rfl) (fun _ _ _ h => h) rfl (by intro w hSw; (try dsimp only at hSw); go_simp) (by assumption) ?_
        simp only [Act.put, List.setIfInBounds_toArray, List.set_cons_zero, List.set_cons_succ]
        refine take_yes 1 98 (.bool true) rfl rfl (by kernel_rfl) (by kernel_rfl) (by kernel_rfl) (fun _ _ _ h => h) rfl (by intro w hSw; (try dsimp only at hSw); go_simp) (by assumption) ?_
        simp only [Act.put, List.setIfInBounds_toArray, List.set_cons_zero, List.set_cons_succ]
        refine take_yes 2 99 (.bool true) rfl rfl (by kernel_rfl) (by kernel_rfl) (by kernel_rfl) (fun _ _ _ h => h) rfl (by intro w hSw; (try dsimp only at hSw); go_simp) (by assumption) ?_
        simp only [Act.put, List.setIfInBounds_toArray, List.set_cons_zero, List.set_cons_succ]
        refine take_yes 3 100 (.agg #[.slice z1 Z.clock.length t1, .slice z2 Z.lives.length t2, .slice z3 Z.tals.length t3]) rfl rfl (by kernel_rfl) (by kernel_rfl) (by kernel_rfl) (fun _ _ _ h => h) rfl (by intro w hSw; (try dsimp only at hSw); go_simp) (by assumption) ?_
        simp only [Act.put, List.setIfInBounds_toArray, List.set_cons_zero, List.set_cons_succ]
        refine take_yes 4 101 (.pointer (some ⟨w2.heap.size, 1, none⟩)) rfl rfl (by kernel_rfl) (by kernel_rfl) (by kernel_rfl) (fun _ _ _ h => h) rfl (by intro w hSw; (try dsimp only at hSw); go_simp) (by assumption) ?_
        simp only [Act.put, List.setIfInBounds_toArray, List.set_cons_zero, List.set_cons_succ]
        refine take_yes 5 102 (.agg #[.slice xa1 X.st.clock.length xc1, .slice xa2 X.st.lives.length xc2, .slice xa3 X.st.tals.length xc3]) rfl rfl (by kernel_rfl) (by kernel_rfl) (by kernel_rfl) (fun _ _ _ h => h) rfl (by intro w hSw; (try dsimp only at hSw); go_simp) (by assumption) ?_
        simp only [Act.put, List.setIfInBounds_toArray, List.set_cons_zero, List.set_cons_succ]
        refine wpAnyH_ready (rs := [6]) (by kernel_rfl) (by simp) ?_
        refine (AllReadyH.cons (o := _) rfl (fun K hK => ?_) AllReadyH.nil)
        go_simp
        refine (same_st _ _ Z _ (OZ.out.st.below hgd (Nat.le_refl _)) (XS.out.below hgd (Nat.le_refl _))).mono ?_
        rintro e w_6 ⟨rfl, hb_6⟩
        have hg_6 : Grew w5 w_6 := grew_step hgd hb_6
        refine hK.out _ _ (HK5.out _ hg_6) (fun _ => ?_)
        clear hK K
        try simp only [Act.put, List.setIfInBounds_toArray, List.set_cons_zero, List.set_cons_succ]
        refine take_yes 7 104 (.bool true) rfl rfl (by kernel_rfl) (by kernel_rfl) (by kernel_rfl) (fun _ _ _ h => h) rfl (by intro w hSw; (try dsimp only at hSw); go_simp) (by assumption) ?_
        simp only [Act.put, List.setIfInBounds_toArray, List.set_cons_zero, List.set_cons_succ]
        refine take_yes 8 105 (.bool true) rfl rfl (by kernel_rfl) (by kernel_rfl) (by kernel_rfl) (fun _ _ _ h => h) rfl (by intro w hSw; (try dsimp only at hSw); go_simp) (by assumption) ?_
        simp only [Act.put, List.setIfInBounds_toArray, List.set_cons_zero, List.set_cons_succ]
        refine take_yes 9 106 (.pointer (some ⟨w2.heap.size, 5, none⟩)) rfl rfl (by kernel_rfl) (by kernel_rfl) (by kernel_rfl) (fun _ _ _ h => h) rfl (by intro w hSw; (try dsimp only at hSw); go_simp) (by assumption) ?_
        simp only [Act.put, List.setIfInBounds_toArray, List.set_cons_zero, List.set_cons_succ]
        refine take_yes 10 107 (.slice (some ⟨lb, lo, none⟩) (d.log.length + 1) xc5) rfl rfl (by kernel_rfl) (by kernel_rfl) (by kernel_rfl) (fun _ _ _ h => h) rfl (by intro w hSw; (try dsimp only at hSw); go_simp) (by assumption) ?_
        simp only [Act.put, List.setIfInBounds_toArray, List.set_cons_zero, List.set_cons_succ]
        refine take_yes 11 108 (.int .i64 (d.log.length : Int)) rfl rfl (by kernel_rfl) (by kernel_rfl) (by kernel_rfl) (fun _ _ _ h => h) rfl (by intro w hSw; (try dsimp only at hSw); go_simp) (by assumption) ?_
        simp only [Act.put, List.setIfInBounds_toArray, List.set_cons_zero, List.set_cons_succ]
        refine take_yes 12 109 (.slice (some ⟨lb, lo, none⟩) d.log.length xc5) rfl rfl (by kernel_rfl) (by kernel_rfl) (by kernel_rfl) (fun _ _ _ h => h) rfl (by intro w hSw; (try dsimp only at hSw); go_simp) (by assumption) ?_
        simp only [Act.put, List.setIfInBounds_toArray, List.set_cons_zero, List.set_cons_succ]
        refine take_yes 13 110 (.pointer (some ⟨w0.heap.size, 5, none⟩)) rfl rfl (by kernel_rfl) (by kernel_rfl) (by kernel_rfl) (fun _ _ _ h => h) rfl (by intro w hSw; (try dsimp only at hSw); go_simp) (by assumption) ?_
        simp only [Act.put, List.setIfInBounds_toArray, List.set_cons_zero, List.set_cons_succ]
        refine take_yes 14 111 (.slice da5 d.log.length dc5) rfl rfl (by kernel_rfl) (by kernel_rfl) (by kernel_rfl) (fun _ _ _ h => h) rfl (by intro w hSw; (try dsimp only at hSw); go_simp) (by assumption) ?_
        simp only [Act.put, List.setIfInBounds_toArray, List.set_cons_zero, List.set_cons_succ]
        refine wpAnyH_ready (rs := [15]) (by kernel_rfl) (by simp) ?_
        refine (AllReadyH.cons (o := _) rfl (fun K hK => ?_) AllReadyH.nil)
        go_simp
        refine (sameLog_yes _ _ d.log _ (XL.out.below hg_6 (Nat.le_refl _)) (L5.out.below hg_6 (Nat.le_refl _))).mono ?_
        rintro e w_6_15 ⟨rfl, hb_6_15⟩
        have hg_6_15 : Grew w5 w_6_15 := grew_step hg_6 hb_6_15
        refine hK.out _ _ (HK5.out _ hg_6_15) (fun _ => ?_)
        clear hK K
        try simp only [Act.put, List.setIfInBounds_toArray, List.set_cons_zero, List.set_cons_succ]
        refine take_yes 16 113 (.bool true) rfl rfl (by kernel_rfl) (by kernel_rfl) (by kernel_rfl) (fun _ _ _ h => h) rfl (by intro w hSw; (try dsimp only at hSw); go_simp) (by assumption) ?_
        simp only [Act.put, List.setIfInBounds_toArray, List.set_cons_zero, List.set_cons_succ]
        refine wpAnyH_ready (rs := [17]) (by kernel_rfl) (by simp) ?_
        refine (AllReadyH.cons (o := _) rfl (fun K hK => ?_) AllReadyH.nil)
        go_simp
        refine hK.out _ _ (HK5.out _ hg_6_15) (fun _ => ?_)
        clear hK K
        try simp only [Act.put, List.setIfInBounds_toArray, List.set_cons_zero, List.set_cons_succ]
        refine wpAnyH_done (by kernel_rfl) ?_ _
        go_wp2_with fail
        go_ret
        exact ⟨rfl, below_step HB5.out hg_6_15⟩
  · have hE' : (E != 0) = true := by simp [hE]
    clear hE
    go_enter Tryz.func7, Tryz.ntmps7
    go_wp2_with fail
    refine (alive6 _).mono ?_
    rintro e w1 ⟨rfl, hb⟩
    have HB1 := hide (below_step HB0.out hb)
    have G1 := hide (G0.out.below hb (Nat.le_refl _))
    have J1 := hide (J0.out.below hb (Nat.le_refl _))
    have D1 := hide (D0.out.below hb (Nat.le_refl _))
    have U1 := hide (U0.out.below hb (Nat.le_refl _))
    have S1 := hide (S0.out.below hb (Nat.le_refl _))
    have C1 := hide (C0.out.below hb (Nat.le_refl _))
    have L1 := hide (L0.out.below hb (Nat.le_refl _))
    clear HB0 hb G0 J0 D0 U0 S0 C0 L0
    have cG0 := G1.out.get 0 rfl
    have cG1 := G1.out.get 1 rfl
    have cG2 := G1.out.get 2 rfl
    have cG3 := G1.out.get 3 rfl
    have cG4 := G1.out.get 4 rfl
    have cG5 := G1.out.get 5 rfl
    have cG6 := G1.out.get 6 rfl
    have cJ0 := J1.out.get 0 rfl
    have cJ1 := J1.out.get 1 rfl
    have cJ2 := J1.out.get 2 rfl
    have cJ3 := J1.out.get 3 rfl
    have cJ4 := J1.out.get 4 rfl
    go_wp2_with fail
    refine (issue_node _ _ d u _ D1.out U1.out).mono ?_
    rintro e w2 ⟨vX, rfl, hX, hb⟩
    have HB2 := hide (below_step HB1.out hb)
    have G2 := hide (G1.out.below hb (Nat.le_refl _))
    have J2 := hide (J1.out.below hb (Nat.le_refl _))
    have D2 := hide (D1.out.below hb (Nat.le_refl _))
    have U2 := hide (U1.out.below hb (Nat.le_refl _))
    have S2 := hide (S1.out.below hb (Nat.le_refl _))
    have C2 := hide (C1.out.below hb (Nat.le_refl _))
    have L2 := hide (L1.out.below hb (Nat.le_refl _))
    have X2 := hide hX
    clear HB1 hb G1 J1 D1 U1 S1 C1 L1
    rw [HE.out]
    rw [HX.out] at X2
    obtain ⟨xa1, xc1, xa2, xc2, xa3, xc3, xa4, xc4, xa5, xc5, xa6, xc6, hvx⟩ := X2.out.form
    subst hvx
    clear hX
    go_wp2_with fail
    go_ret
    exact ⟨rfl, below_step HB2.out (Below.plus (Below.refl _ _) _)⟩
end Go.Proofs.YtlhdnpakafcbkaaGreat
