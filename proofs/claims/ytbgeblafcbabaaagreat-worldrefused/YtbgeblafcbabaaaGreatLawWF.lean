/- WorldRefused, walked. -/
import Derived.Test.YtbgeblafcbabaaaGreatWdD
namespace Go.Proofs.YtbgeblafcbabaaaGreat
open Go.RowKit

theorem DoV.at {w : World} {a : Option Addr} {n c : Nat} {l : List DoS} (h : DoV w (.slice a n c) l) {i : Nat} {o : DoS} (ho : l[i]? = some o) : ∃ b off, a = some ⟨b, off, none⟩ ∧ DoAt w b (off + i * 8) o := by
 obtain ⟨a', c', h1, -, -, h4⟩ := h
 simp only [Value.slice.injEq] at h1
 obtain ⟨rfl, -, -⟩ := h1
 exact h4 i o ho
theorem cell_grew {w w' : World} {p : Addr} {v : Value} (hg : Grew w w') (h : w.cell? p = some v) : w'.cell? p = some v := (hg.cell (p := p) (World.block_lt_of_cell? w _ h)).trans h
theorem refused_same {k m : Nat} (h1 : 1 ≤ k) (h6 : k ≤ 6) {l : List DoS} (hl : l.length ≤ 150) (hm : l.length = m + 1) {c : Int} (hc : (runE (beginW k) l)[m]? = some c) (hne : ¬ c = 0) :
  playWE k (l.take m) = 0 ∧ (playWX k (l.take m)).nodes = (runX (beginW k) l).nodes := by
 obtain ⟨o, ho⟩ : ∃ o, l[m]? = some o := ⟨_, List.getElem?_eq_getElem (by omega)⟩
 obtain ⟨e1, e2, -⟩ := playWE_ok h1 h6 (l := l.take m) (by rw [List.length_take]; omega)
 refine ⟨e1, ?_⟩
 rw [e2]
 rw [runE_at _ ho] at hc
 obtain rfl : _ = c := Option.some.inj hc
 have hall : l = l.take m ++ [o] := by rw [← take_snoc ho, List.take_of_length_le (by omega)]
 have e3 : runX (beginW k) l = stepX (runX (beginW k) (l.take m)) o := by rw [← runX_snoc, ← hall]
 rw [e3]
 exact (step_refused hne).symm

set_option maxRecDepth 100000 in
set_option maxHeartbeats 8000000 in
theorem wrefused_law (n : Int) (lv : Value) (l : List DoS) (w0 : World) (hl : DoV w0 lv l) :
  Calls Tryz.prog 9 #[.int .i64 n, lv] w0 fun e w' => e = .returned (.bool true) ∧ Below w0.heap.size w0 w' := by
 have HB0 := hide (Below.refl w0.heap.size w0)
 have L0 := hide hl
 obtain ⟨la, lc, hlv, hcap, hmax, -⟩ := id hl
 subst hlv
 have hlen := hl.len_le
 obtain ⟨E, HE⟩ : ∃ E, Hid (playWE n l = E) := ⟨_, rfl⟩
 obtain ⟨X, HX⟩ : ∃ X, Hid (playWX n l = X) := ⟨_, rfl⟩
 obtain ⟨C, HC⟩ : ∃ C, Hid (playWC n l = C) := ⟨_, rfl⟩
 clear hl
 by_cases hE : E = 0
 ·have hsplit : l.length = 0 ∨ ∃ m, l.length = m + 1 := by
   rcases Nat.eq_zero_or_pos l.length with h | h
   ·exact Or.inl h
   ·exact Or.inr ⟨l.length - 1, by omega⟩
  rcases hsplit with hz | ⟨m, hm⟩
  ·subst hE
   rw [hz] at L0 ⊢
   clear hz hlen hcap hmax
   go_enter Tryz.func9, Tryz.ntmps9
   go_wp2_with fail
   refine (alive7 _).mono ?_
   rintro e w1 ⟨rfl, hb1⟩
   have HB1 := hide (below_step HB0.out hb1)
   have L1 := hide (L0.out.below hb1 (nlr _))
   clear hb1 HB0 L0
   go_wp2_with fail
   refine (play_w n _ l _ L1.out).mono ?_
   rintro e w2 ⟨wv, cv, rfl, hW, hC, hb2⟩
   rw [HE.out]
   rw [HX.out] at hW
   rw [HC.out] at hC
   obtain ⟨a1, a2, hwv, hx6⟩ := hW.form
   subst hwv
   obtain ⟨ca, cc, hcv⟩ := hC.form
   subst hcv
   have hbp := Below.plus (Below.refl w2.heap.size w2) (.cells #[.slice a1 X.nodes.length X.nodes.length, .slice a2 X.nodes.length X.nodes.length] 26)
   have W3 := hW.below hbp
   have C3 := hC.below hbp
   have B3 := Box.new w2 [.slice a1 X.nodes.length X.nodes.length, .slice a2 X.nodes.length X.nodes.length] 26
   have hb3 := below_step hb2 hbp
   obtain ⟨w3, HW3⟩ : ∃ W, Hid (w2.alloc (.cells #[.slice a1 X.nodes.length X.nodes.length, .slice a2 X.nodes.length X.nodes.length] 26) = W) := ⟨_, rfl⟩
   rw [HW3.out] at W3 C3 B3 hb3
   have HB3 := hide (below_step HB1.out hb3)
   have L3 := hide (L1.out.below hb3 (nlr _))
   have HWO := hide W3
   have HCO := hide C3
   have HBX := hide B3
   clear hW hC hbp W3 C3 B3 hb3 hb2 HB1 L1
   go_wp2_with fail
   go_ret
   rw [HW3.out]
   exact ⟨rfl, HB3.out⟩
  ·have hm' : (m : Int) < 9223372036854775807 := by omega
   subst hE
   obtain ⟨k, hk, hk1, hk6, hl150, hXr, hCr, hXn⟩ := played HE.out
   rw [HX.out] at hXr hXn
   rw [HC.out] at hCr
   have HI := hide (run_all hk1 hk6 l)
   rw [← hXr] at HI
   have HXR := hide hXr
   have HCR := hide hCr
   have HXN := hide hXn
   have HNK := hide hk
   clear hXr hCr hXn hk
   have hCl : C.length = m + 1 := by rw [HCR.out, runE_length, hm]
   obtain ⟨c, hc⟩ : ∃ c, C[m]? = some c := ⟨_, List.getElem?_eq_getElem (by omega)⟩
   have hml : (m : Int) < (C.length : Int) := by omega
   have HC1 := hide hc
   obtain ⟨lb, lo, hla, -⟩ := L0.out.at (List.getElem?_eq_getElem (i := m) (by omega))
   subst hla
   rw [hm] at L0 ⊢
   have HM := hide hm
   have hcm : (m : Int) ≤ (lc : Int) := by omega
   have hcx : (lc : Int) ≤ 9223372036854775807 := by unfold maxLen at hmax; omega
   clear hc hm hCl hlen hcap hmax
   go_enter Tryz.func9, Tryz.ntmps9
   go_wp2_with fail
   refine (alive7 _).mono ?_
   rintro e w1 ⟨rfl, hb1⟩
   have HB1 := hide (below_step HB0.out hb1)
   have L1 := hide (L0.out.below hb1 (nlr _))
   clear hb1 HB0 L0
   go_wp2_with fail
   refine (play_w n _ l _ L1.out).mono ?_
   rintro e w2 ⟨wv, cv, rfl, hW, hC, hb2⟩
   rw [HE.out]
   rw [HX.out] at hW
   rw [HC.out] at hC
   obtain ⟨a1, a2, hwv, hx6⟩ := hW.form
   subst hwv
   obtain ⟨ca, cc, hcv⟩ := hC.form
   subst hcv
   have hbp := Below.plus (Below.refl w2.heap.size w2) (.cells #[.slice a1 X.nodes.length X.nodes.length, .slice a2 X.nodes.length X.nodes.length] 26)
   have W3 := hW.below hbp
   have C3 := hC.below hbp
   have B3 := Box.new w2 [.slice a1 X.nodes.length X.nodes.length, .slice a2 X.nodes.length X.nodes.length] 26
   have hb3 := below_step hb2 hbp
   obtain ⟨w3, HW3⟩ : ∃ W, Hid (w2.alloc (.cells #[.slice a1 X.nodes.length X.nodes.length, .slice a2 X.nodes.length X.nodes.length] 26) = W) := ⟨_, rfl⟩
   rw [HW3.out] at W3 C3 B3 hb3
   have HB3 := hide (below_step HB1.out hb3)
   have L3 := hide (L1.out.below hb3 (nlr _))
   have HWO := hide W3
   have HCO := hide C3
   have HBX := hide B3
   clear hW hC hbp W3 C3 B3 hb3 hb2 HB1 L1
   obtain ⟨cg, hcg, hcell⟩ := HCO.out.at HC1.out
   subst hcg
   go_upto_region 4 with fail
   rw [HW3.out]
   by_cases hc0 : c = 0
   ·subst hc0
    go_wp2_with fail
    go_ret
    exact ⟨rfl, HB3.out⟩
   ·have hc0' : (c == 0) = false := by simp [hc0]
    have hpl : Hid (playWE n (l.take m) = 0 ∧ (playWX n (l.take m)).nodes = X.nodes) := by
     unfold Hid
     rw [HNK.out, HXR.out]
     exact refused_same hk1 hk6 hl150 HM.out (by rw [← HCR.out]; exact HC1.out) hc0
    obtain ⟨Y, HY⟩ : ∃ Y, Hid (playWX n (l.take m) = Y) := ⟨_, rfl⟩
    have HYN : Hid (Y.nodes = X.nodes) := by unfold Hid; rw [← HY.out]; exact hpl.out.2
    have hq0 : ¬ (m : Int) < 0 := by omega
    clear hc0
    go_wp2_with fail
    refine (play_w n _ (l.take m) _ (L3.out.take (by rw [HM.out]; omega))).mono ?_
    rintro e w4 ⟨xv, dv, rfl, hW, -, hb4⟩
    rw [hpl.out.1]
    rw [HY.out] at hW
    obtain ⟨e1, e2, hxv, -⟩ := hW.form
    rw [HYN.out] at hxv
    subst hxv
    have hbp := Below.plus (Below.refl w4.heap.size w4) (.cells #[.slice e1 X.nodes.length X.nodes.length, .slice e2 X.nodes.length X.nodes.length] 26)
    have B5 := Box.new w4 [.slice e1 X.nodes.length X.nodes.length, .slice e2 X.nodes.length X.nodes.length] 26
    have Y5 := hW.below hbp
    have hb5 := below_step hb4 hbp
    obtain ⟨w5, HW5⟩ : ∃ W, Hid (w4.alloc (.cells #[.slice e1 X.nodes.length X.nodes.length, .slice e2 X.nodes.length X.nodes.length] 26) = W) := ⟨_, rfl⟩
    rw [HW5.out] at B5 Y5 hb5
    have HB5 := hide (below_step HB3.out hb5)
    have X5 := hide (HBX.out.below hb5 (nlr _))
    have HX5 := hide (HWO.out.below hb5)
    have HY5 := hide Y5
    have HE5 := hide B5
    clear hW hbp B5 Y5 hb5 hb4 HB3 HBX HWO HCO hcell hml hc0' L3
    go_upto_region 8 with fail
    rw [HW5.out]
    have y0 := X5.out.get 0 rfl
    have y1 := HE5.out.get 0 rfl
    go_wp2_with fail
    clear y0 y1
    go_loopw [60] (fun q wr => ∃ i : Nat, i ≤ X.nodes.length ∧ q = .int .i64 i ∧ Hid (Below w5.heap.size w5 wr)) (fun q _ => X.nodes.length - (intOf q).toNat)
    case atStart => exact ⟨0, Nat.zero_le _, rfl, hide (Below.refl _ _)⟩
    case round =>
     obtain ⟨i, hi, rfl, HBi⟩ := hrel
     obtain ⟨w6, rfl⟩ : ∃ w6, w6 = wr := ⟨wr, rfl⟩
     by_cases hlt : i < X.nodes.length
     ·have hlt' : (i : Int) < (X.nodes.length : Int) := by omega
      obtain ⟨d, HD⟩ : ∃ d, Hid (X.nodes[i]? = some d) := ⟨_, List.getElem?_eq_getElem hlt⟩
      obtain ⟨gn, ba1, bc1, ba2, bc2, ba3, bc3, ba4, bc4, ba5, bc5, ba6, bc6, hga, hno, q0, q1, q2, q3, q4, q5, q6⟩ := (HX5.out.below HBi.out).at HD.out
      obtain ⟨gm, ea1, ec1, ea2, ec2, ea3, ec3, ea4, ec4, ea5, ec5, ea6, ec6, hgb, hnf, r0, r1, r2, r3, r4, r5, r6⟩ := (HY5.out.below HBi.out).at (by rw [HYN.out]; exact HD.out)
      subst hga
      subst hgb
      have X6 := hide (X5.out.below HBi.out (nlr _))
      have E6 := hide (HE5.out.below HBi.out (nlr _))
      have N6 := hide hno.node
      have M6 := hide hnf.node
      have HK : Hid (∀ w', Grew w6 w' → w'.cell? ⟨w2.heap.size, 0, none⟩ = some (.slice (some ⟨gn, 0, none⟩) X.nodes.length X.nodes.length) ∧ w'.cell? ⟨w4.heap.size, 0, none⟩ = some (.slice (some ⟨gm, 0, none⟩) X.nodes.length X.nodes.length) ∧ w'.cell? ⟨gn, i * 7, none⟩ = some (.int .i64 d.self) ∧ w'.cell? ⟨gn, i * 7 + 1, none⟩ = some (.slice ba1 d.st.clock.length bc1) ∧ w'.cell? ⟨gn, i * 7 + 2, none⟩ = some (.slice ba2 d.st.lives.length bc2) ∧ w'.cell? ⟨gn, i * 7 + 3, none⟩ = some (.slice ba3 d.st.tals.length bc3) ∧ w'.cell? ⟨gn, i * 7 + 4, none⟩ = some (.slice ba4 d.base.length bc4) ∧ w'.cell? ⟨gn, i * 7 + 5, none⟩ = some (.slice ba5 d.log.length bc5) ∧ w'.cell? ⟨gn, i * 7 + 6, none⟩ = some (.slice ba6 d.known.length bc6) ∧ w'.cell? ⟨gm, i * 7, none⟩ = some (.int .i64 d.self) ∧ w'.cell? ⟨gm, i * 7 + 1, none⟩ = some (.slice ea1 d.st.clock.length ec1) ∧ w'.cell? ⟨gm, i * 7 + 2, none⟩ = some (.slice ea2 d.st.lives.length ec2) ∧ w'.cell? ⟨gm, i * 7 + 3, none⟩ = some (.slice ea3 d.st.tals.length ec3) ∧ w'.cell? ⟨gm, i * 7 + 4, none⟩ = some (.slice ea4 d.base.length ec4) ∧ w'.cell? ⟨gm, i * 7 + 5, none⟩ = some (.slice ea5 d.log.length ec5) ∧ w'.cell? ⟨gm, i * 7 + 6, none⟩ = some (.slice ea6 d.known.length ec6)) := fun w' hg => ⟨(X6.out.below hg (nlr _)).get 0 rfl, (E6.out.below hg (nlr _)).get 0 rfl, cell_grew hg q0, cell_grew hg q1, cell_grew hg q2, cell_grew hg q3, cell_grew hg q4, cell_grew hg q5, cell_grew hg q6, cell_grew hg r0, cell_grew hg r1, cell_grew hg r2, cell_grew hg r3, cell_grew hg r4, cell_grew hg r5, cell_grew hg r6⟩
      clear hno hnf q0 q1 q2 q3 q4 q5 q6 r0 r1 r2 r3 r4 r5 r6
      go_upto_region 13 with fail
      go_cut [74] (fun c wx => c = .bool false ∧ Hid (Grew w6 wx))
      case first =>
       refine wp_region_held_drew (S := fun w' => w'.cell? ⟨w2.heap.size, 0, none⟩ = some (.slice (some ⟨gn, 0, none⟩) X.nodes.length X.nodes.length) ∧ w'.cell? ⟨w4.heap.size, 0, none⟩ = some (.slice (some ⟨gm, 0, none⟩) X.nodes.length X.nodes.length) ∧ w'.cell? ⟨gn, i * 7, none⟩ = some (.int .i64 d.self) ∧ w'.cell? ⟨gn, i * 7 + 1, none⟩ = some (.slice ba1 d.st.clock.length bc1) ∧ w'.cell? ⟨gn, i * 7 + 2, none⟩ = some (.slice ba2 d.st.lives.length bc2) ∧ w'.cell? ⟨gn, i * 7 + 3, none⟩ = some (.slice ba3 d.st.tals.length bc3) ∧ w'.cell? ⟨gn, i * 7 + 4, none⟩ = some (.slice ba4 d.base.length bc4) ∧ w'.cell? ⟨gn, i * 7 + 5, none⟩ = some (.slice ba5 d.log.length bc5) ∧ w'.cell? ⟨gn, i * 7 + 6, none⟩ = some (.slice ba6 d.known.length bc6) ∧ w'.cell? ⟨gm, i * 7, none⟩ = some (.int .i64 d.self) ∧ w'.cell? ⟨gm, i * 7 + 1, none⟩ = some (.slice ea1 d.st.clock.length ec1) ∧ w'.cell? ⟨gm, i * 7 + 2, none⟩ = some (.slice ea2 d.st.lives.length ec2) ∧ w'.cell? ⟨gm, i * 7 + 3, none⟩ = some (.slice ea3 d.st.tals.length ec3) ∧ w'.cell? ⟨gm, i * 7 + 4, none⟩ = some (.slice ea4 d.base.length ec4) ∧ w'.cell? ⟨gm, i * 7 + 5, none⟩ = some (.slice ea5 d.log.length ec5) ∧ w'.cell? ⟨gm, i * 7 + 6, none⟩ = some (.slice ea6 d.known.length ec6)) (by kernel_rfl) (HK.out _ (grew_drew (grew_refl _))) (fun hHeld => ?_)
       obtain ⟨wd, HWD⟩ : ∃ wd, Hid (w6.drew = wd) := ⟨_, rfl⟩
       have hgd : Grew w6 wd := by rw [← HWD.out]; exact grew_drew (grew_refl w6)
       rw [HWD.out] at hHeld ⊢
       refine take_yes 0 63 (.pointer (some ⟨w2.heap.size, 0, none⟩)) rfl rfl (by kernel_rfl) (by kernel_rfl) (by kernel_rfl) (fun _ _ _ h => h) rfl (by intro w hSw; (try dsimp only at hSw); go_simp) (by assumption) ?_
       simp only [Act.put, put1, put2, put3]
       refine take_yes 1 64 (.slice (some ⟨gn, 0, none⟩) X.nodes.length X.nodes.length) rfl rfl (by kernel_rfl) (by kernel_rfl) (by kernel_rfl) (fun _ _ _ h => h) rfl (by intro w hSw; (try dsimp only at hSw); go_simp) (by assumption) ?_
       simp only [Act.put, put1, put2, put3]
       refine take_yes 2 65 (.int .i64 (i : Int)) rfl rfl (by kernel_rfl) (by kernel_rfl) (by kernel_rfl) (fun _ _ _ h => h) rfl (by intro w hSw; (try dsimp only at hSw); go_simp) (by assumption) ?_
       simp only [Act.put, put1, put2, put3]
       refine take_yes 3 66 (.pointer (some ⟨gn, i * 7, none⟩)) rfl rfl (by kernel_rfl) (by kernel_rfl) (by kernel_rfl) (fun _ _ _ h => h) rfl (by intro w hSw; (try dsimp only at hSw); go_simp) (by assumption) ?_
       simp only [Act.put, put1, put2, put3]
       refine take_yes 4 67 (.agg #[.int .i64 d.self, .slice ba1 d.st.clock.length bc1, .slice ba2 d.st.lives.length bc2, .slice ba3 d.st.tals.length bc3, .slice ba4 d.base.length bc4, .slice ba5 d.log.length bc5, .slice ba6 d.known.length bc6]) rfl rfl (by kernel_rfl) (by kernel_rfl) (by kernel_rfl) (fun _ _ _ h => h) rfl (by intro w hSw; (try dsimp only at hSw); go_simp) (by assumption) ?_
       simp only [Act.put, put1, put2, put3]
       refine take_yes 5 68 (.pointer (some ⟨w4.heap.size, 0, none⟩)) rfl rfl (by kernel_rfl) (by kernel_rfl) (by kernel_rfl) (fun _ _ _ h => h) rfl (by intro w hSw; (try dsimp only at hSw); go_simp) (by assumption) ?_
       simp only [Act.put, put1, put2, put3]
       refine take_yes 6 69 (.slice (some ⟨gm, 0, none⟩) X.nodes.length X.nodes.length) rfl rfl (by kernel_rfl) (by kernel_rfl) (by kernel_rfl) (fun _ _ _ h => h) rfl (by intro w hSw; (try dsimp only at hSw); go_simp) (by assumption) ?_
       simp only [Act.put, put1, put2, put3]
       refine take_yes 7 70 (.int .i64 (i : Int)) rfl rfl (by kernel_rfl) (by kernel_rfl) (by kernel_rfl) (fun _ _ _ h => h) rfl (by intro w hSw; (try dsimp only at hSw); go_simp) (by assumption) ?_
       simp only [Act.put, put1, put2, put3]
       refine take_yes 8 71 (.pointer (some ⟨gm, i * 7, none⟩)) rfl rfl (by kernel_rfl) (by kernel_rfl) (by kernel_rfl) (fun _ _ _ h => h) rfl (by intro w hSw; (try dsimp only at hSw); go_simp) (by assumption) ?_
       simp only [Act.put, put1, put2, put3]
       refine take_yes 9 72 (.agg #[.int .i64 d.self, .slice ea1 d.st.clock.length ec1, .slice ea2 d.st.lives.length ec2, .slice ea3 d.st.tals.length ec3, .slice ea4 d.base.length ec4, .slice ea5 d.log.length ec5, .slice ea6 d.known.length ec6]) rfl rfl (by kernel_rfl) (by kernel_rfl) (by kernel_rfl) (fun _ _ _ h => h) rfl (by intro w hSw; (try dsimp only at hSw); go_simp) (by assumption) ?_
       simp only [Act.put, put1, put2, put3]
       refine wpAnyH_ready (rs := [10]) (by kernel_rfl) (by simp) ?_
       refine (AllReadyH.cons (o := _) rfl (fun K hK => ?_) AllReadyH.nil)
       go_simp
       refine (sameNode_yes _ _ d _ (N6.out.below hgd (nlr _)) (M6.out.below hgd (nlr _))).mono ?_
       rintro e w_10 ⟨rfl, hb_10⟩
       have hg_10 : Grew w6 w_10 := grew_step hgd hb_10
       refine hK.out _ _ (HK.out _ hg_10) (fun _ => ?_)
       clear hK K
       try simp only [Act.put, put1, put2, put3]
       refine take_yes 11 74 (.bool false) rfl rfl (by kernel_rfl) (by kernel_rfl) (by kernel_rfl) (fun _ _ _ h => h) rfl (by intro w hSw; (try dsimp only at hSw); go_simp) (by assumption) ?_
       simp only [Act.put, put1, put2, put3]
       refine wpAnyH_done (by kernel_rfl) ?_ _
       go_wp2_with fail
       go_meet
       exact ⟨rfl, hg_10⟩
      case rest =>
       obtain ⟨rfl, HGR⟩ := hcut
       obtain ⟨w7, rfl⟩ : ∃ w7, w7 = wc := ⟨wc, rfl⟩
       have HB7 := hide (below_step HBi.out HGR.out)
       go_wp2_with fail
       go_roundw
       case rel => exact ⟨i + 1, by omega, by go_num, HB7⟩
       case measure => simp [intOf]; omega
     ·have hlt' : ¬ (i : Int) < (X.nodes.length : Int) := by omega
      have HBw := hide (below_step HB5.out HBi.out)
      go_wp2_with fail
      go_ret
      exact ⟨rfl, HBw.out⟩
 ·have hE' : (E != 0) = true := by simp [hE]
  clear hE
  go_enter Tryz.func9, Tryz.ntmps9
  go_wp2_with fail
  refine (alive7 _).mono ?_
  rintro e w1 ⟨rfl, hb1⟩
  have HB1 := hide (below_step HB0.out hb1)
  have L1 := hide (L0.out.below hb1 (nlr _))
  clear hb1 HB0 L0
  go_wp2_with fail
  refine (play_w n _ l _ L1.out).mono ?_
  rintro e w2 ⟨wv, cv, rfl, hW, hC, hb2⟩
  rw [HE.out]
  rw [HX.out] at hW
  rw [HC.out] at hC
  obtain ⟨a1, a2, hwv, hx6⟩ := hW.form
  subst hwv
  obtain ⟨ca, cc, hcv⟩ := hC.form
  subst hcv
  have hbp := Below.plus (Below.refl w2.heap.size w2) (.cells #[.slice a1 X.nodes.length X.nodes.length, .slice a2 X.nodes.length X.nodes.length] 26)
  have W3 := hW.below hbp
  have C3 := hC.below hbp
  have B3 := Box.new w2 [.slice a1 X.nodes.length X.nodes.length, .slice a2 X.nodes.length X.nodes.length] 26
  have hb3 := below_step hb2 hbp
  obtain ⟨w3, HW3⟩ : ∃ W, Hid (w2.alloc (.cells #[.slice a1 X.nodes.length X.nodes.length, .slice a2 X.nodes.length X.nodes.length] 26) = W) := ⟨_, rfl⟩
  rw [HW3.out] at W3 C3 B3 hb3
  have HB3 := hide (below_step HB1.out hb3)
  have L3 := hide (L1.out.below hb3 (nlr _))
  have HWO := hide W3
  have HCO := hide C3
  have HBX := hide B3
  clear hW hC hbp W3 C3 B3 hb3 hb2 HB1 L1
  go_wp2_with fail
  go_ret
  rw [HW3.out]
  exact ⟨rfl, HB3.out⟩
end Go.Proofs.YtbgeblafcbabaaaGreat
