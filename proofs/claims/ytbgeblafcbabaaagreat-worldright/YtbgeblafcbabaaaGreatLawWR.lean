/- WorldRight, walked. -/
import Derived.Test.YtbgeblafcbabaaaGreatWdD
namespace Go.Proofs.YtbgeblafcbabaaaGreat
open Go.RowKit

theorem getD_of {α : Type} {l : List α} {i : Nat} {x z : α} (h : l[i]? = some x) : l.getD i z = x := by rw [List.getD_eq_getElem?_getD, h]; rfl
theorem DoV.at {w : World} {a : Option Addr} {n c : Nat} {l : List DoS} (h : DoV w (.slice a n c) l) {i : Nat} {o : DoS} (ho : l[i]? = some o) : ∃ b off, a = some ⟨b, off, none⟩ ∧ DoAt w b (off + i * 8) o := by
 obtain ⟨a', c', h1, -, -, h4⟩ := h
 simp only [Value.slice.injEq] at h1
 obtain ⟨rfl, -, -⟩ := h1
 exact h4 i o ho
theorem right_nodes {n : Int} {A : List Upd} {w : WdS} (h : WInv n A w) {i : Nat} {d : NdS} (hd : w.nodes[i]? = some d) :
  nodeE d = 0 ∧ d.self = i ∧ d.known.length = w.nodes.length ∧ ∀ (k : Nat) (c : List Int) (f : NdS), d.known[k]? = some c → w.nodes[k]? = some f → seesC f.st.clock c = true := by
 have hi : i < w.nodes.length := (List.getElem?_eq_some_iff.1 hd).1
 obtain ⟨-, hN, hs, -⟩ := h.nd i hi
 have e := getD_of (z := noNode) hd
 rw [e] at hN hs
 have hlen := h.len
 refine ⟨nodeE_zero.2 (by rw [hN.len]; exact hN), hs, by have := hN.kl; omega, fun k c f hc hf => seesC_iff.2 fun j => ?_⟩
 have hk : k < w.nodes.length := (List.getElem?_eq_some_iff.1 hf).1
 have := h.kn i k hi hk j
 rw [e, getD_of (z := noNode) hf, getD_of (z := []) hc] at this
 exact this
theorem right_deliver {k : Nat} (h1 : 1 ≤ k) (h6 : k ≤ 6) {l : List DoS} {i : Nat} {o : DoS} {c : Int} (ho : l[i]? = some o) (hc : (runE (beginW k) l)[i]? = some c) (h3 : o.kind = 3) : c = 0 ∨ c = 5 ∨ c = 6 ∨ c = 7 := by
 rw [runE_at _ ho] at hc
 obtain rfl : _ = c := Option.some.inj hc
 exact ((run_all h1 h6 (l.take i)).step o).2 h3

set_option maxRecDepth 100000 in
set_option maxHeartbeats 8000000 in
theorem wright_law (n : Int) (lv : Value) (l : List DoS) (w0 : World) (hl : DoV w0 lv l) :
  Calls Tryz.prog 6 #[.int .i64 n, lv] w0 fun e w' => e = .returned (.bool true) ∧ Below w0.heap.size w0 w' := by
 have HB0 := hide (Below.refl w0.heap.size w0)
 have L0 := hide hl
 obtain ⟨la, lc, hlv, hcap, hmax, -⟩ := id hl
 subst hlv
 have hlen := hl.len_le
 obtain ⟨E, HE⟩ : ∃ E, Hid (playWE n l = E) := ⟨_, rfl⟩
 obtain ⟨X, HX⟩ : ∃ X, Hid (playWX n l = X) := ⟨_, rfl⟩
 obtain ⟨C, HC⟩ : ∃ C, Hid (playWC n l = C) := ⟨_, rfl⟩
 clear hl
 by_cases hE : E = 0
 ·subst hE
  obtain ⟨k, hk, hk1, hk6, hl150, hXr, hCr, hXn⟩ := played HE.out
  rw [HX.out] at hXr hXn
  rw [HC.out] at hCr
  have HI := hide (run_all hk1 hk6 l)
  rw [← hXr] at HI
  have HXR := hide hXr
  have HCR := hide hCr
  have HXN := hide hXn
  have HNK := hide hk
  clear hXr hCr hXn hk
  go_enter Tryz.func6, Tryz.ntmps6
  go_wp2_with fail
  refine (alive7 _).mono ?_
  rintro e w1 ⟨rfl, hb1⟩
  have HB1 := hide (below_step HB0.out hb1)
  have L1 := hide (L0.out.below hb1 (nlr _))
  clear hb1 HB0 L0
  go_wp2_with fail
  refine (play_w n _ l _ L1.out).mono ?_
  rintro e w2 ⟨wv, cv, rfl, hW, hC, hb2⟩
  rw [HE.out]
  rw [HX.out] at hW
  rw [HC.out] at hC
  obtain ⟨a1, a2, hwv, hx6⟩ := hW.form
  subst hwv
  obtain ⟨ca, cc, hcv⟩ := hC.form
  subst hcv
  have hbp := Below.plus (Below.refl w2.heap.size w2) (.cells #[.slice a1 X.nodes.length X.nodes.length, .slice a2 X.nodes.length X.nodes.length] 26)
  have W3 := hW.below hbp
  have C3 := hC.below hbp
  have B3 := Box.new w2 [.slice a1 X.nodes.length X.nodes.length, .slice a2 X.nodes.length X.nodes.length] 26
  have hb3 := below_step hb2 hbp
  obtain ⟨w3, HW3⟩ : ∃ W, Hid (w2.alloc (.cells #[.slice a1 X.nodes.length X.nodes.length, .slice a2 X.nodes.length X.nodes.length] 26) = W) := ⟨_, rfl⟩
  rw [HW3.out] at W3 C3 B3 hb3
  have HB3 := hide (below_step HB1.out hb3)
  have L3 := hide (L1.out.below hb3 (nlr _))
  have HWO := hide W3
  have HCO := hide C3
  have HBX := hide B3
  clear hW hC hbp W3 C3 B3 hb3 hb2 HB1 L1
  have hCl : C.length = l.length := by rw [HCR.out, runE_length]
  have HCL := hide hCl
  clear hCl
  go_upto_region 4 with fail
  rw [HW3.out]
  have z0 := HBX.out.get 0 rfl
  go_wp2_with fail
  clear z0
  go_loopw [28] (fun q wr => ∃ i : Nat, i ≤ X.nodes.length ∧ q = .int .i64 i ∧ Hid (Below w3.heap.size w3 wr)) (fun q _ => X.nodes.length - (intOf q).toNat)
  case atStart => exact ⟨0, Nat.zero_le _, rfl, hide (Below.refl _ _)⟩
  case round =>
   obtain ⟨i, hi, rfl, HBi⟩ := hrel
   obtain ⟨w4, rfl⟩ : ∃ w4, w4 = wr := ⟨wr, rfl⟩
   by_cases hlt : i < X.nodes.length
   ·have hlt' : (i : Int) < (X.nodes.length : Int) := by omega
    obtain ⟨d, HD⟩ : ∃ d, Hid (X.nodes[i]? = some d) := ⟨_, List.getElem?_eq_getElem hlt⟩
    obtain ⟨gn, ba1, bc1, ba2, bc2, ba3, bc3, ba4, bc4, ba5, bc5, ba6, bc6, hga, hno, q0, q1, q2, q3, q4, q5, q6⟩ := (HWO.out.below HBi.out).at HD.out
    subst hga
    have HR := hide (right_nodes HI.out HD.out)
    have hbp := Below.plus (Below.refl w4.heap.size w4) (.cells #[.int .i64 d.self, .slice ba1 d.st.clock.length bc1, .slice ba2 d.st.lives.length bc2, .slice ba3 d.st.tals.length bc3, .slice ba4 d.base.length bc4, .slice ba5 d.log.length bc5, .slice ba6 d.known.length bc6] 44)
    have A5 := Box.new w4 [.int .i64 d.self, .slice ba1 d.st.clock.length bc1, .slice ba2 d.st.lives.length bc2, .slice ba3 d.st.tals.length bc3, .slice ba4 d.base.length bc4, .slice ba5 d.log.length bc5, .slice ba6 d.known.length bc6] 44
    have N5 := hno.below hbp (nlr _)
    obtain ⟨w5, HW5⟩ : ∃ W, Hid (w4.alloc (.cells #[.int .i64 d.self, .slice ba1 d.st.clock.length bc1, .slice ba2 d.st.lives.length bc2, .slice ba3 d.st.tals.length bc3, .slice ba4 d.base.length bc4, .slice ba5 d.log.length bc5, .slice ba6 d.known.length bc6] 44) = W) := ⟨_, rfl⟩
    rw [HW5.out] at hbp A5 N5
    have HB5 := hide (below_step HBi.out hbp)
    have HA5 := hide A5
    have HN5 := hide N5
    clear hno hbp A5 N5
    go_upto_region 9 with fail
    rw [HW5.out]
    clear q0 q1 q2 q3 q4 q5 q6
    have p0 := HA5.out.get 0 rfl
    have p1 := HA5.out.get 1 rfl
    have p2 := HA5.out.get 2 rfl
    have p3 := HA5.out.get 3 rfl
    have p4 := HA5.out.get 4 rfl
    have p5 := HA5.out.get 5 rfl
    have p6 := HA5.out.get 6 rfl
    go_wp2_with fail
    refine (wrong_node _ d _ HN5.out.node).mono ?_
    rintro e w6 ⟨rfl, hb6⟩
    rw [HR.out.1]
    have HB6 := hide (below_step HB5.out hb6)
    have A6 := hide (HA5.out.below hb6 (nlr _))
    have N6 := hide (HN5.out.below hb6 (nlr _))
    have p0' := A6.out.get 0 rfl
    rw [HR.out.2.1] at p0'
    have p6' := A6.out.get 6 rfl
    clear p0 p1 p2 p3 p4 p5 p6 hb6 HB5 HA5 HN5
    go_wp2_with fail
    clear p0' p6'
    go_loopw [45] (fun q wr => ∃ j : Nat, j ≤ d.known.length ∧ q = .int .i64 j ∧ Hid (Below w6.heap.size w6 wr)) (fun q _ => d.known.length - (intOf q).toNat)
    case atStart => exact ⟨0, Nat.zero_le _, rfl, hide (Below.refl _ _)⟩
    case round =>
     obtain ⟨j, hj, rfl, HBj⟩ := hrel
     obtain ⟨w7, rfl⟩ : ∃ w7, w7 = wr := ⟨wr, rfl⟩
     have HB7 := hide (below_step HB6.out HBj.out)
     by_cases hjt : j < d.known.length
     ·have hjt' : (j : Int) < (d.known.length : Int) := by omega
      have hjx : j < X.nodes.length := by have := HR.out.2.2.1; omega
      have hjx' : (j : Int) < (X.nodes.length : Int) := by omega
      obtain ⟨c, HC1⟩ : ∃ c, Hid (d.known[j]? = some c) := ⟨_, List.getElem?_eq_getElem hjt⟩
      obtain ⟨f, HF⟩ : ∃ f, Hid (X.nodes[j]? = some f) := ⟨_, List.getElem?_eq_getElem hjx⟩
      obtain ⟨gm, ea1, ec1, ea2, ec2, ea3, ec3, ea4, ec4, ea5, ec5, ea6, ec6, hgb, hnf, q0, q1, q2, q3, q4, q5, q6⟩ := (HWO.out.below HB7.out).at HF.out
      simp only [Option.some.injEq, Addr.mk.injEq, and_true] at hgb
      subst hgb
      obtain ⟨kb, ko, ka, kc, hka, hkc, hkr⟩ := (N6.out.below HBj.out (nlr _)).clk.2.2.2.2.at HC1.out
      subst hka
      have R7 := hide hkr
      have N7 := hide hnf
      have y0 := (HBX.out.below HB7.out (nlr _)).get 0 rfl
      clear hkr hnf hjt hjx q0 q2 q3 q4 q5 q6
      go_wp2_with fail
      refine (sees_clock _ _ f.st.clock c _ N7.out.clk.1 R7.out).mono ?_
      rintro e w8 ⟨rfl, hb8⟩
      rw [HR.out.2.2.2 _ _ _ HC1.out HF.out]
      have HB8 := hide (below_step HBj.out hb8)
      clear hb8 q1 y0 hkc
      go_wp2_with fail
      go_roundw
      case rel => exact ⟨j + 1, by omega, by go_num, HB8⟩
      case measure => simp [intOf]; omega
     ·have hjt' : ¬ (j : Int) < (d.known.length : Int) := by omega
      go_wp2_with fail
      go_roundw
      case rel => exact ⟨i + 1, by omega, by go_num, HB7⟩
      case measure => simp [intOf]; omega
   ·have hlt' : ¬ (i : Int) < (X.nodes.length : Int) := by omega
    have HBw := hide (below_step HB3.out HBi.out)
    have L4 := hide (L3.out.below HBi.out (nlr _))
    have C4 := hide (HCO.out.below HBi.out)
    clear HB3 L3 HCO HWO HBX HBi
    go_wp2_with fail
    go_loopw [64] (fun q wr => ∃ j : Nat, j ≤ l.length ∧ q = .int .i64 j ∧ Hid (Below w4.heap.size w4 wr)) (fun q _ => l.length - (intOf q).toNat)
    case atStart => exact ⟨0, Nat.zero_le _, rfl, hide (Below.refl _ _)⟩
    case round =>
     obtain ⟨j, hj, rfl, HBj⟩ := hrel
     obtain ⟨w7, rfl⟩ : ∃ w7, w7 = wr := ⟨wr, rfl⟩
     have HB7 := hide (below_step HBw.out HBj.out)
     by_cases hjt : j < l.length
     ·have hjt' : (j : Int) < (l.length : Int) := by omega
      have hjc : j < C.length := by rw [HCL.out]; exact hjt
      have hjc' : (j : Int) < (C.length : Int) := by omega
      obtain ⟨o, HO⟩ : ∃ o, Hid (l[j]? = some o) := ⟨_, List.getElem?_eq_getElem hjt⟩
      obtain ⟨c, HC1⟩ : ∃ c, Hid (C[j]? = some c) := ⟨_, List.getElem?_eq_getElem hjc⟩
      have HR : Hid (o.kind = 3 → c = 0 ∨ c = 5 ∨ c = 6 ∨ c = 7) := right_deliver hk1 hk6 HO.out (by rw [← HCR.out]; exact HC1.out)
      obtain ⟨lb, lo, hla, sv, hsv, d0, d1, d2, d3, d4, d5, d6, d7⟩ := (L4.out.below HBj.out (nlr _)).at HO.out
      subst hla
      obtain ⟨sa, sn, hsf, -, -, -⟩ := id hsv
      subst hsf
      have hbp := Below.plus (Below.refl w7.heap.size w7) (.cells #[.int .i64 o.kind, .int .i64 o.n, .int .i64 o.dst, .int .i64 o.upd.author, .slice sa o.upd.seen.length sn, .int .i64 o.upd.kind, .int .i64 o.upd.key, .int .i64 o.upd.item] 54)
      have A8 := Box.new w7 [.int .i64 o.kind, .int .i64 o.n, .int .i64 o.dst, .int .i64 o.upd.author, .slice sa o.upd.seen.length sn, .int .i64 o.upd.kind, .int .i64 o.upd.key, .int .i64 o.upd.item] 54
      obtain ⟨w8, HW8⟩ : ∃ W, Hid (w7.alloc (.cells #[.int .i64 o.kind, .int .i64 o.n, .int .i64 o.dst, .int .i64 o.upd.author, .slice sa o.upd.seen.length sn, .int .i64 o.upd.kind, .int .i64 o.upd.key, .int .i64 o.upd.item] 54) = W) := ⟨_, rfl⟩
      rw [HW8.out] at hbp A8
      have HA8 := hide A8
      have HB8 := hide (below_step HBj.out hbp)
      obtain ⟨cg, hcg, hcell⟩ := (C4.out.below HB8.out).at HC1.out
      subst hcg
      have HCC := hide hcell
      clear hbp A8 hsv hcell hjc
      go_upto_region 21 with fail
      rw [HW8.out]
      clear d0 d1 d2 d3 d4 d5 d6 d7
      have p0 := HA8.out.get 0 rfl
      have hcell := HCC.out
      by_cases h3 : o.kind = 3
      ·have hc4 := HR.out h3
       rw [h3] at p0
       have H3 := hide h3
       clear h3
       rcases hc4 with rfl | rfl | rfl | rfl
       all_goals
        go_wp2_with fail
        go_roundw
        case rel => exact ⟨j + 1, by omega, by go_num, HB8⟩
        case measure => simp [intOf]; omega
      ·have h3' : (o.kind == 3) = false := by simp [h3]
       clear h3
       go_wp2_with fail
       go_roundw
       case rel => exact ⟨j + 1, by omega, by go_num, HB8⟩
       case measure => simp [intOf]; omega
     ·have hjt' : ¬ (j : Int) < (l.length : Int) := by omega
      go_wp2_with fail
      go_ret
      exact ⟨rfl, HB7.out⟩
 ·have hE' : (E != 0) = true := by simp [hE]
  clear hE
  go_enter Tryz.func6, Tryz.ntmps6
  go_wp2_with fail
  refine (alive7 _).mono ?_
  rintro e w1 ⟨rfl, hb1⟩
  have HB1 := hide (below_step HB0.out hb1)
  have L1 := hide (L0.out.below hb1 (nlr _))
  clear hb1 HB0 L0
  go_wp2_with fail
  refine (play_w n _ l _ L1.out).mono ?_
  rintro e w2 ⟨wv, cv, rfl, hW, hC, hb2⟩
  rw [HE.out]
  rw [HX.out] at hW
  rw [HC.out] at hC
  obtain ⟨a1, a2, hwv, hx6⟩ := hW.form
  subst hwv
  obtain ⟨ca, cc, hcv⟩ := hC.form
  subst hcv
  have hbp := Below.plus (Below.refl w2.heap.size w2) (.cells #[.slice a1 X.nodes.length X.nodes.length, .slice a2 X.nodes.length X.nodes.length] 26)
  have W3 := hW.below hbp
  have C3 := hC.below hbp
  have B3 := Box.new w2 [.slice a1 X.nodes.length X.nodes.length, .slice a2 X.nodes.length X.nodes.length] 26
  have hb3 := below_step hb2 hbp
  obtain ⟨w3, HW3⟩ : ∃ W, Hid (w2.alloc (.cells #[.slice a1 X.nodes.length X.nodes.length, .slice a2 X.nodes.length X.nodes.length] 26) = W) := ⟨_, rfl⟩
  rw [HW3.out] at W3 C3 B3 hb3
  have HB3 := hide (below_step HB1.out hb3)
  have L3 := hide (L1.out.below hb3 (nlr _))
  have HWO := hide W3
  have HCO := hide C3
  have HBX := hide B3
  clear hW hC hbp W3 C3 B3 hb3 hb2 HB1 L1
  go_wp2_with fail
  go_ret
  rw [HW3.out]
  exact ⟨rfl, HB3.out⟩
end Go.Proofs.YtbgeblafcbabaaaGreat
