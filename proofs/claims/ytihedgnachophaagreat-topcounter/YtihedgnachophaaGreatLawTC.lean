/- TopCounter, walked. -/
import Derived.Test.YtihedgnachophaaGreatTpB
import Derived.ProofKit
import Derived.OpenShut
import Derived.ShutString
import Derived.ChangeOld
import Derived.Below
import Derived.Deep.Slices
namespace Go.Proofs.YtihedgnachophaaGreat
open Go.RowKit

theorem three {T : List Int} : ∀ {l : List (List Int)}, l.length = 3 → l.getD 0 [] = T → l.getD 1 [] = T → l.getD 2 [] = T → l = [T, T, T]
 | [a, b, c], _, h0, h1, h2 => by
  obtain rfl : a = T := h0
  obtain rfl : b = a := h1
  obtain rfl : c = b := h2
  rfl
theorem At.flood {A : List Upd} {cs : List (List Int)} {m : List DoS} (h : At 3 A cs m) (hf : A.length ≤ 150) : At 3 A [totC (3 : Nat) A, totC (3 : Nat) A, totC (3 : Nat) A] (m ++ [sendD 0 1, delD 0 1] ++ [sendD 1 2, delD 1 2] ++ [sendD 2 1, delD 2 1] ++ [sendD 1 0, delD 1 0]) := by
 have h1 := h.tell (a := 0) (b := 1) hf (by decide) (by decide) (by decide)
 have h2 := h1.tell (a := 1) (b := 2) hf (by decide) (by decide) (by decide)
 have h3 := h2.tell (a := 2) (b := 1) hf (by decide) (by decide) (by decide)
 have h4 := h3.tell (a := 1) (b := 0) hf (by decide) (by decide) (by decide)
 have l0 : 1 < cs.length := by rw [h.lc]; decide
 have l1 := h1.lc
 have l2 := h2.lc
 have l3 := h3.lc
 have o0 := h.own (i := 0) (by decide)
 have o1 := h.own (i := 1) (by decide)
 have o2 := h.own (i := 2) (by decide)
 have a1 : (cs.set 1 (joinC (cs.getD 1 []) (cs.getD 0 []))).getD 1 [] = joinC (cs.getD 1 []) (cs.getD 0 []) := by rw [getD_setN l0, if_pos rfl]
 have a2 : (cs.set 1 (joinC (cs.getD 1 []) (cs.getD 0 []))).getD 2 [] = cs.getD 2 [] := by rw [getD_setN l0, if_neg (by decide)]
 obtain ⟨c1, e1⟩ : ∃ c, cs.set 1 (joinC (cs.getD 1 []) (cs.getD 0 [])) = c := ⟨_, rfl⟩
 rw [e1] at h1 h2 h3 h4 l1 l2 l3 a1 a2
 have b2 := h2.full (i := 2) (by decide) fun j hj => by
  rw [getD_setN (by rw [l1]; decide), if_pos rfl, joinC_getD, a1, a2, joinC_getD]
  match j, hj with
  | 0, _ => rw [← o0]; exact Int.le_trans joinI_le.2 joinI_le.2
  | 1, _ => rw [← o1]; exact Int.le_trans joinI_le.1 joinI_le.2
  | 2, _ => rw [← o2]; exact joinI_le.1
 obtain ⟨c2, e2⟩ : ∃ c, c1.set 2 (joinC (c1.getD 2 []) (c1.getD 1 [])) = c := ⟨_, rfl⟩
 rw [e2] at h2 h3 h4 l2 l3 b2
 have b3 := h3.full (i := 1) (by decide) fun j _ => by
  rw [getD_setN (by rw [l2]; decide), if_pos rfl, joinC_getD, b2]
  exact joinI_le.2
 have b3' : (c2.set 1 (joinC (c2.getD 1 []) (c2.getD 2 []))).getD 2 [] = totC (3 : Nat) A := by rw [getD_setN (by rw [l2]; decide), if_neg (by decide)]; exact b2
 obtain ⟨c3, e3⟩ : ∃ c, c2.set 1 (joinC (c2.getD 1 []) (c2.getD 2 [])) = c := ⟨_, rfl⟩
 rw [e3] at h3 h4 l3 b3 b3'
 have b4 := h4.full (i := 0) (by decide) fun j _ => by
  rw [getD_setN (by rw [l3]; decide), if_pos rfl, joinC_getD, b3]
  exact joinI_le.2
 refine h4.cast (three h4.lc b4 ?_ ?_)
 ·rw [getD_setN (by rw [l3]; decide), if_neg (by decide)]; exact b3
 ·rw [getD_setN (by rw [l3]; decide), if_neg (by decide)]; exact b3'
def gotL (key : Int) (cs : List (Int × Int)) (g : Int) : Int := cs.foldl (fun g c => if c.1 = key then c.2 else g) g
theorem got_none {key : Int} : ∀ (l : List (Int × Int)) (g : Int), (∀ p ∈ l, ¬ p.1 = key) → gotL key l g = g
 | [], _, _ => rfl
 | p :: r, g, h => by
  have hp := h p (by simp)
  have := got_none r g (fun q hq => h q (by simp [hq]))
  unfold gotL at this ⊢
  rw [List.foldl_cons, if_neg hp]
  exact this
theorem got_num {key : Int} : ∀ {l : List (Int × Int)} (g : Int), (l.Pairwise fun p q => p.1 < q.1) → gotL key l g = match l.find? (fun p => decide (p.1 = key)) with | some p => p.2 | none => g
 | [], _, _ => rfl
 | p :: r, g, h => by
  rw [List.pairwise_cons] at h
  rw [List.find?_cons]
  by_cases hp : p.1 = key
  ·rw [decide_eq_true hp]
   have := got_none (key := key) r p.2 (fun q hq e => by have := h.1 q hq; omega)
   unfold gotL at this ⊢
   rw [List.foldl_cons, if_pos hp]
   exact this
  ·rw [decide_eq_false hp]
   have := got_num (key := key) (l := r) g h.2
   unfold gotL at this ⊢
   rw [List.foldl_cons, if_neg hp]
   exact this
theorem got_take {key : Int} {l : List (Int × Int)} {j : Nat} {x : Int × Int} (h : l[j]? = some x) (g : Int) : gotL key (l.take (j + 1)) g = if x.1 = key then x.2 else gotL key (l.take j) g := by
 rw [take_snoc h]
 unfold gotL
 rw [List.foldl_append]
 rfl
theorem cnt_read {A : List Upd} {cs : List (List Int)} {m : List DoS} (h : At 3 A cs m) {i : Nat} (hi : i < 3) (hc : cs.getD i [] = totC (3 : Nat) A) (key : Int) : gotL key (readX (ofS (3 : Nat) A (cs.getD i []))).cnts 0 = sumK (playT [] A) key := by
 have e := h.num hi key
 rw [hc, mine_all h] at e
 rw [hc]
 obtain ⟨-, h2, h3⟩ := h.st hi
 rw [hc] at h2 h3
 rw [readX_ok h2] at e ⊢
 rw [← e]
 exact got_num 0 (count_all h3.ord).keys
theorem cnt_more {A : List Upd} {u : Upd} (hk : u.kind = 5) : sumK (playT [] (A ++ [u])) u.key = sumK (playT [] A) u.key + u.item := by rw [playT_snoc, count_more hk, if_pos rfl]

set_option maxRecDepth 100000 in
set_option maxHeartbeats 4000000 in
theorem topcnt_law (key again : Int) (lv : Value) (xs : List Int) (w0 : World) (hx : Row w0 lv xs) :
  Calls Tryz.prog 6 #[.int .i64 key, lv, .int .i64 again] w0 fun e w' => e = .returned (.bool true) ∧ Below w0.heap.size w0 w' := by
 obtain ⟨bb, HBB⟩ : ∃ bb, Hid (rightB key xs = bb) := ⟨_, rfl⟩
 obtain ⟨i0, hi, hz0, hz1, hz2⟩ := info_parts Tryz.infoDoT
 have X0 := hide hx
 obtain ⟨la, lc, hlv, hcap, hmax, -⟩ := id hx
 subst hlv
 have hxl : xs.length ≤ 9223372036854775807 := by unfold maxLen at hmax; omega
 clear hcap hmax hx
 have HB0 := hide (Below.refl w0.heap.size w0)
 have HS0 := hide (nlr w0.heap.size)
 go_enter Tryz.func6, Tryz.ntmps6
 go_wp2_with fail
 refine (aliveT _).mono ?_
 rintro e w1 ⟨rfl, hb⟩
 have HB1 := hide (HB0.out.trans (hb.mono HS0.out))
 have HS1 := hide (Nat.le_trans HS0.out hb.size)
 clear HB0 HS0  hb
 go_wp2_with fail
 refine (rightT_w key _ xs _ (X0.out.below HB1.out (nlr _))).mono ?_
 rintro e w2 ⟨rfl, hb⟩
 have HB2 := hide (HB1.out.trans (hb.mono HS1.out))
 have HS2 := hide (Nat.le_trans HS1.out hb.size)
 clear HB1 HS1  hb
 rw [HBB.out]
 cases bb with
 | false =>
  go_wp2_with fail
  go_ret
  exact ⟨rfl, HB2.out⟩
 | true =>
  by_cases h20 : (20 : Int) < (xs.length : Int)
  ·go_wp2_with fail
   go_ret
   exact ⟨rfl, HB2.out⟩
  ·by_cases ha0 : again < 0
   ·go_wp2_with fail
    go_ret
    exact ⟨rfl, HB2.out⟩
   ·by_cases ha5 : 5 < again
    ·go_wp2_with fail
     go_ret
     exact ⟨rfl, HB2.out⟩
    ·obtain ⟨r1, r2, r3⟩ := right_ok HBB.out
     have HFIT : Hid (∀ x ∈ xs, FitK 5 key x) := fun x hx => by have := r1 x hx; unfold FitK; omega
     obtain ⟨g, hg⟩ : ∃ g : Nat, again = g := ⟨again.toNat, by omega⟩
     subst hg
     have hx20 : xs.length ≤ 20 := by omega
     have hg5 : g ≤ 5 := by omega
     clear r1 r2 r3
     go_wp2_with fail
     go_loopw [7, 8, 38] (fun o s q wr => ∃ (j : Nat) (z : Int) (m : List DoS) (A : List Upd) (cs : List (List Int)), j ≤ xs.length ∧ q = .int .i64 j ∧ s = .int .i64 z ∧ Hid (-(1000 * (j : Int)) ≤ z ∧ z ≤ 1000 * (j : Int)) ∧ Hid (At 3 A cs m) ∧ Hid (A.length = j) ∧ Hid (m.length = j) ∧ Hid (z = sumK (playT [] A) key) ∧ Hid (OwnT wr w0.heap.size o m) ∧ Hid (Below w0.heap.size w0 wr)) (fun _ _ q _ => xs.length - (intOf q).toNat)
     case atStart => exact ⟨0, 0, [], [], _, Nat.zero_le _, rfl, rfl, hide ⟨by simp, by simp⟩, hide (At.start (by decide) (by decide)), rfl, rfl, rfl, hide (OwnT.nil _ _), HB2⟩
     case round =>
      obtain ⟨j, z, m, A, cs, hj, rfl, rfl, HZB, HAT, HAL, HML, HZ, O3, HB3⟩ := hrel
      obtain ⟨w3, rfl⟩ : ∃ w3, w3 = wr := ⟨wr, rfl⟩
      have HS3 := hide HB3.out.size
      clear HB2 HS2
      have hzl : -20000 ≤ z := by have := HZB.out; omega
      have hzu : z ≤ 20000 := by have := HZB.out; omega
      by_cases hlt : j < xs.length
      ·have hlt' : (j : Int) < (xs.length : Int) := by omega
       obtain ⟨x, HX⟩ : ∃ x, Hid (xs[j]? = some x) := ⟨_, List.getElem?_eq_getElem hlt⟩
       have HFX := hide (HFIT.out x (List.mem_of_getElem? HX.out))
       have hx1 : -1000 ≤ x := by have := HFX.out; unfold FitK at this; omega
       have hx2 : x ≤ 1000 := by have := HFX.out; unfold FitK at this; omega
       obtain ⟨ad, hla, hcx⟩ := (X0.out.below HB3.out (nlr _)).cells.2.2.2 (by omega)
       subst hla
       have hc := hcx j (.int .i64 x) (by rw [List.getElem?_map, HX.out]; rfl)
       clear hcx
       have hrem : (j : Int) % 3 = ((j % 3 : Nat) : Int) := by omega
       have HREM := hide hrem
       clear hrem
       go_wp2_with fail
       rw [HREM.out]
       refine (issueT_fn _ 5 key x _).mono ?_
       rintro e w4 ⟨rfl, hb⟩
       have HB4 := hide (HB3.out.trans (hb.mono HS3.out))
       have HS4 := hide (Nat.le_trans HS3.out hb.size)
       have O4 := hide (O3.out.step hb (nlr _))
       clear HB3 HS3 O3 hb
       clear hc
       go_wp2_with (at_builtin; refine wpList_append_own _ rfl (.tmp 43) (.tmp 49) 22 rfl w0.heap.size 39 i0 (.agg #[.int .i64 0, .int .i64 0, .int .i64 0, .int .i64 0, .slice none 0 0, .int .i64 0, .int .i64 0, .int .i64 0]) 8 80 Tryz.underlying22 hi hz0 hz1 hz2 rfl (by decide) _ _ _ rfl ((O4.out.step ((Below.refl w4.heap.size w4).alloc (nlr _) _) (nlr _)).1) ⟨w4.heap.size, 0, none⟩ 1 1 ([issD (j % 3) 5 key x].flatMap cellsD) rfl rfl ?c1 ?c2 ?c3 ?c4 ?c5 ?_)
       case c1 => exact alloc_cells w4 ([issD (j % 3) 5 key x].flatMap cellsD) 39
       case c2 => exact flatD_one _
       case c3 => unfold maxLen; have := (show m.length ≤ 100 by rw [HML.out]; omega); omega
       case c4 => have := (show m.length ≤ 100 by rw [HML.out]; omega); omega
       case c5 => have := HS4.out; simp; omega
       intro lv5 w5 hown' hgrow _
       have hO : OwnT w5 w0.heap.size lv5 (m ++ [issD (j % 3) 5 key x]) := OwnT.more O4.out (by simp [issD]) hown'
       have hk : Keeps [39] w4 w5 := (Keeps.below ((Below.refl w4.heap.size w4).alloc (nlr _) _)).trans (keepsT (O4.out.step ((Below.refl w4.heap.size w4).alloc (nlr _) _) (nlr _)) hgrow)
       have hb := ((Below.refl w0.heap.size w4).alloc HS4.out _).grown hgrow (by have := HS4.out; simp; omega) (fun g hg => (World.ownsRow.lt O4.out.1 g hg).1)
       have HB5 := hide (HB4.out.trans hb)
       have HS5 := hide (Nat.le_trans HS4.out hb.size)
       have O5 := hide hO
       clear HB4 HS4  hb
       clear hO hk hown' hgrow O4
       go_wp2_with fail
       go_roundw
       case rel => exact ⟨j + 1, z + x, _, _, _, by omega, by go_num, by go_num, hide ⟨by have := HZB.out; omega, by have := HZB.out; omega⟩, hide (HAT.out.iss (by rw [HAL.out]; omega) (i := j % 3) (Nat.mod_lt _ (by decide)) HFX.out), hide (by rw [List.length_append, HAL.out]; rfl), hide (by rw [List.length_append, HML.out]; rfl), hide (by rw [HZ.out]; exact (cnt_more (u := ⟨_, _, 5, key, x⟩) rfl).symm), O5, HB5⟩
       case measure => simp [intOf]; omega
      ·have hlt' : ¬ (j : Int) < (xs.length : Int) := by omega
       obtain ⟨T, HT⟩ : ∃ T, Hid (totC (3 : Nat) A = T) := ⟨_, rfl⟩
       have HA20 : Hid (A.length ≤ 20) := by unfold Hid; rw [HAL.out]; omega
       have HM20 : Hid (m.length ≤ 20) := by unfold Hid; rw [HML.out]; omega
       go_wp2_with fail
       go_loopw [7, 57] (fun o q wr => ∃ (i : Nat) (m : List DoS) (cs : List (List Int)), i ≤ g + 2 ∧ q = .int .i64 i ∧ Hid (At 3 A cs m) ∧ Hid (0 < i → cs = [T, T, T]) ∧ Hid (m.length ≤ 20 + i * 8) ∧ Hid (OwnT wr w0.heap.size o m) ∧ Hid (Below w0.heap.size w0 wr)) (fun _ q _ => g + 2 - (intOf q).toNat)
       case atStart => exact ⟨0, m, cs, Nat.zero_le _, rfl, HAT, fun h => absurd h (by omega), hide (by have := HM20.out; omega), O3, HB3⟩
       case round =>
        obtain ⟨i, m, cs, hi2, rfl, HAT2, HTT, HM2, O4, HB4⟩ := hrel
        obtain ⟨w4, rfl⟩ : ∃ w4, w4 = wr := ⟨wr, rfl⟩
        have HS4 := hide HB4.out.size
        clear HB3 HS3 O3
        by_cases hlt2 : i < g + 2
        ·have hlt2' : (i : Int) < (g : Int) + 2 := by omega
         go_wp2_with fail
         refine (tellT_w 0 1 _ m _ _ (by have := HM2.out; omega) HS4.out O4.out).mono ?_
         rintro e w5 ⟨lv5, rfl, hO, hb, hk⟩
         have HB5 := hide (HB4.out.trans hb)
         have HS5 := hide (Nat.le_trans HS4.out hb.size)
         have O5 := hide hO
         clear HB4 HS4  hb
         clear hO hk O4
         go_wp2_with fail
         refine (tellT_w 1 2 _ (m ++ [sendD 0 1, delD 0 1]) _ _ (by have := HM2.out; simp only [List.length_append, List.length_cons, List.length_nil]; omega) HS5.out O5.out).mono ?_
         rintro e w6 ⟨lv6, rfl, hO, hb, hk⟩
         have HB6 := hide (HB5.out.trans hb)
         have HS6 := hide (Nat.le_trans HS5.out hb.size)
         have O6 := hide hO
         clear HB5 HS5  hb
         clear hO hk O5
         go_wp2_with fail
         refine (tellT_w 2 1 _ ((m ++ [sendD 0 1, delD 0 1]) ++ [sendD 1 2, delD 1 2]) _ _ (by have := HM2.out; simp only [List.length_append, List.length_cons, List.length_nil]; omega) HS6.out O6.out).mono ?_
         rintro e w7 ⟨lv7, rfl, hO, hb, hk⟩
         have HB7 := hide (HB6.out.trans hb)
         have HS7 := hide (Nat.le_trans HS6.out hb.size)
         have O7 := hide hO
         clear HB6 HS6  hb
         clear hO hk O6
         go_wp2_with fail
         refine (tellT_w 1 0 _ (((m ++ [sendD 0 1, delD 0 1]) ++ [sendD 1 2, delD 1 2]) ++ [sendD 2 1, delD 2 1]) _ _ (by have := HM2.out; simp only [List.length_append, List.length_cons, List.length_nil]; omega) HS7.out O7.out).mono ?_
         rintro e w8 ⟨lv8, rfl, hO, hb, hk⟩
         have HB8 := hide (HB7.out.trans hb)
         have HS8 := hide (Nat.le_trans HS7.out hb.size)
         have O8 := hide hO
         clear HB7 HS7  hb
         clear hO hk O7
         go_wp2_with fail
         go_roundw
         case rel => exact ⟨i + 1, _, _, by omega, by go_num, hide (HAT2.out.flood (Nat.le_trans HA20.out (by decide))), fun _ => by rw [HT.out], hide (by have := HM2.out; simp only [List.length_append, List.length_cons, List.length_nil]; omega), O8, HB8⟩
         case measure => simp [intOf]; omega
        ·have hlt2' : ¬ (i : Int) < (g : Int) + 2 := by omega
         have HC3 := hide (HTT.out (by omega))
         rw [HC3.out] at HAT2
         have HM3 : Hid (m.length ≤ 150) := by unfold Hid; have := HM2.out; omega
         go_wp2_with fail
         go_loopw [65] (fun q wr => ∃ p : Nat, p ≤ 3 ∧ q = .int .i64 p ∧ Hid (Below w4.heap.size w4 wr)) (fun q _ => 3 - (intOf q).toNat)
         case atStart => exact ⟨0, Nat.zero_le _, rfl, hide (Below.refl _ _)⟩
         case round =>
          obtain ⟨p, hp, rfl, HBP⟩ := hrel
          obtain ⟨w5, rfl⟩ : ∃ w5, w5 = wr := ⟨wr, rfl⟩
          have HB5 := hide (HB4.out.trans (HBP.out.mono HS4.out))
          have HS5 := hide HB5.out.size
          have O5 := hide (O4.out.step HBP.out (nlr _))
          by_cases hlt3 : p < 3
          ·have hlt3' : (p : Int) < 3 := by omega
           obtain ⟨V, HVV⟩ : ∃ V, Hid (readX (ofS (3 : Nat) A ([T, T, T].getD p [])) = V) := ⟨_, rfl⟩
           have HGOT : Hid (gotL key V.cnts 0 = z) := by
            unfold Hid
            rw [← HVV.out, HZ.out]
            exact cnt_read HAT2.out hlt3 (by rw [HT.out]; match p, hlt3 with | 0, _ => rfl | 1, _ => rfl | 2, _ => rfl) key
           have H5 := HBP
           go_wp2_with fail
           refine (readsT_w HAT2.out HM3.out p hlt3 _ _ O5.out.dos).mono ?_
           rintro e w6 ⟨rv, rfl, hV, hb⟩
           rw [HVV.out] at hV
           obtain ⟨Vxa1, Vxc1, Vxa2, Vxc2, Vxa3, Vxc3, hrv⟩ := hV.read.form
           subst hrv
           have HB6 := hide (HB5.out.trans (hb.mono HS5.out))
           have HS6 := hide (Nat.le_trans HS5.out hb.size)
           have O6 := hide (O5.out.step hb (nlr _))
           have H6 := hide (below_step H5.out hb)
           have Vx6 := hide hV
           clear HB5 HS5 O5 H5 hb
           clear O6
           have HGx := HS6
           have hbp := bpl w6 (.cells #[.slice Vxa1 V.regs.length Vxc1, .slice Vxa2 V.sets.length Vxc2, .slice Vxa3 V.cnts.length Vxc3] 58)
           have xx := Box.new w6 [.slice Vxa1 V.regs.length Vxc1, .slice Vxa2 V.sets.length Vxc2, .slice Vxa3 V.cnts.length Vxc3] 58
           obtain ⟨w7, HW7⟩ : ∃ W, Hid (w6.alloc (.cells #[.slice Vxa1 V.regs.length Vxc1, .slice Vxa2 V.sets.length Vxc2, .slice Vxa3 V.cnts.length Vxc3] 58) = W) := ⟨_, rfl⟩
           rw [HW7.out] at hbp xx
           have HB7 := hide (HB6.out.trans (hbp.mono HS6.out))
           have HS7 := hide (Nat.le_trans HS6.out hbp.size)
           have H7 := hide (below_step H6.out hbp)
           have Vx7 := hide (Vx6.out.below hbp (nlr _))
           have x7 := hide xx
           clear HB6 HS6 H6 Vx6 hbp
           clear xx
           have HCN := hide (Vx7.out.read.parts.2.2)
           have hcn9 : V.cnts.length ≤ 9223372036854775807 := by obtain ⟨_, _, -, h1, h2, -⟩ := HCN.out; unfold maxLen at h2; omega
           have y2 := x7.out.get 2 rfl
           go_wp2_with fail
           rw [HW7.out]
           clear y2
           go_loopw [14, 79] (fun gt q wr => ∃ c : Nat, c ≤ V.cnts.length ∧ q = .int .i64 c ∧ gt = .int .i64 (gotL key (V.cnts.take c) 0) ∧ Hid (Below w7.heap.size w7 wr)) (fun _ q _ => V.cnts.length - (intOf q).toNat)
           case atStart => exact ⟨0, Nat.zero_le _, rfl, rfl, hide (Below.refl _ _)⟩
           case round =>
            obtain ⟨c, hcl, rfl, rfl, HBC⟩ := hrel
            obtain ⟨w8, rfl⟩ : ∃ w8, w8 = wr := ⟨wr, rfl⟩
            by_cases hlt4 : c < V.cnts.length
            ·have hlt4' : (c : Int) < (V.cnts.length : Int) := by omega
             obtain ⟨y, HY⟩ : ∃ y, Hid (V.cnts[c]? = some y) := ⟨_, List.getElem?_eq_getElem hlt4⟩
             obtain ⟨cg, co, hca, k0, k1⟩ := pairAt (HCN.out.below HBC.out (nlr _)) HY.out
             subst hca
             have HBE := hide (below_step HBC.out (bpl w8 (.cells #[.int .i64 y.1, .int .i64 y.2] 66)))
             have HGT := hide (got_take (key := key) HY.out 0)
             by_cases hyk : y.1 = key
             ·have hyk' : (y.1 == key) = true := by simp [hyk]
              rw [if_pos hyk] at HGT
              clear hyk
              go_wp2_with fail
              go_roundw
              case rel => exact ⟨c + 1, by omega, by go_num, by rw [HGT.out], HBE⟩
              case measure => simp [intOf]; omega
             ·have hyk' : (y.1 == key) = false := by simp [hyk]
              rw [if_neg hyk] at HGT
              clear hyk
              go_wp2_with fail
              go_roundw
              case rel => exact ⟨c + 1, by omega, by go_num, by rw [HGT.out], HBE⟩
              case measure => simp [intOf]; omega
            ·have hlt4' : ¬ (c : Int) < (V.cnts.length : Int) := by omega
             rw [List.take_of_length_le (show V.cnts.length ≤ c by omega), HGOT.out]
             go_wp2_with fail
             go_roundw
             case rel => exact ⟨p + 1, by omega, by go_num, hide (below_step H7.out HBC.out)⟩
             case measure => simp [intOf]; omega
          ·have hlt3' : ¬ (p : Int) < 3 := by omega
           go_wp2_with fail
           go_ret
           exact ⟨rfl, HB5.out⟩
end Go.Proofs.YtihedgnachophaaGreat
namespace Go.Proofs.YtihedgnachophaaGreat
open Go.RowKit

theorem addr_add (b off j : Nat) : (⟨b, off, none⟩ : Addr).add j = ⟨b, off + j, none⟩ := by
 simp only [Addr.add]
 split
 ·next e => rw [e]; rfl
 ·rfl

theorem row_of_cells {w : World} {a : Option Addr} {len cap : Nat} {zs : List Int}
  (h : (a = none ∧ len = 0 ∧ cap = 0 ∧ zs = []) ∨ ∃ x, a = some x ∧ len ≤ cap ∧ cap ≤ maxLen ∧ zs.length = cap ∧ (∀ i, i < zs.length → w.cell? (x.add i) = some (.int .i64 (zs.getD i 0))) ∧ ∀ n ∈ zs, (Lit.int .i64 n).wf = true) :
  Row w (.slice a len cap) (zs.take len) := by
 rcases h with ⟨rfl, rfl, rfl, rfl⟩ | ⟨x, rfl, h1, h2, h3, h4, -⟩
 ·exact ⟨none, 0, rfl, by simp, by unfold maxLen; omega, fun i hi => by simp at hi⟩
 ·have hl : (zs.take len).length = len := by rw [List.length_take]; omega
  refine ⟨some x, cap, by rw [hl], by omega, h2, fun i hi => ?_⟩
  rw [hl] at hi
  have hc := h4 i (by omega)
  obtain ⟨b, off, spot⟩ := x
  have hspot : spot = none := by simpa [Addr.add] using World.cell?_spot (h4 0 (by omega))
  subst hspot
  rw [addr_add] at hc
  refine ⟨b, off, rfl, ?_⟩
  rw [hc]
  have h5 : (zs.take len).getD i 0 = zs.getD i 0 := by simp [List.getD, hi]
  rw [h5]
end Go.Proofs.YtihedgnachophaaGreat
namespace Go.Proofs.YtihedgnachophaaGreat
open Go.ChangeShapes Go.WideShapes Go.ChangeAt Go.RowKit Go.Deep

set_option maxRecDepth 100000 in
theorem Tryz.cellsInt : Tryz.prog.cellsOf 3 = 1 := by kernel_rfl
section
variable {H : Type} {enc : TypeId × Value → H} {w : World} {base : Nat} {held : Bool}

set_option maxRecDepth 100000 in
theorem open_clock {fuel : Nat} {c : Value} {x : DataW H × List MemPlace} (h : DataW.trod enc Tryz.prog w base (fun _ => true) held fuel 34 [c] = some x) : ∃ xs, Row w c xs := by
 rcases open_ints Tryz.underlying34 Tryz.underlying3 Tryz.cellsInt h with ⟨hcs, _⟩ | ⟨a, l, cp, zs, hcs, _, hl, hm, hz, _, hcell, hwz⟩
 ·simp only [List.cons.injEq, and_true] at hcs
  subst hcs
  exact ⟨[], by simpa using row_of_cells (w := w) (zs := []) (.inl ⟨rfl, rfl, rfl, rfl⟩)⟩
 ·simp only [List.cons.injEq, and_true] at hcs
  subst hcs
  exact ⟨_, row_of_cells (.inr ⟨a, rfl, hl, hm, by simpa using hz, hcell, hwz⟩)⟩

set_option maxRecDepth 100000 in
theorem open_row {r : Reach} {b0 : Nat} {v : Value} {d : DataW H} {p : List MemPlace} (hv : Value.okWide Tryz.prog w r b0 34 v)
  (h : DataW.Trod enc Tryz.prog w base (fun _ => true) held 34 v d p) : ∃ xs, Row w v xs := by
 obtain ⟨a, len, cap, rfl⟩ := okWide_slice Tryz.underlying34 hv
 obtain ⟨fuel, hf⟩ := h
 exact open_clock hf

end
end Go.Proofs.YtihedgnachophaaGreat
