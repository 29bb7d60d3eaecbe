/- TopLate, walked. -/
import Derived.Test.YtihedgnachophaaGreatTpB
import Derived.ProofKit
import Derived.OpenShut
import Derived.ShutString
import Derived.ChangeOld
import Derived.Below
import Derived.Deep.Slices
namespace Go.Proofs.YtihedgnachophaaGreat
open Go.RowKit

def LateP (m : List DoS) (j : Nat) : Prop := (∀ o ∈ m, o.kind = 1 → FitK o.upd.kind o.upd.key o.upd.item) → ∃ A cs, At 3 A cs m ∧ A.length ≤ j ∧ cs.getD 2 [] = zeroC 3
theorem late_none : LateP [] 0 := fun _ => ⟨_, _, At.start (by decide) (by decide), nlr _, rfl⟩
theorem late_iss {m : List DoS} {j : Nat} (h : LateP m j) (hj : j ≤ 150) {i : Nat} (hi : i < 2) (kd ky it : Int) : LateP (m ++ [issD i kd ky it]) (j + 1) := fun hall => by
 obtain ⟨A, cs, a1, a2, a3⟩ := h fun o ho => hall o (List.mem_append.2 (.inl ho))
 have hf : FitK kd ky it := hall (issD i kd ky it) (by simp) rfl
 refine ⟨_, _, a1.iss (by omega) (by omega) hf, by rw [List.length_append]; simp; omega, ?_⟩
 rw [getD_setN (by rw [a1.lc]; omega), if_neg (by omega)]
 exact a3
theorem late_tell {m : List DoS} {j : Nat} (h : LateP m j) (hj : j ≤ 150) {a b : Nat} (ha : a < 2) (hb : b < 2) (hne : a ≠ b) : LateP (m ++ [sendD a b, delD a b]) j := fun hall => by
 obtain ⟨A, cs, a1, a2, a3⟩ := h fun o ho => hall o (List.mem_append.2 (.inl ho))
 refine ⟨_, _, a1.tell (by omega) (by omega) (by omega) hne, a2, ?_⟩
 rw [getD_setN (by rw [a1.lc]; omega), if_neg (by omega)]
 exact a3
theorem late_prune {m : List DoS} {j : Nat} (h : LateP m j) {a : Nat} (ha : a < 2) : LateP (m ++ [pruneD a]) j := fun hall => by
 obtain ⟨A, cs, a1, a2, a3⟩ := h fun o ho => hall o (List.mem_append.2 (.inl ho))
 exact ⟨_, _, a1.prune (by omega), a2, a3⟩
theorem late_end {m : List DoS} {j : Nat} (h : LateP m j) (hj : j ≤ 150) (hall : ∀ o ∈ m, o.kind = 1 → FitK o.upd.kind o.upd.key o.upd.item) : ∃ A cs, At 3 A cs (m ++ [sendD 1 2, delD 1 2]) ∧ cs.getD 2 [] = cs.getD 1 [] := by
 obtain ⟨A, cs, a1, a2, a3⟩ := h hall
 have l3 := a1.lc
 refine ⟨_, _, a1.tell (a := 1) (b := 2) (by omega) (by decide) (by decide) (by decide), ?_⟩
 rw [getD_setN (by omega), if_pos rfl, getD_setN (by omega), if_neg (by decide), a3]
 have hg := (a1.inv.nd 1 (by rw [a1.len]; decide)).1.ina.good
 rw [← a1.at 1] at hg
 have hz := zeroC_good hg
 have hjg := join_good (n := (3 : Nat)) hz hg
 obtain ⟨-, -, g3, g4⟩ := goodC_iff.1 hg
 obtain ⟨-, -, j3, -⟩ := goodC_iff.1 hjg
 refine eq_getD (by show (joinC (zeroC ((3 : Nat) : Int).toNat) _).length = _; omega) fun i => ?_
 rw [joinC_getD, zeroC_getD]
 have := (g4 i).1
 unfold joinI
 split <;> omega
theorem wrong_fit {kd ky it : Int} (h : wrongU ⟨0, [0], kd, ky, it⟩ 1 = 0) : FitK kd ky it := by
 have hc : wrongC [0] 1 = 0 := by decide +kernel
 unfold wrongU at h
 simp only [hc, ne_eq, not_true, if_false] at h
 split at h
 ·cases h
 ·split at h
  ·cases h
  ·split at h
   ·cases h
   ·split at h
    ·cases h
    ·next h1 h2 h3 h4 =>
     unfold farU at h3
     simp only [decide_eq_true_eq] at h3
     unfold FitK
     simp only [not_and, Decidable.not_not] at h4
     refine ⟨by omega, by omega, by omega, by omega, by omega, by omega, h4⟩

set_option maxRecDepth 100000 in
set_option maxHeartbeats 4000000 in
theorem toplate_law (lv : Value) (us : List Upd) (w0 : World) (hu : LogV w0 lv us) :
  Calls Tryz.prog 7 #[lv] w0 fun e w' => e = .returned (.bool true) ∧ Below w0.heap.size w0 w' := by
 obtain ⟨i0, hi, hz0, hz1, hz2⟩ := info_parts Tryz.infoDoT
 have X0 := hide hu
 obtain ⟨la, lc, hlv, -, -, -⟩ := id hu
 subst hlv
 have hxl := hu.len_le
 clear hu
 by_cases h20 : (20 : Int) < (us.length : Int)
 ·have HB0 := hide (Below.refl w0.heap.size w0)
  have HS0 := hide (nlr w0.heap.size)
  go_enter Tryz.func7, Tryz.ntmps7
  go_wp2_with fail
  refine (aliveT _).mono ?_
  rintro e w1 ⟨rfl, hb⟩
  have HB1 := hide (HB0.out.trans (hb.mono HS0.out))
  have HS1 := hide (Nat.le_trans HS0.out hb.size)
  clear HB0 HS0  hb
  go_wp2_with fail
  go_ret
  exact ⟨rfl, HB1.out⟩
 ·have hx20 : us.length ≤ 20 := by omega
  have HB0 := hide (Below.refl w0.heap.size w0)
  have HS0 := hide (nlr w0.heap.size)
  go_enter Tryz.func7, Tryz.ntmps7
  go_wp2_with fail
  refine (aliveT _).mono ?_
  rintro e w1 ⟨rfl, hb⟩
  have HB1 := hide (HB0.out.trans (hb.mono HS0.out))
  have HS1 := hide (Nat.le_trans HS0.out hb.size)
  clear HB0 HS0  hb
  go_wp2_with fail
  go_loopw [3, 19] (fun o q wr => ∃ (j : Nat) (m : List DoS), j ≤ us.length ∧ q = .int .i64 j ∧ Hid (LateP m j) ∧ Hid (m.length ≤ 5 * j) ∧ Hid (OwnT wr w0.heap.size o m) ∧ Hid (Below w0.heap.size w0 wr)) (fun _ q _ => us.length - (intOf q).toNat)
  case atStart => exact ⟨0, [], Nat.zero_le _, rfl, hide late_none, hide (nlr _), hide (OwnT.nil _ _), HB1⟩
  case round =>
   obtain ⟨j, m, hj, rfl, HL, HM, O2, HB2⟩ := hrel
   obtain ⟨w2, rfl⟩ : ∃ w2, w2 = wr := ⟨wr, rfl⟩
   have HS2 := hide HB2.out.size
   clear HB1 HS1
   by_cases hlt : j < us.length
   ·have hlt' : (j : Int) < (us.length : Int) := by omega
    obtain ⟨u, HU⟩ : ∃ u, Hid (us[j]? = some u) := ⟨_, List.getElem?_eq_getElem hlt⟩
    obtain ⟨lb, lo, sa, sn, hla, d0, d1, d2, d3, d4, -, -⟩ := (X0.out.below HB2.out (nlr _)).at HU.out
    subst hla
    have hbp := bpl w2 (.cells #[.int .i64 u.author, .slice sa u.seen.length sn, .int .i64 u.kind, .int .i64 u.key, .int .i64 u.item] 37)
    have xb := Box.new w2 [.int .i64 u.author, .slice sa u.seen.length sn, .int .i64 u.kind, .int .i64 u.key, .int .i64 u.item] 37
    obtain ⟨w3, HW3⟩ : ∃ W, Hid (w2.alloc (.cells #[.int .i64 u.author, .slice sa u.seen.length sn, .int .i64 u.kind, .int .i64 u.key, .int .i64 u.item] 37) = W) := ⟨_, rfl⟩
    rw [HW3.out] at hbp xb
    have HB3 := hide (HB2.out.trans (hbp.mono HS2.out))
    have HS3 := hide (Nat.le_trans HS2.out hbp.size)
    have O3 := hide (O2.out.step hbp (nlr _))
    have b3 := hide xb
    clear HB2 HS2 O2 hbp
    clear xb
    go_upto_region 9 with fail
    rw [HW3.out]
    clear d0 d1 d2 d3 d4
    have y2 := b3.out.get 2 rfl
    have y3 := b3.out.get 3 rfl
    have y4 := b3.out.get 4 rfl
    have hrem : (j : Int) % 2 = ((j % 2 : Nat) : Int) := by omega
    have HREM := hide hrem
    clear hrem
    go_wp2_with fail
    rw [HREM.out]
    refine (issueT_fn _ _ _ _ _).mono ?_
    rintro e w4 ⟨rfl, hb⟩
    have HB4 := hide (HB3.out.trans (hb.mono HS3.out))
    have HS4 := hide (Nat.le_trans HS3.out hb.size)
    have O4 := hide (O3.out.step hb (nlr _))
    have b4 := hide (b3.out.below hb (nlr _))
    clear HB3 HS3 O3 b3 hb
    clear y2 y3 y4
    clear b4
    go_wp2_with (at_builtin; refine wpList_append_own _ rfl (.tmp 24) (.tmp 34) 22 rfl w0.heap.size 39 i0 (.agg #[.int .i64 0, .int .i64 0, .int .i64 0, .int .i64 0, .slice none 0 0, .int .i64 0, .int .i64 0, .int .i64 0]) 8 80 Tryz.underlying22 hi hz0 hz1 hz2 rfl (by decide) _ _ _ rfl ((O4.out.step ((Below.refl w4.heap.size w4).alloc (nlr _) _) (nlr _)).1) ⟨w4.heap.size, 0, none⟩ 1 1 ([issD (j % 2) u.kind u.key u.item].flatMap cellsD) rfl rfl ?c1 ?c2 ?c3 ?c4 ?c5 ?_)
    case c1 => exact alloc_cells w4 ([issD (j % 2) u.kind u.key u.item].flatMap cellsD) 39
    case c2 => exact flatD_one _
    case c3 => unfold maxLen; have := (show m.length ≤ 100 by have := HM.out; omega); omega
    case c4 => have := (show m.length ≤ 100 by have := HM.out; omega); omega
    case c5 => have := HS4.out; simp; omega
    intro lv5 w5 hown' hgrow _
    have hO : OwnT w5 w0.heap.size lv5 (m ++ [issD (j % 2) u.kind u.key u.item]) := OwnT.more O4.out (by simp [issD]) hown'
    have hk : Keeps [39] w4 w5 := (Keeps.below ((Below.refl w4.heap.size w4).alloc (nlr _) _)).trans (keepsT (O4.out.step ((Below.refl w4.heap.size w4).alloc (nlr _) _) (nlr _)) hgrow)
    have hb := ((Below.refl w0.heap.size w4).alloc HS4.out _).grown hgrow (by have := HS4.out; simp; omega) (fun g hg => (World.ownsRow.lt O4.out.1 g hg).1)
    have HB5 := hide (HB4.out.trans hb)
    have HS5 := hide (Nat.le_trans HS4.out hb.size)
    have O5 := hide hO
    clear HB4 HS4  hb
    clear hO hk hown' hgrow O4
    have HL1 := hide (late_iss HL.out (by omega) (i := j % 2) (Nat.mod_lt _ (by decide)) u.kind u.key u.item)
    obtain ⟨m1, HM1⟩ : ∃ m1, Hid (m ++ [issD (j % 2) u.kind u.key u.item] = m1) := ⟨_, rfl⟩
    rw [HM1.out] at HL1 O5
    have HML : Hid (m1.length ≤ 5 * j + 1) := by unfold Hid; rw [← HM1.out, List.length_append]; have := HM.out; simp; omega
    by_cases h3 : j % 3 = 2
    ·have h3' : (j : Int) % 3 = 2 := by omega
     go_wp2_with fail
     refine (tellT_w 0 1 _ m1 _ _ (by have := HML.out; omega) HS5.out O5.out).mono ?_
     rintro e w6 ⟨lv6, rfl, hO, hb, hk⟩
     have HB6 := hide (HB5.out.trans hb)
     have HS6 := hide (Nat.le_trans HS5.out hb.size)
     have O6 := hide hO
     clear HB5 HS5  hb
     clear hO hk O5
     go_wp2_with fail
     refine (tellT_w 1 0 _ (m1 ++ [sendD 0 1, delD 0 1]) _ _ (by have := HML.out; simp only [List.length_append, List.length_cons, List.length_nil]; omega) HS6.out O6.out).mono ?_
     rintro e w7 ⟨lv7, rfl, hO, hb, hk⟩
     have HB7 := hide (HB6.out.trans hb)
     have HS7 := hide (Nat.le_trans HS6.out hb.size)
     have O7 := hide hO
     clear HB6 HS6  hb
     clear hO hk O6
     go_wp2_with fail
     go_roundw
     case rel => exact ⟨j + 1, _, by omega, by go_num, hide (late_tell (late_tell HL1.out (by omega) (a := 0) (b := 1) (by decide) (by decide) (by decide)) (by omega) (a := 1) (b := 0) (by decide) (by decide) (by decide)), hide (by have := HML.out; simp only [List.length_append, List.length_cons, List.length_nil]; omega), O7, HB7⟩
     case measure => simp [intOf]; omega
    ·have h3' : ¬ (j : Int) % 3 = 2 := by omega
     go_wp2_with fail
     go_roundw
     case rel => exact ⟨j + 1, m1, by omega, by go_num, HL1, hide (by have := HML.out; omega), O5, HB5⟩
     case measure => simp [intOf]; omega
   ·have hlt' : ¬ (j : Int) < (us.length : Int) := by omega
    go_wp2_with fail
    refine (tellT_w 0 1 _ m _ _ (by have := HM.out; omega) HS2.out O2.out).mono ?_
    rintro e w3 ⟨lv3, rfl, hO, hb, hk⟩
    have HB3 := hide (HB2.out.trans hb)
    have HS3 := hide (Nat.le_trans HS2.out hb.size)
    have O3 := hide hO
    clear HB2 HS2  hb
    clear hO hk O2
    go_wp2_with fail
    refine (tellT_w 1 0 _ (m ++ [sendD 0 1, delD 0 1]) _ _ (by have := HM.out; simp only [List.length_append, List.length_cons, List.length_nil]; omega) HS3.out O3.out).mono ?_
    rintro e w4 ⟨lv4, rfl, hO, hb, hk⟩
    have HB4 := hide (HB3.out.trans hb)
    have HS4 := hide (Nat.le_trans HS3.out hb.size)
    have O4 := hide hO
    clear HB3 HS3  hb
    clear hO hk O3
    go_wp2_with fail
    refine (tellT_w 0 1 _ ((m ++ [sendD 0 1, delD 0 1]) ++ [sendD 1 0, delD 1 0]) _ _ (by have := HM.out; simp only [List.length_append, List.length_cons, List.length_nil]; omega) HS4.out O4.out).mono ?_
    rintro e w5 ⟨lv5, rfl, hO, hb, hk⟩
    have HB5 := hide (HB4.out.trans hb)
    have HS5 := hide (Nat.le_trans HS4.out hb.size)
    have O5 := hide hO
    clear HB4 HS4  hb
    clear hO hk O4
    obtain ⟨m3, HM3⟩ : ∃ m3, Hid ((((m ++ [sendD 0 1, delD 0 1]) ++ [sendD 1 0, delD 1 0]) ++ [sendD 0 1, delD 0 1]) = m3) := ⟨_, rfl⟩
    have HLE := hide (late_prune (late_prune (late_tell (late_tell (late_tell HL.out (by omega) (a := 0) (b := 1) (by decide) (by decide) (by decide)) (by omega) (a := 1) (b := 0) (by decide) (by decide) (by decide)) (by omega) (a := 0) (b := 1) (by decide) (by decide) (by decide)) (a := 0) (by decide)) (a := 1) (by decide))
    have HM3L : Hid (m3.length ≤ 200) := by unfold Hid; rw [← HM3.out]; have := HM.out; simp only [List.length_append, List.length_cons, List.length_nil]; omega
    rw [HM3.out] at HLE O5
    go_wp2_with fail
    refine (doT_fn 5 0 0 _).mono ?_
    rintro e w6 ⟨rfl, hb⟩
    have HB6 := hide (HB5.out.trans (hb.mono HS5.out))
    have HS6 := hide (Nat.le_trans HS5.out hb.size)
    have O6 := hide (O5.out.step hb (nlr _))
    clear HB5 HS5 O5 hb
    go_wp2_with fail
    refine (doT_fn 5 1 0 _).mono ?_
    rintro e w7 ⟨rfl, hb⟩
    have HB7 := hide (HB6.out.trans (hb.mono HS6.out))
    have HS7 := hide (Nat.le_trans HS6.out hb.size)
    have O7 := hide (O6.out.step hb (nlr _))
    clear HB6 HS6 O6 hb
    go_wp2_with (at_builtin; refine wpList_append_own _ rfl (.tmp 47) (.tmp 50) 22 rfl w0.heap.size 39 i0 (.agg #[.int .i64 0, .int .i64 0, .int .i64 0, .int .i64 0, .slice none 0 0, .int .i64 0, .int .i64 0, .int .i64 0]) 8 80 Tryz.underlying22 hi hz0 hz1 hz2 rfl (by decide) _ _ _ rfl ((O7.out.step ((Below.refl w7.heap.size w7).alloc (nlr _) _) (nlr _)).1) ⟨w7.heap.size, 0, none⟩ 2 2 ([pruneD 0, pruneD 1].flatMap cellsD) rfl rfl ?c1 ?c2 ?c3 ?c4 ?c5 ?_)
    case c1 => exact alloc_cells w7 ([pruneD 0, pruneD 1].flatMap cellsD) 39
    case c2 => exact flatD_one _
    case c3 => unfold maxLen; have := HM3L.out; omega
    case c4 => have := HM3L.out; omega
    case c5 => have := HS7.out; simp; omega
    intro lv8 w8 hown' hgrow _
    have hO : OwnT w8 w0.heap.size lv8 (m3 ++ [pruneD 0, pruneD 1]) := OwnT.more O7.out (by simp [pruneD, noUpd]) hown'
    have hk : Keeps [39] w7 w8 := (Keeps.below ((Below.refl w7.heap.size w7).alloc (nlr _) _)).trans (keepsT (O7.out.step ((Below.refl w7.heap.size w7).alloc (nlr _) _) (nlr _)) hgrow)
    have hb := ((Below.refl w0.heap.size w7).alloc HS7.out _).grown hgrow (by have := HS7.out; simp; omega) (fun g hg => (World.ownsRow.lt O7.out.1 g hg).1)
    have HB8 := hide (HB7.out.trans hb)
    have HS8 := hide (Nat.le_trans HS7.out hb.size)
    have O8 := hide hO
    clear HB7 HS7  hb
    clear hO hk hown' hgrow O7
    obtain ⟨M, HMM⟩ : ∃ M, Hid (m3 ++ [pruneD 0, pruneD 1] = M) := ⟨_, rfl⟩
    rw [List.append_assoc m3 [pruneD 0] [pruneD 1]] at HLE
    rw [show m3 ++ ([pruneD 0] ++ [pruneD 1]) = M from HMM.out] at HLE
    rw [HMM.out] at O8
    obtain ⟨ma, mc, hmv⟩ := O8.out.form
    subst hmv
    have hM200 : M.length ≤ 300 := by rw [← HMM.out]; have := HM3L.out; simp only [List.length_append, List.length_cons, List.length_nil]; omega
    by_cases h146 : (146 : Int) < (M.length : Int)
    ·go_wp2_with fail
     go_ret
     exact ⟨rfl, HB8.out⟩
    ·go_wp2_with fail
     go_loopw [57] (fun q wr => ∃ p : Nat, p ≤ M.length ∧ q = .int .i64 p ∧ Hid (∀ o ∈ M.take p, o.kind = 1 → FitK o.upd.kind o.upd.key o.upd.item) ∧ Hid (Below w8.heap.size w8 wr)) (fun q _ => M.length - (intOf q).toNat)
     case atStart => exact ⟨0, Nat.zero_le _, rfl, fun o ho => by simp at ho, hide (Below.refl _ _)⟩
     case round =>
      obtain ⟨p, hp, rfl, HF, HBP⟩ := hrel
      obtain ⟨w9, rfl⟩ : ∃ w9, w9 = wr := ⟨wr, rfl⟩
      have HB9 := hide (HB8.out.trans (HBP.out.mono HS8.out))
      have HS9 := hide HB9.out.size
      have O9 := hide (O8.out.step HBP.out (nlr _))
      have H9 := HBP
      by_cases hlt2 : p < M.length
      ·have hlt2' : (p : Int) < (M.length : Int) := by omega
       obtain ⟨o, HO⟩ : ∃ o, Hid (M[p]? = some o) := ⟨_, List.getElem?_eq_getElem hlt2⟩
       obtain ⟨mg, hma, d0, d1, d2, d3, d4, d5, d6, d7⟩ := O9.out.at HO.out
       subst hma
       have HTK : Hid (∀ P : DoS → Prop, (∀ x ∈ M.take p, P x) → P o → ∀ x ∈ M.take (p + 1), P x) := fun P h1 h2 x hx => by
        rw [take_snoc HO.out] at hx
        rcases List.mem_append.1 hx with hx | hx
        ·exact h1 x hx
        ·rw [List.mem_singleton.1 hx]; exact h2
       clear O9
       have hbp := bpl w9 (.cells #[.int .i64 o.kind, .int .i64 o.n, .int .i64 o.dst, .int .i64 o.upd.author, .slice none 0 0, .int .i64 o.upd.kind, .int .i64 o.upd.key, .int .i64 o.upd.item] 39)
       have xb := Box.new w9 [.int .i64 o.kind, .int .i64 o.n, .int .i64 o.dst, .int .i64 o.upd.author, .slice none 0 0, .int .i64 o.upd.kind, .int .i64 o.upd.key, .int .i64 o.upd.item] 39
       obtain ⟨w10, HW10⟩ : ∃ W, Hid (w9.alloc (.cells #[.int .i64 o.kind, .int .i64 o.n, .int .i64 o.dst, .int .i64 o.upd.author, .slice none 0 0, .int .i64 o.upd.kind, .int .i64 o.upd.key, .int .i64 o.upd.item] 39) = W) := ⟨_, rfl⟩
       rw [HW10.out] at hbp xb
       have HB10 := hide (HB9.out.trans (hbp.mono HS9.out))
       have HS10 := hide (Nat.le_trans HS9.out hbp.size)
       have H10 := hide (below_step H9.out hbp)
       have b10 := hide xb
       clear HB9 HS9 H9 hbp
       clear xb
       go_upto_region 20 with fail
       rw [HW10.out]
       clear d0 d1 d2 d3 d4 d5 d6 d7
       have y0 := b10.out.get 0 rfl
       have y5 := b10.out.get 5 rfl
       have y6 := b10.out.get 6 rfl
       have y7 := b10.out.get 7 rfl
       by_cases hk1 : o.kind = 1
       ·have hk1' : (o.kind == 1) = true := by simp [hk1]
        have HK1 := hide hk1
        clear hk1
        obtain ⟨e, HE⟩ : ∃ e, Hid (wrongU ⟨0, [0], o.upd.kind, o.upd.key, o.upd.item⟩ 1 = e) := ⟨_, rfl⟩
        have x5 := (b10.out.plus (.cells #[.int .i64 0] 3)).get 5 rfl
        have x6 := (b10.out.plus (.cells #[.int .i64 0] 3)).get 6 rfl
        have x7 := (b10.out.plus (.cells #[.int .i64 0] 3)).get 7 rfl
        have hbp := bpl w10 (.cells #[.int .i64 0] 3)
        have xZ := (show Row (w10.alloc (.cells #[.int .i64 0] 3)) (.slice (some ⟨w10.heap.size, 0, none⟩) 1 1) [0] from rowLit w10 [0] (by simp))
        obtain ⟨w11, HW11⟩ : ∃ W, Hid (w10.alloc (.cells #[.int .i64 0] 3) = W) := ⟨_, rfl⟩
        rw [HW11.out] at hbp xZ
        have HB11 := hide (HB10.out.trans (hbp.mono HS10.out))
        have HS11 := hide (Nat.le_trans HS10.out hbp.size)
        have H11 := hide (below_step H10.out hbp)
        have b11 := hide (b10.out.below hbp (nlr _))
        have Z11 := hide xZ
        clear HB10 HS10 H10 b10 hbp
        clear xZ
        go_wp2_with fail
        rw [HW11.out]
        refine (wrongU_ref _ ⟨0, [0], o.upd.kind, o.upd.key, o.upd.item⟩ 1 _ ⟨_, rfl, Z11.out⟩).mono ?_
        rintro e' w12 ⟨rfl, hb⟩
        rw [HE.out]
        have HB12 := hide (HB11.out.trans (hb.mono HS11.out))
        have HS12 := hide (Nat.le_trans HS11.out hb.size)
        have H12 := hide (below_step H11.out hb)
        have b12 := hide (b11.out.below hb (nlr _))
        have Z12 := hide (Z11.out.below hb (nlr _))
        clear HB11 HS11 H11 b11 Z11 hb
        by_cases he : e = 0
        ·subst he
         have HF1 := hide (HTK.out (fun o => o.kind = 1 → FitK o.upd.kind o.upd.key o.upd.item) HF.out (fun _ => wrong_fit HE.out))
         go_wp2_with fail
         go_roundw
         case rel => exact ⟨p + 1, by omega, by go_num, HF1, H12⟩
         case measure => simp [intOf]; omega
        ·have he' : (e != 0) = true := by simp [he]
         clear he
         go_wp2_with fail
         go_ret
         exact ⟨rfl, HB12.out⟩
       ·have hk1' : (o.kind == 1) = false := by simp [hk1]
        have HF1 := hide (HTK.out (fun o => o.kind = 1 → FitK o.upd.kind o.upd.key o.upd.item) HF.out (fun h => absurd h hk1))
        clear hk1
        go_wp2_with fail
        go_roundw
        case rel => exact ⟨p + 1, by omega, by go_num, HF1, H10⟩
        case measure => simp [intOf]; omega
      ·have hlt2' : ¬ (p : Int) < (M.length : Int) := by omega
       rw [List.take_of_length_le (show M.length ≤ p by omega)] at HF
       obtain ⟨A, cs, hAt, hcc⟩ := late_end HLE.out (by omega) HF.out
       have HAT := hide hAt
       obtain ⟨V, HVV⟩ : ∃ V, Hid (readX (ofS (3 : Nat) A (cs.getD 2 [])) = V) := ⟨_, rfl⟩
       have HVW : Hid (readX (ofS (3 : Nat) A (cs.getD 1 [])) = V) := by unfold Hid; rw [← hcc]; exact HVV.out
       clear hAt hcc
       go_wp2_with fail
       refine (tellT_w 1 2 _ M _ _ (by omega) HS9.out O9.out).mono ?_
       rintro e w10 ⟨lv10, rfl, hO, hb, hk⟩
       have HB10 := hide (HB9.out.trans hb)
       have HS10 := hide (Nat.le_trans HS9.out hb.size)
       have O10 := hide hO
       clear HB9 HS9  hb
       clear hO hk O9
       have HN : Hid ((M ++ [sendD 1 2, delD 1 2]).length ≤ 150) := by unfold Hid; simp only [List.length_append, List.length_cons, List.length_nil]; omega
       go_wp2_with fail
       refine (readsT_w HAT.out HN.out 2 (by decide) _ _ O10.out.dos).mono ?_
       rintro e w11 ⟨rv, rfl, hV, hb⟩
       rw [HVV.out] at hV
       obtain ⟨Vxa1, Vxc1, Vxa2, Vxc2, Vxa3, Vxc3, hrv⟩ := hV.read.form
       subst hrv
       have HB11 := hide (HB10.out.trans (hb.mono HS10.out))
       have HS11 := hide (Nat.le_trans HS10.out hb.size)
       have O11 := hide (O10.out.step hb (nlr _))
       have Vx11 := hide hV
       clear HB10 HS10 O10 hb
       have HGx := HS11
       have hbp := bpl w11 (.cells #[.slice Vxa1 V.regs.length Vxc1, .slice Vxa2 V.sets.length Vxc2, .slice Vxa3 V.cnts.length Vxc3] 58)
       have xx := Box.new w11 [.slice Vxa1 V.regs.length Vxc1, .slice Vxa2 V.sets.length Vxc2, .slice Vxa3 V.cnts.length Vxc3] 58
       obtain ⟨w12, HW12⟩ : ∃ W, Hid (w11.alloc (.cells #[.slice Vxa1 V.regs.length Vxc1, .slice Vxa2 V.sets.length Vxc2, .slice Vxa3 V.cnts.length Vxc3] 58) = W) := ⟨_, rfl⟩
       rw [HW12.out] at hbp xx
       have HB12 := hide (HB11.out.trans (hbp.mono HS11.out))
       have HS12 := hide (Nat.le_trans HS11.out hbp.size)
       have O12 := hide (O11.out.step hbp (nlr _))
       have Vx12 := hide (Vx11.out.below hbp (nlr _))
       have x12 := hide xx
       clear HB11 HS11 O11 Vx11 hbp
       clear xx
       go_wp2_with fail
       rw [HW12.out]
       refine (readsT_w HAT.out HN.out 1 (by decide) _ _ O12.out.dos).mono ?_
       rintro e w13 ⟨rv, rfl, hV, hb⟩
       rw [HVW.out] at hV
       obtain ⟨Vya1, Vyc1, Vya2, Vyc2, Vya3, Vyc3, hrv⟩ := hV.read.form
       subst hrv
       have HB13 := hide (HB12.out.trans (hb.mono HS12.out))
       have HS13 := hide (Nat.le_trans HS12.out hb.size)
       have O13 := hide (O12.out.step hb (nlr _))
       have Vx13 := hide (Vx12.out.below hb (nlr _))
       have x13 := hide (x12.out.below hb (nlr _))
       have Vy13 := hide hV
       clear HB12 HS12 O12 Vx12 x12 hb
       clear O13
       have HGy := HS13
       have hbp := bpl w13 (.cells #[.slice Vya1 V.regs.length Vyc1, .slice Vya2 V.sets.length Vyc2, .slice Vya3 V.cnts.length Vyc3] 58)
       have xy := Box.new w13 [.slice Vya1 V.regs.length Vyc1, .slice Vya2 V.sets.length Vyc2, .slice Vya3 V.cnts.length Vyc3] 58
       obtain ⟨w14, HW14⟩ : ∃ W, Hid (w13.alloc (.cells #[.slice Vya1 V.regs.length Vyc1, .slice Vya2 V.sets.length Vyc2, .slice Vya3 V.cnts.length Vyc3] 58) = W) := ⟨_, rfl⟩
       rw [HW14.out] at hbp xy
       have HB14 := hide (HB13.out.trans (hbp.mono HS13.out))
       have HS14 := hide (Nat.le_trans HS13.out hbp.size)
       have Vx14 := hide (Vx13.out.below hbp (nlr _))
       have x14 := hide (x13.out.below hbp (nlr _))
       have Vy14 := hide (Vy13.out.below hbp (nlr _))
       have y14 := hide xy
       clear HB13 HS13 Vx13 x13 Vy13 hbp
       clear xy
       go_upto_region 26 with fail
       rw [HW14.out]
       have xz0 := x14.out.get 0 rfl
       have xz1 := x14.out.get 1 rfl
       have xz2 := x14.out.get 2 rfl
       have yz0 := y14.out.get 0 rfl
       have yz1 := y14.out.get 1 rfl
       have yz2 := y14.out.get 2 rfl
       go_wp2_with fail
       refine (sameView_yes _ _ V _ Vx14.out.read Vy14.out.read).mono ?_
       rintro e w15 ⟨rfl, hb⟩
       have HB15 := hide (HB14.out.trans (hb.mono HS14.out))
       have HS15 := hide (Nat.le_trans HS14.out hb.size)
       have Vx15 := hide (Vx14.out.below hb (nlr _))
       have x15 := hide (x14.out.below hb (nlr _))
       have Vy15 := hide (Vy14.out.below hb (nlr _))
       have y15 := hide (y14.out.below hb (nlr _))
       clear HB14 HS14 Vx14 x14 Vy14 y14 hb
       clear xz0 xz1 xz2 yz0 yz1 yz2
       go_wp2_with fail
       go_ret
       exact ⟨rfl, HB15.out⟩
end Go.Proofs.YtihedgnachophaaGreat
namespace Go.Proofs.YtihedgnachophaaGreat
open Go.RowKit

theorem addr_add (b off j : Nat) : (⟨b, off, none⟩ : Addr).add j = ⟨b, off + j, none⟩ := by
 simp only [Addr.add]
 split
 ·next e => rw [e]; rfl
 ·rfl

theorem row_of_cells {w : World} {a : Option Addr} {len cap : Nat} {zs : List Int}
  (h : (a = none ∧ len = 0 ∧ cap = 0 ∧ zs = []) ∨ ∃ x, a = some x ∧ len ≤ cap ∧ cap ≤ maxLen ∧ zs.length = cap ∧ (∀ i, i < zs.length → w.cell? (x.add i) = some (.int .i64 (zs.getD i 0))) ∧ ∀ n ∈ zs, (Lit.int .i64 n).wf = true) :
  Row w (.slice a len cap) (zs.take len) := by
 rcases h with ⟨rfl, rfl, rfl, rfl⟩ | ⟨x, rfl, h1, h2, h3, h4, -⟩
 ·exact ⟨none, 0, rfl, by simp, by unfold maxLen; omega, fun i hi => by simp at hi⟩
 ·have hl : (zs.take len).length = len := by rw [List.length_take]; omega
  refine ⟨some x, cap, by rw [hl], by omega, h2, fun i hi => ?_⟩
  rw [hl] at hi
  have hc := h4 i (by omega)
  obtain ⟨b, off, spot⟩ := x
  have hspot : spot = none := by simpa [Addr.add] using World.cell?_spot (h4 0 (by omega))
  subst hspot
  rw [addr_add] at hc
  refine ⟨b, off, rfl, ?_⟩
  rw [hc]
  have h5 : (zs.take len).getD i 0 = zs.getD i 0 := by simp [List.getD, hi]
  rw [h5]
end Go.Proofs.YtihedgnachophaaGreat
/- What came in as data: a clock, an update, a log. -/
namespace Go.Proofs.YtihedgnachophaaGreat
open Go.ChangeShapes Go.WideShapes Go.ChangeAt Go.RowKit Go.Deep

set_option maxRecDepth 100000 in
theorem list5 {α : Type} {l : List α} (h : l.length = 5) : ∃ a b c d e, l = [a, b, c, d, e] := by
 match l, h with
 | [a, b, c, d, e], _ => exact ⟨a, b, c, d, e, rfl⟩

set_option maxRecDepth 100000 in
theorem Tryz.cellsInt : Tryz.prog.cellsOf 3 = 1 := by kernel_rfl
set_option maxRecDepth 100000 in
theorem Tryz.cellsUpd : Tryz.prog.cellsOf 37 = 5 := by kernel_rfl

set_option maxRecDepth 100000 in
theorem list_of {Q : Nat → Upd → Prop} : ∀ {n : Nat}, (∀ i, i < n → ∃ u, Q i u) → ∃ l : List Upd, l.length = n ∧ ∀ i u, l[i]? = some u → Q i u
 | 0, _ => ⟨[], rfl, fun i u h => by simp at h⟩
 | n + 1, h => by
  obtain ⟨l, h1, h2⟩ := list_of (n := n) (fun i hi => h i (by omega))
  obtain ⟨u, hu⟩ := h n (by omega)
  refine ⟨l ++ [u], by simp [h1], fun i v hi => ?_⟩
  rcases Nat.lt_or_ge i n with hlt | hge
  ·rw [List.getElem?_append_left (by omega)] at hi
   exact h2 i v hi
  ·rw [List.getElem?_append_right (by omega)] at hi
   have : i - l.length = 0 := by
    rcases Nat.eq_zero_or_pos (i - l.length) with h0 | h0
    ·exact h0
    ·rw [List.getElem?_eq_none (by simp; omega)] at hi; cases hi
   rw [this] at hi
   simp at hi
   subst hi
   rw [show i = n by omega]
   exact hu

section
variable {H : Type} {enc : TypeId × Value → H} {w : World} {base : Nat} {held : Bool}

set_option maxRecDepth 100000 in
theorem open_clock {fuel : Nat} {c : Value} {x : DataW H × List MemPlace} (h : DataW.trod enc Tryz.prog w base (fun _ => true) held fuel 35 [c] = some x) : ∃ xs, Row w c xs := by
 rcases open_ints Tryz.underlying35 Tryz.underlying3 Tryz.cellsInt h with ⟨hcs, _⟩ | ⟨a, l, cp, zs, hcs, _, hl, hm, hz, _, hcell, hwz⟩
 ·simp only [List.cons.injEq, and_true] at hcs
  subst hcs
  exact ⟨[], by simpa using row_of_cells (w := w) (zs := []) (.inl ⟨rfl, rfl, rfl, rfl⟩)⟩
 ·simp only [List.cons.injEq, and_true] at hcs
  subst hcs
  exact ⟨_, row_of_cells (.inr ⟨a, rfl, hl, hm, by simpa using hz, hcell, hwz⟩)⟩

set_option maxRecDepth 100000 in
theorem open_upd5 {fuel : Nat} {cs : List Value} {x : DataW H × List MemPlace} (h : DataW.trod enc Tryz.prog w base (fun _ => true) held fuel 37 cs = some x) :
  ∃ (u : Upd) (sv : Value), cs = [.int .i64 u.author, sv, .int .i64 u.kind, .int .i64 u.key, .int .i64 u.item] ∧ Row w sv u.seen ∧ (Lit.int .i64 u.author).wf = true ∧ (Lit.int .i64 u.kind).wf = true ∧ (Lit.int .i64 u.key).wf = true ∧ (Lit.int .i64 u.item).wf = true := by
 obtain ⟨xs, n, _, _, hl, hlen, hf⟩ := DataW.trod_struct Tryz.underlying37 h
 rw [Tryz.cellsUpd] at hl
 obtain ⟨c0, c1, c2, c3, c4, rfl⟩ := list5 hl
 have hlen' : xs.length = 5 := hlen
 obtain ⟨y0, y1, y2, y3, y4, rfl⟩ := list5 hlen'
 have f0 := hf 0 _ rfl
 have f1 := hf 1 _ rfl
 have f2 := hf 2 _ rfl
 have f3 := hf 3 _ rfl
 have f4 := hf 4 _ rfl
 simp only [List.getElem?_cons_zero, List.getElem?_cons_succ] at f0 f1 f2 f3 f4
 obtain ⟨a0, e0, -, w0⟩ := DataW.trod_int Tryz.underlying3 f0
 obtain ⟨a2, e2, -, w2⟩ := DataW.trod_int Tryz.underlying3 f2
 obtain ⟨a3, e3, -, w3⟩ := DataW.trod_int Tryz.underlying3 f3
 obtain ⟨a4, e4, -, w4⟩ := DataW.trod_int Tryz.underlying3 f4
 obtain ⟨sx, hrow⟩ := open_clock f1
 obtain rfl : c0 = _ := List.head_eq_of_cons_eq e0
 obtain rfl : c2 = _ := List.head_eq_of_cons_eq e2
 obtain rfl : c3 = _ := List.head_eq_of_cons_eq e3
 obtain rfl : c4 = _ := List.head_eq_of_cons_eq e4
 exact ⟨⟨a0, sx, a2, a3, a4⟩, c1, rfl, hrow, w0, w2, w3, w4⟩

set_option maxRecDepth 100000 in
theorem open_log {r : Reach} {b0 : Nat} {v : Value} {d : DataW H} {p : List MemPlace} (hv : Value.okWide Tryz.prog w r b0 46 v)
  (h : DataW.Trod enc Tryz.prog w base (fun _ => true) held 46 v d p) : ∃ l, LogV w v l := by
 obtain ⟨a, len, cap, rfl⟩ := okWide_slice Tryz.underlying46 hv
 obtain ⟨fuel, hf⟩ := h
 rcases open_slice Tryz.underlying46 hf with ⟨hcs, -⟩ | ⟨x, l, cp, m, n, D, Pl, hcs, hb, hl, hm, hmm, -, hcell⟩
 ·simp [Value.cells] at hcs
  obtain ⟨rfl, rfl, rfl⟩ := hcs
  exact ⟨[], LogV.nil _⟩
 ·simp [Value.cells] at hcs
  obtain ⟨rfl, rfl, rfl⟩ := hcs
  simp only [if_true] at hmm
  have each : ∀ i, i < len → ∃ u, ∀ b off, x = ⟨b, off, none⟩ → UpdAt w b (off + i * 5) u := by
   intro i hi
   obtain ⟨cs', h1, h2⟩ := hcell i (by omega)
   obtain ⟨u, sv, rfl, hrow, -⟩ := open_upd5 h2
   rw [Tryz.cellsUpd] at h1
   refine ⟨u, fun b off e => ?_⟩
   subst e
   have c := (World.cells?_some h1).2.2
   simp only [addr_add] at c
   exact ⟨sv, hrow, c 0 (by omega), c 1 (by omega), c 2 (by omega), c 3 (by omega), c 4 (by omega)⟩
  obtain ⟨L, hL, hP⟩ := list_of each
  refine ⟨L, some x, cap, by rw [hL], by omega, hm, fun i u hi => ?_⟩
  have hil : i < len := by rw [← hL]; exact (List.getElem?_eq_some_iff.1 hi).1
  obtain ⟨b, off, spot⟩ := x
  have hspot : spot = none := by
   obtain ⟨cs', h1, -⟩ := hcell 0 (by omega)
   rw [Tryz.cellsUpd] at h1
   obtain ⟨-, hl5, hc⟩ := World.cells?_some h1
   have h0 := hc 0 (by omega)
   rw [List.getElem?_eq_getElem (by omega)] at h0
   simpa [Addr.add] using World.cell?_spot h0
  subst hspot
  exact ⟨b, off, rfl, hP i u hi b off rfl⟩
end
end Go.Proofs.YtihedgnachophaaGreat
