/- WorldRead, walked: the helpers, then the law. -/
import Derived.Test.YtbgeblafcbabaaaGreatWdD
import Derived.Test.YtbgeblafcbabaaaGreatJoB
namespace Go.Proofs.YtbgeblafcbabaaaGreat
open Go.RowKit

theorem DoV.at {w : World} {a : Option Addr} {n c : Nat} {l : List DoS} (h : DoV w (.slice a n c) l) {i : Nat} {o : DoS} (ho : l[i]? = some o) : ∃ b off, a = some ⟨b, off, none⟩ ∧ DoAt w b (off + i * 8) o := by
 obtain ⟨a', c', h1, -, -, h4⟩ := h
 simp only [Value.slice.injEq] at h1
 obtain ⟨rfl, -, -⟩ := h1
 exact h4 i o ho
theorem LogO.last {w : World} {B : Nat} {a : Option Addr} {n c : Nat} {l : List Upd} {u : Upd} (h : LogOf w B (.slice a n c) (l ++ [u])) : ∃ g sv, a = some ⟨g, 0, none⟩ ∧ Own w B sv u.seen ∧
  w.cell? ⟨g, l.length * 5, none⟩ = some (.int .i64 u.author) ∧ w.cell? ⟨g, l.length * 5 + 1, none⟩ = some sv ∧ w.cell? ⟨g, l.length * 5 + 2, none⟩ = some (.int .i64 u.kind) ∧ w.cell? ⟨g, l.length * 5 + 3, none⟩ = some (.int .i64 u.key) ∧ w.cell? ⟨g, l.length * 5 + 4, none⟩ = some (.int .i64 u.item) := by
 obtain ⟨ps, ⟨h, hs⟩, hp⟩ := h
 have hlen : ps.length = l.length + 1 := by have := congrArg List.length hp; simpa using this
 obtain ⟨p, hpl⟩ : ∃ p, ps[l.length]? = some p := ⟨_, List.getElem?_eq_getElem (by omega)⟩
 have hu : p.1 = u := by
  have h1 : (ps.map (·.1))[l.length]? = some p.1 := by rw [List.getElem?_map, hpl]; rfl
  rw [hp] at h1
  simpa using h1.symm
 rcases h.2 with ⟨-, h0⟩ | ⟨g, cap, cur, hv, hg, hh, h1, h2, h3, h4⟩
 ·omega
 ·simp only [Value.slice.injEq] at hv
  obtain ⟨rfl, -, -⟩ := hv
  have cell : ∀ j, j < 5 → w.cell? ⟨g, l.length * 5 + j, none⟩ = (cellsU p.1 p.2)[j]? := by
   intro j hj
   rw [← cellsP_get ps l.length j p hpl hj, ← h4]
   have : l.length * 5 + j < ps.length * 5 := by omega
   rw [List.getElem?_take_of_lt this]
   simp [World.cell?, hh]
  rw [hu] at cell
  have ho := hs p (List.mem_of_getElem? hpl)
  rw [hu] at ho
  exact ⟨g, p.2, rfl, ho, cell 0 (by omega), cell 1 (by omega), cell 2 (by omega), cell 3 (by omega), cell 4 (by omega)⟩
theorem NodeO.logs {w : World} {B : Nat} {d : NdS} {x c l t b u k : Value} (h : NodeO w B (.agg #[x, c, l, t, b, u, k]) d) : LogOf w B u d.log := by
 obtain ⟨cv, lv, tv, bv, uv, kv, he, -, -, hl, -⟩ := h
 simp only [Value.agg.injEq, Array.mk.injEq, List.cons.injEq, and_true] at he
 obtain ⟨-, rfl, rfl, rfl, rfl, rfl, rfl⟩ := he
 exact hl
theorem runU_step {l : List DoS} {j : Nat} {o : DoS} (w : WdS) (h : l[j]? = some o) : runU w (l.take (j + 1)) = runU w (l.take j) ++ newU (runX w (l.take j)) o := by rw [take_snoc h, runU_snoc]
theorem newU_no {w : WdS} {o : DoS} (h : ¬ stepE w o = 0) : newU w o = [] := by unfold newU; rw [if_neg (fun hh => h hh.2)]

set_option maxRecDepth 100000 in
set_option maxHeartbeats 8000000 in
theorem issued_w (k : Nat) (lv : Value) (l : List DoS) (w0 : World) (hk1 : 1 ≤ k) (hk6 : k ≤ 6) (hl150 : l.length ≤ 150) (hl : DoV w0 lv l) :
  Calls Tryz.prog 19 #[.int .i64 k, lv] w0 fun e w' => ∃ ov ps, e = .returned ov ∧ ps.map (·.1) = runU (beginW k) l ∧ LogO w' w0.heap.size ov ps ∧ Below w0.heap.size w0 w' := by
 obtain ⟨i0, hi, hz0, hz1, hz2⟩ := info_parts Tryz.infoUpd
 have HL := hide hl
 obtain ⟨la, lc, hlv, hcap, hmax, -⟩ := id hl
 subst hlv
 clear hl
 go_enter Tryz.func19, Tryz.ntmps19
 go_wp2_with fail
 go_loopw [5, 14] (fun o q wr => ∃ (j : Nat) (ps : List (Upd × Value)), j ≤ l.length ∧ q = .int .i64 j ∧ Hid (ps.map (·.1) = runU (beginW k) (l.take j)) ∧ Hid (LogO wr w0.heap.size o ps) ∧ Hid (Below w0.heap.size w0 wr)) (fun _ q _ => l.length - (intOf q).toNat)
 case atStart => exact ⟨0, [], Nat.zero_le _, rfl, rfl, ⟨World.ownsRow_nil _ _ _ _, fun p hp => by simp at hp⟩, Below.refl _ _⟩
 case round =>
  obtain ⟨j, ps, hj, rfl, HP, O3, HB3⟩ := hrel
  obtain ⟨w3, rfl⟩ : ∃ w3, w3 = wr := ⟨wr, rfl⟩
  have L3 := hide (HL.out.below HB3.out (nlr _))
  clear HL
  by_cases hlt : j < l.length
  ·have hlt' : (j : Int) < (l.length : Int) := by omega
   obtain ⟨o, HO⟩ : ∃ o, Hid (l[j]? = some o) := ⟨_, List.getElem?_eq_getElem hlt⟩
   have HT := hide (runU_step (beginW k) HO.out)
   obtain ⟨Z, HZ⟩ : ∃ Z, Hid (runX (beginW k) (l.take j) = Z) := ⟨_, rfl⟩
   have HZL : Hid (Z.nodes.length = k) := by unfold Hid; rw [← HZ.out, runX_len, begin_len]
   rw [HZ.out] at HT
   have HPL : Hid (ps.length ≤ 150) := by
    have h1 := congrArg List.length HP.out
    have h2 := runU_few (l.take j) (beginW k)
    have h3 := List.length_take (i := j) (l := l)
    simp only [List.length_map] at h1
    unfold Hid
    omega
   obtain ⟨lb, lo, hla, sv, hsv, d0, d1, d2, d3, d4, d5, d6, d7⟩ := L3.out.at HO.out
   subst hla
   obtain ⟨sa, sn, hsf, -, -, -⟩ := id hsv
   subst hsf
   obtain ⟨okind, on, odst, oupd⟩ := o
   simp only at d0 d1 d2 d3 d4 d5 d6 d7
   have hbp := Below.plus (Below.refl w3.heap.size w3) (.cells #[.int .i64 okind, .int .i64 on, .int .i64 odst, .int .i64 oupd.author, .slice sa oupd.seen.length sn, .int .i64 oupd.kind, .int .i64 oupd.key, .int .i64 oupd.item] 54)
   have A4 := Box.new w3 [.int .i64 okind, .int .i64 on, .int .i64 odst, .int .i64 oupd.author, .slice sa oupd.seen.length sn, .int .i64 oupd.kind, .int .i64 oupd.key, .int .i64 oupd.item] 54
   have P4 := O3.out.below hbp (nlr _)
   have M4 := L3.out.below hbp (nlr _)
   obtain ⟨w4, HW4⟩ : ∃ W, Hid (w3.alloc (.cells #[.int .i64 okind, .int .i64 on, .int .i64 odst, .int .i64 oupd.author, .slice sa oupd.seen.length sn, .int .i64 oupd.kind, .int .i64 oupd.key, .int .i64 oupd.item] 54) = W) := ⟨_, rfl⟩
   rw [HW4.out] at hbp A4 P4 M4
   have HA4 := hide A4
   have O4 := hide P4
   have L4 := hide M4
   have HB4 := hide (below_step HB3.out hbp)
   clear hbp A4 P4 M4 hsv O3 HB3 L3
   go_upto_region 5 with fail
   rw [HW4.out]
   clear d0 d1 d2 d3 d4 d5 d6 d7
   have p0 := HA4.out.get 0 rfl
   by_cases hk : okind = 1
   ·subst hk
    have hcm : (j : Int) + 1 ≤ (lc : Int) := by omega
    have hcx : (lc : Int) ≤ 9223372036854775807 := by unfold maxLen at hmax; omega
    have hq0 : ¬ (j : Int) + 1 < 0 := by omega
    go_wp2_with fail
    clear p0
    refine (play_w k _ (l.take (j + 1)) _ (L4.out.take (by omega))).mono ?_
    rintro e w5 ⟨wv, cv, rfl, hW, hC, hb5⟩
    obtain ⟨pe, px, pc⟩ := playWE_ok hk1 hk6 (l := l.take (j + 1)) (by rw [List.length_take]; omega)
    rw [pe]
    rw [px, take_snoc HO.out, runX_snoc, HZ.out] at hW
    rw [pc, take_snoc HO.out, runE_snoc, HZ.out] at hC
    have hCL : (runE (beginW k) (l.take j) ++ [stepE Z ⟨1, on, odst, oupd⟩])[j]? = some (stepE Z ⟨1, on, odst, oupd⟩) := by
     have : (runE (beginW k) (l.take j)).length = j := by rw [runE_length, List.length_take]; omega
     rw [List.getElem?_append_right (by omega), this, Nat.sub_self]; rfl
    have hCN : (runE (beginW k) (l.take j) ++ [stepE Z ⟨1, on, odst, oupd⟩]).length = j + 1 := by
     rw [List.length_append, runE_length, List.length_take]; simp only [List.length_cons, List.length_nil]; omega
    obtain ⟨S, HS⟩ : ∃ S, Hid (stepE Z ⟨1, on, odst, oupd⟩ = S) := ⟨_, rfl⟩
    obtain ⟨X, HX⟩ : ∃ X, Hid (stepX Z ⟨1, on, odst, oupd⟩ = X) := ⟨_, rfl⟩
    rw [HX.out] at hW
    rw [HS.out] at hC hCL hCN
    obtain ⟨C, HC⟩ : ∃ C, Hid (runE (beginW k) (l.take j) ++ [S] = C) := ⟨_, rfl⟩
    rw [HC.out] at hC hCL hCN
    have HXL : Hid (X.nodes.length = k) := by unfold Hid; rw [← HX.out, stepX_len]; exact HZL.out
    obtain ⟨a1, a2, hwv, hx6⟩ := hW.form
    subst hwv
    obtain ⟨ca, cc, hcv⟩ := hC.form
    subst hcv
    have hjc : (j : Int) < (C.length : Int) := by omega
    have hbp := Below.plus (Below.refl w5.heap.size w5) (.cells #[.slice a1 X.nodes.length X.nodes.length, .slice a2 X.nodes.length X.nodes.length] 26)
    have W6 := hW.below hbp
    have C6 := hC.below hbp
    have B6 := Box.new w5 [.slice a1 X.nodes.length X.nodes.length, .slice a2 X.nodes.length X.nodes.length] 26
    have hb6 := below_step hb5 hbp
    obtain ⟨w6, HW6⟩ : ∃ W, Hid (w5.alloc (.cells #[.slice a1 X.nodes.length X.nodes.length, .slice a2 X.nodes.length X.nodes.length] 26) = W) := ⟨_, rfl⟩
    rw [HW6.out] at W6 C6 B6 hb6
    have HB6 := hide (below_step HB4.out hb6)
    have A6 := hide (HA4.out.below hb6 (nlr _))
    have O6 := hide (O4.out.below hb6 (nlr _))
    have HWO := hide W6
    have HBX := hide B6
    have HSZ := hide HB4.out.size
    obtain ⟨cg, hcg, hcell⟩ := C6.at hCL
    subst hcg
    clear hW hC hbp W6 C6 B6 hb6 hb5 hCL hCN pe px pc HA4 O4 HB4 L4
    go_upto_region 7 with fail
    rw [HW6.out]
    by_cases hS : S = 0
    ·subst hS
     obtain ⟨hnb, hlog, hnew, -⟩ := issued_last rfl HS.out
     obtain ⟨i, hin, hiz⟩ := isNB_nat hnb
     simp only at hin
     subst hin
     have hix : i < X.nodes.length := by rw [HXL.out, ← HZL.out]; exact hiz
     obtain ⟨d, HD⟩ : ∃ d, Hid (X.nodes[i]? = some d) := ⟨_, List.getElem?_eq_getElem hix⟩
     rw [hnew] at HT
     rw [HX.out] at hlog
     obtain ⟨u, HU⟩ : ∃ u, Hid (ownU (nodeAt Z (i : Int)) oupd = u) := ⟨_, rfl⟩
     obtain ⟨g0, HG0⟩ : ∃ g, Hid ((nodeAt Z (i : Int)).log = g) := ⟨_, rfl⟩
     simp only at hlog HT
     rw [HU.out] at HT hlog
     rw [HG0.out] at hlog
     have hdl : d.log = g0 ++ [u] := by
      rw [← hlog]; unfold nodeAt; rw [Int.toNat_natCast, List.getD_eq_getElem?_getD, HD.out]; rfl
     have hix' : (i : Int) < (X.nodes.length : Int) := by omega
     obtain ⟨gn, ba1, bc1, ba2, bc2, ba3, bc3, ba4, bc4, ba5, bc5, ba6, bc6, hga, hno, q0, q1, q2, q3, q4, q5, q6⟩ := HWO.out.at HD.out
     subst hga
     have hlo := (hno.base HSZ.out).logs
     rw [hdl] at hlo q5
     obtain ⟨lg, uv, hlg, hown, c0, c1, c2, c3, c4⟩ := LogO.last hlo
     subst hlg
     obtain ⟨ua, uc, huv, -, -, -⟩ := id hown.row
     subst huv
     have U6 := hide hown
     rw [List.length_append, List.length_singleton] at q5
     have p1 := A6.out.get 1 rfl
     have z0 := HBX.out.get 0 rfl
     have hql : (g0.length : Int) < 9223372036854775807 := by
      have := hno.clk.2.2.2.1.len_le
      rw [hdl, List.length_append, List.length_singleton] at this
      omega
     clear hnb hlog hnew hiz hix hdl hno hlo hown q0 q1 q2 q3 q4 q6
     have hg1 : ¬ (g0.length : Int) < 0 := by omega
     have hg2 : (g0.length : Int) < ((g0.length + 1 : Nat) : Int) := by omega
     go_upto_region 9 with fail
     clear p1 z0 q5 hcell
     go_wp2_with (at_builtin; refine wpList_append_own _ rfl (.tmp 48) (.tmp 55) 34 rfl w0.heap.size 52 i0 (.agg #[.int .i64 0, .slice none 0 0, .int .i64 0, .int .i64 0, .int .i64 0]) 5 56 Tryz.underlying34 hi hz0 hz1 hz2 rfl (by decide) _ _ _ rfl ((O6.out.below ((Below.refl w6.heap.size w6).alloc (nlr _) _) (nlr _)).1) ⟨w6.heap.size, 0, none⟩ 1 1 (cellsU u (.slice ua u.seen.length uc)) rfl rfl ?c1 ?c2 ?c3 ?c4 ?c5 ?_)
     case c1 => intro j q hj; match j, hj with | 0, hj => (simp [cellsU] at hj; subst hj; simp) | 1, hj => (simp [cellsU] at hj; subst hj; simp) | 2, hj => (simp [cellsU] at hj; subst hj; simp) | 3, hj => (simp [cellsU] at hj; subst hj; simp) | 4, hj => (simp [cellsU] at hj; subst hj; simp) | (j + 5), hj => simp [cellsU] at hj
     case c2 => exact cellsU_one rfl
     case c3 => unfold maxLen; have := HPL.out; omega
     case c4 => have := HPL.out; omega
     case c5 => have := HB6.out.size; simp; omega
     intro v' w7 hown' hgrow _
     have HB7 := hide (((Below.plus HB6.out _).grown hgrow (by have := HB6.out.size; simp; omega) (fun g hg => (O6.out.1.lt g hg).1)))
     have O7 := hide ((O6.out.alloc _).more (Own.below U6.out ((Below.refl w6.heap.size w6).alloc (nlr _) _) (nlr _)) hown' hgrow)
     clear hown' hgrow
     go_wp2_with fail
     go_roundw
     case rel => exact ⟨j + 1, ps ++ [(u, .slice ua u.seen.length uc)], by omega, by go_num, hide (by rw [HT.out, List.map_append, HP.out]; rfl), O7, HB7⟩
     case measure => simp [intOf]; omega
    ·have hS' : (S != 0) = true := by simp [hS]
     rw [newU_no (by rw [HS.out]; exact hS), List.append_nil] at HT
     clear hS
     go_wp2_with fail
     go_roundw
     case rel => exact ⟨j + 1, ps, by omega, by go_num, hide (by rw [HT.out]; exact HP.out), O6, HB6⟩
     case measure => simp [intOf]; omega
   ·have hk' : (okind != 1) = true := by simp [hk]
    rw [newU_none (by simpa using hk), List.append_nil] at HT
    clear hk
    go_wp2_with fail
    go_roundw
    case rel => exact ⟨j + 1, ps, by omega, by go_num, hide (by rw [HT.out]; exact HP.out), O4, HB4⟩
    case measure => simp [intOf]; omega
  ·have hkl : l.take j = l := List.take_of_length_le (by omega)
   rw [hkl] at HP
   have hlt' : ¬ (j : Int) < (l.length : Int) := by omega
   go_wp2_with fail
   go_ret
   exact ⟨_, rfl, ps, HP.out, O3.out, HB3.out⟩
/-- From nothing. -/
def z0 (n : Nat) : StS := ⟨zeroC n, [], []⟩
theorem mine_step1 (c : List Int) {l : List Upd} {k : Nat} {u : Upd} (h : l[k]? = some u) : mine c (l.take (k + 1)) = if mineB c u then mine c (l.take k) ++ [u] else mine c (l.take k) := keep_step (mineB c) h
/-- A row of updates of the call's own, whose Seen lie as they lay. -/
theorem OwnP.snoc {R : Value → List Int → Prop} {w : World} {B : Nat} {v sv : Value} {ps : List (Upd × Value)} {u : Upd} (h : ∀ p ∈ ps, R p.2 p.1.seen) (hs : R sv u.seen) (ho : w.ownsRow B 52 5 v (ps.length + 1) (cellsP ps ++ cellsU u sv)) : OwnP R w B v (ps ++ [(u, sv)]) := by
 refine ⟨by rw [cellsP_snoc]; simpa using ho, fun p hp => ?_⟩
 rcases List.mem_append.1 hp with hp | hp
 ·exact h p hp
 ·simp at hp
  subst hp
  exact hs
set_option maxRecDepth 100000 in
set_option maxHeartbeats 2000000 in
theorem of7_fn (lv cv : Value) (l : List Upd) (c : List Int) (n : Nat) (w : World) (hl : LogV w lv l) (hc : Row w cv c) (hn : n ≤ 6) (hcn : c.length = n) (hu : ∀ u ∈ l, wrongU u n = 0) (hln : l.length ≤ 300) :
  Calls Tryz.prog 20 #[lv, cv, .int .i64 n] w fun e w' => ∃ rv, e = .returned (.tuple #[rv, .bool (decide (playE (z0 n) (mine c l) = 0))]) ∧ StOwn w' (w.heap.size + 1) rv (playX (z0 n) (mine c l)) ∧ Below w.heap.size w w' := by
 obtain ⟨i0, hi, hz0, hz1, hz2⟩ := info_parts Tryz.infoUpd
 obtain ⟨a', cap', rfl, -, -, -⟩ := id hl
 obtain ⟨a1, cap1, rfl, -, -, hcc⟩ := id hc
 have HBn := Below.plus (Below.refl w.heap.size w) (.cells #[.slice none 0 0, .slice none 0 0, .slice none 0 0] 41)
 have L0 := hide (hl.below HBn (nlr _))
 have C0 := hide (hc.below HBn (nlr _))
 have R0 := hide (Box.new w [.slice none 0 0, .slice none 0 0, .slice none 0 0] 41)
 have HB0 := hide HBn
 have HU := hide hu
 have HCN := hide hcn
 obtain ⟨W0, HW0⟩ : ∃ W0, Hid (w.alloc (.cells #[.slice none 0 0, .slice none 0 0, .slice none 0 0] 41) = W0) := ⟨_, rfl⟩
 have HSZ : Hid (W0.heap.size = w.heap.size + 1) := by unfold Hid; rw [← HW0.out]; simp
 rw [HW0.out] at L0 C0 R0 HB0
 clear hl hc HBn hu hcc hcn
 obtain ⟨P, HP⟩ : ∃ P, Hid (playE (z0 n) (mine c l) = P) := ⟨_, rfl⟩
 obtain ⟨X, HX⟩ : ∃ X, Hid (playX (z0 n) (mine c l) = X) := ⟨_, rfl⟩
 obtain ⟨A, HA⟩ : ∃ A, Hid (playA (z0 n) (mine c l) = A) := ⟨_, rfl⟩
 obtain ⟨t, HT⟩ : ∃ t, Hid (decide (P = 0) = t) := ⟨_, rfl⟩
 rw [HP.out, HX.out, HT.out]
 go_enter Tryz.func20, Tryz.ntmps20
 go_wp2_with fail
 rw [HW0.out]
 go_loopw [8, 15] (fun o i wr => ∃ (k : Nat) (ps : List (Upd × Value)), k ≤ l.length ∧ i = .int .i64 k ∧ Hid (ps.map (·.1) = mine c (l.take k)) ∧ Hid (OwnP (Row W0) wr W0.heap.size o ps) ∧ Hid (Below W0.heap.size W0 wr)) (fun _ i _ => l.length - (intOf i).toNat)
 case atStart => exact ⟨0, [], Nat.zero_le _, rfl, rfl, ⟨World.ownsRow_nil _ _ _ _, fun p hp => by simp at hp⟩, Below.refl _ _⟩
 case round =>
  obtain ⟨k, ps, hk, rfl, HM, O10, HB10⟩ := hrel
  obtain ⟨w10, rfl⟩ : ∃ w10, w10 = wr := ⟨wr, rfl⟩
  have C10 := hide (C0.out.below HB10.out (nlr _))
  by_cases hlt : k < l.length
  ·obtain ⟨u, hu⟩ : ∃ u, l[k]? = some u := ⟨_, List.getElem?_eq_getElem hlt⟩
   have hwu := HU.out u (List.mem_of_getElem? hu)
   obtain ⟨author, seen, kind, key, item⟩ := u
   obtain ⟨w1, w2, w3, -⟩ := wrongU_right hwu
   simp only at w1 w2 w3
   obtain ⟨ka, rfl⟩ : ∃ ka : Nat, author = (ka : Int) := ⟨author.toNat, by omega⟩
   have hsl : seen.length = n := by have := (wrongC_ok w1).2.2.1; omega
   have hka : ka < n := by omega
   have hcn := HCN.out
   have hpl : Hid (ps.length ≤ 300) := by
    have h1 := congrArg List.length HM.out
    have h2 := keep_len (mineB c) l k
    simp only [List.length_map] at h1
    unfold mine at h1
    unfold Hid
    omega
   have hlz := L0.out.below HB10.out (nlr _)
   obtain ⟨b, off, a5, cap5, rfl, d0, d1, d2, d3, d4, hR, -⟩ := hlz.at hu
   simp only at d0 d1 d2 d3 d4 hR
   have hR0 : Hid (Row W0 (.slice a5 seen.length cap5) seen) := by
    obtain ⟨b', off', a5', cap5', hbb, e0, e1, -, -, -, hr, -⟩ := L0.out.at hu
    simp only [Option.some.injEq, Addr.mk.injEq, and_true] at hbb
    obtain ⟨rfl, rfl⟩ := hbb
    have e2 := e1
    rw [← HB10.out.cell (p := ⟨b, off + k * 5 + 1, none⟩) (World.block_lt_of_cell? _ _ e1), d1] at e2
    simp only [Option.some.injEq, Value.slice.injEq] at e2
    obtain ⟨rfl, -, rfl⟩ := e2
    exact hr
   obtain ⟨c1, c2, hv, -, -, hcs⟩ := hR
   simp only [Value.slice.injEq] at hv
   obtain ⟨rfl, -, rfl⟩ := hv
   obtain ⟨g5, o5, rfl, e5⟩ := hcs ka (by omega)
   obtain ⟨c1', c2', hv', -, -, hcc⟩ := C10.out
   simp only [Value.slice.injEq] at hv'
   obtain ⟨rfl, -, rfl⟩ := hv'
   obtain ⟨g1, o1, rfl, e1⟩ := hcc ka (by omega)
   obtain ⟨x, HXX⟩ : ∃ x, Hid (seen.getD ka 0 = x) := ⟨_, rfl⟩
   obtain ⟨y, HYY⟩ : ∃ y, Hid (c.getD ka 0 = y) := ⟨_, rfl⟩
   rw [HXX.out] at e5
   rw [HYY.out] at e1
   have HST := hide (mine_step1 c hu)
   have HMB : Hid (mineB c (⟨(ka : Int), seen, kind, key, item⟩ : Upd) = decide (x < y)) := by unfold Hid; rw [← HXX.out, ← HYY.out]; rfl
   rw [HMB.out] at HST
   have hlt' : (k : Int) < (l.length : Int) := by omega
   have h0 : (0 : Int) ≤ (ka : Int) := by omega
   have h1 : (ka : Int) < (seen.length : Int) := by omega
   have h2 : (ka : Int) < (c.length : Int) := by omega
   have hbp := Below.plus (Below.refl _ w10) (.cells #[.int .i64 (ka : Int), .slice (some ⟨g5, o5, none⟩) seen.length cap5, .int .i64 kind, .int .i64 key, .int .i64 item] 52)
   have V11 := hide (Box.new w10 [.int .i64 (ka : Int), .slice (some ⟨g5, o5, none⟩) seen.length cap5, .int .i64 kind, .int .i64 key, .int .i64 item] 52)
   have O11 := hide (O10.out.step hbp (nlr _))
   have HB11 := hide (below_step HB10.out hbp)
   have e5b := (hbp.cell (p := ⟨g5, o5 + ka, none⟩) (World.block_lt_of_cell? _ _ e5)).trans e5
   have e1b := (hbp.cell (p := ⟨g1, o1 + ka, none⟩) (World.block_lt_of_cell? _ _ e1)).trans e1
   clear hcn hbp O10 HB10 hcs hcc hlz hu hwu w1 w2 w3 hsl hka C10 C0 L0 HMB
   go_upto_region 5 with fail
   go_cut [30] (fun cc wx => cc = .bool (decide (x < y)) ∧ Hid (Grew (w10.alloc (.cells #[.int .i64 (ka : Int), .slice (some ⟨g5, o5, none⟩) seen.length cap5, .int .i64 kind, .int .i64 key, .int .i64 item] 52)) wx))
   case first =>
    go_quiet (fail)
    go_wp2_with fail
    go_meet
    exact ⟨rfl, hide (below_drewN (Below.refl _ _) _)⟩
   case rest =>
    obtain ⟨rfl, HGR⟩ := hcut
    obtain ⟨w12, rfl⟩ : ∃ w12, w12 = wc := ⟨wc, rfl⟩
    have V12 := hide (V11.out.below HGR.out (nlr _))
    have O12 := hide (O11.out.step HGR.out (nlr _))
    have HB12 := hide (below_step HB11.out HGR.out)
    clear V11 O11 HB11 HGR e5b e1b
    have v0 := V12.out.get 0 rfl
    have v1 := V12.out.get 1 rfl
    have v2 := V12.out.get 2 rfl
    have v3 := V12.out.get 3 rfl
    have v4 := V12.out.get 4 rfl
    by_cases hxy : x < y
    ·have hd : decide (x < y) = true := by simp [hxy]
     rw [hd] at HST
     rw [hd]
     clear hd hxy
     go_wp2_with (at_builtin; refine wpList_append_own _ rfl (.tmp 31) (.tmp 33) 34 rfl W0.heap.size 52 i0 (.agg #[.int .i64 0, .slice none 0 0, .int .i64 0, .int .i64 0, .int .i64 0]) 5 56 Tryz.underlying34 hi hz0 hz1 hz2 rfl (by decide) _ _ _ rfl ((O12.out.step ((Below.refl w12.heap.size w12).alloc (nlr _) _) (nlr _)).1) ⟨w12.heap.size, 0, none⟩ 1 1 (cellsU (⟨(ka : Int), seen, kind, key, item⟩ : Upd) (.slice (some ⟨g5, o5, none⟩) seen.length cap5)) rfl rfl ?c1 ?c2 ?c3 ?c4 ?c5 ?_)
     case c1 => intro j q hj; match j, hj with | 0, hj => (simp [cellsU] at hj; subst hj; simp) | 1, hj => (simp [cellsU] at hj; subst hj; simp) | 2, hj => (simp [cellsU] at hj; subst hj; simp) | 3, hj => (simp [cellsU] at hj; subst hj; simp) | 4, hj => (simp [cellsU] at hj; subst hj; simp) | (j + 5), hj => simp [cellsU] at hj
     case c2 => exact cellsU_one rfl
     case c3 => unfold maxLen; have := hpl.out; omega
     case c4 => have := hpl.out; omega
     case c5 => have := HB12.out.size; simp; omega
     intro v' w13 hown' hgrow _
     have HB13 := hide (((Below.plus HB12.out _).grown hgrow (by have := HB12.out.size; simp; omega) (fun g hg => (World.ownsRow.lt O12.out.1 g hg).1)))
     have O13 := hide (OwnP.snoc (u := ⟨(ka : Int), seen, kind, key, item⟩) O12.out.2 hR0.out hown')
     clear hown' hgrow
     go_wp2_with fail
     go_roundw
     case rel => exact ⟨k + 1, ps ++ [(⟨(ka : Int), seen, kind, key, item⟩, .slice (some ⟨g5, o5, none⟩) seen.length cap5)], by omega, by go_num, by rw [HST.out, if_pos (by simp), List.map_append, HM.out]; exact rfl, O13, HB13⟩
     case measure => simp [intOf]; omega
    ·have hd : decide (x < y) = false := by simp [hxy]
     rw [hd] at HST
     rw [hd]
     clear hd hxy
     go_wp2_with fail
     go_roundw
     case rel => exact ⟨k + 1, ps, by omega, by go_num, by rw [HST.out, if_neg (by simp)]; exact HM, O12, HB12⟩
     case measure => simp [intOf]; omega
  ·have hkl : l.take k = l := List.take_of_length_le (by omega)
   rw [hkl] at HM
   have hlt' : ¬ (k : Int) < (l.length : Int) := by omega
   have R10 := hide (R0.out.below HB10.out (nlr _))
   have M10 := hide (O10.out.log (fun sv xs hr => hr.below HB10.out (nlr _)))
   rw [HM.out] at M10
   clear C0 C10 L0 R0 HM hkl O10
   go_wp2_with fail
   refine (start_any (k := n) (by omega) _).mono ?_
   rintro e w11 ⟨vS, rfl, hS, hb⟩
   have HB11 := hide (below_step HB10.out hb)
   have R11 := hide (R10.out.below hb (nlr _))
   have M11 := hide (M10.out.below hb (nlr _))
   have S11 := hide hS
   clear HB10 hb R10 M10
   have HQB : Hid (w.heap.size + 1 ≤ w11.heap.size) := by have := HB11.out.size; have := HSZ.out; unfold Hid; omega
   go_wp2_with fail
   refine (play_state _ _ (z0 n) (mine c l) _ S11.out.st M11.out).mono ?_
   rintro e w12 ⟨vQ, rfl, hQ, hb⟩
   have HB12 := hide (below_step HB11.out hb)
   have R12 := hide (R11.out.below hb (nlr _))
   have M12 := hide (M11.out.below hb (nlr _))
   have S12 := hide (S11.out.below hb (nlr _))
   have Q12 := hide hQ
   clear HB11 hb R11 M11 S11
   rw [HP.out, HA.out]
   rw [HX.out] at Q12
   have HS12 : Hid (W0.heap.size ≤ w12.heap.size) := HB12.out.size
   obtain ⟨x1, y1, x2, y2, x3, y3, hvq⟩ := Q12.out.formW
   subst hvq
   clear hQ
   have HB13 := hide (below_step HB12.out (Below.plus (Below.refl _ w12) (.cells #[.slice x1 X.clock.length y1, .slice x2 X.lives.length y2, .slice x3 X.tals.length y3] 41)))
   have R13 := hide (R12.out.below (Below.plus (Below.refl _ w12) (.cells #[.slice x1 X.clock.length y1, .slice x2 X.lives.length y2, .slice x3 X.tals.length y3] 41)) (nlr _))
   have M13 := hide (M12.out.below (Below.plus (Below.refl _ w12) (.cells #[.slice x1 X.clock.length y1, .slice x2 X.lives.length y2, .slice x3 X.tals.length y3] 41)) (nlr _))
   have S13 := hide (S12.out.below (Below.plus (Below.refl _ w12) (.cells #[.slice x1 X.clock.length y1, .slice x2 X.lives.length y2, .slice x3 X.tals.length y3] 41)) (nlr _))
   have Q13 := hide (Q12.out.below (Below.plus (Below.refl _ w12) (.cells #[.slice x1 X.clock.length y1, .slice x2 X.lives.length y2, .slice x3 X.tals.length y3] 41)) (nlr _))
   have Y13 := hide (Box.new w12 [.slice x1 X.clock.length y1, .slice x2 X.lives.length y2, .slice x3 X.tals.length y3] 41)
   clear HB12 R12 M12 S12 Q12
   have HB14 := hide (below_step HB13.out (Below.plus (Below.refl _ (w12.alloc (.cells #[.slice x1 X.clock.length y1, .slice x2 X.lives.length y2, .slice x3 X.tals.length y3] 41))) (.cells #[.int .i64 P, .int .i64 A] 90)))
   have R14 := hide (R13.out.below (Below.plus (Below.refl _ (w12.alloc (.cells #[.slice x1 X.clock.length y1, .slice x2 X.lives.length y2, .slice x3 X.tals.length y3] 41))) (.cells #[.int .i64 P, .int .i64 A] 90)) (nlr _))
   have M14 := hide (M13.out.below (Below.plus (Below.refl _ (w12.alloc (.cells #[.slice x1 X.clock.length y1, .slice x2 X.lives.length y2, .slice x3 X.tals.length y3] 41))) (.cells #[.int .i64 P, .int .i64 A] 90)) (nlr _))
   have S14 := hide (S13.out.below (Below.plus (Below.refl _ (w12.alloc (.cells #[.slice x1 X.clock.length y1, .slice x2 X.lives.length y2, .slice x3 X.tals.length y3] 41))) (.cells #[.int .i64 P, .int .i64 A] 90)) (nlr _))
   have Q14 := hide (Q13.out.below (Below.plus (Below.refl _ (w12.alloc (.cells #[.slice x1 X.clock.length y1, .slice x2 X.lives.length y2, .slice x3 X.tals.length y3] 41))) (.cells #[.int .i64 P, .int .i64 A] 90)) (nlr _))
   have Y14 := hide (Y13.out.below (Below.plus (Below.refl _ (w12.alloc (.cells #[.slice x1 X.clock.length y1, .slice x2 X.lives.length y2, .slice x3 X.tals.length y3] 41))) (.cells #[.int .i64 P, .int .i64 A] 90)) (nlr _))
   have F14 := hide (Box.new (w12.alloc (.cells #[.slice x1 X.clock.length y1, .slice x2 X.lives.length y2, .slice x3 X.tals.length y3] 41)) [.int .i64 P, .int .i64 A] 90)
   clear HB13 R13 M13 S13 Q13 Y13
   simp only [World.size_alloc] at F14
   have cY0 := Y14.out.get 0 rfl
   have cY1 := Y14.out.get 1 rfl
   have cY2 := Y14.out.get 2 rfl
   have cF0 := F14.out.get 0 rfl
   have cF1 := F14.out.get 1 rfl
   have cR0 := R14.out.get 0 rfl
   have cR1 := R14.out.get 1 rfl
   have cR2 := R14.out.get 2 rfl
   have f0 := R14.out.free 0
   have f1 := R14.out.free 1
   have f2 := R14.out.free 2
   have hlt12 : Hid (w.heap.size < w12.heap.size) := by have := HS12.out; have := HSZ.out; unfold Hid; omega
   have n2 : ¬ (w12.heap.size = w.heap.size) := by have := hlt12.out; omega
   have n3 : ¬ (w.heap.size = w12.heap.size) := by have := hlt12.out; omega
   have n4 : ¬ (w12.heap.size + 1 = w.heap.size) := by have := hlt12.out; omega
   have n5 : ¬ (w.heap.size = w12.heap.size + 1) := by have := hlt12.out; omega
   have hPt : (P == 0) = t := by rw [← HT.out]; cases hq : decide (P = 0) <;> simp at hq <;> simp [hq]
   go_upto_region 9 with fail
   go_region
   go_wp2_with fail
   have hR := ((R14.out.set 0 (.slice x1 X.clock.length y1)).set 1 (.slice x2 X.lives.length y2)).set 2 (.slice x3 X.tals.length y3)
   have hQb := Q14.out.base (C := w.heap.size + 1) (Nat.le_add_right_of_le HQB.out)
   refine bodyPost_ret (results_cell_tmp rfl _ _ w.heap.size 41 _ (0, 0) _ rfl hR.drew Tryz.underlying41 rfl Tryz.sizeState) rfl ⟨_, rfl, ?_, ?_⟩
   ·exact (((hQb.away (by omega) _ _).away (by omega) _ _).away (by omega) _ _)
   ·exact ((((HB0.out.trans (HB14.out.mono HB0.out.size)).setCell (nlr _) _).setCell (nlr _) _).setCell (nlr _) _).drew

set_option maxRecDepth 100000 in
set_option maxHeartbeats 8000000 in
theorem wread_law (n : Int) (lv : Value) (l : List DoS) (w0 : World) (hl : DoV w0 lv l) :
  Calls Tryz.prog 4 #[.int .i64 n, lv] w0 fun e w' => e = .returned (.bool true) ∧ Below w0.heap.size w0 w' := by
 have HB0 := hide (Below.refl w0.heap.size w0)
 have L0 := hide hl
 obtain ⟨la, lc, hlv, hcap, hmax, -⟩ := id hl
 subst hlv
 have hlen := hl.len_le
 obtain ⟨E, HE⟩ : ∃ E, Hid (playWE n l = E) := ⟨_, rfl⟩
 obtain ⟨X, HX⟩ : ∃ X, Hid (playWX n l = X) := ⟨_, rfl⟩
 obtain ⟨C, HC⟩ : ∃ C, Hid (playWC n l = C) := ⟨_, rfl⟩
 clear hl
 by_cases hE : E = 0
 ·subst hE
  obtain ⟨k, hk, hk1, hk6, hl150, hXr, hCr, hXn⟩ := played HE.out
  rw [HX.out] at hXr hXn
  rw [HC.out] at hCr
  have HI := hide (run_all hk1 hk6 l)
  rw [← hXr] at HI
  have HXR := hide hXr
  have HCR := hide hCr
  have HXN := hide hXn
  have HNK := hide hk
  clear hXr hCr hXn hk
  have hnk := HNK.out
  subst hnk
  go_enter Tryz.func4, Tryz.ntmps4
  go_wp2_with fail
  refine (alive7 _).mono ?_
  rintro e w1 ⟨rfl, hb1⟩
  have HB1 := hide (below_step HB0.out hb1)
  have L1 := hide (L0.out.below hb1 (nlr _))
  clear hb1 HB0 L0
  go_wp2_with fail
  refine (play_w (k : Int) _ l _ L1.out).mono ?_
  rintro e w2 ⟨wv, cv, rfl, hW, hC, hb2⟩
  rw [HE.out]
  rw [HX.out] at hW
  rw [HC.out] at hC
  obtain ⟨a1, a2, hwv, hx6⟩ := hW.form
  subst hwv
  obtain ⟨ca, cc, hcv⟩ := hC.form
  subst hcv
  have hbp := Below.plus (Below.refl w2.heap.size w2) (.cells #[.slice a1 X.nodes.length X.nodes.length, .slice a2 X.nodes.length X.nodes.length] 26)
  have W3 := hW.below hbp
  have C3 := hC.below hbp
  have B3 := Box.new w2 [.slice a1 X.nodes.length X.nodes.length, .slice a2 X.nodes.length X.nodes.length] 26
  have hb3 := below_step hb2 hbp
  obtain ⟨w3, HW3⟩ : ∃ W, Hid (w2.alloc (.cells #[.slice a1 X.nodes.length X.nodes.length, .slice a2 X.nodes.length X.nodes.length] 26) = W) := ⟨_, rfl⟩
  rw [HW3.out] at W3 C3 B3 hb3
  have HB3 := hide (below_step HB1.out hb3)
  have L3 := hide (L1.out.below hb3 (nlr _))
  have HWO := hide W3
  have HCO := hide C3
  have HBX := hide B3
  clear hW hC hbp W3 C3 B3 hb3 hb2 HB1 L1
  go_upto_region 4 with fail
  rw [HW3.out]
  go_wp2_with fail
  refine (issued_w k _ l _ hk1 hk6 hl150 L3.out).mono ?_
  rintro e w4 ⟨ov, ps, rfl, hps, hov, hb4⟩
  have HLG := hide hov.log
  rw [hps] at HLG
  obtain ⟨A, HA⟩ : ∃ A, Hid (runU (beginW k) l = A) := ⟨_, rfl⟩
  rw [HA.out] at HLG HI
  have HAF : Hid (A.length ≤ 300) := by unfold Hid; rw [← HA.out]; have := runU_few l (beginW k); omega
  have HBX4 := hide (HBX.out.below hb4 (nlr _))
  have HWO4 := hide (HWO.out.below hb4)
  have HB4 := hide (below_step HB3.out hb4)
  obtain ⟨oa, oc, hovf, -, -, -⟩ := id HLG.out
  subst hovf
  clear hps hov hb4 HBX HWO HB3 L3 HCO
  have z0 := HBX4.out.get 0 rfl
  go_wp2_with fail
  clear z0
  go_loopw [34] (fun q wr => ∃ i : Nat, i ≤ X.nodes.length ∧ q = .int .i64 i ∧ Hid (Below w4.heap.size w4 wr)) (fun q _ => X.nodes.length - (intOf q).toNat)
  case atStart => exact ⟨0, Nat.zero_le _, rfl, hide (Below.refl _ _)⟩
  case round =>
   obtain ⟨i, hi, rfl, HBi⟩ := hrel
   obtain ⟨w5, rfl⟩ : ∃ w5, w5 = wr := ⟨wr, rfl⟩
   by_cases hlt : i < X.nodes.length
   ·have hlt' : (i : Int) < (X.nodes.length : Int) := by omega
    obtain ⟨d, HD⟩ : ∃ d, Hid (X.nodes.getD i noNode = d) := ⟨_, rfl⟩
    have HRP := hide (read_play HI.out hlt HAF.out)
    have HND := hide (HI.out.nd i hlt).2.1
    rw [HD.out] at HRP HND
    obtain ⟨gn, ba1, bc1, ba2, bc2, ba3, bc3, ba4, bc4, ba5, bc5, ba6, bc6, hga, hno, q0, q1, q2, q3, q4, q5, q6⟩ := (HWO4.out.below HBi.out).at (getD_some (z := noNode) hlt)
    rw [HD.out] at hno q0 q1 q2 q3 q4 q5 q6
    subst hga
    have hbp := Below.plus (Below.refl w5.heap.size w5) (.cells #[.int .i64 d.self, .slice ba1 d.st.clock.length bc1, .slice ba2 d.st.lives.length bc2, .slice ba3 d.st.tals.length bc3, .slice ba4 d.base.length bc4, .slice ba5 d.log.length bc5, .slice ba6 d.known.length bc6] 44)
    have A6 := Box.new w5 [.int .i64 d.self, .slice ba1 d.st.clock.length bc1, .slice ba2 d.st.lives.length bc2, .slice ba3 d.st.tals.length bc3, .slice ba4 d.base.length bc4, .slice ba5 d.log.length bc5, .slice ba6 d.known.length bc6] 44
    have N6 := hno.below hbp (nlr _)
    obtain ⟨w6, HW6⟩ : ∃ W, Hid (w5.alloc (.cells #[.int .i64 d.self, .slice ba1 d.st.clock.length bc1, .slice ba2 d.st.lives.length bc2, .slice ba3 d.st.tals.length bc3, .slice ba4 d.base.length bc4, .slice ba5 d.log.length bc5, .slice ba6 d.known.length bc6] 44) = W) := ⟨_, rfl⟩
    rw [HW6.out] at hbp A6 N6
    have HB6 := hide (below_step HBi.out hbp)
    have HA6 := hide A6
    have HN6 := hide N6
    have LG6 := hide (HLG.out.below HB6.out (nlr _))
    clear hno hbp A6 N6
    go_upto_region 10 with fail
    rw [HW6.out]
    clear q0 q1 q2 q3 q4 q5 q6
    have p1 := HA6.out.get 1 rfl
    go_wp2_with fail
    refine (of7_fn _ _ A d.st.clock k _ LG6.out HN6.out.clk.1 hk6 (by have := HND.out.len; omega) (errL_each A HI.out.fit) HAF.out).mono ?_
    rintro e w7 ⟨rv, rfl, hrv, hb7⟩
    have hz : z0 k = ⟨zeroC (k : Int).toNat, [], []⟩ := rfl
    rw [hz, HRP.out.1]
    rw [hz, HRP.out.2] at hrv
    obtain ⟨x1, y1, x2, y2, x3, y3, hvq⟩ := hrv.formW
    subst hvq
    have hbp := Below.plus (Below.refl w7.heap.size w7) (.cells #[.slice x1 d.st.clock.length y1, .slice x2 d.st.lives.length y2, .slice x3 d.st.tals.length y3] 41)
    have A8 := Box.new w7 [.slice x1 d.st.clock.length y1, .slice x2 d.st.lives.length y2, .slice x3 d.st.tals.length y3] 41
    have R8 := hrv.st.below hbp (nlr _)
    have hb8 := below_step hb7 hbp
    obtain ⟨w8, HW8⟩ : ∃ W, Hid (w7.alloc (.cells #[.slice x1 d.st.clock.length y1, .slice x2 d.st.lives.length y2, .slice x3 d.st.tals.length y3] 41) = W) := ⟨_, rfl⟩
    rw [HW8.out] at A8 R8 hb8
    have HB8 := hide (below_step HB6.out hb8)
    have HA8 := hide A8
    have HR8 := hide R8
    have D8 := hide (HA6.out.below hb8 (nlr _))
    have N8 := hide (HN6.out.below hb8 (nlr _))
    clear p1 hrv hbp A8 R8 hb8 hb7 hz
    have hdt : decide ((0 : Int) = 0) = true := rfl
    rw [hdt]
    go_upto_region 11 with fail
    rw [HW8.out]
    have r0 := HA8.out.get 0 rfl
    have r1 := HA8.out.get 1 rfl
    have r2 := HA8.out.get 2 rfl
    have p1 := D8.out.get 1 rfl
    have p2 := D8.out.get 2 rfl
    have p3 := D8.out.get 3 rfl
    go_wp2_with fail
    refine (same_st _ _ d.st _ HR8.out N8.out.clk.2.2.1).mono ?_
    rintro e w9 ⟨rfl, hb9⟩
    have HB9 := hide (below_step HB8.out hb9)
    clear hb9 r0 r1 r2 p1 p2 p3 hdt
    go_wp2_with fail
    go_roundw
    case rel => exact ⟨i + 1, by omega, by go_num, HB9⟩
    case measure => simp [intOf]; omega
   ·have hlt' : ¬ (i : Int) < (X.nodes.length : Int) := by omega
    have HBw := hide (below_step HB4.out HBi.out)
    go_wp2_with fail
    go_ret
    exact ⟨rfl, HBw.out⟩
 ·have hE' : (E != 0) = true := by simp [hE]
  have HX0 : Hid (X.nodes.length = 0) := by
   unfold Hid; rw [← HX.out]; unfold playWX; rw [if_neg (by rw [HE.out]; exact hE)]; rfl
  clear hE
  go_enter Tryz.func4, Tryz.ntmps4
  go_wp2_with fail
  refine (alive7 _).mono ?_
  rintro e w1 ⟨rfl, hb1⟩
  have L1 := hide (L0.out.below hb1 (nlr _))
  go_wp2_with fail
  refine (play_w n _ l _ L1.out).mono ?_
  rintro e w2 ⟨wv, cv, rfl, hW, hC, hb2⟩
  rw [HE.out]
  rw [HX.out] at hW
  obtain ⟨a1, a2, hwv, -⟩ := hW.form
  subst hwv
  obtain ⟨ca, cc, hcv⟩ := hC.form
  subst hcv
  have B3 := Box.new w2 [.slice a1 X.nodes.length X.nodes.length, .slice a2 X.nodes.length X.nodes.length] 26
  have hb3 := below_step (below_step hb1 hb2) (Below.plus (Below.refl w2.heap.size w2) (.cells #[.slice a1 X.nodes.length X.nodes.length, .slice a2 X.nodes.length X.nodes.length] 26))
  obtain ⟨w3, HW3⟩ : ∃ W, Hid (w2.alloc (.cells #[.slice a1 X.nodes.length X.nodes.length, .slice a2 X.nodes.length X.nodes.length] 26) = W) := ⟨_, rfl⟩
  rw [HW3.out] at B3 hb3
  have HB3 := hide hb3
  have HBX := hide B3
  clear hW hC B3 hb3 hb2 hb1
  go_upto_region 4 with fail
  rw [HW3.out]
  have z0 := HBX.out.get 0 rfl
  rw [HX0.out] at z0
  go_wp2_with fail
  go_ret
  exact ⟨rfl, HB3.out⟩
end Go.Proofs.YtbgeblafcbabaaaGreat
