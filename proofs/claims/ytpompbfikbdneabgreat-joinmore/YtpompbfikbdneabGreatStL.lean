/- state.Play: updates, one behind the other. state.Apply and state.Start. -/
import Derived.Test.YtpompbfikbdneabGreatStH
import Derived.Test.YtpompbfikbdneabGreatStJ
import Derived.Test.YtpompbfikbdneabGreatStK
namespace Go.Proofs.YtpompbfikbdneabGreat
open Go.RowKit

theorem results_cell_cell {P : Program} {fn : Func} {p q : Tmp} {ty ty2 : TypeId} (h : fn.results = #[.cell p ty, .cell q ty2]) (tmps : Array Value) (w : World) (g g2 : Nat) (t t2 : TypeId) (cs cs2 : Array Value) (fr fr2 : Nat × Nat) (d d2 : TypeDesc)
    (hp : tmps.getD p undef = .pointer (some ⟨g, 0, none⟩)) (hg : w.heap[g]? = some (.cells cs t fr))
    (hu : P.underlying ty = some d) (hd : (match d with | .struct _ | .array _ _ => true | _ => false) = true) (hi : (P.info? ty).map (·.size) = some cs.size)
    (hp2 : tmps.getD q undef = .pointer (some ⟨g2, 0, none⟩)) (hg2 : w.heap[g2]? = some (.cells cs2 t2 fr2))
    (hu2 : P.underlying ty2 = some d2) (hd2 : (match d2 with | .struct _ | .array _ _ => true | _ => false) = true) (hi2 : (P.info? ty2).map (·.size) = some cs2.size) :
    (results fn tmps).run P w = .ok (.tuple #[.agg cs, .agg cs2]) w := by
  have hp' : tmps[p]?.getD undef = .pointer (some ⟨g, 0, none⟩) := by simpa using hp
  have hp2' : tmps[q]?.getD undef = .pointer (some ⟨g2, 0, none⟩) := by simpa using hp2
  simp [results, h, hp', hp2', asAddr, run_loadVar_row w g t ty cs fr d hg hu hd hi, run_loadVar_row w g2 t2 ty2 cs2 fr2 d2 hg2 hu2 hd2 hi2]
theorem results_cell_tmp {P : Program} {fn : Func} {p q : Tmp} {ty : TypeId} (h : fn.results = #[.cell p ty, .tmp q]) (tmps : Array Value) (w : World) (g : Nat) (t : TypeId) (cs : Array Value) (fr : Nat × Nat) (d : TypeDesc)
    (hp : tmps.getD p undef = .pointer (some ⟨g, 0, none⟩)) (hg : w.heap[g]? = some (.cells cs t fr))
    (hu : P.underlying ty = some d) (hd : (match d with | .struct _ | .array _ _ => true | _ => false) = true) (hi : (P.info? ty).map (·.size) = some cs.size) :
    (results fn tmps).run P w = .ok (.tuple #[.agg cs, tmps.getD q undef]) w := by
  have hp' : tmps[p]?.getD undef = .pointer (some ⟨g, 0, none⟩) := by simpa using hp
  simp [results, h, hp', asAddr, run_loadVar_row w g t ty cs fr d hg hu hd hi]
theorem Box.drew {w : World} {g : Nat} {cs : List Value} {t : TypeId} (h : Box w g cs t) : Box w.drew g cs t := h
theorem Tryz.sizeState : (Tryz.prog.info? 35).map (·.size) = some 3 := by kernel_rfl

/-- A state of the call's own, from block B on. -/
def StOwn (w : World) (B : Nat) (v : Value) (s : StS) : Prop :=
  ∃ cv lv tv, v = .agg #[cv, lv, tv] ∧ Own w B cv s.clock ∧ w.ownsRow B 63 5 lv s.lives.length (cellsS encL s.lives) ∧ w.ownsRow B 65 3 tv s.tals.length (cellsS encT s.tals)
theorem StOwn.st {w : World} {B : Nat} {v : Value} {s : StS} (h : StOwn w B v s) : IsSt w v s := by
  obtain ⟨cv, lv, tv, h1, h2, h3, h4⟩ := h
  exact ⟨cv, lv, tv, h1, h2.row, slice_of_own encL_length h3, slice_of_own encT_length h4⟩
theorem ownsRow_base {w : World} {B C : Nat} {e : TypeId} {sz n : Nat} {v : Value} {xs : List Value} (h : w.ownsRow B e sz v n xs) (hB : C ≤ B) : w.ownsRow C e sz v n xs := by
  refine ⟨h.1, ?_⟩
  rcases h.2 with h1 | ⟨g, cap, cur, hv, hg, r⟩
  · exact Or.inl h1
  · exact Or.inr ⟨g, cap, cur, hv, Nat.le_trans hB hg, r⟩
theorem StOwn.base {w : World} {B C : Nat} {v : Value} {s : StS} (h : StOwn w B v s) (hB : C ≤ B) : StOwn w C v s := by
  obtain ⟨cv, lv, tv, h1, h2, h3, h4⟩ := h
  exact ⟨cv, lv, tv, h1, h2.mono hB, ownsRow_base h3 hB, ownsRow_base h4 hB⟩
theorem StOwn.below {w w' : World} {B C : Nat} {v : Value} {s : StS} (h : StOwn w B v s) (hb : Below C w w') (hC : w.heap.size ≤ C) : StOwn w' B v s := by
  obtain ⟨cv, lv, tv, h1, h2, h3, h4⟩ := h
  exact ⟨cv, lv, tv, h1, h2.below hb hC, ownsRow_below h3 hb hC, ownsRow_below h4 hb hC⟩
theorem StOwn.away {w : World} {B : Nat} {v : Value} {s : StS} (h : StOwn w B v s) {g : Nat} (hg : g < B) (i : Nat) (x : Value) : StOwn (w.setCell ⟨g, i, none⟩ x) B v s := by
  obtain ⟨cv, lv, tv, h1, h2, h3, h4⟩ := h
  exact ⟨cv, lv, tv, h1, h2.away hg i x, ownsRow_setCell_below h3 hg x, ownsRow_setCell_below h4 hg x⟩
theorem StOwn.none (w : World) (B : Nat) : StOwn w B (.agg #[.slice none 0 0, .slice none 0 0, .slice none 0 0]) ⟨[], [], []⟩ := ⟨_, _, _, rfl, own_none _ _, World.ownsRow_nil _ _ _ _, World.ownsRow_nil _ _ _ _⟩
theorem SliceV.src {α : Type} {sz : Nat} {enc : α → List Value} (he : ∀ x, (enc x).length = sz) (h1 : ∀ x, ∀ v ∈ enc x, v.oneCell' = true) {P : Program} {w : World} {v : Value} {l : List α} {tx e' : TypeId} (h : SliceV sz enc w v l) (hk : P.underlying tx = some (.slice e')) : Src P sz tx v l.length (cellsS enc l) w := by
  have h0 := h
  obtain ⟨a, cap, rfl, -, -, hc⟩ := h
  cases l with
  | nil =>
    cases a with
    | none => exact Src.ofNil w hk cap
    | some ad => exact Src.ofSlice w hk ad 0 cap [] (by simp) (fun j u hj => by simp at hj) (fun u hu => by simp at hu)
  | cons x r =>
    obtain ⟨b, off, rfl, -⟩ := hc 0 x rfl
    exact Src.ofSlice w hk ⟨b, off, none⟩ _ cap _ (cellsS_length he _) (h0.cells he) (cellsS_one h1 _)

def playE (s : StS) (l : List Upd) : Int := if stE s s.clock.length ≠ 0 then stE s s.clock.length else clockE s.clock l s.clock.length
def playA (s : StS) (l : List Upd) : Int := if stE s s.clock.length ≠ 0 then 0 else clockA s.clock l s.clock.length
def playX (s : StS) (l : List Upd) : StS := if playE s l = 0 then ⟨tickL s.clock l, playLv s.lives l, playT s.tals l⟩ else ⟨[], [], []⟩

set_option maxRecDepth 100000 in
set_option maxHeartbeats 2000000 in
theorem play_state (v ul : Value) (s : StS) (l : List Upd) (w : World) (h : IsSt w v s) (hl : LogV w ul l) :
    Calls Tryz.prog 13 #[v, ul] w fun e w' => ∃ rv, e = .returned (.tuple #[rv, .agg #[.int .i64 (playE s l), .int .i64 (playA s l)]]) ∧ StOwn w' (w.heap.size + 3) rv (playX s l) ∧ Below w.heap.size w w' := by
  have hin := h
  obtain ⟨cv, lv, tv, rfl, hc, hv, ht⟩ := h
  obtain ⟨a1, cap1, rfl, -, -, -⟩ := id hc
  obtain ⟨a2, cap2, rfl, -, -, -⟩ := id hv
  obtain ⟨a3, cap3, rfl, -, -, -⟩ := id ht
  obtain ⟨a4, cap4, rfl, -, -, -⟩ := id hl
  have hb3 := Below.plus (Below.plus (Below.plus (Below.refl w.heap.size w) (.cells #[.slice a1 s.clock.length cap1, .slice a2 s.lives.length cap2, .slice a3 s.tals.length cap3] 35)) (.cells #[.slice none 0 0, .slice none 0 0, .slice none 0 0] 35)) (.cells #[.int .i64 0, .int .i64 0] 29)
  have S0 := hide (hin.below hb3 (Nat.le_refl _))
  have C0 := hide (hc.below hb3 (Nat.le_refl _))
  have L0 := hide (hv.below hb3 (Nat.le_refl _))
  have T0 := hide (ht.below hb3 (Nat.le_refl _))
  have U0 := hide (hl.below hb3 (Nat.le_refl _))
  have G0 := hide (((Box.new w [.slice a1 s.clock.length cap1, .slice a2 s.lives.length cap2, .slice a3 s.tals.length cap3] 35).plus (.cells #[.slice none 0 0, .slice none 0 0, .slice none 0 0] 35)).plus (.cells #[.int .i64 0, .int .i64 0] 29))
  have R0 := hide ((Box.new (w.alloc (.cells #[.slice a1 s.clock.length cap1, .slice a2 s.lives.length cap2, .slice a3 s.tals.length cap3] 35)) [.slice none 0 0, .slice none 0 0, .slice none 0 0] 35).plus (.cells #[.int .i64 0, .int .i64 0] 29))
  have Z0 := hide (Box.new ((w.alloc (.cells #[.slice a1 s.clock.length cap1, .slice a2 s.lives.length cap2, .slice a3 s.tals.length cap3] 35)).alloc (.cells #[.slice none 0 0, .slice none 0 0, .slice none 0 0] 35)) [.int .i64 0, .int .i64 0] 29)
  rw [World.size_alloc] at R0
  rw [World.size_alloc, World.size_alloc] at Z0
  have HB0 := hide hb3
  clear hin hc hv ht hl hb3
  obtain ⟨E, HE⟩ : ∃ E, Hid (playE s l = E) := ⟨_, rfl⟩
  obtain ⟨A, HA⟩ : ∃ A, Hid (playA s l = A) := ⟨_, rfl⟩
  obtain ⟨X, HX⟩ : ∃ X, Hid (playX s l = X) := ⟨_, rfl⟩
  rw [HE.out, HA.out, HX.out]
  unfold playX at HX
  rw [HE.out] at HX
  unfold playE at HE
  unfold playA at HA
  obtain ⟨r, HR⟩ : ∃ r, Hid (stE s s.clock.length = r) := ⟨_, rfl⟩
  obtain ⟨q, HQ⟩ : ∃ q, Hid (stA s s.clock.length = q) := ⟨_, rfl⟩
  rw [HR.out] at HE HA
  by_cases hr : r = 0
  · subst hr
    obtain ⟨ce, HCE⟩ : ∃ ce, Hid (clockE s.clock l s.clock.length = ce) := ⟨_, rfl⟩
    obtain ⟨ca, HCA⟩ : ∃ ca, Hid (clockA s.clock l s.clock.length = ca) := ⟨_, rfl⟩
    obtain ⟨cx, HCX⟩ : ∃ cx, Hid (clockX s.clock l s.clock.length = cx) := ⟨_, rfl⟩
    obtain rfl : ce = E := by rw [← HE.out, HCE.out]; simp
    obtain rfl : ca = A := by rw [← HA.out, HCA.out]; simp
    clear HE HA
    by_cases hce : ce = 0
    · subst hce
      rw [if_pos rfl] at HX
      have hok : OkS s.clock.length s.clock s.lives s.tals := stE_ok.1 HR.out
      have HOK := hide hok
      have hwc := hok.clock
      have herr : Hid (errL s.clock.length s.clock l = 0) := by
        have := HCE.out
        unfold clockE at this
        rw [if_neg (by simpa using hwc)] at this
        split at this
        · cases this
        · exact this
      have hca : ca = 0 := by
        rw [← HCA.out]
        unfold clockA
        rw [if_neg (by simpa using hwc)]
        split
        · rfl
        · rw [if_pos herr.out]
      subst hca
      have hcx : Hid (cx = tickL s.clock l) := by unfold Hid; rw [← HCX.out]; unfold clockX; rw [if_pos HCE.out]
      have hfew := hok.few
      have hlen := U0.out.len_le
      obtain ⟨iL, hiL, hzL0, hzL1, hzL2⟩ := info_parts Tryz.infoLive
      obtain ⟨iT, hiT, hzT0, hzT1, hzT2⟩ := info_parts Tryz.infoTally
      clear hok hwc
      go_enter Tryz.func13, Tryz.ntmps13
      have cG0 := G0.out.get 0 rfl
      have cG1 := G0.out.get 1 rfl
      have cG2 := G0.out.get 2 rfl
      go_wp2_with fail
      refine (wrong_state _ s s.clock.length _ S0.out).mono ?_
      rintro e w1 ⟨rfl, hb⟩
      have HB1 := hide (below_step HB0.out hb)
      have S1 := hide (S0.out.below hb (Nat.le_refl _))
      have C1 := hide (C0.out.below hb (Nat.le_refl _))
      have L1 := hide (L0.out.below hb (Nat.le_refl _))
      have T1 := hide (T0.out.below hb (Nat.le_refl _))
      have U1 := hide (U0.out.below hb (Nat.le_refl _))
      have G1 := hide (G0.out.below hb (Nat.le_refl _))
      have R1 := hide (R0.out.below hb (Nat.le_refl _))
      have Z1 := hide (Z0.out.below hb (Nat.le_refl _))
      clear HB0 hb S0 C0 L0 T0 U0 G0 R0 Z0
      rw [HR.out, HQ.out]
      clear cG0 cG1 cG2
      have HB2 := hide (below_step HB1.out (Below.plus (Below.refl _ w1) (.cells #[.int .i64 0, .int .i64 q] 29)))
      have S2 := hide (S1.out.below (Below.plus (Below.refl _ w1) (.cells #[.int .i64 0, .int .i64 q] 29)) (Nat.le_refl _))
      have C2 := hide (C1.out.below (Below.plus (Below.refl _ w1) (.cells #[.int .i64 0, .int .i64 q] 29)) (Nat.le_refl _))
      have L2 := hide (L1.out.below (Below.plus (Below.refl _ w1) (.cells #[.int .i64 0, .int .i64 q] 29)) (Nat.le_refl _))
      have T2 := hide (T1.out.below (Below.plus (Below.refl _ w1) (.cells #[.int .i64 0, .int .i64 q] 29)) (Nat.le_refl _))
      have U2 := hide (U1.out.below (Below.plus (Below.refl _ w1) (.cells #[.int .i64 0, .int .i64 q] 29)) (Nat.le_refl _))
      have G2 := hide (G1.out.below (Below.plus (Below.refl _ w1) (.cells #[.int .i64 0, .int .i64 q] 29)) (Nat.le_refl _))
      have R2 := hide (R1.out.below (Below.plus (Below.refl _ w1) (.cells #[.int .i64 0, .int .i64 q] 29)) (Nat.le_refl _))
      have Z2 := hide (Z1.out.below (Below.plus (Below.refl _ w1) (.cells #[.int .i64 0, .int .i64 q] 29)) (Nat.le_refl _))
      have V2 := hide (Box.new w1 [.int .i64 0, .int .i64 q] 29)
      clear HB1 S1 C1 L1 T1 U1 G1 R1 Z1
      have cV0 := V2.out.get 0 rfl
      have cV1 := V2.out.get 1 rfl
      have cG0 := G2.out.get 0 rfl
      have cG1 := G2.out.get 1 rfl
      have cG2 := G2.out.get 2 rfl
      have hz2 := Z2.out.lt
      go_wp2_with fail
      refine (clock_own _ _ s.clock l s.clock.length _ C2.out U2.out).mono ?_
      rintro e w3 ⟨vQ, rfl, ho, hb⟩
      have HB3 := hide (below_step HB2.out hb)
      have S3 := hide (S2.out.below hb (Nat.le_refl _))
      have C3 := hide (C2.out.below hb (Nat.le_refl _))
      have L3 := hide (L2.out.below hb (Nat.le_refl _))
      have T3 := hide (T2.out.below hb (Nat.le_refl _))
      have U3 := hide (U2.out.below hb (Nat.le_refl _))
      have G3 := hide (G2.out.below hb (Nat.le_refl _))
      have R3 := hide (R2.out.below hb (Nat.le_refl _))
      have Z3 := hide (Z2.out.below hb (Nat.le_refl _))
      have V3 := hide (V2.out.below hb (Nat.le_refl _))
      have Q3 := hide ho
      clear HB2 hb S2 C2 L2 T2 U2 G2 R2 Z2 V2
      clear ho
      rw [HCE.out, HCA.out]
      rw [HCX.out] at Q3
      clear cG0 cG1 cG2
      clear cV0 cV1
      have hzl := Z3.out.lt
      have HB4 := hide (below_step HB3.out (Below.plus (Below.refl _ w3) (.cells #[.int .i64 0, .int .i64 0] 29)))
      have S4 := hide (S3.out.below (Below.plus (Below.refl _ w3) (.cells #[.int .i64 0, .int .i64 0] 29)) (Nat.le_refl _))
      have C4 := hide (C3.out.below (Below.plus (Below.refl _ w3) (.cells #[.int .i64 0, .int .i64 0] 29)) (Nat.le_refl _))
      have L4 := hide (L3.out.below (Below.plus (Below.refl _ w3) (.cells #[.int .i64 0, .int .i64 0] 29)) (Nat.le_refl _))
      have T4 := hide (T3.out.below (Below.plus (Below.refl _ w3) (.cells #[.int .i64 0, .int .i64 0] 29)) (Nat.le_refl _))
      have U4 := hide (U3.out.below (Below.plus (Below.refl _ w3) (.cells #[.int .i64 0, .int .i64 0] 29)) (Nat.le_refl _))
      have G4 := hide (G3.out.below (Below.plus (Below.refl _ w3) (.cells #[.int .i64 0, .int .i64 0] 29)) (Nat.le_refl _))
      have R4 := hide (R3.out.below (Below.plus (Below.refl _ w3) (.cells #[.int .i64 0, .int .i64 0] 29)) (Nat.le_refl _))
      have Z4 := hide (Z3.out.below (Below.plus (Below.refl _ w3) (.cells #[.int .i64 0, .int .i64 0] 29)) (Nat.le_refl _))
      have V4 := hide (V3.out.below (Below.plus (Below.refl _ w3) (.cells #[.int .i64 0, .int .i64 0] 29)) (Nat.le_refl _))
      have Q4 := hide (Q3.out.below (Below.plus (Below.refl _ w3) (.cells #[.int .i64 0, .int .i64 0] 29)) (Nat.le_refl _))
      have Y4 := hide (Box.new w3 [.int .i64 0, .int .i64 0] 29)
      clear HB3 S3 C3 L3 T3 U3 G3 R3 Z3 V3 Q3
      have cY0 := Y4.out.get 0 rfl
      have cY1 := Y4.out.get 1 rfl
      have cG0 := G4.out.get 0 rfl
      have cG1 := G4.out.get 1 rfl
      have cG2 := G4.out.get 2 rfl
      replace Q4 := hide (Own.mono (C := w.heap.size + 3) Q4.out (by omega))
      clear V4 S4 C4 hz2
      obtain ⟨WB, HWB⟩ : ∃ WB, Hid (w3.alloc (.cells #[.int .i64 0, .int .i64 0] 29) = WB) := ⟨_, rfl⟩
      have hszB : Hid (w.heap.size + 2 < WB.heap.size) := by unfold Hid; rw [← HWB.out, World.size_alloc]; omega
      rw [HWB.out] at HB4 L4 T4 U4 R4 Z4 Q4 cG0 cG1 cG2 Y4 cY0 cY1
      obtain ⟨B, HBB⟩ : ∃ B, Hid (WB.heap.size = B) := ⟨_, rfl⟩
      go_upto_region 8 with fail
      rw [HWB.out]
      have HSL := hide (SliceV.src encL_length encL_one L4.out (P := Tryz.prog) Tryz.underlying32)
      go_wp2_with (at_builtin; refine wpList_append_own_at _ rfl (.const (.slice none 0 0)) (.tmp 41) 32 32 rfl WB.heap.size 63 iL (.agg #[.bool false, .int .i64 0, .int .i64 0, .int .i64 0, .int .i64 0]) 5 40 Tryz.underlying32 hiL hzL0 hzL1 hzL2 rfl _ _ _ rfl (World.ownsRow_nil WB WB.heap.size 63 5) _ rfl s.lives.length (cellsS encL s.lives) HSL.out (by unfold maxLen; omega) (by omega) (Nat.le_refl _) ?_)
      intro v5 w5 ho5 hg5 _
      have HB5 : Hid (Below WB.heap.size WB w5) := (Below.refl WB.heap.size WB).grown hg5 (Nat.le_refl _) (fun k hk => by simp [Value.ownBlock] at hk)
      have O5 : Hid (w5.ownsRow WB.heap.size 63 5 v5 s.lives.length (cellsS encL s.lives)) := ho5
      clear ho5 hg5 HSL
      have HST := hide (SliceV.src encT_length encT_one (T4.out.below HB5.out (Nat.le_refl _)) (P := Tryz.prog) Tryz.underlying33)
      have G5 := hide (G4.out.below (by rw [HWB.out]; exact HB5.out) (by rw [HWB.out]; exact Nat.le_refl _))
      have e2 := G5.out.get 2 rfl
      clear cG0 cG1 cG2 cY0 cY1
      go_wp2_with (at_builtin; refine wpList_append_own_at _ rfl (.const (.slice none 0 0)) (.tmp 44) 33 33 rfl WB.heap.size 65 iT (.agg #[.int .i64 0, .int .i64 0, .int .i64 0]) 3 24 Tryz.underlying33 hiT hzT0 hzT1 hzT2 rfl _ _ _ rfl (World.ownsRow_nil w5 WB.heap.size 65 3) _ rfl s.tals.length (cellsS encT s.tals) HST.out (by unfold maxLen; omega) (by omega) HB5.out.size ?_)
      intro v6 w6 ho6 hg6 _
      have HB6 : Hid (Below WB.heap.size WB w6) := HB5.out.grown hg6 HB5.out.size (fun k hk => by simp [Value.ownBlock] at hk)
      have T6 : Hid (w6.ownsRow WB.heap.size 65 3 v6 s.tals.length (cellsS encT s.tals)) := ho6
      have O6 : Hid (w6.ownsRow WB.heap.size 63 5 v5 s.lives.length (cellsS encL s.lives)) := own_grownT O5.out (World.ownsRow_nil w5 WB.heap.size 65 3) hg6 (by decide)
      clear ho6 hg6 HST O5 HB5 G5 e2 hfew
      go_wp2_with fail
      go_loopw [10, 11, 48] (fun a b i wr => ∃ k : Nat, k ≤ l.length ∧ i = .int .i64 k ∧ Hid (wr.ownsRow WB.heap.size 63 5 a (playLv s.lives (l.take k)).length (cellsS encL (playLv s.lives (l.take k)))) ∧ Hid (wr.ownsRow WB.heap.size 65 3 b (playT s.tals (l.take k)).length (cellsS encT (playT s.tals (l.take k)))) ∧ Hid (Below WB.heap.size WB wr)) (fun _ _ i _ => l.length - (intOf i).toNat)
      case atStart => exact ⟨0, Nat.zero_le _, rfl, O6, T6, HB6⟩
      case round =>
        clear O6 T6 HB6
        obtain ⟨k, hk, rfl, O7, T7, HB7⟩ := hrel
        obtain ⟨w7, rfl⟩ : ∃ w7, w7 = wr := ⟨wr, rfl⟩
        by_cases hlt : k < l.length
        · obtain ⟨u, hu⟩ : ∃ u, l[k]? = some u := ⟨_, List.getElem?_eq_getElem hlt⟩
          have hsp := split_at hu
          have he1 : errL s.clock.length s.clock (l.take k ++ u :: l.drop (k + 1)) = 0 := by rw [← hsp]; exact herr.out
          obtain ⟨hep, heq⟩ := errL_split he1
          obtain ⟨hwu, -⟩ := errL_cons heq
          have HOk := hide (OkS.play (l.take k) HOK.out hep)
          have hwr := ((fits_iff HOk.out.clock).1 hwu).1
          have HFit := hide (fitU_of hwr)
          have HWU := hide (wrongU_full hwr)
          have HFR := hide (HOk.out.fresh hwu)
          have hfew := HOk.out.few
          have hitem : -1000 ≤ u.item ∧ u.item ≤ 1000 := by have := HWU.out; omega
          have HIT := hide hitem
          have HTK : Hid (l.take (k + 1) = l.take k ++ [u]) := take_one hu
          clear hsp he1 hep heq hwu hwr hitem
          obtain ⟨b, off, a5, cap5, hadr, p0, p1, p2, p3, p4, -, hUB⟩ := U4.out.at hu
          have d0 := (HB7.out.cell (p := ⟨b, off + k * 5, none⟩) (World.block_lt_of_cell? WB _ p0)).trans p0
          have d1 := (HB7.out.cell (p := ⟨b, off + k * 5 + 1, none⟩) (World.block_lt_of_cell? WB _ p1)).trans p1
          have d2 := (HB7.out.cell (p := ⟨b, off + k * 5 + 2, none⟩) (World.block_lt_of_cell? WB _ p2)).trans p2
          have d3 := (HB7.out.cell (p := ⟨b, off + k * 5 + 3, none⟩) (World.block_lt_of_cell? WB _ p3)).trans p3
          have d4 := (HB7.out.cell (p := ⟨b, off + k * 5 + 4, none⟩) (World.block_lt_of_cell? WB _ p4)).trans p4
          have HUB := hide hUB
          clear p0 p1 p2 p3 p4 hUB
          subst hadr
          have hlt' : (k : Int) < (l.length : Int) := by omega
          have hbp := Below.plus (Below.refl w7.heap.size w7) (.cells #[.int .i64 u.author, .slice a5 u.seen.length cap5, .int .i64 u.kind, .int .i64 u.key, .int .i64 u.item] 50)
          have V8 := hide (Box.new w7 [.int .i64 u.author, .slice a5 u.seen.length cap5, .int .i64 u.kind, .int .i64 u.key, .int .i64 u.item] 50)
          have O8 := hide (ownsRow_below O7.out hbp (Nat.le_refl _))
          have T8 := hide (ownsRow_below T7.out hbp (Nat.le_refl _))
          have HB8 := hide (below_step HB7.out hbp)
          have HOL := hide O7.out.lt
          clear O7 T7 HB7 hbp
          go_wp2_with fail
          refine (playLives_fn _ _ u (playLv s.lives (l.take k)) WB _ HUB.out HB8.out O8.out HFit.out HOk.out.order HFR.out (by omega)).mono ?_
          rintro e w9 ⟨v9, rfl, ho9, hg9⟩
          have O9 := hide ho9
          have T9 := hide (own_grownT T8.out O8.out hg9 (by decide))
          have V9 := hide (V8.out.grownT O8.out hg9 (by decide))
          have HB9 : Hid (Below WB.heap.size WB w9) := HB8.out.grown hg9 HB8.out.size (fun k hk => (O8.out.lt k hk).1)
          clear ho9 hg9 O8 T8 V8 HB8 d0 d1 d2 d3 d4
          have c0 := V9.out.get 0 rfl
          have c1 := V9.out.get 1 rfl
          have c2 := V9.out.get 2 rfl
          have c3 := V9.out.get 3 rfl
          have c4 := V9.out.get 4 rfl
          go_wp2_with fail
          refine (playTallies_fn _ _ u (playT s.tals (l.take k)) WB w9 HUB.out HB9.out T9.out HOk.out.ord (by omega) HOk.out.sums HIT.out).mono ?_
          rintro e w10 ⟨v10, rfl, ho10, hg10⟩
          have T10 := hide ho10
          have O10 := hide (own_grownT O9.out T9.out hg10 (by decide))
          have HB10 : Hid (Below WB.heap.size WB w10) := HB9.out.grown hg10 HB9.out.size (fun k hk => (T9.out.lt k hk).1)
          clear ho10 hg10 O9 T9 V9 HB9 c0 c1 c2 c3 c4
          have e1 : Hid (playLv s.lives (l.take (k + 1)) = applyLv (playLv s.lives (l.take k)) u) := by unfold Hid; rw [HTK.out, playLv_append]; rfl
          have e2 : Hid (playT s.tals (l.take (k + 1)) = applyT (playT s.tals (l.take k)) u) := by unfold Hid; rw [HTK.out, playT_append]; rfl
          go_wp2_with fail
          go_roundw
          case rel => exact ⟨k + 1, by omega, by go_num, by rw [e1.out]; exact O10, by rw [e2.out]; exact T10, HB10⟩
          case measure => simp [intOf]; omega
        · have hkl : l.take k = l := List.take_of_length_le (by omega)
          rw [hkl] at O7 T7
          have hlt' : ¬ (k : Int) < (l.length : Int) := by omega
          have R7 := hide (R4.out.low HB7.out (by have := hszB.out; omega))
          have Z7 := hide (Z4.out.low HB7.out (by have := hszB.out; omega))
          have Q7 := hide (Q4.out.below HB7.out (Nat.le_refl _))
          have HBf := hide (below_step HB4.out HB7.out)
          have c0 := R7.out.get 0 rfl
          have c1 := R7.out.get 1 rfl
          have c2 := R7.out.get 2 rfl
          have f0 := R7.out.free 0
          have f1 := R7.out.free 1
          have f2 := R7.out.free 2
          have d0 := Z7.out.get 0 rfl
          have d1 := Z7.out.get 1 rfl
          have g0 := Z7.out.free 0
          have g1 := Z7.out.free 1
          obtain ⟨aL, cL, hvL, -⟩ := slice_of_own encL_length O7.out
          obtain ⟨aT, cT, hvT, -⟩ := slice_of_own encT_length T7.out
          obtain ⟨aQ, cQ, hvQ, -⟩ := Q7.out.row
          subst hvL hvT hvQ
          go_wp2_with fail
          have hR := ((((R7.out.set 0 (.slice aQ cx.length cQ)).set 1 (.slice aL (playLv s.lives l).length cL)).set 2 (.slice aT (playT s.tals l).length cT)).away (g' := w.heap.size + 1 + 1) (i := 0) (v := .int .i64 0) (by omega)).away (g' := w.heap.size + 1 + 1) (i := 1) (v := .int .i64 0) (by omega)
          have hZ := ((((Z7.out.away (g' := w.heap.size + 1) (i := 0) (v := .slice aQ cx.length cQ) (by omega)).away (g' := w.heap.size + 1) (i := 1) (v := .slice aL (playLv s.lives l).length cL) (by omega)).away (g' := w.heap.size + 1) (i := 2) (v := .slice aT (playT s.tals l).length cT) (by omega)).set 0 (.int .i64 0)).set 1 (.int .i64 0)
          have hS : StOwn w7 (w.heap.size + 3) (.agg #[.slice aQ cx.length cQ, .slice aL (playLv s.lives l).length cL, .slice aT (playT s.tals l).length cT]) ⟨cx, playLv s.lives l, playT s.tals l⟩ := ⟨_, _, _, rfl, Q7.out, ownsRow_base O7.out (by have := hszB.out; omega), ownsRow_base T7.out (by have := hszB.out; omega)⟩
          have hX := HX.out
          rw [← hcx.out] at hX
          subst hX
          refine bodyPost_ret (results_cell_cell rfl _ _ (w.heap.size + 1) (w.heap.size + 1 + 1) 35 29 _ _ (0, 0) (0, 0) _ _ rfl hR Tryz.underlying35 rfl Tryz.sizeState rfl hZ Tryz.underlying29 rfl Tryz.sizeFault) rfl ⟨_, rfl, ?_, ?_⟩
          · exact ((((hS.away (by omega) _ _).away (by omega) _ _).away (by omega) _ _).away (by omega) _ _).away (by omega) _ _
          · exact ((((HBf.out.setCell (by show w.heap.size ≤ w.heap.size + 1; omega) _).setCell (by show w.heap.size ≤ w.heap.size + 1; omega) _).setCell (by show w.heap.size ≤ w.heap.size + 1; omega) _).setCell (by show w.heap.size ≤ w.heap.size + 1 + 1; omega) _).setCell (by show w.heap.size ≤ w.heap.size + 1 + 1; omega) _
    · have hce' : (ce != 0) = true := by simp [hce]
      rw [if_neg hce] at HX
      have hX := HX.out
      subst hX
      clear HX hce
      go_enter Tryz.func13, Tryz.ntmps13
      have cG0 := G0.out.get 0 rfl
      have cG1 := G0.out.get 1 rfl
      have cG2 := G0.out.get 2 rfl
      go_wp2_with fail
      refine (wrong_state _ s s.clock.length _ S0.out).mono ?_
      rintro e w1 ⟨rfl, hb⟩
      have HB1 := hide (below_step HB0.out hb)
      have S1 := hide (S0.out.below hb (Nat.le_refl _))
      have C1 := hide (C0.out.below hb (Nat.le_refl _))
      have L1 := hide (L0.out.below hb (Nat.le_refl _))
      have T1 := hide (T0.out.below hb (Nat.le_refl _))
      have U1 := hide (U0.out.below hb (Nat.le_refl _))
      have G1 := hide (G0.out.below hb (Nat.le_refl _))
      have R1 := hide (R0.out.below hb (Nat.le_refl _))
      have Z1 := hide (Z0.out.below hb (Nat.le_refl _))
      clear HB0 hb S0 C0 L0 T0 U0 G0 R0 Z0
      rw [HR.out, HQ.out]
      clear cG0 cG1 cG2
      have HB2 := hide (below_step HB1.out (Below.plus (Below.refl _ w1) (.cells #[.int .i64 0, .int .i64 q] 29)))
      have S2 := hide (S1.out.below (Below.plus (Below.refl _ w1) (.cells #[.int .i64 0, .int .i64 q] 29)) (Nat.le_refl _))
      have C2 := hide (C1.out.below (Below.plus (Below.refl _ w1) (.cells #[.int .i64 0, .int .i64 q] 29)) (Nat.le_refl _))
      have L2 := hide (L1.out.below (Below.plus (Below.refl _ w1) (.cells #[.int .i64 0, .int .i64 q] 29)) (Nat.le_refl _))
      have T2 := hide (T1.out.below (Below.plus (Below.refl _ w1) (.cells #[.int .i64 0, .int .i64 q] 29)) (Nat.le_refl _))
      have U2 := hide (U1.out.below (Below.plus (Below.refl _ w1) (.cells #[.int .i64 0, .int .i64 q] 29)) (Nat.le_refl _))
      have G2 := hide (G1.out.below (Below.plus (Below.refl _ w1) (.cells #[.int .i64 0, .int .i64 q] 29)) (Nat.le_refl _))
      have R2 := hide (R1.out.below (Below.plus (Below.refl _ w1) (.cells #[.int .i64 0, .int .i64 q] 29)) (Nat.le_refl _))
      have Z2 := hide (Z1.out.below (Below.plus (Below.refl _ w1) (.cells #[.int .i64 0, .int .i64 q] 29)) (Nat.le_refl _))
      have V2 := hide (Box.new w1 [.int .i64 0, .int .i64 q] 29)
      clear HB1 S1 C1 L1 T1 U1 G1 R1 Z1
      have cV0 := V2.out.get 0 rfl
      have cV1 := V2.out.get 1 rfl
      have cG0 := G2.out.get 0 rfl
      have cG1 := G2.out.get 1 rfl
      have cG2 := G2.out.get 2 rfl
      go_wp2_with fail
      refine (clock_own _ _ s.clock l s.clock.length _ C2.out U2.out).mono ?_
      rintro e w3 ⟨vQ, rfl, ho, hb⟩
      have HB3 := hide (below_step HB2.out hb)
      have S3 := hide (S2.out.below hb (Nat.le_refl _))
      have C3 := hide (C2.out.below hb (Nat.le_refl _))
      have L3 := hide (L2.out.below hb (Nat.le_refl _))
      have T3 := hide (T2.out.below hb (Nat.le_refl _))
      have U3 := hide (U2.out.below hb (Nat.le_refl _))
      have G3 := hide (G2.out.below hb (Nat.le_refl _))
      have R3 := hide (R2.out.below hb (Nat.le_refl _))
      have Z3 := hide (Z2.out.below hb (Nat.le_refl _))
      have V3 := hide (V2.out.below hb (Nat.le_refl _))
      have Q3 := hide ho
      clear HB2 hb S2 C2 L2 T2 U2 G2 R2 Z2 V2
      clear ho
      rw [HCE.out, HCA.out]
      clear cG0 cG1 cG2
      clear cV0 cV1
      have hzl := Z3.out.lt
      have n1 : ¬ (w3.heap.size = w.heap.size + 1) := by omega
      have n2 : ¬ (w.heap.size + 1 = w3.heap.size) := by omega
      have n3 : ¬ (w3.heap.size = w.heap.size + 2) := by omega
      have n4 : ¬ (w.heap.size + 2 = w3.heap.size) := by omega
      have HB4 := hide (below_step HB3.out (Below.plus (Below.refl _ w3) (.cells #[.int .i64 ce, .int .i64 ca] 29)))
      have S4 := hide (S3.out.below (Below.plus (Below.refl _ w3) (.cells #[.int .i64 ce, .int .i64 ca] 29)) (Nat.le_refl _))
      have C4 := hide (C3.out.below (Below.plus (Below.refl _ w3) (.cells #[.int .i64 ce, .int .i64 ca] 29)) (Nat.le_refl _))
      have L4 := hide (L3.out.below (Below.plus (Below.refl _ w3) (.cells #[.int .i64 ce, .int .i64 ca] 29)) (Nat.le_refl _))
      have T4 := hide (T3.out.below (Below.plus (Below.refl _ w3) (.cells #[.int .i64 ce, .int .i64 ca] 29)) (Nat.le_refl _))
      have U4 := hide (U3.out.below (Below.plus (Below.refl _ w3) (.cells #[.int .i64 ce, .int .i64 ca] 29)) (Nat.le_refl _))
      have G4 := hide (G3.out.below (Below.plus (Below.refl _ w3) (.cells #[.int .i64 ce, .int .i64 ca] 29)) (Nat.le_refl _))
      have R4 := hide (R3.out.below (Below.plus (Below.refl _ w3) (.cells #[.int .i64 ce, .int .i64 ca] 29)) (Nat.le_refl _))
      have Z4 := hide (Z3.out.below (Below.plus (Below.refl _ w3) (.cells #[.int .i64 ce, .int .i64 ca] 29)) (Nat.le_refl _))
      have V4 := hide (V3.out.below (Below.plus (Below.refl _ w3) (.cells #[.int .i64 ce, .int .i64 ca] 29)) (Nat.le_refl _))
      have Q4 := hide (Q3.out.below (Below.plus (Below.refl _ w3) (.cells #[.int .i64 ce, .int .i64 ca] 29)) (Nat.le_refl _))
      have Y4 := hide (Box.new w3 [.int .i64 ce, .int .i64 ca] 29)
      clear HB3 S3 C3 L3 T3 U3 G3 R3 Z3 V3 Q3
      have cY0 := Y4.out.get 0 rfl
      have cY1 := Y4.out.get 1 rfl
      have cR0 := R4.out.get 0 rfl
      have cR1 := R4.out.get 1 rfl
      have cR2 := R4.out.get 2 rfl
      have cZ0 := Z4.out.get 0 rfl
      have cZ1 := Z4.out.get 1 rfl
      have f0 := R4.out.free 0
      have f1 := R4.out.free 1
      have f2 := R4.out.free 2
      have g0 := Z4.out.free 0
      have g1 := Z4.out.free 1
      go_upto_region 7 with fail
      go_region
      go_wp2_with fail
      have hR := ((((R4.out.set 0 (.slice none 0 0)).set 1 (.slice none 0 0)).set 2 (.slice none 0 0)).away (g' := w.heap.size + 1 + 1) (i := 0) (v := .int .i64 ce) (by omega)).away (g' := w.heap.size + 1 + 1) (i := 1) (v := .int .i64 ca) (by omega)
      have hZ := ((((Z4.out.away (g' := w.heap.size + 1) (i := 0) (v := .slice none 0 0) (by omega)).away (g' := w.heap.size + 1) (i := 1) (v := .slice none 0 0) (by omega)).away (g' := w.heap.size + 1) (i := 2) (v := .slice none 0 0) (by omega)).set 0 (.int .i64 ce)).set 1 (.int .i64 ca)
      refine bodyPost_ret (results_cell_cell rfl _ _ (w.heap.size + 1) (w.heap.size + 1 + 1) 35 29 _ _ (0, 0) (0, 0) _ _ rfl hR.drew Tryz.underlying35 rfl Tryz.sizeState rfl hZ.drew Tryz.underlying29 rfl Tryz.sizeFault) rfl ⟨_, rfl, StOwn.none _ _, ?_⟩
      exact (((((HB4.out.setCell (by show w.heap.size ≤ w.heap.size + 1; omega) _).setCell (by show w.heap.size ≤ w.heap.size + 1; omega) _).setCell (by show w.heap.size ≤ w.heap.size + 1; omega) _).setCell (by show w.heap.size ≤ w.heap.size + 1 + 1; omega) _).setCell (by show w.heap.size ≤ w.heap.size + 1 + 1; omega) _).drew
  · have hr' : (r != 0) = true := by simp [hr]
    obtain rfl : r = E := by rw [← HE.out]; simp [hr]
    obtain rfl : (0 : Int) = A := by rw [← HA.out]; simp [hr]
    rw [if_neg hr] at HX
    have hX := HX.out
    subst hX
    clear HE HA HX hr
    go_enter Tryz.func13, Tryz.ntmps13
    have cG0 := G0.out.get 0 rfl
    have cG1 := G0.out.get 1 rfl
    have cG2 := G0.out.get 2 rfl
    go_wp2_with fail
    refine (wrong_state _ s s.clock.length _ S0.out).mono ?_
    rintro e w1 ⟨rfl, hb⟩
    have HB1 := hide (below_step HB0.out hb)
    have S1 := hide (S0.out.below hb (Nat.le_refl _))
    have C1 := hide (C0.out.below hb (Nat.le_refl _))
    have L1 := hide (L0.out.below hb (Nat.le_refl _))
    have T1 := hide (T0.out.below hb (Nat.le_refl _))
    have U1 := hide (U0.out.below hb (Nat.le_refl _))
    have G1 := hide (G0.out.below hb (Nat.le_refl _))
    have R1 := hide (R0.out.below hb (Nat.le_refl _))
    have Z1 := hide (Z0.out.below hb (Nat.le_refl _))
    clear HB0 hb S0 C0 L0 T0 U0 G0 R0 Z0
    rw [HR.out, HQ.out]
    have hzl := Z1.out.lt
    have n1 : ¬ (w1.heap.size = w.heap.size + 1) := by omega
    have n2 : ¬ (w.heap.size + 1 = w1.heap.size) := by omega
    have n3 : ¬ (w1.heap.size = w.heap.size + 2) := by omega
    have n4 : ¬ (w.heap.size + 2 = w1.heap.size) := by omega
    clear cG0 cG1 cG2
    have HB2 := hide (below_step HB1.out (Below.plus (Below.refl _ w1) (.cells #[.int .i64 r, .int .i64 q] 29)))
    have S2 := hide (S1.out.below (Below.plus (Below.refl _ w1) (.cells #[.int .i64 r, .int .i64 q] 29)) (Nat.le_refl _))
    have C2 := hide (C1.out.below (Below.plus (Below.refl _ w1) (.cells #[.int .i64 r, .int .i64 q] 29)) (Nat.le_refl _))
    have L2 := hide (L1.out.below (Below.plus (Below.refl _ w1) (.cells #[.int .i64 r, .int .i64 q] 29)) (Nat.le_refl _))
    have T2 := hide (T1.out.below (Below.plus (Below.refl _ w1) (.cells #[.int .i64 r, .int .i64 q] 29)) (Nat.le_refl _))
    have U2 := hide (U1.out.below (Below.plus (Below.refl _ w1) (.cells #[.int .i64 r, .int .i64 q] 29)) (Nat.le_refl _))
    have G2 := hide (G1.out.below (Below.plus (Below.refl _ w1) (.cells #[.int .i64 r, .int .i64 q] 29)) (Nat.le_refl _))
    have R2 := hide (R1.out.below (Below.plus (Below.refl _ w1) (.cells #[.int .i64 r, .int .i64 q] 29)) (Nat.le_refl _))
    have Z2 := hide (Z1.out.below (Below.plus (Below.refl _ w1) (.cells #[.int .i64 r, .int .i64 q] 29)) (Nat.le_refl _))
    have V2 := hide (Box.new w1 [.int .i64 r, .int .i64 q] 29)
    clear HB1 S1 C1 L1 T1 U1 G1 R1 Z1
    have cV0 := V2.out.get 0 rfl
    have cV1 := V2.out.get 1 rfl
    have cR0 := R2.out.get 0 rfl
    have cR1 := R2.out.get 1 rfl
    have cR2 := R2.out.get 2 rfl
    have cZ0 := Z2.out.get 0 rfl
    have cZ1 := Z2.out.get 1 rfl
    have f0 := R2.out.free 0
    have f1 := R2.out.free 1
    have f2 := R2.out.free 2
    have g0 := Z2.out.free 0
    have g1 := Z2.out.free 1
    go_upto_region 4 with fail
    go_region
    go_wp2_with fail
    have hR := ((((R2.out.set 0 (.slice none 0 0)).set 1 (.slice none 0 0)).set 2 (.slice none 0 0)).away (g' := w.heap.size + 1 + 1) (i := 0) (v := .int .i64 r) (by omega)).away (g' := w.heap.size + 1 + 1) (i := 1) (v := .int .i64 0) (by omega)
    have hZ := ((((Z2.out.away (g' := w.heap.size + 1) (i := 0) (v := .slice none 0 0) (by omega)).away (g' := w.heap.size + 1) (i := 1) (v := .slice none 0 0) (by omega)).away (g' := w.heap.size + 1) (i := 2) (v := .slice none 0 0) (by omega)).set 0 (.int .i64 r)).set 1 (.int .i64 0)
    refine bodyPost_ret (results_cell_cell rfl _ _ (w.heap.size + 1) (w.heap.size + 1 + 1) 35 29 _ _ (0, 0) (0, 0) _ _ rfl hR.drew Tryz.underlying35 rfl Tryz.sizeState rfl hZ.drew Tryz.underlying29 rfl Tryz.sizeFault) rfl ⟨_, rfl, StOwn.none _ _, ?_⟩
    exact (((((HB2.out.setCell (by show w.heap.size ≤ w.heap.size + 1; omega) _).setCell (by show w.heap.size ≤ w.heap.size + 1; omega) _).setCell (by show w.heap.size ≤ w.heap.size + 1; omega) _).setCell (by show w.heap.size ≤ w.heap.size + 1 + 1; omega) _).setCell (by show w.heap.size ≤ w.heap.size + 1 + 1; omega) _).drew


theorem log_box {w : World} {g : Nat} {u : Upd} {sv : Value} (h : Box w g [.int .i64 u.author, sv, .int .i64 u.kind, .int .i64 u.key, .int .i64 u.item] 50) (hs : Row w sv u.seen) : LogV w (.slice (some ⟨g, 0, none⟩) 1 1) [u] := by
  refine ⟨some ⟨g, 0, none⟩, 1, rfl, by simp, by unfold maxLen; omega, fun i x hi => ?_⟩
  cases i with
  | zero =>
    simp at hi
    subst hi
    exact ⟨g, 0, rfl, sv, hs, h.get 0 rfl, h.get 1 rfl, h.get 2 rfl, h.get 3 rfl, h.get 4 rfl⟩
  | succ i => simp at hi

end Go.Proofs.YtpompbfikbdneabGreat
