/- update.Parse tells, of any bytes, the update, how many authors, and what is wrong. -/
import Derived.Test.YtiomdleoafakkaaRead
namespace Go.Proofs.Ytiomdleoafakkaa
open Go.RowKit

def zeroUpd : Upd := ⟨0, [], 0, 0, 0⟩
/-- The bytes are not as long as the first one tells. -/
def formB (bs : List Int) : Bool := decide (bs.length < 6 ∨ ¬ (bs.length : Int) = 6 + 2 * bs.getD 0 0)
/-- What Parse says is wrong; the update; how many authors. -/
def parseE (bs : List Int) : Int := if formB bs then 2 else wrongU (readU bs (bs.getD 0 0).toNat) (bs.getD 0 0)
def parseU (bs : List Int) : Upd := if parseE bs = 0 then readU bs (bs.getD 0 0).toNat else zeroUpd
def parseN (bs : List Int) : Int := if parseE bs = 0 then bs.getD 0 0 else 0

theorem isUpd_zero (w : World) : IsUpd w (.agg #[.int .i64 0, .slice none 0 0, .int .i64 0, .int .i64 0, .int .i64 0]) zeroUpd :=
  ⟨.slice none 0 0, rfl, ⟨none, 0, rfl, by simp [zeroUpd], by unfold maxLen; omega, fun i hi => by simp [zeroUpd] at hi⟩⟩

theorem results_cell_tmp2 {P : Program} {fn : Func} {p q r : Tmp} {ty : TypeId} (h : fn.results = #[.cell p ty, .tmp q, .tmp r]) (tmps : Array Value) (w : World) (g : Nat) (t : TypeId) (cs : Array Value) (fr : Nat × Nat) (d : TypeDesc)
    (hp : tmps.getD p undef = .pointer (some ⟨g, 0, none⟩)) (hg : w.heap[g]? = some (.cells cs t fr))
    (hu : P.underlying ty = some d) (hd : (match d with | .struct _ | .array _ _ => true | _ => false) = true) (hi : (P.info? ty).map (·.size) = some cs.size) :
    (results fn tmps).run P w = .ok (.tuple #[.agg cs, tmps.getD q undef, tmps.getD r undef]) w := by
  have hp' : tmps[p]?.getD undef = .pointer (some ⟨g, 0, none⟩) := by simpa using hp
  simp [results, h, hp', asAddr, run_loadVar_row w g t ty cs fr d hg hu hd hi]

set_option maxRecDepth 100000 in
set_option maxHeartbeats 1000000 in
theorem parse_upd (v : Value) (bs : List Int) (w : World) (h : RowB w v bs) :
    Calls Try.prog 31 #[v] w fun e w' => ∃ uv, e = .returned (.tuple #[uv, .int .i64 (parseN bs), .int .i64 (parseE bs)]) ∧ IsUpd w' uv (parseU bs) ∧ Below w.heap.size w w' := by
  have hlen := h.len_le
  have HZ := hide (Box.new w zeroCells 38)
  have HB := hide (Below.plus (Below.refl w.heap.size w) (.cells #[.int .i64 0, .slice none 0 0, .int .i64 0, .int .i64 0, .int .i64 0] 38))
  by_cases h6 : bs.length < 6
  · have HE : Hid (parseE bs = 2) := by simp [Hid, parseE, formB, h6]
    have HN : Hid (parseN bs = 0) := by simp [Hid, parseN, HE.out]
    have HU : Hid (parseU bs = zeroUpd) := by simp [Hid, parseU, HE.out]
    rw [HE.out, HN.out, HU.out]
    obtain ⟨a, cap, rfl, -, -, -, -⟩ := h
    obtain ⟨L, HL⟩ : ∃ L, Hid (bs.length = L) := ⟨_, rfl⟩
    rw [HL.out] at h6 hlen ⊢
    have h6' : (L : Int) < 6 := by omega
    go_enter Try.func31, Try.ntmps31
    go_wp2_with fail
    refine bodyPost_ret (results_cell_tmp2 rfl _ _ w.heap.size 38 _ (0, 0) _ rfl HZ.out Try.underlying38 rfl Try.sizeUpd) rfl ⟨_, rfl, isUpd_zero _, HB.out⟩
  · obtain ⟨m, hm⟩ : ∃ m : Nat, bs.getD 0 0 = m := ⟨(bs.getD 0 0).toNat, by have := (h.bound (i := 0) (by omega)).1; omega⟩
    have hm2 : m ≤ 255 := by have := (h.bound (i := 0) (by omega)).2; omega
    obtain ⟨a, cap, rfl, -, -, -, -⟩ := id h
    obtain ⟨b, off, rfl, hc, hbw⟩ := h.at (by omega)
    have c0 := hc 0 (by omega)
    rw [hm, Nat.add_zero] at c0
    clear hc
    have HA := hide (h.alloc (.cells #[.int .i64 0, .slice none 0 0, .int .i64 0, .int .i64 0, .int .i64 0] 38))
    clear h
    by_cases hq : bs.length = 6 + 2 * m
    · have HF : Hid (formB bs = false) := by unfold Hid; rw [formB, hm, decide_eq_false_iff_not]; omega
      have HE : Hid (parseE bs = wrongU (readU bs m) m) := by unfold Hid parseE; rw [HF.out, hm, Int.toNat_natCast]; rfl
      have HRD := hide (read_fn _ bs m _ HA.out hq hm2)
      have HW := hide (fun v w => wrongU_upd v (readU bs m) m w)
      have HN : Hid (parseN bs = if wrongU (readU bs m) m = 0 then (m : Int) else 0) := by simp only [Hid, parseN, HE.out, hm]
      have HU : Hid (parseU bs = if wrongU (readU bs m) m = 0 then readU bs m else zeroUpd) := by simp only [Hid, parseU, HE.out, hm, Int.toNat_natCast]
      rw [HE.out, HN.out, HU.out]
      clear HE HN HU HF hm
      have HUL : Hid ((readU bs m).seen.length = m) := by simp [Hid, readU]
      generalize readU bs m = U at HRD HW HUL ⊢
      obtain ⟨L, HL⟩ : ∃ L, Hid (bs.length = L) := ⟨_, rfl⟩
      rw [HL.out] at h6 hlen hq HRD ⊢
      have h6' : ¬ (L : Int) < 6 := by omega
      have h0' : (0 : Int) < (L : Int) := by omega
      have hqq : ((L : Int) != (L : Int)) = false := by simp
      have HQ := hide hq
      clear hq h6 HA HL
      obtain ⟨r, HR⟩ : ∃ r, Hid (wrongU U m = r) := ⟨_, rfl⟩
      rw [HR.out]
      go_enter Try.func31, Try.ntmps31
      go_wp2_with fail
      refine (size_fn m L _ (by omega) (by omega) (by have := HQ.out; omega)).mono ?_
      rintro e w2 ⟨rfl, hw2⟩
      rw [hw2]; clear hw2 w2
      go_wp2_with fail
      refine HRD.out.mono ?_
      rintro e w2 ⟨gS, rfl, hgS, hbS, hb2⟩
      have HBS := hide hbS
      have hgS' : w.heap.size < gS := by have := hgS; simp at this; omega
      have HIN : Hid (IsUpd w2 (.agg #[.int .i64 U.author, .slice (some ⟨gS, 0, none⟩) m m, .int .i64 U.kind, .int .i64 U.key, .int .i64 U.item]) U) :=
        ⟨_, rfl, row_box hbS HUL.out (by omega)⟩
      clear hbS hgS
      have HB2 := hide (below_step HB.out hb2)
      have HZ2 := hide (HZ.out.below hb2 (Nat.le_refl _))
      have hg2 : w.heap.size < w2.heap.size := HZ2.out.lt
      clear HZ HB hb2 HRD
      have HI := hide (HIN.out.below (Below.plus (Below.refl w2.heap.size w2) (.cells #[.int .i64 U.author, .slice (some ⟨gS, 0, none⟩) m m, .int .i64 U.kind, .int .i64 U.key, .int .i64 U.item] 38)) (Nat.le_refl _))
      have HX := hide (Box.new w2 [.int .i64 U.author, .slice (some ⟨gS, 0, none⟩) m m, .int .i64 U.kind, .int .i64 U.key, .int .i64 U.item] 38)
      have HB3 := hide (Below.plus (Below.refl w2.heap.size w2) (.cells #[.int .i64 U.author, .slice (some ⟨gS, 0, none⟩) m m, .int .i64 U.kind, .int .i64 U.key, .int .i64 U.item] 38))
      go_wp2_with fail
      refine (HW.out _ _ HI.out).mono ?_
      rintro e w4 ⟨rfl, hb4⟩
      have HB4 := hide (below_step HB3.out hb4)
      have HX4 := hide (HX.out.below hb4 (Nat.le_refl _))
      have HZ4 := hide (HZ2.out.below HB4.out (Nat.le_refl _))
      have HB5 := hide (below_step HB2.out HB4.out)
      have HI4 := hide (HIN.out.below HB4.out (Nat.le_refl _))
      clear HB3 hb4 HX HI HW HB2 HZ2 c0
      rw [HR.out]
      have e0 := HZ4.out.get 0 rfl
      have e1 := HZ4.out.get 1 rfl
      have e2 := HZ4.out.get 2 rfl
      have e3 := HZ4.out.get 3 rfl
      have e4 := HZ4.out.get 4 rfl
      have f0 := HZ4.out.free 0
      have f1 := HZ4.out.free 1
      have f2 := HZ4.out.free 2
      have f3 := HZ4.out.free 3
      have f4 := HZ4.out.free 4
      have d0 := HX4.out.get 0 rfl
      have d1 := HX4.out.get 1 rfl
      have d2 := HX4.out.get 2 rfl
      have d3 := HX4.out.get 3 rfl
      have d4 := HX4.out.get 4 rfl
      by_cases hr : r = 0
      · subst hr
        go_wp2_with fail
        have hX := ((((HZ4.out.set 0 (.int .i64 U.author)).set 1 (.slice (some ⟨gS, 0, none⟩) m m)).set 2 (.int .i64 U.kind)).set 3 (.int .i64 U.key)).set 4 (.int .i64 U.item)
        have hne : gS ≠ w.heap.size := by omega
        have hS0 := (((((HBS.out.below HB4.out (Nat.le_refl _)).away (i := 0) (v := .int .i64 U.author) hne).away (i := 1) (v := .slice (some ⟨gS, 0, none⟩) m m) hne).away (i := 2) (v := .int .i64 U.kind) hne).away (i := 3) (v := .int .i64 U.key) hne).away (i := 4) (v := .int .i64 U.item) hne
        refine bodyPost_ret (results_cell_tmp2 rfl _ _ w.heap.size 38 _ (0, 0) _ rfl hX Try.underlying38 rfl Try.sizeUpd) rfl ⟨_, rfl, ⟨_, rfl, row_box hS0 HUL.out (by omega)⟩, ?_⟩
        exact ((((HB5.out.setCell (Nat.le_refl _) _).setCell (Nat.le_refl _) _).setCell (Nat.le_refl _) _).setCell (Nat.le_refl _) _).setCell (Nat.le_refl _) _
      · have hr' : (r != 0) = true := by simp [hr]
        have HR0 := hide hr
        clear hr
        go_wp2_with fail
        have hX := ((((HZ4.out.set 0 (.int .i64 0)).set 1 (.slice none 0 0)).set 2 (.int .i64 0)).set 3 (.int .i64 0)).set 4 (.int .i64 0)
        refine bodyPost_ret (results_cell_tmp2 rfl _ _ w.heap.size 38 _ (0, 0) _ rfl hX Try.underlying38 rfl Try.sizeUpd) rfl ?_
        exact ⟨_, rfl, isUpd_zero _, ((((HB5.out.setCell (Nat.le_refl _) _).setCell (Nat.le_refl _) _).setCell (Nat.le_refl _) _).setCell (Nat.le_refl _) _).setCell (Nat.le_refl _) _⟩
    · have HF : Hid (formB bs = true) := by unfold Hid; rw [formB, hm, decide_eq_true_iff]; omega
      have HE : Hid (parseE bs = 2) := by simp [Hid, parseE, HF.out]
      have HN : Hid (parseN bs = 0) := by simp [Hid, parseN, HE.out]
      have HU : Hid (parseU bs = zeroUpd) := by simp [Hid, parseU, HE.out]
      rw [HE.out, HN.out, HU.out]
      clear HE HN HU HF hm HA
      obtain ⟨L, HL⟩ : ∃ L, Hid (bs.length = L) := ⟨_, rfl⟩
      obtain ⟨M, HM⟩ : ∃ M, Hid (6 + 2 * m = M) := ⟨_, rfl⟩
      rw [HL.out] at h6 hlen hq ⊢
      rw [HM.out] at hq
      have h6' : ¬ (L : Int) < 6 := by omega
      have h0' : (0 : Int) < (L : Int) := by omega
      have hqq : ((L : Int) != (M : Int)) = true := by simp; omega
      clear hq h6 HL
      go_enter Try.func31, Try.ntmps31
      go_wp2_with fail
      refine (size_fn m M _ (by omega) (by omega) (by have := HM.out; omega)).mono ?_
      rintro e w2 ⟨rfl, hw2⟩
      rw [hw2]; clear hw2 w2
      go_wp2_with fail
      refine bodyPost_ret (results_cell_tmp2 rfl _ _ w.heap.size 38 _ (0, 0) _ rfl HZ.out Try.underlying38 rfl Try.sizeUpd) rfl ⟨_, rfl, isUpd_zero _, HB.out⟩
end Go.Proofs.Ytiomdleoafakkaa
