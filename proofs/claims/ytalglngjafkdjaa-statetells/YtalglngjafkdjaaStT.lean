/- state.counters: each key with tallies, and their sum. -/
import Derived.Test.YtalglngjafkdjaaStR
namespace Go.Proofs.Ytalglngjafkdjaa
open Go.RowKit

def encC (p : Int × Int) : List Value := [.int .i64 p.1, .int .i64 p.2]
theorem encC_length (p : Int × Int) : (encC p).length = 2 := rfl
theorem encC_one (x : Int × Int) : ∀ v ∈ encC x, v.oneCell' = true := by
  intro v hv
  simp only [encC, List.mem_cons, List.not_mem_nil, or_false] at hv
  rcases hv with rfl | rfl <;> rfl
theorem Try.infoPair : (Try.prog.info? 82).map (fun i => (i.zero, i.size, i.bytes)) = some (some (.agg #[.int .i64 0, .int .i64 0]), 2, 16) := by kernel_rfl
def stepC (out : List (Int × Int)) (t : Tal) : List (Int × Int) :=
  match out.getLast? with
  | none => out ++ [(t.key, t.sum)]
  | some p => if p.1 = t.key then out.dropLast ++ [(p.1, p.2 + t.sum)] else out ++ [(t.key, t.sum)]
def countL : List Tal → List (Int × Int) → List (Int × Int)
  | [], out => out
  | t :: r, out => countL r (stepC out t)
theorem countL_step {l : List Tal} {k : Nat} {x : Tal} (h : l[k]? = some x) : ∀ out, countL (l.take (k + 1)) out = stepC (countL (l.take k) out) x := by
  intro out
  obtain ⟨hk, rfl⟩ := List.getElem?_eq_some_iff.1 h
  rw [List.take_succ_eq_append_getElem hk]
  generalize l.take k = a
  generalize l[k] = y
  clear h hk
  induction a generalizing out with
  | nil => rfl
  | cons z r ih => rw [List.cons_append, countL, countL, ih]
theorem stepC_none {out : List (Int × Int)} {t : Tal} (h : out.getLast? = none) : stepC out t = out ++ [(t.key, t.sum)] := by unfold stepC; rw [h]
theorem stepC_new {out : List (Int × Int)} {t : Tal} {p : Int × Int} (h : out.getLast? = some p) (hk : ¬ p.1 = t.key) : stepC out t = out ++ [(t.key, t.sum)] := by unfold stepC; rw [h]; simp only [if_neg hk]
theorem stepC_more {out : List (Int × Int)} {t : Tal} {p : Int × Int} (h : out.getLast? = some p) (hk : p.1 = t.key) : stepC out t = out.dropLast ++ [(p.1, p.2 + t.sum)] := by unfold stepC; rw [h]; simp only [if_pos hk]
theorem stepC_len (out : List (Int × Int)) (t : Tal) (ht : -1000000 ≤ t.sum ∧ t.sum ≤ 1000000) (n : Nat) (h1 : out.length ≤ n) (h2 : ∀ p ∈ out, -(1000000 * (n : Int)) ≤ p.2 ∧ p.2 ≤ 1000000 * (n : Int)) : (stepC out t).length ≤ n + 1 ∧ ∀ p ∈ stepC out t, -(1000000 * ((n + 1 : Nat) : Int)) ≤ p.2 ∧ p.2 ≤ 1000000 * ((n + 1 : Nat) : Int) := by
  have new : (out ++ [(t.key, t.sum)]).length ≤ n + 1 ∧ ∀ p ∈ out ++ [(t.key, t.sum)], -(1000000 * ((n + 1 : Nat) : Int)) ≤ p.2 ∧ p.2 ≤ 1000000 * ((n + 1 : Nat) : Int) := by
    refine ⟨by simp; omega, fun p hp => ?_⟩
    rcases List.mem_append.1 hp with hp | hp
    · have := h2 p hp; omega
    · simp at hp; subst hp; simp only; omega
  cases hg : out.getLast? with
  | none => rw [stepC_none hg]; exact new
  | some q =>
    by_cases hk : q.1 = t.key
    · rw [stepC_more hg hk]
      obtain ⟨e1, e2, -⟩ := row_snoc hg
      have hq := h2 q (List.mem_of_getLast? hg)
      refine ⟨by simp; omega, fun p hp => ?_⟩
      rcases List.mem_append.1 hp with hp | hp
      · have := h2 p (by rw [e1]; exact List.mem_append.2 (.inl hp)); omega
      · simp at hp; subst hp; simp only; omega
    · rw [stepC_new hg hk]; exact new
theorem cellsC_second {ps : List (Int × Int)} {k : Nat} {p : Int × Int} (s : Int) (h : ps[k]? = some p) : cellsS encC (ps.set k (p.1, s)) = (cellsS encC ps).take (k * 2 + 1) ++ [.int .i64 s] ++ (cellsS encC ps).drop (k * 2 + 1 + 1) := by
  obtain ⟨hk, rfl⟩ := List.getElem?_eq_some_iff.1 h
  have e1 : ps.set k (ps[k].1, s) = ps.take k ++ (ps[k].1, s) :: ps.drop (k + 1) := by rw [List.set_eq_take_append_cons_drop, if_pos hk]
  have e2 : cellsS encC ps = cellsS encC (ps.take k) ++ (encC ps[k] ++ cellsS encC (ps.drop (k + 1))) := by
    have : ps = ps.take k ++ ps[k] :: ps.drop (k + 1) := by rw [← List.drop_eq_getElem_cons hk, List.take_append_drop]
    rw [congrArg (cellsS encC) this, cellsS_append]
    rfl
  have hA : (cellsS encC (ps.take k)).length = k * 2 := by rw [cellsS_length encC_length, List.length_take, Nat.min_eq_left (by omega)]
  rw [e1, cellsS_append, e2]
  generalize cellsS encC (ps.take k) = A at hA
  rw [List.take_append, List.drop_append, List.take_of_length_le (l := A) (by omega), List.drop_of_length_le (l := A) (by omega), hA, show k * 2 + 1 - k * 2 = 1 by omega, show k * 2 + 1 + 1 - k * 2 = 2 by omega]
  simp [encC, cellsS]
theorem set_last {α : Type} {l : List α} {m : Nat} {p q : α} (hm : l.length = m + 1) (hp : l[m]? = some p) : l.set m q = l.dropLast ++ [q] := by
  have hps : l = l.take m ++ [p] := by
    have hd := drop_at hp
    rw [List.drop_of_length_le (i := m + 1) (by omega)] at hd
    rw [← hd, List.take_append_drop]
  have hml2 : (l.take m).length = m := by rw [List.length_take]; omega
  generalize l.take m = A at hps hml2
  subst hps
  rw [List.set_append_right _ _ (by omega), hml2, Nat.sub_self]
  simp

set_option maxRecDepth 100000 in
set_option maxHeartbeats 2000000 in
theorem counters_fn (v : Value) (l : List Tal) (w : World) (hl : SliceV 3 encT w v l) (hbig : l.length ≤ 100) (hsum : ∀ t ∈ l, -1000000 ≤ t.sum ∧ t.sum ≤ 1000000) :
    Calls Try.prog 43 #[v] w fun e w' => ∃ v', e = .returned v' ∧ w'.ownsRow w.heap.size 82 2 v' (countL l []).length (cellsS encC (countL l [])) ∧ Below w.heap.size w w' := by
  obtain ⟨i0, hi0, hz0, hz1, hz2⟩ := info_parts Try.infoPair
  obtain ⟨a, cap, rfl, -, -, -⟩ := id hl
  have HL := hide hl
  have HSM := hide hsum
  clear hl hsum
  go_enter Try.func43, Try.ntmps43
  go_wp2_with fail
  go_loopw [3, 9] (fun o i wr => ∃ (k : Nat) (ps : List (Int × Int)), k ≤ l.length ∧ i = .int .i64 k ∧ Hid (ps = countL (l.take k) []) ∧ Hid (ps.length ≤ k ∧ ∀ p ∈ ps, -(1000000 * (k : Int)) ≤ p.2 ∧ p.2 ≤ 1000000 * (k : Int)) ∧ Hid (wr.ownsRow w.heap.size 82 2 o ps.length (cellsS encC ps)) ∧ Hid (Below w.heap.size w wr)) (fun _ i _ => l.length - (intOf i).toNat)
  case atStart => exact ⟨0, [], Nat.zero_le _, rfl, rfl, ⟨by simp, by simp⟩, World.ownsRow_nil _ _ _ _, Below.refl _ _⟩
  case round =>
    obtain ⟨k, ps, hk, rfl, HP, HN, HO, HB⟩ := hrel
    obtain ⟨w0, rfl⟩ : ∃ w0, w0 = wr := ⟨wr, rfl⟩
    by_cases hlt : k < l.length
    · obtain ⟨t, hu⟩ : ∃ t, l[k]? = some t := ⟨_, List.getElem?_eq_getElem hlt⟩
      obtain ⟨b, off, rfl, d0, d1, d2⟩ := talsAt (HL.out.below HB.out (Nat.le_refl _)) hu
      have hlt' : (k : Int) < (l.length : Int) := by omega
      have ht := HSM.out t (List.mem_of_getElem? hu)
      have HS : Hid (stepC ps t = countL (l.take (k + 1)) []) := by unfold Hid; rw [countL_step hu, HP.out]
      have HN2 := hide (stepC_len ps t ht k HN.out.1 HN.out.2)
      have hbp := Below.plus (Below.refl w0.heap.size w0) (.cells #[.int .i64 t.key, .int .i64 t.author, .int .i64 t.sum] 58)
      have V1 := hide (Box.new w0 [.int .i64 t.key, .int .i64 t.author, .int .i64 t.sum] 58)
      have HO1 := hide (ownsRow_below HO.out hbp (Nat.le_refl _))
      have HB1 := hide (below_step HB.out hbp)
      have hbp2 := Below.plus hbp (.cells #[.int .i64 t.key, .int .i64 t.sum] 82)
      have HO2 := hide (ownsRow_below HO.out hbp2 (Nat.le_refl _))
      have HB2 := hide (below_step HB.out hbp2)
      have hX := Box.new (w0.alloc (.cells #[.int .i64 t.key, .int .i64 t.author, .int .i64 t.sum] 58)) (encC (t.key, t.sum)) 82
      rw [World.size_alloc] at hX
      have HC2 := hide hX.cellsAt
      have hnl := HN.out.1
      have HWSZ := hide HB.out.size
      clear hbp hbp2 hX
      cases hgl : ps.getLast? with
      | none =>
        have hnil : ps = [] := List.getLast?_eq_none_iff.1 hgl
        have HGL := hide hgl
        subst hnil
        obtain ⟨a', cap', ho, -⟩ := slice_of_own encC_length HO.out
        subst ho
        have HLT := hide HO.out.lt
        have c0 := V1.out.get 0 rfl
        have c2 := V1.out.get 2 rfl
        clear hgl HO HO1 HB1 HB HN hnl
        have HZ := hide (rfl : ([] : List (Int × Int)).length = 0)
        rw [HZ.out] at HO2
        go_wp2_with fail
        go_quiet (fail)
        go_wp2_with (at_builtin; refine wpList_append_own _ rfl (.tmp 28) (.tmp 34) 38 rfl w.heap.size 82 i0 (.agg #[.int .i64 0, .int .i64 0]) 2 16 Try.underlying38 hi0 hz0 hz1 hz2 rfl (by decide) _ _ _ rfl HO2.out ⟨w0.heap.size + 1, 0, none⟩ 1 1 (encC (t.key, t.sum)) rfl rfl HC2.out (encC_one _) (by unfold maxLen; simp) (by simp) (by have := HWSZ.out; simp; omega) ?_)
        intro v' w4 hown' hgrow _
        have HO4 : Hid (w4.ownsRow w.heap.size 82 2 v' (stepC [] t).length (cellsS encC (stepC [] t))) := by
          rw [stepC_none HGL.out]
          exact hown'
        have HB4 : Hid (Below w.heap.size w w4) := (below_drewN HB2.out _).grown hgrow (by have := HWSZ.out; simp; omega) (fun k hk => (HLT.out k hk).1)
        clear hown' hgrow
        go_wp2_with fail
        go_roundw
        case rel => exact ⟨k + 1, stepC [] t, by omega, by go_num, HS, HN2, HO4, HB4⟩
        case measure => simp [intOf]; omega
      | some p =>
        obtain ⟨hp1, hp2, hp3⟩ := row_snoc hgl
        obtain ⟨m, hm⟩ : ∃ m, ps.length = m + 1 := ⟨_, hp2⟩
        have hpm : ps[m]? = some p := by rw [hm] at hp3; exact hp3
        rcases own_ways HO.out with ⟨-, h2⟩ | ⟨g, cap', ho, hgB, hh, hcap, hcm⟩
        · rw [h2] at hpm; simp at hpm
        subst ho
        have HLT := hide HO.out.lt
        have HGL := hide hgl
        have HPM := hide hpm
        have HM := hide hm
        have HH1 := hide (hh.below (Below.plus (Below.refl w0.heap.size w0) (.cells #[.int .i64 t.key, .int .i64 t.author, .int .i64 t.sum] 58)) (Nat.le_refl _))
        have hgl0 := hh.lt
        have hpb := HN.out.2 p (List.mem_of_getElem? hpm)
        have q0 := HH1.out.at encC_length HPM.out (j := 0) rfl
        have q1 := HH1.out.at encC_length HPM.out (j := 1) rfl
        simp only [Nat.add_zero] at q0
        have qf := HH1.out.free (m * 2 + 1)
        have c0 := V1.out.get 0 rfl
        have c2 := V1.out.get 2 rfl
        have hm0 : (0 : Int) ≤ (m : Int) := by omega
        have hmn : (m : Int) < (ps.length : Int) := by omega
        have hw : IntKind.i64.wrap ((ps.length : Int) - 1) = (m : Int) := by rw [hm, wrapL (by omega) (by omega)]; omega
        have hml : decide ((m : Int) < 0) = false := by simp
        clear hp1 hp2 hp3 hgl hpm hh HO
        by_cases hkk : p.1 = t.key
        · have hq : (p.1 != t.key) = false := by simp [hkk]
          have HK := hide hkk
          have hw2 : IntKind.i64.wrap (p.2 + t.sum) = p.2 + t.sum := wrapS (by omega) (by omega)
          have hne1 : ¬ w0.heap.size = g := by omega
          have hne2 : ¬ g = w0.heap.size := by omega
          clear hkk HO1 HO2 HB2 HC2 hm
          go_wp2_with fail
          go_quiet (fail)
          go_upto_region 8 with fail
          go_region
          go_wp2_with fail
          go_roundw
          case rel =>
            have hst : stepC ps t = ps.set m (p.1, p.2 + t.sum) := by rw [stepC_more HGL.out HK.out, set_last HM.out HPM.out]
            have hlen : (ps.set m (p.1, p.2 + t.sum)).length = ps.length := by simp
            refine ⟨k + 1, stepC ps t, by omega, by go_num, HS, HN2, hide ?_, hide ?_⟩
            · rw [hst, hlen]
              have hs := HH1.out.splice (o := m * 2 + 1) [.int .i64 (p.2 + t.sum)] (ps.set m (p.1, p.2 + t.sum)) hlen hcap (by simp; have := HM.out; omega) (cellsC_second _ HPM.out)
              have := HoldsS.own encC_length hs hgB (by rw [hlen]; exact hcap) hcm
              rw [hlen] at this
              exact this
            · exact (below_drewN HB1.out _).drew.setCell hgB _
          case measure => simp [intOf]; omega
        · have hq : (p.1 != t.key) = true := by simp [hkk]
          have HK := hide hkk
          clear hkk HO1 HB1 q1 qf hm
          go_wp2_with fail
          go_quiet (fail)
          go_wp2_with (at_builtin; refine wpList_append_own _ rfl (.tmp 28) (.tmp 34) 38 rfl w.heap.size 82 i0 (.agg #[.int .i64 0, .int .i64 0]) 2 16 Try.underlying38 hi0 hz0 hz1 hz2 rfl (by decide) _ _ _ rfl HO2.out ⟨w0.heap.size + 1, 0, none⟩ 1 1 (encC (t.key, t.sum)) rfl rfl HC2.out (encC_one _) (by unfold maxLen; omega) (by omega) (by have := HWSZ.out; simp; omega) ?_)
          intro v' w4 hown' hgrow _
          have HO4 : Hid (w4.ownsRow w.heap.size 82 2 v' (stepC ps t).length (cellsS encC (stepC ps t))) := by
            unfold Hid
            rw [stepC_new HGL.out HK.out, cellsS_snoc]
            simpa using hown'
          have HB4 : Hid (Below w.heap.size w w4) := (below_drewN HB2.out _).grown hgrow (by have := HWSZ.out; simp; omega) (fun k hk => (HLT.out k hk).1)
          clear hown' hgrow
          go_wp2_with fail
          go_roundw
          case rel => exact ⟨k + 1, stepC ps t, by omega, by go_num, HS, HN2, HO4, HB4⟩
          case measure => simp [intOf]; omega
    · have hkl : l.take k = l := List.take_of_length_le (by omega)
      rw [hkl] at HP
      have hlt' : ¬ (k : Int) < (l.length : Int) := by omega
      go_wp2_with fail
      go_ret
      refine ⟨_, rfl, ?_, HB.out⟩
      rw [← HP.out]
      exact HO.out
end Go.Proofs.Ytalglngjafkdjaa
