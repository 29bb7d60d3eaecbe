/- StateKeeps, walked: what was not seen stays. -/
import Derived.Test.YtkhhifkihpfdhaaLawSO
namespace Go.Proofs.Ytkhhifkihpfdhaa
open Go.RowKit

/-- Two lives, field by field: where they part first. -/
theorem live_ways (y x : Live) : y = x ∨ (¬ y = x ∧ ((y.set == x.set) = false ∨ ((y.set == x.set) = true ∧ ((y.key == x.key) = false ∨ ((y.key == x.key) = true ∧ ((y.item == x.item) = false ∨ ((y.item == x.item) = true ∧ ((y.author == x.author) = false ∨ ((y.author == x.author) = true ∧ (y.seq == x.seq) = false))))))))) := by
  obtain ⟨a1, a2, a3, a4, a5⟩ := y
  obtain ⟨b1, b2, b3, b4, b5⟩ := x
  simp only [Live.mk.injEq]
  by_cases h1 : a1 = b1
  · by_cases h2 : a2 = b2
    · by_cases h3 : a3 = b3
      · by_cases h4 : a4 = b4
        · by_cases h5 : a5 = b5
          · exact .inl ⟨h1, h2, h3, h4, h5⟩
          · exact .inr ⟨fun h => h5 h.2.2.2.2, .inr ⟨by simp [h1], .inr ⟨by simp [h2], .inr ⟨by simp [h3], .inr ⟨by simp [h4], by simp [h5]⟩⟩⟩⟩⟩
        · exact .inr ⟨fun h => h4 h.2.2.2.1, .inr ⟨by simp [h1], .inr ⟨by simp [h2], .inr ⟨by simp [h3], .inl (by simp [h4])⟩⟩⟩⟩
      · exact .inr ⟨fun h => h3 h.2.2.1, .inr ⟨by simp [h1], .inr ⟨by simp [h2], .inl (by simp [h3])⟩⟩⟩
    · exact .inr ⟨fun h => h2 h.2.1, .inr ⟨by simp [h1], .inl (by simp [h2])⟩⟩
  · exact .inr ⟨fun h => h1 h.1, .inl (by simp [h1])⟩
theorem keeps_main {s : StS} {u : Upd} {x : Live} (h : playE s [u] = 0) (hx : x ∈ s.lives) (hn : hasC u.seen x.author x.seq = false) : x ∈ (playX s [u]).lives := by
  rw [playX_zero h]
  exact keeps hx hn
theorem mem_take_succ {l : List Live} {k : Nat} {y x : Live} (h : l[k]? = some y) : x ∈ l.take (k + 1) ↔ x ∈ l.take k ∨ x = y := by
  obtain ⟨hk, rfl⟩ := List.getElem?_eq_some_iff.1 h
  rw [List.take_succ_eq_append_getElem hk, List.mem_append]
  simp

set_option maxRecDepth 100000 in
set_option maxHeartbeats 2000000 in
theorem keeps_law (v uv : Value) (s : StS) (x : Live) (u : Upd) (w : World) (h : IsSt w v s) (hu : IsUpd w uv u) :
    Calls Try.prog 8 #[v, .agg #[.bool x.set, .int .i64 x.key, .int .i64 x.item, .int .i64 x.author, .int .i64 x.seq], uv] w fun e w' => e = .returned (.bool true) ∧ Below w.heap.size w w' := by
  have hin := h
  obtain ⟨cv, lv, tv, rfl, hc, hv, ht⟩ := h
  obtain ⟨a1, cap1, rfl, -, -, -⟩ := id hc
  obtain ⟨a2, cap2, rfl, -, -, -⟩ := id hv
  obtain ⟨a3, cap3, rfl, -, -, -⟩ := id ht
  have huin := hu
  obtain ⟨sv, rfl, hs⟩ := hu
  obtain ⟨a5, cap5, rfl, -, -, -⟩ := id hs
  have hlen := hv.len_le
  have hb3 := Below.plus (Below.plus (Below.plus (Below.refl w.heap.size w) (.cells #[.slice a1 s.clock.length cap1, .slice a2 s.lives.length cap2, .slice a3 s.tals.length cap3] 27)) (.cells #[.bool x.set, .int .i64 x.key, .int .i64 x.item, .int .i64 x.author, .int .i64 x.seq] 64)) (.cells #[.int .i64 u.author, .slice a5 u.seen.length cap5, .int .i64 u.kind, .int .i64 u.key, .int .i64 u.item] 47)
  have S0 := hide (hin.below hb3 (Nat.le_refl _))
  have L0 := hide (hv.below hb3 (Nat.le_refl _))
  have U0 := hide (huin.below hb3 (Nat.le_refl _))
  have R0 := hide (hs.below hb3 (Nat.le_refl _))
  have G0 := hide (((Box.new w [.slice a1 s.clock.length cap1, .slice a2 s.lives.length cap2, .slice a3 s.tals.length cap3] 27).plus (.cells #[.bool x.set, .int .i64 x.key, .int .i64 x.item, .int .i64 x.author, .int .i64 x.seq] 64)).plus (.cells #[.int .i64 u.author, .slice a5 u.seen.length cap5, .int .i64 u.kind, .int .i64 u.key, .int .i64 u.item] 47))
  have M0 := hide ((Box.new (w.alloc (.cells #[.slice a1 s.clock.length cap1, .slice a2 s.lives.length cap2, .slice a3 s.tals.length cap3] 27)) [.bool x.set, .int .i64 x.key, .int .i64 x.item, .int .i64 x.author, .int .i64 x.seq] 64).plus (.cells #[.int .i64 u.author, .slice a5 u.seen.length cap5, .int .i64 u.kind, .int .i64 u.key, .int .i64 u.item] 47))
  have N0 := hide (Box.new ((w.alloc (.cells #[.slice a1 s.clock.length cap1, .slice a2 s.lives.length cap2, .slice a3 s.tals.length cap3] 27)).alloc (.cells #[.bool x.set, .int .i64 x.key, .int .i64 x.item, .int .i64 x.author, .int .i64 x.seq] 64)) [.int .i64 u.author, .slice a5 u.seen.length cap5, .int .i64 u.kind, .int .i64 u.key, .int .i64 u.item] 47)
  rw [World.size_alloc] at M0
  rw [World.size_alloc, World.size_alloc] at N0
  have HB0 := hide hb3
  clear hin hc hv ht huin hs hb3
  obtain ⟨E, HE⟩ : ∃ E, Hid (playE s [u] = E) := ⟨_, rfl⟩
  obtain ⟨X, HX⟩ : ∃ X, Hid (playX s [u] = X) := ⟨_, rfl⟩
  obtain ⟨q, HQ⟩ : ∃ q, Hid (hasC u.seen x.author x.seq = q) := ⟨_, rfl⟩
  go_enter Try.func8, Try.ntmps8
  go_wp2_with fail
  refine (alive4 _).mono ?_
  rintro e w1 ⟨rfl, hb⟩
  have HB1 := hide (below_step HB0.out hb)
  have S1 := hide (S0.out.below hb (Nat.le_refl _))
  have L1 := hide (L0.out.below hb (Nat.le_refl _))
  have U1 := hide (U0.out.below hb (Nat.le_refl _))
  have R1 := hide (R0.out.below hb (Nat.le_refl _))
  have G1 := hide (G0.out.below hb (Nat.le_refl _))
  have M1 := hide (M0.out.below hb (Nat.le_refl _))
  have N1 := hide (N0.out.below hb (Nat.le_refl _))
  clear HB0 hb S0 L0 U0 R0 G0 M0 N0
  have cG0 := G1.out.get 0 rfl
  have cG1 := G1.out.get 1 rfl
  have cG2 := G1.out.get 2 rfl
  go_wp2_with fail
  clear cG0 cG1 cG2
  go_loopw [7, 19] (fun o i wr => ∃ (k : Nat) (t : Bool), k ≤ s.lives.length ∧ i = .int .i64 k ∧ o = .bool t ∧ Hid (t = true ↔ x ∈ s.lives.take k) ∧ Hid (Below w1.heap.size w1 wr)) (fun _ i _ => s.lives.length - (intOf i).toNat)
  case atStart => exact ⟨0, false, Nat.zero_le _, rfl, rfl, by simp [Hid], hide (Below.refl _ _)⟩
  case round =>
    obtain ⟨k, t, hk, rfl, rfl, HT, HBr⟩ := hrel
    obtain ⟨w2, rfl⟩ : ∃ w2, w2 = wr := ⟨wr, rfl⟩
    have M2 := hide (M1.out.below HBr.out (Nat.le_refl _))
    by_cases hlt : k < s.lives.length
    · obtain ⟨y, hy⟩ : ∃ y, s.lives[k]? = some y := ⟨_, List.getElem?_eq_getElem hlt⟩
      obtain ⟨b, off, rfl, d0, d1, d2, d3, d4⟩ := livesAt (L1.out.below HBr.out (Nat.le_refl _)) hy
      have hlt' : (k : Int) < (s.lives.length : Int) := by omega
      have hbp := Below.plus (Below.refl w2.heap.size w2) (.cells #[.bool y.set, .int .i64 y.key, .int .i64 y.item, .int .i64 y.author, .int .i64 y.seq] 64)
      have M3 := hide (M2.out.below hbp (Nat.le_refl _))
      have HB3 := hide (below_step HBr.out hbp)
      have V3 := hide (Box.new w2 [.bool y.set, .int .i64 y.key, .int .i64 y.item, .int .i64 y.author, .int .i64 y.seq] 64)
      have HMS := hide (mem_take_succ (x := x) hy)
      clear hbp M2
      have m0 := M3.out.get 0 rfl
      have m1 := M3.out.get 1 rfl
      have m2 := M3.out.get 2 rfl
      have m3 := M3.out.get 3 rfl
      have m4 := M3.out.get 4 rfl
      cases t
      · rcases live_ways y x with rfl | ⟨hne, hw⟩
        · go_wp2_with fail
          go_roundw
          case rel => exact ⟨k + 1, true, by omega, by go_num, rfl, hide ⟨fun _ => HMS.out.2 (.inr rfl), fun _ => rfl⟩, HB3⟩
          case measure => simp [intOf]; omega
        · have HNE := hide hne
          have HF : Hid (false = true ↔ x ∈ s.lives.take (k + 1)) := by
            unfold Hid
            rw [HMS.out, ← HT.out]
            simp
            exact fun e => HNE.out e.symm
          clear hne
          rcases hw with h1 | ⟨h1, h2 | ⟨h2, h3 | ⟨h3, h4 | ⟨h4, h5⟩⟩⟩⟩
          all_goals
            go_wp2_with fail
            go_roundw
            case rel => exact ⟨k + 1, false, by omega, by go_num, by simp_all, HF, HB3⟩
            case measure => simp [intOf]; omega
      · go_wp2_with fail
        go_roundw
        case rel => exact ⟨k + 1, true, by omega, by go_num, rfl, hide ⟨fun _ => HMS.out.2 (.inl (HT.out.1 rfl)), fun _ => rfl⟩, HB3⟩
        case measure => simp [intOf]; omega
    · have hkl : s.lives.take k = s.lives := List.take_of_length_le (by omega)
      rw [hkl] at HT
      have hlt' : ¬ (k : Int) < (s.lives.length : Int) := by omega
      have S2 := hide (S1.out.below HBr.out (Nat.le_refl _))
      have U2 := hide (U1.out.below HBr.out (Nat.le_refl _))
      have R2 := hide (R1.out.below HBr.out (Nat.le_refl _))
      have G2 := hide (G1.out.below HBr.out (Nat.le_refl _))
      have N2 := hide (N1.out.below HBr.out (Nat.le_refl _))
      have HB2 := hide (below_step HB1.out HBr.out)
      clear S1 U1 R1 G1 N1 M1 L1 HB1 HBr
      have c0 := G2.out.get 0 rfl
      have c1 := G2.out.get 1 rfl
      have c2 := G2.out.get 2 rfl
      have d0 := N2.out.get 0 rfl
      have d1 := N2.out.get 1 rfl
      have d2 := N2.out.get 2 rfl
      have d3 := N2.out.get 3 rfl
      have d4 := N2.out.get 4 rfl
      go_wp2_with fail
      refine (apply_state _ _ s u w2 S2.out U2.out).mono ?_
      rintro e w3 ⟨rv, rfl, ho, hb⟩
      rw [HE.out]
      rw [HX.out] at ho
      obtain ⟨x1, y1, x2, y2, x3, y3, hvp⟩ := ho.form
      subst hvp
      obtain ⟨cv', lv', tv', hag, -, hlX, -⟩ := ho.st
      simp only [Value.agg.injEq, Array.mk.injEq, List.cons.injEq, and_true] at hag
      obtain ⟨rfl, rfl, rfl⟩ := hag
      have hbp := Below.plus (Below.refl w3.heap.size w3) (.cells #[.slice x1 X.clock.length y1, .slice x2 X.lives.length y2, .slice x3 X.tals.length y3] 27)
      have L4 := hide (hlX.below hbp (Nat.le_refl _))
      have M4 := hide ((M2.out.below hb (Nat.le_refl _)).below hbp (Nat.le_refl _))
      have R4 := hide ((R2.out.below hb (Nat.le_refl _)).below hbp (Nat.le_refl _))
      have N4 := hide ((N2.out.below hb (Nat.le_refl _)).below hbp (Nat.le_refl _))
      have Y4 := hide (Box.new w3 [.slice x1 X.clock.length y1, .slice x2 X.lives.length y2, .slice x3 X.tals.length y3] 27)
      have HB4 := hide (below_step (below_step HB2.out hb) hbp)
      have hXlen := hlX.len_le
      clear ho hb hbp hlX S2 U2 R2 G2 N2 HB2 M2 c0 c1 c2 d0 d1 d2 d3 d4
      by_cases hE : E = 0
      · subst hE
        cases t
        · go_wp2_with fail
          go_ret
          exact ⟨rfl, HB4.out⟩
        · have m3 := M4.out.get 3 rfl
          have m4 := M4.out.get 4 rfl
          have n1 := N4.out.get 1 rfl
          go_wp2_with fail
          refine (has_clock _ u.seen x.author x.seq _ R4.out).mono ?_
          rintro e w5 ⟨rfl, hw5⟩
          rw [hw5, HQ.out]
          clear hw5 w5
          cases q
          · have HIN : Hid (x ∈ X.lives) := by unfold Hid; rw [← HX.out]; exact keeps_main HE.out (HT.out.1 (by simp)) HQ.out
            have z1 := Y4.out.get 1 rfl
            go_wp2_with fail
            obtain ⟨WB, HWB⟩ : ∃ WB, Hid (w3.alloc (.cells #[.slice x1 X.clock.length y1, .slice x2 X.lives.length y2, .slice x3 X.tals.length y3] 27) = WB) := ⟨_, rfl⟩
            rw [HWB.out]
            rw [HWB.out] at L4 M4 HB4
            clear m3 m4 n1 z1 R4 N4 Y4
            go_loopw [54] (fun i wr => ∃ k : Nat, k ≤ X.lives.length ∧ i = .int .i64 k ∧ Hid (x ∉ X.lives.take k) ∧ Hid (Below WB.heap.size WB wr)) (fun i _ => X.lives.length - (intOf i).toNat)
            case atStart => exact ⟨0, Nat.zero_le _, rfl, by simp [Hid], hide (Below.refl _ _)⟩
            case round =>
              obtain ⟨k, hk, rfl, HNI, HBr⟩ := hrel
              obtain ⟨w6, rfl⟩ : ∃ w6, w6 = wr := ⟨wr, rfl⟩
              have M6 := hide (M4.out.below HBr.out (Nat.le_refl _))
              by_cases hlt : k < X.lives.length
              · obtain ⟨y, hy⟩ : ∃ y, X.lives[k]? = some y := ⟨_, List.getElem?_eq_getElem hlt⟩
                obtain ⟨b, off, rfl, d0, d1, d2, d3, d4⟩ := livesAt (L4.out.below HBr.out (Nat.le_refl _)) hy
                have hlt2 : (k : Int) < (X.lives.length : Int) := by omega
                have hbp := Below.plus (Below.refl w6.heap.size w6) (.cells #[.bool y.set, .int .i64 y.key, .int .i64 y.item, .int .i64 y.author, .int .i64 y.seq] 64)
                have M7 := hide (M6.out.below hbp (Nat.le_refl _))
                have HB7 := hide (below_step HBr.out hbp)
                have HMS := hide (mem_take_succ (x := x) hy)
                clear hbp M6
                have m0 := M7.out.get 0 rfl
                have m1 := M7.out.get 1 rfl
                have m2 := M7.out.get 2 rfl
                have m3 := M7.out.get 3 rfl
                have m4 := M7.out.get 4 rfl
                rcases live_ways y x with rfl | ⟨hne, hw⟩
                · go_wp2_with fail
                  go_ret
                  exact ⟨rfl, below_step HB4.out HB7.out⟩
                · have HNE := hide hne
                  have HF : Hid (x ∉ X.lives.take (k + 1)) := by
                    unfold Hid
                    rw [HMS.out]
                    rintro (h | h)
                    · exact HNI.out h
                    · exact HNE.out h.symm
                  clear hne
                  rcases hw with h1 | ⟨h1, h2 | ⟨h2, h3 | ⟨h3, h4 | ⟨h4, h5⟩⟩⟩⟩
                  all_goals
                    go_wp2_with fail
                    go_roundw
                    case rel => exact ⟨k + 1, by omega, by go_num, HF, HB7⟩
                    case measure => simp [intOf]; omega
              · have hkl : X.lives.take k = X.lives := List.take_of_length_le (by omega)
                rw [hkl] at HNI
                exact absurd HIN.out HNI.out
          · go_wp2_with fail
            go_ret
            exact ⟨rfl, HB4.out⟩
      · have hE' : (E != 0) = true := by simp [hE]
        clear hE
        go_wp2_with fail
        go_ret
        exact ⟨rfl, HB4.out⟩
theorem keeps_lawE (v xv uv : Value) (s : StS) (x : Live) (u : Upd) (w : World) (h : IsSt w v s) (hx : xv = .agg #[.bool x.set, .int .i64 x.key, .int .i64 x.item, .int .i64 x.author, .int .i64 x.seq]) (hu : IsUpd w uv u) :
    Calls Try.prog 8 #[v, xv, uv] w fun e w' => e = .returned (.bool true) ∧ Below w.heap.size w w' := by
  subst hx
  exact keeps_law v uv s x u w h hu
end Go.Proofs.Ytkhhifkihpfdhaa
