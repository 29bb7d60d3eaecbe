/- log.raise: of each author the greatest entry yet, in the first clock's memory. -/
import Derived.Test.YtiomdleoafakkaaLogD
import Derived.Test.YtiomdleoafakkaaGrowAt
namespace Go.Proofs.Ytiomdleoafakkaa
open Go.RowKit

/-- The greater entry at the first k places. -/
def updM (xs ys : List Int) : Nat → List Int
  | 0 => xs
  | k + 1 => (updM xs ys k).set k (joinI ((updM xs ys k).getD k 0) (ys.getD k 0))
theorem updM_length (xs ys : List Int) : ∀ k, (updM xs ys k).length = xs.length
  | 0 => rfl
  | k + 1 => by rw [updM, List.length_set, updM_length xs ys k]
def raiseC (xs ys : List Int) : List Int := updM xs ys (min xs.length ys.length) ++ ys.drop (min xs.length ys.length)

theorem addr_add' (b off j : Nat) : (⟨b, off, none⟩ : Addr).add j = ⟨b, off + j, none⟩ := by
  simp only [Addr.add]
  split
  · next e => rw [e]; rfl
  · rfl
theorem owned_form {w : World} {B n : Nat} {e : TypeId} {v : Value} {xs : List Value} {size : Nat} (h : w.ownsRow B e size v n xs) (hn : 0 < n) : ∃ g cap, v = .slice (some ⟨g, 0, none⟩) n cap := by
  rcases h.2 with ⟨rfl, h0⟩ | ⟨g, cap, cur, rfl, -⟩
  · omega
  · exact ⟨g, cap, rfl⟩

theorem row_dropA {w : World} {a : Option Addr} {n c k : Nat} {ys : List Int} (h : Row w (.slice a n c) ys) (hk : k ≤ ys.length) : Row w (.slice (Option.map (fun x => x.add k) a) (n - k) (c - k)) (ys.drop k) := by
  obtain ⟨a2, c2, hv, h1, h2, h3⟩ := h
  simp only [Value.slice.injEq] at hv
  obtain ⟨rfl, rfl, rfl⟩ := hv
  refine ⟨_, c - k, by rw [List.length_drop], by rw [List.length_drop]; omega, by omega, fun i hi => ?_⟩
  rw [List.length_drop] at hi
  obtain ⟨b, off, rfl, hc⟩ := h3 (k + i) (by omega)
  refine ⟨b, off + k, by simp [addr_add'], ?_⟩
  rw [Nat.add_assoc, hc]
  simp [List.getD, List.getElem?_drop]
theorem row_dropB {w : World} {a : Option Addr} {n c k : Nat} {ys : List Int} (h : Row w (.slice a n c) ys) (hk : c ≤ k) : Row w (.slice a (n - k) 0) (ys.drop k) := by
  obtain ⟨a2, c2, hv, h1, h2, h3⟩ := h
  simp only [Value.slice.injEq] at hv
  obtain ⟨rfl, rfl, rfl⟩ := hv
  have : ys.drop k = [] := List.drop_eq_nil_of_le (by omega)
  rw [this, show ys.length - k = 0 by omega]
  exact ⟨a, 0, rfl, by simp, by unfold maxLen; omega, fun i hi => by simp at hi⟩

set_option maxRecDepth 100000 in
set_option maxHeartbeats 2000000 in
theorem raise_log (v u : Value) (xs ys : List Int) (B : Nat) (w : World) (hv : Own w B v xs) (hu : Row w u ys) (hst : ∀ w', Below B w w' → Row w' u ys) (hB : B ≤ w.heap.size) (hx : xs.length ≤ 1000) (hy : ys.length ≤ 1000) :
    Calls Try.prog 103 #[v, u] w fun e w' => ∃ r, e = .returned r ∧ Own w' B r (raiseC xs ys) ∧ w.grownBy w' v.ownBlock ∧ (r.ownBlock = v.ownBlock ∨ ∃ g, r.ownBlock = some g ∧ w.heap.size ≤ g) := by
  obtain ⟨i0, hi, hz0, hz1, hz2⟩ := info_parts Try.infoInt
  obtain ⟨K, HK⟩ : ∃ K, Hid (min xs.length ys.length = K) := ⟨_, rfl⟩
  have HRC : Hid (raiseC xs ys = updM xs ys K ++ ys.drop K) := by unfold Hid raiseC; rw [HK.out]
  have hKx : K ≤ xs.length := by have := HK.out; omega
  have hKy : K ≤ ys.length := by have := HK.out; omega
  have HV := hide hv
  have HST := hide hst
  obtain ⟨a, cap, rfl, -, -, -⟩ := id hv.row
  obtain ⟨a', cap', rfl, hcy, hcm, -⟩ := id hu
  clear hv hu hst
  have hmin : ((xs.length : Int) ≤ (ys.length : Int) ∧ K = xs.length) ∨ (¬ (xs.length : Int) ≤ (ys.length : Int) ∧ K = ys.length) := by have := HK.out; omega
  have hKc : (K : Int) ≤ (cap' : Int) := by omega
  go_enter Try.func103, Try.ntmps103
  rcases hmin with ⟨hm, hK⟩ | ⟨hm, hK⟩
  · have HKK := hide hK
    have HW0 := hide (World.grownBy.refl w (Value.ownBlock (.slice a xs.length cap)))
    go_wp2_with fail
    go_loopw [17] (fun i wr => ∃ k : Nat, k ≤ xs.length ∧ i = .int .i64 k ∧ Hid (wr.ownsRow B 3 1 (.slice a xs.length cap) xs.length ((updM xs ys k).map (Value.int .i64))) ∧ Hid (w.grownBy wr (Value.ownBlock (.slice a xs.length cap)))) (fun i _ => xs.length - (intOf i).toNat)
    case atStart => exact ⟨0, Nat.zero_le _, rfl, HV, HW0⟩
    case round =>
      obtain ⟨k, hk, rfl, HO, HG⟩ := hrel
      have HBB := hide ((Below.refl B w).grown HG.out hB (fun k e => (HV.out.lt k e).1))
      have hrow := HST.out wr HBB.out
      have HB0 := hide hB
      clear HW0 hB
      by_cases hlt : k < xs.length
      · have hkx : k < xs.length := by omega
        have hky : k < ys.length := by omega
        obtain ⟨g, cap2, hform⟩ := owned_form HO.out (by omega)
        simp only [Value.slice.injEq] at hform
        obtain ⟨rfl, -, rfl⟩ := hform
        obtain ⟨y, HY⟩ : ∃ y, Hid ((updM xs ys k).getD k 0 = y) := ⟨_, rfl⟩
        obtain ⟨z, HZ⟩ : ∃ y, Hid (ys.getD k 0 = y) := ⟨_, rfl⟩
        have hkM : k < (updM xs ys k).length := by rw [updM_length]; exact hkx
        have c1 : wr.cell? ⟨g, k, none⟩ = some (.int .i64 y) := by
          rw [HO.out.cellAt k (by omega)]; simp [hkM, ← HY.out]
        have c2 : wr.frozen? ⟨g, k, none⟩ = false := HO.out.frozenAt k
        obtain ⟨a2, cap2, hv2, -, -, hcell⟩ := hrow
        obtain ⟨b, off, rfl, hc3⟩ := hcell k hky
        simp only [Value.slice.injEq, true_and] at hv2
        obtain ⟨rfl, rfl⟩ := hv2
        rw [HZ.out] at hc3
        clear hcell hkM
        have h1 : (k : Int) < (xs.length : Int) := by omega
        have h2 : (k : Int) < (ys.length : Int) := by omega
        have HN := hide (HO.out.stored k (.int .i64 (joinI y z)))
        have HNW := hide (grown_trans HG.out (grown_setCell wr g k (.int .i64 (joinI y z))))
        have HUP : Hid (updM xs ys (k + 1) = (updM xs ys k).set k (joinI y z)) := by unfold Hid; rw [updM, HY.out, HZ.out]
        obtain ⟨j, HJ⟩ : ∃ j, Hid (joinI y z = j) := ⟨_, rfl⟩
        rw [HJ.out] at HN HNW HUP
        rcases (show y < z ∨ y = z ∨ z < y by omega) with hyz | hyz | hyz
        all_goals
          (try subst hyz)
          go_wp2_with fail
          all_goals
            go_roundw
            case rel =>
              refine ⟨k + 1, by omega, by go_num, ?_, ?_⟩
              · have := HJ.out
                have hN := HN.out.1
                unfold joinI at this
                (first
                  | (rw [if_pos (by omega)] at this; subst this; rw [HUP.out]; unfold Hid; rw [List.map_set]; exact hN)
                  | (rw [if_neg (by omega)] at this; subst this; rw [HUP.out]; unfold Hid; rw [List.map_set]; exact hN))
              · have := HJ.out
                have hN := HNW.out
                unfold joinI at this
                (first
                  | (rw [if_pos (by omega)] at this; subst this; exact hN)
                  | (rw [if_neg (by omega)] at this; subst this; exact hN))
            case measure => simp [intOf]; omega
      · obtain rfl : k = xs.length := by omega
        obtain ⟨D, HD⟩ : ∃ D, Hid (ys.drop xs.length = D) := ⟨_, rfl⟩
        obtain ⟨CS, HCS⟩ : ∃ CS, Hid (D.map (Value.int .i64) = CS) := ⟨_, rfl⟩
        obtain ⟨m, HM⟩ : ∃ m, Hid (D.length = m) := ⟨_, rfl⟩
        have hml : m ≤ 1000 := by rw [← HM.out, ← HD.out, List.length_drop]; omega
        have HSRC : Hid (Src Try.prog 1 23 (.slice (if cap' = xs.length then a' else Option.map (fun x => x.add xs.length) a') (ys.length-xs.length) (cap' - xs.length)) m CS wr) := by
          rw [← HM.out, ← HCS.out, ← HD.out]
          refine Row.src ?_ Try.underlying23
          have hsub : (ys.length-xs.length) = ys.length - xs.length := by omega
          split
          · next h => rw [hsub, show cap' - xs.length = 0 by omega]; exact row_dropB hrow (by omega)
          · rw [hsub]; exact row_dropA hrow (by omega)
        go_wp2_with (at_builtin; refine wpList_append_own_at _ rfl (.tmp 32) (.tmp 35) 23 23 rfl B 3 i0 (.int .i64 0) 1 8 Try.underlying23 hi hz0 hz1 hz2 rfl _ _ _ rfl HO.out _ rfl m CS HSRC.out ?c3 ?c4 ?c5 ?_)
        case c3 => unfold maxLen; omega
        case c4 => omega
        case c5 => exact Nat.le_trans HB0.out HG.out.size
        all_goals
          intro v' w1 hown' hgrow hat
          have HAT : Hid (v'.ownBlock = (Value.slice a xs.length cap).ownBlock ∨ ∃ g, v'.ownBlock = some g ∧ w.heap.size ≤ g) := or_map hat id (fun h => ⟨_, h, HG.out.size⟩)
          clear hat
          have HOWN : Hid (Own w1 B v' (raiseC xs ys)) := by
            rw [HRC.out, HKK.out]
            unfold Hid Own
            rw [List.length_append, updM_length, List.map_append, HD.out, HCS.out, HM.out]
            exact hown'
          have HGG := hide (grown_trans HG.out hgrow)
          clear hown' hgrow
          go_wp2_with fail
          go_ret
          exact ⟨_, rfl, HOWN.out, HGG.out, HAT.out⟩
  · have HKK := hide hK
    have HW0 := hide (World.grownBy.refl w (Value.ownBlock (.slice a xs.length cap)))
    go_wp2_with fail
    go_loopw [17] (fun i wr => ∃ k : Nat, k ≤ ys.length ∧ i = .int .i64 k ∧ Hid (wr.ownsRow B 3 1 (.slice a xs.length cap) xs.length ((updM xs ys k).map (Value.int .i64))) ∧ Hid (w.grownBy wr (Value.ownBlock (.slice a xs.length cap)))) (fun i _ => ys.length - (intOf i).toNat)
    case atStart => exact ⟨0, Nat.zero_le _, rfl, HV, HW0⟩
    case round =>
      obtain ⟨k, hk, rfl, HO, HG⟩ := hrel
      have HBB := hide ((Below.refl B w).grown HG.out hB (fun k e => (HV.out.lt k e).1))
      have hrow := HST.out wr HBB.out
      have HB0 := hide hB
      clear HW0 hB
      by_cases hlt : k < ys.length
      · have hkx : k < xs.length := by omega
        have hky : k < ys.length := by omega
        obtain ⟨g, cap2, hform⟩ := owned_form HO.out (by omega)
        simp only [Value.slice.injEq] at hform
        obtain ⟨rfl, -, rfl⟩ := hform
        obtain ⟨y, HY⟩ : ∃ y, Hid ((updM xs ys k).getD k 0 = y) := ⟨_, rfl⟩
        obtain ⟨z, HZ⟩ : ∃ y, Hid (ys.getD k 0 = y) := ⟨_, rfl⟩
        have hkM : k < (updM xs ys k).length := by rw [updM_length]; exact hkx
        have c1 : wr.cell? ⟨g, k, none⟩ = some (.int .i64 y) := by
          rw [HO.out.cellAt k (by omega)]; simp [hkM, ← HY.out]
        have c2 : wr.frozen? ⟨g, k, none⟩ = false := HO.out.frozenAt k
        obtain ⟨a2, cap2, hv2, -, -, hcell⟩ := hrow
        obtain ⟨b, off, rfl, hc3⟩ := hcell k hky
        simp only [Value.slice.injEq, true_and] at hv2
        obtain ⟨rfl, rfl⟩ := hv2
        rw [HZ.out] at hc3
        clear hcell hkM
        have h1 : (k : Int) < (xs.length : Int) := by omega
        have h2 : (k : Int) < (ys.length : Int) := by omega
        have HN := hide (HO.out.stored k (.int .i64 (joinI y z)))
        have HNW := hide (grown_trans HG.out (grown_setCell wr g k (.int .i64 (joinI y z))))
        have HUP : Hid (updM xs ys (k + 1) = (updM xs ys k).set k (joinI y z)) := by unfold Hid; rw [updM, HY.out, HZ.out]
        obtain ⟨j, HJ⟩ : ∃ j, Hid (joinI y z = j) := ⟨_, rfl⟩
        rw [HJ.out] at HN HNW HUP
        rcases (show y < z ∨ y = z ∨ z < y by omega) with hyz | hyz | hyz
        all_goals
          (try subst hyz)
          go_wp2_with fail
          all_goals
            go_roundw
            case rel =>
              refine ⟨k + 1, by omega, by go_num, ?_, ?_⟩
              · have := HJ.out
                have hN := HN.out.1
                unfold joinI at this
                (first
                  | (rw [if_pos (by omega)] at this; subst this; rw [HUP.out]; unfold Hid; rw [List.map_set]; exact hN)
                  | (rw [if_neg (by omega)] at this; subst this; rw [HUP.out]; unfold Hid; rw [List.map_set]; exact hN))
              · have := HJ.out
                have hN := HNW.out
                unfold joinI at this
                (first
                  | (rw [if_pos (by omega)] at this; subst this; exact hN)
                  | (rw [if_neg (by omega)] at this; subst this; exact hN))
            case measure => simp [intOf]; omega
      · obtain rfl : k = ys.length := by omega
        obtain ⟨D, HD⟩ : ∃ D, Hid (ys.drop ys.length = D) := ⟨_, rfl⟩
        obtain ⟨CS, HCS⟩ : ∃ CS, Hid (D.map (Value.int .i64) = CS) := ⟨_, rfl⟩
        obtain ⟨m, HM⟩ : ∃ m, Hid (D.length = m) := ⟨_, rfl⟩
        have hml : m ≤ 1000 := by rw [← HM.out, ← HD.out, List.length_drop]; omega
        have HSRC : Hid (Src Try.prog 1 23 (.slice (if cap' = ys.length then a' else Option.map (fun x => x.add ys.length) a') 0 (cap' - ys.length)) m CS wr) := by
          rw [← HM.out, ← HCS.out, ← HD.out]
          refine Row.src ?_ Try.underlying23
          have hsub : 0 = ys.length - ys.length := by omega
          split
          · next h => rw [hsub, show cap' - ys.length = 0 by omega]; exact row_dropB hrow (by omega)
          · rw [hsub]; exact row_dropA hrow (by omega)
        go_wp2_with (at_builtin; refine wpList_append_own_at _ rfl (.tmp 32) (.tmp 35) 23 23 rfl B 3 i0 (.int .i64 0) 1 8 Try.underlying23 hi hz0 hz1 hz2 rfl _ _ _ rfl HO.out _ rfl m CS HSRC.out ?c3 ?c4 ?c5 ?_)
        case c3 => unfold maxLen; omega
        case c4 => omega
        case c5 => exact Nat.le_trans HB0.out HG.out.size
        all_goals
          intro v' w1 hown' hgrow hat
          have HAT : Hid (v'.ownBlock = (Value.slice a xs.length cap).ownBlock ∨ ∃ g, v'.ownBlock = some g ∧ w.heap.size ≤ g) := or_map hat id (fun h => ⟨_, h, HG.out.size⟩)
          clear hat
          have HOWN : Hid (Own w1 B v' (raiseC xs ys)) := by
            rw [HRC.out, HKK.out]
            unfold Hid Own
            rw [List.length_append, updM_length, List.map_append, HD.out, HCS.out, HM.out]
            exact hown'
          have HGG := hide (grown_trans HG.out hgrow)
          clear hown' hgrow
          go_wp2_with fail
          go_ret
          exact ⟨_, rfl, HOWN.out, HGG.out, HAT.out⟩
end Go.Proofs.Ytiomdleoafakkaa
