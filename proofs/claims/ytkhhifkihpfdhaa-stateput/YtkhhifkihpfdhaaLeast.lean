/- log.least: the place of the least author, of those that fit. -/
import Derived.Test.YtkhhifkihpfdhaaLogD
namespace Go.Proofs.Ytkhhifkihpfdhaa
open Go.RowKit

/-- Does u fit, where so much was seen? -/
def fitsB (u : Upd) (xs : List Int) : Bool := misfitU u xs == 0
set_option maxRecDepth 100000 in
set_option maxHeartbeats 1000000 in
theorem fits_fn (v : Value) (u : Upd) (g : Nat) (cv : Value) (xs : List Int) (w : World) (h : IsUpd w v u) (hg : Box w g [cv] 23) (hc : Row w cv xs) (hf : FitU u) :
    Calls Try.prog 59 #[v, .pointer (some ⟨g, 0, none⟩)] w fun e w' => e = .returned (.bool (fitsB u xs)) ∧ Below w.heap.size w w' := by
  have hin := h
  obtain ⟨sv, rfl, hs⟩ := h
  obtain ⟨a5, cap5, rfl, -, -, -⟩ := id hs
  obtain ⟨a', cap', rfl, -, -, -⟩ := id hc
  have U0 := hide (hin.below (Below.plus (Below.refl w.heap.size w) (.cells #[.int .i64 u.author, .slice a5 u.seen.length cap5, .int .i64 u.kind, .int .i64 u.key, .int .i64 u.item] 47)) (Nat.le_refl _))
  have C0 := hide (hc.alloc (.cells #[.int .i64 u.author, .slice a5 u.seen.length cap5, .int .i64 u.kind, .int .i64 u.key, .int .i64 u.item] 47))
  have G0 := hide (hg.plus (.cells #[.int .i64 u.author, .slice a5 u.seen.length cap5, .int .i64 u.kind, .int .i64 u.key, .int .i64 u.item] 47))
  have c0 := G0.out.get 0 rfl
  have HB0 := hide (Below.plus (Below.refl w.heap.size w) (.cells #[.int .i64 u.author, .slice a5 u.seen.length cap5, .int .i64 u.kind, .int .i64 u.key, .int .i64 u.item] 47))
  clear hin hs hc hg
  obtain ⟨m, HM⟩ : ∃ m, Hid (misfitU u xs = m) := ⟨_, rfl⟩
  have HF : Hid (fitsB u xs = (m == 0)) := by unfold Hid fitsB; rw [HM.out]
  rw [HF.out]
  go_enter Try.func59, Try.ntmps59
  go_wp2_with fail
  refine (misfit_upd _ _ u xs _ U0.out C0.out hf).mono ?_
  rintro e w1 ⟨rfl, hb⟩
  rw [HM.out]
  have HB1 := hide (below_step HB0.out hb)
  clear hb HB0 U0 C0 G0 c0
  go_wp2_with fail
  go_ret
  exact ⟨rfl, HB1.out⟩

/-- The best place yet, behind the first k. -/
def bestL (xs : List Int) (l : List Upd) : Nat → Nat
  | 0 => 0
  | k + 1 => match l[k]?, l[bestL xs l k]? with
    | some u, some v => if u.author < v.author ∧ fitsB u xs = true then k else bestL xs l k
    | _, _ => bestL xs l k
def leastL (xs : List Int) (l : List Upd) : Nat := bestL xs l l.length
theorem bestL_lt (xs : List Int) (l : List Upd) (h0 : 0 < l.length) : ∀ k, k ≤ l.length → bestL xs l k < l.length
  | 0, _ => h0
  | k + 1, hk => by
    have ih := bestL_lt xs l h0 k (by omega)
    unfold bestL
    split
    · split
      · omega
      · exact ih
    · exact ih
theorem bestL_step {xs : List Int} {l : List Upd} {k : Nat} {u v : Upd} (hu : l[k]? = some u) (hv : l[bestL xs l k]? = some v) : bestL xs l (k + 1) = if u.author < v.author ∧ fitsB u xs = true then k else bestL xs l k := by
  rw [bestL, hu, hv]

section
variable {P : Program} {ops : Array Oper} {Q : Exit → Act → World → Prop} {md : Region.Mode} {S : World → Prop}
/-- An operation of a region that draws: it yields its value wherever S holds. -/
theorem take_yes (i d : Nat) (v : Value) {oi : Oper} {fuel : Nat} {listed : Array Bool} {a : Act} {w : World} (hi : ops[i]? = some oi) (hd : oi.dst = some d)
    (hs : Region.noSelect ops = true) (hf : Region.free md ops listed i = true) (hr : (Region.ready md ops listed).contains i = true)
    (hQ : ∀ c a w, Q (.panic c) (a.put oi.dst v) w → Q (.panic c) a w) (hw : Region.wanted oi (yielded ops a.tmps) = true) (hy : ∀ w, S w → (execOp a.eval oi).run P w = .ok (.value v) w) (hS : S w)
    (h : wpAnyH P md ops Q S fuel (listed.setIfInBounds i true) (a.put (some d) v) w) : wpAnyH P md ops Q S (fuel + 1) listed a w :=
  wpAnyH_take hi hs hf hr hQ (Or.inl ⟨hw, hy⟩) hS (by rw [hd]; exact h)
/-- .. it is guarded, and not wanted. -/
theorem take_skip (i d : Nat) {oi : Oper} {fuel : Nat} {listed : Array Bool} {a : Act} {w : World} (hi : ops[i]? = some oi) (hd : oi.dst = some d)
    (hs : Region.noSelect ops = true) (hf : Region.free md ops listed i = true) (hr : (Region.ready md ops listed).contains i = true)
    (hQ : ∀ c a w, Q (.panic c) (a.put oi.dst undef) w → Q (.panic c) a w) (hw : Region.wanted oi (yielded ops a.tmps) = false) (hS : S w)
    (h : wpAnyH P md ops Q S fuel (listed.setIfInBounds i true) (a.put (some d) undef) w) : wpAnyH P md ops Q S (fuel + 1) listed a w :=
  wpAnyH_take hi hs hf hr hQ (Or.inr ⟨hw, rfl⟩) hS (by rw [hd]; exact h)
end

set_option maxRecDepth 100000 in
set_option maxHeartbeats 4000000 in
theorem least_log (lv cv : Value) (l : List Upd) (g : Nat) (xs : List Int) (w : World) (hl : LogV w lv l) (hg : Box w g [cv] 23) (hc : Row w cv xs) (hs : ∀ u ∈ l, Small u) (hn : l.length ≤ 1000000) (hpos : 0 < l.length) :
    Calls Try.prog 62 #[lv, .func (Fn.func 59) #[] #[.pointer (some ⟨g, 0, none⟩)]] w fun e w' => e = .returned (.int .i64 (leastL xs l : Nat)) ∧ Below w.heap.size w w' := by
  obtain ⟨a', cap', rfl, -, -, -⟩ := id hl
  have HL := hide hl
  have HG := hide hg
  have HC := hide hc
  have HS := hide hs
  clear hl hg hc hs
  go_enter Try.func62, Try.ntmps62
  go_wp2_with fail
  go_loopw [5, 10] (fun o i wr => ∃ k : Nat, k ≤ l.length ∧ i = .int .i64 k ∧ o = .int .i64 (bestL xs l k : Nat) ∧ Hid (Below w.heap.size w wr)) (fun _ i _ => l.length - (intOf i).toNat)
  case atStart => exact ⟨0, Nat.zero_le _, rfl, rfl, Below.refl _ _⟩
  case round =>
    obtain ⟨k, hk, rfl, rfl, HB0⟩ := hrel
    obtain ⟨w0, rfl⟩ : ∃ w0, w0 = wr := ⟨wr, rfl⟩
    by_cases hlt : k < l.length
    · obtain ⟨u, hu⟩ : ∃ u, l[k]? = some u := ⟨_, List.getElem?_eq_getElem hlt⟩
      have hBl := bestL_lt xs l hpos k hk
      obtain ⟨v, hv⟩ : ∃ v, l[bestL xs l k]? = some v := ⟨_, List.getElem?_eq_getElem hBl⟩
      have HT := hide (bestL_step hu hv)
      obtain ⟨B, HBB⟩ : ∃ B, Hid (bestL xs l k = B) := ⟨_, rfl⟩
      rw [HBB.out] at hBl hv HT ⊢
      have L0 := HL.out.below HB0.out (Nat.le_refl _)
      obtain ⟨b, off, a5, cap5, rfl, d0, d1, d2, d3, d4, -, hU⟩ := L0.at hu
      obtain ⟨b', off', a6, cap6, e, d5, -⟩ := L0.at hv
      simp only [Option.some.injEq, Addr.mk.injEq, and_true] at e
      obtain ⟨rfl, rfl⟩ := e
      have hlt' : (k : Int) < (l.length : Int) := by omega
      have hBl' : (B : Int) < (l.length : Int) := by omega
      obtain ⟨W0, HW0⟩ : ∃ W0, Hid (w0.alloc (.cells #[.int .i64 u.author, .slice a5 u.seen.length cap5, .int .i64 u.kind, .int .i64 u.key, .int .i64 u.item] 47) = W0) := ⟨_, rfl⟩
      have HB1 : Hid (Below w0.heap.size w0 W0) := by rw [← HW0.out]; exact Below.plus (Below.refl w0.heap.size w0) _
      have HBox : Hid (Box W0 w0.heap.size [.int .i64 u.author, .slice a5 u.seen.length cap5, .int .i64 u.kind, .int .i64 u.key, .int .i64 u.item] 47) := by rw [← HW0.out]; exact Box.new _ _ _
      have HD5 : Hid (W0.cell? ⟨b, off + B * 5, none⟩ = some (.int .i64 v.author)) := (HB1.out.cell (p := ⟨b, _, none⟩) (World.block_lt_of_cell? w0 _ d5)).trans d5
      obtain ⟨g0, HG0⟩ : ∃ g0, Hid (w0.heap.size = g0) := ⟨_, rfl⟩
      rw [HG0.out] at HBox
      have HK : Hid (∀ w', Grew W0 w' → w'.cell? ⟨g0, 0, none⟩ = some (.int .i64 u.author) ∧ w'.cell? ⟨g0, 1, none⟩ = some (.slice a5 u.seen.length cap5) ∧ w'.cell? ⟨g0, 2, none⟩ = some (.int .i64 u.kind) ∧ w'.cell? ⟨g0, 3, none⟩ = some (.int .i64 u.key) ∧ w'.cell? ⟨g0, 4, none⟩ = some (.int .i64 u.item) ∧ w'.cell? ⟨b, off + B * 5, none⟩ = some (.int .i64 v.author)) := fun w' hg => by
        obtain ⟨q0, q1, q2, q3, q4⟩ := (HBox.out.below hg (Nat.le_refl _)).reads
        exact ⟨q0, q1, q2, q3, q4, (hg.cell (p := ⟨b, _, none⟩) (World.block_lt_of_cell? W0 _ HD5.out)).trans HD5.out⟩
      obtain ⟨hf, -⟩ := HS.out u (List.mem_of_getElem? hu)
      obtain ⟨s, HSF⟩ : ∃ s, Hid (fitsB u xs = s) := ⟨_, rfl⟩
      have HFN : Hid (∀ w', Grew W0 w' → Calls Try.prog 59 #[.agg #[.int .i64 u.author, .slice a5 u.seen.length cap5, .int .i64 u.kind, .int .i64 u.key, .int .i64 u.item], .pointer (some ⟨g, 0, none⟩)] w' fun e w'' => e = .returned (.bool s) ∧ Grew W0 w'') := fun w' hgr => by
        have hb2 := below_step HB0.out (below_step HB1.out hgr)
        refine (fits_fn _ u g cv xs w' (hU.below (below_step HB1.out hgr) (Nat.le_refl _)) (HG.out.below hb2 (Nat.le_refl _)) (HC.out.below hb2 (Nat.le_refl _)) hf).mono ?_
        rintro e w'' ⟨rfl, hb⟩
        exact ⟨by rw [HSF.out], grew_step hgr hb⟩
      have HBE : Hid (∀ w', Grew W0 w' → Below w.heap.size w w') := fun w' hgr => below_step HB0.out (below_step HB1.out hgr)
      clear L0 hU hf HB1 HBox HD5
      rw [HSF.out] at HT
      go_upto_region 5 with fail
      rw [HW0.out, HG0.out]
      by_cases hau : u.author < v.author
      · have hd : decide (u.author < v.author) = true := by simp [hau]
        go_cut [27] (fun c wx => c = .bool s ∧ Hid (Grew W0 wx))
        case first =>
          go_region_held3 (fun w' => w'.cell? ⟨g0, 0, none⟩ = some (.int .i64 u.author) ∧ w'.cell? ⟨g0, 1, none⟩ = some (.slice a5 u.seen.length cap5) ∧ w'.cell? ⟨g0, 2, none⟩ = some (.int .i64 u.kind) ∧ w'.cell? ⟨g0, 3, none⟩ = some (.int .i64 u.key) ∧ w'.cell? ⟨g0, 4, none⟩ = some (.int .i64 u.item) ∧ w'.cell? ⟨b, off + B * 5, none⟩ = some (.int .i64 v.author))
            ((refine HK.out _ ?_; (first | assumption | exact grew_drew (grew_refl _) | exact grew_drew (by assumption))))
            (first | (go_at_call 59; refine (HFN.out _ ?_).mono ?_; (first | assumption | exact grew_drew (grew_refl _) | exact grew_drew (by assumption)); rintro e w' ⟨rfl, hgr⟩))
          all_goals (go_wp2_with fail; go_meet; exact ⟨by simp, by assumption⟩)
        case rest =>
          obtain ⟨rfl, HGR⟩ := hcut
          cases s
          · have hT : bestL xs l (k + 1) = B := by rw [HT.out, if_neg (by simp)]
            go_wp2_with fail
            go_roundw
            case rel => exact ⟨k + 1, by omega, by go_num, by rw [hT], HBE.out _ HGR.out⟩
            case measure => simp [intOf]; omega
          · have hT : bestL xs l (k + 1) = k := by rw [HT.out, if_pos ⟨hau, rfl⟩]
            go_wp2_with fail
            go_roundw
            case rel => exact ⟨k + 1, by omega, by go_num, by rw [hT], HBE.out _ HGR.out⟩
            case measure => simp [intOf]; omega
      · have hd : decide (u.author < v.author) = false := by simp; omega
        have hT : bestL xs l (k + 1) = B := by rw [HT.out, if_neg (fun h => hau h.1)]
        go_cut [27] (fun c wx => c = .bool false ∧ Hid (Grew W0 wx))
        case first =>
          refine wp_region_held_drew (S := fun w' => w'.cell? ⟨g0, 0, none⟩ = some (.int .i64 u.author) ∧ w'.cell? ⟨g0, 1, none⟩ = some (.slice a5 u.seen.length cap5) ∧ w'.cell? ⟨g0, 2, none⟩ = some (.int .i64 u.kind) ∧ w'.cell? ⟨g0, 3, none⟩ = some (.int .i64 u.key) ∧ w'.cell? ⟨g0, 4, none⟩ = some (.int .i64 u.item) ∧ w'.cell? ⟨b, off + B * 5, none⟩ = some (.int .i64 v.author)) (by kernel_rfl) (HK.out _ (grew_drew (grew_refl _))) (fun hHeld => ?_)
          refine take_yes 0 15 (.pointer (some ⟨g0, 0, none⟩)) rfl rfl (by kernel_rfl) (by kernel_rfl) (by kernel_rfl) (fun _ _ _ h => h) rfl (by intro w hSw; (try dsimp only at hSw); go_simp) (by assumption) ?_
          simp only [Act.put, List.setIfInBounds_toArray, List.set_cons_zero, List.set_cons_succ]
          refine take_yes 1 16 (.int .i64 u.author) rfl rfl (by kernel_rfl) (by kernel_rfl) (by kernel_rfl) (fun _ _ _ h => h) rfl (by intro w hSw; (try dsimp only at hSw); go_simp) (by assumption) ?_
          simp only [Act.put, List.setIfInBounds_toArray, List.set_cons_zero, List.set_cons_succ]
          refine take_yes 2 17 (.slice (some ⟨b, off, none⟩) l.length cap') rfl rfl (by kernel_rfl) (by kernel_rfl) (by kernel_rfl) (fun _ _ _ h => h) rfl (by intro w hSw; (try dsimp only at hSw); go_simp) (by assumption) ?_
          simp only [Act.put, List.setIfInBounds_toArray, List.set_cons_zero, List.set_cons_succ]
          refine take_yes 3 18 (.int .i64 (B : Int)) rfl rfl (by kernel_rfl) (by kernel_rfl) (by kernel_rfl) (fun _ _ _ h => h) rfl (by intro w hSw; (try dsimp only at hSw); go_simp) (by assumption) ?_
          simp only [Act.put, List.setIfInBounds_toArray, List.set_cons_zero, List.set_cons_succ]
          refine take_yes 4 19 (.pointer (some ⟨b, off + B * 5, none⟩)) rfl rfl (by kernel_rfl) (by kernel_rfl) (by kernel_rfl) (fun _ _ _ h => h) rfl (by intro w hSw; (try dsimp only at hSw); go_simp) (by assumption) ?_
          simp only [Act.put, List.setIfInBounds_toArray, List.set_cons_zero, List.set_cons_succ]
          refine take_yes 5 20 (.pointer (some ⟨b, off + B * 5, none⟩)) rfl rfl (by kernel_rfl) (by kernel_rfl) (by kernel_rfl) (fun _ _ _ h => h) rfl (by intro w hSw; (try dsimp only at hSw); go_simp) (by assumption) ?_
          simp only [Act.put, List.setIfInBounds_toArray, List.set_cons_zero, List.set_cons_succ]
          refine take_yes 6 21 (.int .i64 v.author) rfl rfl (by kernel_rfl) (by kernel_rfl) (by kernel_rfl) (fun _ _ _ h => h) rfl (by intro w hSw; (try dsimp only at hSw); go_simp) (by assumption) ?_
          simp only [Act.put, List.setIfInBounds_toArray, List.set_cons_zero, List.set_cons_succ]
          refine take_yes 7 22 (.bool false) rfl rfl (by kernel_rfl) (by kernel_rfl) (by kernel_rfl) (fun _ _ _ h => h) rfl (by intro w hSw; (try dsimp only at hSw); go_simp) (by assumption) ?_
          simp only [Act.put, List.setIfInBounds_toArray, List.set_cons_zero, List.set_cons_succ]
          refine take_yes 8 23 (.bool false) rfl rfl (by kernel_rfl) (by kernel_rfl) (by kernel_rfl) (fun _ _ _ h => h) rfl (by intro w hSw; (try dsimp only at hSw); go_simp) (by assumption) ?_
          simp only [Act.put, List.setIfInBounds_toArray, List.set_cons_zero, List.set_cons_succ]
          refine take_skip 9 24 rfl rfl (by kernel_rfl) (by kernel_rfl) (by kernel_rfl) (fun _ _ _ h => h) rfl (by assumption) ?_
          simp only [Act.put, List.setIfInBounds_toArray, List.set_cons_zero, List.set_cons_succ]
          refine take_skip 10 25 rfl rfl (by kernel_rfl) (by kernel_rfl) (by kernel_rfl) (fun _ _ _ h => h) rfl (by assumption) ?_
          simp only [Act.put, List.setIfInBounds_toArray, List.set_cons_zero, List.set_cons_succ]
          refine take_skip 11 26 rfl rfl (by kernel_rfl) (by kernel_rfl) (by kernel_rfl) (fun _ _ _ h => h) rfl (by assumption) ?_
          simp only [Act.put, List.setIfInBounds_toArray, List.set_cons_zero, List.set_cons_succ]
          refine take_yes 12 27 (.bool false) rfl rfl (by kernel_rfl) (by kernel_rfl) (by kernel_rfl) (fun _ _ _ h => h) rfl (by intro w hSw; (try dsimp only at hSw); go_simp) (by assumption) ?_
          simp only [Act.put, List.setIfInBounds_toArray, List.set_cons_zero, List.set_cons_succ]
          refine wpAnyH_done (by kernel_rfl) ?_ _
          go_wp2_with fail
          go_meet
          exact ⟨by simp, grew_drew (grew_refl _)⟩
        case rest =>
          obtain ⟨rfl, HGR⟩ := hcut
          go_wp2_with fail
          go_roundw
          case rel => exact ⟨k + 1, by omega, by go_num, by rw [hT], HBE.out _ HGR.out⟩
          case measure => simp [intOf]; omega
    · have hlt' : ¬ (k : Int) < (l.length : Int) := by omega
      have hkl : k = l.length := by omega
      go_wp2_with fail
      go_ret
      exact ⟨rfl, HB0.out⟩
end Go.Proofs.Ytkhhifkihpfdhaa
