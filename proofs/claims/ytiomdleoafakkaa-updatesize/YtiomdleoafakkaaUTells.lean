/- The statement UpdateTells of the second chapter, as a walk: it answers true for every update, every number and any bytes. -/
import Derived.Test.YtiomdleoafakkaaParseRef
import Derived.Test.YtiomdleoafakkaaBytesRef
import Derived.Laws.BytesArg
namespace Go.Proofs.Ytiomdleoafakkaa
open Go.RowKit

/-- The bytes as a string. -/
theorem RowB.str {w : World} {v : Value} {bs : List Int} (h : RowB w v bs) : (convert 39 9 v).run Try.prog w = .ok (.string (strOfNums bs)) w := by
  obtain ⟨a, cap, rfl, -, -, -, hc⟩ := h
  cases a with
  | none =>
    have h0 : bs = [] := by
      cases bs with
      | nil => rfl
      | cons x xs => obtain ⟨_, _, h, _⟩ := hc 0 (by simp); cases h
    subst h0
    rw [run_convert_bytes_nil w 39 5 Try.underlying39 Try.underlying5 _ _ 9 Try.underlying9]
    rfl
  | some ad =>
    have hl : (loadCells ad bs.length).run Try.prog w = .ok (bs.map (Value.int .u8)).toArray w := by
      have := run_loadCells_list (P := Try.prog) w ad (bs.map (Value.int .u8)) (fun j x hj => by
        have hjl : j < bs.length := by
          rcases Nat.lt_or_ge j bs.length with h | h
          · exact h
          · rw [List.getElem?_eq_none (by simpa using h)] at hj; cases hj
        obtain ⟨b, off, e, hcell⟩ := hc j hjl
        simp only [Option.some.injEq] at e
        subst e
        have ha : (⟨b, off, none⟩ : Addr).add j = ⟨b, off + j, none⟩ := by
          simp only [Addr.add]
          split
          · next e => rw [e]; rfl
          · rfl
        rw [ha, hcell]
        rw [List.getElem?_map, List.getElem?_eq_getElem hjl] at hj
        simp only [Option.map_some, Option.some.injEq] at hj
        rw [← hj, getD_at hjl])
      simpa using this
    rw [run_convert_bytes_string w 39 9 5 _ _ _ Try.underlying39 Try.underlying5 Try.underlying9, run_bytesToString w ad _ cap bs hl, foldl_push_bytes]
    simp [strOfNums, ByteArray.empty, ByteArray.emptyWithCapacity]
    rfl

theorem grew_step {w w1 w2 : World} (h : Grew w w1) (hb : Below w1.heap.size w1 w2) : Grew w w2 := below_step h hb
theorem Box.reads {w : World} {g : Nat} {x0 x1 x2 x3 x4 : Value} {t : TypeId} (h : Box w g [x0, x1, x2, x3, x4] t) : w.cell? ⟨g, 0, none⟩ = some x0 ∧ w.cell? ⟨g, 1, none⟩ = some x1 ∧ w.cell? ⟨g, 2, none⟩ = some x2 ∧ w.cell? ⟨g, 3, none⟩ = some x3 ∧ w.cell? ⟨g, 4, none⟩ = some x4 :=
  ⟨h.get 0 rfl, h.get 1 rfl, h.get 2 rfl, h.get 3 rfl, h.get 4 rfl⟩

section
variable {P : Program} {ops : Array Oper} {Q : Exit → Act → World → Prop} {md : Region.Mode} {S : World → Prop}
/-- An operation of a region that draws: it yields its value wherever S holds. -/
theorem take_yes (i d : Nat) (v : Value) {oi : Oper} {fuel : Nat} {listed : Array Bool} {a : Act} {w : World} (hi : ops[i]? = some oi) (hd : oi.dst = some d)
    (hs : Region.noSelect ops = true) (hf : Region.free md ops listed i = true) (hr : (Region.ready md ops listed).contains i = true)
    (hQ : ∀ c a w, Q (.panic c) (a.put oi.dst v) w → Q (.panic c) a w) (hw : Region.wanted oi (yielded ops a.tmps) = true) (hy : ∀ w, S w → (execOp a.eval oi).run P w = .ok (.value v) w) (hS : S w)
    (h : wpAnyH P md ops Q S fuel (listed.setIfInBounds i true) (a.put (some d) v) w) : wpAnyH P md ops Q S (fuel + 1) listed a w :=
  wpAnyH_take hi hs hf hr hQ (Or.inl ⟨hw, hy⟩) hS (by rw [hd]; exact h)
/-- .. it is guarded, and not wanted. -/
theorem take_skip (i d : Nat) {oi : Oper} {fuel : Nat} {listed : Array Bool} {a : Act} {w : World} (hi : ops[i]? = some oi) (hd : oi.dst = some d)
    (hs : Region.noSelect ops = true) (hf : Region.free md ops listed i = true) (hr : (Region.ready md ops listed).contains i = true)
    (hQ : ∀ c a w, Q (.panic c) (a.put oi.dst undef) w → Q (.panic c) a w) (hw : Region.wanted oi (yielded ops a.tmps) = false) (hS : S w)
    (h : wpAnyH P md ops Q S fuel (listed.setIfInBounds i true) (a.put (some d) undef) w) : wpAnyH P md ops Q S (fuel + 1) listed a w :=
  wpAnyH_take hi hs hf hr hQ (Or.inr ⟨hw, rfl⟩) hS (by rw [hd]; exact h)
end

set_option maxRecDepth 100000 in
set_option maxHeartbeats 2000000 in
theorem utells_law (v bv : Value) (u : Upd) (n : Int) (bs : List Int) (w : World) (h : IsUpd w v u) (hbv : RowB w bv bs) :
    Calls Try.prog 7 #[v, .int .i64 n, bv] w fun e w' => e = .returned (.bool true) ∧ Below w.heap.size w w' := by
  have hin := h
  obtain ⟨sv, rfl, hs⟩ := h
  obtain ⟨a, cap, rfl, -, -, hc⟩ := id hs
  have HI := hide (hin.below (Below.plus (Below.refl w.heap.size w) (.cells #[.int .i64 u.author, .slice a u.seen.length cap, .int .i64 u.kind, .int .i64 u.key, .int .i64 u.item] 38)) (Nat.le_refl _))
  have HRB := hide (hbv.alloc (.cells #[.int .i64 u.author, .slice a u.seen.length cap, .int .i64 u.kind, .int .i64 u.key, .int .i64 u.item] 38))
  have HBox := hide (Box.new w [.int .i64 u.author, .slice a u.seen.length cap, .int .i64 u.kind, .int .i64 u.key, .int .i64 u.item] 38)
  have HB := hide (Below.plus (Below.refl w.heap.size w) (.cells #[.int .i64 u.author, .slice a u.seen.length cap, .int .i64 u.kind, .int .i64 u.key, .int .i64 u.item] 38))
  have HC := hide hc
  clear hin hs hbv hc
  obtain ⟨r, HR⟩ : ∃ r, Hid (wrongU u n = r) := ⟨_, rfl⟩
  obtain ⟨W0, HW0⟩ : ∃ W0, Hid (w.alloc (.cells #[.int .i64 u.author, .slice a u.seen.length cap, .int .i64 u.kind, .int .i64 u.key, .int .i64 u.item] 38) = W0) := ⟨_, rfl⟩
  rw [HW0.out] at HI HRB HB
  replace HBox : Hid (Box W0 w.heap.size [.int .i64 u.author, .slice a u.seen.length cap, .int .i64 u.kind, .int .i64 u.key, .int .i64 u.item] 38) := by rw [← HW0.out]; exact HBox
  obtain ⟨g0, HG0⟩ : ∃ g0, Hid (w.heap.size = g0) := ⟨_, rfl⟩
  rw [HG0.out] at HBox
  have HK : Hid (∀ w', Grew W0 w' → w'.cell? ⟨g0, 0, none⟩ = some (.int .i64 u.author) ∧ w'.cell? ⟨g0, 1, none⟩ = some (.slice a u.seen.length cap) ∧ w'.cell? ⟨g0, 2, none⟩ = some (.int .i64 u.kind) ∧ w'.cell? ⟨g0, 3, none⟩ = some (.int .i64 u.key) ∧ w'.cell? ⟨g0, 4, none⟩ = some (.int .i64 u.item)) :=
    fun w' hg => (HBox.out.below hg (Nat.le_refl _)).reads
  have HW1 : Hid (∀ w', Grew W0 w' → Calls Try.prog 26 #[.agg #[.int .i64 u.author, .slice a u.seen.length cap, .int .i64 u.kind, .int .i64 u.key, .int .i64 u.item], .int .i64 n] w' fun e w'' => e = .returned (.int .i64 r) ∧ Grew W0 w'') := fun w' hg => by
    refine (wrongU_upd _ u n w' (HI.out.below hg (Nat.le_refl _))).mono ?_
    rintro e w'' ⟨rfl, hb⟩
    exact ⟨by rw [HR.out], grew_step hg hb⟩
  have HW2 : Hid (∀ w', Grew W0 w' → Calls Try.prog 27 #[.agg #[.int .i64 u.author, .slice a u.seen.length cap, .int .i64 u.kind, .int .i64 u.key, .int .i64 u.item], .int .i64 n] w' fun e w'' => e = .returned (.int .i64 r) ∧ Grew W0 w'') := fun w' hg => by
    refine (wrongU_ref _ u n w' (HI.out.below hg (Nat.le_refl _))).mono ?_
    rintro e w'' ⟨rfl, hb⟩
    exact ⟨by rw [HR.out], grew_step hg hb⟩
  have hrr : (r != r) = false := by simp
  go_enter Try.func7, Try.ntmps7
  go_upto_region 1 with fail
  rw [HW0.out, HG0.out]
  go_cut [21] (fun c wx => c = .bool false ∧ Hid (Grew W0 wx))
  case first =>
    go_region_held3 (fun w' => w'.cell? ⟨g0, 0, none⟩ = some (.int .i64 u.author) ∧ w'.cell? ⟨g0, 1, none⟩ = some (.slice a u.seen.length cap) ∧ w'.cell? ⟨g0, 2, none⟩ = some (.int .i64 u.kind) ∧ w'.cell? ⟨g0, 3, none⟩ = some (.int .i64 u.key) ∧ w'.cell? ⟨g0, 4, none⟩ = some (.int .i64 u.item))
      ((refine HK.out _ ?_; (first | assumption | exact grew_drew (grew_refl _) | exact grew_drew (by assumption))))
      (first
        | (go_at_call 26; refine (HW1.out _ ?_).mono ?_; (first | assumption | exact grew_drew (grew_refl _) | exact grew_drew (by assumption)); rintro e w' ⟨rfl, hgr⟩)
        | (go_at_call 27; refine (HW2.out _ ?_).mono ?_; (first | assumption | exact grew_drew (grew_refl _) | exact grew_drew (by assumption)); rintro e w' ⟨rfl, hgr⟩))
    all_goals (go_wp2_with fail; go_meet; exact ⟨by simp, by assumption⟩)
  case rest =>
    obtain ⟨rfl, HG1⟩ := hcut
    have hgr1 := HG1.out
    go_upto_region 3 with fail
    go_cut [37] (fun c wx => c = .bool false ∧ Hid (Grew W0 wx))
    case first =>
      by_cases hr : r = 0
      · subst hr
        obtain ⟨hcc, h1, h2, h3, -⟩ := wrongU_ok HR.out
        obtain ⟨-, -, g3, g4⟩ := wrongC_ok hcc
        obtain ⟨k, hk⟩ : ∃ k : Nat, u.author = k := ⟨u.author.toNat, by omega⟩
        have hkn : u.author.toNat = k := by omega
        have hkl : k < u.seen.length := by omega
        have hy := g4 k hkl
        obtain ⟨b, off, ha, hcell⟩ := HC.out k hkl
        obtain ⟨y, HY⟩ : ∃ y, Hid (u.seen.getD k 0 = y) := ⟨_, rfl⟩
        have HSQ : Hid (∀ w', Grew W0 w' → Calls Try.prog 28 #[.agg #[.int .i64 u.author, .slice a u.seen.length cap, .int .i64 u.kind, .int .i64 u.key, .int .i64 u.item]] w' fun e w'' => e = .returned (.int .i64 (y + 1)) ∧ Grew W0 w'') := fun w' hg => by
          refine (seq_upd _ u k y w' (HI.out.below hg (Nat.le_refl _)) hk hkl HY.out (by rw [← HY.out]; exact hy.1) (by rw [← HY.out]; exact hy.2)).mono ?_
          rintro e w'' ⟨rfl, hb⟩
          exact ⟨rfl, grew_step hg hb⟩
        rw [HY.out] at hcell hy
        have HKY : Hid (∀ w', Grew W0 w' → (w'.cell? ⟨g0, 0, none⟩ = some (.int .i64 u.author) ∧ w'.cell? ⟨g0, 1, none⟩ = some (.slice a u.seen.length cap) ∧ w'.cell? ⟨g0, 2, none⟩ = some (.int .i64 u.kind) ∧ w'.cell? ⟨g0, 3, none⟩ = some (.int .i64 u.key) ∧ w'.cell? ⟨g0, 4, none⟩ = some (.int .i64 u.item)) ∧ w'.cell? ⟨b, off + k, none⟩ = some (.int .i64 y)) :=
          fun w' hg => ⟨HK.out w' hg, ((below_step HB.out hg).cell (World.block_lt_of_cell? w _ hcell)).trans hcell⟩
        subst ha
        have hwy : IntKind.i64.wrap (y + 1) = y + 1 := wrapS (by omega) (by omega)
        have hyy : ((y + 1) != (y + 1)) = false := by simp
        have hk1 : u.author < (u.seen.length : Int) := by omega
        clear hcc h2 h3 g3 g4 hcell HC HY hk HW1 HK HI HBox HR hy
        go_region_held3 (fun w' => (w'.cell? ⟨g0, 0, none⟩ = some (.int .i64 u.author) ∧ w'.cell? ⟨g0, 1, none⟩ = some (.slice (some ⟨b, off, none⟩) u.seen.length cap) ∧ w'.cell? ⟨g0, 2, none⟩ = some (.int .i64 u.kind) ∧ w'.cell? ⟨g0, 3, none⟩ = some (.int .i64 u.key) ∧ w'.cell? ⟨g0, 4, none⟩ = some (.int .i64 u.item)) ∧ w'.cell? ⟨b, off + k, none⟩ = some (.int .i64 y))
          ((refine HKY.out _ ?_; (first | assumption | exact grew_drew (grew_refl _) | exact grew_drew (by assumption))))
          (first
            | (go_at_call 27; refine (HW2.out _ ?_).mono ?_; (first | assumption | exact grew_drew (grew_refl _) | exact grew_drew (by assumption)); rintro e w' ⟨rfl, hgr⟩)
            | (go_at_call 28; refine (HSQ.out _ ?_).mono ?_; (first | assumption | exact grew_drew (grew_refl _) | exact grew_drew (by assumption)); rintro e w' ⟨rfl, hgr⟩))
        all_goals (go_wp2_with fail; go_meet; exact ⟨by simp, by assumption⟩)
      · have hr0 : (r == 0) = false := by simp [hr]
        have hr1 : decide (r = 0) = false := by simp [hr]
        refine wp_region_held_drew (S := fun w' => w'.cell? ⟨g0, 0, none⟩ = some (.int .i64 u.author) ∧ w'.cell? ⟨g0, 1, none⟩ = some (.slice a u.seen.length cap) ∧ w'.cell? ⟨g0, 2, none⟩ = some (.int .i64 u.kind) ∧ w'.cell? ⟨g0, 3, none⟩ = some (.int .i64 u.key) ∧ w'.cell? ⟨g0, 4, none⟩ = some (.int .i64 u.item)) (by kernel_rfl) (HK.out _ (grew_drew hgr1)) (fun hHeld => ?_)
        refine take_yes 0 22 (.agg #[.int .i64 u.author, .slice a u.seen.length cap, .int .i64 u.kind, .int .i64 u.key, .int .i64 u.item]) rfl rfl (by kernel_rfl) (by kernel_rfl) (by kernel_rfl) (fun _ _ _ h => h) rfl (by intro w hSw; (try dsimp only at hSw); go_simp) (by assumption) ?_
        simp only [Act.put, List.setIfInBounds_toArray, List.set_cons_zero, List.set_cons_succ]
        refine take_yes 1 23 (.int .i64 n) rfl rfl (by kernel_rfl) (by kernel_rfl) (by kernel_rfl) (fun _ _ _ h => h) rfl (by intro w hSw; (try dsimp only at hSw); go_simp) (by assumption) ?_
        simp only [Act.put, List.setIfInBounds_toArray, List.set_cons_zero, List.set_cons_succ]
        refine wpAnyH_ready (rs := [2]) (by kernel_rfl) (by simp) ?_
        refine AllReadyH.cons (o := _) rfl (fun K hK => ?_) AllReadyH.nil
        go_simp
        refine (HW2.out _ ?_).mono ?_
        · (first | assumption | exact grew_drew (grew_refl _) | exact grew_drew (by assumption))
        rintro e w' ⟨rfl, hgr⟩
        refine hK.out _ _ (HK.out _ hgr) (fun hHeld2 => ?_)
        clear hK K
        try simp only [Act.put, List.setIfInBounds_toArray, List.set_cons_zero, List.set_cons_succ]
        refine take_yes 3 25 (.bool false) rfl rfl (by kernel_rfl) (by kernel_rfl) (by kernel_rfl) (fun _ _ _ h => h) rfl (by intro w hSw; (try dsimp only at hSw); go_simp) (by assumption) ?_
        simp only [Act.put, List.setIfInBounds_toArray, List.set_cons_zero, List.set_cons_succ]
        refine take_yes 4 26 (.bool false) rfl rfl (by kernel_rfl) (by kernel_rfl) (by kernel_rfl) (fun _ _ _ h => h) rfl (by intro w hSw; (try dsimp only at hSw); go_simp) (by assumption) ?_
        simp only [Act.put, List.setIfInBounds_toArray, List.set_cons_zero, List.set_cons_succ]
        refine take_skip 5 27 rfl rfl (by kernel_rfl) (by kernel_rfl) (by kernel_rfl) (fun _ _ _ h => h) rfl (by assumption) ?_
        simp only [Act.put, List.setIfInBounds_toArray, List.set_cons_zero, List.set_cons_succ]
        refine take_skip 6 28 rfl rfl (by kernel_rfl) (by kernel_rfl) (by kernel_rfl) (fun _ _ _ h => h) rfl (by assumption) ?_
        simp only [Act.put, List.setIfInBounds_toArray, List.set_cons_zero, List.set_cons_succ]
        refine take_skip 7 29 rfl rfl (by kernel_rfl) (by kernel_rfl) (by kernel_rfl) (fun _ _ _ h => h) rfl (by assumption) ?_
        simp only [Act.put, List.setIfInBounds_toArray, List.set_cons_zero, List.set_cons_succ]
        refine take_skip 8 30 rfl rfl (by kernel_rfl) (by kernel_rfl) (by kernel_rfl) (fun _ _ _ h => h) rfl (by assumption) ?_
        simp only [Act.put, List.setIfInBounds_toArray, List.set_cons_zero, List.set_cons_succ]
        refine take_skip 9 31 rfl rfl (by kernel_rfl) (by kernel_rfl) (by kernel_rfl) (fun _ _ _ h => h) rfl (by assumption) ?_
        simp only [Act.put, List.setIfInBounds_toArray, List.set_cons_zero, List.set_cons_succ]
        refine take_skip 10 32 rfl rfl (by kernel_rfl) (by kernel_rfl) (by kernel_rfl) (fun _ _ _ h => h) rfl (by assumption) ?_
        simp only [Act.put, List.setIfInBounds_toArray, List.set_cons_zero, List.set_cons_succ]
        refine take_skip 11 33 rfl rfl (by kernel_rfl) (by kernel_rfl) (by kernel_rfl) (fun _ _ _ h => h) rfl (by assumption) ?_
        simp only [Act.put, List.setIfInBounds_toArray, List.set_cons_zero, List.set_cons_succ]
        refine take_skip 12 34 rfl rfl (by kernel_rfl) (by kernel_rfl) (by kernel_rfl) (fun _ _ _ h => h) rfl (by assumption) ?_
        simp only [Act.put, List.setIfInBounds_toArray, List.set_cons_zero, List.set_cons_succ]
        refine take_skip 13 35 rfl rfl (by kernel_rfl) (by kernel_rfl) (by kernel_rfl) (fun _ _ _ h => h) rfl (by assumption) ?_
        simp only [Act.put, List.setIfInBounds_toArray, List.set_cons_zero, List.set_cons_succ]
        refine take_skip 14 36 rfl rfl (by kernel_rfl) (by kernel_rfl) (by kernel_rfl) (fun _ _ _ h => h) rfl (by assumption) ?_
        simp only [Act.put, List.setIfInBounds_toArray, List.set_cons_zero, List.set_cons_succ]
        refine take_yes 15 37 (.bool false) rfl rfl (by kernel_rfl) (by kernel_rfl) (by kernel_rfl) (fun _ _ _ h => h) rfl (by intro w hSw; (try dsimp only at hSw); go_simp) (by assumption) ?_
        simp only [Act.put, List.setIfInBounds_toArray, List.set_cons_zero, List.set_cons_succ]
        refine wpAnyH_done (by kernel_rfl) ?_ _
        go_wp2_with fail
        go_meet
        exact ⟨by simp, by assumption⟩
    case rest =>
      obtain ⟨rfl, HG3⟩ := hcut
      obtain ⟨w0, rfl⟩ : ∃ w0, w0 = wc := ⟨wc, rfl⟩
      have HB0 := hide (below_step HB.out HG3.out)
      have U0 := hide (HI.out.below HG3.out (Nat.le_refl _))
      have B0 := hide (HRB.out.below HG3.out (Nat.le_refl _))
      have X0 := hide (HBox.out.below HG3.out (Nat.le_refl _))
      clear HG1 hgr1 HG3 HB HI HRB HBox HK HW1 HW2 HC HW0
      have cX0 := X0.out.get 0 rfl
      have cX1 := X0.out.get 1 rfl
      have cX2 := X0.out.get 2 rfl
      have cX3 := X0.out.get 3 rfl
      have cX4 := X0.out.get 4 rfl
      go_wp2_with fail
      refine (bytes_upd _ u n _ U0.out).mono ?_
      rintro e w1 ⟨vY, rfl, hY, hb⟩
      have HB1 := hide (below_step HB0.out hb)
      have U1 := hide (U0.out.below hb (Nat.le_refl _))
      have B1 := hide (B0.out.below hb (Nat.le_refl _))
      have X1 := hide (X0.out.below hb (Nat.le_refl _))
      have Y1 := hide hY
      clear HB0 hb U0 B0 X0
      clear cX0 cX1 cX2 cX3 cX4
      have cX0 := X1.out.get 0 rfl
      have cX1 := X1.out.get 1 rfl
      have cX2 := X1.out.get 2 rfl
      have cX3 := X1.out.get 3 rfl
      have cX4 := X1.out.get 4 rfl
      go_wp2_with fail
      refine (bytes_ref _ u n _ U1.out).mono ?_
      rintro e w2 ⟨vZ, rfl, hZ, hb⟩
      have HB2 := hide (below_step HB1.out hb)
      have U2 := hide (U1.out.below hb (Nat.le_refl _))
      have B2 := hide (B1.out.below hb (Nat.le_refl _))
      have X2 := hide (X1.out.below hb (Nat.le_refl _))
      have Y2 := hide (Y1.out.below hb (Nat.le_refl _))
      have Z2 := hide hZ
      clear HB1 hb U1 B1 X1 Y1
      clear cX0 cX1 cX2 cX3 cX4
      rw [HR.out]
      have hy := Y2.out.str
      have hz := Z2.out.str
      go_wp2_with fail
      refine (parse_upd _ bs _ B2.out).mono ?_
      rintro e w3 ⟨vP, rfl, hP, hb⟩
      have HB3 := hide (below_step HB2.out hb)
      have U3 := hide (U2.out.below hb (Nat.le_refl _))
      have B3 := hide (B2.out.below hb (Nat.le_refl _))
      have X3 := hide (X2.out.below hb (Nat.le_refl _))
      have Y3 := hide (Y2.out.below hb (Nat.le_refl _))
      have Z3 := hide (Z2.out.below hb (Nat.le_refl _))
      have P3 := hide hP
      clear HB2 hb U2 B2 X2 Y2 Z2
      clear hy hz
      clear Y3 Z3 U3
      obtain ⟨svP, rfl, hsP⟩ := hP
      obtain ⟨aP, capP, rfl, -, -, -⟩ := hsP
      have HB4 := hide (below_step HB3.out (Below.plus (Below.refl _ w3) (.cells #[.int .i64 (parseU bs).author, .slice aP (parseU bs).seen.length capP, .int .i64 (parseU bs).kind, .int .i64 (parseU bs).key, .int .i64 (parseU bs).item] 38)))
      have B4 := hide (B3.out.below (Below.plus (Below.refl _ w3) (.cells #[.int .i64 (parseU bs).author, .slice aP (parseU bs).seen.length capP, .int .i64 (parseU bs).kind, .int .i64 (parseU bs).key, .int .i64 (parseU bs).item] 38)) (Nat.le_refl _))
      have X4 := hide (X3.out.below (Below.plus (Below.refl _ w3) (.cells #[.int .i64 (parseU bs).author, .slice aP (parseU bs).seen.length capP, .int .i64 (parseU bs).kind, .int .i64 (parseU bs).key, .int .i64 (parseU bs).item] 38)) (Nat.le_refl _))
      have P4 := hide (P3.out.below (Below.plus (Below.refl _ w3) (.cells #[.int .i64 (parseU bs).author, .slice aP (parseU bs).seen.length capP, .int .i64 (parseU bs).kind, .int .i64 (parseU bs).key, .int .i64 (parseU bs).item] 38)) (Nat.le_refl _))
      have V4 := hide (Box.new w3 [.int .i64 (parseU bs).author, .slice aP (parseU bs).seen.length capP, .int .i64 (parseU bs).kind, .int .i64 (parseU bs).key, .int .i64 (parseU bs).item] 38)
      clear HB3 B3 X3 P3
      go_wp2_with fail
      refine (parse_ref _ bs _ B4.out).mono ?_
      rintro e w5 ⟨vQ, rfl, hQ, hb⟩
      have HB5 := hide (below_step HB4.out hb)
      have B5 := hide (B4.out.below hb (Nat.le_refl _))
      have X5 := hide (X4.out.below hb (Nat.le_refl _))
      have P5 := hide (P4.out.below hb (Nat.le_refl _))
      have V5 := hide (V4.out.below hb (Nat.le_refl _))
      have Q5 := hide hQ
      clear HB4 hb B4 X4 P4 V4
      obtain ⟨svQ, rfl, hsQ⟩ := hQ
      obtain ⟨aQ, capQ, rfl, -, -, -⟩ := hsQ
      have HB6 := hide (below_step HB5.out (Below.plus (Below.refl _ w5) (.cells #[.int .i64 (parseU bs).author, .slice aQ (parseU bs).seen.length capQ, .int .i64 (parseU bs).kind, .int .i64 (parseU bs).key, .int .i64 (parseU bs).item] 38)))
      have B6 := hide (B5.out.below (Below.plus (Below.refl _ w5) (.cells #[.int .i64 (parseU bs).author, .slice aQ (parseU bs).seen.length capQ, .int .i64 (parseU bs).kind, .int .i64 (parseU bs).key, .int .i64 (parseU bs).item] 38)) (Nat.le_refl _))
      have X6 := hide (X5.out.below (Below.plus (Below.refl _ w5) (.cells #[.int .i64 (parseU bs).author, .slice aQ (parseU bs).seen.length capQ, .int .i64 (parseU bs).kind, .int .i64 (parseU bs).key, .int .i64 (parseU bs).item] 38)) (Nat.le_refl _))
      have P6 := hide (P5.out.below (Below.plus (Below.refl _ w5) (.cells #[.int .i64 (parseU bs).author, .slice aQ (parseU bs).seen.length capQ, .int .i64 (parseU bs).kind, .int .i64 (parseU bs).key, .int .i64 (parseU bs).item] 38)) (Nat.le_refl _))
      have V6 := hide (V5.out.below (Below.plus (Below.refl _ w5) (.cells #[.int .i64 (parseU bs).author, .slice aQ (parseU bs).seen.length capQ, .int .i64 (parseU bs).kind, .int .i64 (parseU bs).key, .int .i64 (parseU bs).item] 38)) (Nat.le_refl _))
      have Q6 := hide (Q5.out.below (Below.plus (Below.refl _ w5) (.cells #[.int .i64 (parseU bs).author, .slice aQ (parseU bs).seen.length capQ, .int .i64 (parseU bs).kind, .int .i64 (parseU bs).key, .int .i64 (parseU bs).item] 38)) (Nat.le_refl _))
      have R6 := hide (Box.new w5 [.int .i64 (parseU bs).author, .slice aQ (parseU bs).seen.length capQ, .int .i64 (parseU bs).kind, .int .i64 (parseU bs).key, .int .i64 (parseU bs).item] 38)
      clear HB5 B5 X5 P5 V5 Q5
      have hee : (parseE bs == parseE bs) = true := by simp
      have hnn : (parseN bs == parseN bs) = true := by simp
      have cV0 := V6.out.get 0 rfl
      have cV1 := V6.out.get 1 rfl
      have cV2 := V6.out.get 2 rfl
      have cV3 := V6.out.get 3 rfl
      have cV4 := V6.out.get 4 rfl
      have cR0 := R6.out.get 0 rfl
      have cR1 := R6.out.get 1 rfl
      have cR2 := R6.out.get 2 rfl
      have cR3 := R6.out.get 3 rfl
      have cR4 := R6.out.get 4 rfl
      go_wp2_with fail
      refine (sameUpdate_ref _ _ (parseU bs) (parseU bs) _ P6.out Q6.out).mono ?_
      rintro e w7 ⟨rfl, hb⟩
      have HB7 := hide (below_step HB6.out hb)
      have B7 := hide (B6.out.below hb (Nat.le_refl _))
      have X7 := hide (X6.out.below hb (Nat.le_refl _))
      have P7 := hide (P6.out.below hb (Nat.le_refl _))
      have V7 := hide (V6.out.below hb (Nat.le_refl _))
      have Q7 := hide (Q6.out.below hb (Nat.le_refl _))
      have R7 := hide (R6.out.below hb (Nat.le_refl _))
      clear HB6 hb B6 X6 P6 V6 Q6 R6
      clear cV0 cV1 cV2 cV3 cV4
      clear cR0 cR1 cR2 cR3 cR4
      rw [sameU_self]
      go_wp2
      go_ret
      exact ⟨rfl, HB7.out⟩
end Go.Proofs.Ytiomdleoafakkaa
