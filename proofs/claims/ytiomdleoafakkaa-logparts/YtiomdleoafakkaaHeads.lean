/- log.Heads over a log whose updates are small: the places that no one behind has seen. -/
import Derived.Test.YtiomdleoafakkaaHeadsI
namespace Go.Proofs.Ytiomdleoafakkaa
open Go.RowKit Go.Shelf

attribute [local go_sem] Oper.semAt_some

/-- A place, an update, and the value of its Seen, that reads as its clock in w. -/
abbrev Item (w : World) := { x : Nat × (Upd × Value) // Row w x.2.2 x.2.1.seen ∧ Small x.2.1 }
def encI {w : World} (x : Item w) : Array Value := #[.int .i64 (x.1.1 : Int), .agg #[.int .i64 x.1.2.1.author, x.1.2.2, .int .i64 x.1.2.1.kind, .int .i64 x.1.2.1.key, .int .i64 x.1.2.1.item]]
/-- The places told so far, from behind, and the clock of all that is behind. -/
def outF {w : World} (pre : List (Item w)) : List Int × List Int :=
  pre.foldl (fun s x => (if seenU x.1.2.1 s.2 then s.1 else s.1 ++ [(x.1.1 : Int)], raiseC s.2 x.1.2.1.seen)) ([], [])
theorem outF_snoc {w : World} (pre : List (Item w)) (x : Item w) : outF (pre ++ [x]) = (if seenU x.1.2.1 (outF pre).2 then (outF pre).1 else (outF pre).1 ++ [(x.1.1 : Int)], raiseC (outF pre).2 x.1.2.1.seen) := by unfold outF; rw [List.foldl_append]; rfl
theorem raiseC_length (xs ys : List Int) : (raiseC xs ys).length ≤ max xs.length ys.length := by
  unfold raiseC; rw [List.length_append, updM_length, List.length_drop]; omega
theorem outF_small {w : World} (pre : List (Item w)) : (outF pre).2.length ≤ 6 ∧ (outF pre).1.length ≤ pre.length := by
  suffices h : ∀ (n : Nat) (pre : List (Item w)), pre.length = n → (outF pre).2.length ≤ 6 ∧ (outF pre).1.length ≤ pre.length from h _ pre rfl
  intro n
  induction n with
  | zero => intro pre h; rw [List.eq_nil_of_length_eq_zero h]; simp [outF]
  | succ n ih =>
    intro pre h
    rcases List.eq_nil_or_concat pre with rfl | ⟨p, x, rfl⟩
    · simp at h
    · have hd : p.length = n := by simp at h; omega
      have hi := ih p hd
      rw [List.concat_eq_append, outF_snoc]
      have h6 := x.2.2.2
      have h7 := raiseC_length (outF p).2 x.1.2.1.seen
      constructor
      · simp only; omega
      · rw [List.length_append, hd]
        simp only
        split
        · simp; omega
        · simp; omega

set_option maxHeartbeats 1000000 in
theorem reverse_one (a : Option Addr) (c : Nat) (w : World) :
    Calls Try.prog 104 #[.slice a 1 c] w fun e w' => (∃ v, e = .returned v) ∧ w' = w := by
  go_enter Try.func104, Try.ntmps104
  go_wp2_with fail
  go_loopw [2, 3] (fun i j wr => i = .int .i64 0 ∧ j = .int .i64 0 ∧ wr = w) (fun _ _ _ => 0)
  case atStart => exact ⟨rfl, rfl, rfl⟩
  case round =>
    obtain ⟨rfl, rfl, rfl⟩ := hrel
    go_wp2_with fail
    go_end0
    exact ⟨⟨_, rfl⟩, rfl⟩

set_option maxRecDepth 100000 in
set_option maxHeartbeats 4000000 in
theorem heads_log (b off cap : Nat) (l : List Upd) (w : World) (f : Nat → Item w) (hl : LogV w (.slice (some ⟨b, off, none⟩) l.length cap) l) (hbl : b < w.heap.size) (hn : l.length ≤ 1000)
    (hf : ∀ j, j < l.length → (f j).1.1 = j ∧ l[j]? = some (f j).1.2.1 ∧ w.cell? ⟨b, off + j * 5 + 1, none⟩ = some (f j).1.2.2) (q : Int) (hq : (outF (down f l.length 0)).1 = [q]) :
    Calls Try.prog 65 #[.slice (some ⟨b, off, none⟩) l.length cap] w fun e w' => ∃ r, e = .returned r ∧ Row w' r [q] ∧ Below w.heap.size w w' := by
  obtain ⟨i0, hi, hz0, hz1, hz2⟩ := info_parts Try.infoInt
  have HL := hide hl
  have HF := hide hf
  have HQ := hide hq
  clear hl hf hq
  refine (callsIn_wide (n := 5)).1 ?_
  refine callsIn_of_wp_marks Try.func65 rfl trivial ?_ rfl
  simp only [Try.ntmps65, List.size_toArray, List.length_cons, List.length_nil, Nat.reduceAdd, Nat.reduceSub, Array.replicate_succ, Array.replicate_zero, List.push_toArray, List.append_toArray, List.nil_append, List.cons_append]
  gi_wp2_with fail
  refine ⟨trivial, ?_⟩
  refine (callsIn_wide.2 (backward_fn _ _ _ _)).mono ?_
  rintro e w' ⟨rfl, rfl⟩
  gi_wp2_with fail
  have hI0 : HeadsI w (.slice (some ⟨b, off, none⟩) l.length cap) [] [] (((w.alloc (.cells #[.slice none 0 0] 22)).alloc (.cells #[.slice none 0 0] 23)).alloc (.cells #[.slice (some ⟨b, off, none⟩) l.length cap] 48)) (.slice none 0 0) (.slice none 0 0) := by
    refine ⟨?_, ?_, ?_, World.ownsRow_nil _ _ _ _, World.ownsRow_nil _ _ _ _, fun g e => by simp [Value.ownBlock] at e, ?_⟩
    · exact ((Box.new w [.slice none 0 0] 22).plus _).plus _
    · have := (Box.new (w.alloc (.cells #[.slice none 0 0] 22)) [.slice none 0 0] 23).plus (.cells #[.slice (some ⟨b, off, none⟩) l.length cap] 48)
      rw [World.size_alloc] at this
      exact this
    · have := Box.new ((w.alloc (.cells #[.slice none 0 0] 22)).alloc (.cells #[.slice none 0 0] 23)) [.slice (some ⟨b, off, none⟩) l.length cap] 48
      simp only [World.size_alloc] at this
      exact this
    · exact Below.plus (Below.plus (Below.plus (Below.refl w.heap.size w) _) _) _
  have hsz : (((w.alloc (.cells #[.slice none 0 0] 22)).alloc (.cells #[.slice none 0 0] 23)).alloc (.cells #[.slice (some ⟨b, off, none⟩) l.length cap] 48)).heap.size = w.heap.size + 3 := by simp
  obtain ⟨W0, hW0⟩ : ∃ W0, ((w.alloc (.cells #[.slice none 0 0] 22)).alloc (.cells #[.slice none 0 0] 23)).alloc (.cells #[.slice (some ⟨b, off, none⟩) l.length cap] 48) = W0 := ⟨_, rfl⟩
  rw [hW0] at hI0 hsz ⊢
  clear hW0
  have hcells : ∀ W, KeepL w.heap.size (w.heap.size + 1 + 1) W0 W → ∀ j, j < l.length → W.cell? ⟨b, off + j * 5, none⟩ = some (.int .i64 (f j).1.2.1.author) ∧ W.cell? ⟨b, off + j * 5 + 1, none⟩ = some ((f j).1.2.2) ∧ W.cell? ⟨b, off + j * 5 + 2, none⟩ = some (.int .i64 (f j).1.2.1.kind) ∧ W.cell? ⟨b, off + j * 5 + 3, none⟩ = some (.int .i64 (f j).1.2.1.key) ∧ W.cell? ⟨b, off + j * 5 + 4, none⟩ = some (.int .i64 (f j).1.2.1.item) := by
    intro W hW j hj
    have hb := hI0.hB.trans hW.1
    obtain ⟨-, h2, h3⟩ := HF.out j hj
    obtain ⟨b', off', a5, cap5, e, d0, d1, d2, d3, d4, -, -⟩ := HL.out.at h2
    simp only [Option.some.injEq, Addr.mk.injEq, and_true] at e
    obtain ⟨rfl, rfl⟩ := e
    exact ⟨(hb.cell (p := ⟨b, _, none⟩) hbl).trans d0, (hb.cell (p := ⟨b, _, none⟩) hbl).trans h3, (hb.cell (p := ⟨b, _, none⟩) hbl).trans d2, (hb.cell (p := ⟨b, _, none⟩) hbl).trans d3, (hb.cell (p := ⟨b, _, none⟩) hbl).trans d4⟩
  have hseq : SeqStopsK Fence.wide (5 - 1) Try.prog 120 #[.pointer (some ⟨w.heap.size + 1 + 1, 0, none⟩)] (encI (w := w)) (KeepL w.heap.size (w.heap.size + 1 + 1)) (fun ys => ys = down f l.length 0) (fun pre => ∃ k, k ≤ l.length ∧ pre = down f l.length k) l.length W0 := fun l1 J Jx W hW _ _ hY h0 => by
    have hk : KeepL w.heap.size (w.heap.size + 1 + 1) W0 W := ⟨hW.mono (by omega), hW.block _ (by omega)⟩
    refine back1_in Fence.wide (5 - 1) trivial rfl (by omega) l1 (w.heap.size + 1 + 1) w.heap.size b off l.length cap encI f (fun j => (f j).1.2.1) (fun j => (f j).1.2.2) (by omega) hbl (fun j hj => ?_) J Jx hY W ?_ (hcells W hk) (fun j hj => ?_) h0
    · unfold encI; rw [(HF.out j hj).1]
    · exact hk.box.trans (Box.get (cs := [_]) hI0.bL 0 rfl)
    · obtain ⟨a5, cap5, h, -⟩ := (f j).2.1
      exact ⟨_, _, _, h⟩
  refine wpIn_rangeFunc_ownH rfl (by omega) (gf := 120) (lb := #[.pointer (some ⟨w.heap.size + 1 + 1, 0, none⟩)]) rfl trivial (enters_of Try.func120 (by kernel_rfl) rfl)
    hseq (fun h h' => h.trans h') (fun W l o o' hle hW hc hw => ?hKb) (Below.refl _ _) (fun _ => rfl)
    (fun pre W => ∃ vo vb, HeadsI w (.slice (some ⟨b, off, none⟩) l.length cap) (outF pre).1 (outF pre).2 W vo vb)
    (fun _ _ _ => False)
    (fun pre A C row hs hg hr => ?hI)
    (fun _ _ _ _ _ hs _ _ => hs)
    ⟨_, _, hI0⟩
    (fun x a' W => ∃ Bx, w.heap.size + 1 + 1 < Bx ∧ Box W Bx [.int .i64 x.1.2.1.author, x.1.2.2, .int .i64 x.1.2.1.kind, .int .i64 x.1.2.1.key, .int .i64 x.1.2.1.item] 38 ∧ a' = { tmps := #[.slice (some ⟨b, off, none⟩) l.length cap, undef, .slice none 0 0, .pointer (some ⟨w.heap.size, 0, none⟩), .pointer (some ⟨w.heap.size + 1, 0, none⟩), .int .i64 (x.1.1 : Int), .pointer (some ⟨Bx, 0, none⟩), .slice (some ⟨b, off, none⟩) l.length cap, .func (.func 120) #[] #[.pointer (some ⟨w.heap.size + 1 + 1, 0, none⟩)], .int .i64 (x.1.1 : Int), .agg #[.int .i64 x.1.2.1.author, x.1.2.2, .int .i64 x.1.2.1.kind, .int .i64 x.1.2.1.key, .int .i64 x.1.2.1.item], undef, undef, undef, undef, undef, undef, undef, undef, undef, undef, undef, undef, undef, undef, undef, undef, undef, undef, undef, undef, undef, undef], defers := [] })
    (fun x a' _ X Y row hs hg hr => ?hAx)
    ?assign ?body ?done ?stop
  case hKb => exact ⟨belowK_b (w := W0) (by omega) W l o o' hle hW hc hw, World.putObj_heap_other (fun e => by omega)⟩
  case hI =>
    obtain ⟨vo, vb, h⟩ := hs
    refine ⟨vo, vb, h.keep (fun g cur t hgc => (hg.block g (lt_of_block hgc) (fun e => ?_)).trans hgc) (h.hB.grown hg h.hB.size (fun k e => by have := (hr k e).1; omega))⟩
    obtain ⟨-, o, ho, hc⟩ := hr g e.symm
    rw [hgc] at ho
    cases ho
    simp [Obj.isCells] at hc
  case hAx =>
    obtain ⟨Bx, h1, h2, h3⟩ := hs
    refine ⟨Bx, h1, (hg.block Bx h2.lt (fun e => ?_)).trans h2, h3⟩
    obtain ⟨-, o, ho, hc⟩ := hr Bx e.symm
    rw [show X.heap[Bx]? = _ from h2] at ho
    cases ho
    simp [Obj.isCells] at hc
  case assign =>
    rintro l1 pre x W K ⟨vo, vb, h⟩ hK
    obtain ⟨⟨i, u, sv⟩, hrow, hsm⟩ := x
    dsimp only at hrow hsm
    obtain ⟨a5, cap5, rfl, -, -, -⟩ := id hrow
    dsimp only [encI] at hK ⊢
    gi_wp2_with fail
    exact hK _ _ ((KeepsOthers.alloc _ _).from _) ⟨(Below.refl _ W).alloc h.hB.size _, Below.heap_alloc W _ _ (lt_of_block h.bL)⟩ ⟨vo, vb, h.step (Below.plus (Below.refl W.heap.size W) _)⟩ ⟨W.heap.size, lt_of_block h.bL, Box.new W _ _, rfl⟩
  case body =>
    rintro l1 pre x a' W hl ⟨r, hr⟩ ⟨vo, vb, h⟩ ⟨Bx, hBx, bX, rfl⟩ hlt
    have HSN := hide (outF_snoc pre x)
    have hsm2 := outF_small pre
    obtain ⟨⟨i, u, sv⟩, hrow, hsm⟩ := x
    dsimp only at hrow hsm bX HSN ⊢
    obtain ⟨a5, cap5, rfl, -, -, -⟩ := id hrow
    obtain ⟨hfit, h6⟩ := hsm
    obtain ⟨os, hos⟩ : ∃ os, (outF pre).1 = os := ⟨_, rfl⟩
    obtain ⟨bs, hbs⟩ : ∃ bs, (outF pre).2 = bs := ⟨_, rfl⟩
    rw [hos, hbs] at h HSN hsm2
    clear hos hbs
    have hrW : Row W (.slice a5 u.seen.length cap5) u.seen := hrow.below h.hB (Nat.le_refl _)
    have hU : IsUpd W (.agg #[.int .i64 u.author, .slice a5 u.seen.length cap5, .int .i64 u.kind, .int .i64 u.key, .int .i64 u.item]) u := ⟨_, rfl, hrW⟩
    have cX0 := bX.get 0 rfl
    have cX1 := bX.get 1 rfl
    have cX2 := bX.get 2 rfl
    have cX3 := bX.get 3 rfl
    have cX4 := bX.get 4 rfl
    have cO := Box.get (cs := [_]) h.bO 0 rfl
    have cB := Box.get (cs := [_]) h.bB 0 rfl
    obtain ⟨ao, co, rfl, -, -, -⟩ := id h.oO.row
    obtain ⟨ab, cb, rfl, -, -, -⟩ := id h.oB.row
    gi_wp2_with fail
    refine ⟨trivial, ?_⟩
    refine (CallsIn.inRound l1 (callsIn_wide.2 (hasAuthor_yes _ u.seen u.author _ hrW hfit.1 hfit.2.1))).mono ?_
    rintro e w' ⟨rfl, hw'⟩
    rw [hw']; clear hw' w'
    gi_wp2_with fail
    refine ⟨trivial, ?_⟩
    refine (CallsIn.inRound l1 (callsIn_wide.2 (seenBy_upd _ _ u bs _ hU h.oB.row hfit))).mono ?_
    rintro e W1 ⟨rfl, hb1⟩
    have h1 := h.step hb1
    have bX1 := bX.below hb1 (Nat.le_refl _)
    have k1 := keeps_below hb1
    have hn1 : Below w.heap.size W W1 := hb1.mono h.hB.size
    have bL := h.bL
    clear cX0 cX1 cX2 cX3 cX4 cO cB hU hrW h bX hb1
    have cO := Box.get (cs := [_]) h1.bO 0 rfl
    have cB := Box.get (cs := [_]) h1.bB 0 rfl
    have fO := Box.free (cs := [_]) h1.bO 0
    have cX1 := bX1.get 1 rfl
    cases hs : seenU u bs
    · have h2 := h1.step (Below.plus (Below.refl W1.heap.size W1) (.cells #[.int .i64 (i : Int)] 3))
      have hsrc := Row.src (P := Try.prog) (row_one W1 i) Try.underlying22
      have hol : os.length ≤ 1000 := by omega
      gi_wp2_with (gi_at_builtin; refine wpListIn_append_own_at _ rfl (.tmp 22) (.tmp 24) 22 22 rfl w.heap.size 3 i0 (.int .i64 0) 1 8 Try.underlying22 hi hz0 hz1 hz2 rfl _ _ _ rfl h2.oO _ rfl 1 [.int .i64 (i : Int)] hsrc ?c3 ?c4 ?c5 ?_)
      case c3 => unfold maxLen; omega
      case c4 => omega
      case c5 => exact h2.hB.size
      intro v' W3 hown' hgrow hat
      have hown : Own W3 w.heap.size v' (os ++ [(i : Int)]) := by
        unfold Own
        rw [List.length_append, List.map_append]
        exact hown'
      obtain ⟨h4, k4, b4, x4, x3⟩ := h2.tell hgrow hown (by rw [World.size_alloc]; exact hat)
      obtain ⟨av, cv, hv', -, -, -⟩ := id hown.row
      rw [show (os ++ [(i : Int)]).length = os.length + 1 by simp] at hv'
      subst hv'
      have cO3 := Box.get (cs := [_]) (x3 _ _ _ h2.bO (by decide)) 0 rfl
      have fO3 := Box.free (cs := [_]) (x3 _ _ _ h2.bO (by decide)) 0
      have cB3 := Box.get (cs := [_]) (x3 _ _ _ h2.bB (by decide)) 0 rfl
      have cX3 := Box.get (x3 _ _ _ (bX1.plus _) (by decide)) 1 rfl
      gi_wp2_with fail
      refine ⟨trivial, ?_⟩
      refine (CallsIn.inRound l1 (callsIn_wide.2 (raise_log _ _ bs u.seen w.heap.size _ h4.oB (hrow.below h4.hB (Nat.le_refl _)) (fun w' hb => hrow.below (h4.hB.trans hb) (Nat.le_refl _)) h4.hB.size (by omega) (by omega)))).mono ?_
      rintro e W5 ⟨r5, rfl, ho5, hg5, hat5⟩
      obtain ⟨h5, k5, b5, x5⟩ := h4.raised hg5 ho5 hat5
      obtain ⟨ar, cr, rfl, -, -, -⟩ := id ho5.row
      have cB5 := Box.get (cs := [_]) (x5 _ _ _ h4.bB (by decide)) 0 rfl
      have fB5 := Box.free (cs := [_]) (x5 _ _ _ h4.bB (by decide)) 0
      gi_wp2_with fail
      refine ⟨(((k1.trans (KeepsOthers.alloc _ _)).trans k4).trans k5).from _, ⟨?_, ?_⟩, ⟨_, _, by rw [HSN.out, hs]; exact h5⟩⟩
      · exact ((hn1.alloc h1.hB.size _).trans b4).trans b5
      · exact h5.bL.trans bL.symm
    · gi_wp2_with fail
      refine ⟨trivial, ?_⟩
      refine (CallsIn.inRound l1 (callsIn_wide.2 (raise_log _ _ bs u.seen w.heap.size _ h1.oB (hrow.below h1.hB (Nat.le_refl _)) (fun w' hb => hrow.below (h1.hB.trans hb) (Nat.le_refl _)) h1.hB.size (by omega) (by omega)))).mono ?_
      rintro e W5 ⟨r5, rfl, ho5, hg5, hat5⟩
      obtain ⟨h5, k5, b5, x5⟩ := h1.raised hg5 ho5 hat5
      obtain ⟨ar, cr, rfl, -, -, -⟩ := id ho5.row
      have cB5 := Box.get (cs := [_]) (x5 _ _ _ h1.bB (by decide)) 0 rfl
      have fB5 := Box.free (cs := [_]) (x5 _ _ _ h1.bB (by decide)) 0
      gi_wp2_with fail
      refine ⟨(k1.trans k5).from _, ⟨?_, ?_⟩, ⟨_, _, by rw [HSN.out, hs]; exact h5⟩⟩
      · exact hn1.trans b5
      · exact h5.bL.trans bL.symm
  case done =>
    rintro D ys W hD rfl ⟨vo, vb, h⟩ hK
    rw [HQ.out] at h
    have hO := h.oO
    have cO := Box.get (cs := [_]) h.bO 0 rfl
    obtain ⟨ao, co, rfl, -, -, -⟩ := id hO.row
    gi_wp2_with fail
    refine ⟨trivial, ?_⟩
    refine (callsIn_wide.2 (reverse_one _ _ _)).mono ?_
    rintro e w' ⟨⟨v, rfl⟩, hw'⟩
    rw [hw']; clear hw' w'
    gi_wp2_with fail
    refine ⟨by simp, .inl ⟨_, _, rfl, run_takeDeferred hK, ?_⟩⟩
    refine ⟨_, results_tmp rfl _ _ _, _, rfl, ?_, h.hB.trans (belowK_b (w := w) (Nat.le_refl _) W D _ _ (by omega) hK rfl rfl)⟩
    refine (hO.kept (fun g e => World.putObj_heap_other (fun e2 => ?_))).row
    obtain ⟨cur, h1, -⟩ := hO.blk e
    rw [e2, hK] at h1
    cases h1
  case stop =>
    rintro D c pre W _ _ h _
    exact h.elim
end Go.Proofs.Ytiomdleoafakkaa
