/- The document's own Parse answers as update.Parse does, for any bytes. -/
import Derived.Test.YtiomdleoafakkaaParse
import Derived.Test.YtiomdleoafakkaaGrow
import Derived.Deep.RegionLaw
namespace Go.Proofs.Ytiomdleoafakkaa
open Go.RowKit

/-- append onto a row of the call's own, as one step of a region that draws. -/
theorem step_append_own {P : Program} {ops : Array Oper} {o : Oper} {a : Act} {w : World} {K : Act → World → Prop} {Q : Exit → Act → World → Prop} {E : Prop}
    (hg : o.guard = none) (s x : Operand) (t : TypeId) (hop : o.op = Op.call { callee := Callee.builtin Builtin.append, args := #[s, x], argTypes := #[t, t] })
    (base : Nat) (e : TypeId) (i : TypeInfo) (z : Value) (size bytes : Nat) (h1 : P.underlying t = some (.slice e)) (h2 : P.info? e = some i) (h3 : i.zero = some z) (h4 : i.size = size) (h5 : i.bytes = bytes) (h6 : z.cells.size = size) (h7 : 0 < size)
    (v : Value) (n : Nat) (xs : List Value) (hs : a.eval s = v) (hown : w.ownsRow base e size v n xs)
    (ad : Addr) (m c : Nat) (news : List Value) (hx : a.eval x = .slice (some ad) m c) (hn : news.length = m * size) (hc : ∀ j u, news[j]? = some u → w.cell? (ad.add j) = some u) (h1c : ∀ u ∈ news, u.oneCell' = true)
    (b1 : n + m ≤ maxLen) (b2 : (n + m) * bytes ≤ 140737488355328) (hb : base ≤ w.heap.size)
    (hK : ∀ v' w', w'.ownsRow base e size v' (n + m) (xs ++ news) → w.grownBy w' v.ownBlock → K (a.put o.dst v') w') :
    if Region.wanted o (yielded ops a.tmps) = true then Oper.wp P o a w K Q else E := by
  have hw : Region.wanted o (yielded ops a.tmps) = true := by simp [Region.wanted, hg]
  rw [if_pos hw]
  obtain ⟨v', w', hrun, r1, r2, _⟩ := run_append_own (P := P) w base t o.type e i z size bytes h1 h2 h3 h4 h5 h6 h7 v n xs hown ad m c news hn hc h1c b1 b2 hb
  unfold Oper.wp
  simp [execOp, hop, resolve, invoke, builtin, hs, hx, hrun, Result.andThen]
  exact hK v' w' r1 r2

/-- What is owned and not empty is written out. -/
theorem owned_form {w : World} {B n : Nat} {e : TypeId} {v : Value} {xs : List Value} (h : w.ownsRow B e 1 v n xs) (hn : 0 < n) : ∃ g cap, v = .slice (some ⟨g, 0, none⟩) n cap := by
  rcases h.2 with h0 | ⟨g, cap, cur, hv, -⟩
  · omega
  · exact ⟨g, cap, hv⟩
theorem Box.low {w w' : World} {g B : Nat} {cs : List Value} {t : TypeId} (h : Box w g cs t) (hb : Below B w w') (hB : g < B) : Box w' g cs t := by
  unfold Box at h ⊢
  rw [hb.block g hB]; exact h
theorem wrapS {x : Int} (h : -1000000000 ≤ x) (h' : x ≤ 1000000000) : IntKind.i64.wrap x = x := by simp [IntKind.wrap, IntKind.bits, IntKind.signed]; omega

set_option maxRecDepth 100000 in
set_option maxHeartbeats 2000000 in
theorem parse_ref (v : Value) (bs : List Int) (w : World) (h : RowB w v bs) :
    Calls Try.prog 32 #[v] w fun e w' => ∃ uv, e = .returned (.tuple #[uv, .int .i64 (parseN bs), .int .i64 (parseE bs)]) ∧ IsUpd w' uv (parseU bs) ∧ Below w.heap.size w w' := by
  have hlen := h.len_le
  have HZ := hide (Box.new w zeroCells 38)
  have HB := hide (Below.plus (Below.refl w.heap.size w) (.cells #[.int .i64 0, .slice none 0 0, .int .i64 0, .int .i64 0, .int .i64 0] 38))
  by_cases h6 : bs.length < 6
  · have HE : Hid (parseE bs = 2) := by simp [Hid, parseE, formB, h6]
    have HN : Hid (parseN bs = 0) := by simp [Hid, parseN, HE.out]
    have HU : Hid (parseU bs = zeroUpd) := by simp [Hid, parseU, HE.out]
    rw [HE.out, HN.out, HU.out]
    obtain ⟨a, cap, rfl, -, -, -, -⟩ := h
    obtain ⟨L, HL⟩ : ∃ L, Hid (bs.length = L) := ⟨_, rfl⟩
    rw [HL.out] at h6 hlen ⊢
    have h6' : (L : Int) < 6 := by omega
    go_enter Try.func32, Try.ntmps32
    go_wp2_with fail
    refine bodyPost_ret (results_cell_tmp2 rfl _ _ w.heap.size 38 _ (0, 0) _ rfl HZ.out Try.underlying38 rfl Try.sizeUpd) rfl ⟨_, rfl, isUpd_zero _, HB.out⟩
  · obtain ⟨m, hm⟩ : ∃ m : Nat, bs.getD 0 0 = m := ⟨(bs.getD 0 0).toNat, by have := (h.bound (i := 0) (by omega)).1; omega⟩
    have hm2 : m ≤ 255 := by have := (h.bound (i := 0) (by omega)).2; omega
    obtain ⟨a, cap, rfl, -, -, -, -⟩ := id h
    obtain ⟨b, off, rfl, hc, hbw⟩ := h.at (by omega)
    have c0 := hc 0 (by omega)
    rw [hm, Nat.add_zero] at c0
    by_cases hq : bs.length = 6 + 2 * m
    · have HF : Hid (formB bs = false) := by unfold Hid; rw [formB, hm, decide_eq_false_iff_not]; omega
      have HE : Hid (parseE bs = wrongU (readU bs m) m) := by unfold Hid parseE; rw [HF.out, hm, Int.toNat_natCast]; rfl
      have HW := hide (fun v w => wrongU_ref v (readU bs m) m w)
      have HN : Hid (parseN bs = if wrongU (readU bs m) m = 0 then (m : Int) else 0) := by simp only [Hid, parseN, HE.out, hm]
      have HU : Hid (parseU bs = if wrongU (readU bs m) m = 0 then readU bs m else zeroUpd) := by simp only [Hid, parseU, HE.out, hm, Int.toNat_natCast]
      rw [HE.out, HN.out, HU.out]
      clear HE HN HU HF hm
      have b1 := h.bound (i := 1) (by omega)
      have b2 := h.bound (i := 2) (by omega)
      have b3 := h.bound (i := 3) (by omega)
      have b4 := h.bound (i := 4) (by omega)
      have b5 := h.bound (i := 4 + 1) (by omega)
      have c1 := hc 1 (by omega)
      have c2 := hc 2 (by omega)
      have c3 := hc 3 (by omega)
      have c4 := hc 4 (by omega)
      have c5 := hc (4 + 1) (by omega)
      have HC : Hid (∀ i, i < bs.length → 0 ≤ bs.getD i 0 ∧ bs.getD i 0 ≤ 255 ∧ w.cell? ⟨b, off + i, none⟩ = some (.int .u8 (bs.getD i 0))) := fun i hi => ⟨(h.bound hi).1, (h.bound hi).2, hc i hi⟩
      have HUL : Hid ((readU bs m).seen = (List.range m).map (entB bs)) := rfl
      have HU1 : Hid ((readU bs m).author = bs.getD 1 0) := rfl
      have HU2 : Hid ((readU bs m).kind = bs.getD 2 0) := rfl
      have HU3 : Hid ((readU bs m).key = bs.getD 3 0) := rfl
      have HU4 : Hid ((readU bs m).item = 256 * bs.getD 4 0 + bs.getD (4 + 1) 0 - 1000) := rfl
      generalize readU bs m = U at HW HUL HU1 HU2 HU3 HU4 ⊢
      obtain ⟨x1, HX1⟩ : ∃ y, Hid (bs.getD 1 0 = y) := ⟨_, rfl⟩
      obtain ⟨x2, HX2⟩ : ∃ y, Hid (bs.getD 2 0 = y) := ⟨_, rfl⟩
      obtain ⟨x3, HX3⟩ : ∃ y, Hid (bs.getD 3 0 = y) := ⟨_, rfl⟩
      obtain ⟨x4, HX4⟩ : ∃ y, Hid (bs.getD 4 0 = y) := ⟨_, rfl⟩
      obtain ⟨x5, HX5⟩ : ∃ y, Hid (bs.getD (4 + 1) 0 = y) := ⟨_, rfl⟩
      rw [HX1.out] at b1 c1 HU1
      rw [HX2.out] at b2 c2 HU2
      rw [HX3.out] at b3 c3 HU3
      rw [HX4.out] at b4 c4 HU4
      rw [HX5.out] at b5 c5 HU4
      obtain ⟨L, HL⟩ : ∃ L, Hid (bs.length = L) := ⟨_, rfl⟩
      rw [HL.out] at h6 hlen hq HC ⊢
      have h6' : ¬ (L : Int) < 6 := by omega
      have l0 : (0 : Int) < (L : Int) := by omega
      have l1 : (1 : Int) < (L : Int) := by omega
      have l2 : (2 : Int) < (L : Int) := by omega
      have l3 : (3 : Int) < (L : Int) := by omega
      have l4 : (4 : Int) < (L : Int) := by omega
      have l5 : (5 : Int) < (L : Int) := by omega
      have hqq : ((L : Int) != 6 + 2 * (m : Int)) = false := by simp; omega
      have HQ := hide hq
      clear hq h6 HL h hc
      obtain ⟨b1, b1'⟩ := b1
      obtain ⟨b2, b2'⟩ := b2
      obtain ⟨b3, b3'⟩ := b3
      obtain ⟨b4, b4'⟩ := b4
      obtain ⟨b5, b5'⟩ := b5
      have hw1 : IntKind.i64.wrap x1 = x1 := wrapS (by omega) (by omega)
      have hw2 : IntKind.i64.wrap x2 = x2 := wrapS (by omega) (by omega)
      have hw3 : IntKind.i64.wrap x3 = x3 := wrapS (by omega) (by omega)
      have hw4 : IntKind.i64.wrap x4 = x4 := wrapS (by omega) (by omega)
      have hw5 : IntKind.i64.wrap x5 = x5 := wrapS (by omega) (by omega)
      have hw6 : IntKind.i64.wrap (256 * x4) = 256 * x4 := wrapS (by omega) (by omega)
      have hw7 : IntKind.i64.wrap (256 * x4 + x5) = 256 * x4 + x5 := wrapS (by omega) (by omega)
      have hw8 : IntKind.i64.wrap (256 * x4 + x5 - 1000) = 256 * x4 + x5 - 1000 := wrapS (by omega) (by omega)
      obtain ⟨i0, hi, hz0, hz1, hz2⟩ := info_parts Try.infoInt
      obtain ⟨PL, HPL⟩ : ∃ PL : Nat → List Value, Hid (∀ k, PL k = ((List.range k).map (entB bs)).map (Value.int .i64)) := ⟨_, fun _ => rfl⟩
      obtain ⟨r, HR⟩ : ∃ r, Hid (wrongU U m = r) := ⟨_, rfl⟩
      rw [HR.out]
      have HK : Hid (∀ w', Grew w w' → w'.cell? ⟨b, off + 1, none⟩ = some (.int .u8 x1) ∧ w'.cell? ⟨b, off + 2, none⟩ = some (.int .u8 x2) ∧ w'.cell? ⟨b, off + 3, none⟩ = some (.int .u8 x3) ∧ w'.cell? ⟨b, off + 4, none⟩ = some (.int .u8 x4) ∧ w'.cell? ⟨b, off + 5, none⟩ = some (.int .u8 x5)) :=
        fun w' (hb : Below w.heap.size w w') => ⟨(hb.cell hbw).trans c1, (hb.cell hbw).trans c2, (hb.cell hbw).trans c3, (hb.cell hbw).trans c4, (hb.cell hbw).trans c5⟩
      go_enter Try.func32, Try.ntmps32
      go_upto_region 6 with fail
      go_region_held3 (fun w' => w'.cell? ⟨b, off + 1, none⟩ = some (.int .u8 x1) ∧ w'.cell? ⟨b, off + 2, none⟩ = some (.int .u8 x2) ∧ w'.cell? ⟨b, off + 3, none⟩ = some (.int .u8 x3) ∧ w'.cell? ⟨b, off + 4, none⟩ = some (.int .u8 x4) ∧ w'.cell? ⟨b, off + 5, none⟩ = some (.int .u8 x5))
        ((refine HK.out _ ?_; simp (maxDischargeDepth := 30) only [grew_refl, grew_alloc, grew_drew])) (fail)
      go_wp2_with fail
      have HX : Hid (Box ((w.alloc (.cells #[.int .i64 0, .slice none 0 0, .int .i64 0, .int .i64 0, .int .i64 0] 38)).alloc (.cells #[.int .i64 x1, .slice none 0 0, .int .i64 x2, .int .i64 x3, .int .i64 (256 * x4 + x5 - 1000)] 38)).drew (w.heap.size + 1) [.int .i64 x1, .slice none 0 0, .int .i64 x2, .int .i64 x3, .int .i64 (256 * x4 + x5 - 1000)] 38) := by
        have := Box.new (w.alloc (.cells #[.int .i64 0, .slice none 0 0, .int .i64 0, .int .i64 0, .int .i64 0] 38)) [.int .i64 x1, .slice none 0 0, .int .i64 x2, .int .i64 x3, .int .i64 (256 * x4 + x5 - 1000)] 38
        rw [World.size_alloc] at this
        exact this
      have HZ1 : Hid (Box ((w.alloc (.cells #[.int .i64 0, .slice none 0 0, .int .i64 0, .int .i64 0, .int .i64 0] 38)).alloc (.cells #[.int .i64 x1, .slice none 0 0, .int .i64 x2, .int .i64 x3, .int .i64 (256 * x4 + x5 - 1000)] 38)).drew w.heap.size zeroCells 38) := HZ.out.plus _
      have HB1 : Hid (Below w.heap.size w ((w.alloc (.cells #[.int .i64 0, .slice none 0 0, .int .i64 0, .int .i64 0, .int .i64 0] 38)).alloc (.cells #[.int .i64 x1, .slice none 0 0, .int .i64 x2, .int .i64 x3, .int .i64 (256 * x4 + x5 - 1000)] 38)).drew) := Below.drew (Below.plus HB.out _)
      have HO1 : Hid (((w.alloc (.cells #[.int .i64 0, .slice none 0 0, .int .i64 0, .int .i64 0, .int .i64 0] 38)).alloc (.cells #[.int .i64 x1, .slice none 0 0, .int .i64 x2, .int .i64 x3, .int .i64 (256 * x4 + x5 - 1000)] 38)).drew.ownsRow (w.heap.size + 2) 3 1 (.slice none 0 0) 0 (PL 0)) := by
        rw [HPL.out 0]; exact World.ownsRow_nil _ _ _ _
      clear HZ HB HK c0 c1 c2 c3 c4 c5 hw1 hw2 hw3 hw4 hw5 hw6 hw7 hw8 l0 l1 l2 l3 l4 l5 b1 b1' b2 b2' b3 b3' b4 b4' b5 b5' hqq
      obtain ⟨x6, HX6⟩ : ∃ y, Hid (256 * x4 + x5 - 1000 = y) := ⟨_, rfl⟩
      rw [HX6.out] at HX HZ1 HB1 HO1 HU4 ⊢
      obtain ⟨W, HWW⟩ : ∃ W, Hid (((w.alloc (.cells #[.int .i64 0, .slice none 0 0, .int .i64 0, .int .i64 0, .int .i64 0] 38)).alloc (.cells #[.int .i64 x1, .slice none 0 0, .int .i64 x2, .int .i64 x3, .int .i64 x6] 38)).drew = W) := ⟨_, rfl⟩
      rw [HWW.out] at HX HZ1 HB1 HO1 ⊢
      clear HWW
      go_loopw [7] (fun i wr => ∃ (k : Nat) (V : Value), k ≤ m ∧ i = .int .i64 k ∧ Hid (Box wr (w.heap.size + 1) [.int .i64 x1, V, .int .i64 x2, .int .i64 x3, .int .i64 x6] 38) ∧ Hid (wr.ownsRow (w.heap.size + 2) 3 1 V k (PL k)) ∧ Hid (Box wr w.heap.size zeroCells 38) ∧ Hid (Below w.heap.size w wr)) (fun i _ => m - (intOf i).toNat)
      case atStart => exact ⟨0, _, Nat.zero_le _, rfl, HX, HO1, HZ1, HB1⟩
      case round =>
        obtain ⟨k, V, hk, rfl, HX', HO', HZ', HB'⟩ := hrel
        clear HX HO1 HZ1 HB1
        by_cases hlt : k < m
        · have hlt' : (k : Int) < (m : Int) := by omega
          obtain ⟨p0, p1, cp⟩ := HC.out (6 + 2 * k) (by have := HQ.out; omega)
          obtain ⟨q0, q1, cq⟩ := HC.out (6 + 2 * k + 1) (by have := HQ.out; omega)
          have HEN : Hid (entB bs k = 256 * bs.getD (6 + 2 * k) 0 + bs.getD (6 + 2 * k + 1) 0) := rfl
          obtain ⟨p, HP⟩ : ∃ y, Hid (bs.getD (6 + 2 * k) 0 = y) := ⟨_, rfl⟩
          obtain ⟨q, HQQ⟩ : ∃ y, Hid (bs.getD (6 + 2 * k + 1) 0 = y) := ⟨_, rfl⟩
          rw [HP.out] at p0 p1 cp HEN
          rw [HQQ.out] at q0 q1 cq HEN
          have d1 := HX'.out.get 1 rfl
          have e1 := (HB'.out.cell hbw).trans cp
          have e2 := (HB'.out.cell hbw).trans cq
          rw [show 6 + 2 * k + 1 = 7 + 2 * k by omega] at e2
          have t1 : (6 + 2 * (k : Int)).toNat = 6 + 2 * k := by omega
          have t2 : (7 + 2 * (k : Int)).toNat = 7 + 2 * k := by omega
          clear cp cq
          have l1 : 6 + 2 * (k : Int) < (L : Int) := by have := HQ.out; omega
          have l2 : 7 + 2 * (k : Int) < (L : Int) := by have := HQ.out; omega
          have l0 : (0 : Int) ≤ 6 + 2 * (k : Int) := by omega
          have l0' : (0 : Int) ≤ 7 + 2 * (k : Int) := by omega
          have w1 : IntKind.i64.wrap (2 * (k : Int)) = 2 * k := wrapS (by omega) (by omega)
          have w2 : IntKind.i64.wrap (6 + 2 * (k : Int)) = 6 + 2 * k := wrapS (by omega) (by omega)
          have w3 : IntKind.i64.wrap (7 + 2 * (k : Int)) = 7 + 2 * k := wrapS (by omega) (by omega)
          have w4 : IntKind.i64.wrap p = p := wrapS (by omega) (by omega)
          have w5 : IntKind.i64.wrap q = q := wrapS (by omega) (by omega)
          have w6 : IntKind.i64.wrap (256 * p) = 256 * p := wrapS (by omega) (by omega)
          have w7 : IntKind.i64.wrap (256 * p + q) = 256 * p + q := wrapS (by omega) (by omega)
          have hlt2 : w.heap.size + 1 < wr.heap.size := HX'.out.lt
          have hbr : b < wr.heap.size := by omega
          go_upto_region 10 with fail
          go_region_law ((
            refine step_append_own rfl (.tmp 54) (.tmp 71) 23 rfl (w.heap.size + 2) 3 i0 (.int .i64 0) 1 8 Try.underlying23 hi hz0 hz1 hz2 rfl (by decide) V k (PL k) rfl ?s2 ⟨wr.heap.size, 0, none⟩ 1 1 [.int .i64 (256 * p + q)] rfl rfl ?s4 ?s5 ?s6 ?s7 ?s8 ?_
            case s2 => exact HO'.out.alloc _
            case s4 => intro j u hj; match j, hj with | 0, hj => simp at hj; subst hj; simp [Addr.add]
            case s5 => intro u hj; simp at hj; subst hj; rfl
            case s6 => unfold maxLen; omega
            case s7 => omega
            case s8 => simp; omega
            intro V' w9 hown' hgrow
            obtain ⟨gV, cV, hV⟩ := owned_form hown' (by omega)
            have hb9 : Below (w.heap.size + 2) wr w9 := Below.grown (w := (wr.alloc (.cells #[.int .i64 (256 * p + q)] 3)).drew) (((Below.refl (w.heap.size + 2) wr).alloc (by omega) _).drew) hgrow (by simp; omega) (fun g hg => (HO'.out.lt g hg).1)
            have c9 := (HX'.out.low hb9 (by omega)).get 1 rfl
            have f9 := (HX'.out.low hb9 (by omega)).free 1
            have HO9 := hide hown'
            have HB9 := hide hb9
            clear hown' hgrow hb9
            subst hV))
          all_goals (
            clear c9 f9 d1 e1 e2
            go_wp2_with fail
            go_roundw
            case rel =>
              refine ⟨k + 1, _, by omega, by go_num, hide ((HX'.out.low HB9.out (by omega)).set 1 _), hide ?_, hide ((HZ'.out.low HB9.out (by omega)).away (by omega)), hide ((HB'.out.trans (HB9.out.mono (by omega))).setCell (by show w.heap.size ≤ w.heap.size + 1; omega) _)⟩
              have e : PL (k + 1) = PL k ++ [.int .i64 (256 * p + q)] := by
                rw [HPL.out, HPL.out, List.range_succ, List.map_append, List.map_append, ← HEN.out]; rfl
              rw [e]
              exact ownsRow_setCell_below HO9.out (by show w.heap.size + 1 < w.heap.size + 2; omega) _
            case measure => simp [intOf]; omega)
        · have hlt' : ¬ (k : Int) < (m : Int) := by omega
          obtain rfl : k = m := by omega
          have hVf : ∃ a c, V = .slice a k c := by
            rcases HO'.out.2 with ⟨h1, h2⟩ | ⟨g, c, cur, h1, -⟩
            · exact ⟨_, _, by rw [h1, h2]⟩
            · exact ⟨_, _, h1⟩
          obtain ⟨aV, cV, rfl⟩ := hVf
          have HOW : Hid (Own wr (w.heap.size + 2) (.slice aV k cV) U.seen) := by
            have := HO'.out
            unfold Hid Own
            rw [HPL.out] at this
            rw [HUL.out]
            simpa using this
          clear HO'
          have d0 := HX'.out.get 0 rfl
          have d1 := HX'.out.get 1 rfl
          have d2 := HX'.out.get 2 rfl
          have d3 := HX'.out.get 3 rfl
          have d4 := HX'.out.get 4 rfl
          have HIN : Hid (IsUpd wr (.agg #[.int .i64 x1, .slice aV k cV, .int .i64 x2, .int .i64 x3, .int .i64 x6]) U) :=
            ⟨_, by rw [HU1.out, HU2.out, HU3.out, HU4.out], HOW.out.row⟩
          go_wp2_with fail
          refine (HW.out _ _ HIN.out).mono ?_
          rintro e w4 ⟨rfl, hb4⟩
          rw [HR.out]
          have HX4 := hide (HX'.out.below hb4 (Nat.le_refl _))
          have HZ4 := hide (HZ'.out.below hb4 (Nat.le_refl _))
          have HB4 := hide (below_step HB'.out hb4)
          have HO4 := hide (HOW.out.below hb4 (Nat.le_refl _))
          clear d0 d1 d2 d3 d4 HX' HZ' HOW HB' hb4 HIN
          have e0 := HZ4.out.get 0 rfl
          have e1 := HZ4.out.get 1 rfl
          have e2 := HZ4.out.get 2 rfl
          have e3 := HZ4.out.get 3 rfl
          have e4 := HZ4.out.get 4 rfl
          have f0 := HZ4.out.free 0
          have f1 := HZ4.out.free 1
          have f2 := HZ4.out.free 2
          have f3 := HZ4.out.free 3
          have f4 := HZ4.out.free 4
          have d0 := HX4.out.get 0 rfl
          have d1 := HX4.out.get 1 rfl
          have d2 := HX4.out.get 2 rfl
          have d3 := HX4.out.get 3 rfl
          have d4 := HX4.out.get 4 rfl
          by_cases hr : r = 0
          · subst hr
            go_wp2_with fail
            have hX := ((((HZ4.out.set 0 (.int .i64 x1)).set 1 (.slice aV k cV)).set 2 (.int .i64 x2)).set 3 (.int .i64 x3)).set 4 (.int .i64 x6)
            have hlt : ∀ (i : Nat), (⟨w.heap.size, i, none⟩ : Addr).block < w.heap.size + 2 := fun i => by show w.heap.size < _; omega
            have hS0 := ownsRow_setCell_below (ownsRow_setCell_below (ownsRow_setCell_below (ownsRow_setCell_below (ownsRow_setCell_below HO4.out (hlt 0) (.int .i64 x1)) (hlt 1) (.slice aV k cV)) (hlt 2) (.int .i64 x2)) (hlt 3) (.int .i64 x3)) (hlt 4) (.int .i64 x6)
            refine bodyPost_ret (results_cell_tmp2 rfl _ _ w.heap.size 38 _ (0, 0) _ rfl hX Try.underlying38 rfl Try.sizeUpd) rfl ⟨_, rfl, ⟨.slice aV k cV, ?_, Own.row hS0⟩, ?_⟩
            · rw [HU1.out, HU2.out, HU3.out, HU4.out]; rfl
            · exact ((((HB4.out.setCell (Nat.le_refl _) _).setCell (Nat.le_refl _) _).setCell (Nat.le_refl _) _).setCell (Nat.le_refl _) _).setCell (Nat.le_refl _) _
          · have hr' : (r != 0) = true := by simp [hr]
            go_wp2_with fail
            have hX := ((((HZ4.out.set 0 (.int .i64 0)).set 1 (.slice none 0 0)).set 2 (.int .i64 0)).set 3 (.int .i64 0)).set 4 (.int .i64 0)
            refine bodyPost_ret (results_cell_tmp2 rfl _ _ w.heap.size 38 _ (0, 0) _ rfl hX Try.underlying38 rfl Try.sizeUpd) rfl ?_
            exact ⟨_, rfl, isUpd_zero _, ((((HB4.out.setCell (Nat.le_refl _) _).setCell (Nat.le_refl _) _).setCell (Nat.le_refl _) _).setCell (Nat.le_refl _) _).setCell (Nat.le_refl _) _⟩
    · have HF : Hid (formB bs = true) := by unfold Hid; rw [formB, hm, decide_eq_true_iff]; omega
      have HE : Hid (parseE bs = 2) := by simp [Hid, parseE, HF.out]
      have HN : Hid (parseN bs = 0) := by simp [Hid, parseN, HE.out]
      have HU : Hid (parseU bs = zeroUpd) := by simp [Hid, parseU, HE.out]
      rw [HE.out, HN.out, HU.out]
      clear HE HN HU HF hm h hc
      obtain ⟨L, HL⟩ : ∃ L, Hid (bs.length = L) := ⟨_, rfl⟩
      rw [HL.out] at h6 hlen hq ⊢
      have h6' : ¬ (L : Int) < 6 := by omega
      have h0' : (0 : Int) < (L : Int) := by omega
      have hqq : ((L : Int) != 6 + 2 * (m : Int)) = true := by simp; omega
      clear hq h6 HL
      go_enter Try.func32, Try.ntmps32
      go_wp2_with fail
      refine bodyPost_ret (results_cell_tmp2 rfl _ _ w.heap.size 38 _ (0, 0) _ rfl HZ.out Try.underlying38 rfl Try.sizeUpd) rfl ⟨_, rfl, isUpd_zero _, HB.out⟩
end Go.Proofs.Ytiomdleoafakkaa
