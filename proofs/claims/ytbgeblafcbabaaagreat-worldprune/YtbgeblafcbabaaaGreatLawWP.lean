/- WorldPrune, walked. -/
import Derived.Test.YtbgeblafcbabaaaGreatWdD
import Derived.Test.YtbgeblafcbabaaaGreatGrow
namespace Go.Proofs.YtbgeblafcbabaaaGreat
open Go.RowKit

section
variable {P : Program} (w : World)

theorem run_append_own_srcW (base : Nat) (t tx ty e : TypeId) (i : TypeInfo) (z : Value) (size bytes : Nat) (ht : P.underlying t = some (.slice e)) (hi : P.info? e = some i) (hz : i.zero = some z)
  (hsize : i.size = size) (hby : i.bytes = bytes) (hzs : z.cells.size = size)
  (v : Value) (n : Nat) (xs : List Value) (hown : w.ownsRow base e size v n xs)
  (x : Value) (m : Nat) (news : List Value) (hs : Src P size tx x m news w)
  (h63 : n + m ≤ maxLen) (hbytes : (n + m) * bytes ≤ 140737488355328) (hbase : base ≤ w.heap.size) :
  ∃ v' w', (Builtin.append_ #[t, tx] ty #[v, x]).run P w = .ok v' w' ∧ w'.ownsRow base e size v' (n + m) (xs ++ news) ∧ w.grownBy w' v.ownBlock := by
 subst hsize
 subst hby
 have hsmall : n + m ≤ 9223372036854775807 := by simp only [maxLen] at h63; omega
 have hlen : (xs ++ news).length = (n + m) * i.size := by rw [List.length_append, hown.1, hs.newsLen, Nat.add_mul]
 have grown : ∀ (old : Nat), old < n + m → ∀ (row : Option Nat),
   (w.drew.alloc (.cells ((xs ++ news).toArray ++ Builtin.zeroCells z.cells (grownCap w (n + m) old e - (n + m))) e)).ownsRow base e i.size
    (.slice (some ⟨w.heap.size, 0, none⟩) (n + m) (grownCap w (n + m) old e)) (n + m) (xs ++ news) ∧
   w.grownBy (w.drew.alloc (.cells ((xs ++ news).toArray ++ Builtin.zeroCells z.cells (grownCap w (n + m) old e - (n + m))) e)) row := by
  intro old ho row
  have hge := grownCap_ge w (n + m) old e
  have hcm : grownCap w (n + m) old e ≤ maxLen := grownCap_le_maxLen w (n + m) old e h63
  refine ⟨⟨hlen, .inr ⟨w.heap.size, _, _, rfl, hbase, heap_alloc_new w.drew _, hge, hcm, ?_, ?_⟩⟩, ⟨rfl, rfl, rfl, by simp, fun k hk _ => heap_alloc_old w.drew _ hk⟩⟩
  ·simp only [Array.size_append, List.size_toArray, size_zeroCells, hzs, hlen, ← Nat.add_mul]
   congr 1
   omega
  ·simp only [Array.toList_append, ← hlen]
   exact List.take_left
 rcases hown.2 with ⟨rfl, rfl⟩ | ⟨g, cap, cur, rfl, hbg, hg, hnc, hcm, hcs, htake⟩
 ·have hx : xs = [] := List.eq_nil_of_length_eq_zero (by simpa using hown.1)
  subst hx
  by_cases hm : m = 0
  ·subst hm
   have hn : news = [] := List.eq_nil_of_length_eq_zero (by simpa using hs.newsLen)
   subst hn
   refine ⟨.slice none 0 0, w, ?_, World.ownsRow_nil w base e i.size, World.grownBy.refl _ _⟩
   rcases hs.kind with ⟨e', hk⟩ | hk <;> simp [Builtin.append_, run_underlying ht, run_underlying hk, sizeOf, typeInfo, hi, hs.len, hs.cells]
  ·have hr := run_append_grow_src (P := P) w t tx ty e i z ht hi hz none 0 0 [] (run_firstCells_none w.drew i.size 0 0 0) x m news hs (by omega) (by omega) (growslice_fits (by omega) hbytes)
   have hgr := grown 0 (by omega) (Value.ownBlock (.slice none 0 0))
   exact ⟨_, _, hr, hgr.1, hgr.2⟩
 ·by_cases hroom : n + m ≤ cap
  ·have hfit : n * i.size + news.length ≤ cur.size := by rw [hs.newsLen, hcs, ← Nat.add_mul]; exact Nat.mul_le_mul_right _ hroom
   have hr := run_append_room_src (P := P) w t tx ty e i ht hi g 0 n cap x m news hs hroom
    (fun j hj => by rw [cell_of_row w g _ cur e (0, 0) hg, Array.getElem?_eq_getElem (by omega)]; rfl)
    (fun j hj => frozen_of_row w g _ cur e hg)
   rw [Nat.zero_add] at hr
   obtain ⟨⟨cur', h1, h2, h3⟩, h4⟩ := row_setCells g e news (n * i.size) w cur hg hfit
   refine ⟨_, _, hr, ⟨hlen, .inr ⟨g, cap, cur', rfl, hbg, h1, hroom, hcm, by rw [h2, hcs], ?_⟩⟩, h4⟩
   rw [Nat.add_mul, ← hs.newsLen, h3, htake]
  ·have holds : ∀ j u, xs[j]? = some u → w.cell? ((⟨g, 0, none⟩ : Addr).add j) = some u := hown.cells (g := g) rfl
   have hr := run_append_grow_src (P := P) w t tx ty e i z ht hi hz (some ⟨g, 0, none⟩) n cap xs (run_firstCells_some w.drew i.size n ⟨g, 0, none⟩ n cap xs hown.1 (by simpa using holds)) x m news hs (by omega) (by omega) (growslice_fits (by omega) hbytes)
   have hgr := grown cap (by omega) (Value.ownBlock (.slice (some ⟨g, 0, none⟩) n cap))
   exact ⟨_, _, hr, hgr.1, hgr.2⟩

theorem wpList_append_own_srcW {ops : Array Oper} {rest : List Oper} {o : Oper} {a : Act} {Q : Exit → Act → World → Prop} (hgd : o.guard = none) (s x : Operand) (t tx : TypeId)
  (ho : o.op = .call { callee := .builtin .append, args := #[s, x], argTypes := #[t, tx] })
  (base : Nat) (e : TypeId) (i : TypeInfo) (z : Value) (size bytes : Nat) (ht : P.underlying t = some (.slice e)) (hi : P.info? e = some i) (hz : i.zero = some z)
  (hsize : i.size = size) (hby : i.bytes = bytes) (hzs : z.cells.size = size)
  (v : Value) (n : Nat) (xs : List Value) (hv : a.eval s = v) (hown : w.ownsRow base e size v n xs)
  (xv : Value) (hx : a.eval x = xv) (m : Nat) (news : List Value) (hs : Src P size tx xv m news w)
  (h63 : n + m ≤ maxLen) (hbytes : (n + m) * bytes ≤ 140737488355328) (hbase : base ≤ w.heap.size)
  (h : ∀ v' w', w'.ownsRow base e size v' (n + m) (xs ++ news) → w.grownBy w' v.ownBlock → wpList P ops Q rest (a.put o.dst v') w') : wpList P ops Q (o :: rest) a w := by
 refine wpList_plain hgd fun K hK => ?_
 obtain ⟨v', w', hrun, r1, r2⟩ := run_append_own_srcW (P := P) w base t tx o.type e i z size bytes ht hi hz hsize hby hzs v n xs hown xv m news hs h63 hbytes hbase
 unfold Oper.wp
 simp [execOp, ho, resolve, invoke, builtin, hv, hx, hrun, Result.andThen]
 exact hK _ _ (h v' w' r1 r2)
end
theorem DoV.at {w : World} {a : Option Addr} {n c : Nat} {l : List DoS} (h : DoV w (.slice a n c) l) {i : Nat} {o : DoS} (ho : l[i]? = some o) : ∃ b off, a = some ⟨b, off, none⟩ ∧ DoAt w b (off + i * 8) o := by
 obtain ⟨a', c', h1, -, -, h4⟩ := h
 simp only [Value.slice.injEq] at h1
 obtain ⟨rfl, -, -⟩ := h1
 exact h4 i o ho
theorem cell_grew {w w' : World} {p : Addr} {v : Value} (hg : Grew w w') (h : w.cell? p = some v) : w'.cell? p = some v := (hg.cell (p := p) (World.block_lt_of_cell? w _ h)).trans h
theorem Tryz.infoDo : (Tryz.prog.info? 54).map (fun i => (i.zero, i.size, i.bytes)) = some (some (.agg #[.int .i64 0, .int .i64 0, .int .i64 0, .int .i64 0, .slice none 0 0, .int .i64 0, .int .i64 0, .int .i64 0]), 8, 80) := by kernel_rfl
def cells8 (o : DoS) (sv : Value) : List Value := [.int .i64 o.kind, .int .i64 o.n, .int .i64 o.dst, .int .i64 o.upd.author, sv, .int .i64 o.upd.kind, .int .i64 o.upd.key, .int .i64 o.upd.item]
def cells8s (ps : List (DoS × Value)) : List Value := ps.flatMap fun p => cells8 p.1 p.2
theorem cells8s_snoc (ps : List (DoS × Value)) (u : DoS) (sv : Value) : cells8s (ps ++ [(u, sv)]) = cells8s ps ++ cells8 u sv := by simp [cells8s]
theorem cells8s_get : ∀ (ps : List (DoS × Value)) (i j : Nat) (p : DoS × Value), ps[i]? = some p → j < 8 → (cells8s ps)[i * 8 + j]? = (cells8 p.1 p.2)[j]?
 | [], i, _, _, h, _ => by simp at h
 | q :: r, 0, j, p, h, hj => by
  simp at h
  subst h
  simp only [cells8s, List.flatMap_cons, Nat.zero_mul, Nat.zero_add]
  rw [List.getElem?_append_left (by simp [cells8]; exact hj)]
 | q :: r, i + 1, j, p, h, hj => by
  have ih := cells8s_get r i j p (by simpa using h) hj
  simp only [cells8s, List.flatMap_cons] at ih ⊢
  rw [List.getElem?_append_right (by simp [cells8]; omega)]
  rw [← ih]
  congr 1
  simp [cells8]; omega
def OwnD (R : Value → List Int → Prop) (w : World) (B : Nat) (v : Value) (ps : List (DoS × Value)) : Prop := w.ownsRow B 54 8 v ps.length (cells8s ps) ∧ ∀ p ∈ ps, R p.2 p.1.upd.seen
theorem OwnD.step {R : Value → List Int → Prop} {w w' : World} {B C : Nat} {v : Value} {ps : List (DoS × Value)} (h : OwnD R w B v ps) (hb : Below C w w') (hC : w.heap.size ≤ C) : OwnD R w' B v ps := ⟨ownsRow_below h.1 hb hC, h.2⟩
theorem OwnD.snoc {R : Value → List Int → Prop} {w : World} {B : Nat} {v sv : Value} {ps : List (DoS × Value)} {u : DoS} (h : ∀ p ∈ ps, R p.2 p.1.upd.seen) (hs : R sv u.upd.seen) (ho : w.ownsRow B 54 8 v (ps.length + 1) (cells8s ps ++ cells8 u sv)) : OwnD R w B v (ps ++ [(u, sv)]) := by
 refine ⟨by rw [cells8s_snoc]; simpa using ho, fun p hp => ?_⟩
 rcases List.mem_append.1 hp with hp | hp
 ·exact h p hp
 ·simp at hp
  subst hp
  exact hs
theorem OwnD.dos {R : Value → List Int → Prop} {w : World} {B : Nat} {v : Value} {ps : List (DoS × Value)} (h : OwnD R w B v ps) (hR : ∀ sv xs, R sv xs → Row w sv xs) : DoV w v (ps.map (·.1)) := by
 obtain ⟨h, hs⟩ := h
 rcases h.2 with ⟨rfl, h0⟩ | ⟨g, cap, cur, rfl, hg, hh, h1, h2, h3, h4⟩
 ·have : ps = [] := List.eq_nil_of_length_eq_zero h0
  subst this
  exact ⟨none, 0, rfl, by simp, by unfold maxLen; omega, fun i o hi => by simp at hi⟩
 ·refine ⟨some ⟨g, 0, none⟩, cap, by simp, by simpa using h1, h2, fun i u hi => ⟨g, 0, rfl, ?_⟩⟩
  simp only [List.getElem?_map, Option.map_eq_some_iff] at hi
  obtain ⟨p, hp, rfl⟩ := hi
  have hil : i < ps.length := (List.getElem?_eq_some_iff.1 hp).1
  have cell : ∀ j, j < 8 → w.cell? ⟨g, 0 + i * 8 + j, none⟩ = (cells8 p.1 p.2)[j]? := by
   intro j hj
   rw [Nat.zero_add, ← cells8s_get ps i j p hp hj, ← h4]
   have : i * 8 + j < ps.length * 8 := by omega
   rw [List.getElem?_take_of_lt this]
   simp [World.cell?, hh]
  exact ⟨p.2, hR _ _ (hs p (List.mem_of_getElem? hp)), cell 0 (by omega), cell 1 (by omega), cell 2 (by omega), cell 3 (by omega), cell 4 (by omega), cell 5 (by omega), cell 6 (by omega), cell 7 (by omega)⟩
theorem ErrO.row {w : World} {B : Nat} {v : Value} {es : List Int} (h : ErrO w B v es) : Row w v es := by
 have hx := h
 rcases h.2 with ⟨rfl, h0⟩ | ⟨g, cap, cur, rfl, hg, hh, h1, h2, h3, h4⟩
 ·have : es = [] := List.eq_nil_of_length_eq_zero h0
  subst this
  exact Row.nil w
 ·refine ⟨some ⟨g, 0, none⟩, cap, rfl, by simpa using h1, h2, fun i hi => ⟨g, 0, rfl, ?_⟩⟩
  obtain ⟨g', hg', hc⟩ := hx.at (List.getElem?_eq_getElem hi)
  simp only [Option.some.injEq, Addr.mk.injEq, and_true] at hg'
  subst hg'
  rw [Nat.zero_add, hc, List.getD_eq_getElem?_getD, List.getElem?_eq_getElem hi]
  rfl
theorem WorldO.kept {w w' : World} {B : Nat} {v : Value} {W : WdS} (h : WorldO w B v W) (hk : Keeps [28] w w') : WorldO w' B v W := by
 rcases h with ⟨gn, gw, gr, rv, e, hx⟩ | h
 ·exact Or.inl ⟨gn, gw, gr, rv, e, hx.kept hk ⟨by decide, by decide, by decide, by decide, by decide⟩ (by decide) (by decide) (by decide) (by decide)⟩
 ·exact Or.inr h
theorem noPrune_take {l : List DoS} {k : Nat} {o : DoS} (h : l[k]? = some o) : noPrune (l.take (k + 1)) = if o.kind = 5 then noPrune (l.take k) else noPrune (l.take k) ++ [o] := by
 rw [take_snoc h]
 unfold noPrune
 rw [List.filter_append]
 by_cases h5 : o.kind = 5
 ·rw [if_pos h5]; simp [h5]
 ·rw [if_neg h5]; simp [h5]
theorem mem_of_all {C D : List Int} (h : ∀ i, i < (C ++ D).length → ¬ (C ++ D)[i]? = some 5) : (∀ e ∈ C, ¬ e = 5) ∧ ∀ e ∈ D, ¬ e = 5 := by
 have key : ∀ e ∈ C ++ D, ¬ e = 5 := by
  intro e he h5
  obtain ⟨i, hi, rfl⟩ := List.getElem_of_mem he
  exact h i hi (by rw [List.getElem?_eq_getElem hi, h5])
 exact ⟨fun e he => key e (List.mem_append.2 (.inl he)), fun e he => key e (List.mem_append.2 (.inr he))⟩

set_option maxRecDepth 100000 in
set_option maxHeartbeats 8000000 in
theorem wprune_law (n : Int) (lv : Value) (l : List DoS) (w0 : World) (hl : DoV w0 lv l) :
  Calls Tryz.prog 8 #[.int .i64 n, lv] w0 fun e w' => e = .returned (.bool true) ∧ Below w0.heap.size w0 w' := by
 have HB0 := hide (Below.refl w0.heap.size w0)
 have L0 := hide hl
 obtain ⟨la, lc, hlv, hcap, hmax, -⟩ := id hl
 subst hlv
 have hlen := hl.len_le
 obtain ⟨E, HE⟩ : ∃ E, Hid (playWE n l = E) := ⟨_, rfl⟩
 obtain ⟨X, HX⟩ : ∃ X, Hid (playWX n l = X) := ⟨_, rfl⟩
 obtain ⟨C, HC⟩ : ∃ C, Hid (playWC n l = C) := ⟨_, rfl⟩
 clear hl
 by_cases hE : E = 0
 ·subst hE
  obtain ⟨k, hk, hk1, hk6, hl150, hXr, hCr, hXn⟩ := played HE.out
  rw [HX.out] at hXr hXn
  rw [HC.out] at hCr
  have HI := hide (run_all hk1 hk6 l)
  rw [← hXr] at HI
  have HXR := hide hXr
  have HCR := hide hCr
  have HXN := hide hXn
  have HNK := hide hk
  clear hXr hCr hXn hk
  obtain ⟨i0, hi, hz0, hz1, hz2⟩ := info_parts Tryz.infoDo
  obtain ⟨i1, hy, hy0, hy1, hy2⟩ := info_parts Tryz.infoErrno
  go_enter Tryz.func8, Tryz.ntmps8
  go_wp2_with fail
  refine (alive7 _).mono ?_
  rintro e w1 ⟨rfl, hb1⟩
  have HB1 := hide (below_step HB0.out hb1)
  have L1 := hide (L0.out.below hb1 (nlr _))
  clear hb1 HB0 L0
  go_wp2_with fail
  refine (play_w n _ l _ L1.out).mono ?_
  rintro e w2 ⟨wv, cv, rfl, hW, hC, hb2⟩
  rw [HE.out]
  rw [HX.out] at hW
  rw [HC.out] at hC
  obtain ⟨a1, a2, hwv, hx6⟩ := hW.form
  subst hwv
  obtain ⟨ca, cc, hcv⟩ := hC.form
  subst hcv
  have hbp := Below.plus (Below.refl w2.heap.size w2) (.cells #[.slice a1 X.nodes.length X.nodes.length, .slice a2 X.nodes.length X.nodes.length] 26)
  have W3 := hW.below hbp
  have C3 := hC.below hbp
  have B3 := Box.new w2 [.slice a1 X.nodes.length X.nodes.length, .slice a2 X.nodes.length X.nodes.length] 26
  have hb3 := below_step hb2 hbp
  obtain ⟨w3, HW3⟩ : ∃ W, Hid (w2.alloc (.cells #[.slice a1 X.nodes.length X.nodes.length, .slice a2 X.nodes.length X.nodes.length] 26) = W) := ⟨_, rfl⟩
  rw [HW3.out] at W3 C3 B3 hb3
  have HB3 := hide (below_step HB1.out hb3)
  have L3 := hide (L1.out.below hb3 (nlr _))
  have HWO := hide W3
  have HCO := hide C3
  have HBX := hide B3
  have HS1 := hide HB1.out.size
  have HS2 := hide hb3.size
  clear hW hC hbp W3 C3 B3 hb3 hb2 HB1 L1
  go_upto_region 4 with fail
  rw [HW3.out]
  go_wp2_with fail
  go_loopw [8, 29] (fun o q wr => ∃ (j : Nat) (ps : List (DoS × Value)), j ≤ l.length ∧ q = .int .i64 j ∧ Hid (ps.map (·.1) = noPrune (l.take j)) ∧ Hid (OwnD (Row w3) wr w3.heap.size o ps) ∧ Hid (Below w3.heap.size w3 wr)) (fun _ q _ => l.length - (intOf q).toNat)
  case atStart => exact ⟨0, [], Nat.zero_le _, rfl, rfl, ⟨World.ownsRow_nil _ _ _ _, fun p hp => by simp at hp⟩, Below.refl _ _⟩
  case round =>
   obtain ⟨j, ps, hj, rfl, HP, O4, HB4⟩ := hrel
   obtain ⟨w4, rfl⟩ : ∃ w4, w4 = wr := ⟨wr, rfl⟩
   by_cases hlt : j < l.length
   ·have hlt' : (j : Int) < (l.length : Int) := by omega
    obtain ⟨o, HO⟩ : ∃ o, Hid (l[j]? = some o) := ⟨_, List.getElem?_eq_getElem hlt⟩
    have HT := hide (noPrune_take HO.out)
    have HPL : Hid (ps.length ≤ 150) := by
     have h1 := congrArg List.length HP.out
     have h2 := List.length_filter_le (fun o : DoS => !decide (o.kind = 5)) (l.take j)
     have h3 := List.length_take (i := j) (l := l)
     simp only [List.length_map] at h1
     unfold noPrune at h1
     unfold Hid
     omega
    obtain ⟨lb, lo, hla, sv, hsv, d0, d1, d2, d3, d4, d5, d6, d7⟩ := L3.out.at HO.out
    subst hla
    obtain ⟨sa, sn, hsf, -, -, -⟩ := id hsv
    subst hsf
    have HSV := hide hsv
    have e0 := cell_grew HB4.out d0
    have e1 := cell_grew HB4.out d1
    have e2 := cell_grew HB4.out d2
    have e3 := cell_grew HB4.out d3
    have e4 := cell_grew HB4.out d4
    have e5 := cell_grew HB4.out d5
    have e6 := cell_grew HB4.out d6
    have e7 := cell_grew HB4.out d7
    have hbp := Below.plus (Below.refl w4.heap.size w4) (.cells #[.int .i64 o.kind, .int .i64 o.n, .int .i64 o.dst, .int .i64 o.upd.author, .slice sa o.upd.seen.length sn, .int .i64 o.upd.kind, .int .i64 o.upd.key, .int .i64 o.upd.item] 54)
    have A5 := Box.new w4 [.int .i64 o.kind, .int .i64 o.n, .int .i64 o.dst, .int .i64 o.upd.author, .slice sa o.upd.seen.length sn, .int .i64 o.upd.kind, .int .i64 o.upd.key, .int .i64 o.upd.item] 54
    have P5 := O4.out.step hbp (nlr _)
    obtain ⟨w5, HW5⟩ : ∃ W, Hid (w4.alloc (.cells #[.int .i64 o.kind, .int .i64 o.n, .int .i64 o.dst, .int .i64 o.upd.author, .slice sa o.upd.seen.length sn, .int .i64 o.upd.kind, .int .i64 o.upd.key, .int .i64 o.upd.item] 54) = W) := ⟨_, rfl⟩
    rw [HW5.out] at hbp A5 P5
    have HA5 := hide A5
    have O5 := hide P5
    have HB5 := hide (below_step HB4.out hbp)
    have F0 := hide (cell_grew HB5.out d0)
    have F1 := hide (cell_grew HB5.out d1)
    have F2 := hide (cell_grew HB5.out d2)
    have F3 := hide (cell_grew HB5.out d3)
    have F4 := hide (cell_grew HB5.out d4)
    have F5 := hide (cell_grew HB5.out d5)
    have F6 := hide (cell_grew HB5.out d6)
    have F7 := hide (cell_grew HB5.out d7)
    clear hbp A5 P5 hsv O4 HB4 d0 d1 d2 d3 d4 d5 d6 d7
    go_upto_region 10 with fail
    rw [HW5.out]
    clear e0 e1 e2 e3 e4 e5 e6 e7
    have p0 := HA5.out.get 0 rfl
    by_cases h5 : o.kind = 5
    ·have h5' : (o.kind != 5) = false := by simp [h5]
     rw [if_pos h5] at HT
     clear h5
     go_wp2_with fail
     go_roundw
     case rel => exact ⟨j + 1, ps, by omega, by go_num, hide (by rw [HT.out]; exact HP.out), O5, HB5⟩
     case measure => simp [intOf]; omega
    ·have h5' : (o.kind != 5) = true := by simp [h5]
     rw [if_neg h5] at HT
     clear h5
     have f0 := F0.out
     have f1 := F1.out
     have f2 := F2.out
     have f3 := F3.out
     have f4 := F4.out
     have f5 := F5.out
     have f6 := F6.out
     have f7 := F7.out
     go_wp2_with (at_builtin; refine wpList_append_own _ rfl (.tmp 37) (.tmp 42) 22 rfl w3.heap.size 54 i0 (.agg #[.int .i64 0, .int .i64 0, .int .i64 0, .int .i64 0, .slice none 0 0, .int .i64 0, .int .i64 0, .int .i64 0]) 8 80 Tryz.underlying22 hi hz0 hz1 hz2 rfl (by decide) _ _ _ rfl ((O5.out.step ((Below.refl w5.heap.size w5).alloc (nlr _) _) (nlr _)).1) ⟨w5.heap.size, 0, none⟩ 1 1 (cells8 o (.slice sa o.upd.seen.length sn)) rfl rfl ?c1 ?c2 ?c3 ?c4 ?c5 ?_)
     case c1 => intro j q hj; match j, hj with | 0, hj => (simp [cells8] at hj; subst hj; simp [Addr.add]) | 1, hj => (simp [cells8] at hj; subst hj; simp [Addr.add]) | 2, hj => (simp [cells8] at hj; subst hj; simp [Addr.add]) | 3, hj => (simp [cells8] at hj; subst hj; simp [Addr.add]) | 4, hj => (simp [cells8] at hj; subst hj; simp [Addr.add]) | 5, hj => (simp [cells8] at hj; subst hj; simp [Addr.add]) | 6, hj => (simp [cells8] at hj; subst hj; simp [Addr.add]) | 7, hj => (simp [cells8] at hj; subst hj; simp [Addr.add]) | (j + 8), hj => simp [cells8] at hj
     case c2 => intro q hq; simp only [cells8, List.mem_cons, List.not_mem_nil, or_false] at hq; rcases hq with rfl | rfl | rfl | rfl | rfl | rfl | rfl | rfl <;> rfl
     case c3 => unfold maxLen; have := HPL.out; omega
     case c4 => have := HPL.out; omega
     case c5 => have := HB5.out.size; simp; omega
     intro v' w6 hown' hgrow _
     have HB6 := hide (((Below.plus HB5.out _).grown hgrow (by have := HB5.out.size; simp; omega) (fun g hg => (World.ownsRow.lt O5.out.1 g hg).1)))
     have O6 := hide (OwnD.snoc (u := o) O5.out.2 HSV.out hown')
     clear hown' hgrow f0 f1 f2 f3 f4 f5 f6 f7
     go_wp2_with fail
     go_roundw
     case rel => exact ⟨j + 1, ps ++ [(o, .slice sa o.upd.seen.length sn)], by omega, by go_num, hide (by rw [HT.out, List.map_append, HP.out]; rfl), O6, HB6⟩
     case measure => simp [intOf]; omega
   ·have hkl : l.take j = l := List.take_of_length_le (by omega)
    have hlt' : ¬ (j : Int) < (l.length : Int) := by omega
    rw [hkl] at HP
    have M4 := hide (O4.out.dos (fun sv xs hr => hr.below HB4.out (nlr _)))
    rw [HP.out] at M4
    obtain ⟨Y, HY⟩ : ∃ Y, Hid (playWX n (noPrune l) = Y) := ⟨_, rfl⟩
    obtain ⟨D, HD⟩ : ∃ D, Hid (playWC n (noPrune l) = D) := ⟨_, rfl⟩
    have hpl : Hid (playWE n (noPrune l) = 0 ∧ Y = runX (beginW k) (noPrune l) ∧ D = runE (beginW k) (noPrune l)) := by
     unfold Hid
     rw [← HY.out, ← HD.out, HNK.out]
     exact playWE_ok hk1 hk6 (Nat.le_trans (List.length_filter_le _ _) hl150)
    have HYN : Hid (Y.nodes.length = X.nodes.length) := by unfold Hid; rw [hpl.out.2.1, runX_len, begin_len, HXN.out]
    have W4 := hide (HWO.out.below HB4.out)
    have C4 := hide (HCO.out.below HB4.out)
    have X4 := hide (HBX.out.below HB4.out (nlr _))
    have HBa := hide (below_step HB3.out HB4.out)
    have HS4 := hide (Nat.le_trans HS2.out HB4.out.size)
    clear hkl O4 HP HB4 HWO HCO HBX HB3 L3
    go_wp2_with fail
    refine (play_w n _ (noPrune l) _ M4.out).mono ?_
    rintro e w6 ⟨yv, dv, rfl, hW, hC, hb6⟩
    rw [hpl.out.1]
    rw [HY.out] at hW
    rw [HD.out] at hC
    obtain ⟨e1, e2, hyv, hy6⟩ := hW.form
    subst hyv
    obtain ⟨da, dc, hdv⟩ := hC.form
    subst hdv
    have hbp := Below.plus (Below.refl w6.heap.size w6) (.cells #[.slice e1 Y.nodes.length Y.nodes.length, .slice e2 Y.nodes.length Y.nodes.length] 26)
    have B7 := Box.new w6 [.slice e1 Y.nodes.length Y.nodes.length, .slice e2 Y.nodes.length Y.nodes.length] 26
    have Y7 := hW.below hbp
    have D7 := hC.below hbp
    have hb7 := below_step hb6 hbp
    obtain ⟨w7, HW7⟩ : ∃ W, Hid (w6.alloc (.cells #[.slice e1 Y.nodes.length Y.nodes.length, .slice e2 Y.nodes.length Y.nodes.length] 26) = W) := ⟨_, rfl⟩
    rw [HW7.out] at B7 Y7 D7 hb7
    have HB7 := hide (below_step HBa.out hb7)
    have HS7 := hide (Nat.le_trans HS4.out hb7.size)
    have HY7 := hide Y7
    have HD7 := hide D7
    have E7 := hide B7
    have W7 := hide (W4.out.below hb7)
    have C7 := hide (C4.out.below hb7)
    have X7 := hide (X4.out.below hb7 (nlr _))
    have HCL : Hid (C.length ≤ 150 ∧ D.length ≤ 150) := by
     unfold Hid
     rw [HCR.out, hpl.out.2.2, runE_length, runE_length]
     exact ⟨hl150, Nat.le_trans (List.length_filter_le _ _) hl150⟩
    clear hW hC hbp B7 Y7 D7 hb7 hb6 W4 C4 X4 M4 HBa
    go_upto_region 14 with fail
    rw [HW7.out]
    go_wp2_with (at_builtin; refine wpList_append_own_srcW _ rfl (.tmp 54) (.tmp 55) 27 27 rfl w1.heap.size 28 i1 (.int .i64 0) 1 8 Tryz.underlying27 hy hy0 hy1 hy2 rfl _ _ _ rfl C7.out _ rfl _ _ (HD7.out.row.src Tryz.underlying27) ?c3 ?c4 ?c5 ?_)
    case c3 => unfold maxLen; have := HCL.out; omega
    case c4 => have := HCL.out; omega
    case c5 => exact HS7.out
    intro v' w8 hown' hgrow
    have hk8 := keepsE C7.out hgrow
    obtain ⟨Z, HZ⟩ : ∃ Z, Hid (C ++ D = Z) := ⟨_, rfl⟩
    have Z8 : ErrO w8 w1.heap.size v' Z := by
     rw [← HZ.out]
     unfold ErrO
     rw [List.length_append, List.map_append]
     exact hown'
    have HZ8 := hide Z8
    have W8 := hide (W7.out.kept hk8)
    have Y8 := hide (HY7.out.kept hk8)
    have X8 := hide (hk8.box X7.out (by decide))
    have E8 := hide (hk8.box E7.out (by decide))
    have HB8 := hide (HB7.out.grown hgrow HB7.out.size (fun g hg => Nat.le_trans HS1.out (World.ownsRow.lt C7.out g hg).1))
    have hz300 : Z.length ≤ 300 := by rw [← HZ.out, List.length_append]; have := HCL.out; omega
    obtain ⟨za, zc, hzv⟩ := Z8.form
    subst hzv
    clear hown' hgrow hk8 Z8 W7 HY7 X7 E7 HB7 C7 HD7
    go_wp2_with fail
    go_loopw [58] (fun q wr => ∃ j : Nat, j ≤ Z.length ∧ q = .int .i64 j ∧ Hid (∀ i, i < j → ¬ Z[i]? = some 5) ∧ Hid (Below w8.heap.size w8 wr)) (fun q _ => Z.length - (intOf q).toNat)
    case atStart => exact ⟨0, Nat.zero_le _, rfl, fun i hi => absurd hi (by omega), hide (Below.refl _ _)⟩
    case round =>
     obtain ⟨q, hq, rfl, HNO, HBq⟩ := hrel
     obtain ⟨w9, rfl⟩ : ∃ w9, w9 = wr := ⟨wr, rfl⟩
     have HB9 := hide (below_step HB8.out HBq.out)
     by_cases hqt : q < Z.length
     ·have hqt' : (q : Int) < (Z.length : Int) := by omega
      obtain ⟨z, HZZ⟩ : ∃ z, Hid (Z[q]? = some z) := ⟨_, List.getElem?_eq_getElem hqt⟩
      obtain ⟨zg, hzg, hzc⟩ := (HZ8.out.below HBq.out).at HZZ.out
      subst hzg
      by_cases hz5 : z = 5
      ·subst hz5
       go_wp2_with fail
       go_ret
       exact ⟨rfl, HB9.out⟩
      ·have hz5' : (z == 5) = false := by simp [hz5]
       have HN1 : Hid (∀ i, i < q + 1 → ¬ Z[i]? = some 5) := fun i hi h => by
        rcases Nat.lt_or_ge i q with h1 | h1
        ·exact HNO.out i h1 h
        ·obtain rfl : i = q := by omega
         rw [HZZ.out] at h
         exact hz5 (Option.some.inj h)
       clear hz5
       go_wp2_with fail
       go_roundw
       case rel => exact ⟨q + 1, by omega, by go_num, HN1, HBq⟩
       case measure => simp [intOf]; omega
     ·have hqt' : ¬ (q : Int) < (Z.length : Int) := by omega
      have HSAME : Hid (∀ i, i < k → (X.nodes.getD i noNode).st = (Y.nodes.getD i noNode).st) := fun i hi => by
       obtain ⟨h1, h2⟩ := mem_of_all (C := C) (D := D) (fun i hi => by rw [HZ.out] at hi ⊢; exact HNO.out i (by omega))
       rw [HXR.out, hpl.out.2.1]
       exact prune_same hk1 hk6 l (by rw [← HCR.out]; exact h1) (by rw [← hpl.out.2.2]; exact h2) i hi
      have W9 := hide (W8.out.below HBq.out)
      have Y9 := hide (Y8.out.below HBq.out)
      have X9 := hide (X8.out.below HBq.out (nlr _))
      have E9 := hide (E8.out.below HBq.out (nlr _))
      clear HZ8 W8 Y8 X8 E8 HB8 HBq HNO
      have y0 := X9.out.get 0 rfl
      go_wp2_with fail
      clear y0
      go_loopw [68] (fun q wr => ∃ i : Nat, i ≤ X.nodes.length ∧ q = .int .i64 i ∧ Hid (Below w9.heap.size w9 wr)) (fun q _ => X.nodes.length - (intOf q).toNat)
      case atStart => exact ⟨0, Nat.zero_le _, rfl, hide (Below.refl _ _)⟩
      case round =>
       obtain ⟨i, hi, rfl, HBi⟩ := hrel
       obtain ⟨w10, rfl⟩ : ∃ w10, w10 = wr := ⟨wr, rfl⟩
       by_cases hlt : i < X.nodes.length
       ·have hlt' : (i : Int) < (X.nodes.length : Int) := by omega
        have hlu : i < Y.nodes.length := by rw [HYN.out]; exact hlt
        have hlu' : (i : Int) < (Y.nodes.length : Int) := by omega
        obtain ⟨d, HDD⟩ : ∃ d, Hid (X.nodes.getD i noNode = d) := ⟨_, rfl⟩
        obtain ⟨f, HFF⟩ : ∃ f, Hid (Y.nodes.getD i noNode = f) := ⟨_, rfl⟩
        have HST : Hid (f.st = d.st) := by unfold Hid; rw [← HDD.out, ← HFF.out]; exact (HSAME.out i (by have := HXN.out; omega)).symm
        obtain ⟨gn, ba1, bc1, ba2, bc2, ba3, bc3, ba4, bc4, ba5, bc5, ba6, bc6, hga, hno, q0, q1, q2, q3, q4, q5, q6⟩ := (W9.out.below HBi.out).at (getD_some (z := noNode) hlt)
        obtain ⟨gm, ea1, ec1, ea2, ec2, ea3, ec3, ea4, ec4, ea5, ec5, ea6, ec6, hgb, hnf, r0, r1, r2, r3, r4, r5, r6⟩ := (Y9.out.below HBi.out).at (getD_some (z := noNode) hlu)
        rw [HDD.out] at hno q0 q1 q2 q3 q4 q5 q6
        rw [HFF.out] at hnf r0 r1 r2 r3 r4 r5 r6
        subst hga
        subst hgb
        have X10 := hide (X9.out.below HBi.out (nlr _))
        have E10 := hide (E9.out.below HBi.out (nlr _))
        have N10 := hide hno.clk.2.2.1
        have M10 := hide (st_cast hnf.clk.2.2.1 HST.out)
        have HK : Hid (∀ w', Grew w10 w' → w'.cell? ⟨w2.heap.size, 0, none⟩ = some (.slice (some ⟨gn, 0, none⟩) X.nodes.length X.nodes.length) ∧ w'.cell? ⟨w6.heap.size, 0, none⟩ = some (.slice (some ⟨gm, 0, none⟩) Y.nodes.length Y.nodes.length) ∧ w'.cell? ⟨gn, i * 7 + 1, none⟩ = some (.slice ba1 d.st.clock.length bc1) ∧ w'.cell? ⟨gn, i * 7 + 2, none⟩ = some (.slice ba2 d.st.lives.length bc2) ∧ w'.cell? ⟨gn, i * 7 + 3, none⟩ = some (.slice ba3 d.st.tals.length bc3) ∧ w'.cell? ⟨gm, i * 7 + 1, none⟩ = some (.slice ea1 f.st.clock.length ec1) ∧ w'.cell? ⟨gm, i * 7 + 2, none⟩ = some (.slice ea2 f.st.lives.length ec2) ∧ w'.cell? ⟨gm, i * 7 + 3, none⟩ = some (.slice ea3 f.st.tals.length ec3)) := fun w' hg => ⟨(X10.out.below hg (nlr _)).get 0 rfl, (E10.out.below hg (nlr _)).get 0 rfl, cell_grew hg q1, cell_grew hg q2, cell_grew hg q3, cell_grew hg r1, cell_grew hg r2, cell_grew hg r3⟩
        clear hno hnf q0 q1 q2 q3 q4 q5 q6 r0 r1 r2 r3 r4 r5 r6
        go_upto_region 25 with fail
        go_cut [84] (fun c wx => c = .bool false ∧ Hid (Grew w10 wx))
        case first =>
         refine wp_region_held_drew (S := fun w' => w'.cell? ⟨w2.heap.size, 0, none⟩ = some (.slice (some ⟨gn, 0, none⟩) X.nodes.length X.nodes.length) ∧ w'.cell? ⟨w6.heap.size, 0, none⟩ = some (.slice (some ⟨gm, 0, none⟩) Y.nodes.length Y.nodes.length) ∧ w'.cell? ⟨gn, i * 7 + 1, none⟩ = some (.slice ba1 d.st.clock.length bc1) ∧ w'.cell? ⟨gn, i * 7 + 2, none⟩ = some (.slice ba2 d.st.lives.length bc2) ∧ w'.cell? ⟨gn, i * 7 + 3, none⟩ = some (.slice ba3 d.st.tals.length bc3) ∧ w'.cell? ⟨gm, i * 7 + 1, none⟩ = some (.slice ea1 f.st.clock.length ec1) ∧ w'.cell? ⟨gm, i * 7 + 2, none⟩ = some (.slice ea2 f.st.lives.length ec2) ∧ w'.cell? ⟨gm, i * 7 + 3, none⟩ = some (.slice ea3 f.st.tals.length ec3)) (by kernel_rfl) (HK.out _ (grew_drew (grew_refl _))) (fun hHeld => ?_)
         obtain ⟨wd, HWD⟩ : ∃ wd, Hid (w10.drew = wd) := ⟨_, rfl⟩
         have hgd : Grew w10 wd := by rw [← HWD.out]; exact grew_drew (grew_refl w10)
         rw [HWD.out] at hHeld ⊢
         refine take_yes 0 71 (.pointer (some ⟨w2.heap.size, 0, none⟩)) rfl rfl (by kernel_rfl) (by kernel_rfl) (by kernel_rfl) (fun _ _ _ h => h) rfl (by intro w hSw; (try dsimp only at hSw); go_simp) (by assumption) ?_
         simp only [Act.put, put1, put2, put3]
         refine take_yes 1 72 (.slice (some ⟨gn, 0, none⟩) X.nodes.length X.nodes.length) rfl rfl (by kernel_rfl) (by kernel_rfl) (by kernel_rfl) (fun _ _ _ h => h) rfl (by intro w hSw; (try dsimp only at hSw); go_simp) (by assumption) ?_
         simp only [Act.put, put1, put2, put3]
         refine take_yes 2 73 (.int .i64 (i : Int)) rfl rfl (by kernel_rfl) (by kernel_rfl) (by kernel_rfl) (fun _ _ _ h => h) rfl (by intro w hSw; (try dsimp only at hSw); go_simp) (by assumption) ?_
         simp only [Act.put, put1, put2, put3]
         refine take_yes 3 74 (.pointer (some ⟨gn, i * 7, none⟩)) rfl rfl (by kernel_rfl) (by kernel_rfl) (by kernel_rfl) (fun _ _ _ h => h) rfl (by intro w hSw; (try dsimp only at hSw); go_simp) (by assumption) ?_
         simp only [Act.put, put1, put2, put3]
         refine take_yes 4 75 (.pointer (some ⟨gn, i * 7 + 1, none⟩)) rfl rfl (by kernel_rfl) (by kernel_rfl) (by kernel_rfl) (fun _ _ _ h => h) rfl (by intro w hSw; (try dsimp only at hSw); go_simp) (by assumption) ?_
         simp only [Act.put, put1, put2, put3]
         refine take_yes 5 76 (.agg #[.slice ba1 d.st.clock.length bc1, .slice ba2 d.st.lives.length bc2, .slice ba3 d.st.tals.length bc3]) rfl rfl (by kernel_rfl) (by kernel_rfl) (by kernel_rfl) (fun _ _ _ h => h) rfl (by intro w hSw; (try dsimp only at hSw); go_simp) (by assumption) ?_
         simp only [Act.put, put1, put2, put3]
         refine take_yes 6 77 (.pointer (some ⟨w6.heap.size, 0, none⟩)) rfl rfl (by kernel_rfl) (by kernel_rfl) (by kernel_rfl) (fun _ _ _ h => h) rfl (by intro w hSw; (try dsimp only at hSw); go_simp) (by assumption) ?_
         simp only [Act.put, put1, put2, put3]
         refine take_yes 7 78 (.slice (some ⟨gm, 0, none⟩) Y.nodes.length Y.nodes.length) rfl rfl (by kernel_rfl) (by kernel_rfl) (by kernel_rfl) (fun _ _ _ h => h) rfl (by intro w hSw; (try dsimp only at hSw); go_simp) (by assumption) ?_
         simp only [Act.put, put1, put2, put3]
         refine take_yes 8 79 (.int .i64 (i : Int)) rfl rfl (by kernel_rfl) (by kernel_rfl) (by kernel_rfl) (fun _ _ _ h => h) rfl (by intro w hSw; (try dsimp only at hSw); go_simp) (by assumption) ?_
         simp only [Act.put, put1, put2, put3]
         refine take_yes 9 80 (.pointer (some ⟨gm, i * 7, none⟩)) rfl rfl (by kernel_rfl) (by kernel_rfl) (by kernel_rfl) (fun _ _ _ h => h) rfl (by intro w hSw; (try dsimp only at hSw); go_simp) (by assumption) ?_
         simp only [Act.put, put1, put2, put3]
         refine take_yes 10 81 (.pointer (some ⟨gm, i * 7 + 1, none⟩)) rfl rfl (by kernel_rfl) (by kernel_rfl) (by kernel_rfl) (fun _ _ _ h => h) rfl (by intro w hSw; (try dsimp only at hSw); go_simp) (by assumption) ?_
         simp only [Act.put, put1, put2, put3]
         refine take_yes 11 82 (.agg #[.slice ea1 f.st.clock.length ec1, .slice ea2 f.st.lives.length ec2, .slice ea3 f.st.tals.length ec3]) rfl rfl (by kernel_rfl) (by kernel_rfl) (by kernel_rfl) (fun _ _ _ h => h) rfl (by intro w hSw; (try dsimp only at hSw); go_simp) (by assumption) ?_
         simp only [Act.put, put1, put2, put3]
         refine wpAnyH_ready (rs := [12]) (by kernel_rfl) (by simp) ?_
         refine (AllReadyH.cons (o := _) rfl (fun K hK => ?_) AllReadyH.nil)
         go_simp
         refine (same_st _ _ d.st _ (N10.out.below hgd (nlr _)) (M10.out.below hgd (nlr _))).mono ?_
         rintro e w_12 ⟨rfl, hb_12⟩
         have hg_12 : Grew w10 w_12 := grew_step hgd hb_12
         refine hK.out _ _ (HK.out _ hg_12) (fun _ => ?_)
         clear hK K
         try simp only [Act.put, put1, put2, put3]
         refine take_yes 13 84 (.bool false) rfl rfl (by kernel_rfl) (by kernel_rfl) (by kernel_rfl) (fun _ _ _ h => h) rfl (by intro w hSw; (try dsimp only at hSw); go_simp) (by assumption) ?_
         simp only [Act.put, put1, put2, put3]
         refine wpAnyH_done (by kernel_rfl) ?_ _
         go_wp2_with fail
         go_meet
         exact ⟨rfl, hg_12⟩
        case rest =>
         obtain ⟨rfl, HGR⟩ := hcut
         obtain ⟨w11, rfl⟩ : ∃ w11, w11 = wc := ⟨wc, rfl⟩
         have HB11 := hide (below_step HBi.out HGR.out)
         go_wp2_with fail
         go_roundw
         case rel => exact ⟨i + 1, by omega, by go_num, HB11⟩
         case measure => simp [intOf]; omega
       ·have hlt' : ¬ (i : Int) < (X.nodes.length : Int) := by omega
        have HBw := hide (below_step HB9.out HBi.out)
        go_wp2_with fail
        go_ret
        exact ⟨rfl, HBw.out⟩
 ·have hE' : (E != 0) = true := by simp [hE]
  clear hE
  go_enter Tryz.func8, Tryz.ntmps8
  go_wp2_with fail
  refine (alive7 _).mono ?_
  rintro e w1 ⟨rfl, hb1⟩
  have HB1 := hide (below_step HB0.out hb1)
  have L1 := hide (L0.out.below hb1 (nlr _))
  clear hb1 HB0 L0
  go_wp2_with fail
  refine (play_w n _ l _ L1.out).mono ?_
  rintro e w2 ⟨wv, cv, rfl, hW, hC, hb2⟩
  rw [HE.out]
  rw [HX.out] at hW
  rw [HC.out] at hC
  obtain ⟨a1, a2, hwv, hx6⟩ := hW.form
  subst hwv
  obtain ⟨ca, cc, hcv⟩ := hC.form
  subst hcv
  have hbp := Below.plus (Below.refl w2.heap.size w2) (.cells #[.slice a1 X.nodes.length X.nodes.length, .slice a2 X.nodes.length X.nodes.length] 26)
  have W3 := hW.below hbp
  have C3 := hC.below hbp
  have B3 := Box.new w2 [.slice a1 X.nodes.length X.nodes.length, .slice a2 X.nodes.length X.nodes.length] 26
  have hb3 := below_step hb2 hbp
  obtain ⟨w3, HW3⟩ : ∃ W, Hid (w2.alloc (.cells #[.slice a1 X.nodes.length X.nodes.length, .slice a2 X.nodes.length X.nodes.length] 26) = W) := ⟨_, rfl⟩
  rw [HW3.out] at W3 C3 B3 hb3
  have HB3 := hide (below_step HB1.out hb3)
  have L3 := hide (L1.out.below hb3 (nlr _))
  have HWO := hide W3
  have HCO := hide C3
  have HBX := hide B3
  clear hW hC hbp W3 C3 B3 hb3 hb2 HB1 L1
  go_wp2_with fail
  go_ret
  rw [HW3.out]
  exact ⟨rfl, HB3.out⟩
end Go.Proofs.YtbgeblafcbabaaaGreat
