/- A slice of integers that came in as an argument reads as a list of numbers. -/
import Derived.Test.YtfhecilhcofboaaGreatBase
import Derived.Test.YtfhecilhcofboaaGreatLogA
import Derived.ProofKit
import Derived.OpenShut
import Derived.ShutString
import Derived.ChangeOld
import Derived.Below
import Derived.Deep.Slices
import Derived.Test.YtfhecilhcofboaaGreatStF
import Derived.Test.YtfhecilhcofboaaGreatNdMem
namespace Go.Proofs.YtfhecilhcofboaaGreat
open Go.RowKit

theorem addr_add (b off j : Nat) : (⟨b, off, none⟩ : Addr).add j = ⟨b, off + j, none⟩ := by
 simp only [Addr.add]
 split
 ·next e => rw [e]; rfl
 rfl

theorem row_of_cells {w : World} {a : Option Addr} {len cap : Nat} {zs : List Int}
  (h : (a = none ∧ len = 0 ∧ cap = 0 ∧ zs = []) ∨ ∃ x, a = some x ∧ len ≤ cap ∧ cap ≤ maxLen ∧ zs.length = cap ∧ (∀ i, i < zs.length → w.cell? (x.add i) = some (.int .i64 (zs.getD i 0))) ∧ ∀ n ∈ zs, (Lit.int .i64 n).wf = true) :
  Row w (.slice a len cap) (zs.take len) := by
 rcases h with ⟨rfl, rfl, rfl, rfl⟩ | ⟨x, rfl, h1, h2, h3, h4, -⟩
 ·exact ⟨none, 0, rfl, by simp, by unfold maxLen; omega, fun i hi => by simp at hi⟩
 have hl : (zs.take len).length = len := by rw [List.length_take]; omega
 refine ⟨some x, cap, by rw [hl], by omega, h2, fun i hi => ?_⟩
 rw [hl] at hi
 have hc := h4 i (by omega)
 obtain ⟨b, off, spot⟩ := x
 have hspot : spot = none := by simpa [Addr.add] using World.cell?_spot (h4 0 (by omega))
 subst hspot
 rw [addr_add] at hc
 refine ⟨b, off, rfl, ?_⟩
 rw [hc]
 have h5 : (zs.take len).getD i 0 = zs.getD i 0 := by simp [List.getD, hi]
 rw [h5]
end Go.Proofs.YtfhecilhcofboaaGreat
/- What came in as data: a clock, an update, a log. -/
namespace Go.Proofs.YtfhecilhcofboaaGreat
open Go.ChangeShapes Go.WideShapes Go.ChangeAt Go.RowKit Go.Deep

set_option maxRecDepth 100000 in
theorem list5 {α : Type} {l : List α} (h : l.length = 5) : ∃ a b c d e, l = [a, b, c, d, e] := by
 match l, h with
 | [a, b, c, d, e], _ => exact ⟨a, b, c, d, e, rfl⟩

set_option maxRecDepth 100000 in
theorem Tryz.cellsInt : Tryz.prog.cellsOf 3 = 1 := by kernel_rfl
set_option maxRecDepth 100000 in
theorem Tryz.cellsUpd : Tryz.prog.cellsOf 33 = 5 := by kernel_rfl

set_option maxRecDepth 100000 in
theorem list_of {Q : Nat → Upd → Prop} : ∀ {n : Nat}, (∀ i, i < n → ∃ u, Q i u) → ∃ l : List Upd, l.length = n ∧ ∀ i u, l[i]? = some u → Q i u
 | 0, _ => ⟨[], rfl, fun i u h => by simp at h⟩
 | n + 1, h => by
  obtain ⟨l, h1, h2⟩ := list_of (n := n) (fun i hi => h i (by omega))
  obtain ⟨u, hu⟩ := h n (by omega)
  refine ⟨l ++ [u], by simp [h1], fun i v hi => ?_⟩
  rcases Nat.lt_or_ge i n with hlt | hge
  ·rw [List.getElem?_append_left (by omega)] at hi
   exact h2 i v hi
  rw [List.getElem?_append_right (by omega)] at hi
  have : i - l.length = 0 := by
   rcases Nat.eq_zero_or_pos (i - l.length) with h0 | h0
   ·exact h0
   rw [List.getElem?_eq_none (by simp; omega)] at hi; cases hi
  rw [this] at hi
  simp at hi
  subst hi
  rw [show i = n by omega]
  exact hu

section
variable {H : Type} {enc : TypeId × Value → H} {w : World} {base : Nat} {held : Bool}

set_option maxRecDepth 100000 in
theorem open_clock {fuel : Nat} {c : Value} {x : DataW H × List MemPlace} (h : DataW.trod enc Tryz.prog w base (fun _ => true) held fuel 23 [c] = some x) : ∃ xs, Row w c xs := by
 rcases open_ints Tryz.underlying23 Tryz.underlying3 Tryz.cellsInt h with ⟨hcs, _⟩ | ⟨a, l, cp, zs, hcs, _, hl, hm, hz, _, hcell, hwz⟩
 ·simp only [List.cons.injEq, and_true] at hcs
  subst hcs
  exact ⟨[], by simpa using row_of_cells (w := w) (zs := []) (.inl ⟨rfl, rfl, rfl, rfl⟩)⟩
 simp only [List.cons.injEq, and_true] at hcs
 subst hcs
 exact ⟨_, row_of_cells (.inr ⟨a, rfl, hl, hm, by simpa using hz, hcell, hwz⟩)⟩

set_option maxRecDepth 100000 in
theorem open_upd5 {fuel : Nat} {cs : List Value} {x : DataW H × List MemPlace} (h : DataW.trod enc Tryz.prog w base (fun _ => true) held fuel 33 cs = some x) :
  ∃ (u : Upd) (sv : Value), cs = [.int .i64 u.author, sv, .int .i64 u.kind, .int .i64 u.key, .int .i64 u.item] ∧ Row w sv u.seen ∧ (Lit.int .i64 u.author).wf = true ∧ (Lit.int .i64 u.kind).wf = true ∧ (Lit.int .i64 u.key).wf = true ∧ (Lit.int .i64 u.item).wf = true := by
 obtain ⟨xs, n, _, _, hl, hlen, hf⟩ := DataW.trod_struct Tryz.underlying33 h
 rw [Tryz.cellsUpd] at hl
 obtain ⟨c0, c1, c2, c3, c4, rfl⟩ := list5 hl
 have hlen' : xs.length = 5 := hlen
 obtain ⟨y0, y1, y2, y3, y4, rfl⟩ := list5 hlen'
 have f0 := hf 0 _ rfl
 have f1 := hf 1 _ rfl
 have f2 := hf 2 _ rfl
 have f3 := hf 3 _ rfl
 have f4 := hf 4 _ rfl
 simp only [List.getElem?_cons_zero, List.getElem?_cons_succ] at f0 f1 f2 f3 f4
 obtain ⟨a0, e0, -, w0⟩ := DataW.trod_int Tryz.underlying3 f0
 obtain ⟨a2, e2, -, w2⟩ := DataW.trod_int Tryz.underlying3 f2
 obtain ⟨a3, e3, -, w3⟩ := DataW.trod_int Tryz.underlying3 f3
 obtain ⟨a4, e4, -, w4⟩ := DataW.trod_int Tryz.underlying3 f4
 obtain ⟨sx, hrow⟩ := open_clock f1
 obtain rfl : c0 = _ := List.head_eq_of_cons_eq e0
 obtain rfl : c2 = _ := List.head_eq_of_cons_eq e2
 obtain rfl : c3 = _ := List.head_eq_of_cons_eq e3
 obtain rfl : c4 = _ := List.head_eq_of_cons_eq e4
 exact ⟨⟨a0, sx, a2, a3, a4⟩, c1, rfl, hrow, w0, w2, w3, w4⟩

end
end Go.Proofs.YtfhecilhcofboaaGreat
/- What came in as data: a state, a live, an update. -/
namespace Go.Proofs.YtfhecilhcofboaaGreat
open Go.ChangeShapes Go.WideShapes Go.ChangeAt Go.RowKit Go.Deep

theorem list3 {α : Type} {l : List α} (h : l.length = 3) : ∃ a b c, l = [a, b, c] := by
 match l, h with
 | [a, b, c], _ => exact ⟨a, b, c, rfl⟩
set_option maxRecDepth 100000 in
theorem Tryz.cellsLive : Tryz.prog.cellsOf 106 = 5 := by kernel_rfl
set_option maxRecDepth 100000 in
theorem Tryz.cellsTally : Tryz.prog.cellsOf 108 = 3 := by kernel_rfl
set_option maxRecDepth 100000 in
theorem Tryz.cellsState : Tryz.prog.cellsOf 27 = 3 := by kernel_rfl
theorem list_ofA {α : Type} {Q : Nat → α → Prop} : ∀ {n : Nat}, (∀ i, i < n → ∃ u, Q i u) → ∃ l : List α, l.length = n ∧ ∀ i u, l[i]? = some u → Q i u
 | 0, _ => ⟨[], rfl, fun i u h => by simp at h⟩
 | n + 1, h => by
  obtain ⟨l, h1, h2⟩ := list_ofA (n := n) (fun i hi => h i (by omega))
  obtain ⟨u, hu⟩ := h n (by omega)
  refine ⟨l ++ [u], by simp [h1], fun i v hi => ?_⟩
  rcases Nat.lt_or_ge i n with hlt | hge
  ·rw [List.getElem?_append_left (by omega)] at hi
   exact h2 i v hi
  rw [List.getElem?_append_right (by omega)] at hi
  have : i - l.length = 0 := by
   rcases Nat.eq_zero_or_pos (i - l.length) with h0 | h0
   ·exact h0
   rw [List.getElem?_eq_none (by simp; omega)] at hi; cases hi
  rw [this] at hi
  simp at hi
  subst hi
  rw [show i = n by omega]
  exact hu

section
variable {H : Type} {enc : TypeId × Value → H} {w : World} {base : Nat} {held : Bool}

set_option maxRecDepth 100000 in
theorem open_upd {r : Reach} {b0 : Nat} {v : Value} {d : DataW H} {p : List MemPlace} (hv : Value.okWide Tryz.prog w r b0 33 v)
  (h : DataW.Trod enc Tryz.prog w base (fun _ => true) held 33 v d p) : ∃ u, IsUpd w v u := by
 obtain ⟨cs, rfl, hsz⟩ := okWide_struct Tryz.underlying33 hv
 obtain ⟨fuel, hf⟩ := h
 obtain ⟨u, sv, hcs, hrow, -⟩ := open_upd5 hf
 refine ⟨u, sv, ?_, hrow⟩
 have : cs.toList = _ := hcs
 rw [← Array.toArray_toList (xs := cs), this]

set_option maxRecDepth 100000 in
theorem open_live5 {fuel : Nat} {cs : List Value} {x : DataW H × List MemPlace} (h : DataW.trod enc Tryz.prog w base (fun _ => true) held fuel 106 cs = some x) : ∃ y : Live, cs = encL y := by
 obtain ⟨xs, n, _, _, hl, hlen, hf⟩ := DataW.trod_struct Tryz.underlying106 h
 rw [Tryz.cellsLive] at hl
 obtain ⟨c0, c1, c2, c3, c4, rfl⟩ := list5 hl
 have hlen' : xs.length = 5 := hlen
 obtain ⟨y0, y1, y2, y3, y4, rfl⟩ := list5 hlen'
 have f0 := hf 0 _ rfl
 have f1 := hf 1 _ rfl
 have f2 := hf 2 _ rfl
 have f3 := hf 3 _ rfl
 have f4 := hf 4 _ rfl
 simp only [List.getElem?_cons_zero, List.getElem?_cons_succ] at f0 f1 f2 f3 f4
 obtain ⟨a0, e0, -⟩ := DataW.trod_bool Tryz.underlying4 f0
 obtain ⟨a1, e1, -, -⟩ := DataW.trod_int Tryz.underlying3 f1
 obtain ⟨a2, e2, -, -⟩ := DataW.trod_int Tryz.underlying3 f2
 obtain ⟨a3, e3, -, -⟩ := DataW.trod_int Tryz.underlying3 f3
 obtain ⟨a4, e4, -, -⟩ := DataW.trod_int Tryz.underlying3 f4
 obtain rfl : c0 = _ := List.head_eq_of_cons_eq e0
 obtain rfl : c1 = _ := List.head_eq_of_cons_eq e1
 obtain rfl : c2 = _ := List.head_eq_of_cons_eq e2
 obtain rfl : c3 = _ := List.head_eq_of_cons_eq e3
 obtain rfl : c4 = _ := List.head_eq_of_cons_eq e4
 exact ⟨⟨a0, a1, a2, a3, a4⟩, rfl⟩
set_option maxRecDepth 100000 in
theorem open_tal3 {fuel : Nat} {cs : List Value} {x : DataW H × List MemPlace} (h : DataW.trod enc Tryz.prog w base (fun _ => true) held fuel 108 cs = some x) : ∃ y : Tal, cs = encT y := by
 obtain ⟨xs, n, _, _, hl, hlen, hf⟩ := DataW.trod_struct Tryz.underlying108 h
 rw [Tryz.cellsTally] at hl
 obtain ⟨c0, c1, c2, rfl⟩ := list3 hl
 have hlen' : xs.length = 3 := hlen
 obtain ⟨y0, y1, y2, rfl⟩ := list3 hlen'
 have f0 := hf 0 _ rfl
 have f1 := hf 1 _ rfl
 have f2 := hf 2 _ rfl
 simp only [List.getElem?_cons_zero, List.getElem?_cons_succ] at f0 f1 f2
 obtain ⟨a0, e0, -, -⟩ := DataW.trod_int Tryz.underlying3 f0
 obtain ⟨a1, e1, -, -⟩ := DataW.trod_int Tryz.underlying3 f1
 obtain ⟨a2, e2, -, -⟩ := DataW.trod_int Tryz.underlying3 f2
 obtain rfl : c0 = _ := List.head_eq_of_cons_eq e0
 obtain rfl : c1 = _ := List.head_eq_of_cons_eq e1
 obtain rfl : c2 = _ := List.head_eq_of_cons_eq e2
 exact ⟨⟨a0, a1, a2⟩, rfl⟩
set_option maxRecDepth 100000 in
theorem open_lives {fuel : Nat} {c : Value} {y : DataW H × List MemPlace} (hf : DataW.trod enc Tryz.prog w base (fun _ => true) held fuel 24 [c] = some y) : ∃ l, SliceV 5 encL w c l := by
 rcases open_slice Tryz.underlying24 hf with ⟨hcs, -⟩ | ⟨x, len, cap, m, n, D, Pl, hcs, hb, hl, hm, hmm, -, hcell⟩
 ·simp only [List.cons.injEq, and_true] at hcs
  subst hcs
  exact ⟨[], SliceV.nil _⟩
 simp only [List.cons.injEq, and_true] at hcs
 subst hcs
 simp only [if_true] at hmm
 have each : ∀ i, i < len → ∃ u, ∀ b off, x = ⟨b, off, none⟩ → ∀ j c, (encL u)[j]? = some c → w.cell? ⟨b, off + i * 5 + j, none⟩ = some c := by
  intro i hi
  obtain ⟨cs', h1, h2⟩ := hcell i (by omega)
  obtain ⟨u, rfl⟩ := open_live5 h2
  rw [Tryz.cellsLive] at h1
  refine ⟨u, fun b off e j c hj => ?_⟩
  subst e
  have hjl : j < 5 := by have := (List.getElem?_eq_some_iff.1 hj).1; rw [encL_length] at this; exact this
  have c' := (World.cells?_some h1).2.2 j (by omega)
  simp only [addr_add] at c'
  rw [c', hj]
 obtain ⟨L, hL, hP⟩ := list_ofA each
 refine ⟨L, some x, cap, by rw [hL], by omega, hm, fun i u hi => ?_⟩
 have hil : i < len := by rw [← hL]; exact (List.getElem?_eq_some_iff.1 hi).1
 obtain ⟨b, off, spot⟩ := x
 have hspot : spot = none := by
  obtain ⟨cs', h1, -⟩ := hcell 0 (by omega)
  rw [Tryz.cellsLive] at h1
  obtain ⟨-, hl5, hc⟩ := World.cells?_some h1
  have h0 := hc 0 (by omega)
  rw [List.getElem?_eq_getElem (by omega)] at h0
  simpa [Addr.add] using World.cell?_spot h0
 subst hspot
 exact ⟨b, off, rfl, hP i u hi b off rfl⟩
set_option maxRecDepth 100000 in
theorem open_tals {fuel : Nat} {c : Value} {y : DataW H × List MemPlace} (hf : DataW.trod enc Tryz.prog w base (fun _ => true) held fuel 25 [c] = some y) : ∃ l, SliceV 3 encT w c l := by
 rcases open_slice Tryz.underlying25 hf with ⟨hcs, -⟩ | ⟨x, len, cap, m, n, D, Pl, hcs, hb, hl, hm, hmm, -, hcell⟩
 ·simp only [List.cons.injEq, and_true] at hcs
  subst hcs
  exact ⟨[], SliceV.nil _⟩
 simp only [List.cons.injEq, and_true] at hcs
 subst hcs
 simp only [if_true] at hmm
 have each : ∀ i, i < len → ∃ u, ∀ b off, x = ⟨b, off, none⟩ → ∀ j c, (encT u)[j]? = some c → w.cell? ⟨b, off + i * 3 + j, none⟩ = some c := by
  intro i hi
  obtain ⟨cs', h1, h2⟩ := hcell i (by omega)
  obtain ⟨u, rfl⟩ := open_tal3 h2
  rw [Tryz.cellsTally] at h1
  refine ⟨u, fun b off e j c hj => ?_⟩
  subst e
  have hjl : j < 3 := by have := (List.getElem?_eq_some_iff.1 hj).1; rw [encT_length] at this; exact this
  have c' := (World.cells?_some h1).2.2 j (by omega)
  simp only [addr_add] at c'
  rw [c', hj]
 obtain ⟨L, hL, hP⟩ := list_ofA each
 refine ⟨L, some x, cap, by rw [hL], by omega, hm, fun i u hi => ?_⟩
 have hil : i < len := by rw [← hL]; exact (List.getElem?_eq_some_iff.1 hi).1
 obtain ⟨b, off, spot⟩ := x
 have hspot : spot = none := by
  obtain ⟨cs', h1, -⟩ := hcell 0 (by omega)
  rw [Tryz.cellsTally] at h1
  obtain ⟨-, hl5, hc⟩ := World.cells?_some h1
  have h0 := hc 0 (by omega)
  rw [List.getElem?_eq_getElem (by omega)] at h0
  simpa [Addr.add] using World.cell?_spot h0
 subst hspot
 exact ⟨b, off, rfl, hP i u hi b off rfl⟩
end
end Go.Proofs.YtfhecilhcofboaaGreat
/- What came in as data: a node, a parcel. -/
namespace Go.Proofs.YtfhecilhcofboaaGreat
open Go.ChangeShapes Go.WideShapes Go.ChangeAt Go.RowKit Go.Deep

theorem list7 {α : Type} {l : List α} (h : l.length = 7) : ∃ a b c d e f g, l = [a, b, c, d, e, f, g] := by
 match l, h with
 | [a, b, c, d, e, f, g], _ => exact ⟨a, b, c, d, e, f, g, rfl⟩
theorem list6 {α : Type} {l : List α} (h : l.length = 6) : ∃ a b c d e f, l = [a, b, c, d, e, f] := by
 match l, h with
 | [a, b, c, d, e, f], _ => exact ⟨a, b, c, d, e, f, rfl⟩
theorem list4 {α : Type} {l : List α} (h : l.length = 4) : ∃ a b c d, l = [a, b, c, d] := by
 match l, h with
 | [a, b, c, d], _ => exact ⟨a, b, c, d, rfl⟩
set_option maxRecDepth 100000 in
theorem Tryz.cellsClock : Tryz.prog.cellsOf 23 = 1 := by kernel_rfl
set_option maxRecDepth 100000 in
theorem Tryz.cellsNode : Tryz.prog.cellsOf 31 = 7 := by kernel_rfl
set_option maxRecDepth 100000 in
theorem Tryz.cellsParcel : Tryz.prog.cellsOf 35 = 6 := by kernel_rfl

section
variable {H : Type} {enc : TypeId × Value → H} {w : World} {base : Nat} {held : Bool}

set_option maxRecDepth 100000 in
theorem open_log1 {fuel : Nat} {c : Value} {y : DataW H × List MemPlace} (hf : DataW.trod enc Tryz.prog w base (fun _ => true) held fuel 28 [c] = some y) : ∃ l, LogV w c l := by
 rcases open_slice Tryz.underlying28 hf with ⟨hcs, -⟩ | ⟨x, len, cap, m, n, D, Pl, hcs, hb, hl, hm, hmm, -, hcell⟩
 ·simp only [List.cons.injEq, and_true] at hcs
  subst hcs
  exact ⟨[], LogV.nil _⟩
 simp only [List.cons.injEq, and_true] at hcs
 subst hcs
 simp only [if_true] at hmm
 have each : ∀ i, i < len → ∃ u, ∀ b off, x = ⟨b, off, none⟩ → UpdAt w b (off + i * 5) u := by
  intro i hi
  obtain ⟨cs', h1, h2⟩ := hcell i (by omega)
  obtain ⟨u, sv, rfl, hrow, -⟩ := open_upd5 h2
  rw [Tryz.cellsUpd] at h1
  refine ⟨u, fun b off e => ?_⟩
  subst e
  have c := (World.cells?_some h1).2.2
  simp only [addr_add] at c
  exact ⟨sv, hrow, c 0 (by omega), c 1 (by omega), c 2 (by omega), c 3 (by omega), c 4 (by omega)⟩
 obtain ⟨L, hL, hP⟩ := list_of each
 refine ⟨L, some x, cap, by rw [hL], by omega, hm, fun i u hi => ?_⟩
 have hil : i < len := by rw [← hL]; exact (List.getElem?_eq_some_iff.1 hi).1
 obtain ⟨b, off, spot⟩ := x
 have hspot : spot = none := by
  obtain ⟨cs', h1, -⟩ := hcell 0 (by omega)
  rw [Tryz.cellsUpd] at h1
  obtain ⟨-, hl5, hc⟩ := World.cells?_some h1
  have h0 := hc 0 (by omega)
  rw [List.getElem?_eq_getElem (by omega)] at h0
  simpa [Addr.add] using World.cell?_spot h0
 subst hspot
 exact ⟨b, off, rfl, hP i u hi b off rfl⟩
set_option maxRecDepth 100000 in
theorem open_known1 {fuel : Nat} {c : Value} {y : DataW H × List MemPlace} (hf : DataW.trod enc Tryz.prog w base (fun _ => true) held fuel 29 [c] = some y) : ∃ l, KnV w c l := by
 rcases open_slice Tryz.underlying29 hf with ⟨hcs, -⟩ | ⟨x, len, cap, m, n, D, Pl, hcs, hb, hl, hm, hmm, -, hcell⟩
 ·simp only [List.cons.injEq, and_true] at hcs
  subst hcs
  exact ⟨[], none, 0, rfl, by simp, by unfold maxLen; omega, fun i u hi => by simp at hi⟩
 simp only [List.cons.injEq, and_true] at hcs
 subst hcs
 simp only [if_true] at hmm
 have each : ∀ i, i < len → ∃ u : List Int, ∀ b off, x = ⟨b, off, none⟩ → ∃ kv, w.cell? ⟨b, off + i, none⟩ = some kv ∧ Row w kv u := by
  intro i hi
  obtain ⟨cs', h1, h2⟩ := hcell i (by omega)
  rw [Tryz.cellsClock] at h1
  obtain ⟨-, hl1, hc⟩ := World.cells?_some h1
  obtain ⟨c0, rfl⟩ : ∃ c0, cs' = [c0] := by
   match cs', hl1 with
   | [c0], _ => exact ⟨c0, rfl⟩
  obtain ⟨k, hk⟩ := open_clock h2
  refine ⟨k, fun b off e => ⟨c0, ?_, hk⟩⟩
  subst e
  have c := hc 0 (by omega)
  simp only [addr_add] at c
  simpa using c
 obtain ⟨L, hL, hP⟩ := list_ofA each
 refine ⟨L, some x, cap, by rw [hL], by omega, hm, fun i u hi => ?_⟩
 have hil : i < len := by rw [← hL]; exact (List.getElem?_eq_some_iff.1 hi).1
 obtain ⟨b, off, spot⟩ := x
 have hspot : spot = none := by
  obtain ⟨cs', h1, -⟩ := hcell 0 (by omega)
  rw [Tryz.cellsClock] at h1
  obtain ⟨-, hl5, hc⟩ := World.cells?_some h1
  have h0 := hc 0 (by omega)
  rw [List.getElem?_eq_getElem (by omega)] at h0
  simpa [Addr.add] using World.cell?_spot h0
 subst hspot
 exact ⟨b, off, rfl, hP i u hi b off rfl⟩
set_option maxRecDepth 100000 in
theorem open_st3 {fuel : Nat} {c0 c1 c2 : Value} {y : DataW H × List MemPlace} (h : DataW.trod enc Tryz.prog w base (fun _ => true) held fuel 27 [c0, c1, c2] = some y) : ∃ s, IsSt w (.agg #[c0, c1, c2]) s := by
 obtain ⟨xs, n, _, _, hl, hlen, hf⟩ := DataW.trod_struct Tryz.underlying27 h
 have hlen' : xs.length = 3 := hlen
 obtain ⟨y0, y1, y2, rfl⟩ := list3 hlen'
 have f0 := hf 0 _ rfl
 have f1 := hf 1 _ rfl
 have f2 := hf 2 _ rfl
 simp only [List.getElem?_cons_zero, List.getElem?_cons_succ] at f0 f1 f2
 obtain ⟨k, hk⟩ := open_clock f0
 obtain ⟨l, hlv⟩ := open_lives f1
 obtain ⟨t, htv⟩ := open_tals f2
 exact ⟨⟨k, l, t⟩, c0, c1, c2, rfl, hk, hlv, htv⟩
set_option maxRecDepth 100000 in
theorem open_node {r : Reach} {b0 : Nat} {v : Value} {d : DataW H} {p : List MemPlace} (hv : Value.okWide Tryz.prog w r b0 31 v)
  (h : DataW.Trod enc Tryz.prog w base (fun _ => true) held 31 v d p) : ∃ s, IsNode w v s := by
 obtain ⟨cs, rfl, hsz⟩ := okWide_struct Tryz.underlying31 hv
 obtain ⟨fuel, hf0⟩ := h
 obtain ⟨xs, n, _, _, hl, hlen, hf⟩ := DataW.trod_struct Tryz.underlying31 hf0
 rw [Tryz.cellsNode] at hl
 have hl' : cs.toList.length = 7 := hl
 obtain ⟨c0, c1, c2, c3, c4, c5, c6, hcs⟩ := list7 hl'
 have hlen' : xs.length = 5 := hlen
 obtain ⟨y0, y1, y2, y3, y4, rfl⟩ := list5 hlen'
 have f0 := hf 0 _ rfl
 have f1 := hf 1 _ rfl
 have f2 := hf 2 _ rfl
 have f3 := hf 3 _ rfl
 have f4 := hf 4 _ rfl
 have hcells : (Value.agg cs).cells.toList = [c0, c1, c2, c3, c4, c5, c6] := hcs
 rw [hcells] at f0 f1 f2 f3 f4
 simp only [List.getElem?_cons_zero, List.getElem?_cons_succ] at f0 f1 f2 f3 f4
 obtain ⟨a0, e0, -, -⟩ := DataW.trod_int Tryz.underlying3 f0
 obtain rfl : c0 = _ := List.head_eq_of_cons_eq e0
 obtain ⟨s, hs⟩ := open_st3 f1
 obtain ⟨k, hk⟩ := open_clock f2
 obtain ⟨l, hlv⟩ := open_log1 f3
 obtain ⟨t, htv⟩ := open_known1 f4
 refine ⟨⟨a0, s, k, l, t⟩, c1, c2, c3, c4, c5, c6, ?_, hs, hk, hlv, htv⟩
 rw [← Array.toArray_toList (xs := cs), hcs]
set_option maxRecDepth 100000 in
theorem open_parcel {r : Reach} {b0 : Nat} {v : Value} {d : DataW H} {p : List MemPlace} (hv : Value.okWide Tryz.prog w r b0 35 v)
  (h : DataW.Trod enc Tryz.prog w base (fun _ => true) held 35 v d p) : ∃ s, IsPcl w v s := by
 obtain ⟨cs, rfl, hsz⟩ := okWide_struct Tryz.underlying35 hv
 obtain ⟨fuel, hf0⟩ := h
 obtain ⟨xs, n, _, _, hl, hlen, hf⟩ := DataW.trod_struct Tryz.underlying35 hf0
 rw [Tryz.cellsParcel] at hl
 have hl' : cs.toList.length = 6 := hl
 obtain ⟨c0, c1, c2, c3, c4, c5, hcs⟩ := list6 hl'
 have hlen' : xs.length = 4 := hlen
 obtain ⟨y0, y1, y2, y3, rfl⟩ := list4 hlen'
 have f0 := hf 0 _ rfl
 have f1 := hf 1 _ rfl
 have f2 := hf 2 _ rfl
 have f3 := hf 3 _ rfl
 have hcells : (Value.agg cs).cells.toList = [c0, c1, c2, c3, c4, c5] := hcs
 rw [hcells] at f0 f1 f2 f3
 simp only [List.getElem?_cons_zero, List.getElem?_cons_succ] at f0 f1 f2 f3
 obtain ⟨a0, e0, -⟩ := DataW.trod_bool Tryz.underlying4 f0
 obtain rfl : c0 = _ := List.head_eq_of_cons_eq e0
 obtain ⟨s, hs⟩ := open_st3 f1
 obtain ⟨l, hlv⟩ := open_log1 f2
 obtain ⟨k, hk⟩ := open_clock f3
 refine ⟨⟨a0, s, l, k⟩, c1, c2, c3, c4, c5, ?_, hs, hlv, hk⟩
 rw [← Array.toArray_toList (xs := cs), hcs]
end
end Go.Proofs.YtfhecilhcofboaaGreat
