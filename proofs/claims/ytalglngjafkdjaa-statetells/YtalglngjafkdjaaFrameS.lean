/- What came in as data: a state, a live, an update. -/
import Derived.Test.YtalglngjafkdjaaFrameL
import Derived.Test.YtalglngjafkdjaaStF
namespace Go.Proofs.Ytalglngjafkdjaa
open Go.ChangeShapes Go.WideShapes Go.ChangeAt Go.RowKit Go.Deep

theorem list3 {α : Type} {l : List α} (h : l.length = 3) : ∃ a b c, l = [a, b, c] := by
  match l, h with
  | [a, b, c], _ => exact ⟨a, b, c, rfl⟩
set_option maxRecDepth 100000 in
theorem Try.cellsLive : Try.prog.cellsOf 52 = 5 := by kernel_rfl
set_option maxRecDepth 100000 in
theorem Try.cellsTally : Try.prog.cellsOf 58 = 3 := by kernel_rfl
set_option maxRecDepth 100000 in
theorem Try.cellsState : Try.prog.cellsOf 27 = 3 := by kernel_rfl
theorem list_ofA {α : Type} {Q : Nat → α → Prop} : ∀ {n : Nat}, (∀ i, i < n → ∃ u, Q i u) → ∃ l : List α, l.length = n ∧ ∀ i u, l[i]? = some u → Q i u
  | 0, _ => ⟨[], rfl, fun i u h => by simp at h⟩
  | n + 1, h => by
    obtain ⟨l, h1, h2⟩ := list_ofA (n := n) (fun i hi => h i (by omega))
    obtain ⟨u, hu⟩ := h n (by omega)
    refine ⟨l ++ [u], by simp [h1], fun i v hi => ?_⟩
    rcases Nat.lt_or_ge i n with hlt | hge
    · rw [List.getElem?_append_left (by omega)] at hi
      exact h2 i v hi
    · rw [List.getElem?_append_right (by omega)] at hi
      have : i - l.length = 0 := by
        rcases Nat.eq_zero_or_pos (i - l.length) with h0 | h0
        · exact h0
        · rw [List.getElem?_eq_none (by simp; omega)] at hi; cases hi
      rw [this] at hi
      simp at hi
      subst hi
      rw [show i = n by omega]
      exact hu

section
variable {H : Type} {enc : TypeId × Value → H} {w : World} {base : Nat} {held : Bool}

set_option maxRecDepth 100000 in
/-- An update by value. -/
theorem open_upd {r : Reach} {b0 : Nat} {v : Value} {d : DataW H} {p : List MemPlace} (hv : Value.okWide Try.prog w r b0 47 v)
    (h : DataW.Trod enc Try.prog w base (fun _ => true) held 47 v d p) : ∃ u, IsUpd w v u := by
  obtain ⟨cs, rfl, hsz⟩ := okWide_struct Try.underlying47 hv
  obtain ⟨fuel, hf⟩ := h
  obtain ⟨u, sv, hcs, hrow, -⟩ := open_upd5 hf
  refine ⟨u, sv, ?_, hrow⟩
  have : cs.toList = _ := hcs
  rw [← Array.toArray_toList (xs := cs), this]

set_option maxRecDepth 100000 in
/-- Five cells that read as a live. -/
theorem open_live5 {fuel : Nat} {cs : List Value} {x : DataW H × List MemPlace} (h : DataW.trod enc Try.prog w base (fun _ => true) held fuel 52 cs = some x) : ∃ y : Live, cs = encL y := by
  obtain ⟨xs, n, _, _, hl, hlen, hf⟩ := DataW.trod_struct Try.underlying52 h
  rw [Try.cellsLive] at hl
  obtain ⟨c0, c1, c2, c3, c4, rfl⟩ := list5 hl
  have hlen' : xs.length = 5 := hlen
  obtain ⟨y0, y1, y2, y3, y4, rfl⟩ := list5 hlen'
  have f0 := hf 0 _ rfl
  have f1 := hf 1 _ rfl
  have f2 := hf 2 _ rfl
  have f3 := hf 3 _ rfl
  have f4 := hf 4 _ rfl
  simp only [List.getElem?_cons_zero, List.getElem?_cons_succ] at f0 f1 f2 f3 f4
  obtain ⟨a0, e0, -⟩ := DataW.trod_bool Try.underlying4 f0
  obtain ⟨a1, e1, -, -⟩ := DataW.trod_int Try.underlying3 f1
  obtain ⟨a2, e2, -, -⟩ := DataW.trod_int Try.underlying3 f2
  obtain ⟨a3, e3, -, -⟩ := DataW.trod_int Try.underlying3 f3
  obtain ⟨a4, e4, -, -⟩ := DataW.trod_int Try.underlying3 f4
  obtain rfl : c0 = _ := List.head_eq_of_cons_eq e0
  obtain rfl : c1 = _ := List.head_eq_of_cons_eq e1
  obtain rfl : c2 = _ := List.head_eq_of_cons_eq e2
  obtain rfl : c3 = _ := List.head_eq_of_cons_eq e3
  obtain rfl : c4 = _ := List.head_eq_of_cons_eq e4
  exact ⟨⟨a0, a1, a2, a3, a4⟩, rfl⟩
set_option maxRecDepth 100000 in
theorem open_tal3 {fuel : Nat} {cs : List Value} {x : DataW H × List MemPlace} (h : DataW.trod enc Try.prog w base (fun _ => true) held fuel 58 cs = some x) : ∃ y : Tal, cs = encT y := by
  obtain ⟨xs, n, _, _, hl, hlen, hf⟩ := DataW.trod_struct Try.underlying58 h
  rw [Try.cellsTally] at hl
  obtain ⟨c0, c1, c2, rfl⟩ := list3 hl
  have hlen' : xs.length = 3 := hlen
  obtain ⟨y0, y1, y2, rfl⟩ := list3 hlen'
  have f0 := hf 0 _ rfl
  have f1 := hf 1 _ rfl
  have f2 := hf 2 _ rfl
  simp only [List.getElem?_cons_zero, List.getElem?_cons_succ] at f0 f1 f2
  obtain ⟨a0, e0, -, -⟩ := DataW.trod_int Try.underlying3 f0
  obtain ⟨a1, e1, -, -⟩ := DataW.trod_int Try.underlying3 f1
  obtain ⟨a2, e2, -, -⟩ := DataW.trod_int Try.underlying3 f2
  obtain rfl : c0 = _ := List.head_eq_of_cons_eq e0
  obtain rfl : c1 = _ := List.head_eq_of_cons_eq e1
  obtain rfl : c2 = _ := List.head_eq_of_cons_eq e2
  exact ⟨⟨a0, a1, a2⟩, rfl⟩
set_option maxRecDepth 100000 in
theorem open_lives {fuel : Nat} {c : Value} {y : DataW H × List MemPlace} (hf : DataW.trod enc Try.prog w base (fun _ => true) held fuel 24 [c] = some y) : ∃ l, SliceV 5 encL w c l := by
  rcases open_slice Try.underlying24 hf with ⟨hcs, -⟩ | ⟨x, len, cap, m, n, D, Pl, hcs, hb, hl, hm, hmm, -, hcell⟩
  · simp only [List.cons.injEq, and_true] at hcs
    subst hcs
    exact ⟨[], SliceV.nil _⟩
  · simp only [List.cons.injEq, and_true] at hcs
    subst hcs
    simp only [if_true] at hmm
    have each : ∀ i, i < len → ∃ u, ∀ b off, x = ⟨b, off, none⟩ → ∀ j c, (encL u)[j]? = some c → w.cell? ⟨b, off + i * 5 + j, none⟩ = some c := by
      intro i hi
      obtain ⟨cs', h1, h2⟩ := hcell i (by omega)
      obtain ⟨u, rfl⟩ := open_live5 h2
      rw [Try.cellsLive] at h1
      refine ⟨u, fun b off e j c hj => ?_⟩
      subst e
      have hjl : j < 5 := by have := (List.getElem?_eq_some_iff.1 hj).1; rw [encL_length] at this; exact this
      have c' := (World.cells?_some h1).2.2 j (by omega)
      simp only [addr_add] at c'
      rw [c', hj]
    obtain ⟨L, hL, hP⟩ := list_ofA each
    refine ⟨L, some x, cap, by rw [hL], by omega, hm, fun i u hi => ?_⟩
    have hil : i < len := by rw [← hL]; exact (List.getElem?_eq_some_iff.1 hi).1
    obtain ⟨b, off, spot⟩ := x
    have hspot : spot = none := by
      obtain ⟨cs', h1, -⟩ := hcell 0 (by omega)
      rw [Try.cellsLive] at h1
      obtain ⟨-, hl5, hc⟩ := World.cells?_some h1
      have h0 := hc 0 (by omega)
      rw [List.getElem?_eq_getElem (by omega)] at h0
      simpa [Addr.add] using World.cell?_spot h0
    subst hspot
    exact ⟨b, off, rfl, hP i u hi b off rfl⟩
set_option maxRecDepth 100000 in
theorem open_tals {fuel : Nat} {c : Value} {y : DataW H × List MemPlace} (hf : DataW.trod enc Try.prog w base (fun _ => true) held fuel 25 [c] = some y) : ∃ l, SliceV 3 encT w c l := by
  rcases open_slice Try.underlying25 hf with ⟨hcs, -⟩ | ⟨x, len, cap, m, n, D, Pl, hcs, hb, hl, hm, hmm, -, hcell⟩
  · simp only [List.cons.injEq, and_true] at hcs
    subst hcs
    exact ⟨[], SliceV.nil _⟩
  · simp only [List.cons.injEq, and_true] at hcs
    subst hcs
    simp only [if_true] at hmm
    have each : ∀ i, i < len → ∃ u, ∀ b off, x = ⟨b, off, none⟩ → ∀ j c, (encT u)[j]? = some c → w.cell? ⟨b, off + i * 3 + j, none⟩ = some c := by
      intro i hi
      obtain ⟨cs', h1, h2⟩ := hcell i (by omega)
      obtain ⟨u, rfl⟩ := open_tal3 h2
      rw [Try.cellsTally] at h1
      refine ⟨u, fun b off e j c hj => ?_⟩
      subst e
      have hjl : j < 3 := by have := (List.getElem?_eq_some_iff.1 hj).1; rw [encT_length] at this; exact this
      have c' := (World.cells?_some h1).2.2 j (by omega)
      simp only [addr_add] at c'
      rw [c', hj]
    obtain ⟨L, hL, hP⟩ := list_ofA each
    refine ⟨L, some x, cap, by rw [hL], by omega, hm, fun i u hi => ?_⟩
    have hil : i < len := by rw [← hL]; exact (List.getElem?_eq_some_iff.1 hi).1
    obtain ⟨b, off, spot⟩ := x
    have hspot : spot = none := by
      obtain ⟨cs', h1, -⟩ := hcell 0 (by omega)
      rw [Try.cellsTally] at h1
      obtain ⟨-, hl5, hc⟩ := World.cells?_some h1
      have h0 := hc 0 (by omega)
      rw [List.getElem?_eq_getElem (by omega)] at h0
      simpa [Addr.add] using World.cell?_spot h0
    subst hspot
    exact ⟨b, off, rfl, hP i u hi b off rfl⟩
set_option maxRecDepth 100000 in
/-- A state by value. -/
theorem open_state {r : Reach} {b0 : Nat} {v : Value} {d : DataW H} {p : List MemPlace} (hv : Value.okWide Try.prog w r b0 27 v)
    (h : DataW.Trod enc Try.prog w base (fun _ => true) held 27 v d p) : ∃ s, IsSt w v s := by
  obtain ⟨cs, rfl, hsz⟩ := okWide_struct Try.underlying27 hv
  obtain ⟨fuel, hf0⟩ := h
  obtain ⟨xs, n, _, _, hl, hlen, hf⟩ := DataW.trod_struct Try.underlying27 hf0
  rw [Try.cellsState] at hl
  have hl' : cs.toList.length = 3 := hl
  obtain ⟨c0, c1, c2, hcs⟩ := list3 hl'
  have hlen' : xs.length = 3 := hlen
  obtain ⟨y0, y1, y2, rfl⟩ := list3 hlen'
  have f0 := hf 0 _ rfl
  have f1 := hf 1 _ rfl
  have f2 := hf 2 _ rfl
  have hcells : (Value.agg cs).cells.toList = [c0, c1, c2] := hcs
  rw [hcells] at f0 f1 f2
  simp only [List.getElem?_cons_zero, List.getElem?_cons_succ] at f0 f1 f2
  obtain ⟨k, hk⟩ := open_clock f0
  obtain ⟨l, hlv⟩ := open_lives f1
  obtain ⟨t, htv⟩ := open_tals f2
  refine ⟨⟨k, l, t⟩, c0, c1, c2, ?_, hk, hlv, htv⟩
  rw [← Array.toArray_toList (xs := cs), hcs]
set_option maxRecDepth 100000 in
/-- A live by value. -/
theorem open_live {r : Reach} {b0 : Nat} {v : Value} {d : DataW H} {p : List MemPlace} (hv : Value.okWide Try.prog w r b0 52 v)
    (h : DataW.Trod enc Try.prog w base (fun _ => true) held 52 v d p) : ∃ x : Live, v = .agg #[.bool x.set, .int .i64 x.key, .int .i64 x.item, .int .i64 x.author, .int .i64 x.seq] := by
  obtain ⟨cs, rfl, hsz⟩ := okWide_struct Try.underlying52 hv
  obtain ⟨fuel, hf⟩ := h
  obtain ⟨x, hcs⟩ := open_live5 hf
  refine ⟨x, ?_⟩
  have : cs.toList = _ := hcs
  rw [← Array.toArray_toList (xs := cs), this]
  rfl
end
end Go.Proofs.Ytalglngjafkdjaa
