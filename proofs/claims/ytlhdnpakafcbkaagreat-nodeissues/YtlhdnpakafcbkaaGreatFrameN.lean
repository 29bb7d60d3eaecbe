/- What came in as data: a node, a parcel. -/
import Derived.Test.YtlhdnpakafcbkaaGreatFrameS
import Derived.Test.YtlhdnpakafcbkaaGreatNdMem
namespace Go.Proofs.YtlhdnpakafcbkaaGreat
open Go.ChangeShapes Go.WideShapes Go.ChangeAt Go.RowKit Go.Deep

theorem list7 {α : Type} {l : List α} (h : l.length = 7) : ∃ a b c d e f g, l = [a, b, c, d, e, f, g] := by
  match l, h with
  | [a, b, c, d, e, f, g], _ => exact ⟨a, b, c, d, e, f, g, rfl⟩
theorem list6 {α : Type} {l : List α} (h : l.length = 6) : ∃ a b c d e f, l = [a, b, c, d, e, f] := by
  match l, h with
  | [a, b, c, d, e, f], _ => exact ⟨a, b, c, d, e, f, rfl⟩
theorem list4 {α : Type} {l : List α} (h : l.length = 4) : ∃ a b c d, l = [a, b, c, d] := by
  match l, h with
  | [a, b, c, d], _ => exact ⟨a, b, c, d, rfl⟩
set_option maxRecDepth 100000 in
theorem Tryz.cellsClock : Tryz.prog.cellsOf 23 = 1 := by kernel_rfl
set_option maxRecDepth 100000 in
theorem Tryz.cellsNode : Tryz.prog.cellsOf 31 = 7 := by kernel_rfl
set_option maxRecDepth 100000 in
theorem Tryz.cellsParcel : Tryz.prog.cellsOf 35 = 6 := by kernel_rfl

section
variable {H : Type} {enc : TypeId × Value → H} {w : World} {base : Nat} {held : Bool}

set_option maxRecDepth 100000 in
theorem open_log1 {fuel : Nat} {c : Value} {y : DataW H × List MemPlace} (hf : DataW.trod enc Tryz.prog w base (fun _ => true) held fuel 28 [c] = some y) : ∃ l, LogV w c l := by
  rcases open_slice Tryz.underlying28 hf with ⟨hcs, -⟩ | ⟨x, len, cap, m, n, D, Pl, hcs, hb, hl, hm, hmm, -, hcell⟩
  · simp only [List.cons.injEq, and_true] at hcs
    subst hcs
    exact ⟨[], LogV.nil _⟩
  · simp only [List.cons.injEq, and_true] at hcs
    subst hcs
    simp only [if_true] at hmm
    have each : ∀ i, i < len → ∃ u, ∀ b off, x = ⟨b, off, none⟩ → UpdAt w b (off + i * 5) u := by
      intro i hi
      obtain ⟨cs', h1, h2⟩ := hcell i (by omega)
      obtain ⟨u, sv, rfl, hrow, -⟩ := open_upd5 h2
      rw [Tryz.cellsUpd] at h1
      refine ⟨u, fun b off e => ?_⟩
      subst e
      have c := (World.cells?_some h1).2.2
      simp only [addr_add] at c
      exact ⟨sv, hrow, c 0 (by omega), c 1 (by omega), c 2 (by omega), c 3 (by omega), c 4 (by omega)⟩
    obtain ⟨L, hL, hP⟩ := list_of each
    refine ⟨L, some x, cap, by rw [hL], by omega, hm, fun i u hi => ?_⟩
    have hil : i < len := by rw [← hL]; exact (List.getElem?_eq_some_iff.1 hi).1
    obtain ⟨b, off, spot⟩ := x
    have hspot : spot = none := by
      obtain ⟨cs', h1, -⟩ := hcell 0 (by omega)
      rw [Tryz.cellsUpd] at h1
      obtain ⟨-, hl5, hc⟩ := World.cells?_some h1
      have h0 := hc 0 (by omega)
      rw [List.getElem?_eq_getElem (by omega)] at h0
      simpa [Addr.add] using World.cell?_spot h0
    subst hspot
    exact ⟨b, off, rfl, hP i u hi b off rfl⟩
set_option maxRecDepth 100000 in
theorem open_known1 {fuel : Nat} {c : Value} {y : DataW H × List MemPlace} (hf : DataW.trod enc Tryz.prog w base (fun _ => true) held fuel 29 [c] = some y) : ∃ l, KnV w c l := by
  rcases open_slice Tryz.underlying29 hf with ⟨hcs, -⟩ | ⟨x, len, cap, m, n, D, Pl, hcs, hb, hl, hm, hmm, -, hcell⟩
  · simp only [List.cons.injEq, and_true] at hcs
    subst hcs
    exact ⟨[], none, 0, rfl, by simp, by unfold maxLen; omega, fun i u hi => by simp at hi⟩
  · simp only [List.cons.injEq, and_true] at hcs
    subst hcs
    simp only [if_true] at hmm
    have each : ∀ i, i < len → ∃ u : List Int, ∀ b off, x = ⟨b, off, none⟩ → ∃ kv, w.cell? ⟨b, off + i, none⟩ = some kv ∧ Row w kv u := by
      intro i hi
      obtain ⟨cs', h1, h2⟩ := hcell i (by omega)
      rw [Tryz.cellsClock] at h1
      obtain ⟨-, hl1, hc⟩ := World.cells?_some h1
      obtain ⟨c0, rfl⟩ : ∃ c0, cs' = [c0] := by
        match cs', hl1 with
        | [c0], _ => exact ⟨c0, rfl⟩
      obtain ⟨k, hk⟩ := open_clock h2
      refine ⟨k, fun b off e => ⟨c0, ?_, hk⟩⟩
      subst e
      have c := hc 0 (by omega)
      simp only [addr_add] at c
      simpa using c
    obtain ⟨L, hL, hP⟩ := list_ofA each
    refine ⟨L, some x, cap, by rw [hL], by omega, hm, fun i u hi => ?_⟩
    have hil : i < len := by rw [← hL]; exact (List.getElem?_eq_some_iff.1 hi).1
    obtain ⟨b, off, spot⟩ := x
    have hspot : spot = none := by
      obtain ⟨cs', h1, -⟩ := hcell 0 (by omega)
      rw [Tryz.cellsClock] at h1
      obtain ⟨-, hl5, hc⟩ := World.cells?_some h1
      have h0 := hc 0 (by omega)
      rw [List.getElem?_eq_getElem (by omega)] at h0
      simpa [Addr.add] using World.cell?_spot h0
    subst hspot
    exact ⟨b, off, rfl, hP i u hi b off rfl⟩
set_option maxRecDepth 100000 in
theorem open_st3 {fuel : Nat} {c0 c1 c2 : Value} {y : DataW H × List MemPlace} (h : DataW.trod enc Tryz.prog w base (fun _ => true) held fuel 27 [c0, c1, c2] = some y) : ∃ s, IsSt w (.agg #[c0, c1, c2]) s := by
  obtain ⟨xs, n, _, _, hl, hlen, hf⟩ := DataW.trod_struct Tryz.underlying27 h
  have hlen' : xs.length = 3 := hlen
  obtain ⟨y0, y1, y2, rfl⟩ := list3 hlen'
  have f0 := hf 0 _ rfl
  have f1 := hf 1 _ rfl
  have f2 := hf 2 _ rfl
  simp only [List.getElem?_cons_zero, List.getElem?_cons_succ] at f0 f1 f2
  obtain ⟨k, hk⟩ := open_clock f0
  obtain ⟨l, hlv⟩ := open_lives f1
  obtain ⟨t, htv⟩ := open_tals f2
  exact ⟨⟨k, l, t⟩, c0, c1, c2, rfl, hk, hlv, htv⟩
set_option maxRecDepth 100000 in
/-- A node by value. -/
theorem open_node {r : Reach} {b0 : Nat} {v : Value} {d : DataW H} {p : List MemPlace} (hv : Value.okWide Tryz.prog w r b0 31 v)
    (h : DataW.Trod enc Tryz.prog w base (fun _ => true) held 31 v d p) : ∃ s, IsNode w v s := by
  obtain ⟨cs, rfl, hsz⟩ := okWide_struct Tryz.underlying31 hv
  obtain ⟨fuel, hf0⟩ := h
  obtain ⟨xs, n, _, _, hl, hlen, hf⟩ := DataW.trod_struct Tryz.underlying31 hf0
  rw [Tryz.cellsNode] at hl
  have hl' : cs.toList.length = 7 := hl
  obtain ⟨c0, c1, c2, c3, c4, c5, c6, hcs⟩ := list7 hl'
  have hlen' : xs.length = 5 := hlen
  obtain ⟨y0, y1, y2, y3, y4, rfl⟩ := list5 hlen'
  have f0 := hf 0 _ rfl
  have f1 := hf 1 _ rfl
  have f2 := hf 2 _ rfl
  have f3 := hf 3 _ rfl
  have f4 := hf 4 _ rfl
  have hcells : (Value.agg cs).cells.toList = [c0, c1, c2, c3, c4, c5, c6] := hcs
  rw [hcells] at f0 f1 f2 f3 f4
  simp only [List.getElem?_cons_zero, List.getElem?_cons_succ] at f0 f1 f2 f3 f4
  obtain ⟨a0, e0, -, -⟩ := DataW.trod_int Tryz.underlying3 f0
  obtain rfl : c0 = _ := List.head_eq_of_cons_eq e0
  obtain ⟨s, hs⟩ := open_st3 f1
  obtain ⟨k, hk⟩ := open_clock f2
  obtain ⟨l, hlv⟩ := open_log1 f3
  obtain ⟨t, htv⟩ := open_known1 f4
  refine ⟨⟨a0, s, k, l, t⟩, c1, c2, c3, c4, c5, c6, ?_, hs, hk, hlv, htv⟩
  rw [← Array.toArray_toList (xs := cs), hcs]
set_option maxRecDepth 100000 in
/-- A parcel by value. -/
theorem open_parcel {r : Reach} {b0 : Nat} {v : Value} {d : DataW H} {p : List MemPlace} (hv : Value.okWide Tryz.prog w r b0 35 v)
    (h : DataW.Trod enc Tryz.prog w base (fun _ => true) held 35 v d p) : ∃ s, IsPcl w v s := by
  obtain ⟨cs, rfl, hsz⟩ := okWide_struct Tryz.underlying35 hv
  obtain ⟨fuel, hf0⟩ := h
  obtain ⟨xs, n, _, _, hl, hlen, hf⟩ := DataW.trod_struct Tryz.underlying35 hf0
  rw [Tryz.cellsParcel] at hl
  have hl' : cs.toList.length = 6 := hl
  obtain ⟨c0, c1, c2, c3, c4, c5, hcs⟩ := list6 hl'
  have hlen' : xs.length = 4 := hlen
  obtain ⟨y0, y1, y2, y3, rfl⟩ := list4 hlen'
  have f0 := hf 0 _ rfl
  have f1 := hf 1 _ rfl
  have f2 := hf 2 _ rfl
  have f3 := hf 3 _ rfl
  have hcells : (Value.agg cs).cells.toList = [c0, c1, c2, c3, c4, c5] := hcs
  rw [hcells] at f0 f1 f2 f3
  simp only [List.getElem?_cons_zero, List.getElem?_cons_succ] at f0 f1 f2 f3
  obtain ⟨a0, e0, -⟩ := DataW.trod_bool Tryz.underlying4 f0
  obtain rfl : c0 = _ := List.head_eq_of_cons_eq e0
  obtain ⟨s, hs⟩ := open_st3 f1
  obtain ⟨l, hlv⟩ := open_log1 f2
  obtain ⟨k, hk⟩ := open_clock f3
  refine ⟨⟨a0, s, l, k⟩, c1, c2, c3, c4, c5, ?_, hs, hlv, hk⟩
  rw [← Array.toArray_toList (xs := cs), hcs]
end
end Go.Proofs.YtlhdnpakafcbkaaGreat
