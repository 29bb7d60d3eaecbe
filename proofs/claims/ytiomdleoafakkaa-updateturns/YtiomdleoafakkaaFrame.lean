/- What came in as data: an update, a slice of bytes. -/
import Derived.Test.YtiomdleoafakkaaOpen
import Derived.Test.YtiomdleoafakkaaByt
import Derived.ProofKit
import Derived.OpenShut
import Derived.ShutString
import Derived.ChangeOld
import Derived.Below
namespace Go.Proofs.Ytiomdleoafakkaa
open Go.ChangeShapes Go.WideShapes Go.ChangeAt Go.RowKit

set_option maxRecDepth 100000 in
theorem list5 {α : Type} {l : List α} (h : l.length = 5) : ∃ a b c d e, l = [a, b, c, d, e] := by
  match l, h with
  | [a, b, c, d, e], _ => exact ⟨a, b, c, d, e, rfl⟩

set_option maxRecDepth 100000 in
theorem Try.cellsInt : Try.prog.cellsOf 3 = 1 := by kernel_rfl
set_option maxRecDepth 100000 in
theorem Try.cellsClock : Try.prog.cellsOf 23 = 1 := by kernel_rfl
set_option maxRecDepth 100000 in
theorem Try.cellsUpd : Try.prog.cellsOf 38 = 5 := by kernel_rfl
set_option maxRecDepth 100000 in
theorem Try.bytesByte : Try.prog.bytesOf 5 = 1 := by kernel_rfl
set_option maxRecDepth 100000 in
theorem Try.cellsByte : Try.prog.cellsOf 5 = 1 := by kernel_rfl

section
variable {H : Type} {enc : TypeId × Value → H} {w : World} {base : Nat} {held : Bool}

set_option maxRecDepth 100000 in
/-- Cells that read as a clock. -/
theorem open_clock {fuel : Nat} {c : Value} {x : DataW H × List MemPlace} (h : DataW.trod enc Try.prog w base (fun _ => true) held fuel 23 [c] = some x) : ∃ xs, Row w c xs := by
  rcases open_ints Try.underlying23 Try.underlying3 Try.cellsInt h with ⟨hcs, _⟩ | ⟨a, l, cp, zs, hcs, _, hl, hm, hz, _, hcell, hwz⟩
  · simp only [List.cons.injEq, and_true] at hcs
    subst hcs
    exact ⟨[], by simpa using row_of_cells (w := w) (zs := []) (.inl ⟨rfl, rfl, rfl, rfl⟩)⟩
  · simp only [List.cons.injEq, and_true] at hcs
    subst hcs
    exact ⟨_, row_of_cells (.inr ⟨a, rfl, hl, hm, by simpa using hz, hcell, hwz⟩)⟩

set_option maxRecDepth 100000 in
/-- Five cells that read as an update. -/
theorem open_upd5 {fuel : Nat} {cs : List Value} {x : DataW H × List MemPlace} (h : DataW.trod enc Try.prog w base (fun _ => true) held fuel 38 cs = some x) :
    ∃ (u : Upd) (sv : Value), cs = [.int .i64 u.author, sv, .int .i64 u.kind, .int .i64 u.key, .int .i64 u.item] ∧ Row w sv u.seen ∧ (Lit.int .i64 u.author).wf = true ∧ (Lit.int .i64 u.kind).wf = true ∧ (Lit.int .i64 u.key).wf = true ∧ (Lit.int .i64 u.item).wf = true := by
  obtain ⟨xs, n, _, _, hl, hlen, hf⟩ := DataW.trod_struct Try.underlying38 h
  rw [Try.cellsUpd] at hl
  obtain ⟨c0, c1, c2, c3, c4, rfl⟩ := list5 hl
  have hlen' : xs.length = 5 := hlen
  obtain ⟨y0, y1, y2, y3, y4, rfl⟩ := list5 hlen'
  have f0 := hf 0 _ rfl
  have f1 := hf 1 _ rfl
  have f2 := hf 2 _ rfl
  have f3 := hf 3 _ rfl
  have f4 := hf 4 _ rfl
  simp only [List.getElem?_cons_zero, List.getElem?_cons_succ] at f0 f1 f2 f3 f4
  obtain ⟨a0, e0, -, w0⟩ := DataW.trod_int Try.underlying3 f0
  obtain ⟨a2, e2, -, w2⟩ := DataW.trod_int Try.underlying3 f2
  obtain ⟨a3, e3, -, w3⟩ := DataW.trod_int Try.underlying3 f3
  obtain ⟨a4, e4, -, w4⟩ := DataW.trod_int Try.underlying3 f4
  obtain ⟨sx, hrow⟩ := open_clock f1
  obtain rfl : c0 = _ := List.head_eq_of_cons_eq e0
  obtain rfl : c2 = _ := List.head_eq_of_cons_eq e2
  obtain rfl : c3 = _ := List.head_eq_of_cons_eq e3
  obtain rfl : c4 = _ := List.head_eq_of_cons_eq e4
  exact ⟨⟨a0, sx, a2, a3, a4⟩, c1, rfl, hrow, w0, w2, w3, w4⟩

set_option maxRecDepth 100000 in
/-- An update by value. -/
theorem open_upd {r : Reach} {b0 : Nat} {v : Value} {d : DataW H} {p : List MemPlace} (hv : Value.okWide Try.prog w r b0 38 v)
    (h : DataW.Trod enc Try.prog w base (fun _ => true) held 38 v d p) : ∃ u, IsUpd w v u := by
  obtain ⟨cs, rfl, hsz⟩ := okWide_struct Try.underlying38 hv
  obtain ⟨fuel, hf⟩ := h
  obtain ⟨u, sv, hcs, hrow, -⟩ := open_upd5 hf
  refine ⟨u, sv, ?_, hrow⟩
  have : cs.toList = _ := hcs
  rw [← Array.toArray_toList (xs := cs), this]

set_option maxRecDepth 100000 in
/-- A slice of bytes; its datum is as long. -/
theorem open_bytes2 {r : Reach} {b0 : Nat} {v : Value} {d : DataW H} {p : List MemPlace} (hv : Value.okWide Try.prog w r b0 39 v)
    (h : DataW.Trod enc Try.prog w base (fun _ => true) held 39 v d p) : ∃ bs, RowB w v bs ∧ (bs = [] ∨ ∃ el sp, d = .slice el sp ∧ el.length = bs.length) := by
  obtain ⟨a, len, cap, rfl⟩ := okWide_slice Try.underlying39 hv
  obtain ⟨fuel, hf⟩ := h
  rcases open_ints Try.underlying39 Try.underlying5 Try.cellsByte hf with ⟨hcs, _⟩ | ⟨x, l, cp, zs, hcs, _, hl, hm, hz, hx, hcell, hwz⟩
  · simp [Value.cells] at hcs
    obtain ⟨rfl, rfl, rfl⟩ := hcs
    exact ⟨[], RowB.nil _, .inl rfl⟩
  · simp [Value.cells] at hcs
    obtain ⟨rfl, rfl, rfl⟩ := hcs
    simp only [if_true] at hz
    have hlen : (zs.take len).length = len := by rw [List.length_take]; omega
    have hd : d = _ := congrArg Prod.fst hx
    subst hd
    refine ⟨zs.take len, ?_, .inr ⟨_, _, rfl, by simp [lits]⟩⟩
    refine ⟨some x, cap, by rw [hlen], by omega, hm, fun b hb => bounds_u8 (hwz b (List.mem_of_mem_take hb)), fun i hi => ?_⟩
    rw [hlen] at hi
    have hc := hcell i (by omega)
    obtain ⟨b, off, spot⟩ := x
    have hspot : spot = none := by simpa [Addr.add] using World.cell?_spot (hcell 0 (by omega))
    subst hspot
    rw [addr_add] at hc
    refine ⟨b, off, rfl, ?_⟩
    rw [hc]
    have h5 : (zs.take len).getD i 0 = zs.getD i 0 := by simp [List.getD, hi]
    rw [h5]
set_option maxRecDepth 100000 in
theorem open_bytes {r : Reach} {b0 : Nat} {v : Value} {d : DataW H} {p : List MemPlace} (hv : Value.okWide Try.prog w r b0 39 v)
    (h : DataW.Trod enc Try.prog w base (fun _ => true) held 39 v d p) : ∃ bs, RowB w v bs := by
  obtain ⟨bs, h, -⟩ := open_bytes2 hv h
  exact ⟨bs, h⟩
end
end Go.Proofs.Ytiomdleoafakkaa
