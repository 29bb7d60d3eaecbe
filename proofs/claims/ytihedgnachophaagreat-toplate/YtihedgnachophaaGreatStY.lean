/- What is read of a state: cells, counters, the whole view; two views compared. -/
import Derived.Test.YtihedgnachophaaGreatStO
import Derived.Test.YtihedgnachophaaGreatStI
import Derived.Test.YtihedgnachophaaGreatStL
import Derived.Test.YtihedgnachophaaGreatStJoin
namespace Go.Proofs.YtihedgnachophaaGreat
open Go.RowKit

set_option maxRecDepth 100000 in
theorem read1_fn (x : Live) (w : World) : Calls Tryz.prog 41 #[.agg #[.bool x.set, .int .i64 x.key, .int .i64 x.item, .int .i64 x.author, .int .i64 x.seq]] w fun e w' => e = .returned (.bool (!x.set)) ∧ Below w.heap.size w w' := by
 have hb := bpl w (.cells #[.bool x.set, .int .i64 x.key, .int .i64 x.item, .int .i64 x.author, .int .i64 x.seq] 76)
 go_enter Tryz.func41, Tryz.ntmps41
 go_wp2
 go_ret
 exact ⟨rfl, hb⟩
set_option maxRecDepth 100000 in
theorem read2_fn (x : Live) (w : World) : Calls Tryz.prog 42 #[.agg #[.bool x.set, .int .i64 x.key, .int .i64 x.item, .int .i64 x.author, .int .i64 x.seq]] w fun e w' => e = .returned (.bool (x.set)) ∧ Below w.heap.size w w' := by
 have hb := bpl w (.cells #[.bool x.set, .int .i64 x.key, .int .i64 x.item, .int .i64 x.author, .int .i64 x.seq] 76)
 go_enter Tryz.func42, Tryz.ntmps42
 go_wp2
 go_ret
 exact ⟨rfl, hb⟩
set_option maxRecDepth 100000 in
set_option maxHeartbeats 2000000 in
theorem cells_reg (v : Value) (l : List Live) (w : World) (hl : SliceV 5 encL w v l) (hbig : l.length ≤ 400000000) :
  Calls Tryz.prog 40 #[v, .func (Fn.func 41) #[] #[]] w fun e w' => ∃ v', e = .returned v' ∧ ∃ ps, CellO w' w.heap.size v' ps ∧ ps.map (·.1) = cellsL false l [] ∧ Below w.heap.size w w' := by
 obtain ⟨a, cap, rfl, -, -, -⟩ := id hl
 have HL := hide hl
 clear hl
 go_enter Tryz.func40, Tryz.ntmps40
 go_wp2_with fail
 go_loopw [5, 10] (fun o i wr => ∃ (k : Nat) (ps : List ((Int × List Int) × Value)), k ≤ l.length ∧ i = .int .i64 k ∧ Hid (ps.map (·.1) = cellsL false (l.take k) []) ∧ Hid (CellO wr w.heap.size o ps) ∧ Hid (Below w.heap.size w wr)) (fun _ i _ => l.length - (intOf i).toNat)
 case atStart => exact ⟨0, [], Nat.zero_le _, rfl, rfl, ⟨World.ownsRow_nil _ _ _ _, fun p hp => by simp at hp, List.Pairwise.nil⟩, Below.refl _ _⟩
 case round =>
  obtain ⟨k, ps, hk, rfl, HP, HC, HB⟩ := hrel
  obtain ⟨w0, rfl⟩ : ∃ w0, w0 = wr := ⟨wr, rfl⟩
  by_cases hlt : k < l.length
  ·obtain ⟨x, hu⟩ : ∃ x, l[k]? = some x := ⟨_, List.getElem?_eq_getElem hlt⟩
   obtain ⟨b, off, rfl, d0, d1, d2, d3, d4⟩ := livesAt (HL.out.below HB.out (nlr _)) hu
   have hlt' : (k : Int) < (l.length : Int) := by omega
   have HS := hide (cellsL_step (s := false) hu [])
   have hlen := cellsL_len false (l.take k) [] 0 (by simp) (by simp)
   rw [← HP.out, List.length_map, List.length_take] at hlen
   have hpl : ps.length ≤ 500000000 := by omega
   have hits : Hid (∀ p ∈ ps, p.1.2.length ≤ 500000000) := fun p hp => by
    have := hlen.2 p.1 (List.mem_map.2 ⟨p, hp, rfl⟩)
    omega
   have hbp := bpl w0 (.cells #[.bool x.set, .int .i64 x.key, .int .i64 x.item, .int .i64 x.author, .int .i64 x.seq] 76)
   have V1 := hide (Box.new w0 [.bool x.set, .int .i64 x.key, .int .i64 x.item, .int .i64 x.author, .int .i64 x.seq] 76)
   have HC1 := hide (HC.out.below hbp (nlr _))
   have HB1 := hide (below_step HB.out hbp)
   clear hbp hlen HC HB
   obtain ⟨q, HQ⟩ : ∃ q : Bool, Hid ((!x.set) = q) := ⟨_, rfl⟩
   cases q
   ·have hns : Hid (¬ x.set = false) := by have := HQ.out; unfold Hid; cases hx : x.set <;> rw [hx] at this <;> simp_all
    go_wp2_with fail
    refine (read1_fn x _).mono ?_
    rintro e w2 ⟨rfl, hb⟩
    rw [HQ.out]
    have HC2 := hide (HC1.out.below hb (nlr _))
    have HB2 := hide (below_step HB1.out hb)
    clear hb HC1 HB1 V1 d0 d1 d2 d3 d4
    go_wp2_with fail
    go_roundw
    case rel => exact ⟨k + 1, ps, by omega, by go_num, hide (by rw [HS.out, HP.out]; simp only [if_neg hns.out]), HC2, HB2⟩
    case measure => simp [intOf]; omega
   ·have hns : Hid (x.set = false) := by have := HQ.out; unfold Hid; cases hx : x.set <;> rw [hx] at this <;> simp_all
    go_wp2_with fail
    refine (read1_fn x _).mono ?_
    rintro e w2 ⟨rfl, hb⟩
    rw [HQ.out]
    have HC2 := hide (HC1.out.below hb (nlr _))
    have HB2 := hide (below_step HB1.out hb)
    have V2 := hide (V1.out.below hb (nlr _))
    clear hb HC1 HB1 V1 d0 d1 d2 d3 d4
    have c1 := V2.out.get 1 rfl
    have c2 := V2.out.get 2 rfl
    go_wp2_with fail
    refine (showItem_fn _ ps x.key x.item w2 w.heap.size HC2.out HB2.out.size hpl hits.out).mono ?_
    rintro e w3 ⟨v3, rfl, ps3, hc3, hm3, hb3⟩
    have HC3 := hide hc3
    have HM3 := hide hm3
    have HB3 : Hid (Below w.heap.size w w3) := HB2.out.trans hb3
    clear hc3 hm3 hb3 c1 c2 V2
    go_wp2_with fail
    go_roundw
    case rel => exact ⟨k + 1, ps3, by omega, by go_num, hide (by rw [HS.out, HM3.out, HP.out]; simp only [if_pos hns.out]), HC3, HB3⟩
    case measure => simp [intOf]; omega
  ·have hkl : l.take k = l := List.take_of_length_le (by omega)
   rw [hkl] at HP
   have hlt' : ¬ (k : Int) < (l.length : Int) := by omega
   go_wp2_with fail
   go_ret
   exact ⟨_, rfl, ps, HC.out, HP.out, HB.out⟩
set_option maxRecDepth 100000 in
set_option maxHeartbeats 2000000 in
theorem cells_set (v : Value) (l : List Live) (w : World) (hl : SliceV 5 encL w v l) (hbig : l.length ≤ 400000000) :
  Calls Tryz.prog 40 #[v, .func (Fn.func 42) #[] #[]] w fun e w' => ∃ v', e = .returned v' ∧ ∃ ps, CellO w' w.heap.size v' ps ∧ ps.map (·.1) = cellsL true l [] ∧ Below w.heap.size w w' := by
 obtain ⟨a, cap, rfl, -, -, -⟩ := id hl
 have HL := hide hl
 clear hl
 go_enter Tryz.func40, Tryz.ntmps40
 go_wp2_with fail
 go_loopw [5, 10] (fun o i wr => ∃ (k : Nat) (ps : List ((Int × List Int) × Value)), k ≤ l.length ∧ i = .int .i64 k ∧ Hid (ps.map (·.1) = cellsL true (l.take k) []) ∧ Hid (CellO wr w.heap.size o ps) ∧ Hid (Below w.heap.size w wr)) (fun _ i _ => l.length - (intOf i).toNat)
 case atStart => exact ⟨0, [], Nat.zero_le _, rfl, rfl, ⟨World.ownsRow_nil _ _ _ _, fun p hp => by simp at hp, List.Pairwise.nil⟩, Below.refl _ _⟩
 case round =>
  obtain ⟨k, ps, hk, rfl, HP, HC, HB⟩ := hrel
  obtain ⟨w0, rfl⟩ : ∃ w0, w0 = wr := ⟨wr, rfl⟩
  by_cases hlt : k < l.length
  ·obtain ⟨x, hu⟩ : ∃ x, l[k]? = some x := ⟨_, List.getElem?_eq_getElem hlt⟩
   obtain ⟨b, off, rfl, d0, d1, d2, d3, d4⟩ := livesAt (HL.out.below HB.out (nlr _)) hu
   have hlt' : (k : Int) < (l.length : Int) := by omega
   have HS := hide (cellsL_step (s := true) hu [])
   have hlen := cellsL_len true (l.take k) [] 0 (by simp) (by simp)
   rw [← HP.out, List.length_map, List.length_take] at hlen
   have hpl : ps.length ≤ 500000000 := by omega
   have hits : Hid (∀ p ∈ ps, p.1.2.length ≤ 500000000) := fun p hp => by
    have := hlen.2 p.1 (List.mem_map.2 ⟨p, hp, rfl⟩)
    omega
   have hbp := bpl w0 (.cells #[.bool x.set, .int .i64 x.key, .int .i64 x.item, .int .i64 x.author, .int .i64 x.seq] 76)
   have V1 := hide (Box.new w0 [.bool x.set, .int .i64 x.key, .int .i64 x.item, .int .i64 x.author, .int .i64 x.seq] 76)
   have HC1 := hide (HC.out.below hbp (nlr _))
   have HB1 := hide (below_step HB.out hbp)
   clear hbp hlen HC HB
   obtain ⟨q, HQ⟩ : ∃ q : Bool, Hid ((x.set) = q) := ⟨_, rfl⟩
   cases q
   ·have hns : Hid (¬ x.set = true) := by have := HQ.out; unfold Hid; cases hx : x.set <;> rw [hx] at this <;> simp_all
    go_wp2_with fail
    refine (read2_fn x _).mono ?_
    rintro e w2 ⟨rfl, hb⟩
    rw [HQ.out]
    have HC2 := hide (HC1.out.below hb (nlr _))
    have HB2 := hide (below_step HB1.out hb)
    clear hb HC1 HB1 V1 d0 d1 d2 d3 d4
    go_wp2_with fail
    go_roundw
    case rel => exact ⟨k + 1, ps, by omega, by go_num, hide (by rw [HS.out, HP.out]; simp only [if_neg hns.out]), HC2, HB2⟩
    case measure => simp [intOf]; omega
   ·have hns : Hid (x.set = true) := by have := HQ.out; unfold Hid; cases hx : x.set <;> rw [hx] at this <;> simp_all
    go_wp2_with fail
    refine (read2_fn x _).mono ?_
    rintro e w2 ⟨rfl, hb⟩
    rw [HQ.out]
    have HC2 := hide (HC1.out.below hb (nlr _))
    have HB2 := hide (below_step HB1.out hb)
    have V2 := hide (V1.out.below hb (nlr _))
    clear hb HC1 HB1 V1 d0 d1 d2 d3 d4
    have c1 := V2.out.get 1 rfl
    have c2 := V2.out.get 2 rfl
    go_wp2_with fail
    refine (showItem_fn _ ps x.key x.item w2 w.heap.size HC2.out HB2.out.size hpl hits.out).mono ?_
    rintro e w3 ⟨v3, rfl, ps3, hc3, hm3, hb3⟩
    have HC3 := hide hc3
    have HM3 := hide hm3
    have HB3 : Hid (Below w.heap.size w w3) := HB2.out.trans hb3
    clear hc3 hm3 hb3 c1 c2 V2
    go_wp2_with fail
    go_roundw
    case rel => exact ⟨k + 1, ps3, by omega, by go_num, hide (by rw [HS.out, HM3.out, HP.out]; simp only [if_pos hns.out]), HC3, HB3⟩
    case measure => simp [intOf]; omega
  ·have hkl : l.take k = l := List.take_of_length_le (by omega)
   rw [hkl] at HP
   have hlt' : ¬ (k : Int) < (l.length : Int) := by omega
   go_wp2_with fail
   go_ret
   exact ⟨_, rfl, ps, HC.out, HP.out, HB.out⟩
end Go.Proofs.YtihedgnachophaaGreat

namespace Go.Proofs.YtihedgnachophaaGreat
open Go.RowKit

def encC (p : Int × Int) : List Value := [.int .i64 p.1, .int .i64 p.2]
theorem encC_length (p : Int × Int) : (encC p).length = 2 := rfl
theorem encC_one (x : Int × Int) : ∀ v ∈ encC x, v.oneCell' = true := by
 intro v hv
 simp only [encC, List.mem_cons, List.not_mem_nil, or_false] at hv
 rcases hv with rfl | rfl <;> rfl
theorem Tryz.infoPair : (Tryz.prog.info? 66).map (fun i => (i.zero, i.size, i.bytes)) = some (some (.agg #[.int .i64 0, .int .i64 0]), 2, 16) := by kernel_rfl
def stepC (out : List (Int × Int)) (t : Tal) : List (Int × Int) :=
 match out.getLast? with
 | none => out ++ [(t.key, t.sum)]
 | some p => if p.1 = t.key then out.dropLast ++ [(p.1, p.2 + t.sum)] else out ++ [(t.key, t.sum)]
def countL : List Tal → List (Int × Int) → List (Int × Int)
 | [], out => out
 | t :: r, out => countL r (stepC out t)
theorem countL_step {l : List Tal} {k : Nat} {x : Tal} (h : l[k]? = some x) : ∀ out, countL (l.take (k + 1)) out = stepC (countL (l.take k) out) x := by
 intro out
 obtain ⟨hk, rfl⟩ := List.getElem?_eq_some_iff.1 h
 rw [List.take_succ_eq_append_getElem hk]
 generalize l.take k = a
 generalize l[k] = y
 clear h hk
 induction a generalizing out with
 | nil => rfl
 | cons z r ih => rw [List.cons_append, countL, countL, ih]
theorem stepC_none {out : List (Int × Int)} {t : Tal} (h : out.getLast? = none) : stepC out t = out ++ [(t.key, t.sum)] := by unfold stepC; rw [h]
theorem stepC_new {out : List (Int × Int)} {t : Tal} {p : Int × Int} (h : out.getLast? = some p) (hk : ¬ p.1 = t.key) : stepC out t = out ++ [(t.key, t.sum)] := by unfold stepC; rw [h]; simp only [if_neg hk]
theorem stepC_more {out : List (Int × Int)} {t : Tal} {p : Int × Int} (h : out.getLast? = some p) (hk : p.1 = t.key) : stepC out t = out.dropLast ++ [(p.1, p.2 + t.sum)] := by unfold stepC; rw [h]; simp only [if_pos hk]
theorem stepC_len (out : List (Int × Int)) (t : Tal) (ht : -1000000 ≤ t.sum ∧ t.sum ≤ 1000000) (n : Nat) (h1 : out.length ≤ n) (h2 : ∀ p ∈ out, -(1000000 * (n : Int)) ≤ p.2 ∧ p.2 ≤ 1000000 * (n : Int)) : (stepC out t).length ≤ n + 1 ∧ ∀ p ∈ stepC out t, -(1000000 * ((n + 1 : Nat) : Int)) ≤ p.2 ∧ p.2 ≤ 1000000 * ((n + 1 : Nat) : Int) := by
 have new : (out ++ [(t.key, t.sum)]).length ≤ n + 1 ∧ ∀ p ∈ out ++ [(t.key, t.sum)], -(1000000 * ((n + 1 : Nat) : Int)) ≤ p.2 ∧ p.2 ≤ 1000000 * ((n + 1 : Nat) : Int) := by
  refine ⟨by simp; omega, fun p hp => ?_⟩
  rcases List.mem_append.1 hp with hp | hp
  ·have := h2 p hp; omega
  ·simp at hp; subst hp; simp only; omega
 cases hg : out.getLast? with
 | none => rw [stepC_none hg]; exact new
 | some q =>
  by_cases hk : q.1 = t.key
  ·rw [stepC_more hg hk]
   obtain ⟨e1, e2, -⟩ := row_snoc hg
   have hq := h2 q (List.mem_of_getLast? hg)
   refine ⟨by simp; omega, fun p hp => ?_⟩
   rcases List.mem_append.1 hp with hp | hp
   ·have := h2 p (by rw [e1]; exact List.mem_append.2 (.inl hp)); omega
   ·simp at hp; subst hp; simp only; omega
  ·rw [stepC_new hg hk]; exact new
theorem cellsC_second {ps : List (Int × Int)} {k : Nat} {p : Int × Int} (s : Int) (h : ps[k]? = some p) : cellsS encC (ps.set k (p.1, s)) = (cellsS encC ps).take (k * 2 + 1) ++ [.int .i64 s] ++ (cellsS encC ps).drop (k * 2 + 1 + 1) := by
 obtain ⟨hk, rfl⟩ := List.getElem?_eq_some_iff.1 h
 have e1 : ps.set k (ps[k].1, s) = ps.take k ++ (ps[k].1, s) :: ps.drop (k + 1) := by rw [List.set_eq_take_append_cons_drop, if_pos hk]
 have e2 : cellsS encC ps = cellsS encC (ps.take k) ++ (encC ps[k] ++ cellsS encC (ps.drop (k + 1))) := by
  have : ps = ps.take k ++ ps[k] :: ps.drop (k + 1) := by rw [← List.drop_eq_getElem_cons hk, List.take_append_drop]
  rw [congrArg (cellsS encC) this, cellsS_append]
  rfl
 have hA : (cellsS encC (ps.take k)).length = k * 2 := by rw [cellsS_length encC_length, List.length_take, Nat.min_eq_left (by omega)]
 rw [e1, cellsS_append, e2]
 generalize cellsS encC (ps.take k) = A at hA
 rw [List.take_append, List.drop_append, List.take_of_length_le (l := A) (by omega), List.drop_of_length_le (l := A) (by omega), hA, show k * 2 + 1 - k * 2 = 1 by omega, show k * 2 + 1 + 1 - k * 2 = 2 by omega]
 simp [encC, cellsS]
theorem set_last {α : Type} {l : List α} {m : Nat} {p q : α} (hm : l.length = m + 1) (hp : l[m]? = some p) : l.set m q = l.dropLast ++ [q] := by
 have hps : l = l.take m ++ [p] := by
  have hd := drop_at hp
  rw [List.drop_of_length_le (i := m + 1) (by omega)] at hd
  rw [← hd, List.take_append_drop]
 have hml2 : (l.take m).length = m := by rw [List.length_take]; omega
 generalize l.take m = A at hps hml2
 subst hps
 rw [List.set_append_right _ _ (by omega), hml2, Nat.sub_self]
 simp

set_option maxRecDepth 100000 in
set_option maxHeartbeats 2000000 in
theorem counters_fn (v : Value) (l : List Tal) (w : World) (hl : SliceV 3 encT w v l) (hbig : l.length ≤ 100) (hsum : ∀ t ∈ l, -1000000 ≤ t.sum ∧ t.sum ≤ 1000000) :
  Calls Tryz.prog 43 #[v] w fun e w' => ∃ v', e = .returned v' ∧ w'.ownsRow w.heap.size 66 2 v' (countL l []).length (cellsS encC (countL l [])) ∧ Below w.heap.size w w' := by
 obtain ⟨i0, hi0, hz0, hz1, hz2⟩ := info_parts Tryz.infoPair
 obtain ⟨a, cap, rfl, -, -, -⟩ := id hl
 have HL := hide hl
 have HSM := hide hsum
 clear hl hsum
 go_enter Tryz.func43, Tryz.ntmps43
 go_wp2_with fail
 go_loopw [3, 9] (fun o i wr => ∃ (k : Nat) (ps : List (Int × Int)), k ≤ l.length ∧ i = .int .i64 k ∧ Hid (ps = countL (l.take k) []) ∧ Hid (ps.length ≤ k ∧ ∀ p ∈ ps, -(1000000 * (k : Int)) ≤ p.2 ∧ p.2 ≤ 1000000 * (k : Int)) ∧ Hid (wr.ownsRow w.heap.size 66 2 o ps.length (cellsS encC ps)) ∧ Hid (Below w.heap.size w wr)) (fun _ i _ => l.length - (intOf i).toNat)
 case atStart => exact ⟨0, [], Nat.zero_le _, rfl, rfl, ⟨by simp, by simp⟩, World.ownsRow_nil _ _ _ _, Below.refl _ _⟩
 case round =>
  obtain ⟨k, ps, hk, rfl, HP, HN, HO, HB⟩ := hrel
  obtain ⟨w0, rfl⟩ : ∃ w0, w0 = wr := ⟨wr, rfl⟩
  by_cases hlt : k < l.length
  ·obtain ⟨t, hu⟩ : ∃ t, l[k]? = some t := ⟨_, List.getElem?_eq_getElem hlt⟩
   obtain ⟨b, off, rfl, d0, d1, d2⟩ := talsAt (HL.out.below HB.out (nlr _)) hu
   have hlt' : (k : Int) < (l.length : Int) := by omega
   have ht := HSM.out t (List.mem_of_getElem? hu)
   have HS : Hid (stepC ps t = countL (l.take (k + 1)) []) := by unfold Hid; rw [countL_step hu, HP.out]
   have HN2 := hide (stepC_len ps t ht k HN.out.1 HN.out.2)
   have hbp := bpl w0 (.cells #[.int .i64 t.key, .int .i64 t.author, .int .i64 t.sum] 78)
   have V1 := hide (Box.new w0 [.int .i64 t.key, .int .i64 t.author, .int .i64 t.sum] 78)
   have HO1 := hide (ownsRow_below HO.out hbp (nlr _))
   have HB1 := hide (below_step HB.out hbp)
   have hbp2 := Below.plus hbp (.cells #[.int .i64 t.key, .int .i64 t.sum] 66)
   have HO2 := hide (ownsRow_below HO.out hbp2 (nlr _))
   have HB2 := hide (below_step HB.out hbp2)
   have hX := Box.new (w0.alloc (.cells #[.int .i64 t.key, .int .i64 t.author, .int .i64 t.sum] 78)) (encC (t.key, t.sum)) 66
   rw [World.size_alloc] at hX
   have HC2 := hide hX.cellsAt
   have hnl := HN.out.1
   have HWSZ := hide HB.out.size
   clear hbp hbp2 hX
   cases hgl : ps.getLast? with
   | none =>
    have hnil : ps = [] := List.getLast?_eq_none_iff.1 hgl
    have HGL := hide hgl
    subst hnil
    obtain ⟨a', cap', ho, -⟩ := slice_of_own encC_length HO.out
    subst ho
    have HLT := hide HO.out.lt
    have c0 := V1.out.get 0 rfl
    have c2 := V1.out.get 2 rfl
    clear hgl HO HO1 HB1 HB HN hnl
    have HZ := hide (rfl : ([] : List (Int × Int)).length = 0)
    rw [HZ.out] at HO2
    go_wp2_with fail
    go_quiet (fail)
    go_wp2_with (at_builtin; refine wpList_append_own _ rfl (.tmp 28) (.tmp 34) 56 rfl w.heap.size 66 i0 (.agg #[.int .i64 0, .int .i64 0]) 2 16 Tryz.underlying56 hi0 hz0 hz1 hz2 rfl (by decide) _ _ _ rfl HO2.out ⟨w0.heap.size + 1, 0, none⟩ 1 1 (encC (t.key, t.sum)) rfl rfl HC2.out (encC_one _) (by unfold maxLen; simp) (by simp) (by have := HWSZ.out; simp; omega) ?_)
    intro v' w4 hown' hgrow _
    have HO4 : Hid (w4.ownsRow w.heap.size 66 2 v' (stepC [] t).length (cellsS encC (stepC [] t))) := by
     rw [stepC_none HGL.out]
     exact hown'
    have HB4 : Hid (Below w.heap.size w w4) := (below_drewN HB2.out _).grown hgrow (by have := HWSZ.out; simp; omega) (fun k hk => (HLT.out k hk).1)
    clear hown' hgrow
    go_wp2_with fail
    go_roundw
    case rel => exact ⟨k + 1, stepC [] t, by omega, by go_num, HS, HN2, HO4, HB4⟩
    case measure => simp [intOf]; omega
   | some p =>
    obtain ⟨hp1, hp2, hp3⟩ := row_snoc hgl
    obtain ⟨m, hm⟩ : ∃ m, ps.length = m + 1 := ⟨_, hp2⟩
    have hpm : ps[m]? = some p := by rw [hm] at hp3; exact hp3
    rcases own_ways HO.out with ⟨-, h2⟩ | ⟨g, cap', ho, hgB, hh, hcap, hcm⟩
    ·rw [h2] at hpm; simp at hpm
    subst ho
    have HLT := hide HO.out.lt
    have HGL := hide hgl
    have HPM := hide hpm
    have HM := hide hm
    have HH1 := hide (hh.below (bpl w0 (.cells #[.int .i64 t.key, .int .i64 t.author, .int .i64 t.sum] 78)) (nlr _))
    have hgl0 := hh.lt
    have hpb := HN.out.2 p (List.mem_of_getElem? hpm)
    have q0 := HH1.out.at encC_length HPM.out (j := 0) rfl
    have q1 := HH1.out.at encC_length HPM.out (j := 1) rfl
    simp only [Nat.add_zero] at q0
    have qf := HH1.out.free (m * 2 + 1)
    have c0 := V1.out.get 0 rfl
    have c2 := V1.out.get 2 rfl
    have hm0 : (0 : Int) ≤ (m : Int) := by omega
    have hmn : (m : Int) < (ps.length : Int) := by omega
    have hw : IntKind.i64.wrap ((ps.length : Int) - 1) = (m : Int) := by rw [hm, wrapL (by omega) (by omega)]; omega
    have hml : decide ((m : Int) < 0) = false := by simp
    clear hp1 hp2 hp3 hgl hpm hh HO
    by_cases hkk : p.1 = t.key
    ·have hq : (p.1 != t.key) = false := by simp [hkk]
     have HK := hide hkk
     have hw2 : IntKind.i64.wrap (p.2 + t.sum) = p.2 + t.sum := wrapS (by omega) (by omega)
     have hne1 : ¬ w0.heap.size = g := by omega
     have hne2 : ¬ g = w0.heap.size := by omega
     clear hkk HO1 HO2 HB2 HC2 hm
     go_wp2_with fail
     go_quiet (fail)
     go_upto_region 8 with fail
     go_region
     go_wp2_with fail
     go_roundw
     case rel =>
      have hst : stepC ps t = ps.set m (p.1, p.2 + t.sum) := by rw [stepC_more HGL.out HK.out, set_last HM.out HPM.out]
      have hlen : (ps.set m (p.1, p.2 + t.sum)).length = ps.length := by simp
      refine ⟨k + 1, stepC ps t, by omega, by go_num, HS, HN2, hide ?_, hide ?_⟩
      ·rw [hst, hlen]
       have hs := HH1.out.splice (o := m * 2 + 1) [.int .i64 (p.2 + t.sum)] (ps.set m (p.1, p.2 + t.sum)) hlen hcap (by simp; have := HM.out; omega) (cellsC_second _ HPM.out)
       have := HoldsS.own encC_length hs hgB (by rw [hlen]; exact hcap) hcm
       rw [hlen] at this
       exact this
      ·exact (below_drewN HB1.out _).drew.setCell hgB _
     case measure => simp [intOf]; omega
    ·have hq : (p.1 != t.key) = true := by simp [hkk]
     have HK := hide hkk
     clear hkk HO1 HB1 q1 qf hm
     go_wp2_with fail
     go_quiet (fail)
     go_wp2_with (at_builtin; refine wpList_append_own _ rfl (.tmp 28) (.tmp 34) 56 rfl w.heap.size 66 i0 (.agg #[.int .i64 0, .int .i64 0]) 2 16 Tryz.underlying56 hi0 hz0 hz1 hz2 rfl (by decide) _ _ _ rfl HO2.out ⟨w0.heap.size + 1, 0, none⟩ 1 1 (encC (t.key, t.sum)) rfl rfl HC2.out (encC_one _) (by unfold maxLen; omega) (by omega) (by have := HWSZ.out; simp; omega) ?_)
     intro v' w4 hown' hgrow _
     have HO4 : Hid (w4.ownsRow w.heap.size 66 2 v' (stepC ps t).length (cellsS encC (stepC ps t))) := by
      unfold Hid
      rw [stepC_new HGL.out HK.out, cellsS_snoc]
      simpa using hown'
     have HB4 : Hid (Below w.heap.size w w4) := (below_drewN HB2.out _).grown hgrow (by have := HWSZ.out; simp; omega) (fun k hk => (HLT.out k hk).1)
     clear hown' hgrow
     go_wp2_with fail
     go_roundw
     case rel => exact ⟨k + 1, stepC ps t, by omega, by go_num, HS, HN2, HO4, HB4⟩
     case measure => simp [intOf]; omega
  ·have hkl : l.take k = l := List.take_of_length_le (by omega)
   rw [hkl] at HP
   have hlt' : ¬ (k : Int) < (l.length : Int) := by omega
   go_wp2_with fail
   go_ret
   refine ⟨_, rfl, ?_, HB.out⟩
   rw [← HP.out]
   exact HO.out
end Go.Proofs.YtihedgnachophaaGreat

namespace Go.Proofs.YtihedgnachophaaGreat
open Go.RowKit

structure Vw where
 regs : List (Int × List Int)
 sets : List (Int × List Int)
 cnts : List (Int × Int)
def ViewO (w : World) (B : Nat) (v : Value) (x : Vw) : Prop :=
 ∃ rv sv cv pr ps, v = .agg #[rv, sv, cv] ∧ CellO w B rv pr ∧ pr.map (·.1) = x.regs ∧ CellO w B sv ps ∧ ps.map (·.1) = x.sets ∧ w.ownsRow B 66 2 cv x.cnts.length (cellsS encC x.cnts)
theorem CellO.base {w : World} {B C : Nat} {v : Value} {ps : List ((Int × List Int) × Value)} (h : CellO w B v ps) (hB : C ≤ B) : CellO w C v ps := ⟨ownsRow_base h.row hB, fun p hp => ⟨(h.items p hp).1.mono hB, (h.items p hp).2⟩, h.apart⟩
theorem CellO.away {w : World} {B : Nat} {v : Value} {ps : List ((Int × List Int) × Value)} (h : CellO w B v ps) {g : Nat} (hg : g < B) (i : Nat) (x : Value) : CellO (w.setCell ⟨g, i, none⟩ x) B v ps :=
 ⟨ownsRow_setCell_below h.row hg x, fun p hp => ⟨(h.items p hp).1.away hg i x, (h.items p hp).2⟩, h.apart⟩
theorem ViewO.below {w w' : World} {B C : Nat} {v : Value} {x : Vw} (h : ViewO w B v x) (hb : Below C w w') (hC : w.heap.size ≤ C) : ViewO w' B v x := by
 obtain ⟨rv, sv, cv, pr, ps, h1, h2, h3, h4, h5, h6⟩ := h
 exact ⟨rv, sv, cv, pr, ps, h1, h2.below hb hC, h3, h4.below hb hC, h5, ownsRow_below h6 hb hC⟩
theorem ViewO.away {w : World} {B : Nat} {v : Value} {x : Vw} (h : ViewO w B v x) {g : Nat} (hg : g < B) (i : Nat) (y : Value) : ViewO (w.setCell ⟨g, i, none⟩ y) B v x := by
 obtain ⟨rv, sv, cv, pr, ps, h1, h2, h3, h4, h5, h6⟩ := h
 exact ⟨rv, sv, cv, pr, ps, h1, h2.away hg i y, h3, h4.away hg i y, h5, ownsRow_setCell_below h6 hg y⟩
theorem CellO.none (w : World) (B : Nat) : CellO w B (.slice none 0 0) [] := ⟨World.ownsRow_nil _ _ _ _, fun p hp => by simp at hp, List.Pairwise.nil⟩
theorem ViewO.none (w : World) (B : Nat) : ViewO w B (.agg #[.slice none 0 0, .slice none 0 0, .slice none 0 0]) ⟨[], [], []⟩ := ⟨_, _, _, [], [], rfl, CellO.none _ _, rfl, CellO.none _ _, rfl, World.ownsRow_nil _ _ _ _⟩
theorem CellO.slice {w : World} {B : Nat} {v : Value} {ps : List ((Int × List Int) × Value)} (h : CellO w B v ps) : ∃ a cap, v = .slice a ps.length cap := by
 obtain ⟨a, cap, h1, -⟩ := slice_of_own encP_length h.row
 exact ⟨a, cap, h1⟩
theorem Tryz.sizeView : (Tryz.prog.info? 58).map (·.size) = some 3 := by kernel_rfl
def readX (s : StS) : Vw := if stE s s.clock.length = 0 then ⟨cellsL false s.lives [], cellsL true s.lives [], countL s.tals []⟩ else ⟨[], [], []⟩
def readA (s : StS) : Int := stA s s.clock.length

set_option maxRecDepth 100000 in
set_option maxHeartbeats 2000000 in
theorem read_state (v : Value) (s : StS) (w : World) (h : IsSt w v s) :
  Calls Tryz.prog 27 #[v] w fun e w' => ∃ rv, e = .returned (.tuple #[rv, .agg #[.int .i64 (stE s s.clock.length), .int .i64 (stA s s.clock.length)]]) ∧ ViewO w' (w.heap.size + 3) rv (readX s) ∧ Below w.heap.size w w' := by
 have hin := h
 obtain ⟨cv, lv, tv, rfl, hc, hv, ht⟩ := h
 obtain ⟨a1, cap1, rfl, -, -, -⟩ := id hc
 obtain ⟨a2, cap2, rfl, -, -, -⟩ := id hv
 obtain ⟨a3, cap3, rfl, -, -, -⟩ := id ht
 have hb3 := Below.plus (Below.plus (bpl w (.cells #[.slice a1 s.clock.length cap1, .slice a2 s.lives.length cap2, .slice a3 s.tals.length cap3] 45)) (.cells #[.slice none 0 0, .slice none 0 0, .slice none 0 0] 58)) (.cells #[.int .i64 0, .int .i64 0] 80)
 have S0 := hide (hin.below hb3 (nlr _))
 have L0 := hide (hv.below hb3 (nlr _))
 have T0 := hide (ht.below hb3 (nlr _))
 have G0 := hide (((Box.new w [.slice a1 s.clock.length cap1, .slice a2 s.lives.length cap2, .slice a3 s.tals.length cap3] 45).plus (.cells #[.slice none 0 0, .slice none 0 0, .slice none 0 0] 58)).plus (.cells #[.int .i64 0, .int .i64 0] 80))
 have R0 := hide ((Box.new (w.alloc (.cells #[.slice a1 s.clock.length cap1, .slice a2 s.lives.length cap2, .slice a3 s.tals.length cap3] 45)) [.slice none 0 0, .slice none 0 0, .slice none 0 0] 58).plus (.cells #[.int .i64 0, .int .i64 0] 80))
 have Z0 := hide (Box.new ((w.alloc (.cells #[.slice a1 s.clock.length cap1, .slice a2 s.lives.length cap2, .slice a3 s.tals.length cap3] 45)).alloc (.cells #[.slice none 0 0, .slice none 0 0, .slice none 0 0] 58)) [.int .i64 0, .int .i64 0] 80)
 rw [World.size_alloc] at R0
 rw [World.size_alloc, World.size_alloc] at Z0
 have HB0 := hide hb3
 clear hin hc hv ht hb3
 obtain ⟨X, HX⟩ : ∃ X, Hid (readX s = X) := ⟨_, rfl⟩
 obtain ⟨r, HR⟩ : ∃ r, Hid (stE s s.clock.length = r) := ⟨_, rfl⟩
 obtain ⟨q, HQ⟩ : ∃ q, Hid (stA s s.clock.length = q) := ⟨_, rfl⟩
 rw [HR.out, HQ.out, HX.out]
 unfold readX at HX
 rw [HR.out] at HX
 by_cases hr : r = 0
 ·subst hr
  rw [if_pos rfl] at HX
  have hok := stE_ok.1 HR.out
  have hfew := hok.few
  have HSM := hide hok.sums
  clear hok
  go_enter Tryz.func27, Tryz.ntmps27
  have cG0 := G0.out.get 0 rfl
  have cG1 := G0.out.get 1 rfl
  have cG2 := G0.out.get 2 rfl
  go_wp2_with fail
  refine (wrong_state _ s s.clock.length _ S0.out).mono ?_
  rintro e w1 ⟨rfl, hb⟩
  have HB1 := hide (below_step HB0.out hb)
  have S1 := hide (S0.out.below hb (nlr _))
  have L1 := hide (L0.out.below hb (nlr _))
  have T1 := hide (T0.out.below hb (nlr _))
  have G1 := hide (G0.out.below hb (nlr _))
  have R1 := hide (R0.out.below hb (nlr _))
  have Z1 := hide (Z0.out.below hb (nlr _))
  clear HB0 hb S0 L0 T0 G0 R0 Z0
  rw [HR.out, HQ.out]
  clear cG0 cG1 cG2
  have HB2 := hide (below_step HB1.out (bpl w1 (.cells #[.int .i64 0, .int .i64 q] 80)))
  have S2 := hide (S1.out.below (bpl w1 (.cells #[.int .i64 0, .int .i64 q] 80)) (nlr _))
  have L2 := hide (L1.out.below (bpl w1 (.cells #[.int .i64 0, .int .i64 q] 80)) (nlr _))
  have T2 := hide (T1.out.below (bpl w1 (.cells #[.int .i64 0, .int .i64 q] 80)) (nlr _))
  have G2 := hide (G1.out.below (bpl w1 (.cells #[.int .i64 0, .int .i64 q] 80)) (nlr _))
  have R2 := hide (R1.out.below (bpl w1 (.cells #[.int .i64 0, .int .i64 q] 80)) (nlr _))
  have Z2 := hide (Z1.out.below (bpl w1 (.cells #[.int .i64 0, .int .i64 q] 80)) (nlr _))
  have V2 := hide (Box.new w1 [.int .i64 0, .int .i64 q] 80)
  clear HB1 S1 L1 T1 G1 R1 Z1
  have cV0 := V2.out.get 0 rfl
  have cV1 := V2.out.get 1 rfl
  obtain ⟨WB, HWB⟩ : ∃ WB, Hid (w1.alloc (.cells #[.int .i64 0, .int .i64 q] 80) = WB) := ⟨_, rfl⟩
  have hqq : Hid (q = 0) := by
   have h1 := stE_zero.1 HR.out
   unfold Hid
   rw [← HQ.out]
   unfold stA
   rw [if_neg (by simpa using h1.1), if_neg (by simpa using h1.2.1)]
   have h3 := h1.2.2
   unfold listE at h3
   unfold listA
   rw [if_pos h3]
  go_upto_region 4 with fail
  rw [HWB.out]
  rw [HWB.out] at HB2 L2 T2 G2 R2 Z2
  have hzB : Hid (w.heap.size + 1 + 1 < WB.heap.size) := Z2.out.lt
  have HK : Hid (∀ w', Grew WB w' → w'.cell? ⟨w.heap.size, 1, none⟩ = some (.slice a2 s.lives.length cap2) ∧ w'.cell? ⟨w.heap.size, 2, none⟩ = some (.slice a3 s.tals.length cap3)) := fun w' hg => ⟨(G2.out.below hg (nlr _)).get 1 rfl, (G2.out.below hg (nlr _)).get 2 rfl⟩
  clear cV0 cV1 V2 S2
  refine wp_region_held_drew (S := fun w' => w'.cell? ⟨w.heap.size, 1, none⟩ = some (.slice a2 s.lives.length cap2) ∧ w'.cell? ⟨w.heap.size, 2, none⟩ = some (.slice a3 s.tals.length cap3)) (by kernel_rfl) (HK.out _ (grew_drew (grew_refl _))) (fun hHeld => ?_)
  refine ty 0 15 (.pointer (some ⟨w.heap.size, 1, none⟩)) rfl rfl (by kernel_rfl) (fun _ _ _ h => h) rfl (by intro w hSw; (try dsimp only at hSw); go_simp) (by assumption) ?_
  simp only [Act.put, put1, put2, put3]
  refine ty 1 16 (.slice a2 s.lives.length cap2) rfl rfl (by kernel_rfl) (fun _ _ _ h => h) rfl (by intro w hSw; (try dsimp only at hSw); go_simp) (by assumption) ?_
  simp only [Act.put, put1, put2, put3]
  refine ty 3 18 (.pointer (some ⟨w.heap.size, 1, none⟩)) rfl rfl (by kernel_rfl) (fun _ _ _ h => h) rfl (by intro w hSw; (try dsimp only at hSw); go_simp) (by assumption) ?_
  simp only [Act.put, put1, put2, put3]
  refine ty 4 19 (.slice a2 s.lives.length cap2) rfl rfl (by kernel_rfl) (fun _ _ _ h => h) rfl (by intro w hSw; (try dsimp only at hSw); go_simp) (by assumption) ?_
  simp only [Act.put, put1, put2, put3]
  refine ty 6 21 (.pointer (some ⟨w.heap.size, 2, none⟩)) rfl rfl (by kernel_rfl) (fun _ _ _ h => h) rfl (by intro w hSw; (try dsimp only at hSw); go_simp) (by assumption) ?_
  simp only [Act.put, put1, put2, put3]
  refine ty 7 22 (.slice a3 s.tals.length cap3) rfl rfl (by kernel_rfl) (fun _ _ _ h => h) rfl (by intro w hSw; (try dsimp only at hSw); go_simp) (by assumption) ?_
  simp only [Act.put, put1, put2, put3]
  refine ty 10 25 (.agg #[.int .i64 0, .int .i64 0]) rfl rfl (by kernel_rfl) (fun _ _ _ h => h) rfl (by intro w hSw; (try dsimp only at hSw); go_simp) (by assumption) ?_
  simp only [Act.put, put1, put2, put3]
  refine wpAnyH_ready (rs := [2]) (by kernel_rfl) (by simp) ?_
  refine rd1 rfl (fun K hK => ?_)
  go_simp
  refine (cells_reg _ s.lives _ (L2.out.below (grew_drew (grew_refl WB)) (nlr _)) (by omega)).mono ?_
  rintro e w4 ⟨v4, rfl, p4, hc4, hm4, hb4⟩
  have hgr4 : Grew WB w4 := grew_step (grew_drew (grew_refl WB)) hb4
  obtain ⟨x4, y4, hx4⟩ := hc4.slice
  subst hx4
  refine hK.out _ _ (HK.out _ hgr4) (fun hHeld2 => ?_)
  clear hK K hHeld hb4
  try simp only [Act.put, put1, put2, put3]
  refine wpAnyH_ready (rs := [5]) (by kernel_rfl) (by simp) ?_
  refine rd1 rfl (fun K hK => ?_)
  go_simp
  refine (cells_set _ s.lives _ (L2.out.below hgr4 (nlr _)) (by omega)).mono ?_
  rintro e w5 ⟨v5, rfl, p5, hc5, hm5, hb5⟩
  have hgr5 : Grew WB w5 := grew_step hgr4 hb5
  have hc4' := hc4.below hb5 (nlr _)
  obtain ⟨x5, y5, hx5⟩ := hc5.slice
  subst hx5
  refine hK.out _ _ (HK.out _ hgr5) (fun hHeld3 => ?_)
  clear hK K hHeld2 hb5 hc4
  try simp only [Act.put, put1, put2, put3]
  refine wpAnyH_ready (rs := [8]) (by kernel_rfl) (by simp) ?_
  refine rd1 rfl (fun K hK => ?_)
  go_simp
  refine (counters_fn _ s.tals _ (T2.out.below hgr5 (nlr _)) (by omega) HSM.out).mono ?_
  rintro e w6 ⟨v6, rfl, hc6, hb6⟩
  have hgr6 : Grew WB w6 := grew_step hgr5 hb6
  have hc4'' := hc4'.below hb6 (nlr _)
  have hc5' := hc5.below hb6 (nlr _)
  obtain ⟨x6, y6, hx6, -⟩ := slice_of_own encC_length hc6
  subst hx6
  refine hK.out _ _ (HK.out _ hgr6) (fun hHeld4 => ?_)
  clear hK K hHeld3 hb6 hc4' hc5
  try simp only [Act.put, put1, put2, put3]
  refine ty 9 24 (.agg #[.slice x4 p4.length y4, .slice x5 p5.length y5, .slice x6 (countL s.tals []).length y6]) rfl rfl (by kernel_rfl) (fun _ _ _ h => h) rfl (by intro w hSw; (try dsimp only at hSw); go_simp) (by assumption) ?_
  simp only [Act.put, put1, put2, put3]
  have R6 := hide (R2.out.below hgr6 (nlr _))
  have Z6 := hide (Z2.out.below hgr6 (nlr _))
  have HV : Hid (ViewO w6 (w.heap.size + 3) (.agg #[.slice x4 p4.length y4, .slice x5 p5.length y5, .slice x6 (countL s.tals []).length y6]) X) := by
   have h4 := hgr4.size
   have h5 := hgr5.size
   have := hzB.out
   rw [← HX.out]
   exact ⟨_, _, _, p4, p5, rfl, hc4''.base (by show w.heap.size + 3 ≤ WB.heap.size; omega), hm4, hc5'.base (by omega), hm5, ownsRow_base hc6 (by omega)⟩
  have HB6 := hide (below_step HB2.out hgr6)
  clear hc4'' hc5' hc6 hm4 hm5
  have c0 := R6.out.get 0 rfl
  have c1 := R6.out.get 1 rfl
  have c2 := R6.out.get 2 rfl
  have f0 := R6.out.free 0
  have f1 := R6.out.free 1
  have f2 := R6.out.free 2
  have d0 := Z6.out.get 0 rfl
  have d1 := Z6.out.get 1 rfl
  have g0 := Z6.out.free 0
  have g1 := Z6.out.free 1
  refine wpAnyH_ready (rs := [11]) (by kernel_rfl) (by simp) ?_
  refine rd1 rfl (fun K hK => ?_)
  go_simp
  have e1 : Hid (w.heap.size ≤ w.heap.size + 1) := Nat.le_succ _
  have hg1 : Grew WB w6 := hgr6
  have hRs := ((R6.out.set 0 (.slice x4 p4.length y4)).set 1 (.slice x5 p5.length y5)).set 2 (.slice x6 (countL s.tals []).length y6)
  have hZs := ((Z6.out.away (g' := w.heap.size + 1) (i := 0) (v := .slice x4 p4.length y4) (by omega)).away (g' := w.heap.size + 1) (i := 1) (v := .slice x5 p5.length y5) (by omega)).away (g' := w.heap.size + 1) (i := 2) (v := .slice x6 (countL s.tals []).length y6) (by omega)
  have hGs := (((G2.out.below hgr6 (nlr _)).away (g' := w.heap.size + 1) (i := 0) (v := .slice x4 p4.length y4) (by omega)).away (g' := w.heap.size + 1) (i := 1) (v := .slice x5 p5.length y5) (by omega)).away (g' := w.heap.size + 1) (i := 2) (v := .slice x6 (countL s.tals []).length y6) (by omega)
  have hVs := ((HV.out.away (g := w.heap.size + 1) (by omega) 0 (.slice x4 p4.length y4)).away (g := w.heap.size + 1) (by omega) 1 (.slice x5 p5.length y5)).away (g := w.heap.size + 1) (by omega) 2 (.slice x6 (countL s.tals []).length y6)
  refine hK.out _ _ ⟨hGs.get 1 rfl, hGs.get 2 rfl⟩ (fun hHeld5 => ?_)
  clear hK K hHeld4
  try simp only [Act.put, put1, put2, put3]
  clear c0 c1 c2 f0 f1 f2 d0 d1 g0 g1
  have d0 := hZs.get 0 rfl
  have d1 := hZs.get 1 rfl
  have g0 := hZs.free 0
  have g1 := hZs.free 1
  refine wpAnyH_ready (rs := [12]) (by kernel_rfl) (by simp) ?_
  refine rd1 rfl (fun K hK => ?_)
  go_simp
  have hGs2 := (hGs.away (g' := w.heap.size + 1 + 1) (i := 0) (v := .int .i64 0) (by omega)).away (g' := w.heap.size + 1 + 1) (i := 1) (v := .int .i64 0) (by omega)
  refine hK.out _ _ ⟨hGs2.get 1 rfl, hGs2.get 2 rfl⟩ (fun hHeld6 => ?_)
  clear hK K hHeld5
  try simp only [Act.put, put1, put2, put3]
  refine wpAnyH_done (by kernel_rfl) ?_ _
  go_wp2_with fail
  have hR := (hRs.away (g' := w.heap.size + 1 + 1) (i := 0) (v := .int .i64 0) (by omega)).away (g' := w.heap.size + 1 + 1) (i := 1) (v := .int .i64 0) (by omega)
  have hZ := (hZs.set 0 (.int .i64 0)).set 1 (.int .i64 0)
  have hq0 := hqq.out
  subst hq0
  refine bodyPost_ret (results_cell_cell rfl _ _ (w.heap.size + 1) (w.heap.size + 1 + 1) 58 80 _ _ (0, 0) (0, 0) _ _ rfl hR Tryz.underlying58 rfl Tryz.sizeView rfl hZ Tryz.underlying80 rfl Tryz.sizeFault) rfl ⟨_, rfl, ?_, ?_⟩
  ·exact (hVs.away (g := w.heap.size + 1 + 1) (by omega) 0 (.int .i64 0)).away (g := w.heap.size + 1 + 1) (by omega) 1 (.int .i64 0)
  ·exact ((((HB6.out.setCell (by show w.heap.size ≤ w.heap.size + 1; omega) _).setCell (by show w.heap.size ≤ w.heap.size + 1; omega) _).setCell (by show w.heap.size ≤ w.heap.size + 1; omega) _).setCell (by show w.heap.size ≤ w.heap.size + 1 + 1; omega) _).setCell (by show w.heap.size ≤ w.heap.size + 1 + 1; omega) _
 ·have hr' : (r != 0) = true := by simp [hr]
  rw [if_neg hr] at HX
  have hX := HX.out
  subst hX
  clear HX hr
  go_enter Tryz.func27, Tryz.ntmps27
  have cG0 := G0.out.get 0 rfl
  have cG1 := G0.out.get 1 rfl
  have cG2 := G0.out.get 2 rfl
  go_wp2_with fail
  refine (wrong_state _ s s.clock.length _ S0.out).mono ?_
  rintro e w1 ⟨rfl, hb⟩
  have HB1 := hide (below_step HB0.out hb)
  have S1 := hide (S0.out.below hb (nlr _))
  have L1 := hide (L0.out.below hb (nlr _))
  have T1 := hide (T0.out.below hb (nlr _))
  have G1 := hide (G0.out.below hb (nlr _))
  have R1 := hide (R0.out.below hb (nlr _))
  have Z1 := hide (Z0.out.below hb (nlr _))
  clear HB0 hb S0 L0 T0 G0 R0 Z0
  rw [HR.out, HQ.out]
  have hzl := Z1.out.lt
  have n1 : ¬ (w1.heap.size = w.heap.size + 1) := by omega
  have n2 : ¬ (w.heap.size + 1 = w1.heap.size) := by omega
  have n3 : ¬ (w1.heap.size = w.heap.size + 2) := by omega
  have n4 : ¬ (w.heap.size + 2 = w1.heap.size) := by omega
  clear cG0 cG1 cG2
  have HB2 := hide (below_step HB1.out (bpl w1 (.cells #[.int .i64 r, .int .i64 q] 80)))
  have S2 := hide (S1.out.below (bpl w1 (.cells #[.int .i64 r, .int .i64 q] 80)) (nlr _))
  have L2 := hide (L1.out.below (bpl w1 (.cells #[.int .i64 r, .int .i64 q] 80)) (nlr _))
  have T2 := hide (T1.out.below (bpl w1 (.cells #[.int .i64 r, .int .i64 q] 80)) (nlr _))
  have G2 := hide (G1.out.below (bpl w1 (.cells #[.int .i64 r, .int .i64 q] 80)) (nlr _))
  have R2 := hide (R1.out.below (bpl w1 (.cells #[.int .i64 r, .int .i64 q] 80)) (nlr _))
  have Z2 := hide (Z1.out.below (bpl w1 (.cells #[.int .i64 r, .int .i64 q] 80)) (nlr _))
  have V2 := hide (Box.new w1 [.int .i64 r, .int .i64 q] 80)
  clear HB1 S1 L1 T1 G1 R1 Z1
  have cV0 := V2.out.get 0 rfl
  have cV1 := V2.out.get 1 rfl
  have cR0 := R2.out.get 0 rfl
  have cR1 := R2.out.get 1 rfl
  have cR2 := R2.out.get 2 rfl
  have cZ0 := Z2.out.get 0 rfl
  have cZ1 := Z2.out.get 1 rfl
  have f0 := R2.out.free 0
  have f1 := R2.out.free 1
  have f2 := R2.out.free 2
  have g0 := Z2.out.free 0
  have g1 := Z2.out.free 1
  go_upto_region 3 with fail
  go_region
  go_wp2_with fail
  have hR := ((((R2.out.set 0 (.slice none 0 0)).set 1 (.slice none 0 0)).set 2 (.slice none 0 0)).away (g' := w.heap.size + 1 + 1) (i := 0) (v := .int .i64 r) (by omega)).away (g' := w.heap.size + 1 + 1) (i := 1) (v := .int .i64 q) (by omega)
  have hZ := ((((Z2.out.away (g' := w.heap.size + 1) (i := 0) (v := .slice none 0 0) (by omega)).away (g' := w.heap.size + 1) (i := 1) (v := .slice none 0 0) (by omega)).away (g' := w.heap.size + 1) (i := 2) (v := .slice none 0 0) (by omega)).set 0 (.int .i64 r)).set 1 (.int .i64 q)
  refine bodyPost_ret (results_cell_cell rfl _ _ (w.heap.size + 1) (w.heap.size + 1 + 1) 58 80 _ _ (0, 0) (0, 0) _ _ rfl hR.drew Tryz.underlying58 rfl Tryz.sizeView rfl hZ.drew Tryz.underlying80 rfl Tryz.sizeFault) rfl ⟨_, rfl, ViewO.none _ _, ?_⟩
  exact (((((HB2.out.setCell (by show w.heap.size ≤ w.heap.size + 1; omega) _).setCell (by show w.heap.size ≤ w.heap.size + 1; omega) _).setCell (by show w.heap.size ≤ w.heap.size + 1; omega) _).setCell (by show w.heap.size ≤ w.heap.size + 1 + 1; omega) _).setCell (by show w.heap.size ≤ w.heap.size + 1 + 1; omega) _).drew
end Go.Proofs.YtihedgnachophaaGreat

namespace Go.Proofs.YtihedgnachophaaGreat
open Go.RowKit

structure CI (s : Bool) (l : List Live) (out : List (Int × List Int)) : Prop where
 keys : out.Pairwise fun p q => p.1 < q.1
 full : ∀ p ∈ out, p.2 ≠ []
 inc : ∀ p ∈ out, p.2.Pairwise fun i j : Int => i < j
 mem : ∀ k i, (∃ p ∈ out, p.1 = k ∧ i ∈ p.2) ↔ ∃ x ∈ l, x.set = s ∧ x.key = k ∧ x.item = i
theorem CI.nil (s : Bool) : CI s [] [] := ⟨List.Pairwise.nil, fun p h => by simp at h, fun p h => by simp at h, fun k i => by simp⟩
theorem CI.skip {s : Bool} {l : List Live} {out : List (Int × List Int)} (h : CI s l out) {x : Live} (hx : ¬ x.set = s) : CI s (l ++ [x]) out := by
 refine ⟨h.keys, h.full, h.inc, fun k i => ?_⟩
 rw [h.mem k i]
 constructor
 ·rintro ⟨y, hy, h1⟩
  exact ⟨y, List.mem_append_left _ hy, h1⟩
 ·rintro ⟨y, hy, h1⟩
  rcases List.mem_append.1 hy with hy | hy
  ·exact ⟨y, hy, h1⟩
  ·rw [List.mem_singleton] at hy
   subst hy
   exact absurd h1.1 hx
theorem mem_snoc_live {s : Bool} {l : List Live} {x : Live} (hx : x.set = s) (k i : Int) : (∃ y ∈ l ++ [x], y.set = s ∧ y.key = k ∧ y.item = i) ↔ (∃ y ∈ l, y.set = s ∧ y.key = k ∧ y.item = i) ∨ (x.key = k ∧ x.item = i) := by
 constructor
 ·rintro ⟨y, hy, h1⟩
  rcases List.mem_append.1 hy with hy | hy
  ·exact .inl ⟨y, hy, h1⟩
  ·rw [List.mem_singleton] at hy
   subst hy
   exact .inr h1.2
 ·rintro (⟨y, hy, h1⟩ | h1)
  ·exact ⟨y, List.mem_append_left _ hy, h1⟩
  ·exact ⟨x, by simp, hx, h1⟩
theorem CI.snocKey {s : Bool} {l : List Live} {out : List (Int × List Int)} (h : CI s l out) {x : Live} (hx : x.set = s) (hk : ∀ p ∈ out, p.1 < x.key) : CI s (l ++ [x]) (out ++ [(x.key, [x.item])]) := by
 refine ⟨List.pairwise_append.2 ⟨h.keys, by simp, fun p hp q hq => ?_⟩, fun p hp => ?_, fun p hp => ?_, fun k i => ?_⟩
 ·rw [List.mem_singleton] at hq
  subst hq
  exact hk p hp
 ·rcases List.mem_append.1 hp with hp | hp
  ·exact h.full p hp
  ·rw [List.mem_singleton] at hp
   subst hp
   simp
 ·rcases List.mem_append.1 hp with hp | hp
  ·exact h.inc p hp
  ·rw [List.mem_singleton] at hp
   subst hp
   simp
 ·rw [mem_snoc_live hx, ← h.mem k i]
  constructor
  ·rintro ⟨p, hp, h1, h2⟩
   rcases List.mem_append.1 hp with hp | hp
   ·exact .inl ⟨p, hp, h1, h2⟩
   ·rw [List.mem_singleton] at hp
    subst hp
    simp only [List.mem_singleton] at h2
    exact .inr ⟨h1, h2.symm⟩
  ·rintro (⟨p, hp, h1⟩ | ⟨h1, h2⟩)
   ·exact ⟨p, List.mem_append_left _ hp, h1⟩
   ·exact ⟨(x.key, [x.item]), by simp, h1, by simp [h2]⟩
theorem CI.same {s : Bool} {l : List Live} {out : List (Int × List Int)} (h : CI s l out) {x : Live} (hx : x.set = s) {p : Int × List Int} (hp : p ∈ out) (hk : p.1 = x.key) (hi : x.item ∈ p.2) : CI s (l ++ [x]) out := by
 refine ⟨h.keys, h.full, h.inc, fun k i => ?_⟩
 rw [mem_snoc_live hx, h.mem k i]
 constructor
 ·exact fun h1 => .inl h1
 ·rintro (h1 | ⟨h1, h2⟩)
  ·exact h1
  ·exact (h.mem k i).1 ⟨p, hp, hk.trans h1, by rw [← h2]; exact hi⟩
theorem CI.snocItem {s : Bool} {l : List Live} {r : List (Int × List Int)} {p : Int × List Int} (h : CI s l (r ++ [p])) {x : Live} (hx : x.set = s) (hk : p.1 = x.key) (hi : ∀ i ∈ p.2, i < x.item) : CI s (l ++ [x]) (r ++ [(p.1, p.2 ++ [x.item])]) := by
 obtain ⟨k1, -, k3⟩ := List.pairwise_append.1 h.keys
 refine ⟨List.pairwise_append.2 ⟨k1, by simp, fun q hq y hy => ?_⟩, fun q hq => ?_, fun q hq => ?_, fun k i => ?_⟩
 ·rw [List.mem_singleton] at hy
  subst hy
  exact k3 q hq p (by simp)
 ·rcases List.mem_append.1 hq with hq | hq
  ·exact h.full q (List.mem_append_left _ hq)
  ·rw [List.mem_singleton] at hq
   subst hq
   simp
 ·rcases List.mem_append.1 hq with hq | hq
  ·exact h.inc q (List.mem_append_left _ hq)
  ·rw [List.mem_singleton] at hq
   subst hq
   refine List.pairwise_append.2 ⟨h.inc p (by simp), by simp, fun i hi1 j hj => ?_⟩
   rw [List.mem_singleton] at hj
   subst hj
   exact hi i hi1
 ·rw [mem_snoc_live hx, ← h.mem k i]
  constructor
  ·rintro ⟨q, hq, h1, h2⟩
   rcases List.mem_append.1 hq with hq | hq
   ·exact .inl ⟨q, List.mem_append_left _ hq, h1, h2⟩
   ·rw [List.mem_singleton] at hq
    subst hq
    rcases List.mem_append.1 h2 with h2 | h2
    ·exact .inl ⟨p, by simp, h1, h2⟩
    ·rw [List.mem_singleton] at h2
     exact .inr ⟨hk.symm.trans h1, h2.symm⟩
  ·rintro (⟨q, hq, h1, h2⟩ | ⟨h1, h2⟩)
   ·rcases List.mem_append.1 hq with hq | hq
    ·exact ⟨q, List.mem_append_left _ hq, h1, h2⟩
    ·rw [List.mem_singleton] at hq
     subst hq
     exact ⟨(q.1, q.2 ++ [x.item]), by simp, h1, List.mem_append_left _ h2⟩
   ·exact ⟨(p.1, p.2 ++ [x.item]), by simp, hk.trans h1, by simp [h2]⟩
theorem last_of {α : Type} {l : List α} {x : α} (h : l.getLast? = some x) : l = l.dropLast ++ [x] := (row_snoc h).1
theorem CI.step {s : Bool} {l : List Live} {out : List (Int × List Int)} (h : CI s l out) {x : Live} (ho : ∀ y ∈ l, ahead y x) (hx : x.set = s) : CI s (l ++ [x]) (stepI out x.key x.item) := by
 -- who is ahead of it, in the same half
 have key_le : ∀ p ∈ out, p.1 ≤ x.key := by
  intro p hp
  obtain ⟨i, hi⟩ := List.exists_mem_of_ne_nil _ (h.full p hp)
  obtain ⟨y, hy, h1, h2, -⟩ := (h.mem p.1 i).1 ⟨p, hp, rfl, hi⟩
  have := ho y hy
  unfold ahead at this
  rw [h1, hx] at this
  rcases this with ⟨h3, h4⟩ | ⟨-, h3⟩
  ·rw [h3] at h4; cases h4
  ·omega
 have item_le : ∀ p ∈ out, p.1 = x.key → ∀ i ∈ p.2, i ≤ x.item := by
  intro p hp hk i hi
  obtain ⟨y, hy, h1, h2, h5⟩ := (h.mem p.1 i).1 ⟨p, hp, rfl, hi⟩
  have := ho y hy
  unfold ahead at this
  rw [h1, hx] at this
  rcases this with ⟨h3, h4⟩ | ⟨-, h3⟩
  ·rw [h3] at h4; cases h4
  ·omega
 cases hl : out.getLast? with
 | none =>
  rw [stepI_none hl]
  have : out = [] := List.getLast?_eq_none_iff.1 hl
  subst this
  exact h.snocKey hx (fun p hp => by simp at hp)
 | some p =>
  have hout := last_of hl
  have hpm : p ∈ out := by rw [hout]; simp
  by_cases hk : p.1 = x.key
  ·by_cases hi : p.2.getLast? = some x.item
   ·rw [stepI_same hl hk hi]
    exact h.same hx hpm hk (by rw [last_of hi]; simp)
   ·rw [stepI_more hl hk hi]
    rw [hout] at h
    refine h.snocItem hx hk (fun i hi1 => ?_)
    have h1 := item_le p hpm hk i hi1
    rcases Int.lt_or_le i x.item with h2 | h2
    ·exact h2
    ·have he : i = x.item := by omega
     subst he
     -- it is the greatest, so it is the last one
     exfalso
     cases hg : p.2.getLast? with
     | none => rw [List.getLast?_eq_none_iff.1 hg] at hi1; simp at hi1
     | some j =>
      have hj := last_of hg
      have hjm : j ∈ p.2 := by rw [hj]; simp
      have hjl := item_le p hpm hk j hjm
      rw [hj] at hi1
      rcases List.mem_append.1 hi1 with h3 | h3
      ·have hinc := h.inc p (by simp)
       rw [hj] at hinc
       have := (List.pairwise_append.1 hinc).2.2 x.item h3 j (by simp)
       omega
      ·rw [List.mem_singleton] at h3
       rw [hg, ← h3] at hi
       exact hi rfl
  ·rw [stepI_new hl hk]
   have hlt : p.1 < x.key := by have := key_le p hpm; omega
   refine h.snocKey hx (fun q hq => ?_)
   rw [hout] at hq
   rcases List.mem_append.1 hq with hq | hq
   ·have hkk := h.keys
    rw [hout] at hkk
    have := (List.pairwise_append.1 hkk).2.2 q hq p (by simp)
    omega
   ·rw [List.mem_singleton] at hq
    subst hq
    exact hlt
theorem cells_ci (s : Bool) {l : List Live} (ho : InOrder l) : ∀ k, k ≤ l.length → CI s (l.take k) (cellsL s (l.take k) [])
 | 0, _ => by simpa [cellsL] using CI.nil s
 | k + 1, hk => by
  have ih := cells_ci s ho k (by omega)
  obtain ⟨x, hx⟩ : ∃ x, l[k]? = some x := ⟨_, List.getElem?_eq_getElem (by omega)⟩
  rw [cellsL_step hx]
  have hkl : k < l.length := by omega
  have ht : l.take (k + 1) = l.take k ++ [x] := by
   rw [List.take_succ_eq_append_getElem hkl]
   rw [List.getElem?_eq_getElem hkl] at hx
   rw [Option.some.inj hx]
  have hax : ∀ y ∈ l.take k, ahead y x := by
   have h2 : InOrder (l.take (k + 1)) := List.Pairwise.sublist (List.take_sublist _ _) ho
   rw [ht] at h2
   exact fun y hy => (List.pairwise_append.1 h2).2.2 y hy x (by simp)
  rw [ht]
  by_cases hs : x.set = s
  ·simp only [if_pos hs]
   exact ih.step hax hs
  ·simp only [if_neg hs]
   exact ih.skip hs
theorem cells_all (s : Bool) {l : List Live} (ho : InOrder l) : CI s l (cellsL s l []) := by
 have := cells_ci s ho l.length (nlr _)
 rwa [List.take_length] at this

theorem inc_ext : ∀ {a b : List Int}, a.Pairwise (fun i j => i < j) → b.Pairwise (fun i j => i < j) → (∀ x, x ∈ a ↔ x ∈ b) → a = b
 | [], [], _, _, _ => rfl
 | [], y :: b, _, _, h => by have := (h y).2 (by simp); simp at this
 | x :: a, [], _, _, h => by have := (h x).1 (by simp); simp at this
 | x :: a, y :: b, ha, hb, h => by
  obtain ⟨ha1, ha2⟩ := List.pairwise_cons.1 ha
  obtain ⟨hb1, hb2⟩ := List.pairwise_cons.1 hb
  have hxy : x = y := by
   rcases List.mem_cons.1 ((h x).1 (by simp)) with e | e
   ·exact e
   ·rcases List.mem_cons.1 ((h y).2 (by simp)) with e' | e'
    ·exact e'.symm
    ·have := ha1 y e'
     have := hb1 x e
     omega
  subst hxy
  rw [inc_ext (a := a) (b := b) ha2 hb2 (fun z => ?_)]
  constructor
  ·intro hz
   rcases List.mem_cons.1 ((h z).1 (List.mem_cons_of_mem _ hz)) with e | e
   ·have := ha1 z hz; omega
   ·exact e
  ·intro hz
   rcases List.mem_cons.1 ((h z).2 (List.mem_cons_of_mem _ hz)) with e | e
   ·have := hb1 z hz; omega
   ·exact e
theorem cells_ext : ∀ {a b : List (Int × List Int)}, a.Pairwise (fun p q => p.1 < q.1) → b.Pairwise (fun p q => p.1 < q.1) → (∀ p ∈ a, p.2 ≠ [] ∧ p.2.Pairwise fun i j : Int => i < j) → (∀ p ∈ b, p.2 ≠ [] ∧ p.2.Pairwise fun i j : Int => i < j) →
  (∀ k i, (∃ p ∈ a, p.1 = k ∧ i ∈ p.2) ↔ ∃ p ∈ b, p.1 = k ∧ i ∈ p.2) → a = b
 | [], [], _, _, _, _, _ => rfl
 | [], q :: b, _, _, _, fb, h => by
  obtain ⟨i, hi⟩ := List.exists_mem_of_ne_nil _ (fb q (by simp)).1
  obtain ⟨p, hp, -⟩ := (h q.1 i).2 ⟨q, by simp, rfl, hi⟩
  simp at hp
 | p :: a, [], _, _, fa, _, h => by
  obtain ⟨i, hi⟩ := List.exists_mem_of_ne_nil _ (fa p (by simp)).1
  obtain ⟨q, hq, -⟩ := (h p.1 i).1 ⟨p, by simp, rfl, hi⟩
  simp at hq
 | p :: a, q :: b, ha, hb, fa, fb, h => by
  obtain ⟨ha1, ha2⟩ := List.pairwise_cons.1 ha
  obtain ⟨hb1, hb2⟩ := List.pairwise_cons.1 hb
  obtain ⟨i, hi⟩ := List.exists_mem_of_ne_nil _ (fa p (by simp)).1
  obtain ⟨j, hj⟩ := List.exists_mem_of_ne_nil _ (fb q (by simp)).1
  have e1 : p.1 = q.1 := by
   obtain ⟨q', hq', k1, -⟩ := (h p.1 i).1 ⟨p, by simp, rfl, hi⟩
   obtain ⟨p', hp', k2, -⟩ := (h q.1 j).2 ⟨q, by simp, rfl, hj⟩
   rcases List.mem_cons.1 hq' with e | e
   ·rw [e] at k1; exact k1.symm
   ·rcases List.mem_cons.1 hp' with e' | e'
    ·rw [e'] at k2; exact k2
    ·have := hb1 q' e
     have := ha1 p' e'
     omega
  have e2 : p.2 = q.2 := by
   refine inc_ext (fa p (by simp)).2 (fb q (by simp)).2 (fun x => ?_)
   constructor
   ·intro hx
    obtain ⟨q', hq', k1, k2⟩ := (h p.1 x).1 ⟨p, by simp, rfl, hx⟩
    rcases List.mem_cons.1 hq' with e | e
    ·rw [e] at k2; exact k2
    ·have := hb1 q' e
     omega
   ·intro hx
    obtain ⟨p', hp', k1, k2⟩ := (h q.1 x).2 ⟨q, by simp, rfl, hx⟩
    rcases List.mem_cons.1 hp' with e | e
    ·rw [e] at k2; exact k2
    ·have := ha1 p' e
     omega
  have e3 : p = q := Prod.ext e1 e2
  subst e3
  rw [cells_ext (a := a) (b := b) ha2 hb2 (fun p hp => fa p (List.mem_cons_of_mem _ hp)) (fun p hp => fb p (List.mem_cons_of_mem _ hp)) (fun k i => ?_)]
  constructor
  ·rintro ⟨q', hq', k1, k2⟩
   obtain ⟨q2, hq2, k3, k4⟩ := (h k i).1 ⟨q', List.mem_cons_of_mem _ hq', k1, k2⟩
   rcases List.mem_cons.1 hq2 with e | e
   ·have := ha1 q' hq'
    rw [e] at k3
    omega
   ·exact ⟨q2, e, k3, k4⟩
  ·rintro ⟨q', hq', k1, k2⟩
   obtain ⟨q2, hq2, k3, k4⟩ := (h k i).2 ⟨q', List.mem_cons_of_mem _ hq', k1, k2⟩
   rcases List.mem_cons.1 hq2 with e | e
   ·have := hb1 q' hq'
    rw [e] at k3
    omega
   ·exact ⟨q2, e, k3, k4⟩
theorem CI.ext {s : Bool} {l m : List Live} {a b : List (Int × List Int)} (ha : CI s l a) (hb : CI s m b) (h : ∀ k i, (∃ x ∈ l, x.set = s ∧ x.key = k ∧ x.item = i) ↔ ∃ x ∈ m, x.set = s ∧ x.key = k ∧ x.item = i) : a = b :=
 cells_ext ha.keys hb.keys (fun p hp => ⟨ha.full p hp, ha.inc p hp⟩) (fun p hp => ⟨hb.full p hp, hb.inc p hp⟩) (fun k i => by rw [ha.mem, hb.mem, h])

def ofL (cs : List (Int × List Int)) (k : Int) : List Int := match cs.find? (fun p => decide (p.1 = k)) with | some p => p.2 | none => []
theorem ofL_mem {s : Bool} {l : List Live} {out : List (Int × List Int)} (h : CI s l out) (k : Int) : (ofL out k).Pairwise (fun i j : Int => i < j) ∧ ∀ i, i ∈ ofL out k ↔ ∃ x ∈ l, x.set = s ∧ x.key = k ∧ x.item = i := by
 unfold ofL
 cases hf : out.find? (fun p => decide (p.1 = k)) with
 | none =>
  refine ⟨List.Pairwise.nil, fun i => ?_⟩
  rw [← h.mem k i]
  rw [List.find?_eq_none] at hf
  constructor
  ·intro hi; simp at hi
  ·rintro ⟨p, hp, h1, -⟩
   exact absurd (decide_eq_true h1) (hf p hp)
 | some p =>
  have hpm := List.mem_of_find?_eq_some hf
  have hpk : p.1 = k := by
   have hq := List.find?_some hf
   simpa using hq
  refine ⟨h.inc p hpm, fun i => ?_⟩
  rw [← h.mem k i]
  constructor
  ·exact fun hi => ⟨p, hpm, hpk, hi⟩
  ·rintro ⟨q, hq, h1, h2⟩
   have : q = p := by
    have hd := h.keys
    obtain ⟨a, b, rfl⟩ := List.append_of_mem hpm
    rcases List.mem_append.1 hq with hq | hq
    ·have := (List.pairwise_append.1 hd).2.2 q hq p (by simp)
     omega
    ·rcases List.mem_cons.1 hq with e | e
     ·exact e
     ·have := (List.pairwise_cons.1 (List.pairwise_append.1 hd).2.1).1 q e
      omega
   rw [← this]
   exact h2

structure NI (l : List Tal) (out : List (Int × Int)) : Prop where
 keys : out.Pairwise fun p q => p.1 < q.1
 val : ∀ p ∈ out, p.2 = sumK l p.1
 mem : ∀ k, (∃ p ∈ out, p.1 = k) ↔ ∃ t ∈ l, t.key = k
theorem sumK_append : ∀ (a b : List Tal) (k : Int), sumK (a ++ b) k = sumK a k + sumK b k
 | [], b, k => by simp [sumK]
 | t :: r, b, k => by
  rw [List.cons_append, sumK, sumK, sumK_append r b k]
  omega
theorem sumK_none {k : Int} : ∀ {l : List Tal}, (∀ t ∈ l, ¬ t.key = k) → sumK l k = 0
 | [], _ => rfl
 | t :: r, h => by
  rw [sumK, if_neg (h t (by simp)), sumK_none (fun t ht => h t (List.mem_cons_of_mem _ ht))]
  rfl
theorem NI.step {l : List Tal} {out : List (Int × Int)} (h : NI l out) {t : Tal} (ho : ∀ y ∈ l, lessT y t) : NI (l ++ [t]) (stepC out t) := by
 have key_le : ∀ p ∈ out, p.1 ≤ t.key := by
  intro p hp
  obtain ⟨y, hy, h1⟩ := (h.mem p.1).1 ⟨p, hp, rfl⟩
  have := ho y hy
  unfold lessT at this
  omega
 have hsum : ∀ k, sumK (l ++ [t]) k = sumK l k + if t.key = k then t.sum else 0 := fun k => by
  rw [sumK_append]
  simp [sumK]
 have hex : ∀ k, (∃ y ∈ l ++ [t], y.key = k) ↔ (∃ y ∈ l, y.key = k) ∨ t.key = k := fun k => by
  constructor
  ·rintro ⟨y, hy, h1⟩
   rcases List.mem_append.1 hy with hy | hy
   ·exact .inl ⟨y, hy, h1⟩
   ·rw [List.mem_singleton] at hy
    subst hy
    exact .inr h1
  ·rintro (⟨y, hy, h1⟩ | h1)
   ·exact ⟨y, List.mem_append_left _ hy, h1⟩
   ·exact ⟨t, by simp, h1⟩
 have fresh : (∀ p ∈ out, p.1 < t.key) → NI (l ++ [t]) (out ++ [(t.key, t.sum)]) := by
  intro hk
  have h0 : sumK l t.key = 0 := sumK_none (fun y hy he => by
   obtain ⟨p, hp, h1⟩ := (h.mem t.key).2 ⟨y, hy, he⟩
   have := hk p hp
   omega)
  refine ⟨List.pairwise_append.2 ⟨h.keys, by simp, fun p hp q hq => ?_⟩, fun p hp => ?_, fun k => ?_⟩
  ·rw [List.mem_singleton] at hq
   subst hq
   exact hk p hp
  ·rw [hsum]
   rcases List.mem_append.1 hp with hp | hp
   ·have := hk p hp
    rw [if_neg (by omega), h.val p hp]
    omega
   ·rw [List.mem_singleton] at hp
    subst hp
    rw [if_pos rfl, h0]
    omega
  ·rw [hex, ← h.mem k]
   constructor
   ·rintro ⟨p, hp, h1⟩
    rcases List.mem_append.1 hp with hp | hp
    ·exact .inl ⟨p, hp, h1⟩
    ·rw [List.mem_singleton] at hp
     subst hp
     exact .inr h1
   ·rintro (⟨p, hp, h1⟩ | h1)
    ·exact ⟨p, List.mem_append_left _ hp, h1⟩
    ·exact ⟨(t.key, t.sum), by simp, h1⟩
 cases hl : out.getLast? with
 | none =>
  rw [stepC_none hl]
  have : out = [] := List.getLast?_eq_none_iff.1 hl
  subst this
  exact fresh (fun p hp => by simp at hp)
 | some p =>
  have hout := last_of hl
  have hpm : p ∈ out := by rw [hout]; simp
  have hkk := h.keys
  rw [hout] at hkk
  obtain ⟨k1, -, k3⟩ := List.pairwise_append.1 hkk
  by_cases hk : p.1 = t.key
  ·rw [stepC_more hl hk]
   refine ⟨List.pairwise_append.2 ⟨k1, by simp, fun q hq y hy => ?_⟩, fun q hq => ?_, fun k => ?_⟩
   ·rw [List.mem_singleton] at hy
    subst hy
    exact k3 q hq p (by simp)
   ·rw [hsum]
    rcases List.mem_append.1 hq with hq | hq
    ·have h1 := k3 q hq p (by simp)
     rw [if_neg (by omega), h.val q (by rw [hout]; exact List.mem_append_left _ hq)]
     omega
    ·rw [List.mem_singleton] at hq
     subst hq
     simp only
     rw [if_pos hk.symm, h.val p hpm]
   ·rw [hex, ← h.mem k]
    constructor
    ·rintro ⟨q, hq, h1⟩
     rcases List.mem_append.1 hq with hq | hq
     ·exact .inl ⟨q, by rw [hout]; exact List.mem_append_left _ hq, h1⟩
     ·rw [List.mem_singleton] at hq
      subst hq
      exact .inr (hk.symm.trans h1)
    ·rintro (⟨q, hq, h1⟩ | h1)
     ·rw [hout] at hq
      rcases List.mem_append.1 hq with hq | hq
      ·exact ⟨q, List.mem_append_left _ hq, h1⟩
      ·rw [List.mem_singleton] at hq
       subst hq
       exact ⟨(q.1, q.2 + t.sum), by simp, h1⟩
     ·exact ⟨(p.1, p.2 + t.sum), by simp, hk.trans h1⟩
  ·rw [stepC_new hl hk]
   have hlt : p.1 < t.key := by have := key_le p hpm; omega
   refine fresh (fun q hq => ?_)
   rw [hout] at hq
   rcases List.mem_append.1 hq with hq | hq
   ·have := k3 q hq p (by simp)
    omega
   ·rw [List.mem_singleton] at hq
    subst hq
    exact hlt
theorem count_ni {l : List Tal} (ho : OrdT l) : ∀ k, k ≤ l.length → NI (l.take k) (countL (l.take k) [])
 | 0, _ => by
  refine ⟨by simp [countL], fun p hp => by simp [countL] at hp, fun k => by simp [countL]⟩
 | k + 1, hk => by
  have ih := count_ni ho k (by omega)
  have hkl : k < l.length := by omega
  obtain ⟨x, hx⟩ : ∃ x, l[k]? = some x := ⟨_, List.getElem?_eq_getElem hkl⟩
  rw [countL_step hx]
  have ht : l.take (k + 1) = l.take k ++ [x] := by
   rw [List.take_succ_eq_append_getElem hkl]
   rw [List.getElem?_eq_getElem hkl] at hx
   rw [Option.some.inj hx]
  have hax : ∀ y ∈ l.take k, lessT y x := by
   have h2 : OrdT (l.take (k + 1)) := List.Pairwise.sublist (List.take_sublist _ _) ho
   rw [ht] at h2
   exact fun y hy => (List.pairwise_append.1 h2).2.2 y hy x (by simp)
  rw [ht]
  exact ih.step hax
theorem count_all {l : List Tal} (ho : OrdT l) : NI l (countL l []) := by
 have := count_ni ho l.length (nlr _)
 rwa [List.take_length] at this
def numL (cs : List (Int × Int)) (k : Int) : Int := match cs.find? (fun p => decide (p.1 = k)) with | some p => p.2 | none => 0
theorem numL_sum {l : List Tal} {out : List (Int × Int)} (h : NI l out) (k : Int) : numL out k = sumK l k := by
 unfold numL
 cases hf : out.find? (fun p => decide (p.1 = k)) with
 | none =>
  refine (sumK_none (fun t ht he => ?_)).symm
  rw [List.find?_eq_none] at hf
  obtain ⟨p, hp, h1⟩ := (h.mem k).2 ⟨t, ht, he⟩
  exact absurd (decide_eq_true h1) (hf p hp)
 | some p =>
  have hpm := List.mem_of_find?_eq_some hf
  have hpk : p.1 = k := by
   have hq := List.find?_some hf
   simpa using hq
  simp only
  rw [h.val p hpm, hpk]
theorem counts_ext : ∀ {a b : List (Int × Int)}, a.Pairwise (fun p q => p.1 < q.1) → b.Pairwise (fun p q => p.1 < q.1) → (∀ p, p ∈ a ↔ p ∈ b) → a = b
 | [], [], _, _, _ => rfl
 | [], y :: b, _, _, h => by have := (h y).2 (by simp); simp at this
 | x :: a, [], _, _, h => by have := (h x).1 (by simp); simp at this
 | x :: a, y :: b, ha, hb, h => by
  obtain ⟨ha1, ha2⟩ := List.pairwise_cons.1 ha
  obtain ⟨hb1, hb2⟩ := List.pairwise_cons.1 hb
  have hxy : x = y := by
   rcases List.mem_cons.1 ((h x).1 (by simp)) with e | e
   ·exact e
   ·rcases List.mem_cons.1 ((h y).2 (by simp)) with e' | e'
    ·exact e'.symm
    ·have := ha1 y e'
     have := hb1 x e
     omega
  subst hxy
  rw [counts_ext (a := a) (b := b) ha2 hb2 (fun z => ?_)]
  constructor
  ·intro hz
   rcases List.mem_cons.1 ((h z).1 (List.mem_cons_of_mem _ hz)) with e | e
   ·subst e; have := ha1 z hz; omega
   ·exact e
  ·intro hz
   rcases List.mem_cons.1 ((h z).2 (List.mem_cons_of_mem _ hz)) with e | e
   ·subst e; have := hb1 z hz; omega
   ·exact e
theorem NI.ext {l : List Tal} {a b : List (Int × Int)} (ha : NI l a) (hb : NI l b) : a = b := by
 have go : ∀ {a b : List (Int × Int)}, NI l a → NI l b → ∀ p, p ∈ a → p ∈ b := by
  intro a b ha hb p hp
  obtain ⟨q, hq, h1⟩ := (hb.mem p.1).2 ((ha.mem p.1).1 ⟨p, hp, rfl⟩)
  have h2 := hb.val q hq
  rw [h1, ← ha.val p hp] at h2
  rwa [show p = q from Prod.ext h1.symm h2.symm]
 exact counts_ext ha.keys hb.keys (fun p => ⟨go ha hb p, go hb ha p⟩)
end Go.Proofs.YtihedgnachophaaGreat

namespace Go.Proofs.YtihedgnachophaaGreat
open Go.RowKit

def CellR (w : World) (v : Value) (cs : List (Int × List Int)) : Prop :=
 ∃ a cap, v = .slice a cs.length cap ∧ cs.length ≤ cap ∧ cap ≤ maxLen ∧ ∀ k c, cs[k]? = some c → ∃ b off vi, a = some ⟨b, off, none⟩ ∧ w.cell? ⟨b, off + k * 2, none⟩ = some (.int .i64 c.1) ∧ w.cell? ⟨b, off + k * 2 + 1, none⟩ = some vi ∧ Row w vi c.2
theorem CellR.below {w w' : World} {v : Value} {cs : List (Int × List Int)} (h : CellR w v cs) {B : Nat} (hb : Below B w w') (hB : w.heap.size ≤ B) : CellR w' v cs := by
 obtain ⟨a, cap, h1, h2, h3, h4⟩ := h
 refine ⟨a, cap, h1, h2, h3, fun k c hc => ?_⟩
 obtain ⟨b, off, vi, e0, e1, e2, e3⟩ := h4 k c hc
 exact ⟨b, off, vi, e0, (hb.cell (p := ⟨b, off + k * 2, none⟩) (Nat.lt_of_lt_of_le (World.block_lt_of_cell? w _ e1) hB)).trans e1, (hb.cell (p := ⟨b, off + k * 2 + 1, none⟩) (Nat.lt_of_lt_of_le (World.block_lt_of_cell? w _ e2) hB)).trans e2, e3.below hb hB⟩
theorem CellR.len_le {w : World} {v : Value} {cs : List (Int × List Int)} (h : CellR w v cs) : cs.length ≤ 9223372036854775807 := by
 obtain ⟨a, cap, -, h2, h3, -⟩ := h
 unfold maxLen at h3
 omega
theorem CellR.nil (w : World) : CellR w (.slice none 0 0) [] := ⟨none, 0, rfl, nlr _, by unfold maxLen; omega, fun k c h => by simp at h⟩
theorem CellO.read {w : World} {B : Nat} {v : Value} {ps : List ((Int × List Int) × Value)} (h : CellO w B v ps) : CellR w v (ps.map (·.1)) := by
 rcases own_ways h.row with ⟨rfl, rfl⟩ | ⟨g, cap, hv, -, hh, hn, hm⟩
 ·exact CellR.nil w
 ·refine ⟨some ⟨g, 0, Option.none⟩, cap, by rw [hv, List.length_map], by rw [List.length_map]; exact hn, hm, fun k c hc => ?_⟩
  rw [List.getElem?_map] at hc
  cases hp : ps[k]? with
  | none => rw [hp] at hc; cases hc
  | some p =>
   rw [hp] at hc
   simp only [Option.map_some, Option.some.injEq] at hc
   subst hc
   have e0 := hh.at encP_length (i := k) (x := p) hp (j := 0) rfl
   have e1 := hh.at encP_length (i := k) (x := p) hp (j := 1) rfl
   exact ⟨g, 0, p.2, rfl, by rw [Nat.zero_add]; exact e0, by rw [Nat.zero_add]; exact e1, (h.items p (List.mem_of_getElem? hp)).1.row⟩
def ViewR (w : World) (v : Value) (x : Vw) : Prop := ∃ rv sv cv, v = .agg #[rv, sv, cv] ∧ CellR w rv x.regs ∧ CellR w sv x.sets ∧ SliceV 2 encC w cv x.cnts
theorem ViewO.read {w : World} {B : Nat} {v : Value} {x : Vw} (h : ViewO w B v x) : ViewR w v x := by
 obtain ⟨rv, sv, cv, pr, ps, h1, h2, h3, h4, h5, h6⟩ := h
 exact ⟨rv, sv, cv, h1, by rw [← h3]; exact h2.read, by rw [← h5]; exact h4.read, slice_of_own encC_length h6⟩
theorem ViewR.below {w w' : World} {v : Value} {x : Vw} (h : ViewR w v x) {B : Nat} (hb : Below B w w') (hB : w.heap.size ≤ B) : ViewR w' v x := by
 obtain ⟨rv, sv, cv, h1, h2, h3, h4⟩ := h
 exact ⟨rv, sv, cv, h1, h2.below hb hB, h3.below hb hB, h4.below hb hB⟩

set_option maxRecDepth 100000 in
set_option maxHeartbeats 2000000 in
theorem sameCells_yes (v u : Value) (cs : List (Int × List Int)) (w : World) (h : CellR w v cs) (hu : CellR w u cs) :
  Calls Tryz.prog 28 #[v, u] w fun e w' => e = .returned (.bool true) ∧ Below w.heap.size w w' := by
 have hl := h.len_le
 have C0 := hide h
 have D0 := hide hu
 obtain ⟨a, cap, rfl, -, -, -⟩ := h
 obtain ⟨b, dap, rfl, -, -, -⟩ := hu
 have e1 : ((cs.length : Int) != (cs.length : Int)) = false := by simp
 go_enter Tryz.func28, Tryz.ntmps28
 go_wp2_with fail
 go_loopw [13] (fun i wr => ∃ k : Nat, k ≤ cs.length ∧ i = .int .i64 k ∧ Hid (Below w.heap.size w wr)) (fun i _ => cs.length - (intOf i).toNat)
 case atStart => exact ⟨0, Nat.zero_le _, rfl, hide (Below.refl _ _)⟩
 case round =>
  obtain ⟨k, hk, rfl, HB1⟩ := hrel
  obtain ⟨w1, rfl⟩ : ∃ w1, w1 = wr := ⟨wr, rfl⟩
  have C1 := hide (C0.out.below HB1.out (nlr _))
  have D1 := hide (D0.out.below HB1.out (nlr _))
  clear C0 D0
  by_cases hlt : k < cs.length
  ·obtain ⟨c, hc⟩ : ∃ c, cs[k]? = some c := ⟨_, List.getElem?_eq_getElem hlt⟩
   obtain ⟨ax, cx, hvx, -, -, h4⟩ := C1.out
   simp only [Value.slice.injEq] at hvx
   obtain ⟨rfl, -, rfl⟩ := hvx
   obtain ⟨g1, o1, v1, rfl, e1', e2', e3'⟩ := h4 k c hc
   obtain ⟨ay, cy, hvy, -, -, h5⟩ := D1.out
   simp only [Value.slice.injEq] at hvy
   obtain ⟨rfl, -, rfl⟩ := hvy
   obtain ⟨g2, o2, v2, rfl, f1, f2, f3⟩ := h5 k c hc
   obtain ⟨t1, u1, rfl, -, -, -⟩ := id e3'
   obtain ⟨t2, u2, rfl, -, -, -⟩ := id f3
   have HK : Hid (∀ w', Grew w1 w' → (w'.cell? ⟨g1, o1 + k * 2, none⟩ = some (.int .i64 c.1) ∧ w'.cell? ⟨g1, o1 + k * 2 + 1, none⟩ = some (.slice t1 c.2.length u1)) ∧ w'.cell? ⟨g2, o2 + k * 2, none⟩ = some (.int .i64 c.1) ∧ w'.cell? ⟨g2, o2 + k * 2 + 1, none⟩ = some (.slice t2 c.2.length u2)) := fun w' hg =>
    ⟨⟨(hg.cell (p := ⟨g1, o1 + k * 2, none⟩) (World.block_lt_of_cell? _ _ e1')).trans e1', (hg.cell (p := ⟨g1, o1 + k * 2 + 1, none⟩) (World.block_lt_of_cell? _ _ e2')).trans e2'⟩, (hg.cell (p := ⟨g2, o2 + k * 2, none⟩) (World.block_lt_of_cell? _ _ f1)).trans f1, (hg.cell (p := ⟨g2, o2 + k * 2 + 1, none⟩) (World.block_lt_of_cell? _ _ f2)).trans f2⟩
   have HS : Hid (∀ w', Grew w1 w' → Calls Tryz.prog 19 #[.slice t1 c.2.length u1, .slice t2 c.2.length u2] w' fun e w'' => e = .returned (.bool true) ∧ Grew w1 w'') := fun w' hg => by
    have hs := same_ref _ _ c.2 c.2 w' (e3'.below hg (nlr _)) (f3.below hg (nlr _))
    rw [decide_eq_true rfl] at hs
    refine hs.mono ?_
    rintro e w'' ⟨rfl, hb⟩
    exact ⟨rfl, grew_step hg hb⟩
   have hlt' : (k : Int) < (cs.length : Int) := by omega
   have hk0 : (0 : Int) ≤ (k : Int) := by omega
   have hq : (c.1 != c.1) = false := by simp
   clear h4 h5 C1 D1 hc e1' e2' e3' f1 f2 f3
   go_upto_region 6 with fail
   go_cut [40] (fun cc wx => cc = .bool false ∧ Hid (Grew w1 wx))
   case first =>
    go_region_held3 (fun w' => (w'.cell? ⟨g1, o1 + k * 2, none⟩ = some (.int .i64 c.1) ∧ w'.cell? ⟨g1, o1 + k * 2 + 1, none⟩ = some (.slice t1 c.2.length u1)) ∧ w'.cell? ⟨g2, o2 + k * 2, none⟩ = some (.int .i64 c.1) ∧ w'.cell? ⟨g2, o2 + k * 2 + 1, none⟩ = some (.slice t2 c.2.length u2))
     ((refine HK.out _ ?_; (first | assumption | exact grew_drew (grew_refl _) | exact grew_drew (by assumption))))
     (first | (go_at_call 19; refine (HS.out _ ?_).mono ?_; (first | assumption | exact grew_drew (grew_refl _) | exact grew_drew (by assumption)); rintro e w' ⟨rfl, hgr⟩))
    all_goals (go_wp2_with fail; go_meet; exact ⟨by simp, by assumption⟩)
   case rest =>
    obtain ⟨rfl, HGR⟩ := hcut
    have HB2 := hide (below_step HB1.out HGR.out)
    clear HK HS HGR HB1
    go_wp2_with fail
    go_roundw
    case rel => exact ⟨k + 1, by omega, by go_num, HB2⟩
    case measure => simp [intOf]; omega
  ·have hlt' : ¬ (k : Int) < (cs.length : Int) := by omega
   go_wp2_with fail
   go_ret
   exact ⟨rfl, HB1.out⟩

theorem eq_two (p q p' q' : Int) (w : World) : (Op.equalIn 10000 66 (.agg #[.int .i64 p, .int .i64 q]) (.agg #[.int .i64 p', .int .i64 q'])).run Tryz.prog w = .ok (p == p' && q == q') w := by
 have h1 : ∀ a b : Int, (Op.equalIn 9999 3 (.int .i64 a) (.int .i64 b)).run Tryz.prog w = .ok (a == b) w := fun a b => run_equalIn_int w 9998 3 .i64 .i64 a b Tryz.underlying3
 have h2 : (Go.part 3 #[.int .i64 p, .int .i64 q] 0).run Tryz.prog w = .ok (.int .i64 p) w := by kernel_rfl
 have h3 : (Go.part 3 #[.int .i64 p, .int .i64 q] 1).run Tryz.prog w = .ok (.int .i64 q) w := by kernel_rfl
 have h4 : (Go.part 3 #[.int .i64 p', .int .i64 q'] 0).run Tryz.prog w = .ok (.int .i64 p') w := by kernel_rfl
 have h5 : (Go.part 3 #[.int .i64 p', .int .i64 q'] 1).run Tryz.prog w = .ok (.int .i64 q') w := by kernel_rfl
 have h6 : (Go.sizeOf 3).run Tryz.prog w = .ok 1 w := by kernel_rfl
 have hu : Tryz.prog.underlying 66 = some (.array 2 3) := by kernel_rfl
 show (Op.equalIn (9999 + 1) 66 _ _).run Tryz.prog w = _
 rw [Op.equalIn]
 simp only [Sem.run_bind, run_underlying hu, Result.andThen_ok, h6, Std.Legacy.Range.forIn_eq_forIn_range', Std.Legacy.Range.size, List.range', List.forIn_cons, List.forIn_nil]
 simp only [Nat.zero_mul, h2, h4, Result.andThen_ok, h1]
 cases p == p' with
 | false => simp
 | true =>
  by_cases hq : q = q'
  ·subst hq; simp [h3, h5, h1]
  ·simp [h3, h5, h1, hq]
theorem pairAt {w : World} {a : Option Addr} {m c : Nat} {l : List (Int × Int)} (h : SliceV 2 encC w (.slice a m c) l) {k : Nat} {x : Int × Int} (hx : l[k]? = some x) :
  ∃ b off, a = some ⟨b, off, none⟩ ∧ w.cell? ⟨b, off + k * 2, none⟩ = some (.int .i64 x.1) ∧ w.cell? ⟨b, off + k * 2 + 1, none⟩ = some (.int .i64 x.2) := by
 obtain ⟨b, off, h1, h2⟩ := h.at hx
 exact ⟨b, off, h1, h2 0 _ rfl, h2 1 _ rfl⟩
set_option maxRecDepth 100000 in
set_option maxHeartbeats 2000000 in
theorem sameView_yes (v u : Value) (x : Vw) (w : World) (h : ViewR w v x) (hu : ViewR w u x) :
  Calls Tryz.prog 21 #[v, u] w fun e w' => e = .returned (.bool true) ∧ Below w.heap.size w w' := by
 obtain ⟨rv, sv, nv, rfl, hr, hs, hn⟩ := h
 obtain ⟨rv', sv', nv', rfl, hr', hs', hn'⟩ := hu
 obtain ⟨a1, cap1, rfl, -, -, -⟩ := id hr
 obtain ⟨a2, cap2, rfl, -, -, -⟩ := id hs
 obtain ⟨a3, cap3, rfl, -, -, -⟩ := id hn
 obtain ⟨b1, dap1, rfl, -, -, -⟩ := id hr'
 obtain ⟨b2, dap2, rfl, -, -, -⟩ := id hs'
 obtain ⟨b3, dap3, rfl, -, -, -⟩ := id hn'
 have hl := hn.len_le
 have hb2 := Below.plus (bpl w (.cells #[.slice a1 x.regs.length cap1, .slice a2 x.sets.length cap2, .slice a3 x.cnts.length cap3] 58)) (.cells #[.slice b1 x.regs.length dap1, .slice b2 x.sets.length dap2, .slice b3 x.cnts.length dap3] 58)
 have A0 := hide (hr.below hb2 (nlr _))
 have B0 := hide (hr'.below hb2 (nlr _))
 have C0 := hide (hs.below hb2 (nlr _))
 have D0 := hide (hs'.below hb2 (nlr _))
 have E0 := hide (hn.below hb2 (nlr _))
 have F0 := hide (hn'.below hb2 (nlr _))
 have G0 := hide ((Box.new w [.slice a1 x.regs.length cap1, .slice a2 x.sets.length cap2, .slice a3 x.cnts.length cap3] 58).plus (.cells #[.slice b1 x.regs.length dap1, .slice b2 x.sets.length dap2, .slice b3 x.cnts.length dap3] 58))
 have H0 := hide (Box.new (w.alloc (.cells #[.slice a1 x.regs.length cap1, .slice a2 x.sets.length cap2, .slice a3 x.cnts.length cap3] 58)) [.slice b1 x.regs.length dap1, .slice b2 x.sets.length dap2, .slice b3 x.cnts.length dap3] 58)
 rw [World.size_alloc] at H0
 have HB0 := hide hb2
 have e2 : ((x.cnts.length : Int) != (x.cnts.length : Int)) = false := by simp
 clear hr hs hn hr' hs' hn' hb2
 go_enter Tryz.func21, Tryz.ntmps21
 have cG0 := G0.out.get 0 rfl
 have cG1 := G0.out.get 1 rfl
 have cG2 := G0.out.get 2 rfl
 have cH0 := H0.out.get 0 rfl
 have cH1 := H0.out.get 1 rfl
 have cH2 := H0.out.get 2 rfl
 go_wp2_with fail
 refine (sameCells_yes _ _ x.regs _ A0.out B0.out).mono ?_
 rintro e w1 ⟨rfl, hb⟩
 have HB1 := hide (below_step HB0.out hb)
 have A1 := hide (A0.out.below hb (nlr _))
 have B1 := hide (B0.out.below hb (nlr _))
 have C1 := hide (C0.out.below hb (nlr _))
 have D1 := hide (D0.out.below hb (nlr _))
 have E1 := hide (E0.out.below hb (nlr _))
 have F1 := hide (F0.out.below hb (nlr _))
 have G1 := hide (G0.out.below hb (nlr _))
 have H1 := hide (H0.out.below hb (nlr _))
 clear HB0 hb A0 B0 C0 D0 E0 F0 G0 H0
 clear cG0 cG1 cG2
 clear cH0 cH1 cH2
 have cG0 := G1.out.get 0 rfl
 have cG1 := G1.out.get 1 rfl
 have cG2 := G1.out.get 2 rfl
 have cH0 := H1.out.get 0 rfl
 have cH1 := H1.out.get 1 rfl
 have cH2 := H1.out.get 2 rfl
 go_wp2_with fail
 refine (sameCells_yes _ _ x.sets _ C1.out D1.out).mono ?_
 rintro e w2 ⟨rfl, hb⟩
 have HB2 := hide (below_step HB1.out hb)
 have A2 := hide (A1.out.below hb (nlr _))
 have B2 := hide (B1.out.below hb (nlr _))
 have C2 := hide (C1.out.below hb (nlr _))
 have D2 := hide (D1.out.below hb (nlr _))
 have E2 := hide (E1.out.below hb (nlr _))
 have F2 := hide (F1.out.below hb (nlr _))
 have G2 := hide (G1.out.below hb (nlr _))
 have H2 := hide (H1.out.below hb (nlr _))
 clear HB1 hb A1 B1 C1 D1 E1 F1 G1 H1
 clear cG0 cG1 cG2
 clear cH0 cH1 cH2
 have cG0 := G2.out.get 0 rfl
 have cG1 := G2.out.get 1 rfl
 have cG2 := G2.out.get 2 rfl
 have cH0 := H2.out.get 0 rfl
 have cH1 := H2.out.get 1 rfl
 have cH2 := H2.out.get 2 rfl
 go_wp2_with fail
 go_loopw [32] (fun i wr => ∃ k : Nat, k ≤ x.cnts.length ∧ i = .int .i64 k ∧ Hid (Below w2.heap.size w2 wr)) (fun i _ => x.cnts.length - (intOf i).toNat)
 case atStart => exact ⟨0, Nat.zero_le _, rfl, hide (Below.refl _ _)⟩
 case round =>
  obtain ⟨k, hk, rfl, HBr⟩ := hrel
  obtain ⟨w3, rfl⟩ : ∃ w3, w3 = wr := ⟨wr, rfl⟩
  have G3 := hide (G2.out.below HBr.out (nlr _))
  have H3 := hide (H2.out.below HBr.out (nlr _))
  have HB3 := hide (below_step HB2.out HBr.out)
  clear cG0 cG1 cG2 cH0 cH1 cH2
  by_cases hlt : k < x.cnts.length
  ·obtain ⟨c, hc⟩ : ∃ c, x.cnts[k]? = some c := ⟨_, List.getElem?_eq_getElem hlt⟩
   obtain ⟨b, off, rfl, d0, d1⟩ := pairAt (E2.out.below HBr.out (nlr _)) hc
   obtain ⟨b', off', rfl, p0, p1⟩ := pairAt (F2.out.below HBr.out (nlr _)) hc
   have hlt' : (k : Int) < (x.cnts.length : Int) := by omega
   have hk0 : (0 : Int) ≤ (k : Int) := by omega
   have hg := G3.out.get 2 rfl
   have hh := H3.out.get 2 rfl
   have heq : ∀ w : World, (Op.equalIn 10000 66 (.agg #[.int .i64 c.1, .int .i64 c.2]) (.agg #[.int .i64 c.1, .int .i64 c.2])).run Tryz.prog w = .ok true w := fun w => by rw [eq_two]; simp
   go_upto_region 6 with fail
   go_quiet (fail)
   go_wp2_with fail
   go_roundw
   case rel => exact ⟨k + 1, by omega, by go_num, below_drewN HBr.out _⟩
   case measure => simp [intOf]; omega
  ·have hlt' : ¬ (k : Int) < (x.cnts.length : Int) := by omega
   go_wp2_with fail
   go_ret
   exact ⟨rfl, HB3.out⟩
end Go.Proofs.YtihedgnachophaaGreat

