/- state.showItem: an item behind all others, in a cell of its own where its key begins. state.showItem, walked. state.showItem where its key is the last one's; and in all. -/
import Derived.Test.YtalglngjafkdjaaIns
namespace Go.Proofs.Ytalglngjafkdjaa
open Go.RowKit

/-- Cells as they are read: a key, and its items. -/
def stepI (out : List (Int × List Int)) (key item : Int) : List (Int × List Int) :=
  match out.getLast? with
  | none => out ++ [(key, [item])]
  | some p => if p.1 = key then (if p.2.getLast? = some item then out else out.dropLast ++ [(p.1, p.2 ++ [item])]) else out ++ [(key, [item])]
/-- A cell and where its items lie, as two cells of memory. -/
def encP (p : (Int × List Int) × Value) : List Value := [.int .i64 p.1.1, p.2]
theorem encP_length (p : (Int × List Int) × Value) : (encP p).length = 2 := rfl
/-- A row of cells of the call's own, their items too, each for itself. -/
structure CellO (w : World) (B : Nat) (v : Value) (ps : List ((Int × List Int) × Value)) : Prop where
  row : w.ownsRow B 116 2 v ps.length (cellsS encP ps)
  items : ∀ p ∈ ps, Own w B p.2 p.1.2 ∧ p.1.2 ≠ []
  apart : ps.Pairwise fun p q => p.2.ownBlock ≠ q.2.ownBlock
theorem Own.block {w : World} {B : Nat} {v : Value} {xs : List Int} (h : Own w B v xs) (hx : xs ≠ []) : ∃ g cap, v = .slice (some ⟨g, 0, none⟩) xs.length cap ∧ B ≤ g ∧ g < w.heap.size := by
  rcases h.2 with ⟨h1, h2⟩ | ⟨g, cap, cur, h1, h2, h3, -⟩
  · exact absurd (List.eq_nil_of_length_eq_zero h2) hx
  · exact ⟨g, cap, h1, h2, lt_of_block h3⟩
theorem Own.keeps {w w' : World} {B : Nat} {v : Value} {xs : List Int} {row : Option Nat} (h : Own w B v xs) (hg : w.grownBy w' row) (hne : v.ownBlock = none ∨ v.ownBlock ≠ row) : Own w' B v xs := World.ownsRow.kept h hg hne
theorem CellO.below {w w' : World} {B C : Nat} {v : Value} {ps : List ((Int × List Int) × Value)} (h : CellO w B v ps) (hb : Below C w w') (hC : w.heap.size ≤ C) : CellO w' B v ps :=
  ⟨ownsRow_below h.row hb hC, fun p hp => ⟨(h.items p hp).1.below hb hC, (h.items p hp).2⟩, h.apart⟩
theorem Try.infoCell : (Try.prog.info? 116).map (fun i => (i.zero, i.size, i.bytes)) = some (some (.agg #[.int .i64 0, .slice none 0 0]), 2, 32) := by kernel_rfl
theorem row_snoc {α : Type} {l : List α} {x : α} (h : l.getLast? = some x) : l = l.dropLast ++ [x] ∧ l.length = l.dropLast.length + 1 ∧ l[l.length - 1]? = some x := by
  have hne : l ≠ [] := fun e => by rw [e] at h; simp at h
  have h1 : l = l.dropLast ++ [x] := by
    rw [List.getLast?_eq_some_getLast hne] at h
    simp only [Option.some.injEq] at h
    rw [← h]
    exact (List.dropLast_concat_getLast hne).symm
  refine ⟨h1, ?_, ?_⟩
  · have := congrArg List.length h1
    simpa using this
  · rw [← List.getLast?_eq_getElem?]
    exact h
theorem CellO.append {w w1 w' : World} {B : Nat} {v v' : Value} {ps : List ((Int × List Int) × Value)} {key item : Int} {g1 cap1 : Nat} (h : CellO w B v ps) (hb : Below w.heap.size w w1) (hi : Own w1 B (.slice (some ⟨g1, 0, none⟩) 1 cap1) [item]) (hg1 : w.heap.size ≤ g1)
    (ho : w'.ownsRow B 116 2 v' (ps.length + 1) (cellsS encP ps ++ encP ((key, [item]), .slice (some ⟨g1, 0, none⟩) 1 cap1))) (hg : w1.grownBy w' v.ownBlock) : CellO w' B v' (ps ++ [((key, [item]), .slice (some ⟨g1, 0, none⟩) 1 cap1)]) := by
  have hr1 := ownsRow_below h.row hb (Nat.le_refl _)
  have keep : ∀ (x : Value) (xs : List Int), Own w1 B x xs → Own w' B x xs := fun x xs hx => own_grownT hx hr1 hg (by decide)
  refine ⟨?_, fun p hp => ?_, ?_⟩
  · rw [cellsS_snoc]
    simpa using ho
  · rcases List.mem_append.1 hp with hp | hp
    · exact ⟨keep _ _ ((h.items p hp).1.below hb (Nat.le_refl _)), (h.items p hp).2⟩
    · simp at hp
      subst hp
      exact ⟨keep _ _ hi, by simp⟩
  · refine List.pairwise_append.2 ⟨h.apart, by simp, fun p hp q hq => ?_⟩
    simp at hq
    subst hq
    obtain ⟨g, cap, e1, -, e3⟩ := (h.items p hp).1.block (h.items p hp).2
    rw [e1]
    simp only [Value.ownBlock, ne_eq, Option.some.injEq]
    omega
theorem cellsP_second {ps : List ((Int × List Int) × Value)} {k : Nat} {p : (Int × List Int) × Value} (its : List Int) (sv : Value) (h : ps[k]? = some p) : cellsS encP (ps.set k ((p.1.1, its), sv)) = (cellsS encP ps).take (k * 2 + 1) ++ [sv] ++ (cellsS encP ps).drop (k * 2 + 1 + 1) := by
  obtain ⟨hk, rfl⟩ := List.getElem?_eq_some_iff.1 h
  have e1 : ps.set k ((ps[k].1.1, its), sv) = ps.take k ++ ((ps[k].1.1, its), sv) :: ps.drop (k + 1) := by rw [List.set_eq_take_append_cons_drop, if_pos hk]
  have e2 : cellsS encP ps = cellsS encP (ps.take k) ++ (encP ps[k] ++ cellsS encP (ps.drop (k + 1))) := by
    have : ps = ps.take k ++ ps[k] :: ps.drop (k + 1) := by rw [← List.drop_eq_getElem_cons hk, List.take_append_drop]
    rw [congrArg (cellsS encP) this, cellsS_append]
    rfl
  have hA : (cellsS encP (ps.take k)).length = k * 2 := by rw [cellsS_length encP_length, List.length_take, Nat.min_eq_left (by omega)]
  rw [e1, cellsS_append, e2]
  generalize cellsS encP (ps.take k) = A at hA
  rw [List.take_append, List.drop_append, List.take_of_length_le (l := A) (by omega), List.drop_of_length_le (l := A) (by omega), hA, show k * 2 + 1 - k * 2 = 1 by omega, show k * 2 + 1 + 1 - k * 2 = 2 by omega]
  simp [encP, cellsS]


theorem own_one (w : World) (B : Nat) (item : Int) (hB : B ≤ w.heap.size) : Own (w.alloc (.cells #[.int .i64 item] 3)) B (.slice (some ⟨w.heap.size, 0, none⟩) 1 1) [item] := own_of_block (xs := [item]) (heap_alloc_new w _) hB (by unfold maxLen; simp)
theorem stepI_none {out : List (Int × List Int)} {key item : Int} (h : out.getLast? = none) : stepI out key item = out ++ [(key, [item])] := by unfold stepI; rw [h]
theorem stepI_new {out : List (Int × List Int)} {key item : Int} {p : Int × List Int} (h : out.getLast? = some p) (hk : ¬ p.1 = key) : stepI out key item = out ++ [(key, [item])] := by unfold stepI; rw [h]; simp only [if_neg hk]
theorem stepI_same {out : List (Int × List Int)} {key item : Int} {p : Int × List Int} (h : out.getLast? = some p) (hk : p.1 = key) (hi : p.2.getLast? = some item) : stepI out key item = out := by unfold stepI; rw [h]; simp only [if_pos hk, if_pos hi]
theorem stepI_more {out : List (Int × List Int)} {key item : Int} {p : Int × List Int} (h : out.getLast? = some p) (hk : p.1 = key) (hi : ¬ p.2.getLast? = some item) : stepI out key item = out.dropLast ++ [(p.1, p.2 ++ [item])] := by unfold stepI; rw [h]; simp only [if_pos hk, if_neg hi]

set_option maxRecDepth 100000 in
set_option maxHeartbeats 2000000 in
theorem showItem_new (v : Value) (ps : List ((Int × List Int) × Value)) (key item : Int) (w : World) (B : Nat) (h : CellO w B v ps) (hB : B ≤ w.heap.size) (hbig : ps.length ≤ 500000000) (hk : ∀ p, (ps.map (·.1)).getLast? = some p → ¬ p.1 = key) :
    Calls Try.prog 73 #[v, .int .i64 key, .int .i64 item] w fun e w' => ∃ v', e = .returned v' ∧ ∃ ps', CellO w' B v' ps' ∧ ps'.map (·.1) = stepI (ps.map (·.1)) key item ∧ Below B w w' := by
  obtain ⟨i0, hi0, hz0, hz1, hz2⟩ := info_parts Try.infoCell
  have hb2 := Below.plus (Below.plus (Below.refl w.heap.size w) (.cells #[.int .i64 item] 3)) (.cells #[.int .i64 key, .slice (some ⟨w.heap.size, 0, none⟩) 1 1] 116)
  have HO := hide (ownsRow_below h.row hb2 (Nat.le_refl _))
  have HI : Hid (Own ((w.alloc (.cells #[.int .i64 item] 3)).alloc (.cells #[.int .i64 key, .slice (some ⟨w.heap.size, 0, none⟩) 1 1] 116)) B (.slice (some ⟨w.heap.size, 0, none⟩) 1 1) [item]) := (own_one w B item hB).below (Below.plus (Below.refl _ _) _) (Nat.le_refl _)
  have hX := Box.new (w.alloc (.cells #[.int .i64 item] 3)) [.int .i64 key, .slice (some ⟨w.heap.size, 0, none⟩) 1 1] 116
  rw [World.size_alloc] at hX
  have HC := hide hX.cellsAt
  have HBB := hide hb2
  have HH := hide h
  have HLT := hide h.row.lt
  have HSP : Hid (ps.map (·.1) ++ [(key, [item])] = stepI (ps.map (·.1)) key item) := by
    unfold Hid
    cases hg : (ps.map (·.1)).getLast? with
    | none => rw [stepI_none hg]
    | some p => rw [stepI_new hg (hk p hg)]
  have h1c : ∀ q ∈ encP ((key, [item]), Value.slice (some ⟨w.heap.size, 0, none⟩) 1 1), q.oneCell' = true := by
    intro q hq
    simp only [encP, List.mem_cons, List.not_mem_nil, or_false] at hq
    rcases hq with rfl | rfl <;> rfl
  have H1C := hide h1c
  have hsl : ∃ a cap, v = .slice a ps.length cap ∧ (ps ≠ [] → ∃ g, a = some ⟨g, 0, none⟩) := by
    rcases own_ways h.row with ⟨h1, h2⟩ | ⟨g, cap, h1, -⟩
    · exact ⟨none, 0, by rw [h1, h2]; rfl, fun hne => absurd h2 hne⟩
    · exact ⟨_, cap, h1, fun _ => ⟨g, rfl⟩⟩
  obtain ⟨a, cap, rfl, ha⟩ := hsl
  clear hb2 hX h1c
  cases hgl : ps.getLast? with
  | none =>
    have hnil : ps = [] := List.getLast?_eq_none_iff.1 hgl
    have hlen : ps.length = 0 := by rw [hnil]; rfl
    have HL := hide hlen
    have HNL := hide hnil
    clear h hk ha hgl hnil
    have e0 : ((ps.length : Nat) : Int) = 0 := by omega
    go_enter Try.func73, Try.ntmps73
    go_wp2_with (at_builtin; refine wpList_append_own _ rfl (.tmp 23) (.tmp 28) 37 rfl B 116 i0 (.agg #[.int .i64 0, .slice none 0 0]) 2 32 Try.underlying37 hi0 hz0 hz1 hz2 rfl (by decide) _ _ _ rfl HO.out ⟨w.heap.size + 1, 0, none⟩ 1 1 (encP ((key, [item]), .slice (some ⟨w.heap.size, 0, none⟩) 1 1)) rfl rfl HC.out H1C.out (by unfold maxLen; omega) (by omega) (by rw [World.size_alloc, World.size_alloc]; omega) ?_)
    intro v' w4 hown0 hgrow0 _
    have hgrow : ((w.alloc (.cells #[.int .i64 item] 3)).alloc (.cells #[.int .i64 key, .slice (some ⟨w.heap.size, 0, none⟩) 1 1] 116)).grownBy w4 (Value.slice a ps.length cap).ownBlock := by rw [HL.out]; exact hgrow0
    have hown' : w4.ownsRow B 116 2 v' (ps.length + 1) (cellsS encP ps ++ encP ((key, [item]), .slice (some ⟨w.heap.size, 0, none⟩) 1 1)) := by rw [HL.out]; exact hown0
    clear hown0 hgrow0
    have HCO := hide (HH.out.append (w1 := (w.alloc (.cells #[.int .i64 item] 3)).alloc (.cells #[.int .i64 key, .slice (some ⟨w.heap.size, 0, none⟩) 1 1] 116)) HBB.out HI.out (Nat.le_refl _) hown' hgrow)
    have HBF : Hid (Below B w w4) := (HBB.out.mono hB).grown hgrow (by rw [World.size_alloc, World.size_alloc]; omega) (fun k hk => (HLT.out k hk).1)
    clear hown' hgrow
    go_wp2_with fail
    go_ret
    exact ⟨_, rfl, _, HCO.out, by rw [← HSP.out]; simp, HBF.out⟩
  | some p =>
    obtain ⟨hp1, hp2, hp3⟩ := row_snoc hgl
    have hne : ps ≠ [] := fun e => by rw [e] at hgl; simp at hgl
    obtain ⟨g, rfl⟩ := ha hne
    obtain ⟨hh, hcap⟩ : HoldsS 116 2 encP w g cap ps ∧ ps.length ≤ cap := by
      rcases own_ways h.row with ⟨h1, -⟩ | ⟨g', cap', h1, -, h3, h4, -⟩
      · simp at h1
      · simp only [Value.slice.injEq, Option.some.injEq, Addr.mk.injEq, and_true, true_and] at h1
        obtain ⟨rfl, rfl⟩ := h1
        exact ⟨h3, h4⟩
    have hkk : ¬ p.1.1 = key := hk p.1 (by rw [List.getLast?_map, hgl]; rfl)
    obtain ⟨m, hm⟩ : ∃ m, ps.length = m + 1 := ⟨_, hp2⟩
    have hp3' : ps[m]? = some p := by rw [hm] at hp3; exact hp3
    have d0 := hh.at encP_length hp3' (j := 0) rfl
    simp only [Nat.add_zero] at d0
    have hm0 : (0 : Int) ≤ (m : Int) := by omega
    have hmn : (m : Int) < (ps.length : Int) := by omega
    have hw : IntKind.i64.wrap ((ps.length : Int) - 1) = (m : Int) := by rw [hm, wrapL (by omega) (by omega)]; omega
    have hml : ¬ (m : Int) < 0 := by omega
    have hq : (p.1.1 != key) = true := by simp [hkk]
    have HM := hide hm
    clear h hk ha hgl hp1 hp2 hp3 hne hh hkk hp3' hm
    go_enter Try.func73, Try.ntmps73
    go_wp2_with (at_builtin; refine wpList_append_own _ rfl (.tmp 23) (.tmp 28) 37 rfl B 116 i0 (.agg #[.int .i64 0, .slice none 0 0]) 2 32 Try.underlying37 hi0 hz0 hz1 hz2 rfl (by decide) _ _ _ rfl HO.out ⟨w.heap.size + 1, 0, none⟩ 1 1 (encP ((key, [item]), .slice (some ⟨w.heap.size, 0, none⟩) 1 1)) rfl rfl HC.out H1C.out (by unfold maxLen; omega) (by omega) (by rw [World.size_alloc, World.size_alloc]; omega) ?_)
    intro v' w4 hown' hgrow _
    have HCO := hide (HH.out.append (w1 := (w.alloc (.cells #[.int .i64 item] 3)).alloc (.cells #[.int .i64 key, .slice (some ⟨w.heap.size, 0, none⟩) 1 1] 116)) HBB.out HI.out (Nat.le_refl _) hown' hgrow)
    have HBF : Hid (Below B w w4) := (HBB.out.mono hB).grown hgrow (by rw [World.size_alloc, World.size_alloc]; omega) (fun k hk => (HLT.out k hk).1)
    clear hown' hgrow
    go_wp2_with fail
    go_ret
    exact ⟨_, rfl, _, HCO.out, by rw [← HSP.out]; simp, HBF.out⟩
theorem CellO.more {w1 w2 : World} {B g cap k : Nat} {v sv : Value} {ps : List ((Int × List Int) × Value)} {p : (Int × List Int) × Value} {item : Int} {gi : Nat} (h : CellO w1 B v ps) (hv : v = .slice (some ⟨g, 0, none⟩) ps.length cap) (hp : ps[k]? = some p)
    (hgi : p.2.ownBlock = some gi) (ho : Own w2 B sv (p.1.2 ++ [item])) (hg : w1.grownBy w2 (some gi)) (hat : sv.ownBlock = some gi ∨ sv.ownBlock = some w1.heap.size) :
    CellO (w2.setCell ⟨g, k * 2 + 1, none⟩ sv) B v (ps.set k ((p.1.1, p.1.2 ++ [item]), sv)) := by
  have hk : k < ps.length := (List.getElem?_eq_some_iff.1 hp).1
  have hpm : p ∈ ps := List.mem_of_getElem? hp
  have hpo := (h.items p hpm).1
  have hrow2 : w2.ownsRow B 116 2 v ps.length (cellsS encP ps) := by
    refine h.row.kept hg ?_
    rw [hv]
    refine .inr ?_
    simp only [Value.ownBlock, ne_eq, Option.some.injEq]
    rintro rfl
    rcases own_ways h.row with ⟨h1, -⟩ | ⟨g', cap', h1, -, ⟨cur, h3, -⟩, -⟩
    · rw [hv] at h1; simp at h1
    · rw [hv] at h1
      simp only [Value.slice.injEq, Option.some.injEq, Addr.mk.injEq, and_true, true_and] at h1
      obtain ⟨rfl, rfl⟩ := h1
      rcases hpo.2 with ⟨e1, -⟩ | ⟨g2, c2, cur2, e1, -, e3, -⟩
      · rw [e1] at hgi; simp [Value.ownBlock] at hgi
      · rw [e1] at hgi
        simp only [Value.ownBlock, Option.some.injEq] at hgi
        subst hgi
        rw [h3] at e3
        simp at e3
  have keep : ∀ (x : Value) (xs : List Int), Own w2 B x xs → xs ≠ [] → Own (w2.setCell ⟨g, k * 2 + 1, none⟩ sv) B x xs := fun x xs hx hne => by
    have hgs := grown_setCell w2 g (k * 2 + 1) sv
    refine World.ownsRow.kept hx hgs ?_
    obtain ⟨g2, c2, e1, -, -⟩ := hx.block hne
    refine .inr ?_
    rw [e1]
    simp only [Value.ownBlock, ne_eq, Option.some.injEq]
    rintro rfl
    rcases own_ways hrow2 with ⟨h1, -⟩ | ⟨g', cap', h1, -, ⟨cur, h3, -⟩, -⟩
    · rw [hv] at h1; simp at h1
    · rw [hv] at h1
      simp only [Value.slice.injEq, Option.some.injEq, Addr.mk.injEq, and_true, true_and] at h1
      obtain ⟨rfl, rfl⟩ := h1
      rcases hx.2 with ⟨e4, -⟩ | ⟨g3, c3, cur3, e4, -, e5, -⟩
      · rw [e1] at e4; simp at e4
      · rw [e1] at e4
        simp only [Value.slice.injEq, Option.some.injEq, Addr.mk.injEq, and_true] at e4
        obtain ⟨rfl, -, -⟩ := e4
        rw [h3] at e5
        simp at e5
  have hother : ∀ (j : Nat) (q : (Int × List Int) × Value), j ≠ k → ps[j]? = some q → q.2.ownBlock ≠ some gi := fun j q hj hq => by
    obtain ⟨hjl, rfl⟩ := List.getElem?_eq_some_iff.1 hq
    obtain ⟨_, hpk⟩ := List.getElem?_eq_some_iff.1 hp
    have ap := List.pairwise_iff_getElem.1 h.apart
    rcases Nat.lt_or_gt_of_ne hj with hlt | hgt
    · have := ap j k hjl hk hlt
      rw [hpk, hgi] at this
      exact this
    · have := ap k j hk hjl hgt
      rw [hpk, hgi] at this
      exact fun e => this e.symm
  have hlen : (ps.set k ((p.1.1, p.1.2 ++ [item]), sv)).length = ps.length := by simp
  refine ⟨?_, fun q hq => ?_, ?_⟩
  · rw [hlen]
    rcases own_ways hrow2 with ⟨h1, -⟩ | ⟨g', cap', h1, h2, h3, h4, h5⟩
    · rw [hv] at h1; simp at h1
    · rw [hv] at h1
      simp only [Value.slice.injEq, Option.some.injEq, Addr.mk.injEq, and_true, true_and] at h1
      obtain ⟨rfl, rfl⟩ := h1
      have hs := h3.splice (o := k * 2 + 1) [sv] (ps.set k ((p.1.1, p.1.2 ++ [item]), sv)) hlen h4 (by simp; omega) (cellsP_second _ sv hp)
      have := HoldsS.own encP_length hs h2 (by rw [hlen]; exact h4) h5
      rw [hlen, ← hv] at this
      exact this
  · obtain ⟨j, hj⟩ := List.getElem?_of_mem hq
    by_cases hjk : j = k
    · subst hjk
      rw [List.getElem?_set_self hk] at hj
      simp only [Option.some.injEq] at hj
      subst hj
      exact ⟨keep _ _ ho (by simp), by simp⟩
    · rw [List.getElem?_set_ne (by omega)] at hj
      have hqm := List.mem_of_getElem? hj
      exact ⟨keep _ _ ((h.items q hqm).1.keeps hg (.inr (hother j q hjk hj))) (h.items q hqm).2, (h.items q hqm).2⟩
  · refine List.pairwise_iff_getElem.2 (fun i j hi hj hij => ?_)
    have ap := List.pairwise_iff_getElem.1 h.apart
    have hil : i < ps.length := by simpa using hi
    have hjl : j < ps.length := by simpa using hj
    have fresh : ∀ (m : Nat) (hm : m < ps.length), m ≠ k → ps[m].2.ownBlock ≠ sv.ownBlock := fun m hm hmk e => by
      obtain ⟨g2, c2, e1, -, e3⟩ := (h.items ps[m] (List.getElem_mem hm)).1.block (h.items ps[m] (List.getElem_mem hm)).2
      rcases hat with ha | ha
      · rw [ha] at e
        exact hother m ps[m] hmk (List.getElem?_eq_getElem hm) e
      · rw [ha, e1] at e
        simp only [Value.ownBlock, Option.some.injEq] at e
        omega
    by_cases hik : i = k
    · subst hik
      have hjk : j ≠ i := by omega
      rw [List.getElem_set_self, List.getElem_set_ne (by omega)]
      exact fun e => fresh j hjl hjk e.symm
    · by_cases hjk : j = k
      · subst hjk
        rw [List.getElem_set_self, List.getElem_set_ne (by omega)]
        exact fresh i hil hik
      · rw [List.getElem_set_ne (by omega), List.getElem_set_ne (by omega)]
        exact ap i j hil hjl hij


set_option maxRecDepth 100000 in
set_option maxHeartbeats 2000000 in
theorem showItem_old (v : Value) (ps : List ((Int × List Int) × Value)) (p : (Int × List Int) × Value) (item : Int) (w : World) (B : Nat) (h : CellO w B v ps) (hB : B ≤ w.heap.size) (hbig : ps.length ≤ 500000000) (hits : p.1.2.length ≤ 500000000) (hgl : ps.getLast? = some p) :
    Calls Try.prog 73 #[v, .int .i64 p.1.1, .int .i64 item] w fun e w' => ∃ v', e = .returned v' ∧ ∃ ps', CellO w' B v' ps' ∧ ps'.map (·.1) = stepI (ps.map (·.1)) p.1.1 item ∧ Below B w w' := by
  obtain ⟨i0, hi0, hz0, hz1, hz2⟩ := info_parts Try.infoInt
  obtain ⟨hp1, hp2, hp3⟩ := row_snoc hgl
  obtain ⟨m, hm⟩ : ∃ m, ps.length = m + 1 := ⟨_, hp2⟩
  have hpm : ps[m]? = some p := by rw [hm] at hp3; exact hp3
  have hmem : p ∈ ps := List.mem_of_getElem? hpm
  obtain ⟨hio, hine⟩ := h.items p hmem
  obtain ⟨gi, ci, hgi, hgB, hgl2⟩ := hio.block hine
  have hmapl : (ps.map (·.1)).getLast? = some p.1 := by rw [List.getLast?_map, hgl]; rfl
  obtain ⟨j, hj⟩ : ∃ j, p.1.2.length = j + 1 := ⟨p.1.2.length - 1, by have := List.length_pos_iff.2 hine; omega⟩
  obtain ⟨z, hz⟩ : ∃ z, p.1.2[j]? = some z := ⟨_, List.getElem?_eq_getElem (by omega)⟩
  have hlast : p.1.2.getLast? = some z := by rw [List.getLast?_eq_getElem?, hj]; exact hz
  rcases own_ways h.row with ⟨h1, h2⟩ | ⟨g, cap, hv, hg2, hh, hcap, hcm⟩
  · rw [h2] at hpm; simp at hpm
  have hcz : w.cell? ⟨gi, j, none⟩ = some (.int .i64 z) := by
    have hr := hio.row
    rw [hgi] at hr
    obtain ⟨a', c', e1, -, -, hcs⟩ := hr
    simp only [Value.slice.injEq] at e1
    obtain ⟨b, off, e2, e3⟩ := hcs j (by omega)
    rw [← e1.1] at e2
    simp only [Option.some.injEq, Addr.mk.injEq, and_true] at e2
    obtain ⟨rfl, rfl⟩ := e2
    rw [Nat.zero_add] at e3
    rw [e3, List.getD, hz]
    rfl
  have d0 := hh.at encP_length hpm (j := 0) rfl
  have d1 := hh.at encP_length hpm (j := 1) rfl
  simp only [Nat.add_zero] at d0
  rw [hgi] at d1
  have f1 := hh.free (m * 2 + 1)
  have HH := hide h
  have HIO := hide hio
  have HV := hide hv
  have HPM := hide hpm
  have HGI := hide hgi
  have HGL := hide hmapl
  have HLAST := hide hlast
  have HM := hide hm
  have HJ := hide hj
  have hm0 : (0 : Int) ≤ (m : Int) := by omega
  have hmn : (m : Int) < (ps.length : Int) := by omega
  have hw : IntKind.i64.wrap ((ps.length : Int) - 1) = (m : Int) := by rw [hm, wrapL (by omega) (by omega)]; omega
  have hwj : IntKind.i64.wrap ((p.1.2.length : Int) - 1) = (j : Int) := by rw [hj, wrapL (by omega) (by omega)]; omega
  have hjn : (j : Int) < (p.1.2.length : Int) := by omega
  have hml : ¬ (m : Int) < 0 := by omega
  have hq : (p.1.1 != p.1.1) = false := by simp
  have hgne : Hid (¬ gi = g) := by
    rintro rfl
    obtain ⟨cur, k1, -⟩ := hh
    rcases hio.2 with ⟨e1, -⟩ | ⟨g2, c2, cur2, e1, -, e3, -⟩
    · rw [hgi] at e1; simp at e1
    · rw [hgi] at e1
      simp only [Value.slice.injEq, Option.some.injEq, Addr.mk.injEq, and_true] at e1
      obtain ⟨rfl, -, -⟩ := e1
      rw [k1] at e3
      simp at e3
  have HB2 := hide hg2
  have HHH := hide hh
  clear hp1 hp2 hp3 hm hmem hio hine hmapl hj hz hlast h hgl hh hpm hgi
  subst hv
  by_cases hzi : z = item
  · have hzz : (z != item) = false := by simp [hzi]
    have HZ := hide hzi
    clear hzi
    go_enter Try.func73, Try.ntmps73
    go_wp2_with fail
    go_ret
    exact ⟨_, rfl, ps, HH.out, by rw [stepI_same HGL.out rfl (by rw [HLAST.out, HZ.out])], Below.refl _ _⟩
  · have hzz : (z != item) = true := by simp [hzi]
    have HZ := hide hzi
    clear hzi
    have hbp := Below.plus (Below.refl w.heap.size w) (.cells #[.int .i64 item] 3)
    have HH1 := hide (HH.out.below hbp (Nat.le_refl _))
    have HIO1 : Hid (Own (w.alloc (.cells #[.int .i64 item] 3)) B p.2 p.1.2) := HIO.out.below hbp (Nat.le_refl _)
    rw [HGI.out] at HIO1
    have HSRC : Hid (Src Try.prog 1 22 (.slice (some ⟨w.heap.size, 0, none⟩) 1 1) 1 [.int .i64 item] (w.alloc (.cells #[.int .i64 item] 3))) := Src.ofSlice _ Try.underlying22 ⟨w.heap.size, 0, none⟩ 1 1 [.int .i64 item] rfl (Box.new w [.int .i64 item] 3).cellsAt (by intro q hq; simp at hq; subst hq; rfl)
    have HB1 := hide hbp
    have hne2 : ¬ w.heap.size = g := by have := HHH.out.lt; omega
    clear hbp
    go_enter Try.func73, Try.ntmps73
    go_wp2_with (at_builtin; refine wpList_append_own_at _ rfl (.tmp 45) (.tmp 47) 22 22 rfl B 3 i0 (.int .i64 0) 1 8 Try.underlying22 hi0 hz0 hz1 hz2 rfl _ _ _ rfl HIO1.out _ rfl 1 [.int .i64 item] HSRC.out (by unfold maxLen; omega) (by omega) (by rw [World.size_alloc]; omega) ?_)
    intro v5 w5 ho5 hg5 hat5
    have O5 : Hid (Own w5 B v5 (p.1.2 ++ [item])) := by
      unfold Hid Own
      rw [List.length_append, List.map_append]
      exact ho5
    have HG5 := hide hg5
    have HAT := hide hat5
    have HH5 : Hid (HoldsS 116 2 encP w5 g cap ps) := (HHH.out.below HB1.out (Nat.le_refl _)).grown hg5 (by simp only [Value.ownBlock, ne_eq, Option.some.injEq]; exact fun e => hgne.out e.symm)
    obtain ⟨a5, c5, hv5, -⟩ := O5.out.row
    clear ho5 hg5 hat5 d0 d1 f1
    subst hv5
    have d1 := HH5.out.at encP_length HPM.out (j := 1) rfl
    have f1 := HH5.out.free (m * 2 + 1)
    go_wp2_with fail
    go_ret
    refine ⟨_, rfl, ps.set m ((p.1.1, p.1.2 ++ [item]), .slice a5 (p.1.2.length + 1) c5), ?_, ?_, ?_⟩
    · have hgg : p.2.ownBlock = some gi := by rw [HGI.out]; rfl
      have hll : (p.1.2 ++ [item]).length = p.1.2.length + 1 := by simp
      have hmo := HH1.out.more (w1 := w.alloc (.cells #[.int .i64 item] 3)) rfl HPM.out hgg O5.out HG5.out (by rw [World.size_alloc]; exact HAT.out)
      rw [hll] at hmo
      exact hmo
    · rw [stepI_more HGL.out rfl (by rw [HLAST.out]; simp only [Option.some.injEq]; exact HZ.out)]
      have hps : ps = ps.take m ++ [p] := by
        have hd := drop_at HPM.out
        rw [List.drop_of_length_le (i := m + 1) (by have := HM.out; omega)] at hd
        rw [← hd, List.take_append_drop]
      have hml2 : (ps.take m).length = m := by rw [List.length_take, HM.out]; omega
      generalize ps.take m = A at hps hml2
      subst hps
      rw [List.set_append_right _ _ (by omega), hml2, Nat.sub_self]
      simp
    · have hb5 : Below B w w5 := (HB1.out.mono hB).grown HG5.out (by rw [World.size_alloc]; omega) (fun k hk => by simp only [Value.ownBlock, Option.some.injEq] at hk; omega)
      exact hb5.setCell HB2.out _
/-- In all. -/
theorem showItem_fn (v : Value) (ps : List ((Int × List Int) × Value)) (key item : Int) (w : World) (B : Nat) (h : CellO w B v ps) (hB : B ≤ w.heap.size) (hbig : ps.length ≤ 500000000) (hits : ∀ p ∈ ps, p.1.2.length ≤ 500000000) :
    Calls Try.prog 73 #[v, .int .i64 key, .int .i64 item] w fun e w' => ∃ v', e = .returned v' ∧ ∃ ps', CellO w' B v' ps' ∧ ps'.map (·.1) = stepI (ps.map (·.1)) key item ∧ Below B w w' := by
  by_cases hk : ∃ p, ps.getLast? = some p ∧ p.1.1 = key
  · obtain ⟨p, hp, rfl⟩ := hk
    exact showItem_old v ps p item w B h hB hbig (hits p (List.mem_of_getLast? hp)) hp
  · refine showItem_new v ps key item w B h hB hbig (fun q hq hqk => hk ?_)
    rw [List.getLast?_map] at hq
    cases hg : ps.getLast? with
    | none => rw [hg] at hq; simp at hq
    | some p =>
      rw [hg] at hq
      simp at hq
      exact ⟨p, rfl, by rw [hq]; exact hqk⟩
/-- What cells shows. -/
def cellsL (s : Bool) : List Live → List (Int × List Int) → List (Int × List Int)
  | [], out => out
  | x :: r, out => cellsL s r (if x.set = s then stepI out x.key x.item else out)
theorem cellsL_step {s : Bool} {l : List Live} {k : Nat} {x : Live} (h : l[k]? = some x) : ∀ out, cellsL s (l.take (k + 1)) out = (fun o => if x.set = s then stepI o x.key x.item else o) (cellsL s (l.take k) out) := by
  intro out
  obtain ⟨hk, rfl⟩ := List.getElem?_eq_some_iff.1 h
  rw [List.take_succ_eq_append_getElem hk]
  generalize l.take k = a
  generalize l[k] = y
  clear h hk
  induction a generalizing out with
  | nil => rfl
  | cons z r ih => rw [List.cons_append, cellsL, cellsL, ih]
theorem stepI_len (out : List (Int × List Int)) (key item : Int) : (stepI out key item).length ≤ out.length + 1 ∧ ∀ (n : Nat), (∀ p ∈ out, p.2.length ≤ n) → ∀ p ∈ stepI out key item, p.2.length ≤ n + 1 := by
  unfold stepI
  split
  · refine ⟨by simp, fun n hn p hp => ?_⟩
    rcases List.mem_append.1 hp with hp | hp
    · have := hn p hp; omega
    · simp at hp; subst hp; simp
  · next q hq =>
    obtain ⟨h1, h2, -⟩ := row_snoc hq
    have hqm := List.mem_of_getLast? hq
    split
    · split
      · exact ⟨by omega, fun n hn p hp => by have := hn p hp; omega⟩
      · refine ⟨by simp, fun n hn p hp => ?_⟩
        rcases List.mem_append.1 hp with hp | hp
        · have := hn p (by rw [h1]; exact List.mem_append.2 (.inl hp)); omega
        · simp at hp; subst hp; have := hn q hqm; simp; omega
    · refine ⟨by simp, fun n hn p hp => ?_⟩
      rcases List.mem_append.1 hp with hp | hp
      · have := hn p hp; omega
      · simp at hp; subst hp; simp
theorem cellsL_len (s : Bool) : ∀ (l : List Live) (out : List (Int × List Int)) (n : Nat), out.length ≤ n → (∀ p ∈ out, p.2.length ≤ n) → (cellsL s l out).length ≤ n + l.length ∧ ∀ p ∈ cellsL s l out, p.2.length ≤ n + l.length
  | [], out, n, h1, h2 => ⟨by simpa [cellsL] using h1, by simpa [cellsL] using h2⟩
  | x :: r, out, n, h1, h2 => by
    rw [cellsL]
    obtain ⟨a1, a2⟩ := stepI_len out x.key x.item
    have := cellsL_len s r (if x.set = s then stepI out x.key x.item else out) (n + 1) (by split <;> omega) (by
      intro p hp
      split at hp
      · exact a2 n h2 p hp
      · have := h2 p hp; omega)
    rw [List.length_cons]
    refine ⟨by omega, fun p hp => ?_⟩
    have := this.2 p hp
    omega
end Go.Proofs.Ytalglngjafkdjaa
