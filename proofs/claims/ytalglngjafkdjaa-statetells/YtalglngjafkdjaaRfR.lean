/- The document's own Cells and Read. -/
import Derived.Test.YtalglngjafkdjaaRfB
import Derived.Test.YtalglngjafkdjaaStX
namespace Go.Proofs.Ytalglngjafkdjaa
open Go.RowKit

theorem cell_grewR {w w' : World} {p : Addr} {v : Value} (hg : Grew w w') (h : w.cell? p = some v) : w'.cell? p = some v := (hg.cell (p := p) (World.block_lt_of_cell? w _ h)).trans h
/-- The items of one key, as the document's own answer gathers them. -/
def itemR (s : Bool) (key : Int) (its : List Int) (x : Live) : List Int := if x.set = s ∧ x.key = key ∧ (its = [] ∨ ¬ its.getLast? = some x.item) then its ++ [x.item] else its
def itemsR (s : Bool) (key : Int) (l : List Live) : List Int := l.foldl (itemR s key) []
theorem itemsR_snoc {s : Bool} {key : Int} {l : List Live} {k : Nat} {x : Live} (h : l[k]? = some x) : itemsR s key (l.take (k + 1)) = itemR s key (itemsR s key (l.take k)) x := by
  obtain ⟨hk, rfl⟩ := List.getElem?_eq_some_iff.1 h
  unfold itemsR
  rw [List.take_succ_eq_append_getElem hk, List.foldl_append]
  rfl
theorem itemR_len {s : Bool} {key : Int} {its : List Int} {x : Live} : (itemR s key its x).length ≤ its.length + 1 := by unfold itemR; split <;> simp
theorem itemsR_len {s : Bool} {key : Int} {l : List Live} : ∀ k, k ≤ l.length → (itemsR s key (l.take k)).length ≤ k
  | 0, _ => by simp [itemsR]
  | k + 1, h => by
    have h1 := itemsR_len (s := s) (key := key) (l := l) k (by omega)
    rw [itemsR_snoc (List.getElem?_eq_getElem (show k < l.length by omega))]
    have := itemR_len (s := s) (key := key) (its := itemsR s key (l.take k)) (x := l[k])
    omega
theorem last_max {its : List Int} {i : Int} (hp : its.Pairwise fun a b : Int => a < b) (hi : i ∈ its) (hm : ∀ j ∈ its, j ≤ i) : its.getLast? = some i := by
  obtain ⟨a, b, rfl⟩ := List.append_of_mem hi
  cases b with
  | nil => simp
  | cons c r =>
    rw [List.pairwise_append, List.pairwise_cons] at hp
    have h1 := hp.2.1.1 c (by simp)
    have h2 := hm c (by simp)
    omega
theorem itemsR_all (s : Bool) (key : Int) : ∀ {l : List Live}, InOrder l → ∀ k, k ≤ l.length → (itemsR s key (l.take k)).Pairwise (fun a b : Int => a < b) ∧ ∀ i, i ∈ itemsR s key (l.take k) ↔ ∃ y ∈ l.take k, y.set = s ∧ y.key = key ∧ y.item = i
  | l, _, 0, _ => ⟨by simp [itemsR], fun i => by simp [itemsR]⟩
  | l, ho, k + 1, hk => by
    obtain ⟨h1, h2⟩ := itemsR_all s key ho k (by omega)
    have hx := List.getElem?_eq_getElem (show k < l.length by omega)
    obtain ⟨x, hxx⟩ : ∃ x, l[k]'(by omega) = x := ⟨_, rfl⟩
    rw [hxx] at hx
    rw [itemsR_snoc hx]
    have ht : l.take (k + 1) = l.take k ++ [x] := by rw [← hxx]; exact List.take_succ_eq_append_getElem (by omega)
    have hord : ∀ y ∈ l.take k, ahead y x := by
      have hp : (l.take (k + 1)).Pairwise ahead := List.Pairwise.sublist (List.take_sublist _ _) ho
      rw [ht, List.pairwise_append] at hp
      exact fun y hy => hp.2.2 y hy x (by simp)
    generalize itemsR s key (l.take k) = its at h1 h2
    have hmem : ∀ i, (∃ y ∈ l.take (k + 1), y.set = s ∧ y.key = key ∧ y.item = i) ↔ i ∈ its ∨ (x.set = s ∧ x.key = key ∧ x.item = i) := by
      intro i
      rw [h2, ht]
      constructor
      · rintro ⟨y, hy, hh⟩
        rcases List.mem_append.1 hy with hy | hy
        · exact .inl ⟨y, hy, hh⟩
        · rw [List.mem_singleton.1 hy] at hh
          exact .inr hh
      · rintro (⟨y, hy, hh⟩ | hh)
        · exact ⟨y, List.mem_append.2 (.inl hy), hh⟩
        · exact ⟨x, by simp, hh⟩
    have hle : x.set = s → x.key = key → ∀ i ∈ its, i ≤ x.item := by
      intro e1 e2 i hi
      obtain ⟨y, hy, f1, f2, f3⟩ := (h2 i).1 hi
      have := hord y hy
      unfold ahead at this
      rw [f1, f2, e1, e2] at this
      rw [← f3]
      cases s <;> simp at this <;> omega
    unfold itemR
    by_cases hc : x.set = s ∧ x.key = key
    · by_cases hin : x.item ∈ its
      · have hl := last_max h1 hin (hle hc.1 hc.2)
        rw [if_neg (fun hh => hh.2.2.elim (fun h => by rw [h] at hin; simp at hin) (fun h => h hl))]
        refine ⟨h1, fun i => ?_⟩
        rw [hmem]
        constructor
        · exact .inl
        · rintro (h | ⟨-, -, h⟩)
          · exact h
          · rw [← h]; exact hin
      · rw [if_pos ⟨hc.1, hc.2, by
          by_cases hn : its = []
          · exact .inl hn
          · exact .inr fun h => hin (List.mem_of_getLast? h)⟩]
        refine ⟨?_, fun i => ?_⟩
        · rw [List.pairwise_append]
          refine ⟨h1, by simp, fun a ha b hb => ?_⟩
          rw [List.mem_singleton.1 hb]
          have := hle hc.1 hc.2 a ha
          rcases Int.lt_or_eq_of_le this with h | h
          · exact h
          · exact absurd (h ▸ ha) hin
        · rw [hmem, List.mem_append, List.mem_singleton]
          constructor
          · rintro (h | h)
            · exact .inl h
            · exact .inr ⟨hc.1, hc.2, h.symm⟩
          · rintro (h | ⟨-, -, h⟩)
            · exact .inl h
            · exact .inr h.symm
    · rw [if_neg (fun h => hc ⟨h.1, h.2.1⟩)]
      refine ⟨h1, fun i => ?_⟩
      rw [hmem]
      constructor
      · exact .inl
      · rintro (h | ⟨e1, e2, -⟩)
        · exact h
        · exact absurd ⟨e1, e2⟩ hc
def cellsR (s : Bool) (l : List Live) : Nat → List (Int × List Int)
  | 0 => []
  | k + 1 => cellsR s l k ++ if itemsR s k l = [] then [] else [((k : Int), itemsR s k l)]
theorem cellsR_key {s : Bool} {l : List Live} : ∀ (k : Nat) (p : Int × List Int), p ∈ cellsR s l k → ∃ j : Nat, j < k ∧ p.1 = j ∧ p.2 = itemsR s j l ∧ p.2 ≠ []
  | 0, p, h => by simp [cellsR] at h
  | k + 1, p, h => by
    unfold cellsR at h
    rcases List.mem_append.1 h with h | h
    · obtain ⟨j, hj, hh⟩ := cellsR_key k p h
      exact ⟨j, by omega, hh⟩
    · split at h
      · simp at h
      · next hn => rw [List.mem_singleton.1 h]; exact ⟨k, by omega, rfl, rfl, hn⟩
theorem cellsR_in {s : Bool} {l : List Live} : ∀ (k : Nat) {j : Nat}, j < k → itemsR s j l ≠ [] → ((j : Int), itemsR s j l) ∈ cellsR s l k
  | 0, j, h, _ => by omega
  | k + 1, j, h, hn => by
    unfold cellsR
    rcases Nat.lt_or_ge j k with hlt | hge
    · exact List.mem_append.2 (.inl (cellsR_in k hlt hn))
    · obtain rfl : j = k := by omega
      exact List.mem_append.2 (.inr (by rw [if_neg hn]; simp))
theorem cellsR_ord {s : Bool} {l : List Live} : ∀ k, (cellsR s l k).Pairwise fun p q => p.1 < q.1
  | 0 => by simp [cellsR]
  | k + 1 => by
    unfold cellsR
    rw [List.pairwise_append]
    refine ⟨cellsR_ord k, by split <;> simp, fun p hp q hq => ?_⟩
    obtain ⟨j, hj, h1, -⟩ := cellsR_key k p hp
    split at hq
    · simp at hq
    · rw [List.mem_singleton.1 hq, h1]
      show (j : Int) < k
      omega
theorem cellsR_all {s : Bool} {l : List Live} (ho : InOrder l) (hk : ∀ x ∈ l, 0 ≤ x.key ∧ x.key ≤ 15) : cellsR s l 16 = cellsL s l [] := by
  have hI := fun (j : Nat) => itemsR_all s j ho l.length (Nat.le_refl _)
  simp only [List.take_length] at hI
  refine CI.ext (l := l) (m := l) (s := s) ⟨cellsR_ord 16, fun p hp => ?_, fun p hp => ?_, fun k i => ?_⟩ (cells_all s ho) fun _ _ => Iff.rfl
  · obtain ⟨j, -, -, -, h⟩ := cellsR_key 16 p hp
    exact h
  · obtain ⟨j, -, -, h, -⟩ := cellsR_key 16 p hp
    rw [h]
    exact (hI j).1
  · constructor
    · rintro ⟨p, hp, rfl, hi⟩
      obtain ⟨j, -, h1, h2, -⟩ := cellsR_key 16 p hp
      rw [h2] at hi
      rw [h1]
      exact ((hI j).2 i).1 hi
    · rintro ⟨x, hx, h1, rfl, h3⟩
      obtain ⟨k1, k2⟩ := hk x hx
      obtain ⟨j, hj⟩ : ∃ j : Nat, x.key = j := ⟨x.key.toNat, by omega⟩
      have hi : i ∈ itemsR s j l := ((hI j).2 i).2 ⟨x, hx, h1, hj, h3⟩
      exact ⟨_, cellsR_in 16 (j := j) (by omega) (fun h => by rw [h] at hi; simp at hi), hj.symm, hi⟩
/-- The counters, as the document's own answer gathers them. -/
def hitK (key : Int) (l : List Tal) : List Tal := l.filter fun t => decide (t.key = key)
def countR (l : List Tal) : Nat → List (Int × Int)
  | 0 => []
  | k + 1 => countR l k ++ if hitK k l = [] then [] else [((k : Int), sumK l k)]
theorem countR_key {l : List Tal} : ∀ (k : Nat) (p : Int × Int), p ∈ countR l k → ∃ j : Nat, j < k ∧ p = (↑j, sumK l j) ∧ hitK j l ≠ []
  | 0, p, h => by simp [countR] at h
  | k + 1, p, h => by
    unfold countR at h
    rcases List.mem_append.1 h with h | h
    · obtain ⟨j, hj, hh⟩ := countR_key k p h
      exact ⟨j, by omega, hh⟩
    · split at h
      · simp at h
      · next hn => exact ⟨k, by omega, List.mem_singleton.1 h, hn⟩
theorem countR_in {l : List Tal} : ∀ (k : Nat) {j : Nat}, j < k → hitK j l ≠ [] → ((j : Int), sumK l j) ∈ countR l k
  | 0, j, h, _ => by omega
  | k + 1, j, h, hn => by
    unfold countR
    rcases Nat.lt_or_ge j k with hlt | hge
    · exact List.mem_append.2 (.inl (countR_in k hlt hn))
    · obtain rfl : j = k := by omega
      exact List.mem_append.2 (.inr (by rw [if_neg hn]; simp))
theorem countR_ord {l : List Tal} : ∀ k, (countR l k).Pairwise fun p q => p.1 < q.1
  | 0 => by simp [countR]
  | k + 1 => by
    unfold countR
    rw [List.pairwise_append]
    refine ⟨countR_ord k, by split <;> simp, fun p hp q hq => ?_⟩
    obtain ⟨j, hj, h1, -⟩ := countR_key k p hp
    split at hq
    · simp at hq
    · rw [List.mem_singleton.1 hq, h1]
      show (j : Int) < k
      omega
theorem hitK_iff {key : Int} {l : List Tal} : hitK key l ≠ [] ↔ ∃ t ∈ l, t.key = key := by
  constructor
  · intro h
    obtain ⟨t, ht⟩ := List.exists_mem_of_ne_nil _ h
    obtain ⟨h1, h2⟩ := List.mem_filter.1 ht
    exact ⟨t, h1, of_decide_eq_true h2⟩
  · rintro ⟨t, ht, hk⟩ h
    have : t ∈ hitK key l := List.mem_filter.2 ⟨ht, decide_eq_true hk⟩
    rw [h] at this
    simp at this
theorem countR_all {l : List Tal} (ho : OrdT l) (hk : ∀ t ∈ l, 0 ≤ t.key ∧ t.key ≤ 15) : countR l 16 = countL l [] := by
  refine NI.ext (l := l) ⟨countR_ord 16, fun p hp => ?_, fun k => ?_⟩ (count_all ho)
  · obtain ⟨j, -, h, -⟩ := countR_key 16 p hp
    rw [h]
  · constructor
    · rintro ⟨p, hp, rfl⟩
      obtain ⟨j, -, h, hn⟩ := countR_key 16 p hp
      rw [h]
      exact hitK_iff.1 hn
    · rintro ⟨t, ht, rfl⟩
      obtain ⟨k1, k2⟩ := hk t ht
      obtain ⟨j, hj⟩ : ∃ j : Nat, t.key = j := ⟨t.key.toNat, by omega⟩
      exact ⟨_, countR_in 16 (j := j) (by omega) (hitK_iff.2 ⟨t, ht, hj⟩), hj.symm⟩
/-- Cells of the call's own, each with its items. -/
structure CellP (w : World) (B : Nat) (v : Value) (ps : List ((Int × List Int) × Value)) : Prop where
  row : w.ownsRow B 116 2 v ps.length (cellsS encP ps)
  items : ∀ p ∈ ps, Own w B p.2 p.1.2
theorem CellP.below {w w' : World} {B C : Nat} {v : Value} {ps : List ((Int × List Int) × Value)} (h : CellP w B v ps) (hb : Below C w w') (hC : w.heap.size ≤ C) : CellP w' B v ps := ⟨ownsRow_below h.row hb hC, fun p hp => (h.items p hp).below hb hC⟩
theorem CellP.nil (w : World) (B : Nat) : CellP w B (.slice none 0 0) [] := ⟨World.ownsRow_nil _ _ _ _, fun p hp => by simp at hp⟩
theorem CellP.more {w w' : World} {B : Nat} {v v' sv : Value} {ps : List ((Int × List Int) × Value)} {key : Int} {its : List Int} (h : CellP w B v ps) (hi : Own w B sv its) (hg : w.grownBy w' v.ownBlock) (ho : w'.ownsRow B 116 2 v' (ps.length + 1) (cellsS encP ps ++ encP ((key, its), sv))) : CellP w' B v' (ps ++ [((key, its), sv)]) := by
  refine ⟨?_, fun p hp => ?_⟩
  · have e : cellsS encP (ps ++ [((key, its), sv)]) = cellsS encP ps ++ encP ((key, its), sv) := by simp [cellsS]
    rw [e, List.length_append]
    exact ho
  · rcases List.mem_append.1 hp with hp | hp
    · exact own_grownT (h.items p hp) h.row hg (by decide)
    · rw [List.mem_singleton.1 hp]
      exact own_grownT hi h.row hg (by decide)
theorem CellP.base {w : World} {B C : Nat} {v : Value} {ps : List ((Int × List Int) × Value)} (h : CellP w B v ps) (hB : C ≤ B) : CellP w C v ps := ⟨ownsRow_base h.row hB, fun p hp => (h.items p hp).mono hB⟩
theorem CellP.read {w : World} {B : Nat} {v : Value} {ps : List ((Int × List Int) × Value)} (h : CellP w B v ps) : CellR w v (ps.map (·.1)) := by
  rcases own_ways h.row with ⟨rfl, rfl⟩ | ⟨g, cap, hv, -, hh, hn, hm⟩
  · exact CellR.nil w
  · refine ⟨some ⟨g, 0, Option.none⟩, cap, by rw [hv, List.length_map], by rw [List.length_map]; exact hn, hm, fun k c hc => ?_⟩
    rw [List.getElem?_map] at hc
    cases hp : ps[k]? with
    | none => rw [hp] at hc; cases hc
    | some p =>
      rw [hp] at hc
      simp only [Option.map_some, Option.some.injEq] at hc
      subst hc
      have e0 := hh.at encP_length (i := k) (x := p) hp (j := 0) rfl
      have e1 := hh.at encP_length (i := k) (x := p) hp (j := 1) rfl
      exact ⟨g, 0, p.2, rfl, by rw [Nat.zero_add]; exact e0, by rw [Nat.zero_add]; exact e1, (h.items p (List.mem_of_getElem? hp)).row⟩
theorem cellsR_len {s : Bool} {l : List Live} : ∀ k, (cellsR s l k).length ≤ k
  | 0 => by simp [cellsR]
  | k + 1 => by
    have := cellsR_len (s := s) (l := l) k
    unfold cellsR
    rw [List.length_append]
    split <;> simp <;> omega
theorem own_rowR {w : World} {B : Nat} {v : Value} {xs : List Int} (h : Own w B v xs) (hx : xs ≠ []) : ∃ g cap, v = .slice (some ⟨g, 0, none⟩) xs.length cap ∧ ∀ j, j < xs.length → w.cell? ⟨g, j, none⟩ = some (.int .i64 (xs.getD j 0)) := by
  obtain ⟨g, cap, rfl, -, -⟩ := h.block hx
  refine ⟨g, cap, rfl, fun j hj => ?_⟩
  rw [World.ownsRow.cellAt h j (by omega), List.getElem?_map, List.getD_eq_getElem?_getD, List.getElem?_eq_getElem hj]
  rfl
/-- What the document's own Read has so far: its variable 'v', and what that holds. -/
structure VI (W1 w : World) (B gv : Nat) (r1 r2 cv : Value) (p1 p2 : List ((Int × List Int) × Value)) (C : List (Int × Int)) : Prop where
  box : Box w gv [r1, r2, cv] 40
  c1 : CellP w B r1 p1
  c2 : CellP w B r2 p2
  cn : RowA 82 2 encC w B cv C
  bl : Below B W1 w
  ge : B ≤ gv
theorem CellP.setV {w : World} {B g : Nat} {v : Value} {ps : List ((Int × List Int) × Value)} {cs : List Value} (h : CellP w B v ps) (hb : Box w g cs 40) (i : Nat) (x : Value) : CellP (w.setCell ⟨g, i, none⟩ x) B v ps := ⟨row_setT h.row hb (by decide) i x, fun p hp => row_setT (h.items p hp) hb (by decide) i x⟩
theorem CellP.setF {w : World} {B g : Nat} {v : Value} {ps : List ((Int × List Int) × Value)} {cs : List Value} (h : CellP w B v ps) (hb : Box w g cs 31) (i : Nat) (x : Value) : CellP (w.setCell ⟨g, i, none⟩ x) B v ps := ⟨row_setT h.row hb (by decide) i x, fun p hp => row_setT (h.items p hp) hb (by decide) i x⟩
theorem CellP.grownC {w w' : World} {B C : Nat} {v u : Value} {ps : List ((Int × List Int) × Value)} {ys : List (Int × Int)} (h : CellP w B v ps) (hr : RowA 82 2 encC w C u ys) (hg : w.grownBy w' u.ownBlock) : CellP w' B v ps := ⟨own_grownT h.row hr hg (by decide), fun p hp => own_grownT (h.items p hp) hr hg (by decide)⟩
theorem CellP.slice {w : World} {B : Nat} {v : Value} {ps : List ((Int × List Int) × Value)} (h : CellP w B v ps) : ∃ a cap, v = .slice a ps.length cap := by
  rcases h.row.2 with ⟨rfl, h0⟩ | ⟨g, cap, cur, rfl, -⟩
  · exact ⟨none, 0, by rw [h0]⟩
  · exact ⟨_, _, rfl⟩
theorem box_grownR {w w' : World} {e t : TypeId} {sz n B g : Nat} {v : Value} {xs cs : List Value} (h : Box w g cs t) (hr : w.ownsRow B e sz v n xs) (hg : w.grownBy w' v.ownBlock) (hte : t ≠ e) : Box w' g cs t := by
  unfold Box
  rw [hg.block g h.lt (fun e => row_notBox hr h hte e.symm)]
  exact h
section
variable {W1 w w' : World} {B gv : Nat} {r1 r2 cv : Value} {p1 p2 : List ((Int × List Int) × Value)} {C : List (Int × Int)}
theorem VI.below (h : VI W1 w B gv r1 r2 cv p1 p2 C) (hb : Below w.heap.size w w') : VI W1 w' B gv r1 r2 cv p1 p2 C :=
  ⟨h.box.below hb (Nat.le_refl _), h.c1.below hb (Nat.le_refl _), h.c2.below hb (Nat.le_refl _), h.cn.below hb (Nat.le_refl _), h.bl.trans (hb.mono (Nat.le_trans h.ge (Nat.le_of_lt h.box.lt))), h.ge⟩
theorem VI.more (h : VI W1 w B gv r1 r2 cv p1 p2 C) (hg : w.grownBy w' cv.ownBlock) (hB : B ≤ w.heap.size) {v : Value} {M : List (Int × Int)} (hm : RowA 82 2 encC w' B v M) : Box w' gv [r1, r2, cv] 40 ∧ VI W1 (w'.setCell ⟨gv, 2, none⟩ v) B gv r1 r2 v p1 p2 M := by
  have hb := box_grownR h.box h.cn hg (by decide)
  refine ⟨hb, by have := hb.set 2 v; simpa using this, (h.c1.grownC h.cn hg).setV hb 2 v, (h.c2.grownC h.cn hg).setV hb 2 v, row_setT hm hb (by decide) 2 v, (h.bl.grown hg hB (fun g hgg => (World.ownsRow.lt h.cn g hgg).1)).setCell (p := ⟨gv, 2, none⟩) h.ge v, h.ge⟩
end
theorem hitK_snoc {key : Int} {l : List Tal} {k : Nat} {t : Tal} (h : l[k]? = some t) : hitK key (l.take (k + 1)) = (if t.key = key then hitK key (l.take k) ++ [t] else hitK key (l.take k)) ∧ sumK (l.take (k + 1)) key = sumK (l.take k) key + if t.key = key then t.sum else 0 := by
  obtain ⟨hk, rfl⟩ := List.getElem?_eq_some_iff.1 h
  rw [List.take_succ_eq_append_getElem hk]
  constructor
  · unfold hitK
    rw [List.filter_append]
    split
    · next h => simp [h]
    · next h => simp [h]
  · rw [sumK_append]
    congr 1
    unfold sumK
    simp [sumK]
theorem countR_len {l : List Tal} : ∀ k, (countR l k).length ≤ k
  | 0 => by simp [countR]
  | k + 1 => by
    have := countR_len (l := l) k
    unfold countR
    rw [List.length_append]
    split <;> simp <;> omega

set_option maxRecDepth 100000 in
set_option maxHeartbeats 4000000 in
theorem cells_ref4 (v : Value) (l : List Live) (s : Bool) (w : World) (h : SliceV 5 encL w v l) (hbig : l.length ≤ 400000000) :
    Calls Try.prog 44 #[v, .bool s] w fun e w' => ∃ rv, e = .returned rv ∧ ∃ ps, ps.map (·.1) = cellsR s l 16 ∧ CellP w' w.heap.size rv ps ∧ Below w.heap.size w w' := by
  obtain ⟨i0, hi, hz0, hz1, hz2⟩ := info_parts Try.infoInt
  obtain ⟨i1, hy, hy0, hy1, hy2⟩ := info_parts Try.infoCell
  have HL := hide h
  obtain ⟨a, cap, rfl, -, -, -⟩ := id h
  clear h
  go_enter Try.func44, Try.ntmps44
  go_wp2_with fail
  go_loopw [5, 6] (fun o q wr => ∃ (key : Nat) (ps : List ((Int × List Int) × Value)), key ≤ 16 ∧ q = .int .i64 key ∧ Hid (ps.map (·.1) = cellsR s l key) ∧ Hid (CellP wr w.heap.size o ps) ∧ Hid (Below w.heap.size w wr)) (fun _ q _ => 16 - (intOf q).toNat)
  case atStart => exact ⟨0, [], Nat.zero_le _, rfl, rfl, hide (CellP.nil _ _), hide (Below.refl _ _)⟩
  case round =>
    obtain ⟨key, ps, hkey, rfl, HP, C1, HB1⟩ := hrel
    obtain ⟨w1, rfl⟩ : ∃ w1, w1 = wr := ⟨wr, rfl⟩
    by_cases hk16 : key < 16
    · have hk16' : (key : Int) ≤ 15 := by omega
      go_wp2_with fail
      go_loopw [7, 16] (fun it q wr => ∃ j : Nat, j ≤ l.length ∧ q = .int .i64 j ∧ Hid (Own wr w1.heap.size it (itemsR s key (l.take j))) ∧ Hid (Below w1.heap.size w1 wr)) (fun _ q _ => l.length - (intOf q).toNat)
      case atStart => exact ⟨0, Nat.zero_le _, rfl, hide (own_none _ _), hide (Below.refl _ _)⟩
      case round =>
        obtain ⟨j, hj, rfl, O2, HB2⟩ := hrel
        obtain ⟨w2, rfl⟩ : ∃ w2, w2 = wr := ⟨wr, rfl⟩
        have HBW := hide (HB1.out.trans (HB2.out.mono HB1.out.size))
        obtain ⟨IT, HIT⟩ : ∃ IT, Hid (itemsR s key (l.take j) = IT) := ⟨_, rfl⟩
        have HIL : Hid (IT.length ≤ 400000000) := by unfold Hid; rw [← HIT.out]; have := itemsR_len (s := s) (key := key) (l := l) j hj; omega
        rw [HIT.out] at O2
        by_cases hlt : j < l.length
        · have hlt' : (j : Int) < (l.length : Int) := by omega
          obtain ⟨x, HX⟩ : ∃ x, Hid (l[j]? = some x) := ⟨_, List.getElem?_eq_getElem hlt⟩
          obtain ⟨xs, xk, xi, xu, xq⟩ := x
          have HSN := hide (itemsR_snoc (s := s) (key := key) HX.out)
          rw [HIT.out] at HSN
          obtain ⟨eb, eo, hea, d0, d1, d2, d3, d4⟩ := livesAt (HL.out.below HBW.out (Nat.le_refl _)) HX.out
          subst hea
          have hbp := Below.plus (Below.refl w2.heap.size w2) (.cells #[.bool xs, .int .i64 xk, .int .i64 xi, .int .i64 xu, .int .i64 xq] 52)
          have X3 := hide (Box.new w2 [.bool xs, .int .i64 xk, .int .i64 xi, .int .i64 xu, .int .i64 xq] 52)
          have O3 := hide (O2.out.below hbp (Nat.le_refl _))
          have HB3 := hide (below_step HB2.out hbp)
          obtain ⟨gx, HGX⟩ : ∃ gx, Hid (w2.heap.size = gx) := ⟨_, rfl⟩
          obtain ⟨w3, HW3⟩ : ∃ W, Hid (w2.alloc (.cells #[.bool xs, .int .i64 xk, .int .i64 xi, .int .i64 xu, .int .i64 xq] 52) = W) := ⟨_, rfl⟩
          rw [HW3.out] at X3 O3 HB3
          rw [HGX.out] at X3
          clear hbp O2 HB2
          go_upto_region 9 with fail
          rw [HW3.out, HGX.out]
          clear d0 d1 d2 d3 d4
          obtain ⟨N, HN⟩ : ∃ N, Hid (IT.length = N) := ⟨_, rfl⟩
          have hN9 : N ≤ 400000000 := by rw [← HN.out]; exact HIL.out
          obtain ⟨ia, ic, hia, -⟩ := O3.out.row
          by_cases hs : xs = s
          · have hs' : (xs == s) = true := by simp [hs]
            by_cases hk : xk = (key : Int)
            · have hk' : (xk == (key : Int)) = true := by simp [hk]
              by_cases hem : IT = []
              · skip
                have HYS : Hid ((⟨xs, xk, xi, xu, xq⟩ : Live).set = s ∧ (⟨xs, xk, xi, xu, xq⟩ : Live).key = key ∧ (IT = [] ∨ ¬ IT.getLast? = some (⟨xs, xk, xi, xu, xq⟩ : Live).item)) := ⟨hs, hk, .inl hem⟩
                have hl0 : IT.length = 0 := by rw [hem]; rfl
                rw [hl0] at hia
                subst hia
                clear hs hk hem hl0
                have HK : Hid (∀ w', Grew w3 w' → w'.cell? ⟨gx, 0, none⟩ = some (.bool xs) ∧ w'.cell? ⟨gx, 1, none⟩ = some (.int .i64 xk) ∧ w'.cell? ⟨gx, 2, none⟩ = some (.int .i64 xi) ∧ w'.cell? ⟨gx, 3, none⟩ = some (.int .i64 xu) ∧ w'.cell? ⟨gx, 4, none⟩ = some (.int .i64 xq)) := fun w' hg => ⟨(X3.out.below hg (Nat.le_refl _)).get 0 rfl, (X3.out.below hg (Nat.le_refl _)).get 1 rfl, (X3.out.below hg (Nat.le_refl _)).get 2 rfl, (X3.out.below hg (Nat.le_refl _)).get 3 rfl, (X3.out.below hg (Nat.le_refl _)).get 4 rfl⟩
                go_cut [45] (fun c wx => c = .bool true ∧ Hid (Grew w3 wx))
                case first =>
                  refine wp_region_held_drew (S := fun w' => w'.cell? ⟨gx, 0, none⟩ = some (.bool xs) ∧ w'.cell? ⟨gx, 1, none⟩ = some (.int .i64 xk) ∧ w'.cell? ⟨gx, 2, none⟩ = some (.int .i64 xi) ∧ w'.cell? ⟨gx, 3, none⟩ = some (.int .i64 xu) ∧ w'.cell? ⟨gx, 4, none⟩ = some (.int .i64 xq)) (by kernel_rfl) (HK.out _ (grew_drew (grew_refl _))) (fun hHeld => ?_)
                  obtain ⟨wd, HWD⟩ : ∃ wd, Hid (w3.drew = wd) := ⟨_, rfl⟩
                  have hgd : Grew w3 wd := by rw [← HWD.out]; exact grew_drew (grew_refl w3)
                  rw [HWD.out] at hHeld ⊢
                  refine take_yes 0 20 (.pointer (some ⟨gx, 0, none⟩)) rfl rfl (by kernel_rfl) (by kernel_rfl) (by kernel_rfl) (fun _ _ _ h => h) rfl (by intro w hSw; (try dsimp only at hSw); go_simp) (by assumption) ?_
                  simp only [Act.put, List.setIfInBounds_toArray, List.set_cons_zero, List.set_cons_succ]
                  refine take_yes 1 21 (.bool xs) rfl rfl (by kernel_rfl) (by kernel_rfl) (by kernel_rfl) (fun _ _ _ h => h) rfl (by intro w hSw; (try dsimp only at hSw); go_simp) (by assumption) ?_
                  simp only [Act.put, List.setIfInBounds_toArray, List.set_cons_zero, List.set_cons_succ]
                  refine take_yes 2 22 (.bool s) rfl rfl (by kernel_rfl) (by kernel_rfl) (by kernel_rfl) (fun _ _ _ h => h) rfl (by intro w hSw; (try dsimp only at hSw); go_simp) (by assumption) ?_
                  simp only [Act.put, List.setIfInBounds_toArray, List.set_cons_zero, List.set_cons_succ]
                  refine take_yes 3 23 (.bool true) rfl rfl (by kernel_rfl) (by kernel_rfl) (by kernel_rfl) (fun _ _ _ h => h) rfl (by intro w hSw; (try dsimp only at hSw); go_simp) (by assumption) ?_
                  simp only [Act.put, List.setIfInBounds_toArray, List.set_cons_zero, List.set_cons_succ]
                  refine take_yes 4 24 (.bool true) rfl rfl (by kernel_rfl) (by kernel_rfl) (by kernel_rfl) (fun _ _ _ h => h) rfl (by intro w hSw; (try dsimp only at hSw); go_simp) (by assumption) ?_
                  simp only [Act.put, List.setIfInBounds_toArray, List.set_cons_zero, List.set_cons_succ]
                  refine take_yes 5 25 (.pointer (some ⟨gx, 1, none⟩)) rfl rfl (by kernel_rfl) (by kernel_rfl) (by kernel_rfl) (fun _ _ _ h => h) rfl (by intro w hSw; (try dsimp only at hSw); go_simp) (by assumption) ?_
                  simp only [Act.put, List.setIfInBounds_toArray, List.set_cons_zero, List.set_cons_succ]
                  refine take_yes 6 26 (.int .i64 xk) rfl rfl (by kernel_rfl) (by kernel_rfl) (by kernel_rfl) (fun _ _ _ h => h) rfl (by intro w hSw; (try dsimp only at hSw); go_simp) (by assumption) ?_
                  simp only [Act.put, List.setIfInBounds_toArray, List.set_cons_zero, List.set_cons_succ]
                  refine take_yes 7 27 (.int .i64 (key : Int)) rfl rfl (by kernel_rfl) (by kernel_rfl) (by kernel_rfl) (fun _ _ _ h => h) rfl (by intro w hSw; (try dsimp only at hSw); go_simp) (by assumption) ?_
                  simp only [Act.put, List.setIfInBounds_toArray, List.set_cons_zero, List.set_cons_succ]
                  refine take_yes 8 28 (.bool true) rfl rfl (by kernel_rfl) (by kernel_rfl) (by kernel_rfl) (fun _ _ _ h => h) rfl (by intro w hSw; (try dsimp only at hSw); go_simp) (by assumption) ?_
                  simp only [Act.put, List.setIfInBounds_toArray, List.set_cons_zero, List.set_cons_succ]
                  refine take_yes 9 29 (.bool true) rfl rfl (by kernel_rfl) (by kernel_rfl) (by kernel_rfl) (fun _ _ _ h => h) rfl (by intro w hSw; (try dsimp only at hSw); go_simp) (by assumption) ?_
                  simp only [Act.put, List.setIfInBounds_toArray, List.set_cons_zero, List.set_cons_succ]
                  refine take_yes 10 30 (.bool true) rfl rfl (by kernel_rfl) (by kernel_rfl) (by kernel_rfl) (fun _ _ _ h => h) rfl (by intro w hSw; (try dsimp only at hSw); go_simp) (by assumption) ?_
                  simp only [Act.put, List.setIfInBounds_toArray, List.set_cons_zero, List.set_cons_succ]
                  refine take_yes 11 31 (.slice ia 0 ic) rfl rfl (by kernel_rfl) (by kernel_rfl) (by kernel_rfl) (fun _ _ _ h => h) rfl (by intro w hSw; (try dsimp only at hSw); go_simp) (by assumption) ?_
                  simp only [Act.put, List.setIfInBounds_toArray, List.set_cons_zero, List.set_cons_succ]
                  refine take_yes 12 32 (.int .i64 0) rfl rfl (by kernel_rfl) (by kernel_rfl) (by kernel_rfl) (fun _ _ _ h => h) rfl (by intro w hSw; (try dsimp only at hSw); go_simp) (by assumption) ?_
                  simp only [Act.put, List.setIfInBounds_toArray, List.set_cons_zero, List.set_cons_succ]
                  refine take_yes 13 33 (.bool true) rfl rfl (by kernel_rfl) (by kernel_rfl) (by kernel_rfl) (fun _ _ _ h => h) rfl (by intro w hSw; (try dsimp only at hSw); go_simp) (by assumption) ?_
                  simp only [Act.put, List.setIfInBounds_toArray, List.set_cons_zero, List.set_cons_succ]
                  refine take_yes 14 34 (.bool true) rfl rfl (by kernel_rfl) (by kernel_rfl) (by kernel_rfl) (fun _ _ _ h => h) rfl (by intro w hSw; (try dsimp only at hSw); go_simp) (by assumption) ?_
                  simp only [Act.put, List.setIfInBounds_toArray, List.set_cons_zero, List.set_cons_succ]
                  refine take_skip 15 35 rfl rfl (by kernel_rfl) (by kernel_rfl) (by kernel_rfl) (fun _ _ _ h => h) rfl (by assumption) ?_
                  simp only [Act.put, List.setIfInBounds_toArray, List.set_cons_zero, List.set_cons_succ]
                  refine take_skip 16 36 rfl rfl (by kernel_rfl) (by kernel_rfl) (by kernel_rfl) (fun _ _ _ h => h) rfl (by assumption) ?_
                  simp only [Act.put, List.setIfInBounds_toArray, List.set_cons_zero, List.set_cons_succ]
                  refine take_skip 17 37 rfl rfl (by kernel_rfl) (by kernel_rfl) (by kernel_rfl) (fun _ _ _ h => h) rfl (by assumption) ?_
                  simp only [Act.put, List.setIfInBounds_toArray, List.set_cons_zero, List.set_cons_succ]
                  refine take_skip 18 38 rfl rfl (by kernel_rfl) (by kernel_rfl) (by kernel_rfl) (fun _ _ _ h => h) rfl (by assumption) ?_
                  simp only [Act.put, List.setIfInBounds_toArray, List.set_cons_zero, List.set_cons_succ]
                  refine take_skip 19 39 rfl rfl (by kernel_rfl) (by kernel_rfl) (by kernel_rfl) (fun _ _ _ h => h) rfl (by assumption) ?_
                  simp only [Act.put, List.setIfInBounds_toArray, List.set_cons_zero, List.set_cons_succ]
                  refine take_skip 20 40 rfl rfl (by kernel_rfl) (by kernel_rfl) (by kernel_rfl) (fun _ _ _ h => h) rfl (by assumption) ?_
                  simp only [Act.put, List.setIfInBounds_toArray, List.set_cons_zero, List.set_cons_succ]
                  refine take_skip 21 41 rfl rfl (by kernel_rfl) (by kernel_rfl) (by kernel_rfl) (fun _ _ _ h => h) rfl (by assumption) ?_
                  simp only [Act.put, List.setIfInBounds_toArray, List.set_cons_zero, List.set_cons_succ]
                  refine take_skip 22 42 rfl rfl (by kernel_rfl) (by kernel_rfl) (by kernel_rfl) (fun _ _ _ h => h) rfl (by assumption) ?_
                  simp only [Act.put, List.setIfInBounds_toArray, List.set_cons_zero, List.set_cons_succ]
                  refine take_skip 23 43 rfl rfl (by kernel_rfl) (by kernel_rfl) (by kernel_rfl) (fun _ _ _ h => h) rfl (by assumption) ?_
                  simp only [Act.put, List.setIfInBounds_toArray, List.set_cons_zero, List.set_cons_succ]
                  refine take_yes 24 44 (.bool true) rfl rfl (by kernel_rfl) (by kernel_rfl) (by kernel_rfl) (fun _ _ _ h => h) rfl (by intro w hSw; (try dsimp only at hSw); go_simp) (by assumption) ?_
                  simp only [Act.put, List.setIfInBounds_toArray, List.set_cons_zero, List.set_cons_succ]
                  refine take_yes 25 45 (.bool true) rfl rfl (by kernel_rfl) (by kernel_rfl) (by kernel_rfl) (fun _ _ _ h => h) rfl (by intro w hSw; (try dsimp only at hSw); go_simp) (by assumption) ?_
                  simp only [Act.put, List.setIfInBounds_toArray, List.set_cons_zero, List.set_cons_succ]
                  refine wpAnyH_done (by kernel_rfl) ?_ _
                  go_wp2_with fail
                  go_meet
                  exact ⟨rfl, hgd⟩
                case rest =>
                  obtain ⟨rfl, HGR⟩ := hcut
                  obtain ⟨w4, rfl⟩ : ∃ w4, w4 = wc := ⟨wc, rfl⟩
                  have O4 := hide (O3.out.below HGR.out (Nat.le_refl _))
                  have X4 := hide (X3.out.below HGR.out (Nat.le_refl _))
                  have HB4 := hide (below_step HB3.out HGR.out)
                  clear O3 X3 HB3 HGR HK
                  have HS1 : Hid (itemsR s key (l.take (j + 1)) = IT ++ [xi]) := by unfold Hid; rw [HSN.out]; unfold itemR; exact if_pos HYS.out
                  have x2 := X4.out.get 2 rfl
                  have HSB := hide HB4.out.size
                  go_wp2_with (at_builtin; refine wpList_append_own _ rfl (.tmp 46) (.tmp 49) 22 rfl w1.heap.size 3 i0 (.int .i64 0) 1 8 Try.underlying22 hi hz0 hz1 hz2 rfl (by decide) _ _ _ rfl (O4.out.below ((Below.refl w4.heap.size w4).alloc (Nat.le_refl _) _) (Nat.le_refl _)) ⟨w4.heap.size, 0, none⟩ 1 1 [.int .i64 xi] rfl rfl ?p1 ?p2 ?p3 ?p4 ?p5 ?_)
                  case p2 => rfl
                  case p3 => unfold maxLen; have := HIL.out; omega
                  case p4 => have := HIL.out; omega
                  case p5 => have := HSB.out; simp; omega
                  intro v' w5 hown' hgrow _
                  have O5 : Hid (Own w5 w1.heap.size v' (IT ++ [xi])) := by
                    unfold Hid Own
                    rw [List.length_append, List.map_append]
                    exact hown'
                  have HB5 := hide (HB4.out.trans (((Below.refl w1.heap.size w4).alloc HSB.out _).grown hgrow (by have := HSB.out; simp; omega) (fun g hg => (World.ownsRow.lt O4.out g hg).1)))
                  clear hown' hgrow x2
                  go_wp2_with fail
                  go_roundw
                  case rel => exact ⟨j + 1, by omega, by go_num, by rw [HS1.out]; exact O5, HB5⟩
                  case measure => simp [intOf]; omega
              · obtain ⟨gi, ic', hgi, hcl⟩ := own_rowR O3.out hem
                rw [hia] at hgi
                simp only [Value.slice.injEq, true_and] at hgi
                obtain ⟨hgi, hic⟩ := hgi
                subst hgi
                rw [HN.out] at hia
                subst hia
                have hN0 : 0 < N := by rw [← HN.out]; exact List.length_pos_iff.2 hem
                have hN1 : (N : Int) - 1 < (N : Int) := by omega
                have hN2 : ¬ (N : Int) < 1 := by omega
                have hN3 : ¬ N = 0 := by omega
                have hwr : IntKind.i64.wrap ((N : Int) - 1) = (N : Int) - 1 := wrapL (by omega) (by omega)
                obtain ⟨yl, HYL⟩ : ∃ yl, Hid (IT.getD (N - 1) 0 = yl) := ⟨_, rfl⟩
                have kl : w3.cell? ⟨gi, N - 1, none⟩ = some (.int .i64 yl) := by
                  rw [← HYL.out]
                  exact hcl (N - 1) (by rw [HN.out]; omega)
                have HLA : Hid (IT.getLast? = some yl) := by
                  unfold Hid
                  rw [List.getLast?_eq_getElem?, HN.out, ← HYL.out, List.getD_eq_getElem?_getD, List.getElem?_eq_getElem (by rw [HN.out]; omega)]
                  rfl
                clear hcl hic
                by_cases hla : yl = xi
                · have hla' : (yl != xi) = false := by simp [hla]
                  have HNO : Hid (¬ ((⟨xs, xk, xi, xu, xq⟩ : Live).set = s ∧ (⟨xs, xk, xi, xu, xq⟩ : Live).key = key ∧ (IT = [] ∨ ¬ IT.getLast? = some (⟨xs, xk, xi, xu, xq⟩ : Live).item))) := fun hh => hh.2.2.elim hem (fun h => h (by rw [HLA.out, hla]))
                  clear hs hk hem hla
                  have HK : Hid (∀ w', Grew w3 w' → w'.cell? ⟨gx, 0, none⟩ = some (.bool xs) ∧ w'.cell? ⟨gx, 1, none⟩ = some (.int .i64 xk) ∧ w'.cell? ⟨gx, 2, none⟩ = some (.int .i64 xi) ∧ w'.cell? ⟨gx, 3, none⟩ = some (.int .i64 xu) ∧ w'.cell? ⟨gx, 4, none⟩ = some (.int .i64 xq) ∧ w'.cell? ⟨gi, N - 1, none⟩ = some (.int .i64 yl)) := fun w' hg => ⟨(X3.out.below hg (Nat.le_refl _)).get 0 rfl, (X3.out.below hg (Nat.le_refl _)).get 1 rfl, (X3.out.below hg (Nat.le_refl _)).get 2 rfl, (X3.out.below hg (Nat.le_refl _)).get 3 rfl, (X3.out.below hg (Nat.le_refl _)).get 4 rfl, cell_grewR hg kl⟩
                  go_cut [45] (fun c wx => c = .bool false ∧ Hid (Grew w3 wx))
                  case first =>
                    refine wp_region_held_drew (S := fun w' => w'.cell? ⟨gx, 0, none⟩ = some (.bool xs) ∧ w'.cell? ⟨gx, 1, none⟩ = some (.int .i64 xk) ∧ w'.cell? ⟨gx, 2, none⟩ = some (.int .i64 xi) ∧ w'.cell? ⟨gx, 3, none⟩ = some (.int .i64 xu) ∧ w'.cell? ⟨gx, 4, none⟩ = some (.int .i64 xq) ∧ w'.cell? ⟨gi, N - 1, none⟩ = some (.int .i64 yl)) (by kernel_rfl) (HK.out _ (grew_drew (grew_refl _))) (fun hHeld => ?_)
                    obtain ⟨wd, HWD⟩ : ∃ wd, Hid (w3.drew = wd) := ⟨_, rfl⟩
                    have hgd : Grew w3 wd := by rw [← HWD.out]; exact grew_drew (grew_refl w3)
                    rw [HWD.out] at hHeld ⊢
                    refine take_yes 0 20 (.pointer (some ⟨gx, 0, none⟩)) rfl rfl (by kernel_rfl) (by kernel_rfl) (by kernel_rfl) (fun _ _ _ h => h) rfl (by intro w hSw; (try dsimp only at hSw); go_simp) (by assumption) ?_
                    simp only [Act.put, List.setIfInBounds_toArray, List.set_cons_zero, List.set_cons_succ]
                    refine take_yes 1 21 (.bool xs) rfl rfl (by kernel_rfl) (by kernel_rfl) (by kernel_rfl) (fun _ _ _ h => h) rfl (by intro w hSw; (try dsimp only at hSw); go_simp) (by assumption) ?_
                    simp only [Act.put, List.setIfInBounds_toArray, List.set_cons_zero, List.set_cons_succ]
                    refine take_yes 2 22 (.bool s) rfl rfl (by kernel_rfl) (by kernel_rfl) (by kernel_rfl) (fun _ _ _ h => h) rfl (by intro w hSw; (try dsimp only at hSw); go_simp) (by assumption) ?_
                    simp only [Act.put, List.setIfInBounds_toArray, List.set_cons_zero, List.set_cons_succ]
                    refine take_yes 3 23 (.bool true) rfl rfl (by kernel_rfl) (by kernel_rfl) (by kernel_rfl) (fun _ _ _ h => h) rfl (by intro w hSw; (try dsimp only at hSw); go_simp) (by assumption) ?_
                    simp only [Act.put, List.setIfInBounds_toArray, List.set_cons_zero, List.set_cons_succ]
                    refine take_yes 4 24 (.bool true) rfl rfl (by kernel_rfl) (by kernel_rfl) (by kernel_rfl) (fun _ _ _ h => h) rfl (by intro w hSw; (try dsimp only at hSw); go_simp) (by assumption) ?_
                    simp only [Act.put, List.setIfInBounds_toArray, List.set_cons_zero, List.set_cons_succ]
                    refine take_yes 5 25 (.pointer (some ⟨gx, 1, none⟩)) rfl rfl (by kernel_rfl) (by kernel_rfl) (by kernel_rfl) (fun _ _ _ h => h) rfl (by intro w hSw; (try dsimp only at hSw); go_simp) (by assumption) ?_
                    simp only [Act.put, List.setIfInBounds_toArray, List.set_cons_zero, List.set_cons_succ]
                    refine take_yes 6 26 (.int .i64 xk) rfl rfl (by kernel_rfl) (by kernel_rfl) (by kernel_rfl) (fun _ _ _ h => h) rfl (by intro w hSw; (try dsimp only at hSw); go_simp) (by assumption) ?_
                    simp only [Act.put, List.setIfInBounds_toArray, List.set_cons_zero, List.set_cons_succ]
                    refine take_yes 7 27 (.int .i64 (key : Int)) rfl rfl (by kernel_rfl) (by kernel_rfl) (by kernel_rfl) (fun _ _ _ h => h) rfl (by intro w hSw; (try dsimp only at hSw); go_simp) (by assumption) ?_
                    simp only [Act.put, List.setIfInBounds_toArray, List.set_cons_zero, List.set_cons_succ]
                    refine take_yes 8 28 (.bool true) rfl rfl (by kernel_rfl) (by kernel_rfl) (by kernel_rfl) (fun _ _ _ h => h) rfl (by intro w hSw; (try dsimp only at hSw); go_simp) (by assumption) ?_
                    simp only [Act.put, List.setIfInBounds_toArray, List.set_cons_zero, List.set_cons_succ]
                    refine take_yes 9 29 (.bool true) rfl rfl (by kernel_rfl) (by kernel_rfl) (by kernel_rfl) (fun _ _ _ h => h) rfl (by intro w hSw; (try dsimp only at hSw); go_simp) (by assumption) ?_
                    simp only [Act.put, List.setIfInBounds_toArray, List.set_cons_zero, List.set_cons_succ]
                    refine take_yes 10 30 (.bool true) rfl rfl (by kernel_rfl) (by kernel_rfl) (by kernel_rfl) (fun _ _ _ h => h) rfl (by intro w hSw; (try dsimp only at hSw); go_simp) (by assumption) ?_
                    simp only [Act.put, List.setIfInBounds_toArray, List.set_cons_zero, List.set_cons_succ]
                    refine take_yes 11 31 (.slice (some ⟨gi, 0, none⟩) N ic) rfl rfl (by kernel_rfl) (by kernel_rfl) (by kernel_rfl) (fun _ _ _ h => h) rfl (by intro w hSw; (try dsimp only at hSw); go_simp) (by assumption) ?_
                    simp only [Act.put, List.setIfInBounds_toArray, List.set_cons_zero, List.set_cons_succ]
                    refine take_yes 12 32 (.int .i64 N) rfl rfl (by kernel_rfl) (by kernel_rfl) (by kernel_rfl) (fun _ _ _ h => h) rfl (by intro w hSw; (try dsimp only at hSw); go_simp) (by assumption) ?_
                    simp only [Act.put, List.setIfInBounds_toArray, List.set_cons_zero, List.set_cons_succ]
                    refine take_yes 13 33 (.bool false) rfl rfl (by kernel_rfl) (by kernel_rfl) (by kernel_rfl) (fun _ _ _ h => h) rfl (by intro w hSw; (try dsimp only at hSw); go_simp) (by assumption) ?_
                    simp only [Act.put, List.setIfInBounds_toArray, List.set_cons_zero, List.set_cons_succ]
                    refine take_yes 14 34 (.bool false) rfl rfl (by kernel_rfl) (by kernel_rfl) (by kernel_rfl) (fun _ _ _ h => h) rfl (by intro w hSw; (try dsimp only at hSw); go_simp) (by assumption) ?_
                    simp only [Act.put, List.setIfInBounds_toArray, List.set_cons_zero, List.set_cons_succ]
                    refine take_yes 15 35 (.slice (some ⟨gi, 0, none⟩) N ic) rfl rfl (by kernel_rfl) (by kernel_rfl) (by kernel_rfl) (fun _ _ _ h => h) rfl (by intro w hSw; (try dsimp only at hSw); go_simp) (by assumption) ?_
                    simp only [Act.put, List.setIfInBounds_toArray, List.set_cons_zero, List.set_cons_succ]
                    refine take_yes 16 36 (.slice (some ⟨gi, 0, none⟩) N ic) rfl rfl (by kernel_rfl) (by kernel_rfl) (by kernel_rfl) (fun _ _ _ h => h) rfl (by intro w hSw; (try dsimp only at hSw); go_simp) (by assumption) ?_
                    simp only [Act.put, List.setIfInBounds_toArray, List.set_cons_zero, List.set_cons_succ]
                    refine take_yes 17 37 (.int .i64 N) rfl rfl (by kernel_rfl) (by kernel_rfl) (by kernel_rfl) (fun _ _ _ h => h) rfl (by intro w hSw; (try dsimp only at hSw); go_simp) (by assumption) ?_
                    simp only [Act.put, List.setIfInBounds_toArray, List.set_cons_zero, List.set_cons_succ]
                    refine take_yes 18 38 (.int .i64 ((N : Int) - 1)) rfl rfl (by kernel_rfl) (by kernel_rfl) (by kernel_rfl) (fun _ _ _ h => h) rfl (by intro w hSw; (try dsimp only at hSw); go_simp) (by assumption) ?_
                    simp only [Act.put, List.setIfInBounds_toArray, List.set_cons_zero, List.set_cons_succ]
                    refine take_yes 19 39 (.pointer (some ⟨gi, N - 1, none⟩)) rfl rfl (by kernel_rfl) (by kernel_rfl) (by kernel_rfl) (fun _ _ _ h => h) rfl (by intro w hSw; (try dsimp only at hSw); go_simp) (by assumption) ?_
                    simp only [Act.put, List.setIfInBounds_toArray, List.set_cons_zero, List.set_cons_succ]
                    refine take_yes 20 40 (.int .i64 yl) rfl rfl (by kernel_rfl) (by kernel_rfl) (by kernel_rfl) (fun _ _ _ h => h) rfl (by intro w hSw; (try dsimp only at hSw); go_simp) (by assumption) ?_
                    simp only [Act.put, List.setIfInBounds_toArray, List.set_cons_zero, List.set_cons_succ]
                    refine take_yes 21 41 (.pointer (some ⟨gx, 2, none⟩)) rfl rfl (by kernel_rfl) (by kernel_rfl) (by kernel_rfl) (fun _ _ _ h => h) rfl (by intro w hSw; (try dsimp only at hSw); go_simp) (by assumption) ?_
                    simp only [Act.put, List.setIfInBounds_toArray, List.set_cons_zero, List.set_cons_succ]
                    refine take_yes 22 42 (.int .i64 xi) rfl rfl (by kernel_rfl) (by kernel_rfl) (by kernel_rfl) (fun _ _ _ h => h) rfl (by intro w hSw; (try dsimp only at hSw); go_simp) (by assumption) ?_
                    simp only [Act.put, List.setIfInBounds_toArray, List.set_cons_zero, List.set_cons_succ]
                    refine take_yes 23 43 (.bool false) rfl rfl (by kernel_rfl) (by kernel_rfl) (by kernel_rfl) (fun _ _ _ h => h) rfl (by intro w hSw; (try dsimp only at hSw); go_simp) (by assumption) ?_
                    simp only [Act.put, List.setIfInBounds_toArray, List.set_cons_zero, List.set_cons_succ]
                    refine take_yes 24 44 (.bool false) rfl rfl (by kernel_rfl) (by kernel_rfl) (by kernel_rfl) (fun _ _ _ h => h) rfl (by intro w hSw; (try dsimp only at hSw); go_simp) (by assumption) ?_
                    simp only [Act.put, List.setIfInBounds_toArray, List.set_cons_zero, List.set_cons_succ]
                    refine take_yes 25 45 (.bool false) rfl rfl (by kernel_rfl) (by kernel_rfl) (by kernel_rfl) (fun _ _ _ h => h) rfl (by intro w hSw; (try dsimp only at hSw); go_simp) (by assumption) ?_
                    simp only [Act.put, List.setIfInBounds_toArray, List.set_cons_zero, List.set_cons_succ]
                    refine wpAnyH_done (by kernel_rfl) ?_ _
                    go_wp2_with fail
                    go_meet
                    exact ⟨rfl, hgd⟩
                  case rest =>
                    obtain ⟨rfl, HGR⟩ := hcut
                    obtain ⟨w4, rfl⟩ : ∃ w4, w4 = wc := ⟨wc, rfl⟩
                    have O4 := hide (O3.out.below HGR.out (Nat.le_refl _))
                    have X4 := hide (X3.out.below HGR.out (Nat.le_refl _))
                    have HB4 := hide (below_step HB3.out HGR.out)
                    clear O3 X3 HB3 HGR HK
                    have HS1 : Hid (itemsR s key (l.take (j + 1)) = IT) := by unfold Hid; rw [HSN.out]; unfold itemR; exact if_neg HNO.out
                    go_wp2_with fail
                    go_roundw
                    case rel => exact ⟨j + 1, by omega, by go_num, by rw [HS1.out]; exact O4, HB4⟩
                    case measure => simp [intOf]; omega
                · have hla' : (yl != xi) = true := by simp [hla]
                  have HYS : Hid ((⟨xs, xk, xi, xu, xq⟩ : Live).set = s ∧ (⟨xs, xk, xi, xu, xq⟩ : Live).key = key ∧ (IT = [] ∨ ¬ IT.getLast? = some (⟨xs, xk, xi, xu, xq⟩ : Live).item)) := ⟨hs, hk, .inr (fun h => hla (by rw [HLA.out] at h; exact Option.some.inj h))⟩
                  clear hs hk hem hla
                  have HK : Hid (∀ w', Grew w3 w' → w'.cell? ⟨gx, 0, none⟩ = some (.bool xs) ∧ w'.cell? ⟨gx, 1, none⟩ = some (.int .i64 xk) ∧ w'.cell? ⟨gx, 2, none⟩ = some (.int .i64 xi) ∧ w'.cell? ⟨gx, 3, none⟩ = some (.int .i64 xu) ∧ w'.cell? ⟨gx, 4, none⟩ = some (.int .i64 xq) ∧ w'.cell? ⟨gi, N - 1, none⟩ = some (.int .i64 yl)) := fun w' hg => ⟨(X3.out.below hg (Nat.le_refl _)).get 0 rfl, (X3.out.below hg (Nat.le_refl _)).get 1 rfl, (X3.out.below hg (Nat.le_refl _)).get 2 rfl, (X3.out.below hg (Nat.le_refl _)).get 3 rfl, (X3.out.below hg (Nat.le_refl _)).get 4 rfl, cell_grewR hg kl⟩
                  go_cut [45] (fun c wx => c = .bool true ∧ Hid (Grew w3 wx))
                  case first =>
                    refine wp_region_held_drew (S := fun w' => w'.cell? ⟨gx, 0, none⟩ = some (.bool xs) ∧ w'.cell? ⟨gx, 1, none⟩ = some (.int .i64 xk) ∧ w'.cell? ⟨gx, 2, none⟩ = some (.int .i64 xi) ∧ w'.cell? ⟨gx, 3, none⟩ = some (.int .i64 xu) ∧ w'.cell? ⟨gx, 4, none⟩ = some (.int .i64 xq) ∧ w'.cell? ⟨gi, N - 1, none⟩ = some (.int .i64 yl)) (by kernel_rfl) (HK.out _ (grew_drew (grew_refl _))) (fun hHeld => ?_)
                    obtain ⟨wd, HWD⟩ : ∃ wd, Hid (w3.drew = wd) := ⟨_, rfl⟩
                    have hgd : Grew w3 wd := by rw [← HWD.out]; exact grew_drew (grew_refl w3)
                    rw [HWD.out] at hHeld ⊢
                    refine take_yes 0 20 (.pointer (some ⟨gx, 0, none⟩)) rfl rfl (by kernel_rfl) (by kernel_rfl) (by kernel_rfl) (fun _ _ _ h => h) rfl (by intro w hSw; (try dsimp only at hSw); go_simp) (by assumption) ?_
                    simp only [Act.put, List.setIfInBounds_toArray, List.set_cons_zero, List.set_cons_succ]
                    refine take_yes 1 21 (.bool xs) rfl rfl (by kernel_rfl) (by kernel_rfl) (by kernel_rfl) (fun _ _ _ h => h) rfl (by intro w hSw; (try dsimp only at hSw); go_simp) (by assumption) ?_
                    simp only [Act.put, List.setIfInBounds_toArray, List.set_cons_zero, List.set_cons_succ]
                    refine take_yes 2 22 (.bool s) rfl rfl (by kernel_rfl) (by kernel_rfl) (by kernel_rfl) (fun _ _ _ h => h) rfl (by intro w hSw; (try dsimp only at hSw); go_simp) (by assumption) ?_
                    simp only [Act.put, List.setIfInBounds_toArray, List.set_cons_zero, List.set_cons_succ]
                    refine take_yes 3 23 (.bool true) rfl rfl (by kernel_rfl) (by kernel_rfl) (by kernel_rfl) (fun _ _ _ h => h) rfl (by intro w hSw; (try dsimp only at hSw); go_simp) (by assumption) ?_
                    simp only [Act.put, List.setIfInBounds_toArray, List.set_cons_zero, List.set_cons_succ]
                    refine take_yes 4 24 (.bool true) rfl rfl (by kernel_rfl) (by kernel_rfl) (by kernel_rfl) (fun _ _ _ h => h) rfl (by intro w hSw; (try dsimp only at hSw); go_simp) (by assumption) ?_
                    simp only [Act.put, List.setIfInBounds_toArray, List.set_cons_zero, List.set_cons_succ]
                    refine take_yes 5 25 (.pointer (some ⟨gx, 1, none⟩)) rfl rfl (by kernel_rfl) (by kernel_rfl) (by kernel_rfl) (fun _ _ _ h => h) rfl (by intro w hSw; (try dsimp only at hSw); go_simp) (by assumption) ?_
                    simp only [Act.put, List.setIfInBounds_toArray, List.set_cons_zero, List.set_cons_succ]
                    refine take_yes 6 26 (.int .i64 xk) rfl rfl (by kernel_rfl) (by kernel_rfl) (by kernel_rfl) (fun _ _ _ h => h) rfl (by intro w hSw; (try dsimp only at hSw); go_simp) (by assumption) ?_
                    simp only [Act.put, List.setIfInBounds_toArray, List.set_cons_zero, List.set_cons_succ]
                    refine take_yes 7 27 (.int .i64 (key : Int)) rfl rfl (by kernel_rfl) (by kernel_rfl) (by kernel_rfl) (fun _ _ _ h => h) rfl (by intro w hSw; (try dsimp only at hSw); go_simp) (by assumption) ?_
                    simp only [Act.put, List.setIfInBounds_toArray, List.set_cons_zero, List.set_cons_succ]
                    refine take_yes 8 28 (.bool true) rfl rfl (by kernel_rfl) (by kernel_rfl) (by kernel_rfl) (fun _ _ _ h => h) rfl (by intro w hSw; (try dsimp only at hSw); go_simp) (by assumption) ?_
                    simp only [Act.put, List.setIfInBounds_toArray, List.set_cons_zero, List.set_cons_succ]
                    refine take_yes 9 29 (.bool true) rfl rfl (by kernel_rfl) (by kernel_rfl) (by kernel_rfl) (fun _ _ _ h => h) rfl (by intro w hSw; (try dsimp only at hSw); go_simp) (by assumption) ?_
                    simp only [Act.put, List.setIfInBounds_toArray, List.set_cons_zero, List.set_cons_succ]
                    refine take_yes 10 30 (.bool true) rfl rfl (by kernel_rfl) (by kernel_rfl) (by kernel_rfl) (fun _ _ _ h => h) rfl (by intro w hSw; (try dsimp only at hSw); go_simp) (by assumption) ?_
                    simp only [Act.put, List.setIfInBounds_toArray, List.set_cons_zero, List.set_cons_succ]
                    refine take_yes 11 31 (.slice (some ⟨gi, 0, none⟩) N ic) rfl rfl (by kernel_rfl) (by kernel_rfl) (by kernel_rfl) (fun _ _ _ h => h) rfl (by intro w hSw; (try dsimp only at hSw); go_simp) (by assumption) ?_
                    simp only [Act.put, List.setIfInBounds_toArray, List.set_cons_zero, List.set_cons_succ]
                    refine take_yes 12 32 (.int .i64 N) rfl rfl (by kernel_rfl) (by kernel_rfl) (by kernel_rfl) (fun _ _ _ h => h) rfl (by intro w hSw; (try dsimp only at hSw); go_simp) (by assumption) ?_
                    simp only [Act.put, List.setIfInBounds_toArray, List.set_cons_zero, List.set_cons_succ]
                    refine take_yes 13 33 (.bool false) rfl rfl (by kernel_rfl) (by kernel_rfl) (by kernel_rfl) (fun _ _ _ h => h) rfl (by intro w hSw; (try dsimp only at hSw); go_simp) (by assumption) ?_
                    simp only [Act.put, List.setIfInBounds_toArray, List.set_cons_zero, List.set_cons_succ]
                    refine take_yes 14 34 (.bool false) rfl rfl (by kernel_rfl) (by kernel_rfl) (by kernel_rfl) (fun _ _ _ h => h) rfl (by intro w hSw; (try dsimp only at hSw); go_simp) (by assumption) ?_
                    simp only [Act.put, List.setIfInBounds_toArray, List.set_cons_zero, List.set_cons_succ]
                    refine take_yes 15 35 (.slice (some ⟨gi, 0, none⟩) N ic) rfl rfl (by kernel_rfl) (by kernel_rfl) (by kernel_rfl) (fun _ _ _ h => h) rfl (by intro w hSw; (try dsimp only at hSw); go_simp) (by assumption) ?_
                    simp only [Act.put, List.setIfInBounds_toArray, List.set_cons_zero, List.set_cons_succ]
                    refine take_yes 16 36 (.slice (some ⟨gi, 0, none⟩) N ic) rfl rfl (by kernel_rfl) (by kernel_rfl) (by kernel_rfl) (fun _ _ _ h => h) rfl (by intro w hSw; (try dsimp only at hSw); go_simp) (by assumption) ?_
                    simp only [Act.put, List.setIfInBounds_toArray, List.set_cons_zero, List.set_cons_succ]
                    refine take_yes 17 37 (.int .i64 N) rfl rfl (by kernel_rfl) (by kernel_rfl) (by kernel_rfl) (fun _ _ _ h => h) rfl (by intro w hSw; (try dsimp only at hSw); go_simp) (by assumption) ?_
                    simp only [Act.put, List.setIfInBounds_toArray, List.set_cons_zero, List.set_cons_succ]
                    refine take_yes 18 38 (.int .i64 ((N : Int) - 1)) rfl rfl (by kernel_rfl) (by kernel_rfl) (by kernel_rfl) (fun _ _ _ h => h) rfl (by intro w hSw; (try dsimp only at hSw); go_simp) (by assumption) ?_
                    simp only [Act.put, List.setIfInBounds_toArray, List.set_cons_zero, List.set_cons_succ]
                    refine take_yes 19 39 (.pointer (some ⟨gi, N - 1, none⟩)) rfl rfl (by kernel_rfl) (by kernel_rfl) (by kernel_rfl) (fun _ _ _ h => h) rfl (by intro w hSw; (try dsimp only at hSw); go_simp) (by assumption) ?_
                    simp only [Act.put, List.setIfInBounds_toArray, List.set_cons_zero, List.set_cons_succ]
                    refine take_yes 20 40 (.int .i64 yl) rfl rfl (by kernel_rfl) (by kernel_rfl) (by kernel_rfl) (fun _ _ _ h => h) rfl (by intro w hSw; (try dsimp only at hSw); go_simp) (by assumption) ?_
                    simp only [Act.put, List.setIfInBounds_toArray, List.set_cons_zero, List.set_cons_succ]
                    refine take_yes 21 41 (.pointer (some ⟨gx, 2, none⟩)) rfl rfl (by kernel_rfl) (by kernel_rfl) (by kernel_rfl) (fun _ _ _ h => h) rfl (by intro w hSw; (try dsimp only at hSw); go_simp) (by assumption) ?_
                    simp only [Act.put, List.setIfInBounds_toArray, List.set_cons_zero, List.set_cons_succ]
                    refine take_yes 22 42 (.int .i64 xi) rfl rfl (by kernel_rfl) (by kernel_rfl) (by kernel_rfl) (fun _ _ _ h => h) rfl (by intro w hSw; (try dsimp only at hSw); go_simp) (by assumption) ?_
                    simp only [Act.put, List.setIfInBounds_toArray, List.set_cons_zero, List.set_cons_succ]
                    refine take_yes 23 43 (.bool true) rfl rfl (by kernel_rfl) (by kernel_rfl) (by kernel_rfl) (fun _ _ _ h => h) rfl (by intro w hSw; (try dsimp only at hSw); go_simp) (by assumption) ?_
                    simp only [Act.put, List.setIfInBounds_toArray, List.set_cons_zero, List.set_cons_succ]
                    refine take_yes 24 44 (.bool true) rfl rfl (by kernel_rfl) (by kernel_rfl) (by kernel_rfl) (fun _ _ _ h => h) rfl (by intro w hSw; (try dsimp only at hSw); go_simp) (by assumption) ?_
                    simp only [Act.put, List.setIfInBounds_toArray, List.set_cons_zero, List.set_cons_succ]
                    refine take_yes 25 45 (.bool true) rfl rfl (by kernel_rfl) (by kernel_rfl) (by kernel_rfl) (fun _ _ _ h => h) rfl (by intro w hSw; (try dsimp only at hSw); go_simp) (by assumption) ?_
                    simp only [Act.put, List.setIfInBounds_toArray, List.set_cons_zero, List.set_cons_succ]
                    refine wpAnyH_done (by kernel_rfl) ?_ _
                    go_wp2_with fail
                    go_meet
                    exact ⟨rfl, hgd⟩
                  case rest =>
                    obtain ⟨rfl, HGR⟩ := hcut
                    obtain ⟨w4, rfl⟩ : ∃ w4, w4 = wc := ⟨wc, rfl⟩
                    have O4 := hide (O3.out.below HGR.out (Nat.le_refl _))
                    have X4 := hide (X3.out.below HGR.out (Nat.le_refl _))
                    have HB4 := hide (below_step HB3.out HGR.out)
                    clear O3 X3 HB3 HGR HK
                    have HS1 : Hid (itemsR s key (l.take (j + 1)) = IT ++ [xi]) := by unfold Hid; rw [HSN.out]; unfold itemR; exact if_pos HYS.out
                    have x2 := X4.out.get 2 rfl
                    have HSB := hide HB4.out.size
                    go_wp2_with (at_builtin; refine wpList_append_own _ rfl (.tmp 46) (.tmp 49) 22 rfl w1.heap.size 3 i0 (.int .i64 0) 1 8 Try.underlying22 hi hz0 hz1 hz2 rfl (by decide) _ _ _ rfl (O4.out.below ((Below.refl w4.heap.size w4).alloc (Nat.le_refl _) _) (Nat.le_refl _)) ⟨w4.heap.size, 0, none⟩ 1 1 [.int .i64 xi] rfl rfl ?q1 ?q2 ?q3 ?q4 ?q5 ?_)
                    case q2 => rfl
                    case q3 => unfold maxLen; have := HIL.out; omega
                    case q4 => have := HIL.out; omega
                    case q5 => have := HSB.out; simp; omega
                    intro v' w5 hown' hgrow _
                    have O5 : Hid (Own w5 w1.heap.size v' (IT ++ [xi])) := by
                      unfold Hid Own
                      rw [List.length_append, List.map_append]
                      exact hown'
                    have HB5 := hide (HB4.out.trans (((Below.refl w1.heap.size w4).alloc HSB.out _).grown hgrow (by have := HSB.out; simp; omega) (fun g hg => (World.ownsRow.lt O4.out g hg).1)))
                    clear hown' hgrow x2
                    go_wp2_with fail
                    go_roundw
                    case rel => exact ⟨j + 1, by omega, by go_num, by rw [HS1.out]; exact O5, HB5⟩
                    case measure => simp [intOf]; omega
            · have hk' : (xk == (key : Int)) = false := by simp [hk]
              have HNO : Hid (¬ ((⟨xs, xk, xi, xu, xq⟩ : Live).set = s ∧ (⟨xs, xk, xi, xu, xq⟩ : Live).key = key ∧ (IT = [] ∨ ¬ IT.getLast? = some (⟨xs, xk, xi, xu, xq⟩ : Live).item))) := fun hh => hk hh.2.1
              subst hia
              clear hs hk
              have HK : Hid (∀ w', Grew w3 w' → w'.cell? ⟨gx, 0, none⟩ = some (.bool xs) ∧ w'.cell? ⟨gx, 1, none⟩ = some (.int .i64 xk) ∧ w'.cell? ⟨gx, 2, none⟩ = some (.int .i64 xi) ∧ w'.cell? ⟨gx, 3, none⟩ = some (.int .i64 xu) ∧ w'.cell? ⟨gx, 4, none⟩ = some (.int .i64 xq)) := fun w' hg => ⟨(X3.out.below hg (Nat.le_refl _)).get 0 rfl, (X3.out.below hg (Nat.le_refl _)).get 1 rfl, (X3.out.below hg (Nat.le_refl _)).get 2 rfl, (X3.out.below hg (Nat.le_refl _)).get 3 rfl, (X3.out.below hg (Nat.le_refl _)).get 4 rfl⟩
              go_cut [45] (fun c wx => c = .bool false ∧ Hid (Grew w3 wx))
              case first =>
                refine wp_region_held_drew (S := fun w' => w'.cell? ⟨gx, 0, none⟩ = some (.bool xs) ∧ w'.cell? ⟨gx, 1, none⟩ = some (.int .i64 xk) ∧ w'.cell? ⟨gx, 2, none⟩ = some (.int .i64 xi) ∧ w'.cell? ⟨gx, 3, none⟩ = some (.int .i64 xu) ∧ w'.cell? ⟨gx, 4, none⟩ = some (.int .i64 xq)) (by kernel_rfl) (HK.out _ (grew_drew (grew_refl _))) (fun hHeld => ?_)
                obtain ⟨wd, HWD⟩ : ∃ wd, Hid (w3.drew = wd) := ⟨_, rfl⟩
                have hgd : Grew w3 wd := by rw [← HWD.out]; exact grew_drew (grew_refl w3)
                rw [HWD.out] at hHeld ⊢
                refine take_yes 0 20 (.pointer (some ⟨gx, 0, none⟩)) rfl rfl (by kernel_rfl) (by kernel_rfl) (by kernel_rfl) (fun _ _ _ h => h) rfl (by intro w hSw; (try dsimp only at hSw); go_simp) (by assumption) ?_
                simp only [Act.put, List.setIfInBounds_toArray, List.set_cons_zero, List.set_cons_succ]
                refine take_yes 1 21 (.bool xs) rfl rfl (by kernel_rfl) (by kernel_rfl) (by kernel_rfl) (fun _ _ _ h => h) rfl (by intro w hSw; (try dsimp only at hSw); go_simp) (by assumption) ?_
                simp only [Act.put, List.setIfInBounds_toArray, List.set_cons_zero, List.set_cons_succ]
                refine take_yes 2 22 (.bool s) rfl rfl (by kernel_rfl) (by kernel_rfl) (by kernel_rfl) (fun _ _ _ h => h) rfl (by intro w hSw; (try dsimp only at hSw); go_simp) (by assumption) ?_
                simp only [Act.put, List.setIfInBounds_toArray, List.set_cons_zero, List.set_cons_succ]
                refine take_yes 3 23 (.bool true) rfl rfl (by kernel_rfl) (by kernel_rfl) (by kernel_rfl) (fun _ _ _ h => h) rfl (by intro w hSw; (try dsimp only at hSw); go_simp) (by assumption) ?_
                simp only [Act.put, List.setIfInBounds_toArray, List.set_cons_zero, List.set_cons_succ]
                refine take_yes 4 24 (.bool true) rfl rfl (by kernel_rfl) (by kernel_rfl) (by kernel_rfl) (fun _ _ _ h => h) rfl (by intro w hSw; (try dsimp only at hSw); go_simp) (by assumption) ?_
                simp only [Act.put, List.setIfInBounds_toArray, List.set_cons_zero, List.set_cons_succ]
                refine take_yes 5 25 (.pointer (some ⟨gx, 1, none⟩)) rfl rfl (by kernel_rfl) (by kernel_rfl) (by kernel_rfl) (fun _ _ _ h => h) rfl (by intro w hSw; (try dsimp only at hSw); go_simp) (by assumption) ?_
                simp only [Act.put, List.setIfInBounds_toArray, List.set_cons_zero, List.set_cons_succ]
                refine take_yes 6 26 (.int .i64 xk) rfl rfl (by kernel_rfl) (by kernel_rfl) (by kernel_rfl) (fun _ _ _ h => h) rfl (by intro w hSw; (try dsimp only at hSw); go_simp) (by assumption) ?_
                simp only [Act.put, List.setIfInBounds_toArray, List.set_cons_zero, List.set_cons_succ]
                refine take_yes 7 27 (.int .i64 (key : Int)) rfl rfl (by kernel_rfl) (by kernel_rfl) (by kernel_rfl) (fun _ _ _ h => h) rfl (by intro w hSw; (try dsimp only at hSw); go_simp) (by assumption) ?_
                simp only [Act.put, List.setIfInBounds_toArray, List.set_cons_zero, List.set_cons_succ]
                refine take_yes 8 28 (.bool false) rfl rfl (by kernel_rfl) (by kernel_rfl) (by kernel_rfl) (fun _ _ _ h => h) rfl (by intro w hSw; (try dsimp only at hSw); go_simp) (by assumption) ?_
                simp only [Act.put, List.setIfInBounds_toArray, List.set_cons_zero, List.set_cons_succ]
                refine take_yes 9 29 (.bool false) rfl rfl (by kernel_rfl) (by kernel_rfl) (by kernel_rfl) (fun _ _ _ h => h) rfl (by intro w hSw; (try dsimp only at hSw); go_simp) (by assumption) ?_
                simp only [Act.put, List.setIfInBounds_toArray, List.set_cons_zero, List.set_cons_succ]
                refine take_yes 10 30 (.bool false) rfl rfl (by kernel_rfl) (by kernel_rfl) (by kernel_rfl) (fun _ _ _ h => h) rfl (by intro w hSw; (try dsimp only at hSw); go_simp) (by assumption) ?_
                simp only [Act.put, List.setIfInBounds_toArray, List.set_cons_zero, List.set_cons_succ]
                refine take_skip 11 31 rfl rfl (by kernel_rfl) (by kernel_rfl) (by kernel_rfl) (fun _ _ _ h => h) rfl (by assumption) ?_
                simp only [Act.put, List.setIfInBounds_toArray, List.set_cons_zero, List.set_cons_succ]
                refine take_skip 12 32 rfl rfl (by kernel_rfl) (by kernel_rfl) (by kernel_rfl) (fun _ _ _ h => h) rfl (by assumption) ?_
                simp only [Act.put, List.setIfInBounds_toArray, List.set_cons_zero, List.set_cons_succ]
                refine take_skip 13 33 rfl rfl (by kernel_rfl) (by kernel_rfl) (by kernel_rfl) (fun _ _ _ h => h) rfl (by assumption) ?_
                simp only [Act.put, List.setIfInBounds_toArray, List.set_cons_zero, List.set_cons_succ]
                refine take_skip 14 34 rfl rfl (by kernel_rfl) (by kernel_rfl) (by kernel_rfl) (fun _ _ _ h => h) rfl (by assumption) ?_
                simp only [Act.put, List.setIfInBounds_toArray, List.set_cons_zero, List.set_cons_succ]
                refine take_skip 15 35 rfl rfl (by kernel_rfl) (by kernel_rfl) (by kernel_rfl) (fun _ _ _ h => h) rfl (by assumption) ?_
                simp only [Act.put, List.setIfInBounds_toArray, List.set_cons_zero, List.set_cons_succ]
                refine take_skip 16 36 rfl rfl (by kernel_rfl) (by kernel_rfl) (by kernel_rfl) (fun _ _ _ h => h) rfl (by assumption) ?_
                simp only [Act.put, List.setIfInBounds_toArray, List.set_cons_zero, List.set_cons_succ]
                refine take_skip 17 37 rfl rfl (by kernel_rfl) (by kernel_rfl) (by kernel_rfl) (fun _ _ _ h => h) rfl (by assumption) ?_
                simp only [Act.put, List.setIfInBounds_toArray, List.set_cons_zero, List.set_cons_succ]
                refine take_skip 18 38 rfl rfl (by kernel_rfl) (by kernel_rfl) (by kernel_rfl) (fun _ _ _ h => h) rfl (by assumption) ?_
                simp only [Act.put, List.setIfInBounds_toArray, List.set_cons_zero, List.set_cons_succ]
                refine take_skip 19 39 rfl rfl (by kernel_rfl) (by kernel_rfl) (by kernel_rfl) (fun _ _ _ h => h) rfl (by assumption) ?_
                simp only [Act.put, List.setIfInBounds_toArray, List.set_cons_zero, List.set_cons_succ]
                refine take_skip 20 40 rfl rfl (by kernel_rfl) (by kernel_rfl) (by kernel_rfl) (fun _ _ _ h => h) rfl (by assumption) ?_
                simp only [Act.put, List.setIfInBounds_toArray, List.set_cons_zero, List.set_cons_succ]
                refine take_skip 21 41 rfl rfl (by kernel_rfl) (by kernel_rfl) (by kernel_rfl) (fun _ _ _ h => h) rfl (by assumption) ?_
                simp only [Act.put, List.setIfInBounds_toArray, List.set_cons_zero, List.set_cons_succ]
                refine take_skip 22 42 rfl rfl (by kernel_rfl) (by kernel_rfl) (by kernel_rfl) (fun _ _ _ h => h) rfl (by assumption) ?_
                simp only [Act.put, List.setIfInBounds_toArray, List.set_cons_zero, List.set_cons_succ]
                refine take_skip 23 43 rfl rfl (by kernel_rfl) (by kernel_rfl) (by kernel_rfl) (fun _ _ _ h => h) rfl (by assumption) ?_
                simp only [Act.put, List.setIfInBounds_toArray, List.set_cons_zero, List.set_cons_succ]
                refine take_skip 24 44 rfl rfl (by kernel_rfl) (by kernel_rfl) (by kernel_rfl) (fun _ _ _ h => h) rfl (by assumption) ?_
                simp only [Act.put, List.setIfInBounds_toArray, List.set_cons_zero, List.set_cons_succ]
                refine take_yes 25 45 (.bool false) rfl rfl (by kernel_rfl) (by kernel_rfl) (by kernel_rfl) (fun _ _ _ h => h) rfl (by intro w hSw; (try dsimp only at hSw); go_simp) (by assumption) ?_
                simp only [Act.put, List.setIfInBounds_toArray, List.set_cons_zero, List.set_cons_succ]
                refine wpAnyH_done (by kernel_rfl) ?_ _
                go_wp2_with fail
                go_meet
                exact ⟨rfl, hgd⟩
              case rest =>
                obtain ⟨rfl, HGR⟩ := hcut
                obtain ⟨w4, rfl⟩ : ∃ w4, w4 = wc := ⟨wc, rfl⟩
                have O4 := hide (O3.out.below HGR.out (Nat.le_refl _))
                have X4 := hide (X3.out.below HGR.out (Nat.le_refl _))
                have HB4 := hide (below_step HB3.out HGR.out)
                clear O3 X3 HB3 HGR HK
                have HS1 : Hid (itemsR s key (l.take (j + 1)) = IT) := by unfold Hid; rw [HSN.out]; unfold itemR; exact if_neg HNO.out
                go_wp2_with fail
                go_roundw
                case rel => exact ⟨j + 1, by omega, by go_num, by rw [HS1.out]; exact O4, HB4⟩
                case measure => simp [intOf]; omega
          · have hs' : (xs == s) = false := by simp [hs]
            have HNO : Hid (¬ ((⟨xs, xk, xi, xu, xq⟩ : Live).set = s ∧ (⟨xs, xk, xi, xu, xq⟩ : Live).key = key ∧ (IT = [] ∨ ¬ IT.getLast? = some (⟨xs, xk, xi, xu, xq⟩ : Live).item))) := fun hh => hs hh.1
            subst hia
            clear hs
            have HK : Hid (∀ w', Grew w3 w' → w'.cell? ⟨gx, 0, none⟩ = some (.bool xs) ∧ w'.cell? ⟨gx, 1, none⟩ = some (.int .i64 xk) ∧ w'.cell? ⟨gx, 2, none⟩ = some (.int .i64 xi) ∧ w'.cell? ⟨gx, 3, none⟩ = some (.int .i64 xu) ∧ w'.cell? ⟨gx, 4, none⟩ = some (.int .i64 xq)) := fun w' hg => ⟨(X3.out.below hg (Nat.le_refl _)).get 0 rfl, (X3.out.below hg (Nat.le_refl _)).get 1 rfl, (X3.out.below hg (Nat.le_refl _)).get 2 rfl, (X3.out.below hg (Nat.le_refl _)).get 3 rfl, (X3.out.below hg (Nat.le_refl _)).get 4 rfl⟩
            go_cut [45] (fun c wx => c = .bool false ∧ Hid (Grew w3 wx))
            case first =>
              refine wp_region_held_drew (S := fun w' => w'.cell? ⟨gx, 0, none⟩ = some (.bool xs) ∧ w'.cell? ⟨gx, 1, none⟩ = some (.int .i64 xk) ∧ w'.cell? ⟨gx, 2, none⟩ = some (.int .i64 xi) ∧ w'.cell? ⟨gx, 3, none⟩ = some (.int .i64 xu) ∧ w'.cell? ⟨gx, 4, none⟩ = some (.int .i64 xq)) (by kernel_rfl) (HK.out _ (grew_drew (grew_refl _))) (fun hHeld => ?_)
              obtain ⟨wd, HWD⟩ : ∃ wd, Hid (w3.drew = wd) := ⟨_, rfl⟩
              have hgd : Grew w3 wd := by rw [← HWD.out]; exact grew_drew (grew_refl w3)
              rw [HWD.out] at hHeld ⊢
              refine take_yes 0 20 (.pointer (some ⟨gx, 0, none⟩)) rfl rfl (by kernel_rfl) (by kernel_rfl) (by kernel_rfl) (fun _ _ _ h => h) rfl (by intro w hSw; (try dsimp only at hSw); go_simp) (by assumption) ?_
              simp only [Act.put, List.setIfInBounds_toArray, List.set_cons_zero, List.set_cons_succ]
              refine take_yes 1 21 (.bool xs) rfl rfl (by kernel_rfl) (by kernel_rfl) (by kernel_rfl) (fun _ _ _ h => h) rfl (by intro w hSw; (try dsimp only at hSw); go_simp) (by assumption) ?_
              simp only [Act.put, List.setIfInBounds_toArray, List.set_cons_zero, List.set_cons_succ]
              refine take_yes 2 22 (.bool s) rfl rfl (by kernel_rfl) (by kernel_rfl) (by kernel_rfl) (fun _ _ _ h => h) rfl (by intro w hSw; (try dsimp only at hSw); go_simp) (by assumption) ?_
              simp only [Act.put, List.setIfInBounds_toArray, List.set_cons_zero, List.set_cons_succ]
              refine take_yes 3 23 (.bool false) rfl rfl (by kernel_rfl) (by kernel_rfl) (by kernel_rfl) (fun _ _ _ h => h) rfl (by intro w hSw; (try dsimp only at hSw); go_simp) (by assumption) ?_
              simp only [Act.put, List.setIfInBounds_toArray, List.set_cons_zero, List.set_cons_succ]
              refine take_yes 4 24 (.bool false) rfl rfl (by kernel_rfl) (by kernel_rfl) (by kernel_rfl) (fun _ _ _ h => h) rfl (by intro w hSw; (try dsimp only at hSw); go_simp) (by assumption) ?_
              simp only [Act.put, List.setIfInBounds_toArray, List.set_cons_zero, List.set_cons_succ]
              refine take_skip 5 25 rfl rfl (by kernel_rfl) (by kernel_rfl) (by kernel_rfl) (fun _ _ _ h => h) rfl (by assumption) ?_
              simp only [Act.put, List.setIfInBounds_toArray, List.set_cons_zero, List.set_cons_succ]
              refine take_skip 6 26 rfl rfl (by kernel_rfl) (by kernel_rfl) (by kernel_rfl) (fun _ _ _ h => h) rfl (by assumption) ?_
              simp only [Act.put, List.setIfInBounds_toArray, List.set_cons_zero, List.set_cons_succ]
              refine take_skip 7 27 rfl rfl (by kernel_rfl) (by kernel_rfl) (by kernel_rfl) (fun _ _ _ h => h) rfl (by assumption) ?_
              simp only [Act.put, List.setIfInBounds_toArray, List.set_cons_zero, List.set_cons_succ]
              refine take_skip 8 28 rfl rfl (by kernel_rfl) (by kernel_rfl) (by kernel_rfl) (fun _ _ _ h => h) rfl (by assumption) ?_
              simp only [Act.put, List.setIfInBounds_toArray, List.set_cons_zero, List.set_cons_succ]
              refine take_yes 9 29 (.bool false) rfl rfl (by kernel_rfl) (by kernel_rfl) (by kernel_rfl) (fun _ _ _ h => h) rfl (by intro w hSw; (try dsimp only at hSw); go_simp) (by assumption) ?_
              simp only [Act.put, List.setIfInBounds_toArray, List.set_cons_zero, List.set_cons_succ]
              refine take_yes 10 30 (.bool false) rfl rfl (by kernel_rfl) (by kernel_rfl) (by kernel_rfl) (fun _ _ _ h => h) rfl (by intro w hSw; (try dsimp only at hSw); go_simp) (by assumption) ?_
              simp only [Act.put, List.setIfInBounds_toArray, List.set_cons_zero, List.set_cons_succ]
              refine take_skip 11 31 rfl rfl (by kernel_rfl) (by kernel_rfl) (by kernel_rfl) (fun _ _ _ h => h) rfl (by assumption) ?_
              simp only [Act.put, List.setIfInBounds_toArray, List.set_cons_zero, List.set_cons_succ]
              refine take_skip 12 32 rfl rfl (by kernel_rfl) (by kernel_rfl) (by kernel_rfl) (fun _ _ _ h => h) rfl (by assumption) ?_
              simp only [Act.put, List.setIfInBounds_toArray, List.set_cons_zero, List.set_cons_succ]
              refine take_skip 13 33 rfl rfl (by kernel_rfl) (by kernel_rfl) (by kernel_rfl) (fun _ _ _ h => h) rfl (by assumption) ?_
              simp only [Act.put, List.setIfInBounds_toArray, List.set_cons_zero, List.set_cons_succ]
              refine take_skip 14 34 rfl rfl (by kernel_rfl) (by kernel_rfl) (by kernel_rfl) (fun _ _ _ h => h) rfl (by assumption) ?_
              simp only [Act.put, List.setIfInBounds_toArray, List.set_cons_zero, List.set_cons_succ]
              refine take_skip 15 35 rfl rfl (by kernel_rfl) (by kernel_rfl) (by kernel_rfl) (fun _ _ _ h => h) rfl (by assumption) ?_
              simp only [Act.put, List.setIfInBounds_toArray, List.set_cons_zero, List.set_cons_succ]
              refine take_skip 16 36 rfl rfl (by kernel_rfl) (by kernel_rfl) (by kernel_rfl) (fun _ _ _ h => h) rfl (by assumption) ?_
              simp only [Act.put, List.setIfInBounds_toArray, List.set_cons_zero, List.set_cons_succ]
              refine take_skip 17 37 rfl rfl (by kernel_rfl) (by kernel_rfl) (by kernel_rfl) (fun _ _ _ h => h) rfl (by assumption) ?_
              simp only [Act.put, List.setIfInBounds_toArray, List.set_cons_zero, List.set_cons_succ]
              refine take_skip 18 38 rfl rfl (by kernel_rfl) (by kernel_rfl) (by kernel_rfl) (fun _ _ _ h => h) rfl (by assumption) ?_
              simp only [Act.put, List.setIfInBounds_toArray, List.set_cons_zero, List.set_cons_succ]
              refine take_skip 19 39 rfl rfl (by kernel_rfl) (by kernel_rfl) (by kernel_rfl) (fun _ _ _ h => h) rfl (by assumption) ?_
              simp only [Act.put, List.setIfInBounds_toArray, List.set_cons_zero, List.set_cons_succ]
              refine take_skip 20 40 rfl rfl (by kernel_rfl) (by kernel_rfl) (by kernel_rfl) (fun _ _ _ h => h) rfl (by assumption) ?_
              simp only [Act.put, List.setIfInBounds_toArray, List.set_cons_zero, List.set_cons_succ]
              refine take_skip 21 41 rfl rfl (by kernel_rfl) (by kernel_rfl) (by kernel_rfl) (fun _ _ _ h => h) rfl (by assumption) ?_
              simp only [Act.put, List.setIfInBounds_toArray, List.set_cons_zero, List.set_cons_succ]
              refine take_skip 22 42 rfl rfl (by kernel_rfl) (by kernel_rfl) (by kernel_rfl) (fun _ _ _ h => h) rfl (by assumption) ?_
              simp only [Act.put, List.setIfInBounds_toArray, List.set_cons_zero, List.set_cons_succ]
              refine take_skip 23 43 rfl rfl (by kernel_rfl) (by kernel_rfl) (by kernel_rfl) (fun _ _ _ h => h) rfl (by assumption) ?_
              simp only [Act.put, List.setIfInBounds_toArray, List.set_cons_zero, List.set_cons_succ]
              refine take_skip 24 44 rfl rfl (by kernel_rfl) (by kernel_rfl) (by kernel_rfl) (fun _ _ _ h => h) rfl (by assumption) ?_
              simp only [Act.put, List.setIfInBounds_toArray, List.set_cons_zero, List.set_cons_succ]
              refine take_yes 25 45 (.bool false) rfl rfl (by kernel_rfl) (by kernel_rfl) (by kernel_rfl) (fun _ _ _ h => h) rfl (by intro w hSw; (try dsimp only at hSw); go_simp) (by assumption) ?_
              simp only [Act.put, List.setIfInBounds_toArray, List.set_cons_zero, List.set_cons_succ]
              refine wpAnyH_done (by kernel_rfl) ?_ _
              go_wp2_with fail
              go_meet
              exact ⟨rfl, hgd⟩
            case rest =>
              obtain ⟨rfl, HGR⟩ := hcut
              obtain ⟨w4, rfl⟩ : ∃ w4, w4 = wc := ⟨wc, rfl⟩
              have O4 := hide (O3.out.below HGR.out (Nat.le_refl _))
              have X4 := hide (X3.out.below HGR.out (Nat.le_refl _))
              have HB4 := hide (below_step HB3.out HGR.out)
              clear O3 X3 HB3 HGR HK
              have HS1 : Hid (itemsR s key (l.take (j + 1)) = IT) := by unfold Hid; rw [HSN.out]; unfold itemR; exact if_neg HNO.out
              go_wp2_with fail
              go_roundw
              case rel => exact ⟨j + 1, by omega, by go_num, by rw [HS1.out]; exact O4, HB4⟩
              case measure => simp [intOf]; omega
        · have hlt' : ¬ (j : Int) < (l.length : Int) := by omega
          have hjl : l.take j = l := List.take_of_length_le (by omega)
          rw [hjl] at HIT
          clear hjl
          have C2 := hide (C1.out.below HB2.out (Nat.le_refl _))
          have O2' := hide (O2.out.mono HB1.out.size)
          have HPL : Hid (ps.length ≤ 16) := by have h1 := congrArg List.length HP.out; rw [List.length_map] at h1; have := cellsR_len (s := s) (l := l) key; unfold Hid; omega
          obtain ⟨ia, ic, hia, -⟩ := O2.out.row
          subst hia
          by_cases hem : IT = []
          · have HCR : Hid (cellsR s l (key + 1) = cellsR s l key) := by unfold Hid; rw [cellsR, HIT.out, if_pos hem, List.append_nil]
            have hl0 : IT.length = 0 := by rw [hem]; rfl
            rw [hl0]
            clear hem hl0
            go_wp2_with fail
            go_roundw
            case rel => exact ⟨key + 1, ps, by omega, by go_num, by rw [HCR.out]; exact HP, C2, HBW⟩
            case measure => simp [intOf]; omega
          · have HCR : Hid (cellsR s l (key + 1) = cellsR s l key ++ [((key : Int), IT)]) := by unfold Hid; rw [cellsR, HIT.out, if_neg hem]
            have hpos : (0 : Int) < (IT.length : Int) := by have := List.length_pos_iff.2 hem; omega
            clear hem
            have HSB := hide HBW.out.size
            go_wp2_with (at_builtin; refine wpList_append_own _ rfl (.tmp 55) (.tmp 59) 37 rfl w.heap.size 116 i1 (.agg #[.int .i64 0, .slice none 0 0]) 2 32 Try.underlying37 hy hy0 hy1 hy2 rfl (by decide) _ _ _ rfl (C2.out.below ((Below.refl w2.heap.size w2).alloc (Nat.le_refl _) _) (Nat.le_refl _)).row ⟨w2.heap.size, 0, none⟩ 1 1 (encP (((key : Int), IT), .slice ia IT.length ic)) rfl rfl ?r1 ?r2 ?r3 ?r4 ?r5 ?_)
            case r1 => exact fun _ _ h => h
            case r2 => intro q hq; simp only [encP, List.mem_cons, List.not_mem_nil, or_false] at hq; rcases hq with rfl | rfl <;> rfl
            case r3 => unfold maxLen; have := HPL.out; omega
            case r4 => have := HPL.out; omega
            case r5 => have := HSB.out; simp; omega
            intro v' w5 hown' hgrow _
            have C5 := hide ((C2.out.below ((Below.refl w2.heap.size w2).alloc (Nat.le_refl _) _) (Nat.le_refl _)).more (O2'.out.below ((Below.refl w2.heap.size w2).alloc (Nat.le_refl _) _) (Nat.le_refl _)) hgrow hown')
            have HB5 := hide (HBW.out.trans (((Below.refl w.heap.size w2).alloc HSB.out _).grown hgrow (by have := HSB.out; simp; omega) (fun g hg => (World.ownsRow.lt C2.out.row g hg).1)))
            clear hown' hgrow
            go_wp2_with fail
            go_roundw
            case rel => exact ⟨key + 1, _, by omega, by go_num, hide (by rw [List.map_append, HP.out, HCR.out]; rfl), C5, HB5⟩
            case measure => simp [intOf]; omega
    · have hk16' : ¬ (key : Int) ≤ 15 := by omega
      obtain rfl : key = 16 := by omega
      go_wp2_with fail
      go_ret
      exact ⟨_, rfl, ps, HP.out, C1.out, HB1.out⟩
set_option maxRecDepth 100000 in
set_option maxHeartbeats 2000000 in
theorem read_ref4 (v : Value) (s : StS) (w : World) (h : IsSt w v s) :
    Calls Try.prog 12 #[v] w fun e w' => ∃ rv, e = .returned (.tuple #[rv, .agg #[.int .i64 (stE s s.clock.length), .int .i64 (stA s s.clock.length)]]) ∧ ViewR w' rv (readX s) ∧ Below w.heap.size w w' := by
  have hin := h
  obtain ⟨cv, lv, tv, rfl, hc, hv, ht⟩ := h
  obtain ⟨a1, cap1, rfl, -, -, -⟩ := id hc
  obtain ⟨a2, cap2, rfl, -, -, -⟩ := id hv
  obtain ⟨a3, cap3, rfl, -, -, -⟩ := id ht
  have hb3 := Below.plus (Below.plus (Below.plus (Below.refl w.heap.size w) (.cells #[.slice a1 s.clock.length cap1, .slice a2 s.lives.length cap2, .slice a3 s.tals.length cap3] 27)) (.cells #[.slice none 0 0, .slice none 0 0, .slice none 0 0] 40)) (.cells #[.int .i64 0, .int .i64 0] 31)
  have S0 := hide (hin.below hb3 (Nat.le_refl _))
  have L0 := hide (hv.below hb3 (Nat.le_refl _))
  have T0 := hide (ht.below hb3 (Nat.le_refl _))
  have G0 := hide (((Box.new w [.slice a1 s.clock.length cap1, .slice a2 s.lives.length cap2, .slice a3 s.tals.length cap3] 27).plus (.cells #[.slice none 0 0, .slice none 0 0, .slice none 0 0] 40)).plus (.cells #[.int .i64 0, .int .i64 0] 31))
  have R0 := hide ((Box.new (w.alloc (.cells #[.slice a1 s.clock.length cap1, .slice a2 s.lives.length cap2, .slice a3 s.tals.length cap3] 27)) [.slice none 0 0, .slice none 0 0, .slice none 0 0] 40).plus (.cells #[.int .i64 0, .int .i64 0] 31))
  have Z0 := hide (Box.new ((w.alloc (.cells #[.slice a1 s.clock.length cap1, .slice a2 s.lives.length cap2, .slice a3 s.tals.length cap3] 27)).alloc (.cells #[.slice none 0 0, .slice none 0 0, .slice none 0 0] 40)) [.int .i64 0, .int .i64 0] 31)
  rw [World.size_alloc] at R0
  rw [World.size_alloc, World.size_alloc] at Z0
  have HB0 := hide hb3
  clear hin hc hv ht hb3
  obtain ⟨X, HX⟩ : ∃ X, Hid (readX s = X) := ⟨_, rfl⟩
  obtain ⟨r, HR⟩ : ∃ r, Hid (stE s s.clock.length = r) := ⟨_, rfl⟩
  obtain ⟨q, HQ⟩ : ∃ q, Hid (stA s s.clock.length = q) := ⟨_, rfl⟩
  rw [HR.out, HQ.out, HX.out]
  unfold readX at HX
  rw [HR.out] at HX
  by_cases hr : r = 0
  · subst hr
    rw [if_pos rfl] at HX
    have hok := stE_ok.1 HR.out
    have hfew := hok.few
    have HSM := hide hok.sums
    clear hok
    go_enter Try.func12, Try.ntmps12
    have cG0 := G0.out.get 0 rfl
    have cG1 := G0.out.get 1 rfl
    have cG2 := G0.out.get 2 rfl
    go_wp2_with fail
    refine (wrong_ref4 _ s s.clock.length _ S0.out).mono ?_
    rintro e w1 ⟨rfl, hb⟩
    have HB1 := hide (below_step HB0.out hb)
    have S1 := hide (S0.out.below hb (Nat.le_refl _))
    have L1 := hide (L0.out.below hb (Nat.le_refl _))
    have T1 := hide (T0.out.below hb (Nat.le_refl _))
    have G1 := hide (G0.out.below hb (Nat.le_refl _))
    have R1 := hide (R0.out.below hb (Nat.le_refl _))
    have Z1 := hide (Z0.out.below hb (Nat.le_refl _))
    clear HB0 hb S0 L0 T0 G0 R0 Z0
    rw [HR.out, HQ.out]
    clear cG0 cG1 cG2
    have HB2 := hide (below_step HB1.out (Below.plus (Below.refl _ w1) (.cells #[.int .i64 0, .int .i64 q] 31)))
    have S2 := hide (S1.out.below (Below.plus (Below.refl _ w1) (.cells #[.int .i64 0, .int .i64 q] 31)) (Nat.le_refl _))
    have L2 := hide (L1.out.below (Below.plus (Below.refl _ w1) (.cells #[.int .i64 0, .int .i64 q] 31)) (Nat.le_refl _))
    have T2 := hide (T1.out.below (Below.plus (Below.refl _ w1) (.cells #[.int .i64 0, .int .i64 q] 31)) (Nat.le_refl _))
    have G2 := hide (G1.out.below (Below.plus (Below.refl _ w1) (.cells #[.int .i64 0, .int .i64 q] 31)) (Nat.le_refl _))
    have R2 := hide (R1.out.below (Below.plus (Below.refl _ w1) (.cells #[.int .i64 0, .int .i64 q] 31)) (Nat.le_refl _))
    have Z2 := hide (Z1.out.below (Below.plus (Below.refl _ w1) (.cells #[.int .i64 0, .int .i64 q] 31)) (Nat.le_refl _))
    have V2 := hide (Box.new w1 [.int .i64 0, .int .i64 q] 31)
    clear HB1 S1 L1 T1 G1 R1 Z1
    have cV0 := V2.out.get 0 rfl
    have cV1 := V2.out.get 1 rfl
    obtain ⟨WB, HWB⟩ : ∃ WB, Hid (w1.alloc (.cells #[.int .i64 0, .int .i64 q] 31) = WB) := ⟨_, rfl⟩
    have hqq : Hid (q = 0) := by
      have h1 := stE_zero.1 HR.out
      unfold Hid
      rw [← HQ.out]
      unfold stA
      rw [if_neg (by simpa using h1.1), if_neg (by simpa using h1.2.1)]
      have h3 := h1.2.2
      unfold listE at h3
      unfold listA
      rw [if_pos h3]
    go_upto_region 4 with fail
    rw [HWB.out]
    rw [HWB.out] at HB2 L2 T2 G2 R2 Z2
    have HOK := hide (stE_ok.1 HR.out)
    have HK : Hid (∀ w', Grew WB w' → w'.cell? ⟨w.heap.size, 1, none⟩ = some (.slice a2 s.lives.length cap2)) := fun w' hg => (G2.out.below hg (Nat.le_refl _)).get 1 rfl
    clear cV0 cV1 V2 S2
    go_cut [5] (fun p wx => ∃ gv r1 r2 p1 p2, p = .pointer (some ⟨gv, 0, none⟩) ∧ Hid (p1.map (·.1) = cellsR false s.lives 16) ∧ Hid (p2.map (·.1) = cellsR true s.lives 16) ∧ Hid (VI WB wx WB.heap.size gv r1 r2 (.slice none 0 0) p1 p2 []))
    case first =>
      refine wp_region_held_drew (S := fun w' => w'.cell? ⟨w.heap.size, 1, none⟩ = some (.slice a2 s.lives.length cap2)) (by kernel_rfl) (HK.out _ (grew_drew (grew_refl _))) (fun hHeld => ?_)
      obtain ⟨wd, HWD⟩ : ∃ wd, Hid (WB.drew = wd) := ⟨_, rfl⟩
      have hgd : Grew WB wd := by rw [← HWD.out]; exact grew_drew (grew_refl WB)
      rw [HWD.out] at hHeld ⊢
      refine take_yes 0 21 (.pointer (some ⟨w.heap.size, 1, none⟩)) rfl rfl (by kernel_rfl) (by kernel_rfl) (by kernel_rfl) (fun _ _ _ h => h) rfl (by intro w hSw; (try dsimp only at hSw); go_simp) (by assumption) ?_
      simp only [Act.put, List.setIfInBounds_toArray, List.set_cons_zero, List.set_cons_succ]
      refine take_yes 1 22 (.slice a2 s.lives.length cap2) rfl rfl (by kernel_rfl) (by kernel_rfl) (by kernel_rfl) (fun _ _ _ h => h) rfl (by intro w hSw; (try dsimp only at hSw); go_simp) (by assumption) ?_
      simp only [Act.put, List.setIfInBounds_toArray, List.set_cons_zero, List.set_cons_succ]
      refine take_yes 3 24 (.pointer (some ⟨w.heap.size, 1, none⟩)) rfl rfl (by kernel_rfl) (by kernel_rfl) (by kernel_rfl) (fun _ _ _ h => h) rfl (by intro w hSw; (try dsimp only at hSw); go_simp) (by assumption) ?_
      simp only [Act.put, List.setIfInBounds_toArray, List.set_cons_zero, List.set_cons_succ]
      refine take_yes 4 25 (.slice a2 s.lives.length cap2) rfl rfl (by kernel_rfl) (by kernel_rfl) (by kernel_rfl) (fun _ _ _ h => h) rfl (by intro w hSw; (try dsimp only at hSw); go_simp) (by assumption) ?_
      simp only [Act.put, List.setIfInBounds_toArray, List.set_cons_zero, List.set_cons_succ]
      refine wpAnyH_ready (rs := [2, 7]) (by kernel_rfl) (by simp) ?_
      refine (AllReadyH.cons (o := _) rfl (fun K hK => ?_) (AllReadyH.cons (o := _) rfl (fun K hK => ?_) AllReadyH.nil))
      · skip
        go_simp
        refine (cells_ref4 _ s.lives false _ (L2.out.below hgd (Nat.le_refl _)) (by omega)).mono ?_
        rintro e w_2 ⟨v_2, rfl, p_2, hm_2, hc_2, hb_2⟩
        obtain ⟨x_2, y_2, hv_2⟩ := hc_2.slice
        subst hv_2
        have C1_2 := hc_2.base hgd.size
        have hg_2 : Grew WB w_2 := grew_step hgd hb_2
        refine hK.out _ _ (HK.out _ hg_2) (fun _ => ?_)
        clear hK K
        try simp only [Act.put, List.setIfInBounds_toArray, List.set_cons_zero, List.set_cons_succ]
        refine wpAnyH_ready (rs := [5, 7]) (by kernel_rfl) (by simp) ?_
        refine (AllReadyH.cons (o := _) rfl (fun K hK => ?_) (AllReadyH.cons (o := _) rfl (fun K hK => ?_) AllReadyH.nil))
        · skip
          go_simp
          refine (cells_ref4 _ s.lives true _ (L2.out.below hg_2 (Nat.le_refl _)) (by omega)).mono ?_
          rintro e w_2_5 ⟨v_2_5, rfl, p_2_5, hm_2_5, hc_2_5, hb_2_5⟩
          obtain ⟨x_2_5, y_2_5, hv_2_5⟩ := hc_2_5.slice
          subst hv_2_5
          have C2_2_5 := hc_2_5.base hg_2.size
          have hg_2_5 : Grew WB w_2_5 := grew_step hg_2 hb_2_5
          have C1_2_5 := C1_2.below hb_2_5 (Nat.le_refl _)
          refine hK.out _ _ (HK.out _ hg_2_5) (fun _ => ?_)
          clear hK K
          try simp only [Act.put, List.setIfInBounds_toArray, List.set_cons_zero, List.set_cons_succ]
          refine take_yes 6 27 (.agg #[.slice x_2 p_2.length y_2, .slice x_2_5 p_2_5.length y_2_5, .slice none 0 0]) rfl rfl (by kernel_rfl) (by kernel_rfl) (by kernel_rfl) (fun _ _ _ h => h) rfl (by intro w hSw; (try dsimp only at hSw); go_simp) (by assumption) ?_
          simp only [Act.put, List.setIfInBounds_toArray, List.set_cons_zero, List.set_cons_succ]
          refine wpAnyH_ready (rs := [7]) (by kernel_rfl) (by simp) ?_
          refine (AllReadyH.cons (o := _) rfl (fun K hK => ?_) AllReadyH.nil)
          go_simp
          have hb_2_5_7 := Below.plus (Below.refl w_2_5.heap.size w_2_5) (.cells #[.slice none 0 0, .slice none 0 0, .slice none 0 0] 40)
          have V_2_5_7 := Box.new w_2_5 [.slice none 0 0, .slice none 0 0, .slice none 0 0] 40
          have ge_g_2_5_7 : WB.heap.size ≤ w_2_5.heap.size := hg_2_5.size
          obtain ⟨w_2_5_7, Hw_2_5_7⟩ : ∃ W, Hid (w_2_5.alloc (.cells #[.slice none 0 0, .slice none 0 0, .slice none 0 0] 40) = W) := ⟨_, rfl⟩
          rw [Hw_2_5_7.out] at hb_2_5_7 V_2_5_7 ⊢
          obtain ⟨g_2_5_7, Hg_2_5_7⟩ : ∃ g, Hid (w_2_5.heap.size = g) := ⟨_, rfl⟩
          rw [Hg_2_5_7.out] at V_2_5_7 ge_g_2_5_7 ⊢
          have hg_2_5_7 : Grew WB w_2_5_7 := grew_step hg_2_5 hb_2_5_7
          have C1_2_5_7 := C1_2_5.below hb_2_5_7 (Nat.le_refl _)
          have C2_2_5_7 := C2_2_5.below hb_2_5_7 (Nat.le_refl _)
          refine hK.out _ _ (HK.out _ hg_2_5_7) (fun _ => ?_)
          clear hK K
          try simp only [Act.put, List.setIfInBounds_toArray, List.set_cons_zero, List.set_cons_succ]
          refine wpAnyH_ready (rs := [8]) (by kernel_rfl) (by simp) ?_
          refine (AllReadyH.cons (o := _) rfl (fun K hK => ?_) AllReadyH.nil)
          have c0 := V_2_5_7.get 0 rfl
          have n0 := V_2_5_7.free 0
          have c1 := V_2_5_7.get 1 rfl
          have n1 := V_2_5_7.free 1
          have c2 := V_2_5_7.get 2 rfl
          have n2 := V_2_5_7.free 2
          go_simp
          have V_2_5_7_8 := (((V_2_5_7.set 0 (.slice x_2 p_2.length y_2)).set 1 (.slice x_2_5 p_2_5.length y_2_5)).set 2 (.slice none 0 0))
          simp only [List.set_cons_zero, List.set_cons_succ] at V_2_5_7_8
          have C1_2_5_7_8 := (((C1_2_5_7.setV V_2_5_7 0 (.slice x_2 p_2.length y_2)).setV (V_2_5_7.set 0 (.slice x_2 p_2.length y_2)) 1 (.slice x_2_5 p_2_5.length y_2_5)).setV ((V_2_5_7.set 0 (.slice x_2 p_2.length y_2)).set 1 (.slice x_2_5 p_2_5.length y_2_5)) 2 (.slice none 0 0))
          have C2_2_5_7_8 := (((C2_2_5_7.setV V_2_5_7 0 (.slice x_2 p_2.length y_2)).setV (V_2_5_7.set 0 (.slice x_2 p_2.length y_2)) 1 (.slice x_2_5 p_2_5.length y_2_5)).setV ((V_2_5_7.set 0 (.slice x_2 p_2.length y_2)).set 1 (.slice x_2_5 p_2_5.length y_2_5)) 2 (.slice none 0 0))
          have gg_2_5_7_8 : Grew WB _ := (Below.setCell (Below.setCell (Below.setCell hg_2_5_7 (p := ⟨g_2_5_7, 0, none⟩) ge_g_2_5_7 (.slice x_2 p_2.length y_2)) (p := ⟨g_2_5_7, 1, none⟩) ge_g_2_5_7 (.slice x_2_5 p_2_5.length y_2_5)) (p := ⟨g_2_5_7, 2, none⟩) ge_g_2_5_7 (.slice none 0 0))
          obtain ⟨w_2_5_7_8, Hw_2_5_7_8⟩ : ∃ W, Hid ((((w_2_5_7.setCell ⟨g_2_5_7, 0, none⟩ (.slice x_2 p_2.length y_2)).setCell ⟨g_2_5_7, 1, none⟩ (.slice x_2_5 p_2_5.length y_2_5)).setCell ⟨g_2_5_7, 2, none⟩ (.slice none 0 0)) = W) := ⟨_, rfl⟩
          rw [Hw_2_5_7_8.out] at V_2_5_7_8 C1_2_5_7_8 C2_2_5_7_8 gg_2_5_7_8 ⊢
          clear c0 c1 c2 n0 n1 n2
          have hg_2_5_7_8 : Grew WB w_2_5_7_8 := gg_2_5_7_8
          refine hK.out _ _ (HK.out _ hg_2_5_7_8) (fun _ => ?_)
          clear hK K
          try simp only [Act.put, List.setIfInBounds_toArray, List.set_cons_zero, List.set_cons_succ]
          refine wpAnyH_done (by kernel_rfl) ?_ _
          go_wp2_with fail
          go_meet
          exact ⟨_, _, _, _, _, rfl, hm_2, hm_2_5, ⟨V_2_5_7_8, C1_2_5_7_8, C2_2_5_7_8, RowA.nil _ _, hg_2_5_7_8, ge_g_2_5_7⟩⟩
        · skip
          go_simp
          have hb_2_7 := Below.plus (Below.refl w_2.heap.size w_2) (.cells #[.slice none 0 0, .slice none 0 0, .slice none 0 0] 40)
          have V_2_7 := Box.new w_2 [.slice none 0 0, .slice none 0 0, .slice none 0 0] 40
          have ge_g_2_7 : WB.heap.size ≤ w_2.heap.size := hg_2.size
          obtain ⟨w_2_7, Hw_2_7⟩ : ∃ W, Hid (w_2.alloc (.cells #[.slice none 0 0, .slice none 0 0, .slice none 0 0] 40) = W) := ⟨_, rfl⟩
          rw [Hw_2_7.out] at hb_2_7 V_2_7 ⊢
          obtain ⟨g_2_7, Hg_2_7⟩ : ∃ g, Hid (w_2.heap.size = g) := ⟨_, rfl⟩
          rw [Hg_2_7.out] at V_2_7 ge_g_2_7 ⊢
          have hg_2_7 : Grew WB w_2_7 := grew_step hg_2 hb_2_7
          have C1_2_7 := C1_2.below hb_2_7 (Nat.le_refl _)
          refine hK.out _ _ (HK.out _ hg_2_7) (fun _ => ?_)
          clear hK K
          try simp only [Act.put, List.setIfInBounds_toArray, List.set_cons_zero, List.set_cons_succ]
          refine wpAnyH_ready (rs := [5]) (by kernel_rfl) (by simp) ?_
          refine (AllReadyH.cons (o := _) rfl (fun K hK => ?_) AllReadyH.nil)
          go_simp
          refine (cells_ref4 _ s.lives true _ (L2.out.below hg_2_7 (Nat.le_refl _)) (by omega)).mono ?_
          rintro e w_2_7_5 ⟨v_2_7_5, rfl, p_2_7_5, hm_2_7_5, hc_2_7_5, hb_2_7_5⟩
          obtain ⟨x_2_7_5, y_2_7_5, hv_2_7_5⟩ := hc_2_7_5.slice
          subst hv_2_7_5
          have C2_2_7_5 := hc_2_7_5.base hg_2_7.size
          have hg_2_7_5 : Grew WB w_2_7_5 := grew_step hg_2_7 hb_2_7_5
          have C1_2_7_5 := C1_2_7.below hb_2_7_5 (Nat.le_refl _)
          have V_2_7_5 := V_2_7.below hb_2_7_5 (Nat.le_refl _)
          refine hK.out _ _ (HK.out _ hg_2_7_5) (fun _ => ?_)
          clear hK K
          try simp only [Act.put, List.setIfInBounds_toArray, List.set_cons_zero, List.set_cons_succ]
          refine take_yes 6 27 (.agg #[.slice x_2 p_2.length y_2, .slice x_2_7_5 p_2_7_5.length y_2_7_5, .slice none 0 0]) rfl rfl (by kernel_rfl) (by kernel_rfl) (by kernel_rfl) (fun _ _ _ h => h) rfl (by intro w hSw; (try dsimp only at hSw); go_simp) (by assumption) ?_
          simp only [Act.put, List.setIfInBounds_toArray, List.set_cons_zero, List.set_cons_succ]
          refine wpAnyH_ready (rs := [8]) (by kernel_rfl) (by simp) ?_
          refine (AllReadyH.cons (o := _) rfl (fun K hK => ?_) AllReadyH.nil)
          have c0 := V_2_7_5.get 0 rfl
          have n0 := V_2_7_5.free 0
          have c1 := V_2_7_5.get 1 rfl
          have n1 := V_2_7_5.free 1
          have c2 := V_2_7_5.get 2 rfl
          have n2 := V_2_7_5.free 2
          go_simp
          have V_2_7_5_8 := (((V_2_7_5.set 0 (.slice x_2 p_2.length y_2)).set 1 (.slice x_2_7_5 p_2_7_5.length y_2_7_5)).set 2 (.slice none 0 0))
          simp only [List.set_cons_zero, List.set_cons_succ] at V_2_7_5_8
          have C1_2_7_5_8 := (((C1_2_7_5.setV V_2_7_5 0 (.slice x_2 p_2.length y_2)).setV (V_2_7_5.set 0 (.slice x_2 p_2.length y_2)) 1 (.slice x_2_7_5 p_2_7_5.length y_2_7_5)).setV ((V_2_7_5.set 0 (.slice x_2 p_2.length y_2)).set 1 (.slice x_2_7_5 p_2_7_5.length y_2_7_5)) 2 (.slice none 0 0))
          have C2_2_7_5_8 := (((C2_2_7_5.setV V_2_7_5 0 (.slice x_2 p_2.length y_2)).setV (V_2_7_5.set 0 (.slice x_2 p_2.length y_2)) 1 (.slice x_2_7_5 p_2_7_5.length y_2_7_5)).setV ((V_2_7_5.set 0 (.slice x_2 p_2.length y_2)).set 1 (.slice x_2_7_5 p_2_7_5.length y_2_7_5)) 2 (.slice none 0 0))
          have gg_2_7_5_8 : Grew WB _ := (Below.setCell (Below.setCell (Below.setCell hg_2_7_5 (p := ⟨g_2_7, 0, none⟩) ge_g_2_7 (.slice x_2 p_2.length y_2)) (p := ⟨g_2_7, 1, none⟩) ge_g_2_7 (.slice x_2_7_5 p_2_7_5.length y_2_7_5)) (p := ⟨g_2_7, 2, none⟩) ge_g_2_7 (.slice none 0 0))
          obtain ⟨w_2_7_5_8, Hw_2_7_5_8⟩ : ∃ W, Hid ((((w_2_7_5.setCell ⟨g_2_7, 0, none⟩ (.slice x_2 p_2.length y_2)).setCell ⟨g_2_7, 1, none⟩ (.slice x_2_7_5 p_2_7_5.length y_2_7_5)).setCell ⟨g_2_7, 2, none⟩ (.slice none 0 0)) = W) := ⟨_, rfl⟩
          rw [Hw_2_7_5_8.out] at V_2_7_5_8 C1_2_7_5_8 C2_2_7_5_8 gg_2_7_5_8 ⊢
          clear c0 c1 c2 n0 n1 n2
          have hg_2_7_5_8 : Grew WB w_2_7_5_8 := gg_2_7_5_8
          refine hK.out _ _ (HK.out _ hg_2_7_5_8) (fun _ => ?_)
          clear hK K
          try simp only [Act.put, List.setIfInBounds_toArray, List.set_cons_zero, List.set_cons_succ]
          refine wpAnyH_done (by kernel_rfl) ?_ _
          go_wp2_with fail
          go_meet
          exact ⟨_, _, _, _, _, rfl, hm_2, hm_2_7_5, ⟨V_2_7_5_8, C1_2_7_5_8, C2_2_7_5_8, RowA.nil _ _, hg_2_7_5_8, ge_g_2_7⟩⟩
      · skip
        go_simp
        have hb_7 := Below.plus (Below.refl wd.heap.size wd) (.cells #[.slice none 0 0, .slice none 0 0, .slice none 0 0] 40)
        have V_7 := Box.new wd [.slice none 0 0, .slice none 0 0, .slice none 0 0] 40
        have ge_g_7 : WB.heap.size ≤ wd.heap.size := hgd.size
        obtain ⟨w_7, Hw_7⟩ : ∃ W, Hid (wd.alloc (.cells #[.slice none 0 0, .slice none 0 0, .slice none 0 0] 40) = W) := ⟨_, rfl⟩
        rw [Hw_7.out] at hb_7 V_7 ⊢
        obtain ⟨g_7, Hg_7⟩ : ∃ g, Hid (wd.heap.size = g) := ⟨_, rfl⟩
        rw [Hg_7.out] at V_7 ge_g_7 ⊢
        have hg_7 : Grew WB w_7 := grew_step hgd hb_7
        refine hK.out _ _ (HK.out _ hg_7) (fun _ => ?_)
        clear hK K
        try simp only [Act.put, List.setIfInBounds_toArray, List.set_cons_zero, List.set_cons_succ]
        refine wpAnyH_ready (rs := [2]) (by kernel_rfl) (by simp) ?_
        refine (AllReadyH.cons (o := _) rfl (fun K hK => ?_) AllReadyH.nil)
        go_simp
        refine (cells_ref4 _ s.lives false _ (L2.out.below hg_7 (Nat.le_refl _)) (by omega)).mono ?_
        rintro e w_7_2 ⟨v_7_2, rfl, p_7_2, hm_7_2, hc_7_2, hb_7_2⟩
        obtain ⟨x_7_2, y_7_2, hv_7_2⟩ := hc_7_2.slice
        subst hv_7_2
        have C1_7_2 := hc_7_2.base hg_7.size
        have hg_7_2 : Grew WB w_7_2 := grew_step hg_7 hb_7_2
        have V_7_2 := V_7.below hb_7_2 (Nat.le_refl _)
        refine hK.out _ _ (HK.out _ hg_7_2) (fun _ => ?_)
        clear hK K
        try simp only [Act.put, List.setIfInBounds_toArray, List.set_cons_zero, List.set_cons_succ]
        refine wpAnyH_ready (rs := [5]) (by kernel_rfl) (by simp) ?_
        refine (AllReadyH.cons (o := _) rfl (fun K hK => ?_) AllReadyH.nil)
        go_simp
        refine (cells_ref4 _ s.lives true _ (L2.out.below hg_7_2 (Nat.le_refl _)) (by omega)).mono ?_
        rintro e w_7_2_5 ⟨v_7_2_5, rfl, p_7_2_5, hm_7_2_5, hc_7_2_5, hb_7_2_5⟩
        obtain ⟨x_7_2_5, y_7_2_5, hv_7_2_5⟩ := hc_7_2_5.slice
        subst hv_7_2_5
        have C2_7_2_5 := hc_7_2_5.base hg_7_2.size
        have hg_7_2_5 : Grew WB w_7_2_5 := grew_step hg_7_2 hb_7_2_5
        have V_7_2_5 := V_7_2.below hb_7_2_5 (Nat.le_refl _)
        have C1_7_2_5 := C1_7_2.below hb_7_2_5 (Nat.le_refl _)
        refine hK.out _ _ (HK.out _ hg_7_2_5) (fun _ => ?_)
        clear hK K
        try simp only [Act.put, List.setIfInBounds_toArray, List.set_cons_zero, List.set_cons_succ]
        refine take_yes 6 27 (.agg #[.slice x_7_2 p_7_2.length y_7_2, .slice x_7_2_5 p_7_2_5.length y_7_2_5, .slice none 0 0]) rfl rfl (by kernel_rfl) (by kernel_rfl) (by kernel_rfl) (fun _ _ _ h => h) rfl (by intro w hSw; (try dsimp only at hSw); go_simp) (by assumption) ?_
        simp only [Act.put, List.setIfInBounds_toArray, List.set_cons_zero, List.set_cons_succ]
        refine wpAnyH_ready (rs := [8]) (by kernel_rfl) (by simp) ?_
        refine (AllReadyH.cons (o := _) rfl (fun K hK => ?_) AllReadyH.nil)
        have c0 := V_7_2_5.get 0 rfl
        have n0 := V_7_2_5.free 0
        have c1 := V_7_2_5.get 1 rfl
        have n1 := V_7_2_5.free 1
        have c2 := V_7_2_5.get 2 rfl
        have n2 := V_7_2_5.free 2
        go_simp
        have V_7_2_5_8 := (((V_7_2_5.set 0 (.slice x_7_2 p_7_2.length y_7_2)).set 1 (.slice x_7_2_5 p_7_2_5.length y_7_2_5)).set 2 (.slice none 0 0))
        simp only [List.set_cons_zero, List.set_cons_succ] at V_7_2_5_8
        have C1_7_2_5_8 := (((C1_7_2_5.setV V_7_2_5 0 (.slice x_7_2 p_7_2.length y_7_2)).setV (V_7_2_5.set 0 (.slice x_7_2 p_7_2.length y_7_2)) 1 (.slice x_7_2_5 p_7_2_5.length y_7_2_5)).setV ((V_7_2_5.set 0 (.slice x_7_2 p_7_2.length y_7_2)).set 1 (.slice x_7_2_5 p_7_2_5.length y_7_2_5)) 2 (.slice none 0 0))
        have C2_7_2_5_8 := (((C2_7_2_5.setV V_7_2_5 0 (.slice x_7_2 p_7_2.length y_7_2)).setV (V_7_2_5.set 0 (.slice x_7_2 p_7_2.length y_7_2)) 1 (.slice x_7_2_5 p_7_2_5.length y_7_2_5)).setV ((V_7_2_5.set 0 (.slice x_7_2 p_7_2.length y_7_2)).set 1 (.slice x_7_2_5 p_7_2_5.length y_7_2_5)) 2 (.slice none 0 0))
        have gg_7_2_5_8 : Grew WB _ := (Below.setCell (Below.setCell (Below.setCell hg_7_2_5 (p := ⟨g_7, 0, none⟩) ge_g_7 (.slice x_7_2 p_7_2.length y_7_2)) (p := ⟨g_7, 1, none⟩) ge_g_7 (.slice x_7_2_5 p_7_2_5.length y_7_2_5)) (p := ⟨g_7, 2, none⟩) ge_g_7 (.slice none 0 0))
        obtain ⟨w_7_2_5_8, Hw_7_2_5_8⟩ : ∃ W, Hid ((((w_7_2_5.setCell ⟨g_7, 0, none⟩ (.slice x_7_2 p_7_2.length y_7_2)).setCell ⟨g_7, 1, none⟩ (.slice x_7_2_5 p_7_2_5.length y_7_2_5)).setCell ⟨g_7, 2, none⟩ (.slice none 0 0)) = W) := ⟨_, rfl⟩
        rw [Hw_7_2_5_8.out] at V_7_2_5_8 C1_7_2_5_8 C2_7_2_5_8 gg_7_2_5_8 ⊢
        clear c0 c1 c2 n0 n1 n2
        have hg_7_2_5_8 : Grew WB w_7_2_5_8 := gg_7_2_5_8
        refine hK.out _ _ (HK.out _ hg_7_2_5_8) (fun _ => ?_)
        clear hK K
        try simp only [Act.put, List.setIfInBounds_toArray, List.set_cons_zero, List.set_cons_succ]
        refine wpAnyH_done (by kernel_rfl) ?_ _
        go_wp2_with fail
        go_meet
        exact ⟨_, _, _, _, _, rfl, hm_7_2, hm_7_2_5, ⟨V_7_2_5_8, C1_7_2_5_8, C2_7_2_5_8, RowA.nil _ _, hg_7_2_5_8, ge_g_7⟩⟩
    case rest =>
      obtain ⟨gv, r1, r2, p1, p2, rfl, HM1, HM2, V3⟩ := hcut
      obtain ⟨w3, rfl⟩ : ∃ w3, w3 = wc := ⟨wc, rfl⟩
      obtain ⟨i0, hi, hz0, hz1, hz2⟩ := info_parts Try.infoPair
      have htl : s.tals.length ≤ 100 := hfew.2
      go_wp2_with fail
      go_loopw [6] (fun q wr => ∃ (key : Nat) (cv : Value), key ≤ 16 ∧ q = .int .i64 key ∧ Hid (VI WB wr WB.heap.size gv r1 r2 cv p1 p2 (countR s.tals key))) (fun q _ => 16 - (intOf q).toNat)
      case atStart => exact ⟨0, _, Nat.zero_le _, rfl, V3⟩
      case round =>
        obtain ⟨key, cv, hkey, rfl, V4⟩ := hrel
        obtain ⟨w4, rfl⟩ : ∃ w4, w4 = wr := ⟨wr, rfl⟩
        clear V3
        by_cases hk16 : key < 16
        · have hk16' : (key : Int) ≤ 15 := by omega
          have k2 := (G2.out.below V4.out.bl (Nat.le_refl _)).get 2 rfl
          go_wp2_with fail
          clear k2
          go_loopw [7, 8, 35] (fun sm so q wr => ∃ (j : Nat) (z : Int) (b : Bool), j ≤ s.tals.length ∧ q = .int .i64 j ∧ sm = .int .i64 z ∧ so = .bool b ∧ Hid (z = sumK (s.tals.take j) key) ∧ Hid (b = true ↔ hitK key (s.tals.take j) ≠ []) ∧ Hid (-(1000000 * (j : Int)) ≤ z ∧ z ≤ 1000000 * (j : Int)) ∧ Hid (Below w4.heap.size w4 wr)) (fun _ _ q _ => s.tals.length - (intOf q).toNat)
          case atStart => exact ⟨0, 0, false, Nat.zero_le _, rfl, rfl, rfl, hide (by simp [sumK]), hide (by simp [hitK]), hide (by simp), hide (Below.refl _ _)⟩
          case round =>
            obtain ⟨j, z, b, hj, rfl, rfl, rfl, HZ, HBB, HZB, HB5⟩ := hrel
            obtain ⟨w5, rfl⟩ : ∃ w5, w5 = wr := ⟨wr, rfl⟩
            have hzl : -100000000 ≤ z := by have := HZB.out; omega
            have hzu : z ≤ 100000000 := by have := HZB.out; omega
            by_cases hlt : j < s.tals.length
            · have hlt' : (j : Int) < (s.tals.length : Int) := by omega
              obtain ⟨t, HT⟩ : ∃ t, Hid (s.tals[j]? = some t) := ⟨_, List.getElem?_eq_getElem hlt⟩
              have HSU := hide (HSM.out t (List.mem_of_getElem? HT.out))
              obtain ⟨tk, ta, ts⟩ := t
              have hs1 : -1000000 ≤ ts := HSU.out.1
              have hs2 : ts ≤ 1000000 := HSU.out.2
              obtain ⟨HH1, HH2⟩ := hitK_snoc (key := key) HT.out
              have HS1 := hide HH1
              have HS2 := hide HH2
              clear HH1 HH2
              have HBV := hide (V4.out.bl.trans (HB5.out.mono V4.out.bl.size))
              obtain ⟨tb, to', hta, d0, d1, d2⟩ := talsAt (T2.out.below HBV.out (Nat.le_refl _)) HT.out
              subst hta
              have hbp := Below.plus (Below.refl w5.heap.size w5) (.cells #[.int .i64 tk, .int .i64 ta, .int .i64 ts] 58)
              have X6 := hide (Box.new w5 [.int .i64 tk, .int .i64 ta, .int .i64 ts] 58)
              have HB6 := hide (below_step HB5.out hbp)
              obtain ⟨gx, HGX⟩ : ∃ gx, Hid (w5.heap.size = gx) := ⟨_, rfl⟩
              obtain ⟨w6, HW6⟩ : ∃ W, Hid (w5.alloc (.cells #[.int .i64 tk, .int .i64 ta, .int .i64 ts] 58) = W) := ⟨_, rfl⟩
              rw [HW6.out] at X6 HB6
              rw [HGX.out] at X6
              clear hbp HB5
              go_upto_region 12 with fail
              rw [HW6.out, HGX.out]
              clear d0 d1 d2
              have x0 := X6.out.get 0 rfl
              have x2 := X6.out.get 2 rfl
              by_cases hk : tk = (key : Int)
              · have hk' : (tk == (key : Int)) = true := by simp [hk]
                have HZ1 : Hid (z + ts = sumK (s.tals.take (j + 1)) key) := by unfold Hid; rw [HS2.out, if_pos hk, HZ.out]
                have HB1 : Hid (true = true ↔ hitK key (s.tals.take (j + 1)) ≠ []) := by unfold Hid; rw [HS1.out, if_pos hk]; simp
                clear hk
                go_wp2_with fail
                go_roundw
                case rel => exact ⟨j + 1, z + ts, true, by omega, by go_num, by go_num, rfl, HZ1, HB1, hide (by have := HZB.out; omega), HB6⟩
                case measure => simp [intOf]; omega
              · have hk' : (tk == (key : Int)) = false := by simp [hk]
                have HZ1 : Hid (z = sumK (s.tals.take (j + 1)) key) := by unfold Hid; rw [HS2.out, if_neg hk, HZ.out, Int.add_zero]
                have HB1 : Hid (b = true ↔ hitK key (s.tals.take (j + 1)) ≠ []) := by unfold Hid; rw [HS1.out, if_neg hk]; exact HBB.out
                clear hk
                go_wp2_with fail
                go_roundw
                case rel => exact ⟨j + 1, z, b, by omega, by go_num, rfl, rfl, HZ1, HB1, hide (by have := HZB.out; omega), HB6⟩
                case measure => simp [intOf]; omega
            · have hlt' : ¬ (j : Int) < (s.tals.length : Int) := by omega
              have hjl : s.tals.take j = s.tals := List.take_of_length_le (by omega)
              rw [hjl] at HZ HBB
              clear hjl
              have V5 := hide (V4.out.below HB5.out)
              cases b with
              | false =>
                have HCR : Hid (countR s.tals (key + 1) = countR s.tals key) := by unfold Hid; rw [countR, if_pos (Decidable.not_not.1 (fun h => absurd (HBB.out.2 h) (by decide))), List.append_nil]
                go_wp2_with fail
                go_roundw
                case rel => exact ⟨key + 1, cv, by omega, by go_num, by rw [HCR.out]; exact V5⟩
                case measure => simp [intOf]; omega
              | true =>
                have HCR : Hid (countR s.tals (key + 1) = countR s.tals key ++ [((key : Int), z)]) := by unfold Hid; rw [countR, if_neg (HBB.out.1 rfl), HZ.out]
                have HCL := hide (countR_len (l := s.tals) key)
                have b2 := V5.out.box.get 2 rfl
                have HSB := hide (Nat.le_trans V5.out.ge (Nat.le_of_lt V5.out.box.lt))
                have VA := hide (V5.out.below ((Below.refl w5.heap.size w5).alloc (Nat.le_refl _) (.cells #[.int .i64 (key : Int), .int .i64 z] 82)))
                go_wp2_with (at_builtin; refine wpList_append_own _ rfl (.tmp 50) (.tmp 54) 38 rfl WB.heap.size 82 i0 (.agg #[.int .i64 0, .int .i64 0]) 2 16 Try.underlying38 hi hz0 hz1 hz2 rfl (by decide) _ _ _ rfl VA.out.cn ⟨w5.heap.size, 0, none⟩ 1 1 (encC ((key : Int), z)) rfl rfl ?c1 ?c2 ?c3 ?c4 ?c5 ?_)
                case c1 => exact fun _ _ h => h
                case c2 => exact encC_one ((key : Int), z)
                case c3 => unfold maxLen; have := HCL.out; omega
                case c4 => have := HCL.out; omega
                case c5 => have := HSB.out; simp; omega
                intro v' w6 hown' hgrow _
                have R6 : RowA 82 2 encC w6 WB.heap.size v' (countR s.tals key ++ [((key : Int), z)]) := RowA.more hown'
                obtain ⟨CC, HCC⟩ : ∃ CC, Hid (countR s.tals key ++ [((key : Int), z)] = CC) := ⟨_, rfl⟩
                rw [HCC.out] at R6 HCR
                obtain ⟨va, vc, hvv, -⟩ := slice_of_own encC_length R6
                subst hvv
                obtain ⟨B6, V7⟩ := VA.out.more hgrow (by have := HSB.out; simp; omega) R6
                have HV7 := hide V7
                have c2' := B6.get 2 rfl
                have f2' := B6.free 2
                clear hown' hgrow b2 R6 V7 B6 V5 VA
                go_wp2_with fail
                go_roundw
                case rel => exact ⟨key + 1, _, by omega, by go_num, by rw [HCR.out]; exact HV7⟩
                case measure => simp [intOf]; omega
        · have hk16' : ¬ (key : Int) ≤ 15 := by omega
          obtain rfl : key = 16 := by omega
          have HXX : Hid (X = ⟨p1.map (·.1), p2.map (·.1), countR s.tals 16⟩) := by
            unfold Hid
            rw [← HX.out, HM1.out, HM2.out, cellsR_all HOK.out.order (fun x hx => by have := HOK.out.lives x hx; unfold liveOk at this; omega), cellsR_all HOK.out.order (fun x hx => by have := HOK.out.lives x hx; unfold liveOk at this; omega), countR_all HOK.out.ord (fun t ht => by have := HOK.out.tals t ht; unfold talOk at this; omega)]
          obtain ⟨CC, HCC⟩ : ∃ CC, Hid (countR s.tals 16 = CC) := ⟨_, rfl⟩
          rw [HCC.out] at V4 HXX
          obtain ⟨q1, q2, e1⟩ := V4.out.c1.slice
          obtain ⟨q3, q4, e2⟩ := V4.out.c2.slice
          obtain ⟨q5, q6, e3, -⟩ := slice_of_own encC_length V4.out.cn
          subst e1
          subst e2
          subst e3
          have R4 := R2.out.below V4.out.bl (Nat.le_refl _)
          have Z4 := Z2.out.below V4.out.bl (Nat.le_refl _)
          have b0 := V4.out.box.get 0 rfl
          have b1 := V4.out.box.get 1 rfl
          have b2 := V4.out.box.get 2 rfl
          have r0 := R4.get 0 rfl
          have fr0 := R4.free 0
          have r1 := R4.get 1 rfl
          have fr1 := R4.free 1
          have r2 := R4.get 2 rfl
          have fr2 := R4.free 2
          have z0 := Z4.get 0 rfl
          have fz0 := Z4.free 0
          have z1 := Z4.get 1 rfl
          have fz1 := Z4.free 1
          have hR := (((((R4.set 0 (.slice q1 p1.length q2)).set 1 (.slice q3 p2.length q4)).set 2 (.slice q5 CC.length q6)).away (g' := w.heap.size + 1 + 1) (i := 0) (v := .int .i64 0) (by omega)).away (g' := w.heap.size + 1 + 1) (i := 1) (v := .int .i64 0) (by omega))
          have hZ := (((((Z4.away (g' := w.heap.size + 1) (i := 0) (v := .slice q1 p1.length q2) (by omega)).away (g' := w.heap.size + 1) (i := 1) (v := .slice q3 p2.length q4) (by omega)).away (g' := w.heap.size + 1) (i := 2) (v := .slice q5 CC.length q6) (by omega)).set 0 (.int .i64 0)).set 1 (.int .i64 0))
          have hC1 := hide (((((V4.out.c1.setV R4 0 (.slice q1 p1.length q2)).setV (R4.set 0 (.slice q1 p1.length q2)) 1 (.slice q3 p2.length q4)).setV ((R4.set 0 (.slice q1 p1.length q2)).set 1 (.slice q3 p2.length q4)) 2 (.slice q5 CC.length q6)).setF (((Z4.away (g' := w.heap.size + 1) (i := 0) (v := .slice q1 p1.length q2) (by omega)).away (g' := w.heap.size + 1) (i := 1) (v := .slice q3 p2.length q4) (by omega)).away (g' := w.heap.size + 1) (i := 2) (v := .slice q5 CC.length q6) (by omega)) 0 (.int .i64 0)).setF ((((Z4.away (g' := w.heap.size + 1) (i := 0) (v := .slice q1 p1.length q2) (by omega)).away (g' := w.heap.size + 1) (i := 1) (v := .slice q3 p2.length q4) (by omega)).away (g' := w.heap.size + 1) (i := 2) (v := .slice q5 CC.length q6) (by omega)).set 0 (.int .i64 0)) 1 (.int .i64 0))
          have hC2 := hide (((((V4.out.c2.setV R4 0 (.slice q1 p1.length q2)).setV (R4.set 0 (.slice q1 p1.length q2)) 1 (.slice q3 p2.length q4)).setV ((R4.set 0 (.slice q1 p1.length q2)).set 1 (.slice q3 p2.length q4)) 2 (.slice q5 CC.length q6)).setF (((Z4.away (g' := w.heap.size + 1) (i := 0) (v := .slice q1 p1.length q2) (by omega)).away (g' := w.heap.size + 1) (i := 1) (v := .slice q3 p2.length q4) (by omega)).away (g' := w.heap.size + 1) (i := 2) (v := .slice q5 CC.length q6) (by omega)) 0 (.int .i64 0)).setF ((((Z4.away (g' := w.heap.size + 1) (i := 0) (v := .slice q1 p1.length q2) (by omega)).away (g' := w.heap.size + 1) (i := 1) (v := .slice q3 p2.length q4) (by omega)).away (g' := w.heap.size + 1) (i := 2) (v := .slice q5 CC.length q6) (by omega)).set 0 (.int .i64 0)) 1 (.int .i64 0))
          have hCN := hide (row_setT (row_setT (row_setT (row_setT (row_setT V4.out.cn R4 (by decide) 0 (.slice q1 p1.length q2)) (R4.set 0 (.slice q1 p1.length q2)) (by decide) 1 (.slice q3 p2.length q4)) ((R4.set 0 (.slice q1 p1.length q2)).set 1 (.slice q3 p2.length q4)) (by decide) 2 (.slice q5 CC.length q6)) (((Z4.away (g' := w.heap.size + 1) (i := 0) (v := .slice q1 p1.length q2) (by omega)).away (g' := w.heap.size + 1) (i := 1) (v := .slice q3 p2.length q4) (by omega)).away (g' := w.heap.size + 1) (i := 2) (v := .slice q5 CC.length q6) (by omega)) (by decide) 0 (.int .i64 0)) ((((Z4.away (g' := w.heap.size + 1) (i := 0) (v := .slice q1 p1.length q2) (by omega)).away (g' := w.heap.size + 1) (i := 1) (v := .slice q3 p2.length q4) (by omega)).away (g' := w.heap.size + 1) (i := 2) (v := .slice q5 CC.length q6) (by omega)).set 0 (.int .i64 0)) (by decide) 1 (.int .i64 0))
          have hBB := hide ((((((HB2.out.trans (V4.out.bl.mono HB2.out.size)).setCell (p := ⟨w.heap.size + 1, 0, none⟩) (by show w.heap.size ≤ w.heap.size + 1; omega) (.slice q1 p1.length q2)).setCell (p := ⟨w.heap.size + 1, 1, none⟩) (by show w.heap.size ≤ w.heap.size + 1; omega) (.slice q3 p2.length q4)).setCell (p := ⟨w.heap.size + 1, 2, none⟩) (by show w.heap.size ≤ w.heap.size + 1; omega) (.slice q5 CC.length q6)).setCell (p := ⟨w.heap.size + 1 + 1, 0, none⟩) (by show w.heap.size ≤ w.heap.size + 1 + 1; omega) (.int .i64 0)).setCell (p := ⟨w.heap.size + 1 + 1, 1, none⟩) (by show w.heap.size ≤ w.heap.size + 1 + 1; omega) (.int .i64 0))
          have hq0 := hqq.out
          subst hq0
          go_wp2_with fail
          refine bodyPost_ret (results_cell_cell rfl _ _ (w.heap.size + 1) (w.heap.size + 1 + 1) 40 31 _ _ (0, 0) (0, 0) _ _ rfl hR Try.underlying40 rfl Try.sizeView rfl hZ Try.underlying31 rfl Try.sizeFault) rfl ⟨_, rfl, ?_, hBB.out⟩
          rw [HXX.out]
          exact ⟨_, _, _, rfl, hC1.out.read, hC2.out.read, slice_of_own encC_length hCN.out⟩
  · have hr' : (r != 0) = true := by simp [hr]
    rw [if_neg hr] at HX
    have hX := HX.out
    subst hX
    clear HX hr
    go_enter Try.func12, Try.ntmps12
    have cG0 := G0.out.get 0 rfl
    have cG1 := G0.out.get 1 rfl
    have cG2 := G0.out.get 2 rfl
    go_wp2_with fail
    refine (wrong_ref4 _ s s.clock.length _ S0.out).mono ?_
    rintro e w1 ⟨rfl, hb⟩
    have HB1 := hide (below_step HB0.out hb)
    have S1 := hide (S0.out.below hb (Nat.le_refl _))
    have L1 := hide (L0.out.below hb (Nat.le_refl _))
    have T1 := hide (T0.out.below hb (Nat.le_refl _))
    have G1 := hide (G0.out.below hb (Nat.le_refl _))
    have R1 := hide (R0.out.below hb (Nat.le_refl _))
    have Z1 := hide (Z0.out.below hb (Nat.le_refl _))
    clear HB0 hb S0 L0 T0 G0 R0 Z0
    rw [HR.out, HQ.out]
    have hzl := Z1.out.lt
    have n1 : ¬ (w1.heap.size = w.heap.size + 1) := by omega
    have n2 : ¬ (w.heap.size + 1 = w1.heap.size) := by omega
    have n3 : ¬ (w1.heap.size = w.heap.size + 2) := by omega
    have n4 : ¬ (w.heap.size + 2 = w1.heap.size) := by omega
    clear cG0 cG1 cG2
    have HB2 := hide (below_step HB1.out (Below.plus (Below.refl _ w1) (.cells #[.int .i64 r, .int .i64 q] 31)))
    have S2 := hide (S1.out.below (Below.plus (Below.refl _ w1) (.cells #[.int .i64 r, .int .i64 q] 31)) (Nat.le_refl _))
    have L2 := hide (L1.out.below (Below.plus (Below.refl _ w1) (.cells #[.int .i64 r, .int .i64 q] 31)) (Nat.le_refl _))
    have T2 := hide (T1.out.below (Below.plus (Below.refl _ w1) (.cells #[.int .i64 r, .int .i64 q] 31)) (Nat.le_refl _))
    have G2 := hide (G1.out.below (Below.plus (Below.refl _ w1) (.cells #[.int .i64 r, .int .i64 q] 31)) (Nat.le_refl _))
    have R2 := hide (R1.out.below (Below.plus (Below.refl _ w1) (.cells #[.int .i64 r, .int .i64 q] 31)) (Nat.le_refl _))
    have Z2 := hide (Z1.out.below (Below.plus (Below.refl _ w1) (.cells #[.int .i64 r, .int .i64 q] 31)) (Nat.le_refl _))
    have V2 := hide (Box.new w1 [.int .i64 r, .int .i64 q] 31)
    clear HB1 S1 L1 T1 G1 R1 Z1
    have cV0 := V2.out.get 0 rfl
    have cV1 := V2.out.get 1 rfl
    have cR0 := R2.out.get 0 rfl
    have cR1 := R2.out.get 1 rfl
    have cR2 := R2.out.get 2 rfl
    have cZ0 := Z2.out.get 0 rfl
    have cZ1 := Z2.out.get 1 rfl
    have f0 := R2.out.free 0
    have f1 := R2.out.free 1
    have f2 := R2.out.free 2
    have g0 := Z2.out.free 0
    have g1 := Z2.out.free 1
    go_upto_region 3 with fail
    go_region
    go_wp2_with fail
    have hR := ((((R2.out.set 0 (.slice none 0 0)).set 1 (.slice none 0 0)).set 2 (.slice none 0 0)).away (g' := w.heap.size + 1 + 1) (i := 0) (v := .int .i64 r) (by omega)).away (g' := w.heap.size + 1 + 1) (i := 1) (v := .int .i64 q) (by omega)
    have hZ := ((((Z2.out.away (g' := w.heap.size + 1) (i := 0) (v := .slice none 0 0) (by omega)).away (g' := w.heap.size + 1) (i := 1) (v := .slice none 0 0) (by omega)).away (g' := w.heap.size + 1) (i := 2) (v := .slice none 0 0) (by omega)).set 0 (.int .i64 r)).set 1 (.int .i64 q)
    refine bodyPost_ret (results_cell_cell rfl _ _ (w.heap.size + 1) (w.heap.size + 1 + 1) 40 31 _ _ (0, 0) (0, 0) _ _ rfl hR.drew Try.underlying40 rfl Try.sizeView rfl hZ.drew Try.underlying31 rfl Try.sizeFault) rfl ⟨_, rfl, (ViewO.none _ 0).read, ?_⟩
    exact (((((HB2.out.setCell (by show w.heap.size ≤ w.heap.size + 1; omega) _).setCell (by show w.heap.size ≤ w.heap.size + 1; omega) _).setCell (by show w.heap.size ≤ w.heap.size + 1; omega) _).setCell (by show w.heap.size ≤ w.heap.size + 1 + 1; omega) _).setCell (by show w.heap.size ≤ w.heap.size + 1 + 1; omega) _).drew
end Go.Proofs.Ytalglngjafkdjaa
