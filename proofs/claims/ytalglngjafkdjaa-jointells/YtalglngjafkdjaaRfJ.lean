/- The document's own Join, for every two states; JoinTells. -/
import Derived.Test.YtalglngjafkdjaaRfB
import Derived.Test.YtalglngjafkdjaaRefMix
import Derived.Test.YtalglngjafkdjaaStW
namespace Go.Proofs.Ytalglngjafkdjaa
open Go.RowKit

theorem box_grownT {w w' : World} {e t : TypeId} {sz n B g : Nat} {v : Value} {xs cs : List Value} (h : Box w g cs t) (hr : w.ownsRow B e sz v n xs) (hg : w.grownBy w' v.ownBlock) (hte : t ≠ e) : Box w' g cs t := by
  unfold Box
  rw [hg.block g h.lt (fun e => row_notBox hr h hte e.symm)]
  exact h
theorem rowAt {w : World} {a : Option Addr} {m c : Nat} {xs : List Int} (h : Row w (.slice a m c) xs) {i : Nat} (hi : i < xs.length) : ∃ b off, a = some ⟨b, off, none⟩ ∧ w.cell? ⟨b, off + i, none⟩ = some (.int .i64 (xs.getD i 0)) := by
  obtain ⟨a', c', h1, -, -, h4⟩ := h
  simp only [Value.slice.injEq] at h1
  obtain ⟨rfl, -, -⟩ := h1
  exact h4 i hi
theorem IsSt.parts {w : World} {x y z : Value} {s : StS} (h : IsSt w (.agg #[x, y, z]) s) : Row w x s.clock ∧ SliceV 5 encL w y s.lives ∧ SliceV 3 encT w z s.tals := by
  obtain ⟨cv, lv, tv, he, h1, h2, h3⟩ := h
  simp only [Value.agg.injEq, Array.mk.injEq, List.cons.injEq, and_true] at he
  obtain ⟨rfl, rfl, rfl⟩ := he
  exact ⟨h1, h2, h3⟩
theorem cell_grewJ {w w' : World} {p : Addr} {v : Value} (hg : Grew w w') (h : w.cell? p = some v) : w'.cell? p = some v := (hg.cell (p := p) (World.block_lt_of_cell? w _ h)).trans h
theorem pairUp {α : Type} {R S : α → α → Prop} (h : ∀ x y, R x y → S x y) : ∀ {l : List α}, l.Pairwise R → l.Pairwise S
  | [], _ => List.Pairwise.nil
  | x :: r, hp => by
    rw [List.pairwise_cons] at hp ⊢
    exact ⟨fun y hy => h _ _ (hp.1 y hy), pairUp h hp.2⟩
/-- One more of what the first has: it comes if the other one has it too, or had not seen it. -/
def refStep (th : StS) (out : List Live) (x : Live) : List Live := if hasL out x = true then out else if hasL th.lives x = true ∨ th.clock.getD x.author.toNat 0 < x.seq then insL x out else out
def refLives (th : StS) (out : List Live) (l : List Live) : List Live := l.foldl (refStep th) out
theorem mem_refStep {th : StS} {out : List Live} {x z : Live} : z ∈ refStep th out x ↔ z ∈ out ∨ (z = x ∧ (z ∈ th.lives ∨ th.clock.getD z.author.toNat 0 < z.seq)) := by
  unfold refStep
  by_cases h1 : hasL out x = true
  · rw [if_pos h1]
    rw [hasL_iff] at h1
    constructor
    · exact .inl
    · rintro (h | ⟨rfl, -⟩)
      · exact h
      · exact h1
  · rw [if_neg h1]
    split
    · next h2 =>
      rw [hasL_iff] at h2
      rw [mem_insL]
      constructor
      · rintro (rfl | h)
        · exact .inr ⟨rfl, h2⟩
        · exact .inl h
      · rintro (h | ⟨rfl, -⟩)
        · exact .inr h
        · exact .inl rfl
    · next h2 =>
      rw [hasL_iff] at h2
      constructor
      · exact .inl
      · rintro (h | ⟨rfl, h⟩)
        · exact h
        · exact absurd h h2
theorem refStep_ord {th : StS} {out : List Live} {x : Live} (h : InOrder out) : InOrder (refStep th out x) := by
  unfold refStep
  split
  · exact h
  · next h1 =>
    rw [hasL_iff] at h1
    split
    · exact inOrder_insL h h1
    · exact h
theorem refStep_len {th : StS} {out : List Live} {x : Live} : (refStep th out x).length ≤ out.length + 1 := by
  unfold refStep
  split
  · omega
  · split
    · rw [insL_len]; omega
    · omega
theorem refLives_snoc {th : StS} {out l : List Live} {k : Nat} {x : Live} (h : l[k]? = some x) : refLives th out (l.take (k + 1)) = refStep th (refLives th out (l.take k)) x := by
  obtain ⟨hk, rfl⟩ := List.getElem?_eq_some_iff.1 h
  unfold refLives
  rw [List.take_succ_eq_append_getElem hk, List.foldl_append]
  rfl
theorem refLives_len {th : StS} : ∀ {l out : List Live}, (refLives th out l).length ≤ out.length + l.length
  | [], out => by simp [refLives]
  | x :: r, out => by
    have h1 := refLives_len (th := th) (l := r) (out := refStep th out x)
    have h2 := refStep_len (th := th) (out := out) (x := x)
    show (refLives th (refStep th out x) r).length ≤ _
    rw [List.length_cons]
    omega
theorem refLives_all {th : StS} : ∀ {l out : List Live}, InOrder out → InOrder (refLives th out l) ∧ ∀ z, z ∈ refLives th out l ↔ z ∈ out ∨ (z ∈ l ∧ (z ∈ th.lives ∨ th.clock.getD z.author.toNat 0 < z.seq))
  | [], out, h => ⟨h, fun z => by simp [refLives]⟩
  | x :: r, out, h => by
    obtain ⟨h1, h2⟩ := refLives_all (th := th) (l := r) (refStep_ord (th := th) (x := x) h)
    refine ⟨h1, fun z => ?_⟩
    show z ∈ refLives th (refStep th out x) r ↔ _
    rw [h2, mem_refStep, List.mem_cons]
    constructor
    · rintro ((h | ⟨rfl, h⟩) | ⟨h, h'⟩)
      · exact .inl h
      · exact .inr ⟨.inl rfl, h⟩
      · exact .inr ⟨.inr h, h'⟩
    · rintro (h | ⟨rfl | h, h'⟩)
      · exact .inl (.inl h)
      · exact .inl (.inr ⟨rfl, h'⟩)
      · exact .inr ⟨h, h'⟩
section
variable {n : Int} {a b : StS}
theorem ref_lives (ha : OkS n a.clock a.lives a.tals) (hb : OkS n b.clock b.lives b.tals) : refLives a (refLives b [] a.lives) b.lives = sortA ltL (rawL a b) := by
  obtain ⟨h1, h2⟩ := refLives_all (th := b) (l := a.lives) (out := []) List.Pairwise.nil
  obtain ⟨h3, h4⟩ := refLives_all (th := a) (l := b.lives) h1
  refine pair_ext ltL_irr ltL_tr ?_ (sortA_pair ltL_tr (rawL_pair ha hb)) fun x => ?_
  · exact pairUp (fun _ _ h => ltL_iff.2 h) h3
  · rw [h4, h2, mem_sortA, mem_rawL ha hb]
    constructor
    · rintro ((h | ⟨h, h' | h'⟩) | ⟨h, h' | h'⟩)
      · simp at h
      · exact .inl ⟨h, h'⟩
      · exact .inr (.inl ⟨h, by omega⟩)
      · exact .inl ⟨h', h⟩
      · exact .inr (.inr ⟨h, by omega⟩)
    · rintro (⟨h, h'⟩ | ⟨h, h'⟩ | ⟨h, h'⟩)
      · exact .inr ⟨h', .inl h⟩
      · exact .inl (.inr ⟨h, .inr (by omega)⟩)
      · exact .inr ⟨h, .inr (by omega)⟩
end
/-- Whose tallies of author i come. -/
def fromS (a b : StS) (i : Nat) : StS := if a.clock.getD i 0 < b.clock.getD i 0 then b else a
def hitB (key i : Nat) (t : Tal) : Bool := decide (t.key = key) && decide (t.author = i)
def talsI (a b : StS) (key i : Nat) : List Tal := (List.range i).flatMap fun i => (fromS a b i).tals.filter (hitB key i)
def talsK (a b : StS) (n key : Nat) : List Tal := (List.range key).flatMap fun key => talsI a b key n
theorem talsI_succ (a b : StS) (key i : Nat) : talsI a b key (i + 1) = talsI a b key i ++ (fromS a b i).tals.filter (hitB key i) := by unfold talsI; rw [List.range_succ, List.flatMap_append]; simp
theorem talsK_succ (a b : StS) (n key : Nat) : talsK a b n (key + 1) = talsK a b n key ++ talsI a b key n := by unfold talsK; rw [List.range_succ, List.flatMap_append]; simp
theorem hit_take {key i : Nat} {l : List Tal} {k : Nat} {t : Tal} (h : l[k]? = some t) : (l.take (k + 1)).filter (hitB key i) = if hitB key i t = true then (l.take k).filter (hitB key i) ++ [t] else (l.take k).filter (hitB key i) := by
  obtain ⟨hk, rfl⟩ := List.getElem?_eq_some_iff.1 h
  rw [List.take_succ_eq_append_getElem hk, List.filter_append]
  split
  · next h => simp [h]
  · next h => simp [h]
theorem hitB_iff {key i : Nat} {t : Tal} : hitB key i t = true ↔ t.key = key ∧ t.author = i := by unfold hitB; rw [Bool.and_eq_true, decide_eq_true_iff, decide_eq_true_iff]
theorem mem_talsI {a b : StS} {key i : Nat} {t : Tal} : t ∈ talsI a b key i ↔ ∃ j, j < i ∧ t ∈ (fromS a b j).tals ∧ t.key = key ∧ t.author = j := by
  unfold talsI
  simp only [List.mem_flatMap, List.mem_range, List.mem_filter, hitB_iff]
theorem talsK_len {a b : StS} {n key m : Nat} (h1 : a.tals.length ≤ m) (h2 : b.tals.length ≤ m) : (talsK a b n key).length ≤ key * (n * m) := by
  have hI : ∀ (key i : Nat), (talsI a b key i).length ≤ i * m := by
    intro key i
    induction i with
    | zero => simp [talsI]
    | succ i ih =>
      rw [talsI_succ, List.length_append, Nat.succ_mul]
      have h3 := List.length_filter_le (hitB key i) (fromS a b i).tals
      have h4 : (fromS a b i).tals.length ≤ m := by unfold fromS; split <;> assumption
      omega
  induction key with
  | zero => simp [talsK]
  | succ key ih =>
    rw [talsK_succ, List.length_append, Nat.succ_mul]
    have := hI key n
    omega
section
variable {n : Nat} {a b : StS}
theorem from_ok (ha : OkS n a.clock a.lives a.tals) (hb : OkS n b.clock b.lives b.tals) (i : Nat) : OrdT (fromS a b i).tals ∧ ∀ t ∈ (fromS a b i).tals, 0 ≤ t.author ∧ t.author < n ∧ 0 ≤ t.key ∧ t.key ≤ 15 := by
  unfold fromS
  split
  · exact ⟨hb.ord, fun t ht => by have := hb.tals t ht; unfold talOk at this; omega⟩
  · exact ⟨ha.ord, fun t ht => by have := ha.tals t ht; unfold talOk at this; omega⟩
theorem talsI_ord (ha : OkS n a.clock a.lives a.tals) (hb : OkS n b.clock b.lives b.tals) (key : Nat) : ∀ i, OrdT (talsI a b key i)
  | 0 => by simp [talsI, OrdT]
  | i + 1 => by
    rw [talsI_succ]
    unfold OrdT
    rw [List.pairwise_append]
    refine ⟨talsI_ord ha hb key i, (from_ok ha hb i).1.filter _, fun x hx y hy => ?_⟩
    obtain ⟨j, hj, -, h1, h2⟩ := mem_talsI.1 hx
    obtain ⟨-, h3⟩ := List.mem_filter.1 hy
    obtain ⟨h3, h4⟩ := hitB_iff.1 h3
    unfold lessT
    omega
theorem talsK_ord (ha : OkS n a.clock a.lives a.tals) (hb : OkS n b.clock b.lives b.tals) : ∀ key, OrdT (talsK a b n key) ∧ ∀ t, t ∈ talsK a b n key ↔ ∃ k, k < key ∧ t ∈ talsI a b k n
  | 0 => ⟨by simp [talsK, OrdT], fun t => by simp [talsK]⟩
  | key + 1 => by
    obtain ⟨h1, h2⟩ := talsK_ord ha hb key
    rw [talsK_succ]
    refine ⟨?_, fun t => ?_⟩
    · unfold OrdT
      rw [List.pairwise_append]
      refine ⟨h1, talsI_ord ha hb key n, fun x hx y hy => ?_⟩
      obtain ⟨k, hk, hx⟩ := (h2 x).1 hx
      obtain ⟨-, -, -, h3, -⟩ := mem_talsI.1 hx
      obtain ⟨-, -, -, h4, -⟩ := mem_talsI.1 hy
      unfold lessT
      omega
    · rw [List.mem_append, h2]
      constructor
      · rintro (⟨k, hk, h⟩ | h)
        · exact ⟨k, by omega, h⟩
        · exact ⟨key, by omega, h⟩
      · rintro ⟨k, hk, h⟩
        rcases Nat.lt_or_ge k key with hlt | hge
        · exact .inl ⟨k, hlt, h⟩
        · obtain rfl : k = key := by omega
          exact .inr h
theorem ref_tals (ha : OkS n a.clock a.lives a.tals) (hb : OkS n b.clock b.lives b.tals) : talsK a b n 16 = sortA ltT (rawT a b) := by
  obtain ⟨h1, h2⟩ := talsK_ord ha hb 16
  refine pair_ext ltT_irr ltT_tr (pairUp (fun _ _ h => ltT_iff.2 h) h1) (sortA_pair ltT_tr (rawT_pair ha hb)) fun t => ?_
  rw [h2, mem_sortA, mem_rawT]
  constructor
  · rintro ⟨k, -, h⟩
    obtain ⟨j, -, h, -, h4⟩ := mem_talsI.1 h
    have e : t.author.toNat = j := by omega
    rw [e]
    unfold fromS at h
    split at h
    · next hc => exact .inr ⟨h, hc⟩
    · next hc => exact .inl ⟨h, hc⟩
  · intro h
    have key : t ∈ (fromS a b t.author.toNat).tals := by
      unfold fromS
      rcases h with ⟨h, hc⟩ | ⟨h, hc⟩
      · rw [if_neg hc]; exact h
      · rw [if_pos hc]; exact h
    obtain ⟨k1, k2, k3, k4⟩ := (from_ok ha hb _).2 t key
    exact ⟨t.key.toNat, by omega, mem_talsI.2 ⟨t.author.toNat, by omega, key, by omega, by omega⟩⟩
end
/-- What the document's own Join has so far: its variable 'out', and what that holds. -/
structure JI (W1 w : World) (B go : Nat) (r lv tv : Value) (c : List Int) (L : List Live) (TL : List Tal) : Prop where
  box : Box w go [r, lv, tv] 27
  ck : Own w B r c
  lv : RowA 52 5 encL w B lv L
  tl : RowA 58 3 encT w B tv TL
  bl : Below B W1 w
  ge : B ≤ go
section
variable {W1 w w' : World} {B go : Nat} {r lv tv : Value} {c : List Int} {L : List Live} {TL : List Tal}
theorem JI.below (h : JI W1 w B go r lv tv c L TL) (hb : Below w.heap.size w w') : JI W1 w' B go r lv tv c L TL :=
  ⟨h.box.below hb (Nat.le_refl _), h.ck.below hb (Nat.le_refl _), h.lv.below hb (Nat.le_refl _), h.tl.below hb (Nat.le_refl _), h.bl.trans (hb.mono (Nat.le_trans h.ge (Nat.le_of_lt h.box.lt))), h.ge⟩
theorem JI.setL (h : JI W1 w B go r lv tv c L TL) {v : Value} {M : List Live} (hm : RowA 52 5 encL w B v M) : JI W1 (w.setCell ⟨go, 1, none⟩ v) B go r v tv c M TL :=
  ⟨by have := h.box.set 1 v; simpa using this, row_setT h.ck h.box (by decide) 1 v, row_setT hm h.box (by decide) 1 v, row_setT h.tl h.box (by decide) 1 v, h.bl.setCell (p := ⟨go, 1, none⟩) h.ge v, h.ge⟩
theorem JI.setT (h : JI W1 w B go r lv tv c L TL) {v : Value} {M : List Tal} (hm : RowA 58 3 encT w B v M) : JI W1 (w.setCell ⟨go, 2, none⟩ v) B go r lv v c L M :=
  ⟨by have := h.box.set 2 v; simpa using this, row_setT h.ck h.box (by decide) 2 v, row_setT h.lv h.box (by decide) 2 v, row_setT hm h.box (by decide) 2 v, h.bl.setCell (p := ⟨go, 2, none⟩) h.ge v, h.ge⟩
theorem JI.grown (h : JI W1 w B go r lv tv c L TL) (hg : w.grownBy w' tv.ownBlock) (hB : B ≤ w.heap.size) : Box w' go [r, lv, tv] 27 ∧ Own w' B r c ∧ RowA 52 5 encL w' B lv L ∧ Below B W1 w' :=
  ⟨box_grownT h.box h.tl hg (by decide), own_grownT h.ck h.tl hg (by decide), own_grownT h.lv h.tl hg (by decide), h.bl.grown hg hB (fun g hgg => (World.ownsRow.lt h.tl g hgg).1)⟩
end
theorem JI.other {W1 w : World} {B go gf : Nat} {r lv tv : Value} {c : List Int} {L : List Live} {TL : List Tal} {cs : List Value} (h : JI W1 w B go r lv tv c L TL) (hf : Box w gf cs 27) (hne : ¬ go = gf) (hge : B ≤ gf) (i : Nat) (v : Value) : JI W1 (w.setCell ⟨gf, i, none⟩ v) B go r lv tv c L TL :=
  ⟨h.box.away hne, row_setT h.ck hf (by decide) i v, row_setT h.lv hf (by decide) i v, row_setT h.tl hf (by decide) i v, h.bl.setCell (p := ⟨gf, i, none⟩) hge v, h.ge⟩
theorem JI.setT2 {W1 w : World} {B go : Nat} {r lv tv v : Value} {c : List Int} {L : List Live} {M : List Tal} (hb : Box w go [r, lv, tv] 27) (hc : Own w B r c) (hl : RowA 52 5 encL w B lv L) (hm : RowA 58 3 encT w B v M) (hw : Below B W1 w) (hg : B ≤ go) : JI W1 (w.setCell ⟨go, 2, none⟩ v) B go r lv v c L M :=
  ⟨by have := hb.set 2 v; simpa using this, row_setT hc hb (by decide) 2 v, row_setT hl hb (by decide) 2 v, row_setT hm hb (by decide) 2 v, hw.setCell (p := ⟨go, 2, none⟩) hg v, hg⟩
theorem alloc_cellsJ (w : World) (cs : List Value) (t : TypeId) : ∀ (j : Nat) (q : Value), cs[j]? = some q → (w.alloc (.cells cs.toArray t)).cell? ((⟨w.heap.size, 0, none⟩ : Addr).add j) = some q := by
  intro j q hj
  have e : (⟨w.heap.size, 0, none⟩ : Addr).add j = ⟨w.heap.size, j, none⟩ := by cases j <;> simp [Addr.add]
  rw [e]
  exact (Box.new w cs t).get j hj
theorem talsI_len {a b : StS} {key i m : Nat} (h1 : a.tals.length ≤ m) (h2 : b.tals.length ≤ m) : (talsI a b key i).length ≤ i * m := by
  induction i with
  | zero => simp [talsI]
  | succ i ih =>
    rw [talsI_succ, List.length_append, Nat.succ_mul]
    have h3 := List.length_filter_le (hitB key i) (fromS a b i).tals
    have h4 : (fromS a b i).tals.length ≤ m := by unfold fromS; split <;> assumption
    omega
theorem joinL_len {a b : StS} : (refLives b [] a.lives).length ≤ a.lives.length ∧ (refLives a (refLives b [] a.lives) b.lives).length ≤ a.lives.length + b.lives.length := by
  have h1 := refLives_len (th := b) (l := a.lives) (out := [])
  have h2 := refLives_len (th := a) (l := b.lives) (out := refLives b [] a.lives)
  simp at h1
  omega
set_option maxRecDepth 100000 in
set_option maxHeartbeats 2000000 in
theorem join_ref4 (va vb : Value) (a b : StS) (w : World) (ha : IsSt w va a) (hb : IsSt w vb b) :
    Calls Try.prog 16 #[va, vb] w fun e w' => ∃ rv, e = .returned (.tuple #[rv, .int .i64 (joinE a b)]) ∧ StOwn w' (w.heap.size + 3) rv (joinX a b) ∧ Below w.heap.size w w' := by
  have hain := ha
  have hbin := hb
  obtain ⟨cv, lv, tv, rfl, hc, hv, ht⟩ := ha
  obtain ⟨a1, cap1, rfl, -, -, -⟩ := id hc
  obtain ⟨a2, cap2, rfl, -, -, -⟩ := id hv
  obtain ⟨a3, cap3, rfl, -, -, -⟩ := id ht
  obtain ⟨cv', lv', tv', rfl, hc', hv', ht'⟩ := hb
  obtain ⟨b1, dap1, rfl, -, -, -⟩ := id hc'
  obtain ⟨b2, dap2, rfl, -, -, -⟩ := id hv'
  obtain ⟨b3, dap3, rfl, -, -, -⟩ := id ht'
  have hbl := Below.plus (Below.plus (Below.plus (Below.plus (Below.refl w.heap.size w) (.cells #[.slice a1 a.clock.length cap1, .slice a2 a.lives.length cap2, .slice a3 a.tals.length cap3] 27)) (.cells #[.slice b1 b.clock.length dap1, .slice b2 b.lives.length dap2, .slice b3 b.tals.length dap3] 27)) (.cells #[.slice none 0 0, .slice none 0 0, .slice none 0 0] 27)) (.cells #[.slice a1 a.clock.length cap1, .slice a2 a.lives.length cap2, .slice a3 a.tals.length cap3, .slice b1 b.clock.length dap1, .slice b2 b.lives.length dap2, .slice b3 b.tals.length dap3] 27)
  have S0 := hide (hain.below hbl (Nat.le_refl _))
  have T0 := hide (hbin.below hbl (Nat.le_refl _))
  have C0 := hide (hc.below hbl (Nat.le_refl _))
  have D0 := hide (hc'.below hbl (Nat.le_refl _))
  have G0 := hide ((((Box.new w [.slice a1 a.clock.length cap1, .slice a2 a.lives.length cap2, .slice a3 a.tals.length cap3] 27).plus (.cells #[.slice b1 b.clock.length dap1, .slice b2 b.lives.length dap2, .slice b3 b.tals.length dap3] 27)).plus (.cells #[.slice none 0 0, .slice none 0 0, .slice none 0 0] 27)).plus (.cells #[.slice a1 a.clock.length cap1, .slice a2 a.lives.length cap2, .slice a3 a.tals.length cap3, .slice b1 b.clock.length dap1, .slice b2 b.lives.length dap2, .slice b3 b.tals.length dap3] 27))
  have K0 := hide (((Box.new (w.alloc (.cells #[.slice a1 a.clock.length cap1, .slice a2 a.lives.length cap2, .slice a3 a.tals.length cap3] 27)) [.slice b1 b.clock.length dap1, .slice b2 b.lives.length dap2, .slice b3 b.tals.length dap3] 27).plus (.cells #[.slice none 0 0, .slice none 0 0, .slice none 0 0] 27)).plus (.cells #[.slice a1 a.clock.length cap1, .slice a2 a.lives.length cap2, .slice a3 a.tals.length cap3, .slice b1 b.clock.length dap1, .slice b2 b.lives.length dap2, .slice b3 b.tals.length dap3] 27))
  have R0 := hide ((Box.new ((w.alloc (.cells #[.slice a1 a.clock.length cap1, .slice a2 a.lives.length cap2, .slice a3 a.tals.length cap3] 27)).alloc (.cells #[.slice b1 b.clock.length dap1, .slice b2 b.lives.length dap2, .slice b3 b.tals.length dap3] 27)) [.slice none 0 0, .slice none 0 0, .slice none 0 0] 27).plus (.cells #[.slice a1 a.clock.length cap1, .slice a2 a.lives.length cap2, .slice a3 a.tals.length cap3, .slice b1 b.clock.length dap1, .slice b2 b.lives.length dap2, .slice b3 b.tals.length dap3] 27))
  have Z0 := hide (Box.new (((w.alloc (.cells #[.slice a1 a.clock.length cap1, .slice a2 a.lives.length cap2, .slice a3 a.tals.length cap3] 27)).alloc (.cells #[.slice b1 b.clock.length dap1, .slice b2 b.lives.length dap2, .slice b3 b.tals.length dap3] 27)).alloc (.cells #[.slice none 0 0, .slice none 0 0, .slice none 0 0] 27)) [.slice a1 a.clock.length cap1, .slice a2 a.lives.length cap2, .slice a3 a.tals.length cap3, .slice b1 b.clock.length dap1, .slice b2 b.lives.length dap2, .slice b3 b.tals.length dap3] 27)
  simp only [World.size_alloc] at K0 R0 Z0
  have HB0 := hide hbl
  clear hain hbin hc hv ht hc' hv' ht' hbl
  obtain ⟨W1, HW1⟩ : ∃ W1, Hid (((((w.alloc (.cells #[.slice a1 a.clock.length cap1, .slice a2 a.lives.length cap2, .slice a3 a.tals.length cap3] 27)).alloc (.cells #[.slice b1 b.clock.length dap1, .slice b2 b.lives.length dap2, .slice b3 b.tals.length dap3] 27)).alloc (.cells #[.slice none 0 0, .slice none 0 0, .slice none 0 0] 27)).alloc (.cells #[.slice a1 a.clock.length cap1, .slice a2 a.lives.length cap2, .slice a3 a.tals.length cap3, .slice b1 b.clock.length dap1, .slice b2 b.lives.length dap2, .slice b3 b.tals.length dap3] 27)) = W1) := ⟨_, rfl⟩
  rw [HW1.out] at S0 T0 C0 D0 G0 K0 R0 Z0 HB0
  have SS := S0
  have TT := T0
  have GG := G0
  have KK := K0
  have RR := R0
  obtain ⟨E1, HE1⟩ : ∃ E1, Hid (stE a a.clock.length = E1) := ⟨_, rfl⟩
  obtain ⟨E2, HE2⟩ : ∃ E2, Hid (stE b a.clock.length = E2) := ⟨_, rfl⟩
  obtain ⟨A1, HA1⟩ : ∃ A1, Hid (stA a a.clock.length = A1) := ⟨_, rfl⟩
  obtain ⟨A2, HA2⟩ : ∃ A2, Hid (stA b a.clock.length = A2) := ⟨_, rfl⟩
  obtain ⟨E, HE⟩ : ∃ E, Hid (joinE a b = E) := ⟨_, rfl⟩
  obtain ⟨X, HX⟩ : ∃ X, Hid (joinX a b = X) := ⟨_, rfl⟩
  have HEE : Hid (E = if E1 ≠ 0 then E1 else E2) := by unfold Hid; rw [← HE.out, ← HE1.out, ← HE2.out]; rfl
  rw [HE.out, HX.out]
  have HXB : Hid (¬ E = 0 → X = ⟨[], [], []⟩) := fun h => by rw [← HX.out]; exact joinX_bad (by rw [HE.out]; exact h)
  go_enter Try.func16, Try.ntmps16
  go_wp2_with fail
  rw [HW1.out]
  go_loopw [29] (fun i wr => ∃ q : Int, (q = 0 ∨ q = 1 ∨ q = 2) ∧ i = .int .i64 q ∧ Hid (1 ≤ q → E1 = 0) ∧ Hid (2 ≤ q → E2 = 0) ∧ Hid (Below W1.heap.size W1 wr)) (fun i _ => 2 - (intOf i).toNat)
  case atStart => exact ⟨0, .inl rfl, rfl, hide (fun h => by omega), hide (fun h => by omega), hide (Below.refl _ _)⟩
  case round =>
    obtain ⟨q, hq, rfl, HQ1, HQ2, HB20⟩ := hrel
    obtain ⟨w20, rfl⟩ : ∃ w20, w20 = wr := ⟨wr, rfl⟩
    have S20 := hide (S0.out.below HB20.out (Nat.le_refl _))
    have T20 := hide (T0.out.below HB20.out (Nat.le_refl _))
    have C20 := hide (C0.out.below HB20.out (Nat.le_refl _))
    have D20 := hide (D0.out.below HB20.out (Nat.le_refl _))
    have G20 := hide (G0.out.below HB20.out (Nat.le_refl _))
    have K20 := hide (K0.out.below HB20.out (Nat.le_refl _))
    have R20 := hide (R0.out.below HB20.out (Nat.le_refl _))
    have Z20 := hide (Z0.out.below HB20.out (Nat.le_refl _))
    clear S0 T0 C0 D0 G0 K0 R0 Z0
    have hrl := R20.out.lt
    rcases hq with rfl | rfl | rfl
    · have z0 := Z20.out.get 0 rfl
      have z1 := Z20.out.get 1 rfl
      have z2 := Z20.out.get 2 rfl
      by_cases hE : E1 = 0
      · have hE' : (E1 != 0) = false := by simp [hE]
        have HEZ := hide hE
        clear hE
        have HB21 := hide (below_step HB20.out (Below.plus (Below.refl _ w20) (.cells #[.slice a1 a.clock.length cap1, .slice a2 a.lives.length cap2, .slice a3 a.tals.length cap3] 27)))
        have S21 := hide (S20.out.below (Below.plus (Below.refl _ w20) (.cells #[.slice a1 a.clock.length cap1, .slice a2 a.lives.length cap2, .slice a3 a.tals.length cap3] 27)) (Nat.le_refl _))
        have T21 := hide (T20.out.below (Below.plus (Below.refl _ w20) (.cells #[.slice a1 a.clock.length cap1, .slice a2 a.lives.length cap2, .slice a3 a.tals.length cap3] 27)) (Nat.le_refl _))
        have V21 := hide (Box.new w20 [.slice a1 a.clock.length cap1, .slice a2 a.lives.length cap2, .slice a3 a.tals.length cap3] 27)
        clear HB20 S20 T20
        go_wp2_with fail
        refine (wrong_ref4 _ a a.clock.length _ S21.out).mono ?_
        rintro e w22 ⟨rfl, hb⟩
        have HB22 := hide (below_step HB21.out hb)
        have S22 := hide (S21.out.below hb (Nat.le_refl _))
        have T22 := hide (T21.out.below hb (Nat.le_refl _))
        have V22 := hide (V21.out.below hb (Nat.le_refl _))
        clear HB21 hb S21 T21 V21
        rw [HE1.out, HA1.out]
        have HB23 := hide (below_step HB22.out (Below.plus (Below.refl _ w22) (.cells #[.int .i64 E1, .int .i64 A1] 31)))
        have S23 := hide (S22.out.below (Below.plus (Below.refl _ w22) (.cells #[.int .i64 E1, .int .i64 A1] 31)) (Nat.le_refl _))
        have T23 := hide (T22.out.below (Below.plus (Below.refl _ w22) (.cells #[.int .i64 E1, .int .i64 A1] 31)) (Nat.le_refl _))
        have V23 := hide (V22.out.below (Below.plus (Below.refl _ w22) (.cells #[.int .i64 E1, .int .i64 A1] 31)) (Nat.le_refl _))
        have F23 := hide (Box.new w22 [.int .i64 E1, .int .i64 A1] 31)
        clear HB22 S22 T22 V22
        go_wp2_with fail
        go_roundw
        case rel => exact ⟨1, .inr (.inl rfl), by go_num, hide (fun _ => HEZ.out), hide (fun h => by omega), HB23.out⟩
        case measure => simp [intOf]
      · have hE' : (E1 != 0) = true := by simp [hE]
        have hEX : E = E1 := by rw [HEE.out]; rw [if_pos hE]
        have hXX : X = ⟨[], [], []⟩ := HXB.out (by rw [hEX]; exact hE)
        subst hXX
        subst hEX
        clear hE HEE HXB
        have HB21 := hide (below_step HB20.out (Below.plus (Below.refl _ w20) (.cells #[.slice a1 a.clock.length cap1, .slice a2 a.lives.length cap2, .slice a3 a.tals.length cap3] 27)))
        have S21 := hide (S20.out.below (Below.plus (Below.refl _ w20) (.cells #[.slice a1 a.clock.length cap1, .slice a2 a.lives.length cap2, .slice a3 a.tals.length cap3] 27)) (Nat.le_refl _))
        have T21 := hide (T20.out.below (Below.plus (Below.refl _ w20) (.cells #[.slice a1 a.clock.length cap1, .slice a2 a.lives.length cap2, .slice a3 a.tals.length cap3] 27)) (Nat.le_refl _))
        have R21 := hide (R20.out.below (Below.plus (Below.refl _ w20) (.cells #[.slice a1 a.clock.length cap1, .slice a2 a.lives.length cap2, .slice a3 a.tals.length cap3] 27)) (Nat.le_refl _))
        have V21 := hide (Box.new w20 [.slice a1 a.clock.length cap1, .slice a2 a.lives.length cap2, .slice a3 a.tals.length cap3] 27)
        clear HB20 S20 T20 R20
        go_wp2_with fail
        refine (wrong_ref4 _ a a.clock.length _ S21.out).mono ?_
        rintro e w22 ⟨rfl, hb⟩
        have HB22 := hide (below_step HB21.out hb)
        have S22 := hide (S21.out.below hb (Nat.le_refl _))
        have T22 := hide (T21.out.below hb (Nat.le_refl _))
        have R22 := hide (R21.out.below hb (Nat.le_refl _))
        have V22 := hide (V21.out.below hb (Nat.le_refl _))
        clear HB21 hb S21 T21 R21 V21
        rw [HE1.out, HA1.out]
        have n1 : ¬ (w22.heap.size = w.heap.size + 1 + 1) := by have := R22.out.lt; omega
        have n2 : ¬ (w.heap.size + 1 + 1 = w22.heap.size) := by have := R22.out.lt; omega
        have HB23 := hide (below_step HB22.out (Below.plus (Below.refl _ w22) (.cells #[.int .i64 E, .int .i64 A1] 31)))
        have S23 := hide (S22.out.below (Below.plus (Below.refl _ w22) (.cells #[.int .i64 E, .int .i64 A1] 31)) (Nat.le_refl _))
        have T23 := hide (T22.out.below (Below.plus (Below.refl _ w22) (.cells #[.int .i64 E, .int .i64 A1] 31)) (Nat.le_refl _))
        have R23 := hide (R22.out.below (Below.plus (Below.refl _ w22) (.cells #[.int .i64 E, .int .i64 A1] 31)) (Nat.le_refl _))
        have V23 := hide (V22.out.below (Below.plus (Below.refl _ w22) (.cells #[.int .i64 E, .int .i64 A1] 31)) (Nat.le_refl _))
        have F23 := hide (Box.new w22 [.int .i64 E, .int .i64 A1] 31)
        clear HB22 S22 T22 R22 V22
        have cF0 := F23.out.get 0 rfl
        have cF1 := F23.out.get 1 rfl
        have cR0 := R23.out.get 0 rfl
        have cR1 := R23.out.get 1 rfl
        have cR2 := R23.out.get 2 rfl
        have f0 := R23.out.free 0
        have f1 := R23.out.free 1
        have f2 := R23.out.free 2
        go_upto_region 7 with fail
        go_region
        go_wp2_with fail
        have hR := ((R23.out.set 0 (.slice none 0 0)).set 1 (.slice none 0 0)).set 2 (.slice none 0 0)
        refine bodyPost_ret (results_cell_tmp rfl _ _ (w.heap.size + 1 + 1) 27 _ (0, 0) _ rfl hR.drew Try.underlying27 rfl Try.sizeState) rfl ⟨_, rfl, StOwn.none _ _, ?_⟩
        exact (((HB0.out.trans (HB23.out.mono HB0.out.size)).setCell (by show w.heap.size ≤ w.heap.size + 1 + 1; omega) _).setCell (by show w.heap.size ≤ w.heap.size + 1 + 1; omega) _ |>.setCell (by show w.heap.size ≤ w.heap.size + 1 + 1; omega) _).drew
    · have z0 := Z20.out.get 3 rfl
      have z1 := Z20.out.get 4 rfl
      have z2 := Z20.out.get 5 rfl
      by_cases hE : E2 = 0
      · have hE' : (E2 != 0) = false := by simp [hE]
        have HEZ := hide hE
        clear hE
        have HB21 := hide (below_step HB20.out (Below.plus (Below.refl _ w20) (.cells #[.slice b1 b.clock.length dap1, .slice b2 b.lives.length dap2, .slice b3 b.tals.length dap3] 27)))
        have S21 := hide (S20.out.below (Below.plus (Below.refl _ w20) (.cells #[.slice b1 b.clock.length dap1, .slice b2 b.lives.length dap2, .slice b3 b.tals.length dap3] 27)) (Nat.le_refl _))
        have T21 := hide (T20.out.below (Below.plus (Below.refl _ w20) (.cells #[.slice b1 b.clock.length dap1, .slice b2 b.lives.length dap2, .slice b3 b.tals.length dap3] 27)) (Nat.le_refl _))
        have V21 := hide (Box.new w20 [.slice b1 b.clock.length dap1, .slice b2 b.lives.length dap2, .slice b3 b.tals.length dap3] 27)
        clear HB20 S20 T20
        go_wp2_with fail
        refine (wrong_ref4 _ b a.clock.length _ T21.out).mono ?_
        rintro e w22 ⟨rfl, hb⟩
        have HB22 := hide (below_step HB21.out hb)
        have S22 := hide (S21.out.below hb (Nat.le_refl _))
        have T22 := hide (T21.out.below hb (Nat.le_refl _))
        have V22 := hide (V21.out.below hb (Nat.le_refl _))
        clear HB21 hb S21 T21 V21
        rw [HE2.out, HA2.out]
        have HB23 := hide (below_step HB22.out (Below.plus (Below.refl _ w22) (.cells #[.int .i64 E2, .int .i64 A2] 31)))
        have S23 := hide (S22.out.below (Below.plus (Below.refl _ w22) (.cells #[.int .i64 E2, .int .i64 A2] 31)) (Nat.le_refl _))
        have T23 := hide (T22.out.below (Below.plus (Below.refl _ w22) (.cells #[.int .i64 E2, .int .i64 A2] 31)) (Nat.le_refl _))
        have V23 := hide (V22.out.below (Below.plus (Below.refl _ w22) (.cells #[.int .i64 E2, .int .i64 A2] 31)) (Nat.le_refl _))
        have F23 := hide (Box.new w22 [.int .i64 E2, .int .i64 A2] 31)
        clear HB22 S22 T22 V22
        go_wp2_with fail
        go_roundw
        case rel => exact ⟨2, .inr (.inr rfl), by go_num, hide (fun _ => HQ1.out (by omega)), hide (fun _ => HEZ.out), HB23.out⟩
        case measure => simp [intOf]
      · have hE' : (E2 != 0) = true := by simp [hE]
        have hEX : E = E2 := by rw [HEE.out]; rw [if_neg (by rw [HQ1.out (by omega)]; simp)]
        have hXX : X = ⟨[], [], []⟩ := HXB.out (by rw [hEX]; exact hE)
        subst hXX
        subst hEX
        clear hE HEE HXB
        have HB21 := hide (below_step HB20.out (Below.plus (Below.refl _ w20) (.cells #[.slice b1 b.clock.length dap1, .slice b2 b.lives.length dap2, .slice b3 b.tals.length dap3] 27)))
        have S21 := hide (S20.out.below (Below.plus (Below.refl _ w20) (.cells #[.slice b1 b.clock.length dap1, .slice b2 b.lives.length dap2, .slice b3 b.tals.length dap3] 27)) (Nat.le_refl _))
        have T21 := hide (T20.out.below (Below.plus (Below.refl _ w20) (.cells #[.slice b1 b.clock.length dap1, .slice b2 b.lives.length dap2, .slice b3 b.tals.length dap3] 27)) (Nat.le_refl _))
        have R21 := hide (R20.out.below (Below.plus (Below.refl _ w20) (.cells #[.slice b1 b.clock.length dap1, .slice b2 b.lives.length dap2, .slice b3 b.tals.length dap3] 27)) (Nat.le_refl _))
        have V21 := hide (Box.new w20 [.slice b1 b.clock.length dap1, .slice b2 b.lives.length dap2, .slice b3 b.tals.length dap3] 27)
        clear HB20 S20 T20 R20
        go_wp2_with fail
        refine (wrong_ref4 _ b a.clock.length _ T21.out).mono ?_
        rintro e w22 ⟨rfl, hb⟩
        have HB22 := hide (below_step HB21.out hb)
        have S22 := hide (S21.out.below hb (Nat.le_refl _))
        have T22 := hide (T21.out.below hb (Nat.le_refl _))
        have R22 := hide (R21.out.below hb (Nat.le_refl _))
        have V22 := hide (V21.out.below hb (Nat.le_refl _))
        clear HB21 hb S21 T21 R21 V21
        rw [HE2.out, HA2.out]
        have n1 : ¬ (w22.heap.size = w.heap.size + 1 + 1) := by have := R22.out.lt; omega
        have n2 : ¬ (w.heap.size + 1 + 1 = w22.heap.size) := by have := R22.out.lt; omega
        have HB23 := hide (below_step HB22.out (Below.plus (Below.refl _ w22) (.cells #[.int .i64 E, .int .i64 A2] 31)))
        have S23 := hide (S22.out.below (Below.plus (Below.refl _ w22) (.cells #[.int .i64 E, .int .i64 A2] 31)) (Nat.le_refl _))
        have T23 := hide (T22.out.below (Below.plus (Below.refl _ w22) (.cells #[.int .i64 E, .int .i64 A2] 31)) (Nat.le_refl _))
        have R23 := hide (R22.out.below (Below.plus (Below.refl _ w22) (.cells #[.int .i64 E, .int .i64 A2] 31)) (Nat.le_refl _))
        have V23 := hide (V22.out.below (Below.plus (Below.refl _ w22) (.cells #[.int .i64 E, .int .i64 A2] 31)) (Nat.le_refl _))
        have F23 := hide (Box.new w22 [.int .i64 E, .int .i64 A2] 31)
        clear HB22 S22 T22 R22 V22
        have cF0 := F23.out.get 0 rfl
        have cF1 := F23.out.get 1 rfl
        have cR0 := R23.out.get 0 rfl
        have cR1 := R23.out.get 1 rfl
        have cR2 := R23.out.get 2 rfl
        have f0 := R23.out.free 0
        have f1 := R23.out.free 1
        have f2 := R23.out.free 2
        go_upto_region 7 with fail
        go_region
        go_wp2_with fail
        have hR := ((R23.out.set 0 (.slice none 0 0)).set 1 (.slice none 0 0)).set 2 (.slice none 0 0)
        refine bodyPost_ret (results_cell_tmp rfl _ _ (w.heap.size + 1 + 1) 27 _ (0, 0) _ rfl hR.drew Try.underlying27 rfl Try.sizeState) rfl ⟨_, rfl, StOwn.none _ _, ?_⟩
        exact (((HB0.out.trans (HB23.out.mono HB0.out.size)).setCell (by show w.heap.size ≤ w.heap.size + 1 + 1; omega) _).setCell (by show w.heap.size ≤ w.heap.size + 1 + 1; omega) _ |>.setCell (by show w.heap.size ≤ w.heap.size + 1 + 1; omega) _).drew
    · have hz1 : E1 = 0 := HQ1.out (by omega)
      have hz2 : E2 = 0 := HQ2.out (by omega)
      subst hz1 hz2
      have hE0 : E = 0 := by rw [HEE.out]; simp
      subst hE0
      have oa := stE_ok.1 HE1.out
      have ob := stE_ok.1 HE2.out
      have HOA := hide oa
      have HOB := hide ob
      have HXX : Hid (X = ⟨joinC a.clock b.clock, sortA ltL (rawL a b), sortA ltT (rawT a b)⟩) := by unfold Hid; rw [← HX.out]; exact joinX_zero HE.out
      have hla : Hid (a.clock.length * 8 ≤ 140737488351232) := by have := goodC_iff.1 oa.clock; unfold Hid; omega
      have hlb : Hid (b.clock.length * 8 ≤ 140737488351232) := by have := goodC_iff.1 ob.clock; unfold Hid; omega
      clear oa ob HEE HXB HQ1 HQ2 Z20
      obtain ⟨J, HJ⟩ : ∃ J, Hid (joinC a.clock b.clock = J) := ⟨_, rfl⟩
      have g0 := G20.out.get 0 rfl
      have k0 := K20.out.get 0 rfl
      go_wp2_with fail
      refine (join_ref _ _ a.clock b.clock _ C20.out D20.out hla.out hlb.out).mono ?_
      rintro e w21 ⟨rc, rfl, hRC, hb21⟩
      rw [HJ.out] at hRC
      obtain ⟨ra, rcap, hrc, -⟩ := hRC.row
      subst hrc
      clear g0 k0
      have HS1 := hide HB20.out.size
      have hbp := Below.plus (Below.refl w21.heap.size w21) (.cells #[.slice ra J.length rcap, .slice none 0 0, .slice none 0 0] 27)
      have hbx := below_step hb21 hbp
      have J22 : JI W1 (w21.alloc (.cells #[.slice ra J.length rcap, .slice none 0 0, .slice none 0 0] 27)) W1.heap.size w21.heap.size (.slice ra J.length rcap) (.slice none 0 0) (.slice none 0 0) J [] [] := ⟨Box.new w21 [.slice ra J.length rcap, .slice none 0 0, .slice none 0 0] 27, (hRC.mono HS1.out).below hbp (Nat.le_refl _), RowA.nil _ _, RowA.nil _ _, below_step HB20.out hbx, Nat.le_trans HS1.out hb21.size⟩
      have G22 := hide (G20.out.below hbx (Nat.le_refl _))
      have K22 := hide (K20.out.below hbx (Nat.le_refl _))
      have R22 := hide (R20.out.below hbx (Nat.le_refl _))
      obtain ⟨go, HGO⟩ : ∃ go, Hid (w21.heap.size = go) := ⟨_, rfl⟩
      obtain ⟨w22, HW22⟩ : ∃ W, Hid (w21.alloc (.cells #[.slice ra J.length rcap, .slice none 0 0, .slice none 0 0] 27) = W) := ⟨_, rfl⟩
      rw [HW22.out] at J22 G22 K22 R22 hbx
      rw [HGO.out] at J22
      have HJ22 := hide J22
      have HLTR := hide (Nat.lt_of_lt_of_le R20.out.lt hb21.size)
      rw [HGO.out] at HLTR
      clear hRC hb21 hbp J22
      have g0 := G22.out.get 0 rfl
      have g1 := G22.out.get 1 rfl
      have g2 := G22.out.get 2 rfl
      have k0 := K22.out.get 0 rfl
      have k1 := K22.out.get 1 rfl
      have k2 := K22.out.get 2 rfl
      have hbp := Below.plus (Below.refl w22.heap.size w22) (.cells #[.slice a1 a.clock.length cap1, .slice a2 a.lives.length cap2, .slice a3 a.tals.length cap3, .slice b1 b.clock.length dap1, .slice b2 b.lives.length dap2, .slice b3 b.tals.length dap3, .slice b1 b.clock.length dap1, .slice b2 b.lives.length dap2, .slice b3 b.tals.length dap3, .slice a1 a.clock.length cap1, .slice a2 a.lives.length cap2, .slice a3 a.tals.length cap3] 89)
      have B23 := Box.new w22 [.slice a1 a.clock.length cap1, .slice a2 a.lives.length cap2, .slice a3 a.tals.length cap3, .slice b1 b.clock.length dap1, .slice b2 b.lives.length dap2, .slice b3 b.tals.length dap3, .slice b1 b.clock.length dap1, .slice b2 b.lives.length dap2, .slice b3 b.tals.length dap3, .slice a1 a.clock.length cap1, .slice a2 a.lives.length cap2, .slice a3 a.tals.length cap3] 89
      have J23 := HJ22.out.below hbp
      have G23 := hide (G22.out.below hbp (Nat.le_refl _))
      have K23 := hide (K22.out.below hbp (Nat.le_refl _))
      have R23 := hide (R22.out.below hbp (Nat.le_refl _))
      have HGL : Hid (go < w22.heap.size) := HJ22.out.box.lt
      obtain ⟨gl, HGB⟩ : ∃ gl, Hid (w22.heap.size = gl) := ⟨_, rfl⟩
      obtain ⟨w23, HW23⟩ : ∃ W, Hid (w22.alloc (.cells #[.slice a1 a.clock.length cap1, .slice a2 a.lives.length cap2, .slice a3 a.tals.length cap3, .slice b1 b.clock.length dap1, .slice b2 b.lives.length dap2, .slice b3 b.tals.length dap3, .slice b1 b.clock.length dap1, .slice b2 b.lives.length dap2, .slice b3 b.tals.length dap3, .slice a1 a.clock.length cap1, .slice a2 a.lives.length cap2, .slice a3 a.tals.length cap3] 89) = W) := ⟨_, rfl⟩
      rw [HW23.out] at B23 J23 G23 K23 R23
      rw [HGB.out] at B23 HGL
      have HJ23 := hide J23
      have L23 := hide B23
      clear hbp B23 J23 HJ22 G20 K20 R20
      go_upto_region 10 with fail
      rw [HW22.out, HGO.out]
      go_wp2_with fail
      rw [HW23.out, HGB.out]
      clear g0 g1 g2 k0 k1 k2
      go_loopw [57] (fun i wr => ∃ (q : Int) (lv : Value) (L : List Live), (q = 0 ∨ q = 1 ∨ q = 2) ∧ i = .int .i64 q ∧ Hid (q = 0 → L = []) ∧ Hid (q = 1 → L = refLives b [] a.lives) ∧ Hid (q = 2 → L = refLives a (refLives b [] a.lives) b.lives) ∧ Hid (JI W1 wr W1.heap.size go (.slice ra J.length rcap) lv (.slice none 0 0) J L []) ∧ Hid (Box wr gl [.slice a1 a.clock.length cap1, .slice a2 a.lives.length cap2, .slice a3 a.tals.length cap3, .slice b1 b.clock.length dap1, .slice b2 b.lives.length dap2, .slice b3 b.tals.length dap3, .slice b1 b.clock.length dap1, .slice b2 b.lives.length dap2, .slice b3 b.tals.length dap3, .slice a1 a.clock.length cap1, .slice a2 a.lives.length cap2, .slice a3 a.tals.length cap3] 89)) (fun i _ => 2 - (intOf i).toNat)
      case atStart => exact ⟨0, _, [], .inl rfl, rfl, fun _ => rfl, fun h => by omega, fun h => by omega, HJ23, L23⟩
      case round =>
        obtain ⟨q, lv, L, hq, rfl, HL0, HL1, HL2, HJ24, L24⟩ := hrel
        obtain ⟨w24, rfl⟩ : ∃ w24, w24 = wr := ⟨wr, rfl⟩
        clear HJ23 L23 G22 K22 R22 G23 K23 R23
        rcases hq with rfl | rfl | rfl
        · skip
          have hLL : L = [] := HL0.out rfl
          subst hLL
          clear HL0 HL1 HL2
          have y0 := L24.out.get 0 rfl
          have y1 := L24.out.get 1 rfl
          have y2 := L24.out.get 2 rfl
          have y3 := L24.out.get 3 rfl
          have y4 := L24.out.get 4 rfl
          have y5 := L24.out.get 5 rfl
          have hbp := Below.plus (Below.refl w24.heap.size w24) (.cells #[.slice a1 a.clock.length cap1, .slice a2 a.lives.length cap2, .slice a3 a.tals.length cap3, .slice b1 b.clock.length dap1, .slice b2 b.lives.length dap2, .slice b3 b.tals.length dap3] 89)
          have B25 := Box.new w24 [.slice a1 a.clock.length cap1, .slice a2 a.lives.length cap2, .slice a3 a.tals.length cap3, .slice b1 b.clock.length dap1, .slice b2 b.lives.length dap2, .slice b3 b.tals.length dap3] 89
          have J25 := HJ24.out.below hbp
          have L25 := hide (L24.out.below hbp (Nat.le_refl _))
          obtain ⟨gw, HGW⟩ : ∃ gw, Hid (w24.heap.size = gw) := ⟨_, rfl⟩
          obtain ⟨w25, HW25⟩ : ∃ W, Hid (w24.alloc (.cells #[.slice a1 a.clock.length cap1, .slice a2 a.lives.length cap2, .slice a3 a.tals.length cap3, .slice b1 b.clock.length dap1, .slice b2 b.lives.length dap2, .slice b3 b.tals.length dap3] 89) = W) := ⟨_, rfl⟩
          rw [HW25.out] at B25 J25 L25
          rw [HGW.out] at B25
          have HJ25 := hide J25
          clear hbp J25 HJ24 L24
          go_upto_region 13 with fail
          rw [HW25.out, HGW.out]
          clear y0 y1 y2 y3 y4 y5
          have HB25 := hide B25
          have HK13 : Hid (∀ w', Grew w25 w' → w'.cell? ⟨gw, 0, none⟩ = some (.slice a1 a.clock.length cap1) ∧ w'.cell? ⟨gw, 1, none⟩ = some (.slice a2 a.lives.length cap2) ∧ w'.cell? ⟨gw, 2, none⟩ = some (.slice a3 a.tals.length cap3) ∧ w'.cell? ⟨gw, 3, none⟩ = some (.slice b1 b.clock.length dap1) ∧ w'.cell? ⟨gw, 4, none⟩ = some (.slice b2 b.lives.length dap2) ∧ w'.cell? ⟨gw, 5, none⟩ = some (.slice b3 b.tals.length dap3)) := fun w' hg => ⟨(HB25.out.below hg (Nat.le_refl _)).get 0 rfl, (HB25.out.below hg (Nat.le_refl _)).get 1 rfl, (HB25.out.below hg (Nat.le_refl _)).get 2 rfl, (HB25.out.below hg (Nat.le_refl _)).get 3 rfl, (HB25.out.below hg (Nat.le_refl _)).get 4 rfl, (HB25.out.below hg (Nat.le_refl _)).get 5 rfl⟩
          go_cut [13, 14] (fun p s wx => ∃ gm gt, p = .pointer (some ⟨gm, 0, none⟩) ∧ s = .pointer (some ⟨gt, 0, none⟩) ∧ Hid (Box wx gm [.slice a1 a.clock.length cap1, .slice a2 a.lives.length cap2, .slice a3 a.tals.length cap3] 27) ∧ Hid (Box wx gt [.slice b1 b.clock.length dap1, .slice b2 b.lives.length dap2, .slice b3 b.tals.length dap3] 27) ∧ Hid (w25.heap.size ≤ gm ∧ w25.heap.size ≤ gt) ∧ Hid (Grew w25 wx))
          case first =>
            refine wp_region_held_drew (S := fun w' => w'.cell? ⟨gw, 0, none⟩ = some (.slice a1 a.clock.length cap1) ∧ w'.cell? ⟨gw, 1, none⟩ = some (.slice a2 a.lives.length cap2) ∧ w'.cell? ⟨gw, 2, none⟩ = some (.slice a3 a.tals.length cap3) ∧ w'.cell? ⟨gw, 3, none⟩ = some (.slice b1 b.clock.length dap1) ∧ w'.cell? ⟨gw, 4, none⟩ = some (.slice b2 b.lives.length dap2) ∧ w'.cell? ⟨gw, 5, none⟩ = some (.slice b3 b.tals.length dap3)) (by kernel_rfl) (HK13.out _ (grew_drew (grew_refl _))) (fun hHeld => ?_)
            obtain ⟨wd, HWD⟩ : ∃ wd, Hid (w25.drew = wd) := ⟨_, rfl⟩
            have hgd : Grew w25 wd := by rw [← HWD.out]; exact grew_drew (grew_refl w25)
            rw [HWD.out] at hHeld ⊢
            refine take_yes 0 61 (.pointer (some ⟨gw, 0, none⟩)) rfl rfl (by kernel_rfl) (by kernel_rfl) (by kernel_rfl) (fun _ _ _ h => h) rfl (by intro w hSw; (try dsimp only at hSw); go_simp) (by assumption) ?_
            simp only [Act.put, List.setIfInBounds_toArray, List.set_cons_zero, List.set_cons_succ]
            refine take_yes 1 62 (.agg #[.slice a1 a.clock.length cap1, .slice a2 a.lives.length cap2, .slice a3 a.tals.length cap3]) rfl rfl (by kernel_rfl) (by kernel_rfl) (by kernel_rfl) (fun _ _ _ h => h) rfl (by intro w hSw; (try dsimp only at hSw); go_simp) (by assumption) ?_
            simp only [Act.put, List.setIfInBounds_toArray, List.set_cons_zero, List.set_cons_succ]
            refine take_yes 2 63 (.pointer (some ⟨gw, 3, none⟩)) rfl rfl (by kernel_rfl) (by kernel_rfl) (by kernel_rfl) (fun _ _ _ h => h) rfl (by intro w hSw; (try dsimp only at hSw); go_simp) (by assumption) ?_
            simp only [Act.put, List.setIfInBounds_toArray, List.set_cons_zero, List.set_cons_succ]
            refine take_yes 3 64 (.agg #[.slice b1 b.clock.length dap1, .slice b2 b.lives.length dap2, .slice b3 b.tals.length dap3]) rfl rfl (by kernel_rfl) (by kernel_rfl) (by kernel_rfl) (fun _ _ _ h => h) rfl (by intro w hSw; (try dsimp only at hSw); go_simp) (by assumption) ?_
            simp only [Act.put, List.setIfInBounds_toArray, List.set_cons_zero, List.set_cons_succ]
            refine wpAnyH_ready (rs := [4, 5]) (by kernel_rfl) (by simp) ?_
            refine (AllReadyH.cons (o := _) rfl (fun K hK => ?_) (AllReadyH.cons (o := _) rfl (fun K hK => ?_) AllReadyH.nil))
            · skip
              go_simp
              have hb_4 := Below.plus (Below.refl wd.heap.size wd) (.cells #[.slice none 0 0, .slice none 0 0, .slice none 0 0] 27)
              have M_4 := Box.new wd [.slice none 0 0, .slice none 0 0, .slice none 0 0] 27
              have ge_g_4 : w25.heap.size ≤ wd.heap.size := hgd.size
              obtain ⟨w_4, Hw_4⟩ : ∃ W, Hid (wd.alloc (.cells #[.slice none 0 0, .slice none 0 0, .slice none 0 0] 27) = W) := ⟨_, rfl⟩
              rw [Hw_4.out] at hb_4 M_4 ⊢
              obtain ⟨g_4, Hg_4⟩ : ∃ g, Hid (wd.heap.size = g) := ⟨_, rfl⟩
              rw [Hg_4.out] at M_4 ge_g_4 ⊢
              have hg_4 : Grew w25 w_4 := grew_step hgd hb_4
              refine hK.out _ _ (HK13.out _ hg_4) (fun _ => ?_)
              clear hK K
              try simp only [Act.put, List.setIfInBounds_toArray, List.set_cons_zero, List.set_cons_succ]
              refine wpAnyH_ready (rs := [5]) (by kernel_rfl) (by simp) ?_
              refine (AllReadyH.cons (o := _) rfl (fun K hK => ?_) AllReadyH.nil)
              go_simp
              have hb_4_5 := Below.plus (Below.refl w_4.heap.size w_4) (.cells #[.slice none 0 0, .slice none 0 0, .slice none 0 0] 27)
              have T_4_5 := Box.new w_4 [.slice none 0 0, .slice none 0 0, .slice none 0 0] 27
              have ge_g_4_5 : w25.heap.size ≤ w_4.heap.size := hg_4.size
              have lt_g_4_5 := M_4.lt
              obtain ⟨w_4_5, Hw_4_5⟩ : ∃ W, Hid (w_4.alloc (.cells #[.slice none 0 0, .slice none 0 0, .slice none 0 0] 27) = W) := ⟨_, rfl⟩
              rw [Hw_4_5.out] at hb_4_5 T_4_5 ⊢
              obtain ⟨g_4_5, Hg_4_5⟩ : ∃ g, Hid (w_4.heap.size = g) := ⟨_, rfl⟩
              rw [Hg_4_5.out] at T_4_5 ge_g_4_5 lt_g_4_5 ⊢
              have hg_4_5 : Grew w25 w_4_5 := grew_step hg_4 hb_4_5
              have M_4_5 := M_4.below hb_4_5 (Nat.le_refl _)
              refine hK.out _ _ (HK13.out _ hg_4_5) (fun _ => ?_)
              clear hK K
              try simp only [Act.put, List.setIfInBounds_toArray, List.set_cons_zero, List.set_cons_succ]
              refine wpAnyH_ready (rs := [6]) (by kernel_rfl) (by simp) ?_
              refine (AllReadyH.cons (o := _) rfl (fun K hK => ?_) AllReadyH.nil)
              have c0 := M_4_5.get 0 rfl
              have n0 := M_4_5.free 0
              have c1 := M_4_5.get 1 rfl
              have n1 := M_4_5.free 1
              have c2 := M_4_5.get 2 rfl
              have n2 := M_4_5.free 2
              go_simp
              have M_4_5_6 := (((M_4_5.set 0 (.slice a1 a.clock.length cap1)).set 1 (.slice a2 a.lives.length cap2)).set 2 (.slice a3 a.tals.length cap3))
              simp only [List.set_cons_zero, List.set_cons_succ] at M_4_5_6
              have gg_4_5_6 : Grew w25 _ := (Below.setCell (Below.setCell (Below.setCell hg_4_5 (p := ⟨g_4, 0, none⟩) ge_g_4 (.slice a1 a.clock.length cap1)) (p := ⟨g_4, 1, none⟩) ge_g_4 (.slice a2 a.lives.length cap2)) (p := ⟨g_4, 2, none⟩) ge_g_4 (.slice a3 a.tals.length cap3))
              have ne_4_5_6 : g_4_5 ≠ g_4 := by omega
              have T_4_5_6 := (((T_4_5.away (i := 0) (v := .slice a1 a.clock.length cap1) ne_4_5_6).away (i := 1) (v := .slice a2 a.lives.length cap2) ne_4_5_6).away (i := 2) (v := .slice a3 a.tals.length cap3) ne_4_5_6)
              obtain ⟨w_4_5_6, Hw_4_5_6⟩ : ∃ W, Hid ((((w_4_5.setCell ⟨g_4, 0, none⟩ (.slice a1 a.clock.length cap1)).setCell ⟨g_4, 1, none⟩ (.slice a2 a.lives.length cap2)).setCell ⟨g_4, 2, none⟩ (.slice a3 a.tals.length cap3)) = W) := ⟨_, rfl⟩
              rw [Hw_4_5_6.out] at M_4_5_6 gg_4_5_6 T_4_5_6 ⊢
              clear c0 c1 c2 n0 n1 n2
              have hg_4_5_6 : Grew w25 w_4_5_6 := gg_4_5_6
              refine hK.out _ _ (HK13.out _ hg_4_5_6) (fun _ => ?_)
              clear hK K
              try simp only [Act.put, List.setIfInBounds_toArray, List.set_cons_zero, List.set_cons_succ]
              refine wpAnyH_ready (rs := [7]) (by kernel_rfl) (by simp) ?_
              refine (AllReadyH.cons (o := _) rfl (fun K hK => ?_) AllReadyH.nil)
              have c0 := T_4_5_6.get 0 rfl
              have n0 := T_4_5_6.free 0
              have c1 := T_4_5_6.get 1 rfl
              have n1 := T_4_5_6.free 1
              have c2 := T_4_5_6.get 2 rfl
              have n2 := T_4_5_6.free 2
              go_simp
              have T_4_5_6_7 := (((T_4_5_6.set 0 (.slice b1 b.clock.length dap1)).set 1 (.slice b2 b.lives.length dap2)).set 2 (.slice b3 b.tals.length dap3))
              simp only [List.set_cons_zero, List.set_cons_succ] at T_4_5_6_7
              have gg_4_5_6_7 : Grew w25 _ := (Below.setCell (Below.setCell (Below.setCell hg_4_5_6 (p := ⟨g_4_5, 0, none⟩) ge_g_4_5 (.slice b1 b.clock.length dap1)) (p := ⟨g_4_5, 1, none⟩) ge_g_4_5 (.slice b2 b.lives.length dap2)) (p := ⟨g_4_5, 2, none⟩) ge_g_4_5 (.slice b3 b.tals.length dap3))
              have ne_4_5_6_7 : g_4 ≠ g_4_5 := by omega
              have M_4_5_6_7 := (((M_4_5_6.away (i := 0) (v := .slice b1 b.clock.length dap1) ne_4_5_6_7).away (i := 1) (v := .slice b2 b.lives.length dap2) ne_4_5_6_7).away (i := 2) (v := .slice b3 b.tals.length dap3) ne_4_5_6_7)
              obtain ⟨w_4_5_6_7, Hw_4_5_6_7⟩ : ∃ W, Hid ((((w_4_5_6.setCell ⟨g_4_5, 0, none⟩ (.slice b1 b.clock.length dap1)).setCell ⟨g_4_5, 1, none⟩ (.slice b2 b.lives.length dap2)).setCell ⟨g_4_5, 2, none⟩ (.slice b3 b.tals.length dap3)) = W) := ⟨_, rfl⟩
              rw [Hw_4_5_6_7.out] at T_4_5_6_7 gg_4_5_6_7 M_4_5_6_7 ⊢
              clear c0 c1 c2 n0 n1 n2
              have hg_4_5_6_7 : Grew w25 w_4_5_6_7 := gg_4_5_6_7
              refine hK.out _ _ (HK13.out _ hg_4_5_6_7) (fun _ => ?_)
              clear hK K
              try simp only [Act.put, List.setIfInBounds_toArray, List.set_cons_zero, List.set_cons_succ]
              refine wpAnyH_done (by kernel_rfl) ?_ _
              go_wp2_with fail
              go_meet
              exact ⟨_, _, rfl, rfl, M_4_5_6_7, T_4_5_6_7, ⟨ge_g_4, ge_g_4_5⟩, hg_4_5_6_7⟩
            · skip
              go_simp
              have hb_5 := Below.plus (Below.refl wd.heap.size wd) (.cells #[.slice none 0 0, .slice none 0 0, .slice none 0 0] 27)
              have T_5 := Box.new wd [.slice none 0 0, .slice none 0 0, .slice none 0 0] 27
              have ge_g_5 : w25.heap.size ≤ wd.heap.size := hgd.size
              obtain ⟨w_5, Hw_5⟩ : ∃ W, Hid (wd.alloc (.cells #[.slice none 0 0, .slice none 0 0, .slice none 0 0] 27) = W) := ⟨_, rfl⟩
              rw [Hw_5.out] at hb_5 T_5 ⊢
              obtain ⟨g_5, Hg_5⟩ : ∃ g, Hid (wd.heap.size = g) := ⟨_, rfl⟩
              rw [Hg_5.out] at T_5 ge_g_5 ⊢
              have hg_5 : Grew w25 w_5 := grew_step hgd hb_5
              refine hK.out _ _ (HK13.out _ hg_5) (fun _ => ?_)
              clear hK K
              try simp only [Act.put, List.setIfInBounds_toArray, List.set_cons_zero, List.set_cons_succ]
              refine wpAnyH_ready (rs := [4]) (by kernel_rfl) (by simp) ?_
              refine (AllReadyH.cons (o := _) rfl (fun K hK => ?_) AllReadyH.nil)
              go_simp
              have hb_5_4 := Below.plus (Below.refl w_5.heap.size w_5) (.cells #[.slice none 0 0, .slice none 0 0, .slice none 0 0] 27)
              have M_5_4 := Box.new w_5 [.slice none 0 0, .slice none 0 0, .slice none 0 0] 27
              have ge_g_5_4 : w25.heap.size ≤ w_5.heap.size := hg_5.size
              have lt_g_5_4 := T_5.lt
              obtain ⟨w_5_4, Hw_5_4⟩ : ∃ W, Hid (w_5.alloc (.cells #[.slice none 0 0, .slice none 0 0, .slice none 0 0] 27) = W) := ⟨_, rfl⟩
              rw [Hw_5_4.out] at hb_5_4 M_5_4 ⊢
              obtain ⟨g_5_4, Hg_5_4⟩ : ∃ g, Hid (w_5.heap.size = g) := ⟨_, rfl⟩
              rw [Hg_5_4.out] at M_5_4 ge_g_5_4 lt_g_5_4 ⊢
              have hg_5_4 : Grew w25 w_5_4 := grew_step hg_5 hb_5_4
              have T_5_4 := T_5.below hb_5_4 (Nat.le_refl _)
              refine hK.out _ _ (HK13.out _ hg_5_4) (fun _ => ?_)
              clear hK K
              try simp only [Act.put, List.setIfInBounds_toArray, List.set_cons_zero, List.set_cons_succ]
              refine wpAnyH_ready (rs := [6]) (by kernel_rfl) (by simp) ?_
              refine (AllReadyH.cons (o := _) rfl (fun K hK => ?_) AllReadyH.nil)
              have c0 := M_5_4.get 0 rfl
              have n0 := M_5_4.free 0
              have c1 := M_5_4.get 1 rfl
              have n1 := M_5_4.free 1
              have c2 := M_5_4.get 2 rfl
              have n2 := M_5_4.free 2
              go_simp
              have M_5_4_6 := (((M_5_4.set 0 (.slice a1 a.clock.length cap1)).set 1 (.slice a2 a.lives.length cap2)).set 2 (.slice a3 a.tals.length cap3))
              simp only [List.set_cons_zero, List.set_cons_succ] at M_5_4_6
              have gg_5_4_6 : Grew w25 _ := (Below.setCell (Below.setCell (Below.setCell hg_5_4 (p := ⟨g_5_4, 0, none⟩) ge_g_5_4 (.slice a1 a.clock.length cap1)) (p := ⟨g_5_4, 1, none⟩) ge_g_5_4 (.slice a2 a.lives.length cap2)) (p := ⟨g_5_4, 2, none⟩) ge_g_5_4 (.slice a3 a.tals.length cap3))
              have ne_5_4_6 : g_5 ≠ g_5_4 := by omega
              have T_5_4_6 := (((T_5_4.away (i := 0) (v := .slice a1 a.clock.length cap1) ne_5_4_6).away (i := 1) (v := .slice a2 a.lives.length cap2) ne_5_4_6).away (i := 2) (v := .slice a3 a.tals.length cap3) ne_5_4_6)
              obtain ⟨w_5_4_6, Hw_5_4_6⟩ : ∃ W, Hid ((((w_5_4.setCell ⟨g_5_4, 0, none⟩ (.slice a1 a.clock.length cap1)).setCell ⟨g_5_4, 1, none⟩ (.slice a2 a.lives.length cap2)).setCell ⟨g_5_4, 2, none⟩ (.slice a3 a.tals.length cap3)) = W) := ⟨_, rfl⟩
              rw [Hw_5_4_6.out] at M_5_4_6 gg_5_4_6 T_5_4_6 ⊢
              clear c0 c1 c2 n0 n1 n2
              have hg_5_4_6 : Grew w25 w_5_4_6 := gg_5_4_6
              refine hK.out _ _ (HK13.out _ hg_5_4_6) (fun _ => ?_)
              clear hK K
              try simp only [Act.put, List.setIfInBounds_toArray, List.set_cons_zero, List.set_cons_succ]
              refine wpAnyH_ready (rs := [7]) (by kernel_rfl) (by simp) ?_
              refine (AllReadyH.cons (o := _) rfl (fun K hK => ?_) AllReadyH.nil)
              have c0 := T_5_4_6.get 0 rfl
              have n0 := T_5_4_6.free 0
              have c1 := T_5_4_6.get 1 rfl
              have n1 := T_5_4_6.free 1
              have c2 := T_5_4_6.get 2 rfl
              have n2 := T_5_4_6.free 2
              go_simp
              have T_5_4_6_7 := (((T_5_4_6.set 0 (.slice b1 b.clock.length dap1)).set 1 (.slice b2 b.lives.length dap2)).set 2 (.slice b3 b.tals.length dap3))
              simp only [List.set_cons_zero, List.set_cons_succ] at T_5_4_6_7
              have gg_5_4_6_7 : Grew w25 _ := (Below.setCell (Below.setCell (Below.setCell hg_5_4_6 (p := ⟨g_5, 0, none⟩) ge_g_5 (.slice b1 b.clock.length dap1)) (p := ⟨g_5, 1, none⟩) ge_g_5 (.slice b2 b.lives.length dap2)) (p := ⟨g_5, 2, none⟩) ge_g_5 (.slice b3 b.tals.length dap3))
              have ne_5_4_6_7 : g_5_4 ≠ g_5 := by omega
              have M_5_4_6_7 := (((M_5_4_6.away (i := 0) (v := .slice b1 b.clock.length dap1) ne_5_4_6_7).away (i := 1) (v := .slice b2 b.lives.length dap2) ne_5_4_6_7).away (i := 2) (v := .slice b3 b.tals.length dap3) ne_5_4_6_7)
              obtain ⟨w_5_4_6_7, Hw_5_4_6_7⟩ : ∃ W, Hid ((((w_5_4_6.setCell ⟨g_5, 0, none⟩ (.slice b1 b.clock.length dap1)).setCell ⟨g_5, 1, none⟩ (.slice b2 b.lives.length dap2)).setCell ⟨g_5, 2, none⟩ (.slice b3 b.tals.length dap3)) = W) := ⟨_, rfl⟩
              rw [Hw_5_4_6_7.out] at T_5_4_6_7 gg_5_4_6_7 M_5_4_6_7 ⊢
              clear c0 c1 c2 n0 n1 n2
              have hg_5_4_6_7 : Grew w25 w_5_4_6_7 := gg_5_4_6_7
              refine hK.out _ _ (HK13.out _ hg_5_4_6_7) (fun _ => ?_)
              clear hK K
              try simp only [Act.put, List.setIfInBounds_toArray, List.set_cons_zero, List.set_cons_succ]
              refine wpAnyH_done (by kernel_rfl) ?_ _
              go_wp2_with fail
              go_meet
              exact ⟨_, _, rfl, rfl, M_5_4_6_7, T_5_4_6_7, ⟨ge_g_5_4, ge_g_5⟩, hg_5_4_6_7⟩
          case rest =>
            obtain ⟨gm, gt, rfl, rfl, HM26, HT26, HGG, HGR⟩ := hcut
            obtain ⟨w26, rfl⟩ : ∃ w26, w26 = wc := ⟨wc, rfl⟩
            have HJ26 := hide (HJ25.out.below HGR.out)
            have L26 := hide (L25.out.below HGR.out (Nat.le_refl _))
            have hgo : go < w25.heap.size := HJ25.out.box.lt
            have hnm : ¬ gm = go := by have := HGG.out; omega
            have hnt : ¬ gt = go := by have := HGG.out; omega
            have HNM := hide hnm
            have HNT := hide hnt
            have HFW := hide HOA.out.few
            have HGLN : Hid (¬ gl = go) := by unfold Hid; have := HGL.out; omega
            clear HJ25 L25 B25 HB25 HK13 hgo hnm hnt HGR
            have m1 := HM26.out.get 1 rfl
            have hml : a.lives.length ≤ 400000000 := HFW.out.1
            go_wp2_with fail
            clear m1
            go_loopw [68] (fun i wr => ∃ (j : Nat) (lv : Value), j ≤ a.lives.length ∧ i = .int .i64 j ∧ Hid (JI W1 wr W1.heap.size go (.slice ra J.length rcap) lv (.slice none 0 0) J (refLives b [] (a.lives.take j)) []) ∧ Hid (Box wr gl [.slice a1 a.clock.length cap1, .slice a2 a.lives.length cap2, .slice a3 a.tals.length cap3, .slice b1 b.clock.length dap1, .slice b2 b.lives.length dap2, .slice b3 b.tals.length dap3, .slice b1 b.clock.length dap1, .slice b2 b.lives.length dap2, .slice b3 b.tals.length dap3, .slice a1 a.clock.length cap1, .slice a2 a.lives.length cap2, .slice a3 a.tals.length cap3] 89) ∧ Hid (Box wr gm [.slice a1 a.clock.length cap1, .slice a2 a.lives.length cap2, .slice a3 a.tals.length cap3] 27) ∧ Hid (Box wr gt [.slice b1 b.clock.length dap1, .slice b2 b.lives.length dap2, .slice b3 b.tals.length dap3] 27)) (fun i _ => a.lives.length - (intOf i).toNat)
            case atStart => exact ⟨0, _, Nat.zero_le _, rfl, HJ26, L26, HM26, HT26⟩
            case round =>
              obtain ⟨j, lv, hj, rfl, HJ27, L27, HM27, HT27⟩ := hrel
              obtain ⟨w27, rfl⟩ : ∃ w27, w27 = wr := ⟨wr, rfl⟩
              clear HJ26 L26 HM26 HT26
              by_cases hlt : j < a.lives.length
              · have hlt' : (j : Int) < (a.lives.length : Int) := by omega
                obtain ⟨x, HX⟩ : ∃ x, Hid (a.lives[j]? = some x) := ⟨_, List.getElem?_eq_getElem hlt⟩
                have HOK := hide (HOA.out.lives x (List.mem_of_getElem? HX.out))
                obtain ⟨xs, xk, xi, xu, xq⟩ := x
                obtain ⟨au, hau⟩ : ∃ au : Nat, xu = au := ⟨xu.toNat, by have := HOK.out.1; simp only at this; omega⟩
                subst hau
                have HSN := hide (refLives_snoc (th := b) (out := []) HX.out)
                obtain ⟨LL, HLL⟩ : ∃ LL, Hid (refLives b [] (a.lives.take j) = LL) := ⟨_, rfl⟩
                rw [HLL.out] at HSN HJ27
                have HLN : Hid (LL.length ≤ 800000000) := by
                  have h1 := refLives_len (th := b) (l := a.lives.take j) (out := [])
                  have h2 := List.length_take (i := j) (l := a.lives)
                  have h3 := (joinL_len (a := a) (b := b)).1
                  have h4 := HOA.out.few.1
                  have h5 := HOB.out.few.1
                  rw [HLL.out] at h1
                  unfold Hid
                  simp only [List.length_nil] at h1
                  omega
                obtain ⟨eb, eo, hea, d0, d1, d2, d3, d4⟩ := livesAt (SS.out.below HJ27.out.bl (Nat.le_refl _)).parts.2.1 HX.out
                subst hea
                have hbp := Below.plus (Below.refl w27.heap.size w27) (.cells #[.bool xs, .int .i64 xk, .int .i64 xi, .int .i64 (au : Int), .int .i64 xq] 52)
                have X28 := Box.new w27 [.bool xs, .int .i64 xk, .int .i64 xi, .int .i64 (au : Int), .int .i64 xq] 52
                have J28 := HJ27.out.below hbp
                have L28 := hide (L27.out.below hbp (Nat.le_refl _))
                have M28 := hide (HM27.out.below hbp (Nat.le_refl _))
                have T28 := hide (HT27.out.below hbp (Nat.le_refl _))
                obtain ⟨gx, HGX⟩ : ∃ gx, Hid (w27.heap.size = gx) := ⟨_, rfl⟩
                have hgx : ¬ gx = go := by rw [← HGX.out]; have := HJ27.out.box.lt; omega
                have HNX := hide hgx
                obtain ⟨w28, HW28⟩ : ∃ W, Hid (w27.alloc (.cells #[.bool xs, .int .i64 xk, .int .i64 xi, .int .i64 (au : Int), .int .i64 xq] 52) = W) := ⟨_, rfl⟩
                rw [HW28.out] at X28 J28 L28 M28 T28
                rw [HGX.out] at X28
                have HJ28 := hide J28
                have HX28 := hide X28
                clear hbp X28 J28 HJ27 L27 HM27 HT27 hgx
                go_upto_region 17 with fail
                rw [HW28.out, HGX.out]
                clear d0 d1 d2 d3 d4
                have b1 := HJ28.out.box.get 1 rfl
                have x0 := HX28.out.get 0 rfl
                have x1 := HX28.out.get 1 rfl
                have x2 := HX28.out.get 2 rfl
                have x3 := HX28.out.get 3 rfl
                have x4 := HX28.out.get 4 rfl
                go_wp2_with fail
                refine (has_ref _ LL ⟨xs, xk, xi, au, xq⟩ _ (slice_of_own encL_length HJ28.out.lv)).mono ?_
                rintro e w29 ⟨rfl, hb29⟩
                have HJ29 := hide (HJ28.out.below hb29)
                have L29 := hide (L28.out.below hb29 (Nat.le_refl _))
                have M29 := hide (M28.out.below hb29 (Nat.le_refl _))
                have T29 := hide (T28.out.below hb29 (Nat.le_refl _))
                have X29 := hide (HX28.out.below hb29 (Nat.le_refl _))
                clear b1 x0 x1 x2 x3 x4 hb29 HJ28 L28 M28 T28 HX28
                by_cases hh : hasL LL ⟨xs, xk, xi, au, xq⟩ = true
                · rw [show isIn LL ⟨xs, xk, xi, au, xq⟩ = true from hh]
                  have HS1 : Hid (refLives b [] (a.lives.take (j + 1)) = LL) := by unfold Hid; rw [HSN.out]; unfold refStep; rw [if_pos hh]
                  clear hh
                  go_wp2_with fail
                  go_roundw
                  case rel => exact ⟨j + 1, lv, by omega, by go_num, by rw [HS1.out]; exact HJ29, L29, M29, T29⟩
                  case measure => simp [intOf]; omega
                · have hh' : hasL LL ⟨xs, xk, xi, au, xq⟩ = false := by simpa using hh
                  rw [show isIn LL ⟨xs, xk, xi, au, xq⟩ = false from hh']
                  obtain ⟨y, HY⟩ : ∃ y, Hid (b.clock.getD au 0 = y) := ⟨_, rfl⟩
                  have HAU : Hid (au < b.clock.length) := by
                    have h1 := HOK.out.2.1
                    have h2 := goodC_iff.1 HOB.out.clock
                    unfold Hid
                    simp only at h1
                    omega
                  obtain ⟨cb, co, hcb, ck⟩ := rowAt (TT.out.below HJ29.out.bl (Nat.le_refl _)).parts.1 HAU.out
                  rw [HY.out] at ck
                  subst hcb
                  have hau' : (au : Int) < (b.clock.length : Int) := by have := HAU.out; omega
                  have hau0 : ¬ (au : Int) < 0 := by omega
                  have ST29 := hide (TT.out.below HJ29.out.bl (Nat.le_refl _)).parts.2.1
                  have HK : Hid (∀ w', Grew w29 w' → w'.cell? ⟨gt, 0, none⟩ = some (.slice (some ⟨cb, co, none⟩) b.clock.length dap1) ∧ w'.cell? ⟨gt, 1, none⟩ = some (.slice b2 b.lives.length dap2) ∧ w'.cell? ⟨cb, co + au, none⟩ = some (.int .i64 y) ∧ w'.cell? ⟨gx, 0, none⟩ = some (.bool xs) ∧ w'.cell? ⟨gx, 1, none⟩ = some (.int .i64 xk) ∧ w'.cell? ⟨gx, 2, none⟩ = some (.int .i64 xi) ∧ w'.cell? ⟨gx, 3, none⟩ = some (.int .i64 (au : Int)) ∧ w'.cell? ⟨gx, 4, none⟩ = some (.int .i64 xq)) := fun w' hg => ⟨(T29.out.below hg (Nat.le_refl _)).get 0 rfl, (T29.out.below hg (Nat.le_refl _)).get 1 rfl, cell_grewJ hg ck, (X29.out.below hg (Nat.le_refl _)).get 0 rfl, (X29.out.below hg (Nat.le_refl _)).get 1 rfl, (X29.out.below hg (Nat.le_refl _)).get 2 rfl, (X29.out.below hg (Nat.le_refl _)).get 3 rfl, (X29.out.below hg (Nat.le_refl _)).get 4 rfl⟩
                  obtain ⟨h2, HH2⟩ : ∃ h2, Hid (hasL b.lives ⟨xs, xk, xi, au, xq⟩ = h2) := ⟨_, rfl⟩
                  go_upto_region 18 with fail
                  clear ck
                  go_cut [90] (fun c wx => c = .bool (h2 || decide (y < xq)) ∧ Hid (Grew w29 wx))
                  case first =>
                    cases h2 with
                    | true =>
                      refine wp_region_held_drew (S := fun w' => w'.cell? ⟨gt, 0, none⟩ = some (.slice (some ⟨cb, co, none⟩) b.clock.length dap1) ∧ w'.cell? ⟨gt, 1, none⟩ = some (.slice b2 b.lives.length dap2) ∧ w'.cell? ⟨cb, co + au, none⟩ = some (.int .i64 y) ∧ w'.cell? ⟨gx, 0, none⟩ = some (.bool xs) ∧ w'.cell? ⟨gx, 1, none⟩ = some (.int .i64 xk) ∧ w'.cell? ⟨gx, 2, none⟩ = some (.int .i64 xi) ∧ w'.cell? ⟨gx, 3, none⟩ = some (.int .i64 (au : Int)) ∧ w'.cell? ⟨gx, 4, none⟩ = some (.int .i64 xq)) (by kernel_rfl) (HK.out _ (grew_drew (grew_refl _))) (fun hHeld => ?_)
                      obtain ⟨wd, HWD⟩ : ∃ wd, Hid (w29.drew = wd) := ⟨_, rfl⟩
                      have hgd : Grew w29 wd := by rw [← HWD.out]; exact grew_drew (grew_refl w29)
                      rw [HWD.out] at hHeld ⊢
                      refine take_yes 0 76 (.pointer (some ⟨gt, 1, none⟩)) rfl rfl (by kernel_rfl) (by kernel_rfl) (by kernel_rfl) (fun _ _ _ h => h) rfl (by intro w hSw; (try dsimp only at hSw); go_simp) (by assumption) ?_
                      simp only [Act.put, List.setIfInBounds_toArray, List.set_cons_zero, List.set_cons_succ]
                      refine take_yes 1 77 (.slice b2 b.lives.length dap2) rfl rfl (by kernel_rfl) (by kernel_rfl) (by kernel_rfl) (fun _ _ _ h => h) rfl (by intro w hSw; (try dsimp only at hSw); go_simp) (by assumption) ?_
                      simp only [Act.put, List.setIfInBounds_toArray, List.set_cons_zero, List.set_cons_succ]
                      refine take_yes 2 78 (.agg #[.bool xs, .int .i64 xk, .int .i64 xi, .int .i64 (au : Int), .int .i64 xq]) rfl rfl (by kernel_rfl) (by kernel_rfl) (by kernel_rfl) (fun _ _ _ h => h) rfl (by intro w hSw; (try dsimp only at hSw); go_simp) (by assumption) ?_
                      simp only [Act.put, List.setIfInBounds_toArray, List.set_cons_zero, List.set_cons_succ]
                      refine wpAnyH_ready (rs := [3]) (by kernel_rfl) (by simp) ?_
                      refine (AllReadyH.cons (o := _) rfl (fun K hK => ?_) AllReadyH.nil)
                      go_simp
                      refine (has_ref _ b.lives ⟨xs, xk, xi, au, xq⟩ _ (ST29.out.below hgd (Nat.le_refl _))).mono ?_
                      rintro e w_3 ⟨rfl, hb_3⟩
                      rw [show isIn b.lives ⟨xs, xk, xi, au, xq⟩ = true from HH2.out]
                      have hg_3 : Grew w29 w_3 := grew_step hgd hb_3
                      refine hK.out _ _ (HK.out _ hg_3) (fun _ => ?_)
                      clear hK K
                      try simp only [Act.put, List.setIfInBounds_toArray, List.set_cons_zero, List.set_cons_succ]
                      refine take_yes 4 80 (.bool true) rfl rfl (by kernel_rfl) (by kernel_rfl) (by kernel_rfl) (fun _ _ _ h => h) rfl (by intro w hSw; (try dsimp only at hSw); go_simp) (by assumption) ?_
                      simp only [Act.put, List.setIfInBounds_toArray, List.set_cons_zero, List.set_cons_succ]
                      refine take_skip 5 81 rfl rfl (by kernel_rfl) (by kernel_rfl) (by kernel_rfl) (fun _ _ _ h => h) rfl (by assumption) ?_
                      simp only [Act.put, List.setIfInBounds_toArray, List.set_cons_zero, List.set_cons_succ]
                      refine take_skip 6 82 rfl rfl (by kernel_rfl) (by kernel_rfl) (by kernel_rfl) (fun _ _ _ h => h) rfl (by assumption) ?_
                      simp only [Act.put, List.setIfInBounds_toArray, List.set_cons_zero, List.set_cons_succ]
                      refine take_skip 7 83 rfl rfl (by kernel_rfl) (by kernel_rfl) (by kernel_rfl) (fun _ _ _ h => h) rfl (by assumption) ?_
                      simp only [Act.put, List.setIfInBounds_toArray, List.set_cons_zero, List.set_cons_succ]
                      refine take_skip 8 84 rfl rfl (by kernel_rfl) (by kernel_rfl) (by kernel_rfl) (fun _ _ _ h => h) rfl (by assumption) ?_
                      simp only [Act.put, List.setIfInBounds_toArray, List.set_cons_zero, List.set_cons_succ]
                      refine take_skip 9 85 rfl rfl (by kernel_rfl) (by kernel_rfl) (by kernel_rfl) (fun _ _ _ h => h) rfl (by assumption) ?_
                      simp only [Act.put, List.setIfInBounds_toArray, List.set_cons_zero, List.set_cons_succ]
                      refine take_skip 10 86 rfl rfl (by kernel_rfl) (by kernel_rfl) (by kernel_rfl) (fun _ _ _ h => h) rfl (by assumption) ?_
                      simp only [Act.put, List.setIfInBounds_toArray, List.set_cons_zero, List.set_cons_succ]
                      refine take_skip 11 87 rfl rfl (by kernel_rfl) (by kernel_rfl) (by kernel_rfl) (fun _ _ _ h => h) rfl (by assumption) ?_
                      simp only [Act.put, List.setIfInBounds_toArray, List.set_cons_zero, List.set_cons_succ]
                      refine take_skip 12 88 rfl rfl (by kernel_rfl) (by kernel_rfl) (by kernel_rfl) (fun _ _ _ h => h) rfl (by assumption) ?_
                      simp only [Act.put, List.setIfInBounds_toArray, List.set_cons_zero, List.set_cons_succ]
                      refine take_skip 13 89 rfl rfl (by kernel_rfl) (by kernel_rfl) (by kernel_rfl) (fun _ _ _ h => h) rfl (by assumption) ?_
                      simp only [Act.put, List.setIfInBounds_toArray, List.set_cons_zero, List.set_cons_succ]
                      refine take_yes 14 90 (.bool true) rfl rfl (by kernel_rfl) (by kernel_rfl) (by kernel_rfl) (fun _ _ _ h => h) rfl (by intro w hSw; (try dsimp only at hSw); go_simp) (by assumption) ?_
                      simp only [Act.put, List.setIfInBounds_toArray, List.set_cons_zero, List.set_cons_succ]
                      refine wpAnyH_done (by kernel_rfl) ?_ _
                      go_wp2_with fail
                      go_meet
                      exact ⟨by simp, hg_3⟩
                    | false =>
                      by_cases hlt2 : y < xq
                      · skip
                        refine wp_region_held_drew (S := fun w' => w'.cell? ⟨gt, 0, none⟩ = some (.slice (some ⟨cb, co, none⟩) b.clock.length dap1) ∧ w'.cell? ⟨gt, 1, none⟩ = some (.slice b2 b.lives.length dap2) ∧ w'.cell? ⟨cb, co + au, none⟩ = some (.int .i64 y) ∧ w'.cell? ⟨gx, 0, none⟩ = some (.bool xs) ∧ w'.cell? ⟨gx, 1, none⟩ = some (.int .i64 xk) ∧ w'.cell? ⟨gx, 2, none⟩ = some (.int .i64 xi) ∧ w'.cell? ⟨gx, 3, none⟩ = some (.int .i64 (au : Int)) ∧ w'.cell? ⟨gx, 4, none⟩ = some (.int .i64 xq)) (by kernel_rfl) (HK.out _ (grew_drew (grew_refl _))) (fun hHeld => ?_)
                        obtain ⟨wd, HWD⟩ : ∃ wd, Hid (w29.drew = wd) := ⟨_, rfl⟩
                        have hgd : Grew w29 wd := by rw [← HWD.out]; exact grew_drew (grew_refl w29)
                        rw [HWD.out] at hHeld ⊢
                        refine take_yes 0 76 (.pointer (some ⟨gt, 1, none⟩)) rfl rfl (by kernel_rfl) (by kernel_rfl) (by kernel_rfl) (fun _ _ _ h => h) rfl (by intro w hSw; (try dsimp only at hSw); go_simp) (by assumption) ?_
                        simp only [Act.put, List.setIfInBounds_toArray, List.set_cons_zero, List.set_cons_succ]
                        refine take_yes 1 77 (.slice b2 b.lives.length dap2) rfl rfl (by kernel_rfl) (by kernel_rfl) (by kernel_rfl) (fun _ _ _ h => h) rfl (by intro w hSw; (try dsimp only at hSw); go_simp) (by assumption) ?_
                        simp only [Act.put, List.setIfInBounds_toArray, List.set_cons_zero, List.set_cons_succ]
                        refine take_yes 2 78 (.agg #[.bool xs, .int .i64 xk, .int .i64 xi, .int .i64 (au : Int), .int .i64 xq]) rfl rfl (by kernel_rfl) (by kernel_rfl) (by kernel_rfl) (fun _ _ _ h => h) rfl (by intro w hSw; (try dsimp only at hSw); go_simp) (by assumption) ?_
                        simp only [Act.put, List.setIfInBounds_toArray, List.set_cons_zero, List.set_cons_succ]
                        refine wpAnyH_ready (rs := [3]) (by kernel_rfl) (by simp) ?_
                        refine (AllReadyH.cons (o := _) rfl (fun K hK => ?_) AllReadyH.nil)
                        go_simp
                        refine (has_ref _ b.lives ⟨xs, xk, xi, au, xq⟩ _ (ST29.out.below hgd (Nat.le_refl _))).mono ?_
                        rintro e w_3 ⟨rfl, hb_3⟩
                        rw [show isIn b.lives ⟨xs, xk, xi, au, xq⟩ = false from HH2.out]
                        have hg_3 : Grew w29 w_3 := grew_step hgd hb_3
                        refine hK.out _ _ (HK.out _ hg_3) (fun _ => ?_)
                        clear hK K
                        try simp only [Act.put, List.setIfInBounds_toArray, List.set_cons_zero, List.set_cons_succ]
                        refine take_yes 4 80 (.bool false) rfl rfl (by kernel_rfl) (by kernel_rfl) (by kernel_rfl) (fun _ _ _ h => h) rfl (by intro w hSw; (try dsimp only at hSw); go_simp) (by assumption) ?_
                        simp only [Act.put, List.setIfInBounds_toArray, List.set_cons_zero, List.set_cons_succ]
                        refine take_yes 5 81 (.pointer (some ⟨gt, 0, none⟩)) rfl rfl (by kernel_rfl) (by kernel_rfl) (by kernel_rfl) (fun _ _ _ h => h) rfl (by intro w hSw; (try dsimp only at hSw); go_simp) (by assumption) ?_
                        simp only [Act.put, List.setIfInBounds_toArray, List.set_cons_zero, List.set_cons_succ]
                        refine take_yes 6 82 (.slice (some ⟨cb, co, none⟩) b.clock.length dap1) rfl rfl (by kernel_rfl) (by kernel_rfl) (by kernel_rfl) (fun _ _ _ h => h) rfl (by intro w hSw; (try dsimp only at hSw); go_simp) (by assumption) ?_
                        simp only [Act.put, List.setIfInBounds_toArray, List.set_cons_zero, List.set_cons_succ]
                        refine take_yes 7 83 (.pointer (some ⟨gx, 3, none⟩)) rfl rfl (by kernel_rfl) (by kernel_rfl) (by kernel_rfl) (fun _ _ _ h => h) rfl (by intro w hSw; (try dsimp only at hSw); go_simp) (by assumption) ?_
                        simp only [Act.put, List.setIfInBounds_toArray, List.set_cons_zero, List.set_cons_succ]
                        refine take_yes 8 84 (.int .i64 (au : Int)) rfl rfl (by kernel_rfl) (by kernel_rfl) (by kernel_rfl) (fun _ _ _ h => h) rfl (by intro w hSw; (try dsimp only at hSw); go_simp) (by assumption) ?_
                        simp only [Act.put, List.setIfInBounds_toArray, List.set_cons_zero, List.set_cons_succ]
                        refine take_yes 9 85 (.pointer (some ⟨cb, co + au, none⟩)) rfl rfl (by kernel_rfl) (by kernel_rfl) (by kernel_rfl) (fun _ _ _ h => h) rfl (by intro w hSw; (try dsimp only at hSw); go_simp) (by assumption) ?_
                        simp only [Act.put, List.setIfInBounds_toArray, List.set_cons_zero, List.set_cons_succ]
                        refine take_yes 10 86 (.int .i64 y) rfl rfl (by kernel_rfl) (by kernel_rfl) (by kernel_rfl) (fun _ _ _ h => h) rfl (by intro w hSw; (try dsimp only at hSw); go_simp) (by assumption) ?_
                        simp only [Act.put, List.setIfInBounds_toArray, List.set_cons_zero, List.set_cons_succ]
                        refine take_yes 11 87 (.pointer (some ⟨gx, 4, none⟩)) rfl rfl (by kernel_rfl) (by kernel_rfl) (by kernel_rfl) (fun _ _ _ h => h) rfl (by intro w hSw; (try dsimp only at hSw); go_simp) (by assumption) ?_
                        simp only [Act.put, List.setIfInBounds_toArray, List.set_cons_zero, List.set_cons_succ]
                        refine take_yes 12 88 (.int .i64 xq) rfl rfl (by kernel_rfl) (by kernel_rfl) (by kernel_rfl) (fun _ _ _ h => h) rfl (by intro w hSw; (try dsimp only at hSw); go_simp) (by assumption) ?_
                        simp only [Act.put, List.setIfInBounds_toArray, List.set_cons_zero, List.set_cons_succ]
                        refine take_yes 13 89 (.bool true) rfl rfl (by kernel_rfl) (by kernel_rfl) (by kernel_rfl) (fun _ _ _ h => h) rfl (by intro w hSw; (try dsimp only at hSw); go_simp) (by assumption) ?_
                        simp only [Act.put, List.setIfInBounds_toArray, List.set_cons_zero, List.set_cons_succ]
                        refine take_yes 14 90 (.bool true) rfl rfl (by kernel_rfl) (by kernel_rfl) (by kernel_rfl) (fun _ _ _ h => h) rfl (by intro w hSw; (try dsimp only at hSw); go_simp) (by assumption) ?_
                        simp only [Act.put, List.setIfInBounds_toArray, List.set_cons_zero, List.set_cons_succ]
                        refine wpAnyH_done (by kernel_rfl) ?_ _
                        go_wp2_with fail
                        go_meet
                        exact ⟨by simp [hlt2], hg_3⟩
                      · skip
                        refine wp_region_held_drew (S := fun w' => w'.cell? ⟨gt, 0, none⟩ = some (.slice (some ⟨cb, co, none⟩) b.clock.length dap1) ∧ w'.cell? ⟨gt, 1, none⟩ = some (.slice b2 b.lives.length dap2) ∧ w'.cell? ⟨cb, co + au, none⟩ = some (.int .i64 y) ∧ w'.cell? ⟨gx, 0, none⟩ = some (.bool xs) ∧ w'.cell? ⟨gx, 1, none⟩ = some (.int .i64 xk) ∧ w'.cell? ⟨gx, 2, none⟩ = some (.int .i64 xi) ∧ w'.cell? ⟨gx, 3, none⟩ = some (.int .i64 (au : Int)) ∧ w'.cell? ⟨gx, 4, none⟩ = some (.int .i64 xq)) (by kernel_rfl) (HK.out _ (grew_drew (grew_refl _))) (fun hHeld => ?_)
                        obtain ⟨wd, HWD⟩ : ∃ wd, Hid (w29.drew = wd) := ⟨_, rfl⟩
                        have hgd : Grew w29 wd := by rw [← HWD.out]; exact grew_drew (grew_refl w29)
                        rw [HWD.out] at hHeld ⊢
                        refine take_yes 0 76 (.pointer (some ⟨gt, 1, none⟩)) rfl rfl (by kernel_rfl) (by kernel_rfl) (by kernel_rfl) (fun _ _ _ h => h) rfl (by intro w hSw; (try dsimp only at hSw); go_simp) (by assumption) ?_
                        simp only [Act.put, List.setIfInBounds_toArray, List.set_cons_zero, List.set_cons_succ]
                        refine take_yes 1 77 (.slice b2 b.lives.length dap2) rfl rfl (by kernel_rfl) (by kernel_rfl) (by kernel_rfl) (fun _ _ _ h => h) rfl (by intro w hSw; (try dsimp only at hSw); go_simp) (by assumption) ?_
                        simp only [Act.put, List.setIfInBounds_toArray, List.set_cons_zero, List.set_cons_succ]
                        refine take_yes 2 78 (.agg #[.bool xs, .int .i64 xk, .int .i64 xi, .int .i64 (au : Int), .int .i64 xq]) rfl rfl (by kernel_rfl) (by kernel_rfl) (by kernel_rfl) (fun _ _ _ h => h) rfl (by intro w hSw; (try dsimp only at hSw); go_simp) (by assumption) ?_
                        simp only [Act.put, List.setIfInBounds_toArray, List.set_cons_zero, List.set_cons_succ]
                        refine wpAnyH_ready (rs := [3]) (by kernel_rfl) (by simp) ?_
                        refine (AllReadyH.cons (o := _) rfl (fun K hK => ?_) AllReadyH.nil)
                        go_simp
                        refine (has_ref _ b.lives ⟨xs, xk, xi, au, xq⟩ _ (ST29.out.below hgd (Nat.le_refl _))).mono ?_
                        rintro e w_3 ⟨rfl, hb_3⟩
                        rw [show isIn b.lives ⟨xs, xk, xi, au, xq⟩ = false from HH2.out]
                        have hg_3 : Grew w29 w_3 := grew_step hgd hb_3
                        refine hK.out _ _ (HK.out _ hg_3) (fun _ => ?_)
                        clear hK K
                        try simp only [Act.put, List.setIfInBounds_toArray, List.set_cons_zero, List.set_cons_succ]
                        refine take_yes 4 80 (.bool false) rfl rfl (by kernel_rfl) (by kernel_rfl) (by kernel_rfl) (fun _ _ _ h => h) rfl (by intro w hSw; (try dsimp only at hSw); go_simp) (by assumption) ?_
                        simp only [Act.put, List.setIfInBounds_toArray, List.set_cons_zero, List.set_cons_succ]
                        refine take_yes 5 81 (.pointer (some ⟨gt, 0, none⟩)) rfl rfl (by kernel_rfl) (by kernel_rfl) (by kernel_rfl) (fun _ _ _ h => h) rfl (by intro w hSw; (try dsimp only at hSw); go_simp) (by assumption) ?_
                        simp only [Act.put, List.setIfInBounds_toArray, List.set_cons_zero, List.set_cons_succ]
                        refine take_yes 6 82 (.slice (some ⟨cb, co, none⟩) b.clock.length dap1) rfl rfl (by kernel_rfl) (by kernel_rfl) (by kernel_rfl) (fun _ _ _ h => h) rfl (by intro w hSw; (try dsimp only at hSw); go_simp) (by assumption) ?_
                        simp only [Act.put, List.setIfInBounds_toArray, List.set_cons_zero, List.set_cons_succ]
                        refine take_yes 7 83 (.pointer (some ⟨gx, 3, none⟩)) rfl rfl (by kernel_rfl) (by kernel_rfl) (by kernel_rfl) (fun _ _ _ h => h) rfl (by intro w hSw; (try dsimp only at hSw); go_simp) (by assumption) ?_
                        simp only [Act.put, List.setIfInBounds_toArray, List.set_cons_zero, List.set_cons_succ]
                        refine take_yes 8 84 (.int .i64 (au : Int)) rfl rfl (by kernel_rfl) (by kernel_rfl) (by kernel_rfl) (fun _ _ _ h => h) rfl (by intro w hSw; (try dsimp only at hSw); go_simp) (by assumption) ?_
                        simp only [Act.put, List.setIfInBounds_toArray, List.set_cons_zero, List.set_cons_succ]
                        refine take_yes 9 85 (.pointer (some ⟨cb, co + au, none⟩)) rfl rfl (by kernel_rfl) (by kernel_rfl) (by kernel_rfl) (fun _ _ _ h => h) rfl (by intro w hSw; (try dsimp only at hSw); go_simp) (by assumption) ?_
                        simp only [Act.put, List.setIfInBounds_toArray, List.set_cons_zero, List.set_cons_succ]
                        refine take_yes 10 86 (.int .i64 y) rfl rfl (by kernel_rfl) (by kernel_rfl) (by kernel_rfl) (fun _ _ _ h => h) rfl (by intro w hSw; (try dsimp only at hSw); go_simp) (by assumption) ?_
                        simp only [Act.put, List.setIfInBounds_toArray, List.set_cons_zero, List.set_cons_succ]
                        refine take_yes 11 87 (.pointer (some ⟨gx, 4, none⟩)) rfl rfl (by kernel_rfl) (by kernel_rfl) (by kernel_rfl) (fun _ _ _ h => h) rfl (by intro w hSw; (try dsimp only at hSw); go_simp) (by assumption) ?_
                        simp only [Act.put, List.setIfInBounds_toArray, List.set_cons_zero, List.set_cons_succ]
                        refine take_yes 12 88 (.int .i64 xq) rfl rfl (by kernel_rfl) (by kernel_rfl) (by kernel_rfl) (fun _ _ _ h => h) rfl (by intro w hSw; (try dsimp only at hSw); go_simp) (by assumption) ?_
                        simp only [Act.put, List.setIfInBounds_toArray, List.set_cons_zero, List.set_cons_succ]
                        refine take_yes 13 89 (.bool false) rfl rfl (by kernel_rfl) (by kernel_rfl) (by kernel_rfl) (fun _ _ _ h => h) rfl (by intro w hSw; (try dsimp only at hSw); go_simp) (by assumption) ?_
                        simp only [Act.put, List.setIfInBounds_toArray, List.set_cons_zero, List.set_cons_succ]
                        refine take_yes 14 90 (.bool false) rfl rfl (by kernel_rfl) (by kernel_rfl) (by kernel_rfl) (fun _ _ _ h => h) rfl (by intro w hSw; (try dsimp only at hSw); go_simp) (by assumption) ?_
                        simp only [Act.put, List.setIfInBounds_toArray, List.set_cons_zero, List.set_cons_succ]
                        refine wpAnyH_done (by kernel_rfl) ?_ _
                        go_wp2_with fail
                        go_meet
                        exact ⟨by simp [hlt2], hg_3⟩
                  case rest =>
                    obtain ⟨rfl, HGR⟩ := hcut
                    obtain ⟨w30, rfl⟩ : ∃ w30, w30 = wc := ⟨wc, rfl⟩
                    have HJ30 := hide (HJ29.out.below HGR.out)
                    have L30 := hide (L29.out.below HGR.out (Nat.le_refl _))
                    have M30 := hide (M29.out.below HGR.out (Nat.le_refl _))
                    have T30 := hide (T29.out.below HGR.out (Nat.le_refl _))
                    have X30 := hide (X29.out.below HGR.out (Nat.le_refl _))
                    clear HJ29 L29 M29 T29 X29 HGR HK
                    have HST : Hid (refLives b [] (a.lives.take (j + 1)) = if (h2 || decide (y < xq)) = true then insL ⟨xs, xk, xi, au, xq⟩ LL else LL) := by
                      unfold Hid
                      rw [HSN.out]
                      unfold refStep
                      rw [if_neg hh, HH2.out]
                      simp only [Int.toNat_natCast, HY.out, Bool.or_eq_true, decide_eq_true_eq]
                    clear hh hh'
                    obtain ⟨c, HC⟩ : ∃ c, Hid ((h2 || decide (y < xq)) = c) := ⟨_, rfl⟩
                    rw [HC.out] at HST ⊢
                    cases c with
                    | false =>
                      rw [if_neg (by simp)] at HST
                      go_wp2_with fail
                      go_roundw
                      case rel => exact ⟨j + 1, lv, by omega, by go_num, by rw [HST.out]; exact HJ30, L30, M30, T30⟩
                      case measure => simp [intOf]; omega
                    | true =>
                      rw [if_pos rfl] at HST
                      have b1 := HJ30.out.box.get 1 rfl
                      have x0 := X30.out.get 0 rfl
                      have x1 := X30.out.get 1 rfl
                      have x2 := X30.out.get 2 rfl
                      have x3 := X30.out.get 3 rfl
                      have x4 := X30.out.get 4 rfl
                      go_wp2_with fail
                      refine (put_ref _ LL ⟨xs, xk, xi, au, xq⟩ _ (slice_of_own encL_length HJ30.out.lv) (Nat.le_trans HLN.out (by decide))).mono ?_
                      rintro e w31 ⟨pv, rfl, hP, hb31⟩
                      obtain ⟨NL, HNL⟩ : ∃ NL, Hid (insL ⟨xs, xk, xi, au, xq⟩ LL = NL) := ⟨_, rfl⟩
                      rw [HNL.out] at hP HST
                      obtain ⟨pa, pcap, hpv, -⟩ := slice_of_own encL_length hP
                      subst hpv
                      have J31 := HJ30.out.below hb31
                      have P31 : RowA 52 5 encL w31 W1.heap.size (.slice pa NL.length pcap) NL := ownsRow_base hP HJ30.out.bl.size
                      have HJ32 := hide (J31.setL P31)
                      have L32 := hide ((L30.out.below hb31 (Nat.le_refl _)).away (i := 1) (v := .slice pa NL.length pcap) HGLN.out)
                      have M32 := hide ((M30.out.below hb31 (Nat.le_refl _)).away (i := 1) (v := .slice pa NL.length pcap) HNM.out)
                      have T32 := hide ((T30.out.below hb31 (Nat.le_refl _)).away (i := 1) (v := .slice pa NL.length pcap) HNT.out)
                      have b1' := J31.box.get 1 rfl
                      have f1' := J31.box.free 1
                      clear b1 x0 x1 x2 x3 x4 hP hb31 HJ30 L30 M30 T30 X30
                      go_wp2_with fail
                      go_roundw
                      case rel => exact ⟨j + 1, _, by omega, by go_num, by rw [HST.out]; exact HJ32, L32, M32, T32⟩
                      case measure => simp [intOf]; omega
              · have hlt' : ¬ (j : Int) < (a.lives.length : Int) := by omega
                have hjl : a.lives.take j = a.lives := List.take_of_length_le (by omega)
                rw [hjl] at HJ27
                clear hjl
                go_wp2_with fail
                go_roundw
                case rel => exact ⟨1, lv, _, .inr (.inl rfl), by go_num, fun h => by omega, fun _ => rfl, fun h => by omega, HJ27, L27⟩
                case measure => simp [intOf]
        · skip
          have hLL : L = (refLives b [] a.lives) := HL1.out rfl
          subst hLL
          clear HL0 HL1 HL2
          have y0 := L24.out.get 6 rfl
          have y1 := L24.out.get 7 rfl
          have y2 := L24.out.get 8 rfl
          have y3 := L24.out.get 9 rfl
          have y4 := L24.out.get 10 rfl
          have y5 := L24.out.get 11 rfl
          have hbp := Below.plus (Below.refl w24.heap.size w24) (.cells #[.slice b1 b.clock.length dap1, .slice b2 b.lives.length dap2, .slice b3 b.tals.length dap3, .slice a1 a.clock.length cap1, .slice a2 a.lives.length cap2, .slice a3 a.tals.length cap3] 89)
          have B25 := Box.new w24 [.slice b1 b.clock.length dap1, .slice b2 b.lives.length dap2, .slice b3 b.tals.length dap3, .slice a1 a.clock.length cap1, .slice a2 a.lives.length cap2, .slice a3 a.tals.length cap3] 89
          have J25 := HJ24.out.below hbp
          have L25 := hide (L24.out.below hbp (Nat.le_refl _))
          obtain ⟨gw, HGW⟩ : ∃ gw, Hid (w24.heap.size = gw) := ⟨_, rfl⟩
          obtain ⟨w25, HW25⟩ : ∃ W, Hid (w24.alloc (.cells #[.slice b1 b.clock.length dap1, .slice b2 b.lives.length dap2, .slice b3 b.tals.length dap3, .slice a1 a.clock.length cap1, .slice a2 a.lives.length cap2, .slice a3 a.tals.length cap3] 89) = W) := ⟨_, rfl⟩
          rw [HW25.out] at B25 J25 L25
          rw [HGW.out] at B25
          have HJ25 := hide J25
          clear hbp J25 HJ24 L24
          go_upto_region 13 with fail
          rw [HW25.out, HGW.out]
          clear y0 y1 y2 y3 y4 y5
          have HB25 := hide B25
          have HK13 : Hid (∀ w', Grew w25 w' → w'.cell? ⟨gw, 0, none⟩ = some (.slice b1 b.clock.length dap1) ∧ w'.cell? ⟨gw, 1, none⟩ = some (.slice b2 b.lives.length dap2) ∧ w'.cell? ⟨gw, 2, none⟩ = some (.slice b3 b.tals.length dap3) ∧ w'.cell? ⟨gw, 3, none⟩ = some (.slice a1 a.clock.length cap1) ∧ w'.cell? ⟨gw, 4, none⟩ = some (.slice a2 a.lives.length cap2) ∧ w'.cell? ⟨gw, 5, none⟩ = some (.slice a3 a.tals.length cap3)) := fun w' hg => ⟨(HB25.out.below hg (Nat.le_refl _)).get 0 rfl, (HB25.out.below hg (Nat.le_refl _)).get 1 rfl, (HB25.out.below hg (Nat.le_refl _)).get 2 rfl, (HB25.out.below hg (Nat.le_refl _)).get 3 rfl, (HB25.out.below hg (Nat.le_refl _)).get 4 rfl, (HB25.out.below hg (Nat.le_refl _)).get 5 rfl⟩
          go_cut [13, 14] (fun p s wx => ∃ gm gt, p = .pointer (some ⟨gm, 0, none⟩) ∧ s = .pointer (some ⟨gt, 0, none⟩) ∧ Hid (Box wx gm [.slice b1 b.clock.length dap1, .slice b2 b.lives.length dap2, .slice b3 b.tals.length dap3] 27) ∧ Hid (Box wx gt [.slice a1 a.clock.length cap1, .slice a2 a.lives.length cap2, .slice a3 a.tals.length cap3] 27) ∧ Hid (w25.heap.size ≤ gm ∧ w25.heap.size ≤ gt) ∧ Hid (Grew w25 wx))
          case first =>
            refine wp_region_held_drew (S := fun w' => w'.cell? ⟨gw, 0, none⟩ = some (.slice b1 b.clock.length dap1) ∧ w'.cell? ⟨gw, 1, none⟩ = some (.slice b2 b.lives.length dap2) ∧ w'.cell? ⟨gw, 2, none⟩ = some (.slice b3 b.tals.length dap3) ∧ w'.cell? ⟨gw, 3, none⟩ = some (.slice a1 a.clock.length cap1) ∧ w'.cell? ⟨gw, 4, none⟩ = some (.slice a2 a.lives.length cap2) ∧ w'.cell? ⟨gw, 5, none⟩ = some (.slice a3 a.tals.length cap3)) (by kernel_rfl) (HK13.out _ (grew_drew (grew_refl _))) (fun hHeld => ?_)
            obtain ⟨wd, HWD⟩ : ∃ wd, Hid (w25.drew = wd) := ⟨_, rfl⟩
            have hgd : Grew w25 wd := by rw [← HWD.out]; exact grew_drew (grew_refl w25)
            rw [HWD.out] at hHeld ⊢
            refine take_yes 0 61 (.pointer (some ⟨gw, 0, none⟩)) rfl rfl (by kernel_rfl) (by kernel_rfl) (by kernel_rfl) (fun _ _ _ h => h) rfl (by intro w hSw; (try dsimp only at hSw); go_simp) (by assumption) ?_
            simp only [Act.put, List.setIfInBounds_toArray, List.set_cons_zero, List.set_cons_succ]
            refine take_yes 1 62 (.agg #[.slice b1 b.clock.length dap1, .slice b2 b.lives.length dap2, .slice b3 b.tals.length dap3]) rfl rfl (by kernel_rfl) (by kernel_rfl) (by kernel_rfl) (fun _ _ _ h => h) rfl (by intro w hSw; (try dsimp only at hSw); go_simp) (by assumption) ?_
            simp only [Act.put, List.setIfInBounds_toArray, List.set_cons_zero, List.set_cons_succ]
            refine take_yes 2 63 (.pointer (some ⟨gw, 3, none⟩)) rfl rfl (by kernel_rfl) (by kernel_rfl) (by kernel_rfl) (fun _ _ _ h => h) rfl (by intro w hSw; (try dsimp only at hSw); go_simp) (by assumption) ?_
            simp only [Act.put, List.setIfInBounds_toArray, List.set_cons_zero, List.set_cons_succ]
            refine take_yes 3 64 (.agg #[.slice a1 a.clock.length cap1, .slice a2 a.lives.length cap2, .slice a3 a.tals.length cap3]) rfl rfl (by kernel_rfl) (by kernel_rfl) (by kernel_rfl) (fun _ _ _ h => h) rfl (by intro w hSw; (try dsimp only at hSw); go_simp) (by assumption) ?_
            simp only [Act.put, List.setIfInBounds_toArray, List.set_cons_zero, List.set_cons_succ]
            refine wpAnyH_ready (rs := [4, 5]) (by kernel_rfl) (by simp) ?_
            refine (AllReadyH.cons (o := _) rfl (fun K hK => ?_) (AllReadyH.cons (o := _) rfl (fun K hK => ?_) AllReadyH.nil))
            · skip
              go_simp
              have hb_4 := Below.plus (Below.refl wd.heap.size wd) (.cells #[.slice none 0 0, .slice none 0 0, .slice none 0 0] 27)
              have M_4 := Box.new wd [.slice none 0 0, .slice none 0 0, .slice none 0 0] 27
              have ge_g_4 : w25.heap.size ≤ wd.heap.size := hgd.size
              obtain ⟨w_4, Hw_4⟩ : ∃ W, Hid (wd.alloc (.cells #[.slice none 0 0, .slice none 0 0, .slice none 0 0] 27) = W) := ⟨_, rfl⟩
              rw [Hw_4.out] at hb_4 M_4 ⊢
              obtain ⟨g_4, Hg_4⟩ : ∃ g, Hid (wd.heap.size = g) := ⟨_, rfl⟩
              rw [Hg_4.out] at M_4 ge_g_4 ⊢
              have hg_4 : Grew w25 w_4 := grew_step hgd hb_4
              refine hK.out _ _ (HK13.out _ hg_4) (fun _ => ?_)
              clear hK K
              try simp only [Act.put, List.setIfInBounds_toArray, List.set_cons_zero, List.set_cons_succ]
              refine wpAnyH_ready (rs := [5]) (by kernel_rfl) (by simp) ?_
              refine (AllReadyH.cons (o := _) rfl (fun K hK => ?_) AllReadyH.nil)
              go_simp
              have hb_4_5 := Below.plus (Below.refl w_4.heap.size w_4) (.cells #[.slice none 0 0, .slice none 0 0, .slice none 0 0] 27)
              have T_4_5 := Box.new w_4 [.slice none 0 0, .slice none 0 0, .slice none 0 0] 27
              have ge_g_4_5 : w25.heap.size ≤ w_4.heap.size := hg_4.size
              have lt_g_4_5 := M_4.lt
              obtain ⟨w_4_5, Hw_4_5⟩ : ∃ W, Hid (w_4.alloc (.cells #[.slice none 0 0, .slice none 0 0, .slice none 0 0] 27) = W) := ⟨_, rfl⟩
              rw [Hw_4_5.out] at hb_4_5 T_4_5 ⊢
              obtain ⟨g_4_5, Hg_4_5⟩ : ∃ g, Hid (w_4.heap.size = g) := ⟨_, rfl⟩
              rw [Hg_4_5.out] at T_4_5 ge_g_4_5 lt_g_4_5 ⊢
              have hg_4_5 : Grew w25 w_4_5 := grew_step hg_4 hb_4_5
              have M_4_5 := M_4.below hb_4_5 (Nat.le_refl _)
              refine hK.out _ _ (HK13.out _ hg_4_5) (fun _ => ?_)
              clear hK K
              try simp only [Act.put, List.setIfInBounds_toArray, List.set_cons_zero, List.set_cons_succ]
              refine wpAnyH_ready (rs := [6]) (by kernel_rfl) (by simp) ?_
              refine (AllReadyH.cons (o := _) rfl (fun K hK => ?_) AllReadyH.nil)
              have c0 := M_4_5.get 0 rfl
              have n0 := M_4_5.free 0
              have c1 := M_4_5.get 1 rfl
              have n1 := M_4_5.free 1
              have c2 := M_4_5.get 2 rfl
              have n2 := M_4_5.free 2
              go_simp
              have M_4_5_6 := (((M_4_5.set 0 (.slice b1 b.clock.length dap1)).set 1 (.slice b2 b.lives.length dap2)).set 2 (.slice b3 b.tals.length dap3))
              simp only [List.set_cons_zero, List.set_cons_succ] at M_4_5_6
              have gg_4_5_6 : Grew w25 _ := (Below.setCell (Below.setCell (Below.setCell hg_4_5 (p := ⟨g_4, 0, none⟩) ge_g_4 (.slice b1 b.clock.length dap1)) (p := ⟨g_4, 1, none⟩) ge_g_4 (.slice b2 b.lives.length dap2)) (p := ⟨g_4, 2, none⟩) ge_g_4 (.slice b3 b.tals.length dap3))
              have ne_4_5_6 : g_4_5 ≠ g_4 := by omega
              have T_4_5_6 := (((T_4_5.away (i := 0) (v := .slice b1 b.clock.length dap1) ne_4_5_6).away (i := 1) (v := .slice b2 b.lives.length dap2) ne_4_5_6).away (i := 2) (v := .slice b3 b.tals.length dap3) ne_4_5_6)
              obtain ⟨w_4_5_6, Hw_4_5_6⟩ : ∃ W, Hid ((((w_4_5.setCell ⟨g_4, 0, none⟩ (.slice b1 b.clock.length dap1)).setCell ⟨g_4, 1, none⟩ (.slice b2 b.lives.length dap2)).setCell ⟨g_4, 2, none⟩ (.slice b3 b.tals.length dap3)) = W) := ⟨_, rfl⟩
              rw [Hw_4_5_6.out] at M_4_5_6 gg_4_5_6 T_4_5_6 ⊢
              clear c0 c1 c2 n0 n1 n2
              have hg_4_5_6 : Grew w25 w_4_5_6 := gg_4_5_6
              refine hK.out _ _ (HK13.out _ hg_4_5_6) (fun _ => ?_)
              clear hK K
              try simp only [Act.put, List.setIfInBounds_toArray, List.set_cons_zero, List.set_cons_succ]
              refine wpAnyH_ready (rs := [7]) (by kernel_rfl) (by simp) ?_
              refine (AllReadyH.cons (o := _) rfl (fun K hK => ?_) AllReadyH.nil)
              have c0 := T_4_5_6.get 0 rfl
              have n0 := T_4_5_6.free 0
              have c1 := T_4_5_6.get 1 rfl
              have n1 := T_4_5_6.free 1
              have c2 := T_4_5_6.get 2 rfl
              have n2 := T_4_5_6.free 2
              go_simp
              have T_4_5_6_7 := (((T_4_5_6.set 0 (.slice a1 a.clock.length cap1)).set 1 (.slice a2 a.lives.length cap2)).set 2 (.slice a3 a.tals.length cap3))
              simp only [List.set_cons_zero, List.set_cons_succ] at T_4_5_6_7
              have gg_4_5_6_7 : Grew w25 _ := (Below.setCell (Below.setCell (Below.setCell hg_4_5_6 (p := ⟨g_4_5, 0, none⟩) ge_g_4_5 (.slice a1 a.clock.length cap1)) (p := ⟨g_4_5, 1, none⟩) ge_g_4_5 (.slice a2 a.lives.length cap2)) (p := ⟨g_4_5, 2, none⟩) ge_g_4_5 (.slice a3 a.tals.length cap3))
              have ne_4_5_6_7 : g_4 ≠ g_4_5 := by omega
              have M_4_5_6_7 := (((M_4_5_6.away (i := 0) (v := .slice a1 a.clock.length cap1) ne_4_5_6_7).away (i := 1) (v := .slice a2 a.lives.length cap2) ne_4_5_6_7).away (i := 2) (v := .slice a3 a.tals.length cap3) ne_4_5_6_7)
              obtain ⟨w_4_5_6_7, Hw_4_5_6_7⟩ : ∃ W, Hid ((((w_4_5_6.setCell ⟨g_4_5, 0, none⟩ (.slice a1 a.clock.length cap1)).setCell ⟨g_4_5, 1, none⟩ (.slice a2 a.lives.length cap2)).setCell ⟨g_4_5, 2, none⟩ (.slice a3 a.tals.length cap3)) = W) := ⟨_, rfl⟩
              rw [Hw_4_5_6_7.out] at T_4_5_6_7 gg_4_5_6_7 M_4_5_6_7 ⊢
              clear c0 c1 c2 n0 n1 n2
              have hg_4_5_6_7 : Grew w25 w_4_5_6_7 := gg_4_5_6_7
              refine hK.out _ _ (HK13.out _ hg_4_5_6_7) (fun _ => ?_)
              clear hK K
              try simp only [Act.put, List.setIfInBounds_toArray, List.set_cons_zero, List.set_cons_succ]
              refine wpAnyH_done (by kernel_rfl) ?_ _
              go_wp2_with fail
              go_meet
              exact ⟨_, _, rfl, rfl, M_4_5_6_7, T_4_5_6_7, ⟨ge_g_4, ge_g_4_5⟩, hg_4_5_6_7⟩
            · skip
              go_simp
              have hb_5 := Below.plus (Below.refl wd.heap.size wd) (.cells #[.slice none 0 0, .slice none 0 0, .slice none 0 0] 27)
              have T_5 := Box.new wd [.slice none 0 0, .slice none 0 0, .slice none 0 0] 27
              have ge_g_5 : w25.heap.size ≤ wd.heap.size := hgd.size
              obtain ⟨w_5, Hw_5⟩ : ∃ W, Hid (wd.alloc (.cells #[.slice none 0 0, .slice none 0 0, .slice none 0 0] 27) = W) := ⟨_, rfl⟩
              rw [Hw_5.out] at hb_5 T_5 ⊢
              obtain ⟨g_5, Hg_5⟩ : ∃ g, Hid (wd.heap.size = g) := ⟨_, rfl⟩
              rw [Hg_5.out] at T_5 ge_g_5 ⊢
              have hg_5 : Grew w25 w_5 := grew_step hgd hb_5
              refine hK.out _ _ (HK13.out _ hg_5) (fun _ => ?_)
              clear hK K
              try simp only [Act.put, List.setIfInBounds_toArray, List.set_cons_zero, List.set_cons_succ]
              refine wpAnyH_ready (rs := [4]) (by kernel_rfl) (by simp) ?_
              refine (AllReadyH.cons (o := _) rfl (fun K hK => ?_) AllReadyH.nil)
              go_simp
              have hb_5_4 := Below.plus (Below.refl w_5.heap.size w_5) (.cells #[.slice none 0 0, .slice none 0 0, .slice none 0 0] 27)
              have M_5_4 := Box.new w_5 [.slice none 0 0, .slice none 0 0, .slice none 0 0] 27
              have ge_g_5_4 : w25.heap.size ≤ w_5.heap.size := hg_5.size
              have lt_g_5_4 := T_5.lt
              obtain ⟨w_5_4, Hw_5_4⟩ : ∃ W, Hid (w_5.alloc (.cells #[.slice none 0 0, .slice none 0 0, .slice none 0 0] 27) = W) := ⟨_, rfl⟩
              rw [Hw_5_4.out] at hb_5_4 M_5_4 ⊢
              obtain ⟨g_5_4, Hg_5_4⟩ : ∃ g, Hid (w_5.heap.size = g) := ⟨_, rfl⟩
              rw [Hg_5_4.out] at M_5_4 ge_g_5_4 lt_g_5_4 ⊢
              have hg_5_4 : Grew w25 w_5_4 := grew_step hg_5 hb_5_4
              have T_5_4 := T_5.below hb_5_4 (Nat.le_refl _)
              refine hK.out _ _ (HK13.out _ hg_5_4) (fun _ => ?_)
              clear hK K
              try simp only [Act.put, List.setIfInBounds_toArray, List.set_cons_zero, List.set_cons_succ]
              refine wpAnyH_ready (rs := [6]) (by kernel_rfl) (by simp) ?_
              refine (AllReadyH.cons (o := _) rfl (fun K hK => ?_) AllReadyH.nil)
              have c0 := M_5_4.get 0 rfl
              have n0 := M_5_4.free 0
              have c1 := M_5_4.get 1 rfl
              have n1 := M_5_4.free 1
              have c2 := M_5_4.get 2 rfl
              have n2 := M_5_4.free 2
              go_simp
              have M_5_4_6 := (((M_5_4.set 0 (.slice b1 b.clock.length dap1)).set 1 (.slice b2 b.lives.length dap2)).set 2 (.slice b3 b.tals.length dap3))
              simp only [List.set_cons_zero, List.set_cons_succ] at M_5_4_6
              have gg_5_4_6 : Grew w25 _ := (Below.setCell (Below.setCell (Below.setCell hg_5_4 (p := ⟨g_5_4, 0, none⟩) ge_g_5_4 (.slice b1 b.clock.length dap1)) (p := ⟨g_5_4, 1, none⟩) ge_g_5_4 (.slice b2 b.lives.length dap2)) (p := ⟨g_5_4, 2, none⟩) ge_g_5_4 (.slice b3 b.tals.length dap3))
              have ne_5_4_6 : g_5 ≠ g_5_4 := by omega
              have T_5_4_6 := (((T_5_4.away (i := 0) (v := .slice b1 b.clock.length dap1) ne_5_4_6).away (i := 1) (v := .slice b2 b.lives.length dap2) ne_5_4_6).away (i := 2) (v := .slice b3 b.tals.length dap3) ne_5_4_6)
              obtain ⟨w_5_4_6, Hw_5_4_6⟩ : ∃ W, Hid ((((w_5_4.setCell ⟨g_5_4, 0, none⟩ (.slice b1 b.clock.length dap1)).setCell ⟨g_5_4, 1, none⟩ (.slice b2 b.lives.length dap2)).setCell ⟨g_5_4, 2, none⟩ (.slice b3 b.tals.length dap3)) = W) := ⟨_, rfl⟩
              rw [Hw_5_4_6.out] at M_5_4_6 gg_5_4_6 T_5_4_6 ⊢
              clear c0 c1 c2 n0 n1 n2
              have hg_5_4_6 : Grew w25 w_5_4_6 := gg_5_4_6
              refine hK.out _ _ (HK13.out _ hg_5_4_6) (fun _ => ?_)
              clear hK K
              try simp only [Act.put, List.setIfInBounds_toArray, List.set_cons_zero, List.set_cons_succ]
              refine wpAnyH_ready (rs := [7]) (by kernel_rfl) (by simp) ?_
              refine (AllReadyH.cons (o := _) rfl (fun K hK => ?_) AllReadyH.nil)
              have c0 := T_5_4_6.get 0 rfl
              have n0 := T_5_4_6.free 0
              have c1 := T_5_4_6.get 1 rfl
              have n1 := T_5_4_6.free 1
              have c2 := T_5_4_6.get 2 rfl
              have n2 := T_5_4_6.free 2
              go_simp
              have T_5_4_6_7 := (((T_5_4_6.set 0 (.slice a1 a.clock.length cap1)).set 1 (.slice a2 a.lives.length cap2)).set 2 (.slice a3 a.tals.length cap3))
              simp only [List.set_cons_zero, List.set_cons_succ] at T_5_4_6_7
              have gg_5_4_6_7 : Grew w25 _ := (Below.setCell (Below.setCell (Below.setCell hg_5_4_6 (p := ⟨g_5, 0, none⟩) ge_g_5 (.slice a1 a.clock.length cap1)) (p := ⟨g_5, 1, none⟩) ge_g_5 (.slice a2 a.lives.length cap2)) (p := ⟨g_5, 2, none⟩) ge_g_5 (.slice a3 a.tals.length cap3))
              have ne_5_4_6_7 : g_5_4 ≠ g_5 := by omega
              have M_5_4_6_7 := (((M_5_4_6.away (i := 0) (v := .slice a1 a.clock.length cap1) ne_5_4_6_7).away (i := 1) (v := .slice a2 a.lives.length cap2) ne_5_4_6_7).away (i := 2) (v := .slice a3 a.tals.length cap3) ne_5_4_6_7)
              obtain ⟨w_5_4_6_7, Hw_5_4_6_7⟩ : ∃ W, Hid ((((w_5_4_6.setCell ⟨g_5, 0, none⟩ (.slice a1 a.clock.length cap1)).setCell ⟨g_5, 1, none⟩ (.slice a2 a.lives.length cap2)).setCell ⟨g_5, 2, none⟩ (.slice a3 a.tals.length cap3)) = W) := ⟨_, rfl⟩
              rw [Hw_5_4_6_7.out] at T_5_4_6_7 gg_5_4_6_7 M_5_4_6_7 ⊢
              clear c0 c1 c2 n0 n1 n2
              have hg_5_4_6_7 : Grew w25 w_5_4_6_7 := gg_5_4_6_7
              refine hK.out _ _ (HK13.out _ hg_5_4_6_7) (fun _ => ?_)
              clear hK K
              try simp only [Act.put, List.setIfInBounds_toArray, List.set_cons_zero, List.set_cons_succ]
              refine wpAnyH_done (by kernel_rfl) ?_ _
              go_wp2_with fail
              go_meet
              exact ⟨_, _, rfl, rfl, M_5_4_6_7, T_5_4_6_7, ⟨ge_g_5_4, ge_g_5⟩, hg_5_4_6_7⟩
          case rest =>
            obtain ⟨gm, gt, rfl, rfl, HM26, HT26, HGG, HGR⟩ := hcut
            obtain ⟨w26, rfl⟩ : ∃ w26, w26 = wc := ⟨wc, rfl⟩
            have HJ26 := hide (HJ25.out.below HGR.out)
            have L26 := hide (L25.out.below HGR.out (Nat.le_refl _))
            have hgo : go < w25.heap.size := HJ25.out.box.lt
            have hnm : ¬ gm = go := by have := HGG.out; omega
            have hnt : ¬ gt = go := by have := HGG.out; omega
            have HNM := hide hnm
            have HNT := hide hnt
            have HFW := hide HOB.out.few
            have HGLN : Hid (¬ gl = go) := by unfold Hid; have := HGL.out; omega
            clear HJ25 L25 B25 HB25 HK13 hgo hnm hnt HGR
            have m1 := HM26.out.get 1 rfl
            have hml : b.lives.length ≤ 400000000 := HFW.out.1
            go_wp2_with fail
            clear m1
            go_loopw [68] (fun i wr => ∃ (j : Nat) (lv : Value), j ≤ b.lives.length ∧ i = .int .i64 j ∧ Hid (JI W1 wr W1.heap.size go (.slice ra J.length rcap) lv (.slice none 0 0) J (refLives a (refLives b [] a.lives) (b.lives.take j)) []) ∧ Hid (Box wr gl [.slice a1 a.clock.length cap1, .slice a2 a.lives.length cap2, .slice a3 a.tals.length cap3, .slice b1 b.clock.length dap1, .slice b2 b.lives.length dap2, .slice b3 b.tals.length dap3, .slice b1 b.clock.length dap1, .slice b2 b.lives.length dap2, .slice b3 b.tals.length dap3, .slice a1 a.clock.length cap1, .slice a2 a.lives.length cap2, .slice a3 a.tals.length cap3] 89) ∧ Hid (Box wr gm [.slice b1 b.clock.length dap1, .slice b2 b.lives.length dap2, .slice b3 b.tals.length dap3] 27) ∧ Hid (Box wr gt [.slice a1 a.clock.length cap1, .slice a2 a.lives.length cap2, .slice a3 a.tals.length cap3] 27)) (fun i _ => b.lives.length - (intOf i).toNat)
            case atStart => exact ⟨0, _, Nat.zero_le _, rfl, HJ26, L26, HM26, HT26⟩
            case round =>
              obtain ⟨j, lv, hj, rfl, HJ27, L27, HM27, HT27⟩ := hrel
              obtain ⟨w27, rfl⟩ : ∃ w27, w27 = wr := ⟨wr, rfl⟩
              clear HJ26 L26 HM26 HT26
              by_cases hlt : j < b.lives.length
              · have hlt' : (j : Int) < (b.lives.length : Int) := by omega
                obtain ⟨x, HX⟩ : ∃ x, Hid (b.lives[j]? = some x) := ⟨_, List.getElem?_eq_getElem hlt⟩
                have HOK := hide (HOB.out.lives x (List.mem_of_getElem? HX.out))
                obtain ⟨xs, xk, xi, xu, xq⟩ := x
                obtain ⟨au, hau⟩ : ∃ au : Nat, xu = au := ⟨xu.toNat, by have := HOK.out.1; simp only at this; omega⟩
                subst hau
                have HSN := hide (refLives_snoc (th := a) (out := (refLives b [] a.lives)) HX.out)
                obtain ⟨LL, HLL⟩ : ∃ LL, Hid (refLives a (refLives b [] a.lives) (b.lives.take j) = LL) := ⟨_, rfl⟩
                rw [HLL.out] at HSN HJ27
                have HLN : Hid (LL.length ≤ 800000000) := by
                  have h1 := refLives_len (th := a) (l := b.lives.take j) (out := (refLives b [] a.lives))
                  have h2 := List.length_take (i := j) (l := b.lives)
                  have h3 := (joinL_len (a := a) (b := b)).1
                  have h4 := HOA.out.few.1
                  have h5 := HOB.out.few.1
                  rw [HLL.out] at h1
                  unfold Hid
                  omega
                obtain ⟨eb, eo, hea, d0, d1, d2, d3, d4⟩ := livesAt (TT.out.below HJ27.out.bl (Nat.le_refl _)).parts.2.1 HX.out
                subst hea
                have hbp := Below.plus (Below.refl w27.heap.size w27) (.cells #[.bool xs, .int .i64 xk, .int .i64 xi, .int .i64 (au : Int), .int .i64 xq] 52)
                have X28 := Box.new w27 [.bool xs, .int .i64 xk, .int .i64 xi, .int .i64 (au : Int), .int .i64 xq] 52
                have J28 := HJ27.out.below hbp
                have L28 := hide (L27.out.below hbp (Nat.le_refl _))
                have M28 := hide (HM27.out.below hbp (Nat.le_refl _))
                have T28 := hide (HT27.out.below hbp (Nat.le_refl _))
                obtain ⟨gx, HGX⟩ : ∃ gx, Hid (w27.heap.size = gx) := ⟨_, rfl⟩
                have hgx : ¬ gx = go := by rw [← HGX.out]; have := HJ27.out.box.lt; omega
                have HNX := hide hgx
                obtain ⟨w28, HW28⟩ : ∃ W, Hid (w27.alloc (.cells #[.bool xs, .int .i64 xk, .int .i64 xi, .int .i64 (au : Int), .int .i64 xq] 52) = W) := ⟨_, rfl⟩
                rw [HW28.out] at X28 J28 L28 M28 T28
                rw [HGX.out] at X28
                have HJ28 := hide J28
                have HX28 := hide X28
                clear hbp X28 J28 HJ27 L27 HM27 HT27 hgx
                go_upto_region 17 with fail
                rw [HW28.out, HGX.out]
                clear d0 d1 d2 d3 d4
                have b1 := HJ28.out.box.get 1 rfl
                have x0 := HX28.out.get 0 rfl
                have x1 := HX28.out.get 1 rfl
                have x2 := HX28.out.get 2 rfl
                have x3 := HX28.out.get 3 rfl
                have x4 := HX28.out.get 4 rfl
                go_wp2_with fail
                refine (has_ref _ LL ⟨xs, xk, xi, au, xq⟩ _ (slice_of_own encL_length HJ28.out.lv)).mono ?_
                rintro e w29 ⟨rfl, hb29⟩
                have HJ29 := hide (HJ28.out.below hb29)
                have L29 := hide (L28.out.below hb29 (Nat.le_refl _))
                have M29 := hide (M28.out.below hb29 (Nat.le_refl _))
                have T29 := hide (T28.out.below hb29 (Nat.le_refl _))
                have X29 := hide (HX28.out.below hb29 (Nat.le_refl _))
                clear b1 x0 x1 x2 x3 x4 hb29 HJ28 L28 M28 T28 HX28
                by_cases hh : hasL LL ⟨xs, xk, xi, au, xq⟩ = true
                · rw [show isIn LL ⟨xs, xk, xi, au, xq⟩ = true from hh]
                  have HS1 : Hid (refLives a (refLives b [] a.lives) (b.lives.take (j + 1)) = LL) := by unfold Hid; rw [HSN.out]; unfold refStep; rw [if_pos hh]
                  clear hh
                  go_wp2_with fail
                  go_roundw
                  case rel => exact ⟨j + 1, lv, by omega, by go_num, by rw [HS1.out]; exact HJ29, L29, M29, T29⟩
                  case measure => simp [intOf]; omega
                · have hh' : hasL LL ⟨xs, xk, xi, au, xq⟩ = false := by simpa using hh
                  rw [show isIn LL ⟨xs, xk, xi, au, xq⟩ = false from hh']
                  obtain ⟨y, HY⟩ : ∃ y, Hid (a.clock.getD au 0 = y) := ⟨_, rfl⟩
                  have HAU : Hid (au < a.clock.length) := by
                    have h1 := HOK.out.2.1
                    have h2 := goodC_iff.1 HOA.out.clock
                    unfold Hid
                    simp only at h1
                    omega
                  obtain ⟨cb, co, hcb, ck⟩ := rowAt (SS.out.below HJ29.out.bl (Nat.le_refl _)).parts.1 HAU.out
                  rw [HY.out] at ck
                  subst hcb
                  have hau' : (au : Int) < (a.clock.length : Int) := by have := HAU.out; omega
                  have hau0 : ¬ (au : Int) < 0 := by omega
                  have ST29 := hide (SS.out.below HJ29.out.bl (Nat.le_refl _)).parts.2.1
                  have HK : Hid (∀ w', Grew w29 w' → w'.cell? ⟨gt, 0, none⟩ = some (.slice (some ⟨cb, co, none⟩) a.clock.length cap1) ∧ w'.cell? ⟨gt, 1, none⟩ = some (.slice a2 a.lives.length cap2) ∧ w'.cell? ⟨cb, co + au, none⟩ = some (.int .i64 y) ∧ w'.cell? ⟨gx, 0, none⟩ = some (.bool xs) ∧ w'.cell? ⟨gx, 1, none⟩ = some (.int .i64 xk) ∧ w'.cell? ⟨gx, 2, none⟩ = some (.int .i64 xi) ∧ w'.cell? ⟨gx, 3, none⟩ = some (.int .i64 (au : Int)) ∧ w'.cell? ⟨gx, 4, none⟩ = some (.int .i64 xq)) := fun w' hg => ⟨(T29.out.below hg (Nat.le_refl _)).get 0 rfl, (T29.out.below hg (Nat.le_refl _)).get 1 rfl, cell_grewJ hg ck, (X29.out.below hg (Nat.le_refl _)).get 0 rfl, (X29.out.below hg (Nat.le_refl _)).get 1 rfl, (X29.out.below hg (Nat.le_refl _)).get 2 rfl, (X29.out.below hg (Nat.le_refl _)).get 3 rfl, (X29.out.below hg (Nat.le_refl _)).get 4 rfl⟩
                  obtain ⟨h2, HH2⟩ : ∃ h2, Hid (hasL a.lives ⟨xs, xk, xi, au, xq⟩ = h2) := ⟨_, rfl⟩
                  go_upto_region 18 with fail
                  clear ck
                  go_cut [90] (fun c wx => c = .bool (h2 || decide (y < xq)) ∧ Hid (Grew w29 wx))
                  case first =>
                    cases h2 with
                    | true =>
                      refine wp_region_held_drew (S := fun w' => w'.cell? ⟨gt, 0, none⟩ = some (.slice (some ⟨cb, co, none⟩) a.clock.length cap1) ∧ w'.cell? ⟨gt, 1, none⟩ = some (.slice a2 a.lives.length cap2) ∧ w'.cell? ⟨cb, co + au, none⟩ = some (.int .i64 y) ∧ w'.cell? ⟨gx, 0, none⟩ = some (.bool xs) ∧ w'.cell? ⟨gx, 1, none⟩ = some (.int .i64 xk) ∧ w'.cell? ⟨gx, 2, none⟩ = some (.int .i64 xi) ∧ w'.cell? ⟨gx, 3, none⟩ = some (.int .i64 (au : Int)) ∧ w'.cell? ⟨gx, 4, none⟩ = some (.int .i64 xq)) (by kernel_rfl) (HK.out _ (grew_drew (grew_refl _))) (fun hHeld => ?_)
                      obtain ⟨wd, HWD⟩ : ∃ wd, Hid (w29.drew = wd) := ⟨_, rfl⟩
                      have hgd : Grew w29 wd := by rw [← HWD.out]; exact grew_drew (grew_refl w29)
                      rw [HWD.out] at hHeld ⊢
                      refine take_yes 0 76 (.pointer (some ⟨gt, 1, none⟩)) rfl rfl (by kernel_rfl) (by kernel_rfl) (by kernel_rfl) (fun _ _ _ h => h) rfl (by intro w hSw; (try dsimp only at hSw); go_simp) (by assumption) ?_
                      simp only [Act.put, List.setIfInBounds_toArray, List.set_cons_zero, List.set_cons_succ]
                      refine take_yes 1 77 (.slice a2 a.lives.length cap2) rfl rfl (by kernel_rfl) (by kernel_rfl) (by kernel_rfl) (fun _ _ _ h => h) rfl (by intro w hSw; (try dsimp only at hSw); go_simp) (by assumption) ?_
                      simp only [Act.put, List.setIfInBounds_toArray, List.set_cons_zero, List.set_cons_succ]
                      refine take_yes 2 78 (.agg #[.bool xs, .int .i64 xk, .int .i64 xi, .int .i64 (au : Int), .int .i64 xq]) rfl rfl (by kernel_rfl) (by kernel_rfl) (by kernel_rfl) (fun _ _ _ h => h) rfl (by intro w hSw; (try dsimp only at hSw); go_simp) (by assumption) ?_
                      simp only [Act.put, List.setIfInBounds_toArray, List.set_cons_zero, List.set_cons_succ]
                      refine wpAnyH_ready (rs := [3]) (by kernel_rfl) (by simp) ?_
                      refine (AllReadyH.cons (o := _) rfl (fun K hK => ?_) AllReadyH.nil)
                      go_simp
                      refine (has_ref _ a.lives ⟨xs, xk, xi, au, xq⟩ _ (ST29.out.below hgd (Nat.le_refl _))).mono ?_
                      rintro e w_3 ⟨rfl, hb_3⟩
                      rw [show isIn a.lives ⟨xs, xk, xi, au, xq⟩ = true from HH2.out]
                      have hg_3 : Grew w29 w_3 := grew_step hgd hb_3
                      refine hK.out _ _ (HK.out _ hg_3) (fun _ => ?_)
                      clear hK K
                      try simp only [Act.put, List.setIfInBounds_toArray, List.set_cons_zero, List.set_cons_succ]
                      refine take_yes 4 80 (.bool true) rfl rfl (by kernel_rfl) (by kernel_rfl) (by kernel_rfl) (fun _ _ _ h => h) rfl (by intro w hSw; (try dsimp only at hSw); go_simp) (by assumption) ?_
                      simp only [Act.put, List.setIfInBounds_toArray, List.set_cons_zero, List.set_cons_succ]
                      refine take_skip 5 81 rfl rfl (by kernel_rfl) (by kernel_rfl) (by kernel_rfl) (fun _ _ _ h => h) rfl (by assumption) ?_
                      simp only [Act.put, List.setIfInBounds_toArray, List.set_cons_zero, List.set_cons_succ]
                      refine take_skip 6 82 rfl rfl (by kernel_rfl) (by kernel_rfl) (by kernel_rfl) (fun _ _ _ h => h) rfl (by assumption) ?_
                      simp only [Act.put, List.setIfInBounds_toArray, List.set_cons_zero, List.set_cons_succ]
                      refine take_skip 7 83 rfl rfl (by kernel_rfl) (by kernel_rfl) (by kernel_rfl) (fun _ _ _ h => h) rfl (by assumption) ?_
                      simp only [Act.put, List.setIfInBounds_toArray, List.set_cons_zero, List.set_cons_succ]
                      refine take_skip 8 84 rfl rfl (by kernel_rfl) (by kernel_rfl) (by kernel_rfl) (fun _ _ _ h => h) rfl (by assumption) ?_
                      simp only [Act.put, List.setIfInBounds_toArray, List.set_cons_zero, List.set_cons_succ]
                      refine take_skip 9 85 rfl rfl (by kernel_rfl) (by kernel_rfl) (by kernel_rfl) (fun _ _ _ h => h) rfl (by assumption) ?_
                      simp only [Act.put, List.setIfInBounds_toArray, List.set_cons_zero, List.set_cons_succ]
                      refine take_skip 10 86 rfl rfl (by kernel_rfl) (by kernel_rfl) (by kernel_rfl) (fun _ _ _ h => h) rfl (by assumption) ?_
                      simp only [Act.put, List.setIfInBounds_toArray, List.set_cons_zero, List.set_cons_succ]
                      refine take_skip 11 87 rfl rfl (by kernel_rfl) (by kernel_rfl) (by kernel_rfl) (fun _ _ _ h => h) rfl (by assumption) ?_
                      simp only [Act.put, List.setIfInBounds_toArray, List.set_cons_zero, List.set_cons_succ]
                      refine take_skip 12 88 rfl rfl (by kernel_rfl) (by kernel_rfl) (by kernel_rfl) (fun _ _ _ h => h) rfl (by assumption) ?_
                      simp only [Act.put, List.setIfInBounds_toArray, List.set_cons_zero, List.set_cons_succ]
                      refine take_skip 13 89 rfl rfl (by kernel_rfl) (by kernel_rfl) (by kernel_rfl) (fun _ _ _ h => h) rfl (by assumption) ?_
                      simp only [Act.put, List.setIfInBounds_toArray, List.set_cons_zero, List.set_cons_succ]
                      refine take_yes 14 90 (.bool true) rfl rfl (by kernel_rfl) (by kernel_rfl) (by kernel_rfl) (fun _ _ _ h => h) rfl (by intro w hSw; (try dsimp only at hSw); go_simp) (by assumption) ?_
                      simp only [Act.put, List.setIfInBounds_toArray, List.set_cons_zero, List.set_cons_succ]
                      refine wpAnyH_done (by kernel_rfl) ?_ _
                      go_wp2_with fail
                      go_meet
                      exact ⟨by simp, hg_3⟩
                    | false =>
                      by_cases hlt2 : y < xq
                      · skip
                        refine wp_region_held_drew (S := fun w' => w'.cell? ⟨gt, 0, none⟩ = some (.slice (some ⟨cb, co, none⟩) a.clock.length cap1) ∧ w'.cell? ⟨gt, 1, none⟩ = some (.slice a2 a.lives.length cap2) ∧ w'.cell? ⟨cb, co + au, none⟩ = some (.int .i64 y) ∧ w'.cell? ⟨gx, 0, none⟩ = some (.bool xs) ∧ w'.cell? ⟨gx, 1, none⟩ = some (.int .i64 xk) ∧ w'.cell? ⟨gx, 2, none⟩ = some (.int .i64 xi) ∧ w'.cell? ⟨gx, 3, none⟩ = some (.int .i64 (au : Int)) ∧ w'.cell? ⟨gx, 4, none⟩ = some (.int .i64 xq)) (by kernel_rfl) (HK.out _ (grew_drew (grew_refl _))) (fun hHeld => ?_)
                        obtain ⟨wd, HWD⟩ : ∃ wd, Hid (w29.drew = wd) := ⟨_, rfl⟩
                        have hgd : Grew w29 wd := by rw [← HWD.out]; exact grew_drew (grew_refl w29)
                        rw [HWD.out] at hHeld ⊢
                        refine take_yes 0 76 (.pointer (some ⟨gt, 1, none⟩)) rfl rfl (by kernel_rfl) (by kernel_rfl) (by kernel_rfl) (fun _ _ _ h => h) rfl (by intro w hSw; (try dsimp only at hSw); go_simp) (by assumption) ?_
                        simp only [Act.put, List.setIfInBounds_toArray, List.set_cons_zero, List.set_cons_succ]
                        refine take_yes 1 77 (.slice a2 a.lives.length cap2) rfl rfl (by kernel_rfl) (by kernel_rfl) (by kernel_rfl) (fun _ _ _ h => h) rfl (by intro w hSw; (try dsimp only at hSw); go_simp) (by assumption) ?_
                        simp only [Act.put, List.setIfInBounds_toArray, List.set_cons_zero, List.set_cons_succ]
                        refine take_yes 2 78 (.agg #[.bool xs, .int .i64 xk, .int .i64 xi, .int .i64 (au : Int), .int .i64 xq]) rfl rfl (by kernel_rfl) (by kernel_rfl) (by kernel_rfl) (fun _ _ _ h => h) rfl (by intro w hSw; (try dsimp only at hSw); go_simp) (by assumption) ?_
                        simp only [Act.put, List.setIfInBounds_toArray, List.set_cons_zero, List.set_cons_succ]
                        refine wpAnyH_ready (rs := [3]) (by kernel_rfl) (by simp) ?_
                        refine (AllReadyH.cons (o := _) rfl (fun K hK => ?_) AllReadyH.nil)
                        go_simp
                        refine (has_ref _ a.lives ⟨xs, xk, xi, au, xq⟩ _ (ST29.out.below hgd (Nat.le_refl _))).mono ?_
                        rintro e w_3 ⟨rfl, hb_3⟩
                        rw [show isIn a.lives ⟨xs, xk, xi, au, xq⟩ = false from HH2.out]
                        have hg_3 : Grew w29 w_3 := grew_step hgd hb_3
                        refine hK.out _ _ (HK.out _ hg_3) (fun _ => ?_)
                        clear hK K
                        try simp only [Act.put, List.setIfInBounds_toArray, List.set_cons_zero, List.set_cons_succ]
                        refine take_yes 4 80 (.bool false) rfl rfl (by kernel_rfl) (by kernel_rfl) (by kernel_rfl) (fun _ _ _ h => h) rfl (by intro w hSw; (try dsimp only at hSw); go_simp) (by assumption) ?_
                        simp only [Act.put, List.setIfInBounds_toArray, List.set_cons_zero, List.set_cons_succ]
                        refine take_yes 5 81 (.pointer (some ⟨gt, 0, none⟩)) rfl rfl (by kernel_rfl) (by kernel_rfl) (by kernel_rfl) (fun _ _ _ h => h) rfl (by intro w hSw; (try dsimp only at hSw); go_simp) (by assumption) ?_
                        simp only [Act.put, List.setIfInBounds_toArray, List.set_cons_zero, List.set_cons_succ]
                        refine take_yes 6 82 (.slice (some ⟨cb, co, none⟩) a.clock.length cap1) rfl rfl (by kernel_rfl) (by kernel_rfl) (by kernel_rfl) (fun _ _ _ h => h) rfl (by intro w hSw; (try dsimp only at hSw); go_simp) (by assumption) ?_
                        simp only [Act.put, List.setIfInBounds_toArray, List.set_cons_zero, List.set_cons_succ]
                        refine take_yes 7 83 (.pointer (some ⟨gx, 3, none⟩)) rfl rfl (by kernel_rfl) (by kernel_rfl) (by kernel_rfl) (fun _ _ _ h => h) rfl (by intro w hSw; (try dsimp only at hSw); go_simp) (by assumption) ?_
                        simp only [Act.put, List.setIfInBounds_toArray, List.set_cons_zero, List.set_cons_succ]
                        refine take_yes 8 84 (.int .i64 (au : Int)) rfl rfl (by kernel_rfl) (by kernel_rfl) (by kernel_rfl) (fun _ _ _ h => h) rfl (by intro w hSw; (try dsimp only at hSw); go_simp) (by assumption) ?_
                        simp only [Act.put, List.setIfInBounds_toArray, List.set_cons_zero, List.set_cons_succ]
                        refine take_yes 9 85 (.pointer (some ⟨cb, co + au, none⟩)) rfl rfl (by kernel_rfl) (by kernel_rfl) (by kernel_rfl) (fun _ _ _ h => h) rfl (by intro w hSw; (try dsimp only at hSw); go_simp) (by assumption) ?_
                        simp only [Act.put, List.setIfInBounds_toArray, List.set_cons_zero, List.set_cons_succ]
                        refine take_yes 10 86 (.int .i64 y) rfl rfl (by kernel_rfl) (by kernel_rfl) (by kernel_rfl) (fun _ _ _ h => h) rfl (by intro w hSw; (try dsimp only at hSw); go_simp) (by assumption) ?_
                        simp only [Act.put, List.setIfInBounds_toArray, List.set_cons_zero, List.set_cons_succ]
                        refine take_yes 11 87 (.pointer (some ⟨gx, 4, none⟩)) rfl rfl (by kernel_rfl) (by kernel_rfl) (by kernel_rfl) (fun _ _ _ h => h) rfl (by intro w hSw; (try dsimp only at hSw); go_simp) (by assumption) ?_
                        simp only [Act.put, List.setIfInBounds_toArray, List.set_cons_zero, List.set_cons_succ]
                        refine take_yes 12 88 (.int .i64 xq) rfl rfl (by kernel_rfl) (by kernel_rfl) (by kernel_rfl) (fun _ _ _ h => h) rfl (by intro w hSw; (try dsimp only at hSw); go_simp) (by assumption) ?_
                        simp only [Act.put, List.setIfInBounds_toArray, List.set_cons_zero, List.set_cons_succ]
                        refine take_yes 13 89 (.bool true) rfl rfl (by kernel_rfl) (by kernel_rfl) (by kernel_rfl) (fun _ _ _ h => h) rfl (by intro w hSw; (try dsimp only at hSw); go_simp) (by assumption) ?_
                        simp only [Act.put, List.setIfInBounds_toArray, List.set_cons_zero, List.set_cons_succ]
                        refine take_yes 14 90 (.bool true) rfl rfl (by kernel_rfl) (by kernel_rfl) (by kernel_rfl) (fun _ _ _ h => h) rfl (by intro w hSw; (try dsimp only at hSw); go_simp) (by assumption) ?_
                        simp only [Act.put, List.setIfInBounds_toArray, List.set_cons_zero, List.set_cons_succ]
                        refine wpAnyH_done (by kernel_rfl) ?_ _
                        go_wp2_with fail
                        go_meet
                        exact ⟨by simp [hlt2], hg_3⟩
                      · skip
                        refine wp_region_held_drew (S := fun w' => w'.cell? ⟨gt, 0, none⟩ = some (.slice (some ⟨cb, co, none⟩) a.clock.length cap1) ∧ w'.cell? ⟨gt, 1, none⟩ = some (.slice a2 a.lives.length cap2) ∧ w'.cell? ⟨cb, co + au, none⟩ = some (.int .i64 y) ∧ w'.cell? ⟨gx, 0, none⟩ = some (.bool xs) ∧ w'.cell? ⟨gx, 1, none⟩ = some (.int .i64 xk) ∧ w'.cell? ⟨gx, 2, none⟩ = some (.int .i64 xi) ∧ w'.cell? ⟨gx, 3, none⟩ = some (.int .i64 (au : Int)) ∧ w'.cell? ⟨gx, 4, none⟩ = some (.int .i64 xq)) (by kernel_rfl) (HK.out _ (grew_drew (grew_refl _))) (fun hHeld => ?_)
                        obtain ⟨wd, HWD⟩ : ∃ wd, Hid (w29.drew = wd) := ⟨_, rfl⟩
                        have hgd : Grew w29 wd := by rw [← HWD.out]; exact grew_drew (grew_refl w29)
                        rw [HWD.out] at hHeld ⊢
                        refine take_yes 0 76 (.pointer (some ⟨gt, 1, none⟩)) rfl rfl (by kernel_rfl) (by kernel_rfl) (by kernel_rfl) (fun _ _ _ h => h) rfl (by intro w hSw; (try dsimp only at hSw); go_simp) (by assumption) ?_
                        simp only [Act.put, List.setIfInBounds_toArray, List.set_cons_zero, List.set_cons_succ]
                        refine take_yes 1 77 (.slice a2 a.lives.length cap2) rfl rfl (by kernel_rfl) (by kernel_rfl) (by kernel_rfl) (fun _ _ _ h => h) rfl (by intro w hSw; (try dsimp only at hSw); go_simp) (by assumption) ?_
                        simp only [Act.put, List.setIfInBounds_toArray, List.set_cons_zero, List.set_cons_succ]
                        refine take_yes 2 78 (.agg #[.bool xs, .int .i64 xk, .int .i64 xi, .int .i64 (au : Int), .int .i64 xq]) rfl rfl (by kernel_rfl) (by kernel_rfl) (by kernel_rfl) (fun _ _ _ h => h) rfl (by intro w hSw; (try dsimp only at hSw); go_simp) (by assumption) ?_
                        simp only [Act.put, List.setIfInBounds_toArray, List.set_cons_zero, List.set_cons_succ]
                        refine wpAnyH_ready (rs := [3]) (by kernel_rfl) (by simp) ?_
                        refine (AllReadyH.cons (o := _) rfl (fun K hK => ?_) AllReadyH.nil)
                        go_simp
                        refine (has_ref _ a.lives ⟨xs, xk, xi, au, xq⟩ _ (ST29.out.below hgd (Nat.le_refl _))).mono ?_
                        rintro e w_3 ⟨rfl, hb_3⟩
                        rw [show isIn a.lives ⟨xs, xk, xi, au, xq⟩ = false from HH2.out]
                        have hg_3 : Grew w29 w_3 := grew_step hgd hb_3
                        refine hK.out _ _ (HK.out _ hg_3) (fun _ => ?_)
                        clear hK K
                        try simp only [Act.put, List.setIfInBounds_toArray, List.set_cons_zero, List.set_cons_succ]
                        refine take_yes 4 80 (.bool false) rfl rfl (by kernel_rfl) (by kernel_rfl) (by kernel_rfl) (fun _ _ _ h => h) rfl (by intro w hSw; (try dsimp only at hSw); go_simp) (by assumption) ?_
                        simp only [Act.put, List.setIfInBounds_toArray, List.set_cons_zero, List.set_cons_succ]
                        refine take_yes 5 81 (.pointer (some ⟨gt, 0, none⟩)) rfl rfl (by kernel_rfl) (by kernel_rfl) (by kernel_rfl) (fun _ _ _ h => h) rfl (by intro w hSw; (try dsimp only at hSw); go_simp) (by assumption) ?_
                        simp only [Act.put, List.setIfInBounds_toArray, List.set_cons_zero, List.set_cons_succ]
                        refine take_yes 6 82 (.slice (some ⟨cb, co, none⟩) a.clock.length cap1) rfl rfl (by kernel_rfl) (by kernel_rfl) (by kernel_rfl) (fun _ _ _ h => h) rfl (by intro w hSw; (try dsimp only at hSw); go_simp) (by assumption) ?_
                        simp only [Act.put, List.setIfInBounds_toArray, List.set_cons_zero, List.set_cons_succ]
                        refine take_yes 7 83 (.pointer (some ⟨gx, 3, none⟩)) rfl rfl (by kernel_rfl) (by kernel_rfl) (by kernel_rfl) (fun _ _ _ h => h) rfl (by intro w hSw; (try dsimp only at hSw); go_simp) (by assumption) ?_
                        simp only [Act.put, List.setIfInBounds_toArray, List.set_cons_zero, List.set_cons_succ]
                        refine take_yes 8 84 (.int .i64 (au : Int)) rfl rfl (by kernel_rfl) (by kernel_rfl) (by kernel_rfl) (fun _ _ _ h => h) rfl (by intro w hSw; (try dsimp only at hSw); go_simp) (by assumption) ?_
                        simp only [Act.put, List.setIfInBounds_toArray, List.set_cons_zero, List.set_cons_succ]
                        refine take_yes 9 85 (.pointer (some ⟨cb, co + au, none⟩)) rfl rfl (by kernel_rfl) (by kernel_rfl) (by kernel_rfl) (fun _ _ _ h => h) rfl (by intro w hSw; (try dsimp only at hSw); go_simp) (by assumption) ?_
                        simp only [Act.put, List.setIfInBounds_toArray, List.set_cons_zero, List.set_cons_succ]
                        refine take_yes 10 86 (.int .i64 y) rfl rfl (by kernel_rfl) (by kernel_rfl) (by kernel_rfl) (fun _ _ _ h => h) rfl (by intro w hSw; (try dsimp only at hSw); go_simp) (by assumption) ?_
                        simp only [Act.put, List.setIfInBounds_toArray, List.set_cons_zero, List.set_cons_succ]
                        refine take_yes 11 87 (.pointer (some ⟨gx, 4, none⟩)) rfl rfl (by kernel_rfl) (by kernel_rfl) (by kernel_rfl) (fun _ _ _ h => h) rfl (by intro w hSw; (try dsimp only at hSw); go_simp) (by assumption) ?_
                        simp only [Act.put, List.setIfInBounds_toArray, List.set_cons_zero, List.set_cons_succ]
                        refine take_yes 12 88 (.int .i64 xq) rfl rfl (by kernel_rfl) (by kernel_rfl) (by kernel_rfl) (fun _ _ _ h => h) rfl (by intro w hSw; (try dsimp only at hSw); go_simp) (by assumption) ?_
                        simp only [Act.put, List.setIfInBounds_toArray, List.set_cons_zero, List.set_cons_succ]
                        refine take_yes 13 89 (.bool false) rfl rfl (by kernel_rfl) (by kernel_rfl) (by kernel_rfl) (fun _ _ _ h => h) rfl (by intro w hSw; (try dsimp only at hSw); go_simp) (by assumption) ?_
                        simp only [Act.put, List.setIfInBounds_toArray, List.set_cons_zero, List.set_cons_succ]
                        refine take_yes 14 90 (.bool false) rfl rfl (by kernel_rfl) (by kernel_rfl) (by kernel_rfl) (fun _ _ _ h => h) rfl (by intro w hSw; (try dsimp only at hSw); go_simp) (by assumption) ?_
                        simp only [Act.put, List.setIfInBounds_toArray, List.set_cons_zero, List.set_cons_succ]
                        refine wpAnyH_done (by kernel_rfl) ?_ _
                        go_wp2_with fail
                        go_meet
                        exact ⟨by simp [hlt2], hg_3⟩
                  case rest =>
                    obtain ⟨rfl, HGR⟩ := hcut
                    obtain ⟨w30, rfl⟩ : ∃ w30, w30 = wc := ⟨wc, rfl⟩
                    have HJ30 := hide (HJ29.out.below HGR.out)
                    have L30 := hide (L29.out.below HGR.out (Nat.le_refl _))
                    have M30 := hide (M29.out.below HGR.out (Nat.le_refl _))
                    have T30 := hide (T29.out.below HGR.out (Nat.le_refl _))
                    have X30 := hide (X29.out.below HGR.out (Nat.le_refl _))
                    clear HJ29 L29 M29 T29 X29 HGR HK
                    have HST : Hid (refLives a (refLives b [] a.lives) (b.lives.take (j + 1)) = if (h2 || decide (y < xq)) = true then insL ⟨xs, xk, xi, au, xq⟩ LL else LL) := by
                      unfold Hid
                      rw [HSN.out]
                      unfold refStep
                      rw [if_neg hh, HH2.out]
                      simp only [Int.toNat_natCast, HY.out, Bool.or_eq_true, decide_eq_true_eq]
                    clear hh hh'
                    obtain ⟨c, HC⟩ : ∃ c, Hid ((h2 || decide (y < xq)) = c) := ⟨_, rfl⟩
                    rw [HC.out] at HST ⊢
                    cases c with
                    | false =>
                      rw [if_neg (by simp)] at HST
                      go_wp2_with fail
                      go_roundw
                      case rel => exact ⟨j + 1, lv, by omega, by go_num, by rw [HST.out]; exact HJ30, L30, M30, T30⟩
                      case measure => simp [intOf]; omega
                    | true =>
                      rw [if_pos rfl] at HST
                      have b1 := HJ30.out.box.get 1 rfl
                      have x0 := X30.out.get 0 rfl
                      have x1 := X30.out.get 1 rfl
                      have x2 := X30.out.get 2 rfl
                      have x3 := X30.out.get 3 rfl
                      have x4 := X30.out.get 4 rfl
                      go_wp2_with fail
                      refine (put_ref _ LL ⟨xs, xk, xi, au, xq⟩ _ (slice_of_own encL_length HJ30.out.lv) (Nat.le_trans HLN.out (by decide))).mono ?_
                      rintro e w31 ⟨pv, rfl, hP, hb31⟩
                      obtain ⟨NL, HNL⟩ : ∃ NL, Hid (insL ⟨xs, xk, xi, au, xq⟩ LL = NL) := ⟨_, rfl⟩
                      rw [HNL.out] at hP HST
                      obtain ⟨pa, pcap, hpv, -⟩ := slice_of_own encL_length hP
                      subst hpv
                      have J31 := HJ30.out.below hb31
                      have P31 : RowA 52 5 encL w31 W1.heap.size (.slice pa NL.length pcap) NL := ownsRow_base hP HJ30.out.bl.size
                      have HJ32 := hide (J31.setL P31)
                      have L32 := hide ((L30.out.below hb31 (Nat.le_refl _)).away (i := 1) (v := .slice pa NL.length pcap) HGLN.out)
                      have M32 := hide ((M30.out.below hb31 (Nat.le_refl _)).away (i := 1) (v := .slice pa NL.length pcap) HNM.out)
                      have T32 := hide ((T30.out.below hb31 (Nat.le_refl _)).away (i := 1) (v := .slice pa NL.length pcap) HNT.out)
                      have b1' := J31.box.get 1 rfl
                      have f1' := J31.box.free 1
                      clear b1 x0 x1 x2 x3 x4 hP hb31 HJ30 L30 M30 T30 X30
                      go_wp2_with fail
                      go_roundw
                      case rel => exact ⟨j + 1, _, by omega, by go_num, by rw [HST.out]; exact HJ32, L32, M32, T32⟩
                      case measure => simp [intOf]; omega
              · have hlt' : ¬ (j : Int) < (b.lives.length : Int) := by omega
                have hjl : b.lives.take j = b.lives := List.take_of_length_le (by omega)
                rw [hjl] at HJ27
                clear hjl
                go_wp2_with fail
                go_roundw
                case rel => exact ⟨2, lv, _, .inr (.inr rfl), by go_num, fun h => by omega, fun h => by omega, fun _ => rfl, HJ27, L27⟩
                case measure => simp [intOf]
        · skip
          have hLL : L = refLives a (refLives b [] a.lives) b.lives := HL2.out rfl
          subst hLL
          clear HL0 HL1 HL2 L24
          obtain ⟨i0, hi, hz0, hz1, hz2⟩ := info_parts Try.infoTally
          obtain ⟨LF, HLF⟩ : ∃ LF, Hid (refLives a (refLives b [] a.lives) b.lives = LF) := ⟨_, rfl⟩
          rw [HLF.out] at HJ24
          have HBL : Hid (b.clock.length = a.clock.length) := by have := goodC_iff.1 HOB.out.clock; unfold Hid; omega
          have hcl6 : a.clock.length ≤ 6 := by have := goodC_iff.1 HOA.out.clock; omega
          have HFA := hide HOA.out.few
          have HFB := hide HOB.out.few
          go_wp2_with fail
          go_loopw [17] (fun i wr => ∃ (key : Nat) (tv : Value), key ≤ 16 ∧ i = .int .i64 key ∧ Hid (JI W1 wr W1.heap.size go (.slice ra J.length rcap) lv tv J LF (talsK a b a.clock.length key))) (fun i _ => 16 - (intOf i).toNat)
          case atStart => exact ⟨0, _, Nat.zero_le _, rfl, HJ24⟩
          case round =>
            obtain ⟨key, tv, hkey, rfl, HJ25⟩ := hrel
            obtain ⟨w25, rfl⟩ : ∃ w25, w25 = wr := ⟨wr, rfl⟩
            clear HJ24
            by_cases hk16 : key < 16
            · have hk16' : (key : Int) ≤ 15 := by omega
              have HTK := hide (talsK_len (a := a) (b := b) (n := a.clock.length) (key := key) HFA.out.2 HFB.out.2)
              go_wp2_with fail
              go_loopw [18] (fun i wr => ∃ (u : Nat) (tv : Value), u ≤ a.clock.length ∧ i = .int .i64 u ∧ Hid (JI W1 wr W1.heap.size go (.slice ra J.length rcap) lv tv J LF (talsK a b a.clock.length key ++ talsI a b key u))) (fun i _ => a.clock.length - (intOf i).toNat)
              case atStart => exact ⟨0, tv, Nat.zero_le _, rfl, hide (by simpa [talsI] using HJ25.out)⟩
              case round =>
                obtain ⟨u, tv, hu, rfl, HJ26⟩ := hrel
                obtain ⟨w26, rfl⟩ : ∃ w26, w26 = wr := ⟨wr, rfl⟩
                clear HJ25
                by_cases hut : u < a.clock.length
                · have hut' : (u : Int) < (a.clock.length : Int) := by omega
                  have hub : u < b.clock.length := by rw [HBL.out]; exact hut
                  have hub' : (u : Int) < (b.clock.length : Int) := by omega
                  have hu0 : ¬ (u : Int) < 0 := by omega
                  obtain ⟨TB, HTB⟩ : ∃ TB, Hid (talsK a b a.clock.length key ++ talsI a b key u = TB) := ⟨_, rfl⟩
                  have HTBL : Hid (TB.length ≤ 20000) := by
                    unfold Hid
                    rw [← HTB.out, List.length_append]
                    have h1 := HTK.out
                    have h2 := talsI_len (a := a) (b := b) (key := key) (i := u) HFA.out.2 HFB.out.2
                    have h3 : key * (a.clock.length * 100) ≤ 16 * (6 * 100) := Nat.mul_le_mul (by omega) (Nat.mul_le_mul hcl6 (Nat.le_refl _))
                    omega
                  rw [HTB.out] at HJ26
                  obtain ⟨ya, HYA⟩ : ∃ y, Hid (a.clock.getD u 0 = y) := ⟨_, rfl⟩
                  obtain ⟨yb, HYB⟩ : ∃ y, Hid (b.clock.getD u 0 = y) := ⟨_, rfl⟩
                  obtain ⟨ca, oa, hca, ka⟩ := rowAt (SS.out.below HJ26.out.bl (Nat.le_refl _)).parts.1 hut
                  obtain ⟨cb, ob, hcb, kb⟩ := rowAt (TT.out.below HJ26.out.bl (Nat.le_refl _)).parts.1 hub
                  rw [HYA.out] at ka
                  rw [HYB.out] at kb
                  subst hca
                  subst hcb
                  have G26 := hide (GG.out.below HJ26.out.bl (Nat.le_refl _))
                  have K26 := hide (KK.out.below HJ26.out.bl (Nat.le_refl _))
                  have g0 := G26.out.get 0 rfl
                  have g1 := G26.out.get 1 rfl
                  have g2 := G26.out.get 2 rfl
                  have hbp := Below.plus (Below.refl w26.heap.size w26) (.cells #[.slice (some ⟨ca, oa, none⟩) a.clock.length cap1, .slice a2 a.lives.length cap2, .slice a3 a.tals.length cap3] 27)
                  have F27 := hide (Box.new w26 [.slice (some ⟨ca, oa, none⟩) a.clock.length cap1, .slice a2 a.lives.length cap2, .slice a3 a.tals.length cap3] 27)
                  have HJ27 := hide (HJ26.out.below hbp)
                  have G27 := hide (G26.out.below hbp (Nat.le_refl _))
                  have K27 := hide (K26.out.below hbp (Nat.le_refl _))
                  have ka2 := cell_grewJ hbp ka
                  have kb2 := cell_grewJ hbp kb
                  obtain ⟨gf, HGF⟩ : ∃ gf, Hid (w26.heap.size = gf) := ⟨_, rfl⟩
                  have HNF : Hid (¬ go = gf) := by unfold Hid; rw [← HGF.out]; have := HJ26.out.box.lt; omega
                  have HGEF : Hid (W1.heap.size ≤ gf) := by unfold Hid; rw [← HGF.out]; exact HJ26.out.bl.size
                  obtain ⟨w27, HW27⟩ : ∃ W, Hid (w26.alloc (.cells #[.slice (some ⟨ca, oa, none⟩) a.clock.length cap1, .slice a2 a.lives.length cap2, .slice a3 a.tals.length cap3] 27) = W) := ⟨_, rfl⟩
                  rw [HW27.out] at F27 HJ27 G27 K27 ka2 kb2
                  rw [HGF.out] at F27
                  clear hbp ka kb HJ26 G26 K26
                  go_upto_region 29 with fail
                  rw [HW27.out, HGF.out]
                  clear g0 g1 g2
                  have HK : Hid (∀ w', Grew w27 w' → w'.cell? ⟨w.heap.size, 0, none⟩ = some (.slice (some ⟨ca, oa, none⟩) a.clock.length cap1) ∧ w'.cell? ⟨w.heap.size + 1, 0, none⟩ = some (.slice (some ⟨cb, ob, none⟩) b.clock.length dap1) ∧ w'.cell? ⟨ca, oa + u, none⟩ = some (.int .i64 ya) ∧ w'.cell? ⟨cb, ob + u, none⟩ = some (.int .i64 yb)) := fun w' hg => ⟨(G27.out.below hg (Nat.le_refl _)).get 0 rfl, (K27.out.below hg (Nat.le_refl _)).get 0 rfl, cell_grewJ hg ka2, cell_grewJ hg kb2⟩
                  clear ka2 kb2
                  go_cut [118] (fun c wx => c = .bool (decide (ya < yb)) ∧ Hid (Grew w27 wx))
                  case first =>
                    by_cases hc : ya < yb
                    · skip
                      refine wp_region_held_drew (S := fun w' => w'.cell? ⟨w.heap.size, 0, none⟩ = some (.slice (some ⟨ca, oa, none⟩) a.clock.length cap1) ∧ w'.cell? ⟨w.heap.size + 1, 0, none⟩ = some (.slice (some ⟨cb, ob, none⟩) b.clock.length dap1) ∧ w'.cell? ⟨ca, oa + u, none⟩ = some (.int .i64 ya) ∧ w'.cell? ⟨cb, ob + u, none⟩ = some (.int .i64 yb)) (by kernel_rfl) (HK.out _ (grew_drew (grew_refl _))) (fun hHeld => ?_)
                      obtain ⟨wd, HWD⟩ : ∃ wd, Hid (w27.drew = wd) := ⟨_, rfl⟩
                      have hgd : Grew w27 wd := by rw [← HWD.out]; exact grew_drew (grew_refl w27)
                      rw [HWD.out] at hHeld ⊢
                      refine take_yes 0 108 (.pointer (some ⟨w.heap.size + 1, 0, none⟩)) rfl rfl (by kernel_rfl) (by kernel_rfl) (by kernel_rfl) (fun _ _ _ h => h) rfl (by intro w hSw; (try dsimp only at hSw); go_simp) (by assumption) ?_
                      simp only [Act.put, List.setIfInBounds_toArray, List.set_cons_zero, List.set_cons_succ]
                      refine take_yes 1 109 (.slice (some ⟨cb, ob, none⟩) b.clock.length dap1) rfl rfl (by kernel_rfl) (by kernel_rfl) (by kernel_rfl) (fun _ _ _ h => h) rfl (by intro w hSw; (try dsimp only at hSw); go_simp) (by assumption) ?_
                      simp only [Act.put, List.setIfInBounds_toArray, List.set_cons_zero, List.set_cons_succ]
                      refine take_yes 2 110 (.int .i64 (u : Int)) rfl rfl (by kernel_rfl) (by kernel_rfl) (by kernel_rfl) (fun _ _ _ h => h) rfl (by intro w hSw; (try dsimp only at hSw); go_simp) (by assumption) ?_
                      simp only [Act.put, List.setIfInBounds_toArray, List.set_cons_zero, List.set_cons_succ]
                      refine take_yes 3 111 (.pointer (some ⟨cb, ob + u, none⟩)) rfl rfl (by kernel_rfl) (by kernel_rfl) (by kernel_rfl) (fun _ _ _ h => h) rfl (by intro w hSw; (try dsimp only at hSw); go_simp) (by assumption) ?_
                      simp only [Act.put, List.setIfInBounds_toArray, List.set_cons_zero, List.set_cons_succ]
                      refine take_yes 4 112 (.int .i64 yb) rfl rfl (by kernel_rfl) (by kernel_rfl) (by kernel_rfl) (fun _ _ _ h => h) rfl (by intro w hSw; (try dsimp only at hSw); go_simp) (by assumption) ?_
                      simp only [Act.put, List.setIfInBounds_toArray, List.set_cons_zero, List.set_cons_succ]
                      refine take_yes 5 113 (.pointer (some ⟨w.heap.size, 0, none⟩)) rfl rfl (by kernel_rfl) (by kernel_rfl) (by kernel_rfl) (fun _ _ _ h => h) rfl (by intro w hSw; (try dsimp only at hSw); go_simp) (by assumption) ?_
                      simp only [Act.put, List.setIfInBounds_toArray, List.set_cons_zero, List.set_cons_succ]
                      refine take_yes 6 114 (.slice (some ⟨ca, oa, none⟩) a.clock.length cap1) rfl rfl (by kernel_rfl) (by kernel_rfl) (by kernel_rfl) (fun _ _ _ h => h) rfl (by intro w hSw; (try dsimp only at hSw); go_simp) (by assumption) ?_
                      simp only [Act.put, List.setIfInBounds_toArray, List.set_cons_zero, List.set_cons_succ]
                      refine take_yes 7 115 (.int .i64 (u : Int)) rfl rfl (by kernel_rfl) (by kernel_rfl) (by kernel_rfl) (fun _ _ _ h => h) rfl (by intro w hSw; (try dsimp only at hSw); go_simp) (by assumption) ?_
                      simp only [Act.put, List.setIfInBounds_toArray, List.set_cons_zero, List.set_cons_succ]
                      refine take_yes 8 116 (.pointer (some ⟨ca, oa + u, none⟩)) rfl rfl (by kernel_rfl) (by kernel_rfl) (by kernel_rfl) (fun _ _ _ h => h) rfl (by intro w hSw; (try dsimp only at hSw); go_simp) (by assumption) ?_
                      simp only [Act.put, List.setIfInBounds_toArray, List.set_cons_zero, List.set_cons_succ]
                      refine take_yes 9 117 (.int .i64 ya) rfl rfl (by kernel_rfl) (by kernel_rfl) (by kernel_rfl) (fun _ _ _ h => h) rfl (by intro w hSw; (try dsimp only at hSw); go_simp) (by assumption) ?_
                      simp only [Act.put, List.setIfInBounds_toArray, List.set_cons_zero, List.set_cons_succ]
                      refine take_yes 10 118 (.bool true) rfl rfl (by kernel_rfl) (by kernel_rfl) (by kernel_rfl) (fun _ _ _ h => h) rfl (by intro w hSw; (try dsimp only at hSw); go_simp) (by assumption) ?_
                      simp only [Act.put, List.setIfInBounds_toArray, List.set_cons_zero, List.set_cons_succ]
                      refine wpAnyH_done (by kernel_rfl) ?_ _
                      go_wp2_with fail
                      go_meet
                      exact ⟨by simp [hc], hgd⟩
                    · skip
                      refine wp_region_held_drew (S := fun w' => w'.cell? ⟨w.heap.size, 0, none⟩ = some (.slice (some ⟨ca, oa, none⟩) a.clock.length cap1) ∧ w'.cell? ⟨w.heap.size + 1, 0, none⟩ = some (.slice (some ⟨cb, ob, none⟩) b.clock.length dap1) ∧ w'.cell? ⟨ca, oa + u, none⟩ = some (.int .i64 ya) ∧ w'.cell? ⟨cb, ob + u, none⟩ = some (.int .i64 yb)) (by kernel_rfl) (HK.out _ (grew_drew (grew_refl _))) (fun hHeld => ?_)
                      obtain ⟨wd, HWD⟩ : ∃ wd, Hid (w27.drew = wd) := ⟨_, rfl⟩
                      have hgd : Grew w27 wd := by rw [← HWD.out]; exact grew_drew (grew_refl w27)
                      rw [HWD.out] at hHeld ⊢
                      refine take_yes 0 108 (.pointer (some ⟨w.heap.size + 1, 0, none⟩)) rfl rfl (by kernel_rfl) (by kernel_rfl) (by kernel_rfl) (fun _ _ _ h => h) rfl (by intro w hSw; (try dsimp only at hSw); go_simp) (by assumption) ?_
                      simp only [Act.put, List.setIfInBounds_toArray, List.set_cons_zero, List.set_cons_succ]
                      refine take_yes 1 109 (.slice (some ⟨cb, ob, none⟩) b.clock.length dap1) rfl rfl (by kernel_rfl) (by kernel_rfl) (by kernel_rfl) (fun _ _ _ h => h) rfl (by intro w hSw; (try dsimp only at hSw); go_simp) (by assumption) ?_
                      simp only [Act.put, List.setIfInBounds_toArray, List.set_cons_zero, List.set_cons_succ]
                      refine take_yes 2 110 (.int .i64 (u : Int)) rfl rfl (by kernel_rfl) (by kernel_rfl) (by kernel_rfl) (fun _ _ _ h => h) rfl (by intro w hSw; (try dsimp only at hSw); go_simp) (by assumption) ?_
                      simp only [Act.put, List.setIfInBounds_toArray, List.set_cons_zero, List.set_cons_succ]
                      refine take_yes 3 111 (.pointer (some ⟨cb, ob + u, none⟩)) rfl rfl (by kernel_rfl) (by kernel_rfl) (by kernel_rfl) (fun _ _ _ h => h) rfl (by intro w hSw; (try dsimp only at hSw); go_simp) (by assumption) ?_
                      simp only [Act.put, List.setIfInBounds_toArray, List.set_cons_zero, List.set_cons_succ]
                      refine take_yes 4 112 (.int .i64 yb) rfl rfl (by kernel_rfl) (by kernel_rfl) (by kernel_rfl) (fun _ _ _ h => h) rfl (by intro w hSw; (try dsimp only at hSw); go_simp) (by assumption) ?_
                      simp only [Act.put, List.setIfInBounds_toArray, List.set_cons_zero, List.set_cons_succ]
                      refine take_yes 5 113 (.pointer (some ⟨w.heap.size, 0, none⟩)) rfl rfl (by kernel_rfl) (by kernel_rfl) (by kernel_rfl) (fun _ _ _ h => h) rfl (by intro w hSw; (try dsimp only at hSw); go_simp) (by assumption) ?_
                      simp only [Act.put, List.setIfInBounds_toArray, List.set_cons_zero, List.set_cons_succ]
                      refine take_yes 6 114 (.slice (some ⟨ca, oa, none⟩) a.clock.length cap1) rfl rfl (by kernel_rfl) (by kernel_rfl) (by kernel_rfl) (fun _ _ _ h => h) rfl (by intro w hSw; (try dsimp only at hSw); go_simp) (by assumption) ?_
                      simp only [Act.put, List.setIfInBounds_toArray, List.set_cons_zero, List.set_cons_succ]
                      refine take_yes 7 115 (.int .i64 (u : Int)) rfl rfl (by kernel_rfl) (by kernel_rfl) (by kernel_rfl) (fun _ _ _ h => h) rfl (by intro w hSw; (try dsimp only at hSw); go_simp) (by assumption) ?_
                      simp only [Act.put, List.setIfInBounds_toArray, List.set_cons_zero, List.set_cons_succ]
                      refine take_yes 8 116 (.pointer (some ⟨ca, oa + u, none⟩)) rfl rfl (by kernel_rfl) (by kernel_rfl) (by kernel_rfl) (fun _ _ _ h => h) rfl (by intro w hSw; (try dsimp only at hSw); go_simp) (by assumption) ?_
                      simp only [Act.put, List.setIfInBounds_toArray, List.set_cons_zero, List.set_cons_succ]
                      refine take_yes 9 117 (.int .i64 ya) rfl rfl (by kernel_rfl) (by kernel_rfl) (by kernel_rfl) (fun _ _ _ h => h) rfl (by intro w hSw; (try dsimp only at hSw); go_simp) (by assumption) ?_
                      simp only [Act.put, List.setIfInBounds_toArray, List.set_cons_zero, List.set_cons_succ]
                      refine take_yes 10 118 (.bool false) rfl rfl (by kernel_rfl) (by kernel_rfl) (by kernel_rfl) (fun _ _ _ h => h) rfl (by intro w hSw; (try dsimp only at hSw); go_simp) (by assumption) ?_
                      simp only [Act.put, List.setIfInBounds_toArray, List.set_cons_zero, List.set_cons_succ]
                      refine wpAnyH_done (by kernel_rfl) ?_ _
                      go_wp2_with fail
                      go_meet
                      exact ⟨by simp [hc], hgd⟩
                  case rest =>
                    obtain ⟨rfl, HGR⟩ := hcut
                    obtain ⟨w28, rfl⟩ : ∃ w28, w28 = wc := ⟨wc, rfl⟩
                    have HJ28 := hide (HJ27.out.below HGR.out)
                    have F28 := hide (F27.out.below HGR.out (Nat.le_refl _))
                    have K28 := hide (K27.out.below HGR.out (Nat.le_refl _))
                    clear HJ27 F27 K27 G27 HGR HK
                    by_cases hc : ya < yb
                    · rw [decide_eq_true hc]
                      have HFS : Hid ((fromS a b u).tals = b.tals) := by unfold Hid fromS; rw [HYA.out, HYB.out, if_pos hc]
                      clear hc
                      have k0 := K28.out.get 0 rfl
                      have k1 := K28.out.get 1 rfl
                      have k2 := K28.out.get 2 rfl
                      have e0 := F28.out.get 0 rfl
                      have e1 := F28.out.get 1 rfl
                      have e2 := F28.out.get 2 rfl
                      have n0 := F28.out.free 0
                      have n1 := F28.out.free 1
                      have n2 := F28.out.free 2
                      have HJ29 := hide (((HJ28.out.other F28.out HNF.out HGEF.out 0 (.slice (some ⟨cb, ob, none⟩) b.clock.length dap1)).other (F28.out.set 0 _) HNF.out HGEF.out 1 (.slice b2 b.lives.length dap2)).other ((F28.out.set 0 _).set 1 _) HNF.out HGEF.out 2 (.slice b3 b.tals.length dap3))
                      have F29 := hide (((F28.out.set 0 (.slice (some ⟨cb, ob, none⟩) b.clock.length dap1)).set 1 (.slice b2 b.lives.length dap2)).set 2 (.slice b3 b.tals.length dap3))
                      obtain ⟨w29, HW29⟩ : ∃ W, Hid (((w28.setCell ⟨gf, 0, none⟩ (.slice (some ⟨cb, ob, none⟩) b.clock.length dap1)).setCell ⟨gf, 1, none⟩ (.slice b2 b.lives.length dap2)).setCell ⟨gf, 2, none⟩ (.slice b3 b.tals.length dap3) = W) := ⟨_, rfl⟩
                      rw [HW29.out] at HJ29 F29
                      clear HJ28 F28 K28
                      go_upto_region 31 with fail
                      rw [HW29.out]
                      clear k0 k1 k2 e0 e1 e2 n0 n1 n2
                      have f2 := F29.out.get 2 rfl
                      have htl : b.tals.length ≤ 100 := HFB.out.2
                      go_wp2_with fail
                      clear f2
                      go_loopw [123] (fun i wr => ∃ (j : Nat) (tv : Value), j ≤ b.tals.length ∧ i = .int .i64 j ∧ Hid (JI W1 wr W1.heap.size go (.slice ra J.length rcap) lv tv J LF (TB ++ (b.tals.take j).filter (hitB key u)))) (fun i _ => b.tals.length - (intOf i).toNat)
                      case atStart => exact ⟨0, _, Nat.zero_le _, rfl, hide (by simpa using HJ29.out)⟩
                      case round =>
                        obtain ⟨j, tv, hj, rfl, HJ30⟩ := hrel
                        obtain ⟨w30, rfl⟩ : ∃ w30, w30 = wr := ⟨wr, rfl⟩
                        clear HJ29 F29
                        by_cases hlt : j < b.tals.length
                        · have hlt' : (j : Int) < (b.tals.length : Int) := by omega
                          obtain ⟨t, HT⟩ : ∃ t, Hid (b.tals[j]? = some t) := ⟨_, List.getElem?_eq_getElem hlt⟩
                          obtain ⟨tk, ta, ts⟩ := t
                          have HHT := hide (hit_take (key := key) (i := u) HT.out)
                          obtain ⟨tb, to', hta, d0, d1, d2⟩ := talsAt (TT.out.below HJ30.out.bl (Nat.le_refl _)).parts.2.2 HT.out
                          subst hta
                          obtain ⟨TC, HTC⟩ : ∃ TC, Hid (TB ++ (b.tals.take j).filter (hitB key u) = TC) := ⟨_, rfl⟩
                          rw [HTC.out] at HJ30
                          have HTL : Hid (TC.length ≤ 100000) := by
                            unfold Hid
                            rw [← HTC.out, List.length_append]
                            have h1 := List.length_filter_le (hitB key u) (b.tals.take j)
                            have h2 := List.length_take (i := j) (l := b.tals)
                            have h3 := HTBL.out
                            have h4 := HFA.out.2
                            have h5 := HFB.out.2
                            omega
                          have hbp := Below.plus (Below.refl w30.heap.size w30) (.cells #[.int .i64 tk, .int .i64 ta, .int .i64 ts] 58)
                          have X31 := Box.new w30 [.int .i64 tk, .int .i64 ta, .int .i64 ts] 58
                          have J31 := HJ30.out.below hbp
                          obtain ⟨gx, HGX⟩ : ∃ gx, Hid (w30.heap.size = gx) := ⟨_, rfl⟩
                          obtain ⟨w31, HW31⟩ : ∃ W, Hid (w30.alloc (.cells #[.int .i64 tk, .int .i64 ta, .int .i64 ts] 58) = W) := ⟨_, rfl⟩
                          rw [HW31.out] at X31 J31
                          rw [HGX.out] at X31
                          have HJ31 := hide J31
                          have HX31 := hide X31
                          clear hbp X31 J31 HJ30
                          go_upto_region 34 with fail
                          rw [HW31.out, HGX.out]
                          clear d0 d1 d2
                          have x0 := HX31.out.get 0 rfl
                          have x1 := HX31.out.get 1 rfl
                          have x2 := HX31.out.get 2 rfl
                          by_cases hk : tk = (key : Int)
                          · have hk' : (tk == (key : Int)) = true := by simp [hk]
                            by_cases hu2 : ta = (u : Int)
                            · have hu2' : (ta == (u : Int)) = true := by simp [hu2]
                              have HHH : Hid (TB ++ (b.tals.take (j + 1)).filter (hitB key u) = TC ++ [⟨tk, ta, ts⟩]) := by unfold Hid; rw [HHT.out, if_pos (hitB_iff.2 ⟨hk, hu2⟩), ← List.append_assoc, HTC.out]
                              clear hk hu2
                              have b2 := HJ31.out.box.get 2 rfl
                              have HSB := hide (Nat.le_trans HJ31.out.ge (Nat.le_of_lt HJ31.out.box.lt))
                              have JA := hide (HJ31.out.below ((Below.refl w31.heap.size w31).alloc (Nat.le_refl _) (.cells #[.int .i64 tk, .int .i64 ta, .int .i64 ts] 58)))
                              go_wp2_with (at_builtin; refine wpList_append_own _ rfl (.tmp 138) (.tmp 140) 25 rfl W1.heap.size 58 i0 (.agg #[.int .i64 0, .int .i64 0, .int .i64 0]) 3 24 Try.underlying25 hi hz0 hz1 hz2 rfl (by decide) _ _ _ rfl JA.out.tl ⟨w31.heap.size, 0, none⟩ 1 1 (encT ⟨tk, ta, ts⟩) rfl rfl ?c1 ?c2 ?c3 ?c4 ?c5 ?_)
                              case c1 => exact alloc_cellsJ w31 (encT ⟨tk, ta, ts⟩) 58
                              case c2 => exact encT_one ⟨tk, ta, ts⟩
                              case c3 => unfold maxLen; have := HTL.out; omega
                              case c4 => have := HTL.out; omega
                              case c5 => have := HSB.out; simp; omega
                              intro v' w32 hown' hgrow _
                              have T32 : RowA 58 3 encT w32 W1.heap.size v' (TC ++ [⟨tk, ta, ts⟩]) := RowA.more hown'
                              obtain ⟨TD, HTD⟩ : ∃ TD, Hid (TC ++ [(⟨tk, ta, ts⟩ : Tal)] = TD) := ⟨_, rfl⟩
                              rw [HTD.out] at T32 HHH
                              obtain ⟨va, vc, hvv, -⟩ := slice_of_own encT_length T32
                              subst hvv
                              obtain ⟨B32, C32, V32, E32⟩ := JA.out.grown hgrow (by have := HSB.out; simp; omega)
                              have HJ33 := hide (JI.setT2 B32 C32 V32 T32 E32 JA.out.ge)
                              have c2' := B32.get 2 rfl
                              have f2' := B32.free 2
                              clear hown' hgrow b2 x0 x1 x2 B32 C32 V32 T32 E32 HJ31 JA HX31
                              go_wp2_with fail
                              go_roundw
                              case rel => exact ⟨j + 1, _, by omega, by go_num, by rw [HHH.out]; exact HJ33⟩
                              case measure => simp [intOf]; omega
                            · have hu2' : (ta == (u : Int)) = false := by simp [hu2]
                              have HHH : Hid (TB ++ (b.tals.take (j + 1)).filter (hitB key u) = TC) := by unfold Hid; rw [HHT.out, if_neg (fun h => hu2 (hitB_iff.1 h).2), HTC.out]
                              clear hk hu2
                              go_wp2_with fail
                              go_roundw
                              case rel => exact ⟨j + 1, tv, by omega, by go_num, by rw [HHH.out]; exact HJ31⟩
                              case measure => simp [intOf]; omega
                          · have hk' : (tk == (key : Int)) = false := by simp [hk]
                            have HHH : Hid (TB ++ (b.tals.take (j + 1)).filter (hitB key u) = TC) := by unfold Hid; rw [HHT.out, if_neg (fun h => hk (hitB_iff.1 h).1), HTC.out]
                            clear hk
                            go_wp2_with fail
                            go_roundw
                            case rel => exact ⟨j + 1, tv, by omega, by go_num, by rw [HHH.out]; exact HJ31⟩
                            case measure => simp [intOf]; omega
                        · have hlt' : ¬ (j : Int) < (b.tals.length : Int) := by omega
                          have hjl : b.tals.take j = b.tals := List.take_of_length_le (by omega)
                          rw [hjl] at HJ30
                          clear hjl
                          have HSU : Hid (talsK a b a.clock.length key ++ talsI a b key (u + 1) = TB ++ b.tals.filter (hitB key u)) := by unfold Hid; rw [talsI_succ, HFS.out, ← List.append_assoc, HTB.out]
                          go_wp2_with fail
                          go_roundw
                          case rel => exact ⟨u + 1, tv, by omega, by go_num, by rw [HSU.out]; exact HJ30⟩
                          case measure => simp [intOf]; omega
                    · rw [decide_eq_false hc]
                      have HFS : Hid ((fromS a b u).tals = a.tals) := by unfold Hid fromS; rw [HYA.out, HYB.out, if_neg hc]
                      clear hc
                      have HJ29 := HJ28
                      have F29 := F28
                      clear HJ28 F28 K28
                      have f2 := F29.out.get 2 rfl
                      have htl : a.tals.length ≤ 100 := HFA.out.2
                      go_wp2_with fail
                      clear f2
                      go_loopw [123] (fun i wr => ∃ (j : Nat) (tv : Value), j ≤ a.tals.length ∧ i = .int .i64 j ∧ Hid (JI W1 wr W1.heap.size go (.slice ra J.length rcap) lv tv J LF (TB ++ (a.tals.take j).filter (hitB key u)))) (fun i _ => a.tals.length - (intOf i).toNat)
                      case atStart => exact ⟨0, _, Nat.zero_le _, rfl, hide (by simpa using HJ29.out)⟩
                      case round =>
                        obtain ⟨j, tv, hj, rfl, HJ30⟩ := hrel
                        obtain ⟨w30, rfl⟩ : ∃ w30, w30 = wr := ⟨wr, rfl⟩
                        clear HJ29 F29
                        by_cases hlt : j < a.tals.length
                        · have hlt' : (j : Int) < (a.tals.length : Int) := by omega
                          obtain ⟨t, HT⟩ : ∃ t, Hid (a.tals[j]? = some t) := ⟨_, List.getElem?_eq_getElem hlt⟩
                          obtain ⟨tk, ta, ts⟩ := t
                          have HHT := hide (hit_take (key := key) (i := u) HT.out)
                          obtain ⟨tb, to', hta, d0, d1, d2⟩ := talsAt (SS.out.below HJ30.out.bl (Nat.le_refl _)).parts.2.2 HT.out
                          subst hta
                          obtain ⟨TC, HTC⟩ : ∃ TC, Hid (TB ++ (a.tals.take j).filter (hitB key u) = TC) := ⟨_, rfl⟩
                          rw [HTC.out] at HJ30
                          have HTL : Hid (TC.length ≤ 100000) := by
                            unfold Hid
                            rw [← HTC.out, List.length_append]
                            have h1 := List.length_filter_le (hitB key u) (a.tals.take j)
                            have h2 := List.length_take (i := j) (l := a.tals)
                            have h3 := HTBL.out
                            have h4 := HFA.out.2
                            have h5 := HFB.out.2
                            omega
                          have hbp := Below.plus (Below.refl w30.heap.size w30) (.cells #[.int .i64 tk, .int .i64 ta, .int .i64 ts] 58)
                          have X31 := Box.new w30 [.int .i64 tk, .int .i64 ta, .int .i64 ts] 58
                          have J31 := HJ30.out.below hbp
                          obtain ⟨gx, HGX⟩ : ∃ gx, Hid (w30.heap.size = gx) := ⟨_, rfl⟩
                          obtain ⟨w31, HW31⟩ : ∃ W, Hid (w30.alloc (.cells #[.int .i64 tk, .int .i64 ta, .int .i64 ts] 58) = W) := ⟨_, rfl⟩
                          rw [HW31.out] at X31 J31
                          rw [HGX.out] at X31
                          have HJ31 := hide J31
                          have HX31 := hide X31
                          clear hbp X31 J31 HJ30
                          go_upto_region 34 with fail
                          rw [HW31.out, HGX.out]
                          clear d0 d1 d2
                          have x0 := HX31.out.get 0 rfl
                          have x1 := HX31.out.get 1 rfl
                          have x2 := HX31.out.get 2 rfl
                          by_cases hk : tk = (key : Int)
                          · have hk' : (tk == (key : Int)) = true := by simp [hk]
                            by_cases hu2 : ta = (u : Int)
                            · have hu2' : (ta == (u : Int)) = true := by simp [hu2]
                              have HHH : Hid (TB ++ (a.tals.take (j + 1)).filter (hitB key u) = TC ++ [⟨tk, ta, ts⟩]) := by unfold Hid; rw [HHT.out, if_pos (hitB_iff.2 ⟨hk, hu2⟩), ← List.append_assoc, HTC.out]
                              clear hk hu2
                              have b2 := HJ31.out.box.get 2 rfl
                              have HSB := hide (Nat.le_trans HJ31.out.ge (Nat.le_of_lt HJ31.out.box.lt))
                              have JA := hide (HJ31.out.below ((Below.refl w31.heap.size w31).alloc (Nat.le_refl _) (.cells #[.int .i64 tk, .int .i64 ta, .int .i64 ts] 58)))
                              go_wp2_with (at_builtin; refine wpList_append_own _ rfl (.tmp 138) (.tmp 140) 25 rfl W1.heap.size 58 i0 (.agg #[.int .i64 0, .int .i64 0, .int .i64 0]) 3 24 Try.underlying25 hi hz0 hz1 hz2 rfl (by decide) _ _ _ rfl JA.out.tl ⟨w31.heap.size, 0, none⟩ 1 1 (encT ⟨tk, ta, ts⟩) rfl rfl ?c1 ?c2 ?c3 ?c4 ?c5 ?_)
                              case c1 => exact alloc_cellsJ w31 (encT ⟨tk, ta, ts⟩) 58
                              case c2 => exact encT_one ⟨tk, ta, ts⟩
                              case c3 => unfold maxLen; have := HTL.out; omega
                              case c4 => have := HTL.out; omega
                              case c5 => have := HSB.out; simp; omega
                              intro v' w32 hown' hgrow _
                              have T32 : RowA 58 3 encT w32 W1.heap.size v' (TC ++ [⟨tk, ta, ts⟩]) := RowA.more hown'
                              obtain ⟨TD, HTD⟩ : ∃ TD, Hid (TC ++ [(⟨tk, ta, ts⟩ : Tal)] = TD) := ⟨_, rfl⟩
                              rw [HTD.out] at T32 HHH
                              obtain ⟨va, vc, hvv, -⟩ := slice_of_own encT_length T32
                              subst hvv
                              obtain ⟨B32, C32, V32, E32⟩ := JA.out.grown hgrow (by have := HSB.out; simp; omega)
                              have HJ33 := hide (JI.setT2 B32 C32 V32 T32 E32 JA.out.ge)
                              have c2' := B32.get 2 rfl
                              have f2' := B32.free 2
                              clear hown' hgrow b2 x0 x1 x2 B32 C32 V32 T32 E32 HJ31 JA HX31
                              go_wp2_with fail
                              go_roundw
                              case rel => exact ⟨j + 1, _, by omega, by go_num, by rw [HHH.out]; exact HJ33⟩
                              case measure => simp [intOf]; omega
                            · have hu2' : (ta == (u : Int)) = false := by simp [hu2]
                              have HHH : Hid (TB ++ (a.tals.take (j + 1)).filter (hitB key u) = TC) := by unfold Hid; rw [HHT.out, if_neg (fun h => hu2 (hitB_iff.1 h).2), HTC.out]
                              clear hk hu2
                              go_wp2_with fail
                              go_roundw
                              case rel => exact ⟨j + 1, tv, by omega, by go_num, by rw [HHH.out]; exact HJ31⟩
                              case measure => simp [intOf]; omega
                          · have hk' : (tk == (key : Int)) = false := by simp [hk]
                            have HHH : Hid (TB ++ (a.tals.take (j + 1)).filter (hitB key u) = TC) := by unfold Hid; rw [HHT.out, if_neg (fun h => hk (hitB_iff.1 h).1), HTC.out]
                            clear hk
                            go_wp2_with fail
                            go_roundw
                            case rel => exact ⟨j + 1, tv, by omega, by go_num, by rw [HHH.out]; exact HJ31⟩
                            case measure => simp [intOf]; omega
                        · have hlt' : ¬ (j : Int) < (a.tals.length : Int) := by omega
                          have hjl : a.tals.take j = a.tals := List.take_of_length_le (by omega)
                          rw [hjl] at HJ30
                          clear hjl
                          have HSU : Hid (talsK a b a.clock.length key ++ talsI a b key (u + 1) = TB ++ a.tals.filter (hitB key u)) := by unfold Hid; rw [talsI_succ, HFS.out, ← List.append_assoc, HTB.out]
                          go_wp2_with fail
                          go_roundw
                          case rel => exact ⟨u + 1, tv, by omega, by go_num, by rw [HSU.out]; exact HJ30⟩
                          case measure => simp [intOf]; omega
                · have hut' : ¬ (u : Int) < (a.clock.length : Int) := by omega
                  obtain rfl : u = a.clock.length := by omega
                  have HSK := hide (talsK_succ a b a.clock.length key)
                  go_wp2_with fail
                  go_roundw
                  case rel => exact ⟨key + 1, tv, by omega, by go_num, by rw [HSK.out]; exact HJ26⟩
                  case measure => simp [intOf]; omega
            · have hk16' : ¬ (key : Int) ≤ 15 := by omega
              obtain rfl : key = 16 := by omega
              have HXE : Hid (X = ⟨J, LF, talsK a b a.clock.length 16⟩) := by unfold Hid; rw [HXX.out, HJ.out, ← HLF.out, ref_lives HOA.out HOB.out, ref_tals (n := a.clock.length) HOA.out HOB.out]
              obtain ⟨TK, HTK6⟩ : ∃ TK, Hid (talsK a b a.clock.length 16 = TK) := ⟨_, rfl⟩
              rw [HTK6.out] at HJ25 HXE
              obtain ⟨l1, l2, hlv, -⟩ := slice_of_own encL_length HJ25.out.lv
              obtain ⟨t1, t2, htv, -⟩ := slice_of_own encT_length HJ25.out.tl
              subst hlv
              subst htv
              have R25 := RR.out.below HJ25.out.bl (Nat.le_refl _)
              have b0 := HJ25.out.box.get 0 rfl
              have b1 := HJ25.out.box.get 1 rfl
              have b2 := HJ25.out.box.get 2 rfl
              have r0 := R25.get 0 rfl
              have r1 := R25.get 1 rfl
              have r2 := R25.get 2 rfl
              have n0 := R25.free 0
              have n1 := R25.free 1
              have n2 := R25.free 2
              have hR := ((R25.set 0 (.slice ra J.length rcap)).set 1 (.slice l1 LF.length l2)).set 2 (.slice t1 TK.length t2)
              have S0' : StOwn w25 (w.heap.size + 3) (.agg #[(.slice ra J.length rcap), .slice l1 LF.length l2, .slice t1 TK.length t2]) X := by
                rw [HXE.out]
                have hB : w.heap.size + 3 ≤ W1.heap.size := by have := RR.out.lt; omega
                exact ⟨_, _, _, rfl, HJ25.out.ck.mono hB, ownsRow_base HJ25.out.lv hB, ownsRow_base HJ25.out.tl hB⟩
              have hlt3 : w.heap.size + 1 + 1 < w.heap.size + 3 := by omega
              have S3 := hide (((S0'.away hlt3 0 (.slice ra J.length rcap)).away hlt3 1 (.slice l1 LF.length l2)).away hlt3 2 (.slice t1 TK.length t2))
              have HBE := hide (HB0.out.trans (HJ25.out.bl.mono HB0.out.size))
              go_wp2_with fail
              refine bodyPost_ret (results_cell_tmp rfl _ _ (w.heap.size + 1 + 1) 27 _ (0, 0) _ rfl hR Try.underlying27 rfl Try.sizeState) rfl ⟨_, rfl, S3.out, ?_⟩
              exact ((HBE.out.setCell (by show w.heap.size ≤ w.heap.size + 1 + 1; omega) _).setCell (by show w.heap.size ≤ w.heap.size + 1 + 1; omega) _).setCell (by show w.heap.size ≤ w.heap.size + 1 + 1; omega) _

set_option maxRecDepth 100000 in
set_option maxHeartbeats 4000000 in
theorem join_tells (va vb : Value) (a b : StS) (w : World) (ha : IsSt w va a) (hb : IsSt w vb b) :
    Calls Try.prog 4 #[va, vb] w fun e w' => e = .returned (.bool true) ∧ Below w.heap.size w w' := by
  have hain := ha
  have hbin := hb
  obtain ⟨cv, lv, tv, rfl, hc, hv, ht⟩ := ha
  obtain ⟨a1, cap1, rfl, -, -, -⟩ := id hc
  obtain ⟨a2, cap2, rfl, -, -, -⟩ := id hv
  obtain ⟨a3, cap3, rfl, -, -, -⟩ := id ht
  obtain ⟨cv', lv', tv', rfl, hc', hv', ht'⟩ := hb
  obtain ⟨b1, dap1, rfl, -, -, -⟩ := id hc'
  obtain ⟨b2, dap2, rfl, -, -, -⟩ := id hv'
  obtain ⟨b3, dap3, rfl, -, -, -⟩ := id ht'
  have hbl := Below.plus (Below.plus (Below.refl w.heap.size w) (.cells #[.slice a1 a.clock.length cap1, .slice a2 a.lives.length cap2, .slice a3 a.tals.length cap3] 27)) (.cells #[.slice b1 b.clock.length dap1, .slice b2 b.lives.length dap2, .slice b3 b.tals.length dap3] 27)
  have S1 := hide (hain.below hbl (Nat.le_refl _))
  have T1 := hide (hbin.below hbl (Nat.le_refl _))
  have A1 := hide ((Box.new w [.slice a1 a.clock.length cap1, .slice a2 a.lives.length cap2, .slice a3 a.tals.length cap3] 27).plus (.cells #[.slice b1 b.clock.length dap1, .slice b2 b.lives.length dap2, .slice b3 b.tals.length dap3] 27))
  have B1 := hide (Box.new (w.alloc (.cells #[.slice a1 a.clock.length cap1, .slice a2 a.lives.length cap2, .slice a3 a.tals.length cap3] 27)) [.slice b1 b.clock.length dap1, .slice b2 b.lives.length dap2, .slice b3 b.tals.length dap3] 27)
  simp only [World.size_alloc] at B1
  have HB1 := hide hbl
  clear hain hbin hc hv ht hc' hv' ht' hbl
  obtain ⟨w1, HW1⟩ : ∃ W, Hid ((w.alloc (.cells #[.slice a1 a.clock.length cap1, .slice a2 a.lives.length cap2, .slice a3 a.tals.length cap3] 27)).alloc (.cells #[.slice b1 b.clock.length dap1, .slice b2 b.lives.length dap2, .slice b3 b.tals.length dap3] 27) = W) := ⟨_, rfl⟩
  rw [HW1.out] at S1 T1 A1 B1 HB1
  obtain ⟨E, HE⟩ : ∃ E, Hid (joinE a b = E) := ⟨_, rfl⟩
  obtain ⟨X, HX⟩ : ∃ X, Hid (joinX a b = X) := ⟨_, rfl⟩
  have p0 := A1.out.get 0 rfl
  have p1 := A1.out.get 1 rfl
  have p2 := A1.out.get 2 rfl
  have r0 := B1.out.get 0 rfl
  have r1 := B1.out.get 1 rfl
  have r2 := B1.out.get 2 rfl
  go_enter Try.func4, Try.ntmps4
  go_upto_region 1 with fail
  rw [HW1.out]
  go_wp2_with fail
  refine (join_state _ _ a b _ S1.out T1.out).mono ?_
  rintro e w2 ⟨rv, rfl, hO, hb2⟩
  rw [HE.out]
  rw [HX.out] at hO
  obtain ⟨x1, x4, x2, x5, x3, x6, hrv⟩ := hO.formW
  subst hrv
  clear p0 p1 p2 r0 r1 r2
  have hbp := Below.plus (Below.refl w2.heap.size w2) (.cells #[.slice x1 X.clock.length x4, .slice x2 X.lives.length x5, .slice x3 X.tals.length x6] 27)
  have hb3 := below_step hb2 hbp
  have S3 := hide (S1.out.below hb3 (Nat.le_refl _))
  have T3 := hide (T1.out.below hb3 (Nat.le_refl _))
  have A3 := hide (A1.out.below hb3 (Nat.le_refl _))
  have B3 := hide (B1.out.below hb3 (Nat.le_refl _))
  have HB3 := hide (below_step HB1.out hb3)
  have X3 := hide (Box.new w2 [.slice x1 X.clock.length x4, .slice x2 X.lives.length x5, .slice x3 X.tals.length x6] 27)
  have O3 := hide (hO.st.below hbp (Nat.le_refl _))
  obtain ⟨w3, HW3⟩ : ∃ W, Hid (w2.alloc (.cells #[.slice x1 X.clock.length x4, .slice x2 X.lives.length x5, .slice x3 X.tals.length x6] 27) = W) := ⟨_, rfl⟩
  rw [HW3.out] at S3 T3 A3 B3 HB3 X3 O3
  clear S1 T1 A1 B1 HB1 hO hb2 hbp hb3
  have p0 := A3.out.get 0 rfl
  have p1 := A3.out.get 1 rfl
  have p2 := A3.out.get 2 rfl
  have r0 := B3.out.get 0 rfl
  have r1 := B3.out.get 1 rfl
  have r2 := B3.out.get 2 rfl
  go_upto_region 2 with fail
  rw [HW3.out]
  go_wp2_with fail
  refine (join_ref4 _ _ a b _ S3.out T3.out).mono ?_
  rintro e w4 ⟨rv, rfl, hO, hb4⟩
  rw [HE.out]
  rw [HX.out] at hO
  obtain ⟨y1, y4, y2, y5, y3, y6, hrv⟩ := hO.formW
  subst hrv
  clear p0 p1 p2 r0 r1 r2
  have hbp := Below.plus (Below.refl w4.heap.size w4) (.cells #[.slice y1 X.clock.length y4, .slice y2 X.lives.length y5, .slice y3 X.tals.length y6] 27)
  have hb5 := below_step hb4 hbp
  have HB5 := hide (below_step HB3.out hb5)
  have X5 := hide (X3.out.below hb5 (Nat.le_refl _))
  have O5 := hide (O3.out.below hb5 (Nat.le_refl _))
  have Y5 := hide (Box.new w4 [.slice y1 X.clock.length y4, .slice y2 X.lives.length y5, .slice y3 X.tals.length y6] 27)
  have Q5 := hide (hO.st.below hbp (Nat.le_refl _))
  obtain ⟨w5, HW5⟩ : ∃ W, Hid (w4.alloc (.cells #[.slice y1 X.clock.length y4, .slice y2 X.lives.length y5, .slice y3 X.tals.length y6] 27) = W) := ⟨_, rfl⟩
  rw [HW5.out] at HB5 X5 O5 Y5 Q5
  clear S3 T3 A3 B3 HB3 X3 O3 hO hb4 hbp hb5
  have p0 := X5.out.get 0 rfl
  have p1 := X5.out.get 1 rfl
  have p2 := X5.out.get 2 rfl
  have r0 := Y5.out.get 0 rfl
  have r1 := Y5.out.get 1 rfl
  have r2 := Y5.out.get 2 rfl
  go_upto_region 3 with fail
  rw [HW5.out]
  go_wp2_with fail
  refine (same_st _ _ X _ O5.out Q5.out).mono ?_
  rintro e w6 ⟨rfl, hb6⟩
  have HB6 := hide (below_step HB5.out hb6)
  go_wp2_with fail
  go_ret
  exact ⟨rfl, HB6.out⟩
end Go.Proofs.Ytalglngjafkdjaa
