/- log.least: the place of the least author, of those that fit. -/
import Derived.Test.YtalglngjafkdjaaLogC
import Derived.Test.YtalglngjafkdjaaClone
namespace Go.Proofs.Ytalglngjafkdjaa
open Go.RowKit

/-- Does u fit, where so much was seen? -/
def fitsB (u : Upd) (xs : List Int) : Bool := misfitU u xs == 0
/-- The best place yet, behind the first k. -/
def bestL (xs : List Int) (l : List Upd) : Nat → Nat
  | 0 => 0
  | k + 1 => match l[k]?, l[bestL xs l k]? with
    | some u, some v => if u.author < v.author ∧ fitsB u xs = true then k else bestL xs l k
    | _, _ => bestL xs l k
def leastL (xs : List Int) (l : List Upd) : Nat := bestL xs l l.length
theorem bestL_lt (xs : List Int) (l : List Upd) (h0 : 0 < l.length) : ∀ k, k ≤ l.length → bestL xs l k < l.length
  | 0, _ => h0
  | k + 1, hk => by
    have ih := bestL_lt xs l h0 k (by omega)
    unfold bestL
    split
    · split
      · omega
      · exact ih
    · exact ih
theorem bestL_step {xs : List Int} {l : List Upd} {k : Nat} {u v : Upd} (hu : l[k]? = some u) (hv : l[bestL xs l k]? = some v) : bestL xs l (k + 1) = if u.author < v.author ∧ fitsB u xs = true then k else bestL xs l k := by
  rw [bestL, hu, hv]

section
variable {P : Program} {ops : Array Oper} {Q : Exit → Act → World → Prop} {md : Region.Mode} {S : World → Prop}
/-- An operation of a region that draws: it yields its value wherever S holds. -/
theorem take_yes (i d : Nat) (v : Value) {oi : Oper} {fuel : Nat} {listed : Array Bool} {a : Act} {w : World} (hi : ops[i]? = some oi) (hd : oi.dst = some d)
    (hs : Region.noSelect ops = true) (hf : Region.free md ops listed i = true) (hr : (Region.ready md ops listed).contains i = true)
    (hQ : ∀ c a w, Q (.panic c) (a.put oi.dst v) w → Q (.panic c) a w) (hw : Region.wanted oi (yielded ops a.tmps) = true) (hy : ∀ w, S w → (execOp a.eval oi).run P w = .ok (.value v) w) (hS : S w)
    (h : wpAnyH P md ops Q S fuel (listed.setIfInBounds i true) (a.put (some d) v) w) : wpAnyH P md ops Q S (fuel + 1) listed a w :=
  wpAnyH_take hi hs hf hr hQ (Or.inl ⟨hw, hy⟩) hS (by rw [hd]; exact h)
/-- .. it is guarded, and not wanted. -/
theorem take_skip (i d : Nat) {oi : Oper} {fuel : Nat} {listed : Array Bool} {a : Act} {w : World} (hi : ops[i]? = some oi) (hd : oi.dst = some d)
    (hs : Region.noSelect ops = true) (hf : Region.free md ops listed i = true) (hr : (Region.ready md ops listed).contains i = true)
    (hQ : ∀ c a w, Q (.panic c) (a.put oi.dst undef) w → Q (.panic c) a w) (hw : Region.wanted oi (yielded ops a.tmps) = false) (hS : S w)
    (h : wpAnyH P md ops Q S fuel (listed.setIfInBounds i true) (a.put (some d) undef) w) : wpAnyH P md ops Q S (fuel + 1) listed a w :=
  wpAnyH_take hi hs hf hr hQ (Or.inr ⟨hw, rfl⟩) hS (by rw [hd]; exact h)
end

end Go.Proofs.Ytalglngjafkdjaa
/- What the loop of log.Sorted holds between two rounds, and how each step of a round turns it. -/
namespace Go.Proofs.Ytalglngjafkdjaa
open Go.RowKit

theorem row_blk {W : World} {B e size n : Nat} {v : Value} {xs : List Value} (h : W.ownsRow B e size v n xs) {g : Nat} (hv : v.ownBlock = some g) : (∃ cur, W.heap[g]? = some (.cells cur e (0, 0))) ∧ B ≤ g := by
  rcases h.2 with ⟨rfl, -⟩ | ⟨g', cap, cur, rfl, hg, hh, -⟩
  · simp [Value.ownBlock] at hv
  · simp only [Value.ownBlock, Option.some.injEq] at hv
    subst hv
    exact ⟨⟨cur, hh⟩, hg⟩
theorem row_kept {W W' : World} {B e size n : Nat} {v : Value} {xs : List Value} (h : W.ownsRow B e size v n xs) (hk : ∀ g, v.ownBlock = some g → W'.heap[g]? = W.heap[g]?) : W'.ownsRow B e size v n xs := by
  refine ⟨h.1, ?_⟩
  rcases h.2 with h1 | ⟨g, cap, cur, hv, hg, hh, r⟩
  · exact Or.inl h1
  · exact Or.inr ⟨g, cap, cur, hv, hg, by rw [hk g (by rw [hv]; rfl)]; exact hh, r⟩
theorem row_not {W : World} {B size n b : Nat} {e t : TypeId} {cs : Array Value} {v : Value} {xs : List Value} (h : W.ownsRow B e size v n xs) (hb : W.heap[b]? = some (.cells cs t (0, 0))) (ht : t ≠ e) : v.ownBlock ≠ some b := by
  intro e1
  obtain ⟨⟨cur, h1⟩, -⟩ := row_blk h e1
  rw [hb] at h1
  simp at h1
  exact ht h1.2

structure SortI (w : World) (gS : Nat) (vl vo cv : Value) (ps qs : List (Upd × Value)) (X : List Int) (W : World) : Prop where
  res : Box W w.heap.size [.int .i64 0, .int .i64 0] 31
  box : Box W gS [cv] 23
  left : OwnP (Row w) W (gS + 1) vl ps
  out : LogO W (gS + 1) vo qs
  ap : ∀ g, vl.ownBlock = some g → vo.ownBlock ≠ some g
  seen : Row w cv X ∨ Own W (gS + 1) cv X
  hB : Below w.heap.size w W
  lt : w.heap.size < gS

theorem SortI.below {w W W' : World} {gS : Nat} {vl vo cv : Value} {ps qs : List (Upd × Value)} {X : List Int} (h : SortI w gS vl vo cv ps qs X W) {B : Nat} (hb : Below B W W') (hB : W.heap.size ≤ B) : SortI w gS vl vo cv ps qs X W' :=
  ⟨h.res.below hb hB, h.box.below hb hB, h.left.step hb hB, h.out.below hb hB, h.ap, or_map h.seen id (fun g => g.below hb hB), h.hB.trans (hb.mono (Nat.le_trans h.hB.size hB)), h.lt⟩
theorem SortI.row {w W : World} {gS : Nat} {vl vo cv : Value} {ps qs : List (Upd × Value)} {X : List Int} (h : SortI w gS vl vo cv ps qs X W) : Row W cv X := by
  rcases h.seen with g | g
  · exact g.below h.hB (Nat.le_refl _)
  · exact g.row
theorem SortI.log {w W : World} {gS : Nat} {vl vo cv : Value} {ps qs : List (Upd × Value)} {X : List Int} (h : SortI w gS vl vo cv ps qs X W) : LogV W vl (ps.map (·.1)) :=
  h.left.log fun _ _ g => g.below h.hB (Nat.le_refl _)

/-- The clock ticked, and is stored. -/
theorem SortI.ticked {w W : World} {gS : Nat} {vl vo cv r : Value} {ps qs : List (Upd × Value)} {X X' : List Int} (h : SortI w gS vl vo cv ps qs X W) (hr : Own W (gS + 1) r X') : SortI w gS vl vo r ps qs X' (W.setCell ⟨gS, 0, none⟩ r) := by
  have hlt := h.lt
  refine ⟨h.res.away (by omega), by simpa using h.box.set 0 r, ⟨ownsRow_setCell_below h.left.1 (Nat.lt_succ_self gS) r, h.left.2⟩, ⟨ownsRow_setCell_below h.out.1 (Nat.lt_succ_self gS) r, fun p hp => (h.out.2 p hp).away (Nat.lt_succ_self gS) 0 r⟩, h.ap, .inr (hr.away (Nat.lt_succ_self gS) 0 r), h.hB.setCell (by show w.heap.size ≤ gS; omega) r, h.lt⟩

/-- One more is told. -/
theorem SortI.told {w W W3 : World} {gS : Nat} {vl vo cv v' sv : Value} {ps qs : List (Upd × Value)} {X : List Int} {u : Upd} (h : SortI w gS vl vo cv ps qs X W) (hs : Own W (gS + 1) sv u.seen)
    (ho : W3.ownsRow (gS + 1) 47 5 v' (qs.length + 1) (cellsP qs ++ cellsU u sv)) (hg : W.grownBy W3 vo.ownBlock) (hat : v'.ownBlock = vo.ownBlock ∨ v'.ownBlock = some W.heap.size) :
    SortI w gS vl v' cv ps (qs ++ [(u, sv)]) X W3 := by
  have hlt := h.lt
  have hbl : ∀ (b : Nat) cs t, W.heap[b]? = some (.cells cs t (0, 0)) → t ≠ 47 → W3.heap[b]? = some (.cells cs t (0, 0)) := fun b cs t hb ht => (hg.block b (lt_of_block hb) (fun e => row_not h.out.1 hb ht e.symm)).trans hb
  refine ⟨hbl _ _ _ h.res (by decide), hbl _ _ _ h.box (by decide), ⟨row_kept h.left.1 (fun g e => ?_), h.left.2⟩, h.out.more hs ho hg, fun g e e2 => ?_, or_map h.seen id (fun q => q.grown h.out.1 hg), h.hB.grown hg h.hB.size (fun k e => ?_), h.lt⟩
  · obtain ⟨⟨cur, h1⟩, -⟩ := row_blk h.left.1 e
    exact hg.block g (lt_of_block h1) (fun e2 => h.ap g e e2.symm)
  · rcases hat with e3 | e3
    · exact h.ap g e (by rw [← e3, e2])
    · rw [e2] at e3
      simp only [Option.some.injEq] at e3
      obtain ⟨⟨cur, h1⟩, -⟩ := row_blk h.left.1 e
      have := lt_of_block h1
      omega
  · have := (row_blk h.out.1 e).2
    omega

/-- One is taken out. -/
theorem SortI.taken {w W W4 : World} {gS g cap k : Nat} {vo cv : Value} {ps qs : List (Upd × Value)} {X : List Int} (h : SortI w gS (.slice (some ⟨g, 0, none⟩) ps.length cap) vo cv ps qs X W) (hk : k < ps.length) (hd : Holds W4 g cap (ps.eraseIdx k)) (hg : W.grownBy W4 (some g)) :
    SortI w gS (.slice (some ⟨g, 0, none⟩) (ps.length - 1) cap) vo cv (ps.eraseIdx k) qs X W4 := by
  have hlt := h.lt
  have hbl : ∀ (b : Nat) cs t, W.heap[b]? = some (.cells cs t (0, 0)) → t ≠ 47 → W4.heap[b]? = some (.cells cs t (0, 0)) := fun b cs t hb ht => (hg.block b (lt_of_block hb) (fun e => row_not h.left.1 hb ht e.symm)).trans hb
  have hlen : (ps.eraseIdx k).length = ps.length - 1 := by rw [List.length_eraseIdx, if_pos hk]
  have hown : ∀ {B : Nat} {sv : Value} {xs : List Int}, Own W B sv xs → Own W4 B sv xs := fun {B sv xs} q => q.grown h.left.1 hg
  refine ⟨hbl _ _ _ h.res (by decide), hbl _ _ _ h.box (by decide), ⟨?_, fun p hp => h.left.2 p (List.mem_of_mem_eraseIdx hp)⟩, ⟨row_kept h.out.1 (fun b e => ?_), fun p hp => hown (h.out.2 p hp)⟩, h.ap, or_map h.seen id hown, h.hB.grown hg h.hB.size (fun b e => ?_), h.lt⟩
  · rcases h.left.1.2 with ⟨e, -⟩ | ⟨g', cap', cur, e, hg', hh, h1, h2, h3, h4⟩
    · cases e
    · simp only [Value.slice.injEq, Option.some.injEq, Addr.mk.injEq, and_true, true_and] at e
      obtain ⟨rfl, rfl⟩ := e
      obtain ⟨cur', k1, k2, k3⟩ := hd
      refine ⟨by rw [cellsP_length], .inr ⟨g, cap, cur', by rw [hlen], hg', k1, by omega, h2, k2, k3⟩⟩
  · obtain ⟨⟨cur, h1⟩, -⟩ := row_blk h.out.1 e
    exact hg.block b (lt_of_block h1) (fun e2 => h.ap g rfl (by rw [e]; exact e2))
  · cases e
    have := (row_blk h.left.1 (g := g) rfl).2
    omega
theorem SortI.holds {w W : World} {gS g cap m : Nat} {vo cv : Value} {ps qs : List (Upd × Value)} {X : List Int} (h : SortI w gS (.slice (some ⟨g, 0, none⟩) m cap) vo cv ps qs X W) : Holds W g cap ps ∧ m = ps.length ∧ ps.length ≤ cap ∧ cap ≤ maxLen := by
  rcases h.left.1.2 with ⟨e, -⟩ | ⟨g', cap', cur, e, hg', hh, h1, h2, h3, h4⟩
  · cases e
  · simp only [Value.slice.injEq, Option.some.injEq, Addr.mk.injEq, and_true] at e
    obtain ⟨rfl, rfl, rfl⟩ := e
    exact ⟨⟨cur, hh, h3, h4⟩, rfl, h1, h2⟩
end Go.Proofs.Ytalglngjafkdjaa
