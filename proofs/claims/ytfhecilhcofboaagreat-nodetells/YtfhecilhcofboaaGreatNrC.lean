/- A region that draws its order, whose last operations write what the earlier ones read: what the earlier ones lean on need not hold behind the last ones, which wait for them. -/
import Derived.Test.YtfhecilhcofboaaGreatSortI
import Derived.Test.YtfhecilhcofboaaGreatNdC
import Derived.Test.YtfhecilhcofboaaGreatRfC
import Derived.Test.YtfhecilhcofboaaGreatRfB
import Derived.Test.YtfhecilhcofboaaGreatSameLog
import Derived.Test.YtfhecilhcofboaaGreatNdZ
import Derived.Test.YtfhecilhcofboaaGreatNdX
namespace Go.Proofs.YtfhecilhcofboaaGreat
open Go.RowKit

def clean (D : Nat → Bool) (listed : Array Bool) : Bool := (List.range listed.size).all fun j => !D j || !listed.getD j true
theorem clean_set {D : Nat → Bool} {listed : Array Bool} {i : Nat} (hi : D i = false) : clean D (listed.setIfInBounds i true) = clean D listed := by
 unfold clean
 rw [Array.size_setIfInBounds]
 refine congrArg (fun f => (List.range listed.size).all f) (funext fun j => ?_)
 by_cases h : i = j
 ·subst h
  rw [hi]
  rfl
 rw [getD_set_ne true h]
section
variable {P : Program} {ops : Array Oper} {Q : Exit → Act → World → Prop} {md : Region.Mode} {S T : World → Prop} {D : Nat → Bool}
def wpAnyD (P : Program) (md : Region.Mode) (ops : Array Oper) (Q : Exit → Act → World → Prop) (S T : World → Prop) (D : Nat → Bool) : Nat → Array Bool → Act → World → Prop
 | 0, listed, a, w => Region.ready md ops listed = [] ∧ Q .normal a w
 | fuel + 1, listed, a, w => (Region.ready md ops listed = [] → Q .normal a w) ∧
  ∀ i ∈ Region.ready md ops listed, wpOp P ops Q i (fun a' w' => (T w' ∧ (clean D (listed.setIfInBounds i true) = true → S w')) ∧ wpAnyD P md ops Q S T D fuel (listed.setIfInBounds i true) a' w') a w
theorem wpAny_of_D : ∀ (fuel : Nat) (listed : Array Bool) (a : Act) (w : World), wpAnyD P md ops Q S T D fuel listed a w → wpAny P md ops Q fuel listed a w
 | 0, _, _, _, h => h
 | fuel + 1, _, _, _, h => ⟨h.1, fun i hi => wpOp_mono (fun a' w' h' => wpAny_of_D fuel _ a' w' h'.2) (h.2 i hi)⟩
def waits (md : Region.Mode) (ops : Array Oper) (D : Nat → Bool) (i : Nat) : Bool := (List.range ops.size).all fun j => !D j || match ops[j]? with
 | some o => o.after.any fun e => Region.binds md e && e.on == i
 | none => true
theorem waits_spec {i j : Nat} {o : Oper} (h : waits md ops D i = true) (ho : ops[j]? = some o) (hd : D j = true) : ∃ e ∈ o.after, Region.binds md e = true ∧ e.on = i := by
 have hj : j < ops.size := (Array.getElem?_eq_some_iff.1 ho).1
 have h1 := List.all_eq_true.1 h j (List.mem_range.2 hj)
 rw [hd, ho] at h1
 simp only [Bool.not_true, Bool.false_or, Array.any_eq_true] at h1
 obtain ⟨k, hk, h2⟩ := h1
 rw [Bool.and_eq_true, beq_iff_eq] at h2
 exact ⟨_, Array.getElem_mem hk, h2⟩
theorem unlisted {i : Nat} {listed : Array Bool} {e : Edge} (hr : i ∈ Region.ready md ops listed) (h1 : listed.getD e.on false = true) : e.on ≠ i := fun heq => by
 have h0 := (mem_ready.1 hr).1
 rw [heq] at h1
 rcases Nat.lt_or_ge i listed.size with h' | h'
 ·simp [h'] at h0 h1
  rw [h0] at h1
  cases h1
 simp [Array.getElem?_eq_none h'] at h1
theorem firstD {C : World → Prop} {i : Nat} {oi : Oper} {v : Value} (hi : ops[i]? = some oi) (hsel : ∀ (j : Nat) (o : Oper) cs b, ops[j]? = some o → o.op ≠ .select cs b)
  (hQ : ∀ c a w, Q (.panic c) (a.put oi.dst v) w → Q (.panic c) a w) (hDi : D i = false) : ∀ (fuel : Nat) (listed : Array Bool) (a : Act) (w : World),
  (waits md ops D i = true ∧ clean D listed = true ∧ C = S) ∨ C = T →
  (∀ j oj, ops[j]? = some oj → j ≠ i → listed.getD j true = false → (∀ e ∈ oj.after, Region.binds md e = true → e.on ≠ i) → oi.apart ops oj = true) →
  i ∈ Region.ready md ops listed → YieldsIf P ops C oi v a → T w → (clean D listed = true → S w) → wpAnyD P md ops Q S T D fuel (listed.setIfInBounds i true) (a.put oi.dst v) w → wpAnyD P md ops Q S T D (fuel + 1) listed a w := by
 have cw : ∀ {listed : Array Bool} {w : World}, (waits md ops D i = true ∧ clean D listed = true ∧ C = S) ∨ C = T → T w → (clean D listed = true → S w) → C w := fun hC hT hS => by
  rcases hC with ⟨-, h1, rfl⟩ | rfl
  ·exact hS h1
  exact hT
 intro fuel
 induction fuel with
 | zero =>
  intro listed a w hC _ hr hy hT hS H
  refine ⟨fun h => (by rw [h] at hr; cases hr), fun j hj => ?_⟩
  by_cases hji : j = i
  ·subst hji
   exact hy.wpOp hi (cw hC hT hS) ⟨⟨hT, by rw [clean_set hDi]; exact hS⟩, H⟩
  have := ready_mono hj hji
  rw [H.1] at this
  cases this
 | succ fuel ih =>
  intro listed a w hC hfree hr hy hT hS H
  refine ⟨fun h => (by rw [h] at hr; cases hr), fun j hj => ?_⟩
  by_cases hji : j = i
  ·subst hji
   exact hy.wpOp hi (cw hC hT hS) ⟨⟨hT, by rw [clean_set hDi]; exact hS⟩, H⟩
  obtain ⟨hun, oj, hoj, hall⟩ := mem_ready.1 hj
  have hnot : ∀ e ∈ oj.after, Region.binds md e = true → e.on ≠ i := fun e he hb => unlisted hr (hall e he hb)
  have hC' : (waits md ops D i = true ∧ clean D (listed.setIfInBounds j true) = true ∧ C = S) ∨ C = T := by
   rcases hC with ⟨h1, h2, h3⟩ | h1
   ·have hd : D j = false := by
     cases hd : D j with
     | false => rfl
     | true =>
      obtain ⟨e, he, hb, heq⟩ := waits_spec h1 hoj hd
      exact absurd heq (hnot e he hb)
    exact .inl ⟨h1, by rw [clean_set hd]; exact h2, h3⟩
   exact .inr h1
  have hcl : clean D ((listed.setIfInBounds i true).setIfInBounds j true) = clean D (listed.setIfInBounds j true) := by rw [Array.setIfInBounds_comm _ _ (Ne.symm hji), clean_set hDi]
  refine wpOp_mono (fun a' w' h3 => ⟨⟨h3.2.1.1, fun hc => h3.2.1.2 (by rw [hcl]; exact hc)⟩, ih (listed.setIfInBounds j true) a' w' hC' (fun k ok hk hki hu hno => hfree k ok hk hki ?_ hno) (ready_mono hr (Ne.symm hji)) h3.1 h3.2.1.1 (fun hc => h3.2.1.2 (by rw [hcl]; exact hc)) ?_⟩)
   (wpOp_putIf hoj (hfree j oj hoj hji hun hnot) (fun cs b => hsel i oi cs b hi) (fun cs b => hsel j oj cs b hoj) hQ hy (H.2 j (ready_mono hj hji)))
  ·by_cases hjk : j = k
   ·subst hjk
    exact hun
   rw [getD_set_ne true hjk] at hu
   exact hu
  rw [Array.setIfInBounds_comm _ _ hji]
  exact h3.2.2
def okD (md : Region.Mode) (ops : Array Oper) (D : Nat → Bool) (listed : Array Bool) (i : Nat) : Bool := Region.noSelect ops && (Region.free md ops listed i && ((Region.ready md ops listed).contains i && !D i))
theorem yD (i : Nat) (v : Value) {d : Nat} {oi : Oper} {fuel : Nat} {listed : Array Bool} {a a' : Act} {w : World} (h : wpAnyD P md ops Q S T D fuel (listed.setIfInBounds i true) a' w)
  (hi : ops[i]? = some oi := by rfl) (hd : oi.dst = some d := by rfl) (hs : (okD md ops D listed i && (waits md ops D i && clean D listed)) = true := by kernel_rfl)
  (hQ : ∀ c a w, Q (.panic c) (a.put oi.dst v) w → Q (.panic c) a w := by exact fun _ _ _ h => h) (hw : Region.wanted oi (yielded ops a.tmps) = true := by rfl)
  (hy : ∀ w, S w → (execOp a.eval oi).run P w = .ok (.value v) w := by intro w hSw; (try dsimp only at hSw); go_simp) (hS : S w := by assumption) (hT : T w := by first | trivial | exact And.left (by assumption))
  (ha : a.put (some d) v = a' := by simp only [Act.put, put1, put2, put3]; exact rfl) : wpAnyD P md ops Q S T D (fuel + 1) listed a w := by
 simp only [okD, Bool.and_eq_true, Bool.not_eq_true'] at hs
 exact firstD hi (Region.noSelect_spec hs.1.1) hQ hs.1.2.2.2 fuel listed a w (.inl ⟨hs.2.1, hs.2.2, rfl⟩) (Region.free_spec hi hs.1.2.1) (by simpa using hs.1.2.2.1) (.inl ⟨hw, hy⟩) hT (fun _ => hS) (by rw [hd, ha]; exact h)
theorem yT (i : Nat) (v : Value) {d : Nat} {oi : Oper} {fuel : Nat} {listed : Array Bool} {a a' : Act} {w : World} (h : wpAnyD P md ops Q S T D fuel (listed.setIfInBounds i true) a' w)
  (hi : ops[i]? = some oi := by rfl) (hd : oi.dst = some d := by rfl) (hs : okD md ops D listed i = true := by kernel_rfl)
  (hQ : ∀ c a w, Q (.panic c) (a.put oi.dst v) w → Q (.panic c) a w := by exact fun _ _ _ h => h) (hw : Region.wanted oi (yielded ops a.tmps) = true := by rfl)
  (hy : ∀ w, T w → (execOp a.eval oi).run P w = .ok (.value v) w := by intro w hSw; (try dsimp only at hSw); go_simp) (hS : S w := by assumption) (hT : T w := by first | trivial | exact And.left (by assumption))
  (ha : a.put (some d) v = a' := by simp only [Act.put, put1, put2, put3]; exact rfl) : wpAnyD P md ops Q S T D (fuel + 1) listed a w := by
 simp only [okD, Bool.and_eq_true, Bool.not_eq_true'] at hs
 exact firstD hi (Region.noSelect_spec hs.1) hQ hs.2.2.2 fuel listed a w (.inr rfl) (Region.free_spec hi hs.2.1) (by simpa using hs.2.2.1) (.inl ⟨hw, hy⟩) hT (fun _ => hS) (by rw [hd, ha]; exact h)
theorem yU (i : Nat) (v : Value) {d : Nat} {oi : Oper} {fuel : Nat} {listed : Array Bool} {a a' : Act} {w : World} (h : wpAnyD P md ops Q S T D fuel (listed.setIfInBounds i true) a' w)
  (hs : (okD md ops D listed i && !clean D listed) = true := by decide +kernel) (hi : ops[i]? = some oi := by rfl) (hd : oi.dst = some d := by rfl)
  (hQ : ∀ c a w, Q (.panic c) (a.put oi.dst v) w → Q (.panic c) a w := by exact fun _ _ _ h => h) (hw : Region.wanted oi (yielded ops a.tmps) = true := by rfl)
  (hy : ∀ w, T w → (execOp a.eval oi).run P w = .ok (.value v) w := by intro w hSw; (try dsimp only at hSw); go_simp) (hT : T w := by assumption)
  (ha : a.put (some d) v = a' := by simp only [Act.put, put1, put2, put3]; exact rfl) : wpAnyD P md ops Q S T D (fuel + 1) listed a w := by
 simp only [okD, Bool.and_eq_true, Bool.not_eq_true'] at hs
 exact firstD hi (Region.noSelect_spec hs.1.1) hQ hs.1.2.2.2 fuel listed a w (.inr rfl) (Region.free_spec hi hs.1.2.1) (by simpa using hs.1.2.2.1) (.inl ⟨hw, hy⟩) hT (fun h => by rw [hs.2] at h; cases h) (by rw [hd, ha]; exact h)
def AllD (P : Program) (md : Region.Mode) (ops : Array Oper) (Q : Exit → Act → World → Prop) (S T : World → Prop) (D : Nat → Bool) (fuel : Nat) (listed : Array Bool) (a : Act) (w : World) (rs : List Nat) : Prop :=
 ∀ i ∈ rs, wpOp P ops Q i (fun a' w' => (T w' ∧ (clean D (listed.setIfInBounds i true) = true → S w')) ∧ wpAnyD P md ops Q S T D fuel (listed.setIfInBounds i true) a' w') a w
theorem cD {fuel : Nat} {listed : Array Bool} {a : Act} {w : World} {i : Nat} {o : Oper} {rs : List Nat}
  (h : ∀ K : Act → World → Prop, Shut (∀ a w, (T w ∧ (clean D (listed.setIfInBounds i true) = true → S w)) → wpAnyD P md ops Q S T D fuel (listed.setIfInBounds i true) a w → K a w) → if Region.wanted o (yielded ops a.tmps) = true then Oper.wp P o a w K Q else K (a.put o.dst undef) w)
  (hs : AllD P md ops Q S T D fuel listed a w rs) (ho : ops[i]? = some o := by rfl) : AllD P md ops Q S T D fuel listed a w (i :: rs) := fun j hj => by
 rcases List.mem_cons.1 hj with rfl | hj
 ·exact wpOp_step ho (fun K' hK => h K' (fun a w hS hW => hK a w ⟨hS, hW⟩))
 exact hs j hj
theorem nD {fuel : Nat} {listed : Array Bool} {a : Act} {w : World} : AllD P md ops Q S T D fuel listed a w [] := fun _ h => by cases h
theorem aD (rs : List Nat) {fuel : Nat} {listed : Array Bool} {a : Act} {w : World} (h : AllD P md ops Q S T D fuel listed a w rs) (hr : Region.ready md ops listed = rs := by kernel_rfl) (hne : rs ≠ [] := by simp) : wpAnyD P md ops Q S T D (fuel + 1) listed a w :=
 ⟨fun h0 => absurd (hr ▸ h0) hne, hr ▸ h⟩
theorem oD (i : Nat) {fuel : Nat} {listed : Array Bool} {a : Act} {w : World} {o : Oper}
  (h : ∀ K : Act → World → Prop, Shut (∀ a w, (T w ∧ (clean D (listed.setIfInBounds i true) = true → S w)) → wpAnyD P md ops Q S T D fuel (listed.setIfInBounds i true) a w → K a w) → if Region.wanted o (yielded ops a.tmps) = true then Oper.wp P o a w K Q else K (a.put o.dst undef) w)
  (ho : ops[i]? = some o := by rfl) (hr : Region.ready md ops listed = [i] := by kernel_rfl) : wpAnyD P md ops Q S T D (fuel + 1) listed a w := aD [i] (cD h nD ho) hr
def AllR (P : Program) (md : Region.Mode) (ops : Array Oper) (Q : Exit → Act → World → Prop) (S T : World → Prop) (D : Nat → Bool) (fuel : Nat) (listed : Array Bool) (a : Act) (w : World) (rs : List Nat) : Prop :=
 ∀ i ∈ rs, (Region.ready md ops listed).contains i = true → wpOp P ops Q i (fun a' w' => (T w' ∧ (clean D (listed.setIfInBounds i true) = true → S w')) ∧ wpAnyD P md ops Q S T D fuel (listed.setIfInBounds i true) a' w') a w
structure Tg (i : Nat) : Prop where
 ok : True
theorem cR (i : Nat) {fuel : Nat} {listed : Array Bool} {a : Act} {w : World} {o : Oper} {rs : List Nat}
  (h : Tg i → (Region.ready md ops listed).contains i = true → ∀ K : Act → World → Prop, Shut (∀ a w, (T w ∧ (clean D (listed.setIfInBounds i true) = true → S w)) → wpAnyD P md ops Q S T D fuel (listed.setIfInBounds i true) a w → K a w) → if Region.wanted o (yielded ops a.tmps) = true then Oper.wp P o a w K Q else K (a.put o.dst undef) w)
  (hs : AllR P md ops Q S T D fuel listed a w rs) (ho : ops[i]? = some o := by rfl) : AllR P md ops Q S T D fuel listed a w (i :: rs) := fun j hj hr => by
 rcases List.mem_cons.1 hj with rfl | hj
 ·exact wpOp_step ho (fun K' hK => h ⟨trivial⟩ hr K' (fun a w hS hW => hK a w ⟨hS, hW⟩))
 exact hs j hj hr
theorem nR {fuel : Nat} {listed : Array Bool} {a : Act} {w : World} : AllR P md ops Q S T D fuel listed a w [] := fun _ h => by cases h
theorem aR {rs : List Nat} {fuel : Nat} {listed : Array Bool} {a : Act} {w : World} (h : AllR P md ops Q S T D fuel listed a w rs) (hr : ((Region.ready md ops listed).all rs.contains && !(Region.ready md ops listed).isEmpty) = true := by decide +kernel) : wpAnyD P md ops Q S T D (fuel + 1) listed a w := by
 rw [Bool.and_eq_true, List.all_eq_true] at hr
 exact ⟨fun h0 => (by rw [h0] at hr; cases hr.2), fun i hi => h i (List.contains_iff_mem.1 (hr.1 i hi)) (List.contains_iff_mem.2 hi)⟩
theorem kS {fuel : Nat} {listed : Array Bool} {a : Act} {w : World} {K : Act → World → Prop} (hK : Shut (∀ a w, (T w ∧ (clean D listed = true → S w)) → wpAnyD P md ops Q S T D fuel listed a w → K a w)) (hS : S w) {a' : Act} (h : wpAnyD P md ops Q S T D fuel listed a' w) (hT : S w → T w := by first | exact fun _ => trivial | exact And.left) (ha : a = a' := by (try simp only [Act.put, put1, put2, put3]); exact rfl) : K a w := hK.out a w ⟨hT hS, fun _ => hS⟩ (ha ▸ h)
theorem kD {fuel : Nat} {listed : Array Bool} {a : Act} {w : World} {K : Act → World → Prop} (hK : Shut (∀ a w, (T w ∧ (clean D listed = true → S w)) → wpAnyD P md ops Q S T D fuel listed a w → K a w)) (hT : T w) {a' : Act} (h : wpAnyD P md ops Q S T D fuel listed a' w) (hc : clean D listed = false := by decide +kernel) (ha : a = a' := by (try simp only [Act.put, put1, put2, put3]); exact rfl) : K a w := hK.out a w ⟨hT, fun h => by rw [hc] at h; cases h⟩ (ha ▸ h)
theorem eD {listed : Array Bool} {a : Act} {w : World} {fuel : Nat} (h : Q .normal a w) (hr : Region.ready md ops listed = [] := by kernel_rfl) : wpAnyD P md ops Q S T D fuel listed a w := by
 cases fuel with
 | zero => exact ⟨hr, h⟩
 | succ n => exact ⟨fun _ => h, by rw [hr]; simp⟩
theorem bD (D : Nat → Bool) (T : World → Prop) {id : Nat} {a : Act} {w w0 : World} (hg : Grew w0 w) (hk : ∀ w', Grew w0 w' → S w') (h : ∀ wd, Grew w wd → S wd → wpAnyD P .any ops Q S T D ops.size (Array.replicate ops.size false) a wd) (hm : P.follows .mixedOrders = true := by kernel_rfl) :
  (Code.region id ops true).wp P Q a w := wp_region_any hm (wpAny_of_D _ _ _ _ (h _ (grew_drew (grew_refl _)) (hk _ (grew_drew hg))))
theorem cell_far {w : World} {g g' i j : Nat} {v x : Value} (hne : g' ≠ g) (h : w.cell? ⟨g, i, none⟩ = some x) : (w.setCell ⟨g', j, none⟩ v).cell? ⟨g, i, none⟩ = some x := (World.cell?_setCell_far w ⟨g', j, none⟩ ⟨g, i, none⟩ v hne).trans h
end
end Go.Proofs.YtfhecilhcofboaaGreat
/- What stays, whatever is written at some blocks; the document's own Has, Lacks and set. -/
namespace Go.Proofs.YtfhecilhcofboaaGreat
open Go.RowKit

structure Off (S : Nat → Prop) (w w' : World) : Prop where
 os : w'.os = w.os
 tape : w'.tape = w.tape
 output : w'.output = w.output
 size : w.heap.size ≤ w'.heap.size
 block : ∀ k, k < w.heap.size → ¬ S k → w'.heap[k]? = w.heap[k]?
def Fix (S : Nat → Prop) (w : World) (P : World → Prop) : Prop := ∀ w', Off S w w' → P w'
def Mine (S : Nat → Prop) (a b : Nat) : Nat → Prop := fun k => S k ∨ (a ≤ k ∧ k < b)
def encP (p : Upd × Value) : List Value := cellsU p.1 p.2
def encK (q : List Int × Value) : List Value := [q.2]
theorem pick_all {α β : Type} : ∀ (l : List α) {Q : Nat → α → β → Prop}, (∀ i u, l[i]? = some u → ∃ s, Q i u s) → ∃ ps : List (α × β), ps.map (·.1) = l ∧ ∀ i p, ps[i]? = some p → Q i p.1 p.2
 | [], _, _ => ⟨[], rfl, fun i p h => by simp at h⟩
 | u :: r, Q, h => by
  obtain ⟨s, hs⟩ := h 0 u rfl
  obtain ⟨ps, h1, h2⟩ := pick_all r (Q := fun i => Q (i + 1)) fun i v hi => h (i + 1) v (by simpa using hi)
  refine ⟨(u, s) :: ps, by simp [h1], fun i p hi => ?_⟩
  cases i with
  | zero => simp at hi; subst hi; exact hs
  | succ i => exact h2 i p (by simpa using hi)
section
variable {S : Nat → Prop} {w w' w1 : World} {P : World → Prop}
theorem Off.refl (S : Nat → Prop) (w : World) : Off S w w := ⟨rfl, rfl, rfl, nlr _, fun _ _ _ => rfl⟩
theorem Off.trans (h : Off S w w') (k : Off S w' w1) : Off S w w1 := ⟨k.os.trans h.os, k.tape.trans h.tape, k.output.trans h.output, Nat.le_trans h.size k.size, fun i hi hs => (k.block i (Nat.lt_of_lt_of_le hi h.size) hs).trans (h.block i hi hs)⟩
theorem offB {C : Nat} (h : Below C w w') (hC : w.heap.size ≤ C) : Off S w w' := ⟨h.os, h.tape, h.output, h.size, fun k hk _ => h.block k (Nat.lt_of_lt_of_le hk hC)⟩
theorem Off.set {g : Nat} (h : Off S w w') (hg : S g) (i : Nat) (v : Value) : Off S w (w'.setCell ⟨g, i, none⟩ v) :=
 ⟨h.os, h.tape, h.output, by rw [World.size_setCell]; exact h.size, fun k hk hs => (Below.heap_setCell w' ⟨g, i, none⟩ v k (fun e => hs (by rw [e]; exact hg))).trans (h.block k hk hs)⟩
theorem Fix.here (h : Fix S w P) : P w := h w (Off.refl S w)
theorem Fix.off (h : Fix S w P) (ho : Off S w w') : Fix S w' P := fun w2 h2 => h w2 (ho.trans h2)
theorem Fix.less {a b : Nat} (h : Fix (Mine S a b) w P) : Fix S w P := fun w2 h2 => h w2 ⟨h2.os, h2.tape, h2.output, h2.size, fun k hk hs => h2.block k hk fun hh => hs (.inl hh)⟩
theorem Fix.more (h : Fix S w P) (hb : Below w.heap.size w w') {b : Nat} : Fix (Mine S w.heap.size b) w' P := fun w2 h2 => h w2
 ⟨h2.os.trans hb.os, h2.tape.trans hb.tape, h2.output.trans hb.output, Nat.le_trans hb.size h2.size, fun k hk hs => (h2.block k (Nat.lt_of_lt_of_le hk hb.size) (fun hh => hh.elim hs fun hh => by omega)).trans (hb.block k hk)⟩
theorem fix_old {w0 : World} (hb : Below w0.heap.size w0 w) (hS : ∀ k, S k → w0.heap.size ≤ k) (hP : ∀ w', Below w0.heap.size w0 w' → P w') : Fix S w P := fun w2 h2 => hP w2 ⟨h2.os.trans hb.os, h2.tape.trans hb.tape, h2.output.trans hb.output, Nat.le_trans hb.size h2.size, fun k hk => (h2.block k (Nat.lt_of_lt_of_le hk hb.size) fun hs => by have := hS k hs; omega).trans (hb.block k hk)⟩
theorem ownsRow_off {B : Nat} {e : TypeId} {sz n : Nat} {v : Value} {xs : List Value} (h : w.ownsRow B e sz v n xs) (hB : ∀ k, S k → k < B) (ho : Off S w w') : w'.ownsRow B e sz v n xs := by
 obtain ⟨h1, h2⟩ := h
 refine ⟨h1, ?_⟩
 rcases h2 with h2 | ⟨g, cap, cur, e1, e2, e3, e4⟩
 ·exact .inl h2
 exact .inr ⟨g, cap, cur, e1, e2, (ho.block g (lt_of_block e3) fun hs => by have := hB g hs; omega).trans e3, e4⟩
theorem Own.fix {B : Nat} {v : Value} {xs : List Int} (h : Own w B v xs) (hB : ∀ k, S k → k < B) : Fix S w fun w => Row w v xs := fun _ ho => Own.row (ownsRow_off h hB ho)
theorem StOwn.fix {B : Nat} {v : Value} {s : StS} (h : StOwn w B v s) (hB : ∀ k, S k → k < B) : Fix S w fun w => IsSt w v s := fun _ ho => by
 obtain ⟨cv, lv, tv, h1, h2, h3, h4⟩ := h
 exact StOwn.st ⟨cv, lv, tv, h1, ownsRow_off h2 hB ho, ownsRow_off h3 hB ho, ownsRow_off h4 hB ho⟩
theorem fix_clock {c l t : Value} {s : StS} (h : Fix S w fun w => IsSt w (.agg #[c, l, t]) s) : Fix S w fun w => Row w c s.clock := fun w2 ho => by
 obtain ⟨cv, lv, tv, he, hr, -⟩ := h w2 ho
 simp only [Value.agg.injEq, Array.mk.injEq, List.cons.injEq, and_true] at he
 rw [he.1]
 exact hr
def LogF (S : Nat → Prop) (w : World) (v : Value) (l : List Upd) : Prop := ∃ ps : List (Upd × Value), ps.map (·.1) = l ∧ (Fix S w fun w => SliceV 5 encP w v ps) ∧ ∀ p ∈ ps, Fix S w fun w => Row w p.2 p.1.seen
def KnF (S : Nat → Prop) (w : World) (v : Value) (ks : List (List Int)) : Prop := ∃ qs : List (List Int × Value), qs.map (·.1) = ks ∧ (Fix S w fun w => SliceV 1 encK w v qs) ∧ ∀ q ∈ qs, Fix S w fun w => Row w q.2 q.1
theorem LogF.log {v : Value} {l : List Upd} (h : LogF S w v l) : LogV w v l := by
 obtain ⟨ps, rfl, hs, hr⟩ := h
 obtain ⟨a, cap, h1, h2, h3, h4⟩ := hs.here
 refine ⟨a, cap, by simpa using h1, by simpa using h2, h3, fun i u hi => ?_⟩
 rw [List.getElem?_map, Option.map_eq_some_iff] at hi
 obtain ⟨p, hp, rfl⟩ := hi
 obtain ⟨b, off, e, hc⟩ := h4 i p hp
 exact ⟨b, off, e, p.2, (hr p (List.mem_of_getElem? hp)).here, hc 0 _ rfl, hc 1 _ rfl, hc 2 _ rfl, hc 3 _ rfl, hc 4 _ rfl⟩
theorem KnF.kn {v : Value} {ks : List (List Int)} (h : KnF S w v ks) : KnV w v ks := by
 obtain ⟨qs, rfl, hs, hr⟩ := h
 obtain ⟨a, cap, h1, h2, h3, h4⟩ := hs.here
 refine ⟨a, cap, by simpa using h1, by simpa using h2, h3, fun i u hi => ?_⟩
 rw [List.getElem?_map, Option.map_eq_some_iff] at hi
 obtain ⟨q, hq, rfl⟩ := hi
 obtain ⟨b, off, e, hc⟩ := h4 i q hq
 exact ⟨b, off, e, q.2, by simpa using hc 0 _ rfl, (hr q (List.mem_of_getElem? hq)).here⟩
theorem LogF.off {v : Value} {l : List Upd} (h : LogF S w v l) (ho : Off S w w') : LogF S w' v l := by
 obtain ⟨ps, h1, h2, h3⟩ := h
 exact ⟨ps, h1, h2.off ho, fun p hp => (h3 p hp).off ho⟩
theorem KnF.off {v : Value} {l : List (List Int)} (h : KnF S w v l) (ho : Off S w w') : KnF S w' v l := by
 obtain ⟨ps, h1, h2, h3⟩ := h
 exact ⟨ps, h1, h2.off ho, fun p hp => (h3 p hp).off ho⟩
theorem LogF.own {B : Nat} {v : Value} {ps : List (Upd × Value)} (h : w.ownsRow B 33 5 v ps.length (cellsP ps)) (hB : ∀ k, S k → k < B) (hr : ∀ p ∈ ps, Fix S w fun w => Row w p.2 p.1.seen) : LogF S w v (ps.map (·.1)) :=
 ⟨ps, rfl, fun _ ho => slice_of_own (enc := encP) (fun _ => rfl) (ownsRow_off h hB ho), hr⟩
theorem KnF.own {B : Nat} {v : Value} {qs : List (List Int × Value)} (h : w.ownsRow B 23 1 v qs.length (cellsS encK qs)) (hB : ∀ k, S k → k < B) (hr : ∀ q ∈ qs, Fix S w fun w => Row w q.2 q.1) : KnF S w v (qs.map (·.1)) :=
 ⟨qs, rfl, fun _ ho => slice_of_own (enc := encK) (fun _ => rfl) (ownsRow_off h hB ho), hr⟩
theorem LogF.old {w0 : World} {v : Value} {l : List Upd} (h : LogV w0 v l) (hb : Below w0.heap.size w0 w) (hS : ∀ k, S k → w0.heap.size ≤ k) : LogF S w v l := by
 obtain ⟨a, cap, h1, h2, h3, h4⟩ := h
 obtain ⟨ps, rfl, hq⟩ := pick_all l (Q := fun i u sv => ∃ b off, a = some ⟨b, off, none⟩ ∧ Row w0 sv u.seen ∧ ∀ j c, (encP (u, sv))[j]? = some c → w0.cell? ⟨b, off + i * 5 + j, none⟩ = some c) fun i u hi => by
  obtain ⟨b, off, e, sv, hr, d0, d1, d2, d3, d4⟩ := h4 i u hi
  refine ⟨sv, b, off, e, hr, fun j c hj => ?_⟩
  match j, hj with
  | 0, hj => simp [encP, cellsU] at hj; subst hj; exact d0
  | 1, hj => simp [encP, cellsU] at hj; subst hj; exact d1
  | 2, hj => simp [encP, cellsU] at hj; subst hj; exact d2
  | 3, hj => simp [encP, cellsU] at hj; subst hj; exact d3
  | 4, hj => simp [encP, cellsU] at hj; subst hj; exact d4
  | j + 5, hj => simp [encP, cellsU] at hj
 have hs : SliceV 5 encP w0 v ps := ⟨a, cap, by simpa using h1, by simpa using h2, h3, fun i p hp => by obtain ⟨b, off, e, -, hc⟩ := hq i p hp; exact ⟨b, off, e, hc⟩⟩
 refine ⟨ps, rfl, fix_old hb hS fun w' h' => hs.below h' (nlr _), fun p hp => fix_old hb hS fun w' h' => ?_⟩
 obtain ⟨i, hi⟩ := List.getElem?_of_mem hp
 obtain ⟨b, off, -, hr, -⟩ := hq i p hi
 exact hr.below h' (nlr _)
theorem KnF.old {w0 : World} {v : Value} {l : List (List Int)} (h : KnV w0 v l) (hb : Below w0.heap.size w0 w) (hS : ∀ k, S k → w0.heap.size ≤ k) : KnF S w v l := by
 obtain ⟨a, cap, h1, h2, h3, h4⟩ := h
 obtain ⟨ps, rfl, hq⟩ := pick_all l (Q := fun i u sv => ∃ b off, a = some ⟨b, off, none⟩ ∧ Row w0 sv u ∧ w0.cell? ⟨b, off + i, none⟩ = some sv) fun i u hi => by
  obtain ⟨b, off, e, sv, hc, hr⟩ := h4 i u hi
  exact ⟨sv, b, off, e, hr, hc⟩
 have hs : SliceV 1 encK w0 v ps := ⟨a, cap, by simpa using h1, by simpa using h2, h3, fun i p hp => by
  obtain ⟨b, off, e, -, hc⟩ := hq i p hp
  refine ⟨b, off, e, fun j c hj => ?_⟩
  match j, hj with
  | 0, hj => simp [encK] at hj; subst hj; simpa using hc
  | j + 1, hj => simp [encK] at hj⟩
 refine ⟨ps, rfl, fix_old hb hS fun w' h' => hs.below h' (nlr _), fun p hp => fix_old hb hS fun w' h' => ?_⟩
 obtain ⟨i, hi⟩ := List.getElem?_of_mem hp
 obtain ⟨b, off, -, hr, -⟩ := hq i p hi
 exact hr.below h' (nlr _)
structure NdF (S : Nat → Prop) (w : World) (x1 x2 x3 x4 x5 x6 : Value) (d : NdS) : Prop where
 st : Fix S w fun w => IsSt w (.agg #[x1, x2, x3]) d.st
 base : Fix S w fun w => Row w x4 d.base
 log : LogF S w x5 d.log
 kn : KnF S w x6 d.known
structure PcF (S : Nat → Prop) (w : World) (x1 x2 x3 x4 x5 : Value) (p : Pcl) : Prop where
 st : Fix S w fun w => IsSt w (.agg #[x1, x2, x3]) p.st
 ups : LogF S w x4 p.ups
 clk : Fix S w fun w => Row w x5 p.clock
variable {x1 x2 x3 x4 x5 x6 : Value} {d : NdS} {p : Pcl}
theorem NdF.off (h : NdF S w x1 x2 x3 x4 x5 x6 d) (ho : Off S w w') : NdF S w' x1 x2 x3 x4 x5 x6 d := ⟨h.st.off ho, h.base.off ho, h.log.off ho, h.kn.off ho⟩
theorem PcF.off (h : PcF S w x1 x2 x3 x4 x5 p) (ho : Off S w w') : PcF S w' x1 x2 x3 x4 x5 p := ⟨h.st.off ho, h.ups.off ho, h.clk.off ho⟩
theorem NdF.node (h : NdF S w x1 x2 x3 x4 x5 x6 d) : IsNode w (.agg #[.int .i64 d.self, x1, x2, x3, x4, x5, x6]) d := ⟨_, _, _, _, _, _, rfl, h.st.here, h.base.here, h.log.log, h.kn.kn⟩
theorem PcF.pcl (h : PcF S w x1 x2 x3 x4 x5 p) : IsPcl w (.agg #[.bool p.whole, x1, x2, x3, x4, x5]) p := ⟨_, _, _, _, _, rfl, h.st.here, h.ups.log, h.clk.here⟩
theorem LogF.less {a b : Nat} {v : Value} {l : List Upd} (h : LogF (Mine S a b) w v l) : LogF S w v l := by
 obtain ⟨ps, h1, h2, h3⟩ := h
 exact ⟨ps, h1, h2.less, fun p hp => (h3 p hp).less⟩
theorem LogF.more {b : Nat} {v : Value} {l : List Upd} (h : LogF S w v l) (hb : Below w.heap.size w w') : LogF (Mine S w.heap.size b) w' v l := by
 obtain ⟨ps, h1, h2, h3⟩ := h
 exact ⟨ps, h1, h2.more hb, fun p hp => (h3 p hp).more hb⟩
theorem NdF.less {a b : Nat} (h : NdF (Mine S a b) w x1 x2 x3 x4 x5 x6 d) : NdF S w x1 x2 x3 x4 x5 x6 d := by
 obtain ⟨h1, h2, h3, qs, k1, k2, k3⟩ := h
 exact ⟨h1.less, h2.less, h3.less, qs, k1, k2.less, fun p hp => (k3 p hp).less⟩
theorem NdF.more {b : Nat} (h : NdF S w x1 x2 x3 x4 x5 x6 d) (hb : Below w.heap.size w w') : NdF (Mine S w.heap.size b) w' x1 x2 x3 x4 x5 x6 d := by
 obtain ⟨h1, h2, h3, qs, k1, k2, k3⟩ := h
 exact ⟨h1.more hb, h2.more hb, h3.more hb, qs, k1, k2.more hb, fun p hp => (k3 p hp).more hb⟩
theorem NdF.none : NdF S w (.slice none 0 0) (.slice none 0 0) (.slice none 0 0) (.slice none 0 0) (.slice none 0 0) (.slice none 0 0) noNode :=
 ⟨fun _ _ => ⟨_, _, _, rfl, Row.nil _, SliceV.nil _, SliceV.nil _⟩, fun _ _ => Row.nil _, ⟨[], rfl, fun _ _ => SliceV.nil _, fun _ h => by simp at h⟩, [], rfl, fun _ _ => SliceV.nil _, fun _ h => by simp at h⟩
theorem NdF.old {w0 : World} {v : Value} (h : IsNode w0 v d) (hb : Below w0.heap.size w0 w) (hS : ∀ k, S k → w0.heap.size ≤ k) : ∃ x1 x2 x3 x4 x5 x6, v = .agg #[.int .i64 d.self, x1, x2, x3, x4, x5, x6] ∧ NdF S w x1 x2 x3 x4 x5 x6 d := by
 obtain ⟨cv, lv, tv, bv, uv, kv, h1, h2, h3, h4, h5⟩ := h
 exact ⟨cv, lv, tv, bv, uv, kv, h1, fix_old hb hS fun w' h' => h2.below h' (nlr _), fix_old hb hS fun w' h' => h3.below h' (nlr _), LogF.old h4 hb hS, KnF.old h5 hb hS⟩
theorem PcF.old {w0 : World} {v : Value} (h : IsPcl w0 v p) (hb : Below w0.heap.size w0 w) (hS : ∀ k, S k → w0.heap.size ≤ k) : ∃ x1 x2 x3 x4 x5, v = .agg #[.bool p.whole, x1, x2, x3, x4, x5] ∧ PcF S w x1 x2 x3 x4 x5 p := by
 obtain ⟨cv, lv, tv, uv, kv, h1, h2, h3, h4⟩ := h
 exact ⟨cv, lv, tv, uv, kv, h1, fix_old hb hS fun w' h' => h2.below h' (nlr _), LogF.old h3 hb hS, fix_old hb hS fun w' h' => h4.below h' (nlr _)⟩
end

theorem lay1 (w : World) (cs : List Value) (t : TypeId) : ∃ W, Hid (w.alloc (.cells cs.toArray t) = W) ∧ Hid (Box W w.heap.size cs t) ∧ Hid (Below w.heap.size w W) ∧ Hid (W.heap.size = w.heap.size + 1) :=
 ⟨_, rfl, Box.new w cs t, bpl w _, World.size_alloc _ _⟩
theorem lay2 (w : World) (cs : List Value) (t : TypeId) (cs' : List Value) (t' : TypeId) : ∃ W, Hid ((w.alloc (.cells cs.toArray t)).alloc (.cells cs'.toArray t') = W) ∧ Hid (Box W w.heap.size cs t) ∧ Hid (Box W (w.heap.size + 1) cs' t') ∧ Hid (Below w.heap.size w W) ∧ Hid (W.heap.size = w.heap.size + 1 + 1) := by
 have h := Box.new (w.alloc (.cells cs.toArray t)) cs' t'
 rw [World.size_alloc] at h
 exact ⟨_, rfl, (Box.new w cs t).plus _, h, Below.plus (bpl w _) _, by unfold Hid; rw [World.size_alloc, World.size_alloc]⟩
theorem lay3 (w : World) (cs : List Value) (t : TypeId) (cs' : List Value) (t' : TypeId) (cs2 : List Value) (t2 : TypeId) : ∃ W, Hid (((w.alloc (.cells cs.toArray t)).alloc (.cells cs'.toArray t')).alloc (.cells cs2.toArray t2) = W) ∧ Hid (Box W w.heap.size cs t) ∧ Hid (Box W (w.heap.size + 1) cs' t') ∧ Hid (Box W (w.heap.size + 1 + 1) cs2 t2) ∧ Hid (Below w.heap.size w W) ∧ Hid (W.heap.size = w.heap.size + 1 + 1 + 1) := by
 obtain ⟨W, rfl, h1, h2, h3, h4⟩ := lay2 w cs t cs' t'
 obtain ⟨_, rfl, k2, k3, k4⟩ := lay1 ((w.alloc (.cells cs.toArray t)).alloc (.cells cs'.toArray t')) cs2 t2
 unfold Hid at *
 rw [h4] at k2 k4
 exact ⟨_, rfl, h1.plus _, h2.plus _, k2, below_step h3 k3, k4⟩

set_option maxRecDepth 100000 in
set_option maxHeartbeats 4000000 in
theorem hasU_ref (v uv : Value) (xs : List Int) (u : Upd) (w : World) (h : Row w v xs) (hu : IsUpd w uv u) (hf : FitU u) (hx : u.author < xs.length) :
  Calls Tryz.prog 54 #[v, uv] w fun e w' => e = .returned (.bool (seenU u xs)) ∧ Below w.heap.size w w' := by
 obtain ⟨ua, us, uk, uy, ui⟩ := u
 obtain ⟨sv, rfl, hs⟩ := hu
 obtain ⟨h0, h1, -, -⟩ := hf
 simp only at h0 h1 hx hs ⊢
 obtain ⟨k, rfl⟩ : ∃ k : Nat, ua = k := ⟨ua.toNat, by omega⟩
 obtain ⟨a0, c0, rfl, -⟩ := id h
 obtain ⟨a5, c5, rfl, -⟩ := id hs
 obtain ⟨sb, so, rfl, hy⟩ := rowAtC hs (show k < us.length by omega)
 obtain ⟨y, HY⟩ : ∃ y, Hid (us.getD k 0 = y) := ⟨_, rfl⟩
 obtain ⟨x, HX⟩ : ∃ x, Hid (xs.getD k 0 = x) := ⟨_, rfl⟩
 have HS : Hid (seenU ⟨k, us, uk, uy, ui⟩ xs = decide (y < x)) := by
  unfold Hid seenU hasC entU
  simp only [Int.toNat_natCast, HY.out, HX.out]
  exact decide_eq_decide.2 ⟨fun g => by omega, fun g => ⟨by omega, hx, by omega⟩⟩
 rw [HS.out]
 rw [HY.out] at hy
 obtain ⟨W, HW, G0, HB0, -⟩ := lay1 w [.int .i64 (k : Int), .slice (some ⟨sb, so, none⟩) us.length c5, .int .i64 uk, .int .i64 uy, .int .i64 ui] 33
 have R0 := hide (h.below HB0.out (nlr _))
 have hyW := cell_grewC HB0.out hy
 have HK := hide fun w' (hg : Grew W w') => And.intro (G0.below hg (nlr _)).c2 (cell_grewC hg hyW)
 have hk1 : (k : Int) < (us.length : Int) := h1
 clear h hs hy h0 h1 hx hyW HS
 go_enter Tryz.func54, Tryz.ntmps54
 go_upto_region 1 with fail
 rw [HW.out]
 by_cases hlt : y < x
 ·skip
  refine bD (fun _ => false) (fun _ => True) (grew_refl _) HK.out fun wd hcd hHeld => ?_
  refine yD 0 (.slice a0 xs.length c0) ?_
  refine yD 1 (.pointer (some ⟨w.heap.size, 0, none⟩)) ?_
  refine yD 2 (.int .i64 (k : Int)) ?_
  refine yD 4 (.pointer (some ⟨w.heap.size, 1, none⟩)) ?_
  refine yD 5 (.slice (some ⟨sb, so, none⟩) us.length c5) ?_
  refine yD 6 (.pointer (some ⟨w.heap.size, 0, none⟩)) ?_
  refine yD 7 (.int .i64 (k : Int)) ?_
  refine yD 8 (.pointer (some ⟨sb, so + k, none⟩)) ?_
  refine yD 9 (.int .i64 y) ?_
  refine oD 3 fun K hK => ?_
  go_simp
  refine (at_ref _ xs k _ (R0.below hcd (nlr _))).mono ?_
  rintro e w' ⟨rfl, rfl⟩
  rw [HX.out]
  go_simp
  have hH_3 := HK.out _ hcd
  refine kS hK hH_3 ?_
  clear hK K
  refine yD 10 (.bool true) ?_
  refine oD 11 fun K hK => ?_
  go_simp
  have hH_a := HK.out _ hcd
  refine kS hK hH_a ?_
  clear hK K
  refine eD ?_
  go_wp2_with fail
  go_ret
  exact ⟨by rw [decide_eq_true (by omega)]; rfl, HB0.trans (hcd.mono HB0.size)⟩
 skip
 refine bD (fun _ => false) (fun _ => True) (grew_refl _) HK.out fun wd hcd hHeld => ?_
 refine yD 0 (.slice a0 xs.length c0) ?_
 refine yD 1 (.pointer (some ⟨w.heap.size, 0, none⟩)) ?_
 refine yD 2 (.int .i64 (k : Int)) ?_
 refine yD 4 (.pointer (some ⟨w.heap.size, 1, none⟩)) ?_
 refine yD 5 (.slice (some ⟨sb, so, none⟩) us.length c5) ?_
 refine yD 6 (.pointer (some ⟨w.heap.size, 0, none⟩)) ?_
 refine yD 7 (.int .i64 (k : Int)) ?_
 refine yD 8 (.pointer (some ⟨sb, so + k, none⟩)) ?_
 refine yD 9 (.int .i64 y) ?_
 refine oD 3 fun K hK => ?_
 go_simp
 refine (at_ref _ xs k _ (R0.below hcd (nlr _))).mono ?_
 rintro e w' ⟨rfl, rfl⟩
 rw [HX.out]
 go_simp
 have hH_3 := HK.out _ hcd
 refine kS hK hH_3 ?_
 clear hK K
 refine yD 10 (.bool false) ?_
 refine oD 11 fun K hK => ?_
 go_simp
 have hH_a := HK.out _ hcd
 refine kS hK hH_a ?_
 clear hK K
 refine eD ?_
 go_wp2_with fail
 go_ret
 exact ⟨by rw [decide_eq_false (by omega)]; rfl, HB0.trans (hcd.mono HB0.size)⟩

def lackP (ps : List (Upd × Value)) (xs : List Int) : List (Upd × Value) := ps.filter fun p => !seenU p.1 xs
theorem lackP_map (ps : List (Upd × Value)) (xs : List Int) : (lackP ps xs).map (·.1) = lacksL (ps.map (·.1)) xs := by
 unfold lackP lacksL
 rw [List.filter_map]
 rfl

set_option maxRecDepth 100000 in
set_option maxHeartbeats 4000000 in
theorem lacks_ref (lv cv : Value) (ps : List (Upd × Value)) (xs : List Int) (w : World) (hl : SliceV 5 encP w lv ps) (hr : ∀ p ∈ ps, Row w p.2 p.1.seen) (hc : Row w cv xs) (hf : ∀ p ∈ ps, FitU p.1 ∧ p.1.author < xs.length) (hn : ps.length ≤ 1000000) :
  Calls Tryz.prog 46 #[lv, cv] w fun e w' => ∃ rv, e = .returned rv ∧ w'.ownsRow w.heap.size 33 5 rv (lackP ps xs).length (cellsP (lackP ps xs)) ∧ Below w.heap.size w w' := by
 obtain ⟨i0, hi, hz0, hz1, hz2⟩ := info_parts Tryz.infoUpd
 obtain ⟨a', cap', rfl, -, -, -⟩ := id hl
 obtain ⟨a0, c0, rfl, -⟩ := id hc
 have HL := hide hl
 have HC := hide hc
 have HR := hide hr
 have HF := hide hf
 clear hl hc hr hf
 go_enter Tryz.func46, Tryz.ntmps46
 go_wp2_with fail
 go_loopw [5, 10] (fun o i wr => ∃ k : Nat, k ≤ ps.length ∧ i = .int .i64 k ∧ Hid (wr.ownsRow w.heap.size 33 5 o (lackP (ps.take k) xs).length (cellsP (lackP (ps.take k) xs))) ∧ Hid (Below w.heap.size w wr)) (fun _ i _ => ps.length - (intOf i).toNat)
 case atStart => exact ⟨0, Nat.zero_le _, rfl, World.ownsRow_nil _ _ _ _, Below.refl _ _⟩
 obtain ⟨k, hk, rfl, O0, HB0⟩ := hrel
 obtain ⟨w0, rfl⟩ : ∃ w0, w0 = wr := ⟨wr, rfl⟩
 obtain ⟨Q, HQ⟩ : ∃ Q, Hid (lackP (ps.take k) xs = Q) := ⟨_, rfl⟩
 rw [HQ.out] at O0
 by_cases hlt : k < ps.length
 ·obtain ⟨⟨⟨ua, us, uk, uy, ui⟩, sv⟩, hu⟩ : ∃ p, ps[k]? = some p := ⟨_, List.getElem?_eq_getElem hlt⟩
  have hm := List.mem_of_getElem? hu
  obtain ⟨hfu, hax⟩ := HF.out _ hm
  have hs := (HR.out _ hm).below HB0.out (nlr _)
  obtain ⟨b, off, rfl, hc⟩ := (HL.below HB0.out (nlr _)).at hu
  obtain ⟨a5, c5, hsv, -⟩ := id hs
  simp only at hsv hs hax
  subst hsv
  have d0 : w0.cell? ⟨b, off + k * 5, none⟩ = some (.int .i64 ua) := hc 0 _ rfl
  have d1 := hc 1 _ rfl
  have d2 := hc 2 _ rfl
  have d3 := hc 3 _ rfl
  have d4 := hc 4 _ rfl
  obtain ⟨sn, HSN⟩ : ∃ sn, Hid (seenU ⟨ua, us, uk, uy, ui⟩ xs = sn) := ⟨_, rfl⟩
  have HT : Hid (lackP (ps.take (k + 1)) xs = if sn = true then Q else Q ++ [(⟨ua, us, uk, uy, ui⟩, .slice a5 us.length c5)]) := by
   unfold Hid lackP
   rw [List.take_add_one, hu, List.filter_append, ← HQ.out, ← HSN.out]
   unfold lackP
   by_cases h : seenU ⟨ua, us, uk, uy, ui⟩ xs = true <;> simp [h]
  have hql : Hid (Q.length ≤ 1000000) := by
   unfold Hid
   rw [← HQ.out]
   have := List.length_filter_le (fun p : Upd × Value => !seenU p.1 xs) (ps.take k)
   have h3 := List.length_take (i := k) (l := ps)
   unfold lackP
   omega
  have hlt' : (k : Int) < (ps.length : Int) := by omega
  have q0 : ¬ ua < 0 := by have := hfu.1; simp only at this; omega
  have q1 : ¬ (us.length : Int) ≤ ua := by have := hfu.2.1; simp only at this; omega
  have q2 : ¬ (xs.length : Int) ≤ ua := by omega
  obtain ⟨w1, HW1, V1, HB1, hs1⟩ := lay1 w0 [.int .i64 ua, .slice a5 us.length c5, .int .i64 uk, .int .i64 uy, .int .i64 ui] 33
  have O1 := hide (ownsRow_below O0.out HB1.out (nlr _))
  have B1 := hide (below_step HB0.out HB1.out)
  have S1 := hide (hs.below HB1.out (nlr _))
  have HFU := hide hfu
  obtain ⟨cV0, cV1, cV2, cV3, cV4⟩ := V1.c5
  clear hs hc hu hm hfu O0
  go_upto_region 5 with fail
  rw [HW1.out]
  clear d0 d1 d2 d3 d4
  go_wp2_with fail
  refine (hasU_ref _ _ xs ⟨ua, us, uk, uy, ui⟩ _ (HC.below B1.out (nlr _)) ⟨_, rfl, S1.out⟩ HFU.out hax).mono ?_
  rintro e w2 ⟨rfl, hb2⟩
  rw [HSN.out]
  have V2 := hide (V1.below hb2 (nlr _))
  have O2 := hide (ownsRow_below O1.out hb2 (nlr _))
  have B2 := hide (below_step B1.out hb2)
  have hsz := B2.size
  clear cV0 cV1 cV2 cV3 cV4 V1 O1 B1 hb2
  cases sn
  ·rw [if_neg (by decide)] at HT
   obtain ⟨cV0, cV1, cV2, cV3, cV4⟩ := V2.c5
   have hone : ∀ q ∈ cellsU ⟨ua, us, uk, uy, ui⟩ (.slice a5 us.length c5), q.oneCell' = true := cellsU_one rfl
   go_wp2_with (at_builtin; refine wpList_append_own _ rfl (.tmp 38) (.tmp 40) 28 rfl w.heap.size 33 i0 (.agg #[.int .i64 0, .slice none 0 0, .int .i64 0, .int .i64 0, .int .i64 0]) 5 56 Tryz.underlying28 hi hz0 hz1 hz2 rfl (by decide) _ _ _ rfl (ownsRow_below O2.out (bpl w2 _) (nlr _)) ⟨w2.heap.size, 0, none⟩ 1 1 (cellsU ⟨ua, us, uk, uy, ui⟩ (.slice a5 us.length c5)) rfl rfl ?c1 hone ?c3 ?c4 ?c5 ?_)
   case c1 => exact (Box.new w2 (cellsU ⟨ua, us, uk, uy, ui⟩ (.slice a5 us.length c5)) 33).cellsAt
   case c3 => unfold maxLen; have := hql.out; omega
   case c4 => have := hql.out; omega
   case c5 => simp; omega
   intro v' w4 hown' hgrow _
   have HB4 := hide ((Below.plus B2.out _).grown hgrow (by simp; omega) (fun g hg => (O2.lt g hg).1))
   have O4 := hide hown'
   clear hown' hgrow
   go_wp2_with fail
   go_roundw
   case rel => exact ⟨k + 1, by omega, by go_num, by rw [HT.out, List.length_append, cellsP_snoc]; exact O4, HB4⟩
   case measure => simp [intOf]; omega
  rw [if_pos rfl] at HT
  go_wp2_with fail
  go_roundw
  case rel => exact ⟨k + 1, by omega, by go_num, by rw [HT.out]; exact O2, B2⟩
  case measure => simp [intOf]; omega
 have hkl : ps.take k = ps := List.take_of_length_le (by omega)
 have hlt' : ¬ (k : Int) < (ps.length : Int) := by omega
 rw [hkl] at HQ
 go_wp2_with fail
 go_ret
 exact ⟨_, rfl, by rw [HQ.out]; exact O0.out, HB0.out⟩
theorem lacks_fix {S : Nat → Prop} {w0 : World} {lv cv : Value} {l : List Upd} {xs : List Int} (w : World) (hl : LogF S w lv l) (hc : Row w cv xs) (hf : ∀ u ∈ l, FitU u ∧ u.author < xs.length) (hn : l.length ≤ 1000000) (hS : ∀ k, S k → k < w.heap.size) (_ : w0 = w) :
  Calls Tryz.prog 46 #[lv, cv] w fun e w' => ∃ rv, e = .returned rv ∧ LogF S w' rv (lacksL l xs) ∧ Below w.heap.size w w' := by
 obtain ⟨ps, rfl, h1, h2⟩ := hl
 refine (lacks_ref _ _ ps xs _ h1.here (fun p hp => (h2 p hp).here) hc (fun p hp => hf _ (List.mem_map_of_mem hp)) (by simpa using hn)).mono ?_
 rintro e w' ⟨rv, rfl, ho, hb⟩
 rw [← lackP_map]
 exact ⟨_, rfl, LogF.own ho hS fun p hp => (h2 p ((List.mem_filter.1 hp).1)).off (offB hb (nlr _)), hb⟩
theorem SliceV.srcM {α : Type} {sz : Nat} {enc : α → List Value} (he : ∀ x, (enc x).length = sz) {P : Program} {w : World} {v : Value} {l : List α} (h1 : ∀ x ∈ l, ∀ q ∈ enc x, q.oneCell' = true) {tx e' : TypeId} (h : SliceV sz enc w v l) (hk : P.underlying tx = some (.slice e')) : Src P sz tx v l.length (cellsS enc l) w := by
 have h0 := h
 obtain ⟨a, cap, rfl, -, -, hc⟩ := h
 cases l with
 | nil =>
  cases a with
  | none => exact Src.ofNil w hk cap
  | some ad => exact Src.ofSlice w hk ad 0 cap [] (by simp) (fun j u hj => by simp at hj) (fun u hu => by simp at hu)
 | cons x r =>
  obtain ⟨b, off, rfl, -⟩ := hc 0 x rfl
  refine Src.ofSlice w hk ⟨b, off, none⟩ _ cap _ (cellsS_length he _) (h0.cells he) fun q hq => ?_
  obtain ⟨y, hy, hq⟩ := List.mem_flatMap.1 hq
  exact h1 y hy q hq

set_option maxRecDepth 100000 in
set_option maxHeartbeats 4000000 in
theorem set_ref (lv : Value) (ac : Option Addr) (nc cc i : Nat) (qs : List (List Int × Value)) (x : List Int) (w : World) (hl : SliceV 1 encK w lv qs) (hi : i < qs.length) (h1 : ∀ q ∈ qs, q.2.oneCell' = true) (hn : qs.length ≤ 1000) :
  Calls Tryz.prog 40 #[lv, .int .i64 i, .slice ac nc cc] w fun e w' => ∃ rv, e = .returned rv ∧ w'.ownsRow w.heap.size 23 1 rv (qs.set i (x, .slice ac nc cc)).length (cellsS encK (qs.set i (x, .slice ac nc cc))) ∧ Below w.heap.size w w' := by
 obtain ⟨i0, hi0, hz0, hz1, hz2⟩ := info_parts Tryz.infoClock
 obtain ⟨W, HW, G0, HB0, hs0⟩ := lay1 w [] 23
 have HSRC := hide ((hl.below HB0.out (nlr _)).srcM (enc := encK) (P := Tryz.prog) (fun _ => rfl) (fun q hq v hv => by simp only [encK, List.mem_singleton] at hv; rw [hv]; exact h1 q hq) Tryz.underlying29)
 obtain ⟨CS, HCS⟩ : ∃ CS, Hid (cellsS encK qs = CS) := ⟨_, rfl⟩
 rw [HCS.out] at HSRC
 have hol : W.ownsRow w.heap.size 23 1 (.slice (some ⟨w.heap.size, 0, none⟩) 0 0) 0 [] := by rw [← HW.out]; exact World.ownsRow_lit w #[] 0 (nlr _) (Nat.zero_le _) rfl
 clear hl
 go_enter Tryz.func40, Tryz.ntmps40
 go_wp2_with (rw [HW.out]; at_builtin; refine wpList_append_own_src _ rfl (.tmp 8) (.tmp 9) 29 29 rfl w.heap.size 23 i0 (.slice none 0 0) 1 24 Tryz.underlying29 hi0 hz0 hz1 hz2 rfl _ 0 [] rfl hol _ rfl qs.length CS HSRC.out ?c1 ?c2 (by rw [hs0.out]; omega) ?_)
 case c1 => unfold maxLen; omega
 case c2 => omega
 intro v' w1 hown hgrow
 have HB1 := hide (HB0.grown hgrow (by rw [hs0.out]; omega) (fun g e => by simp [Value.ownBlock] at e; omega))
 rw [← HCS.out] at hown
 rcases own_ways hown with ⟨-, e⟩ | ⟨g, cap, rfl, hg, hh, hc1, hc2⟩
 ·rw [e] at hi; simp at hi
 have hr := hh.room (j := i) (by omega)
 obtain ⟨old, hold⟩ := Option.isSome_iff_exists.1 hr.1
 have hfr := hr.2
 have hset := HoldsS.set (enc := encK) (sz := 1) (fun _ => rfl) hh (x, .slice ac nc cc) hi hc1
 have hlt : (i : Int) < (qs.length : Int) := by omega
 rw [Nat.mul_one] at hset
 have HO := hide (HoldsS.own (enc := encK) (sz := 1) (B := w.heap.size) (fun _ => rfl) hset hg (by simpa using hc1) hc2)
 clear hset hh hr hown hgrow
 go_wp2_with fail
 go_ret
 exact ⟨_, rfl, by rw [List.length_set] at HO ⊢; exact HO.out, HB1.setCell hg _⟩
theorem set_fix {S : Nat → Prop} {lv cv : Value} {i : Int} {ks : List (List Int)} {x : List Int} (w : World) (hl : KnF S w lv ks) (hx : Fix S w fun w => Row w cv x) (h0 : 0 ≤ i) (hi : i < ks.length) (hn : ks.length ≤ 1000) (hS : ∀ k, S k → k < w.heap.size) :
  Calls Tryz.prog 40 #[lv, .int .i64 i, cv] w fun e w' => ∃ rv, e = .returned rv ∧ KnF S w' rv (ks.set i.toNat x) ∧ Below w.heap.size w w' := by
 obtain ⟨qs, rfl, h1, h2⟩ := hl
 obtain ⟨k, rfl⟩ : ∃ k : Nat, i = k := ⟨i.toNat, by omega⟩
 rw [List.length_map] at hi hn
 obtain ⟨ac, cc, rfl, -⟩ := id hx.here
 refine (set_ref _ _ _ _ k qs x _ h1.here (by omega) (fun q hq => (h2 q hq).here.one) hn).mono ?_
 rintro e w' ⟨rv, rfl, ho, hb⟩
 refine ⟨_, rfl, ?_, hb⟩
 have h := KnF.own (S := S) ho hS fun q hq => by
  rcases List.mem_or_eq_of_mem_set hq with hq | rfl
  ·exact (h2 q hq).off (offB hb (nlr _))
  exact hx.off (offB hb (nlr _))
 rw [List.map_set] at h
 exact h
end Go.Proofs.YtfhecilhcofboaaGreat
/- The document's own WrongNode, and its SameParcel of two that read as the same one. -/
namespace Go.Proofs.YtfhecilhcofboaaGreat
open Go.RowKit

theorem sees_same {xs ys : List Int} (hl : ys.length = xs.length) (h : seesC xs ys = true) : ys = xs ↔ seesC ys xs = true := by
 rw [seesC_iff] at h ⊢
 refine ⟨fun e i => by rw [e]; omega, fun k => List.ext_getElem hl fun i h1 h2 => ?_⟩
 have p := h i
 have q := k i
 rw [getD_at h1, getD_at h2] at p q
 omega

set_option maxRecDepth 100000 in
set_option maxHeartbeats 4000000 in
theorem wrongNode_ref (v : Value) (d : NdS) (w : World) (h : IsNode w v d) :
  Calls Tryz.prog 9 #[v] w fun e w' => e = .returned (.int .i64 (nodeE d)) ∧ Below w.heap.size w w' := by
 obtain ⟨a1, c1, a2, c2, a3, c3, a4, c4, a5, c5, a6, c6, rfl, hs, hc, hb, hl, hk⟩ := h.form
 obtain ⟨sf, hsf⟩ : ∃ sf, d.self = sf := ⟨_, rfl⟩
 rw [hsf]
 obtain ⟨w0, HW, G0, HB0, -⟩ := lay1 w [.int .i64 sf, .slice a1 d.st.clock.length c1, .slice a2 d.st.lives.length c2, .slice a3 d.st.tals.length c3, .slice a4 d.base.length c4, .slice a5 d.log.length c5, .slice a6 d.known.length c6] 31
 obtain ⟨N, HN⟩ : ∃ N, Hid (nodeE d = N) := ⟨_, rfl⟩
 rw [HN.out]
 unfold nodeE at HN
 rw [hsf] at HN
 have HSF := hide hsf
 clear hsf
 have KL := hk.len_le
 have HS := hide hs
 have HC := hide hc
 have HB := hide hb
 have HL := hide hl
 have HK := hide hk
 clear h hs hc hb hl hk
 obtain ⟨g0, g1, g2, g3, g4, g5, g6⟩ := G0.c7
 go_enter Tryz.func9, Tryz.ntmps9
 go_upto_region 1 with fail
 rw [HW.out]
 go_wp2_with fail
 refine (wrong_ref4 _ d.st _ _ (HS.below HB0.out (nlr _))).mono ?_
 rintro e w1 ⟨rfl, hb1⟩
 obtain ⟨E1, HE1⟩ : ∃ E1, Hid (stE d.st d.st.clock.length = E1) := ⟨_, rfl⟩
 obtain ⟨A1, HA1⟩ : ∃ A1, Hid (stA d.st d.st.clock.length = A1) := ⟨_, rfl⟩
 rw [HE1.out, HA1.out]
 rw [HE1.out] at HN
 obtain ⟨w2, HW2, F2, hb2, -⟩ := lay1 w1 [.int .i64 E1, .int .i64 A1] 65
 have G2 := hide ((G0.below hb1 (nlr _)).below hb2.out (nlr _))
 have HB2 := hide (below_step (below_step HB0.out hb1) hb2.out)
 have f0 := F2.get 0 rfl
 clear g0 g1 g2 g3 g4 g5 g6 G0 HB0 hb1 hb2
 obtain ⟨g0, g1, g2, g3, g4, g5, g6⟩ := G2.c7
 go_upto_region 3 with fail
 rw [HW2.out]
 by_cases hE : E1 = 0
 rotate_left
 ·rw [if_neg hE] at HN
  have hE' : (E1 != 0) = true := by simp [hE]
  clear hE
  go_wp2_with fail
  go_ret
  exact ⟨by rw [← HN.out]; rfl, HB2.out⟩
 rw [if_pos hE] at HN
 have hE' : (E1 != 0) = false := by simp [hE]
 clear hE
 by_cases q0 : sf < 0
 ·rw [if_neg (by omega)] at HN
  go_wp2_with fail
  go_ret
  exact ⟨by rw [← HN.out]; rfl, HB2.out⟩
 by_cases q1 : (d.st.clock.length : Int) ≤ sf
 ·rw [if_neg (by omega)] at HN
  go_wp2_with fail
  go_ret
  exact ⟨by rw [← HN.out]; rfl, HB2.out⟩
 rw [if_pos (by omega)] at HN
 go_wp2_with fail
 refine (clock_ref _ _ d.base d.log _ _ (HB.below HB2.out (nlr _)) (HL.below HB2.out (nlr _))).mono ?_
 rintro e w3 ⟨rv, rfl, ho3, hb3⟩
 obtain ⟨E2, HE2⟩ : ∃ E2, Hid (clockE d.base d.log d.st.clock.length = E2) := ⟨_, rfl⟩
 obtain ⟨A2, HA2⟩ : ∃ A2, Hid (clockA d.base d.log d.st.clock.length = A2) := ⟨_, rfl⟩
 obtain ⟨X, HX⟩ : ∃ X, Hid (clockX d.base d.log d.st.clock.length = X) := ⟨_, rfl⟩
 rw [HE2.out, HA2.out]
 rw [HE2.out, HX.out] at HN
 rw [HX.out] at ho3
 obtain ⟨aX, cX, rfl, -⟩ := id ho3.row
 obtain ⟨w4, HW4, F4, hb4, -⟩ := lay1 w3 [.int .i64 E2, .int .i64 A2] 65
 have G4 := hide ((G2.below hb3 (nlr _)).below hb4.out (nlr _))
 have HB4 := hide (below_step (below_step HB2.out hb3) hb4.out)
 have X4 := hide (ho3.row.below hb4.out (nlr _))
 clear f0 g0 g1 g2 g3 g4 g5 g6 G2 HB2 F2 hb3 hb4 ho3
 obtain ⟨g0, g1, g2, g3, g4, g5, g6⟩ := G4.c7
 have f0 := F4.get 0 rfl
 go_upto_region 8 with fail
 rw [HW4.out]
 by_cases hE2 : E2 = 0
 rotate_left
 ·rw [if_neg hE2] at HN
  have hE2' : (E2 != 0) = true := by simp [hE2]
  clear hE2
  go_wp2_with fail
  go_ret
  exact ⟨by rw [← HN.out]; rfl, HB4.out⟩
 rw [if_pos hE2] at HN
 have hE2' : (E2 != 0) = false := by simp [hE2]
 clear hE2
 go_wp2_with fail
 refine (same_ref _ _ X d.st.clock _ X4.out (HC.below HB4.out (nlr _))).mono ?_
 rintro e w5 ⟨rfl, hb5⟩
 have G5 := hide (G4.below hb5 (nlr _))
 have HB5 := hide (below_step HB4.out hb5)
 clear f0 g0 g1 g2 g3 g4 g5 g6 G4 HB4 F4 hb5 X4
 obtain ⟨g0, g1, g2, g3, g4, g5, g6⟩ := G5.c7
 by_cases hX : X = d.st.clock
 rotate_left
 ·rw [if_neg fun h => hX h.1] at HN
  rw [decide_eq_false hX]
  clear hX
  go_wp2_with fail
  go_ret
  exact ⟨by rw [← HN.out]; rfl, HB5.out⟩
 rw [decide_eq_true hX]
 by_cases hK : d.known.length = d.st.clock.length
 rotate_left
 ·rw [if_neg fun h => hK h.2] at HN
  have hK' : ((d.known.length : Int) != (d.st.clock.length : Int)) = true := by simp; omega
  clear hK hX
  go_wp2_with fail
  go_ret
  exact ⟨by rw [← HN.out]; rfl, HB5.out⟩
 rw [if_pos ⟨hX, hK⟩] at HN
 have hK' : ((d.known.length : Int) != (d.st.clock.length : Int)) = false := by simp; omega
 clear hK hX
 go_wp2_with fail
 clear g0 g1 g2 g3 g4 g5 g6
 go_loopw [62] (fun i wr => ∃ k : Nat, k ≤ d.known.length ∧ i = .int .i64 k ∧ Hid (firstE (knownE d) k (d.known.length - k) = N) ∧ Hid (Below w5.heap.size w5 wr)) (fun i _ => d.known.length - (intOf i).toNat)
 case atStart => exact ⟨0, Nat.zero_le _, rfl, HN, hide (Below.refl _ _)⟩
 obtain ⟨k, hk, rfl, HF, HB20⟩ := hrel
 obtain ⟨w6, rfl⟩ : ∃ w6, w6 = wr := ⟨wr, rfl⟩
 have HB6 := hide (below_step HB5.out HB20.out)
 have G6 := hide (G5.below HB20.out (nlr _))
 obtain ⟨g0, g1⟩ := G6.c2
 by_cases hlt : k < d.known.length
 rotate_left
 ·have hlt' : ¬ (k : Int) < (d.known.length : Int) := by omega
  rw [show d.known.length - k = 0 by omega] at HF
  go_wp2_with fail
  go_ret
  exact ⟨by rw [← HF.out]; rfl, HB6.out⟩
 obtain ⟨m, hm⟩ : ∃ m, d.known.length - k = m + 1 := ⟨d.known.length - k - 1, by omega⟩
 rw [hm] at HF
 have HM := hide (And.intro hm hlt)
 clear hm
 obtain ⟨x, hx⟩ : ∃ x, d.known[k]? = some x := ⟨_, List.getElem?_eq_getElem hlt⟩
 obtain ⟨b, off, a7, c7, hadr, hcell, hrow⟩ := HK.at hx
 subst hadr
 have hc1 := cell_grewC HB6.out hcell
 have X6 := hide (hrow.below HB6.out (nlr _))
 have hlt' : (k : Int) < (d.known.length : Int) := by omega
 have hkx : d.known.getD k [] = x := by rw [List.getD_eq_getElem?_getD, hx]; rfl
 obtain ⟨K, HKE⟩ : ∃ K, Hid (knownE d k = K) := ⟨_, rfl⟩
 unfold firstE at HF
 rw [HKE.out] at HF
 unfold knownE at HKE
 rw [hkx, HSF.out] at HKE
 clear hcell hrow hx hkx
 go_wp2_with fail
 refine (wrong_ref _ x _ _ X6.out).mono ?_
 rintro e w' ⟨rfl, rfl⟩
 obtain ⟨E3, HE3⟩ : ∃ E3, Hid (wrongC x d.st.clock.length = E3) := ⟨_, rfl⟩
 rw [HE3.out]
 rw [HE3.out] at HKE
 by_cases hE3 : E3 = 0
 rotate_left
 ·rw [if_neg hE3] at HKE
  have hE3' : (E3 != 0) = true := by simp [hE3]
  rw [if_neg (by rw [← HKE.out]; exact hE3)] at HF
  clear hE3
  go_wp2_with fail
  go_ret
  exact ⟨by rw [← HF.out, ← HKE.out]; rfl, HB6.out⟩
 have hxl : Hid (x.length = d.st.clock.length) := by unfold Hid; have := (wrongC_ok (HE3.trans hE3)); omega
 rw [if_pos hE3] at HKE
 have hE3' : (E3 != 0) = false := by simp [hE3]
 clear hE3
 go_wp2_with fail
 refine (sees_ref _ _ d.st.clock x _ (HC.below HB6.out (nlr _)) X6.out).mono ?_
 rintro e w' ⟨rfl, rfl⟩
 obtain ⟨s1, HS1⟩ : ∃ s, Hid (seesC d.st.clock x = s) := ⟨_, rfl⟩
 rw [HS1.out]
 rw [HS1.out] at HKE
 cases s1
 ·rw [if_neg (by decide)] at HKE
  rw [if_neg (by rw [← HKE.out]; decide)] at HF
  go_wp2_with fail
  go_ret
  exact ⟨by rw [← HF.out, ← HKE.out]; rfl, HB6.out⟩
 rw [if_pos rfl] at HKE
 by_cases hks : (k : Int) = sf
 rotate_left
 ·rw [if_neg fun h => hks h.1] at HKE
  rw [if_pos HKE.symm] at HF
  have hks' : ((k : Int) == sf) = false := by simp [hks]
  clear hks
  go_wp2_with fail
  go_roundw
  case rel => exact ⟨k + 1, by have := HM.out; omega, by go_num, by rw [show d.known.length - (k + 1) = m by have := HM.out; omega]; exact HF, HB20⟩
  case measure => have := HM.out; simp [intOf]; omega
 subst hks
 go_wp2_with fail
 refine (sees_ref _ _ x d.st.clock _ X6.out (HC.below HB6.out (nlr _))).mono ?_
 rintro e w' ⟨rfl, rfl⟩
 obtain ⟨s2, HS2⟩ : ∃ s, Hid (seesC x d.st.clock = s) := ⟨_, rfl⟩
 rw [HS2.out]
 cases s2
 ·rw [if_pos ⟨by trivial, fun h => absurd ((sees_same hxl.out HS1.out).1 h) (by rw [HS2.out]; decide)⟩] at HKE
  rw [if_neg (by rw [← HKE.out]; decide)] at HF
  go_wp2_with fail
  go_ret
  exact ⟨by rw [← HF.out, ← HKE.out]; rfl, HB6.out⟩
 rw [if_neg fun h => h.2 ((sees_same hxl.out HS1.out).2 HS2.out)] at HKE
 rw [if_pos HKE.symm] at HF
 go_wp2_with fail
 go_roundw
 case rel => exact ⟨k + 1, by have := HM.out; omega, by go_num, by rw [show d.known.length - (k + 1) = m by have := HM.out; omega]; exact HF, HB20⟩
 case measure => have := HM.out; simp [intOf]; omega

set_option maxRecDepth 100000 in
set_option maxHeartbeats 4000000 in
theorem sameParcel_yes (v u : Value) (p : Pcl) (w : World) (h : IsPcl w v p) (hu : IsPcl w u p) :
  Calls Tryz.prog 14 #[v, u] w fun e w' => e = .returned (.bool true) ∧ Below w.heap.size w w' := by
 obtain ⟨a1, c1, a2, c2, a3, c3, a4, c4, a5, c5, rfl, hs, -, hl, hc⟩ := h.form
 obtain ⟨b1, e1, b2, e2, b3, e3, b4, e4, b5, e5, rfl, ks, -, kl, kc⟩ := hu.form
 obtain ⟨w0, HW, G0, V0, HB0, -⟩ := lay2 w [.bool p.whole, .slice a1 p.st.clock.length c1, .slice a2 p.st.lives.length c2, .slice a3 p.st.tals.length c3, .slice a4 p.ups.length c4, .slice a5 p.clock.length c5] 35 [.bool p.whole, .slice b1 p.st.clock.length e1, .slice b2 p.st.lives.length e2, .slice b3 p.st.tals.length e3, .slice b4 p.ups.length e4, .slice b5 p.clock.length e5] 35
 have H := hide (And.intro hs (And.intro ks (And.intro hl (And.intro kl (And.intro hc kc)))))
 have hbb : (p.whole == p.whole) = true := by simp
 clear h hu hs ks hl kl hc kc
 obtain ⟨g0, g1, g2, g3, g4, g5⟩ := G0.c6
 obtain ⟨v0, v1, v2, v3, v4, v5⟩ := V0.c6
 go_enter Tryz.func14, Tryz.ntmps14
 go_upto_region 1 with fail
 rw [HW.out]
 go_wp2_with fail
 refine (same_st _ _ p.st _ (H.1.below HB0.out (nlr _)) (H.2.1.below HB0.out (nlr _))).mono ?_
 rintro e w1 ⟨rfl, hb1⟩
 have G1 := hide (G0.below hb1 (nlr _))
 have V1 := hide (V0.below hb1 (nlr _))
 have HB1 := hide (below_step HB0.out hb1)
 clear g0 g1 g2 g3 g4 g5 v0 v1 v2 v3 v4 v5 G0 V0 hb1
 obtain ⟨g0, g1, g2, g3, g4, g5⟩ := G1.c6
 obtain ⟨v0, v1, v2, v3, v4, v5⟩ := V1.c6
 go_wp2_with fail
 refine (sameLog_yes _ _ p.ups _ (H.2.2.1.below HB1.out (nlr _)) (H.2.2.2.1.below HB1.out (nlr _))).mono ?_
 rintro e w2 ⟨rfl, hb2⟩
 have G2 := hide (G1.below hb2 (nlr _))
 have V2 := hide (V1.below hb2 (nlr _))
 have HB2 := hide (below_step HB1.out hb2)
 clear g0 g1 g2 g3 g4 g5 v0 v1 v2 v3 v4 v5 G1 V1 hb2
 obtain ⟨g0, g1, g2, g3, g4, g5⟩ := G2.c6
 obtain ⟨v0, v1, v2, v3, v4, v5⟩ := V2.c6
 go_wp2_with fail
 refine (same_ref _ _ p.clock p.clock _ (H.2.2.2.2.1.below HB2.out (nlr _)) (H.2.2.2.2.2.below HB2.out (nlr _))).mono ?_
 rintro e w3 ⟨rfl, hb3⟩
 rw [decide_eq_true rfl]
 have HB3 := hide (below_step HB2.out hb3)
 go_wp2_with fail
 go_ret
 exact ⟨rfl, HB3.out⟩
end Go.Proofs.YtfhecilhcofboaaGreat
/- The document's own SameNode, of two that read as the same node; what stands ahead of each law of chapter 6. -/
namespace Go.Proofs.YtfhecilhcofboaaGreat
open Go.RowKit

set_option maxRecDepth 100000 in
set_option maxHeartbeats 4000000 in
theorem sameNode_yes (v u : Value) (d : NdS) (w : World) (h : IsNode w v d) (hu : IsNode w u d) :
  Calls Tryz.prog 7 #[v, u] w fun e w' => e = .returned (.bool true) ∧ Below w.heap.size w w' := by
 obtain ⟨a1, c1, a2, c2, a3, c3, a4, c4, a5, c5, a6, c6, rfl, hs1, hc1, hb1, hl1, hk1⟩ := h.form
 obtain ⟨b1, e1, b2, e2, b3, e3, b4, e4, b5, e5, b6, e6, rfl, hs2, hc2, hb2, hl2, hk2⟩ := hu.form
 have hbp := Below.plus (bpl w (.cells #[.int .i64 d.self, .slice a1 d.st.clock.length c1, .slice a2 d.st.lives.length c2, .slice a3 d.st.tals.length c3, .slice a4 d.base.length c4, .slice a5 d.log.length c5, .slice a6 d.known.length c6] 31)) (.cells #[.int .i64 d.self, .slice b1 d.st.clock.length e1, .slice b2 d.st.lives.length e2, .slice b3 d.st.tals.length e3, .slice b4 d.base.length e4, .slice b5 d.log.length e5, .slice b6 d.known.length e6] 31)
 have G0 := hide ((Box.new w [.int .i64 d.self, .slice a1 d.st.clock.length c1, .slice a2 d.st.lives.length c2, .slice a3 d.st.tals.length c3, .slice a4 d.base.length c4, .slice a5 d.log.length c5, .slice a6 d.known.length c6] 31).plus (.cells #[.int .i64 d.self, .slice b1 d.st.clock.length e1, .slice b2 d.st.lives.length e2, .slice b3 d.st.tals.length e3, .slice b4 d.base.length e4, .slice b5 d.log.length e5, .slice b6 d.known.length e6] 31))
 have V0 := hide (Box.new (w.alloc (.cells #[.int .i64 d.self, .slice a1 d.st.clock.length c1, .slice a2 d.st.lives.length c2, .slice a3 d.st.tals.length c3, .slice a4 d.base.length c4, .slice a5 d.log.length c5, .slice a6 d.known.length c6] 31)) [.int .i64 d.self, .slice b1 d.st.clock.length e1, .slice b2 d.st.lives.length e2, .slice b3 d.st.tals.length e3, .slice b4 d.base.length e4, .slice b5 d.log.length e5, .slice b6 d.known.length e6] 31)
 simp only [World.size_alloc] at V0
 have HB0 := hide hbp
 have SA0 := hide (hs1.below hbp (nlr _))
 have SB0 := hide (hs2.below hbp (nlr _))
 have BA0 := hide (hb1.below hbp (nlr _))
 have BB0 := hide (hb2.below hbp (nlr _))
 have LA0 := hide (hl1.below hbp (nlr _))
 have LB0 := hide (hl2.below hbp (nlr _))
 have KA0 := hide (hk1.below hbp (nlr _))
 have KB0 := hide (hk2.below hbp (nlr _))
 have hkl := hk1.len_le
 have hne0 : (d.self != d.self) = false := by simp
 have hne5 : ((d.known.length : Int) != (d.known.length : Int)) = false := by simp
 clear h hu hs1 hs2 hc1 hc2 hb1 hb2 hl1 hl2 hk1 hk2 hbp
 obtain ⟨W0, HW0⟩ : ∃ W0, Hid ((w.alloc (.cells #[.int .i64 d.self, .slice a1 d.st.clock.length c1, .slice a2 d.st.lives.length c2, .slice a3 d.st.tals.length c3, .slice a4 d.base.length c4, .slice a5 d.log.length c5, .slice a6 d.known.length c6] 31)).alloc (.cells #[.int .i64 d.self, .slice b1 d.st.clock.length e1, .slice b2 d.st.lives.length e2, .slice b3 d.st.tals.length e3, .slice b4 d.base.length e4, .slice b5 d.log.length e5, .slice b6 d.known.length e6] 31) = W0) := ⟨_, rfl⟩
 rw [HW0.out] at G0 V0 HB0 SA0 SB0 BA0 BB0 LA0 LB0 KA0 KB0
 obtain ⟨w0, rfl⟩ : ∃ w0, w0 = W0 := ⟨W0, rfl⟩
 go_enter Tryz.func7, Tryz.ntmps7
 go_upto_region 1 with fail
 rw [HW0.out]
 obtain ⟨cG0, cG1, cG2, cG3, cG4, cG5, cG6⟩ := G0.c7
 obtain ⟨cV0, cV1, cV2, cV3, cV4, cV5, cV6⟩ := V0.c7
 go_wp2_with fail
 refine (same_st _ _ d.st _ SA0.out SB0.out).mono ?_
 rintro e w1 ⟨rfl, hb⟩
 have HB1 := hide (below_step HB0.out hb)
 have G1 := hide (G0.below hb (nlr _))
 have V1 := hide (V0.below hb (nlr _))
 have SA1 := hide (SA0.below hb (nlr _))
 have SB1 := hide (SB0.below hb (nlr _))
 have BA1 := hide (BA0.below hb (nlr _))
 have BB1 := hide (BB0.below hb (nlr _))
 have LA1 := hide (LA0.below hb (nlr _))
 have LB1 := hide (LB0.below hb (nlr _))
 have KA1 := hide (KA0.below hb (nlr _))
 have KB1 := hide (KB0.below hb (nlr _))
 clear HB0 hb G0 V0 SA0 SB0 BA0 BB0 LA0 LB0 KA0 KB0
 obtain ⟨cG0, cG1, cG2, cG3, cG4, cG5, cG6⟩ := G1.c7
 obtain ⟨cV0, cV1, cV2, cV3, cV4, cV5, cV6⟩ := V1.c7
 go_wp2_with fail
 refine (same_yesW _ _ d.base _ BA1.out BB1.out).mono ?_
 rintro e w2 ⟨rfl, hb⟩
 have HB2 := hide (below_step HB1.out hb)
 have G2 := hide (G1.below hb (nlr _))
 have V2 := hide (V1.below hb (nlr _))
 have SA2 := hide (SA1.below hb (nlr _))
 have SB2 := hide (SB1.below hb (nlr _))
 have BA2 := hide (BA1.below hb (nlr _))
 have BB2 := hide (BB1.below hb (nlr _))
 have LA2 := hide (LA1.below hb (nlr _))
 have LB2 := hide (LB1.below hb (nlr _))
 have KA2 := hide (KA1.below hb (nlr _))
 have KB2 := hide (KB1.below hb (nlr _))
 clear HB1 hb G1 V1 SA1 SB1 BA1 BB1 LA1 LB1 KA1 KB1
 obtain ⟨cG0, cG1, cG2, cG3, cG4, cG5, cG6⟩ := G2.c7
 obtain ⟨cV0, cV1, cV2, cV3, cV4, cV5, cV6⟩ := V2.c7
 go_wp2_with fail
 refine (sameLog_yes _ _ d.log _ LA2.out LB2.out).mono ?_
 rintro e w3 ⟨rfl, hb⟩
 have HB3 := hide (below_step HB2.out hb)
 have G3 := hide (G2.below hb (nlr _))
 have V3 := hide (V2.below hb (nlr _))
 have SA3 := hide (SA2.below hb (nlr _))
 have SB3 := hide (SB2.below hb (nlr _))
 have BA3 := hide (BA2.below hb (nlr _))
 have BB3 := hide (BB2.below hb (nlr _))
 have LA3 := hide (LA2.below hb (nlr _))
 have LB3 := hide (LB2.below hb (nlr _))
 have KA3 := hide (KA2.below hb (nlr _))
 have KB3 := hide (KB2.below hb (nlr _))
 clear HB2 hb G2 V2 SA2 SB2 BA2 BB2 LA2 LB2 KA2 KB2
 obtain ⟨cG0, cG1, cG2, cG3, cG4, cG5, cG6⟩ := G3.c7
 obtain ⟨cV0, cV1, cV2, cV3, cV4, cV5, cV6⟩ := V3.c7
 go_wp2_with fail
 go_loopw [47] (fun i wr => ∃ k : Nat, k ≤ d.known.length ∧ i = .int .i64 k ∧ Hid (Below w3.heap.size w3 wr)) (fun i _ => d.known.length - (intOf i).toNat)
 case atStart => exact ⟨0, Nat.zero_le _, rfl, hide (Below.refl _ _)⟩
 obtain ⟨k, hk, rfl, HBk⟩ := hrel
 obtain ⟨w20, rfl⟩ : ∃ w20, w20 = wr := ⟨wr, rfl⟩
 clear cG0 cG1 cG2 cG3 cG4 cG5 cG6 cV0 cV1 cV2 cV3 cV4 cV5 cV6
 have HBw := hide (below_step HB3.out HBk.out)
 by_cases hlt : k < d.known.length
 ·have hlt' : (k : Int) < (d.known.length : Int) := by omega
  obtain ⟨x, hx⟩ : ∃ x, d.known[k]? = some x := ⟨_, List.getElem?_eq_getElem hlt⟩
  have KA20 := KA3.below HBk.out (nlr _)
  have KB20 := KB3.below HBk.out (nlr _)
  obtain ⟨p1, o1, a7, c7, hq1, hcell1, hr1⟩ := KA20.at hx
  obtain ⟨p2, o2, b7, e7, hq2, hcell2, hr2⟩ := KB20.at hx
  subst hq1
  subst hq2
  have G20 := hide (G3.below HBk.out (nlr _))
  have V20 := hide (V3.below HBk.out (nlr _))
  have R1 := hide hr1
  have R2 := hide hr2
  have HC1 := hide hcell1
  have HC2 := hide hcell2
  clear hr1 hr2 hcell1 hcell2 KA20 KB20 hx
  have HK := hide fun w' (hg : Grew w20 w') => And.intro ((G20.below hg (nlr _)).get 6 rfl) (And.intro ((V20.below hg (nlr _)).get 6 rfl) (And.intro ((hg.cell (p := ⟨p1, o1 + k, none⟩) (World.block_lt_of_cell? w20 _ HC1.out)).trans HC1.out) ((hg.cell (p := ⟨p2, o2 + k, none⟩) (World.block_lt_of_cell? w20 _ HC2.out)).trans HC2.out)))
  go_upto_region 6 with fail
  go_cut [61] (fun c wx => c = .bool false ∧ Hid (Grew w20 wx))
  case first =>
   refine rgn HK.out fun wd hgd hHeld => ?_
   refine ty 0 (.pointer (some ⟨w.heap.size, 6, none⟩)) ?_
   refine ty 1 (.slice (some ⟨p1, o1, none⟩) d.known.length c6) ?_
   refine ty 2 (.int .i64 (k : Int)) ?_
   refine ty 3 (.pointer (some ⟨p1, o1 + k, none⟩)) ?_
   refine ty 4 (.slice a7 x.length c7) ?_
   refine ty 5 (.pointer (some ⟨w.heap.size + 1, 6, none⟩)) ?_
   refine ty 6 (.slice (some ⟨p2, o2, none⟩) d.known.length e6) ?_
   refine ty 7 (.int .i64 (k : Int)) ?_
   refine ty 8 (.pointer (some ⟨p2, o2 + k, none⟩)) ?_
   refine ty 9 (.slice b7 x.length e7) ?_
   refine wr 10 fun K hK => ?_
   go_simp
   refine (same_yesW _ _ x _ (R1.below hgd (nlr _)) (R2.below hgd (nlr _))).mono ?_
   rintro e w_10 ⟨rfl, hb_10⟩
   have hg_10 : Grew w20 w_10 := grew_step hgd hb_10
   refine hK.out _ _ (HK.out _ hg_10) (fun _ => ?_)
   clear hK K
   try simp only [Act.put, put1, put2, put3]
   refine ty 11 (.bool false) ?_
   refine wpAnyH_done (by kernel_rfl) ?_ _
   go_wp2_with fail
   go_meet
   exact ⟨rfl, hg_10⟩
  obtain ⟨rfl, HGR⟩ := hcut
  obtain ⟨w21, rfl⟩ : ∃ w21, w21 = wc := ⟨wc, rfl⟩
  have HB21 := hide (below_step HBk.out HGR.out)
  go_wp2_with fail
  go_roundw
  case rel => exact ⟨k + 1, by omega, by go_num, HB21⟩
  case measure => simp [intOf]; omega
 have hlt' : ¬ (k : Int) < (d.known.length : Int) := by omega
 go_wp2_with fail
 go_ret
 exact ⟨rfl, HBw.out⟩
end Go.Proofs.YtfhecilhcofboaaGreat
/- A node's variable that is set anew; what stands ahead of each law of chapter 6. -/
namespace Go.Proofs.YtfhecilhcofboaaGreat
open Go.RowKit

theorem NodeO.setT {w : World} {B g : Nat} {v : Value} {d : NdS} {cs : List Value} (h : NodeO w B v d) (hb : Box w g cs 31) (i : Nat) (x : Value) : NodeO (w.setCell ⟨g, i, Option.none⟩ x) B v d := by
 obtain ⟨cv, lv, tv, bv, uv, kv, h1, h2, h3, h4, h5⟩ := h
 exact ⟨cv, lv, tv, bv, uv, kv, h1, h2.setT hb (by decide) (by decide) (by decide) i x, h3.setT hb (by decide) i x, h4.setT hb (by decide) (by decide) i x, h5.setT hb (by decide) (by decide) i x⟩
theorem PclO.setT {w : World} {B g : Nat} {v : Value} {p : Pcl} {cs : List Value} (h : PclO w B v p) (hb : Box w g cs 31) (i : Nat) (x : Value) : PclO (w.setCell ⟨g, i, Option.none⟩ x) B v p := by
 obtain ⟨cv, lv, tv, uv, kv, h1, h2, h3, h4⟩ := h
 exact ⟨cv, lv, tv, uv, kv, h1, h2.setT hb (by decide) (by decide) (by decide) i x, h3.setT hb (by decide) (by decide) i x, h4.setT hb (by decide) i x⟩
theorem NodeO.formL {w : World} {B : Nat} {v : Value} {d : NdS} (h : NodeO w B v d) {i : Int} {n1 n2 n3 n4 n5 n6 : Nat} (h0 : d.self = i) (h1 : d.st.clock.length = n1) (h2 : d.st.lives.length = n2) (h3 : d.st.tals.length = n3) (h4 : d.base.length = n4) (h5 : d.log.length = n5) (h6 : d.known.length = n6) :
  ∃ a1 c1 a2 c2 a3 c3 a4 c4 a5 c5 a6 c6, v = .agg #[.int .i64 i, .slice a1 n1 c1, .slice a2 n2 c2, .slice a3 n3 c3, .slice a4 n4 c4, .slice a5 n5 c5, .slice a6 n6 c6] := by
 subst h0 h1 h2 h3 h4 h5 h6
 exact h.form
theorem PclO.formL {w : World} {B : Nat} {v : Value} {p : Pcl} (h : PclO w B v p) {b : Bool} {n1 n2 n3 n4 n5 : Nat} (h0 : p.whole = b) (h1 : p.st.clock.length = n1) (h2 : p.st.lives.length = n2) (h3 : p.st.tals.length = n3) (h4 : p.ups.length = n4) (h5 : p.clock.length = n5) :
  ∃ a1 c1 a2 c2 a3 c3 a4 c4 a5 c5, v = .agg #[.bool b, .slice a1 n1 c1, .slice a2 n2 c2, .slice a3 n3 c3, .slice a4 n4 c4, .slice a5 n5 c5] := by
 subst h0 h1 h2 h3 h4 h5
 obtain ⟨a1, c1, a2, c2, a3, c3, a4, c4, a5, c5, e, -⟩ := h.pcl.form
 exact ⟨a1, c1, a2, c2, a3, c3, a4, c4, a5, c5, e⟩

end Go.Proofs.YtfhecilhcofboaaGreat
/- What a call of the document's node functions works on; its own Prune, Send and Start. -/
namespace Go.Proofs.YtfhecilhcofboaaGreat
open Go.RowKit

def NdR (S : Nat → Prop) (w : World) (v : Value) (d : NdS) : Prop := ∃ x1 x2 x3 x4 x5 x6, v = .agg #[.int .i64 d.self, x1, x2, x3, x4, x5, x6] ∧ NdF S w x1 x2 x3 x4 x5 x6 d
def PcR (S : Nat → Prop) (w : World) (v : Value) (p : Pcl) : Prop := ∃ x1 x2 x3 x4 x5, v = .agg #[.bool p.whole, x1, x2, x3, x4, x5] ∧ PcF S w x1 x2 x3 x4 x5 p
section
variable {S : Nat → Prop} {b gr : Nat} {w W W' : World} {v x1 x2 x3 x4 x5 x6 : Value} {zs : List Value} {tz : TypeId} {d : NdS} {p : Pcl}
theorem NdR.form (h : NdR S w v d) : ∃ a1 c1 a2 c2 a3 c3 a4 c4 a5 c5 a6 c6, v = .agg #[.int .i64 d.self, .slice a1 d.st.clock.length c1, .slice a2 d.st.lives.length c2, .slice a3 d.st.tals.length c3, .slice a4 d.base.length c4, .slice a5 d.log.length c5, .slice a6 d.known.length c6] ∧ NdF S w (.slice a1 d.st.clock.length c1) (.slice a2 d.st.lives.length c2) (.slice a3 d.st.tals.length c3) (.slice a4 d.base.length c4) (.slice a5 d.log.length c5) (.slice a6 d.known.length c6) d := by
 obtain ⟨x1, x2, x3, x4, x5, x6, rfl, hF⟩ := h
 obtain ⟨a1, c1, a2, c2, a3, c3, a4, c4, a5, c5, a6, c6, e, -⟩ := hF.node.form
 simp only [Value.agg.injEq, Array.mk.injEq, List.cons.injEq, and_true, true_and] at e
 obtain ⟨rfl, rfl, rfl, rfl, rfl, rfl⟩ := e
 exact ⟨a1, c1, a2, c2, a3, c3, a4, c4, a5, c5, a6, c6, rfl, hF⟩
theorem fin7 {a g : Nat} {c0 c1 c2 c3 c4 c5 c6 : Value} (hb : Box W g [c0, c1, c2, c3, c4, c5, c6] 31) (hF : NdF (Mine S a b) W x1 x2 x3 x4 x5 x6 d) (HB : Below a w W) (h1 : a ≤ g) (h2 : g < b) :
  Box (((((((W.setCell ⟨g, 0, none⟩ (.int .i64 d.self)).setCell ⟨g, 1, none⟩ x1).setCell ⟨g, 2, none⟩ x2).setCell ⟨g, 3, none⟩ x3).setCell ⟨g, 4, none⟩ x4).setCell ⟨g, 5, none⟩ x5).setCell ⟨g, 6, none⟩ x6) g [.int .i64 d.self, x1, x2, x3, x4, x5, x6] 31 ∧ NdF S (((((((W.setCell ⟨g, 0, none⟩ (.int .i64 d.self)).setCell ⟨g, 1, none⟩ x1).setCell ⟨g, 2, none⟩ x2).setCell ⟨g, 3, none⟩ x3).setCell ⟨g, 4, none⟩ x4).setCell ⟨g, 5, none⟩ x5).setCell ⟨g, 6, none⟩ x6) x1 x2 x3 x4 x5 x6 d ∧ Below a w (((((((W.setCell ⟨g, 0, none⟩ (.int .i64 d.self)).setCell ⟨g, 1, none⟩ x1).setCell ⟨g, 2, none⟩ x2).setCell ⟨g, 3, none⟩ x3).setCell ⟨g, 4, none⟩ x4).setCell ⟨g, 5, none⟩ x5).setCell ⟨g, 6, none⟩ x6) := by
 have hM : Mine S a b g := .inr ⟨h1, h2⟩
 exact ⟨(((((((hb.set 0 (.int .i64 d.self)).set 1 x1).set 2 x2).set 3 x3).set 4 x4).set 5 x5).set 6 x6), (hF.off ((((((((Off.refl _ _).set hM 0 (.int .i64 d.self)).set hM 1 x1).set hM 2 x2).set hM 3 x3).set hM 4 x4).set hM 5 x5).set hM 6 x6)).less, (Below.setCell (Below.setCell (Below.setCell (Below.setCell (Below.setCell (Below.setCell (Below.setCell HB (p := ⟨g, 0, none⟩) h1 (.int .i64 d.self)) (p := ⟨g, 1, none⟩) h1 x1) (p := ⟨g, 2, none⟩) h1 x2) (p := ⟨g, 3, none⟩) h1 x3) (p := ⟨g, 4, none⟩) h1 x4) (p := ⟨g, 5, none⟩) h1 x5) (p := ⟨g, 6, none⟩) h1 x6)⟩
theorem fin6 {a g : Nat} {c0 c1 c2 c3 c4 c5 : Value} (hb : Box W g [c0, c1, c2, c3, c4, c5] 35) (hF : PcF (Mine S a b) W x1 x2 x3 x4 x5 p) (HB : Below a w W) (h1 : a ≤ g) (h2 : g < b) :
  Box ((((((W.setCell ⟨g, 0, none⟩ (.bool p.whole)).setCell ⟨g, 1, none⟩ x1).setCell ⟨g, 2, none⟩ x2).setCell ⟨g, 3, none⟩ x3).setCell ⟨g, 4, none⟩ x4).setCell ⟨g, 5, none⟩ x5) g [.bool p.whole, x1, x2, x3, x4, x5] 35 ∧ PcF S ((((((W.setCell ⟨g, 0, none⟩ (.bool p.whole)).setCell ⟨g, 1, none⟩ x1).setCell ⟨g, 2, none⟩ x2).setCell ⟨g, 3, none⟩ x3).setCell ⟨g, 4, none⟩ x4).setCell ⟨g, 5, none⟩ x5) x1 x2 x3 x4 x5 p ∧ Below a w ((((((W.setCell ⟨g, 0, none⟩ (.bool p.whole)).setCell ⟨g, 1, none⟩ x1).setCell ⟨g, 2, none⟩ x2).setCell ⟨g, 3, none⟩ x3).setCell ⟨g, 4, none⟩ x4).setCell ⟨g, 5, none⟩ x5) := by
 have hM : Mine S a b g := .inr ⟨h1, h2⟩
 have h := hF.off (((((((Off.refl _ _).set hM 0 (.bool p.whole)).set hM 1 x1).set hM 2 x2).set hM 3 x3).set hM 4 x4).set hM 5 x5)
 exact ⟨((((((hb.set 0 (.bool p.whole)).set 1 x1).set 2 x2).set 3 x3).set 4 x4).set 5 x5), ⟨h.st.less, h.ups.less, h.clk.less⟩, (Below.setCell (Below.setCell (Below.setCell (Below.setCell (Below.setCell (Below.setCell HB (p := ⟨g, 0, none⟩) h1 (.bool p.whole)) (p := ⟨g, 1, none⟩) h1 x1) (p := ⟨g, 2, none⟩) h1 x2) (p := ⟨g, 3, none⟩) h1 x3) (p := ⟨g, 4, none⟩) h1 x4) (p := ⟨g, 5, none⟩) h1 x5)⟩
structure FrN (S : Nat → Prop) (b : Nat) (w W : World) (gr : Nat) (zs : List Value) (tz : TypeId) (x1 x2 x3 x4 x5 x6 : Value) (d : NdS) : Prop where
 box : Box W w.heap.size [.int .i64 d.self, x1, x2, x3, x4, x5, x6] 31
 res : Box W gr zs tz
 nd : NdF (Mine S w.heap.size b) W x1 x2 x3 x4 x5 x6 d
 hb : Below w.heap.size w W
 lt : ∀ k, Mine S w.heap.size b k → k < W.heap.size
 g1 : w.heap.size < gr
 g2 : gr < b
theorem FrN.step (h : FrN S b w W gr zs tz x1 x2 x3 x4 x5 x6 d) (hb : Below W.heap.size W W') : FrN S b w W' gr zs tz x1 x2 x3 x4 x5 x6 d :=
 ⟨h.box.below hb (nlr _), h.res.below hb (nlr _), h.nd.off (offB hb (nlr _)), below_step h.hb hb, fun k hk => Nat.lt_of_lt_of_le (h.lt k hk) hb.size, h.g1, h.g2⟩
theorem mine_lt {a c : Nat} (hS : ∀ k, S k → k < a) (h : b ≤ c) (h' : a ≤ b) : ∀ k, Mine S a b k → k < c := fun k hk => hk.elim (fun g => by have := hS k g; omega) fun g => by omega
theorem FrN.off (h : FrN S b w W gr zs tz x1 x2 x3 x4 x5 x6 d) (i : Nat) (y : Value) : Off (Mine S w.heap.size b) W (W.setCell ⟨w.heap.size, i, none⟩ y) := (Off.refl _ W).set (.inr ⟨nlr _, Nat.lt_trans h.g1 h.g2⟩) i y
theorem FrN.base (h : FrN S b w W gr zs tz x1 x2 x3 x4 x5 x6 d) {y : Value} {xs : List Int} (hy : Fix (Mine S w.heap.size b) W fun w => Row w y xs) : FrN S b w (W.setCell ⟨w.heap.size, 4, none⟩ y) gr zs tz x1 x2 x3 y x5 x6 ⟨d.self, d.st, xs, d.log, d.known⟩ :=
 have o := h.off 4 y
 ⟨h.box.set 4 y, h.res.away (Nat.ne_of_gt h.g1), ⟨h.nd.st.off o, hy.off o, h.nd.log.off o, h.nd.kn.off o⟩, h.hb.setCell (nlr _) _, fun k hk => by rw [World.size_setCell]; exact h.lt k hk, h.g1, h.g2⟩
theorem FrN.log (h : FrN S b w W gr zs tz x1 x2 x3 x4 x5 x6 d) {y : Value} {l : List Upd} (hy : LogF (Mine S w.heap.size b) W y l) : FrN S b w (W.setCell ⟨w.heap.size, 5, none⟩ y) gr zs tz x1 x2 x3 x4 y x6 ⟨d.self, d.st, d.base, l, d.known⟩ :=
 have o := h.off 5 y
 ⟨h.box.set 5 y, h.res.away (Nat.ne_of_gt h.g1), ⟨h.nd.st.off o, h.nd.base.off o, hy.off o, h.nd.kn.off o⟩, h.hb.setCell (nlr _) _, fun k hk => by rw [World.size_setCell]; exact h.lt k hk, h.g1, h.g2⟩
theorem FrN.kn (h : FrN S b w W gr zs tz x1 x2 x3 x4 x5 x6 d) {y : Value} {l : List (List Int)} (hy : KnF (Mine S w.heap.size b) W y l) : FrN S b w (W.setCell ⟨w.heap.size, 6, none⟩ y) gr zs tz x1 x2 x3 x4 x5 y ⟨d.self, d.st, d.base, d.log, l⟩ :=
 have o := h.off 6 y
 ⟨h.box.set 6 y, h.res.away (Nat.ne_of_gt h.g1), ⟨h.nd.st.off o, h.nd.base.off o, h.nd.log.off o, hy.off o⟩, h.hb.setCell (nlr _) _, fun k hk => by rw [World.size_setCell]; exact h.lt k hk, h.g1, h.g2⟩
theorem FrN.st (h : FrN S b w W gr zs tz x1 x2 x3 x4 x5 x6 d) {y1 y2 y3 : Value} {s : StS} (hy : Fix (Mine S w.heap.size b) W fun w => IsSt w (.agg #[y1, y2, y3]) s) : FrN S b w (((W.setCell ⟨w.heap.size, 1, none⟩ y1).setCell ⟨w.heap.size, 2, none⟩ y2).setCell ⟨w.heap.size, 3, none⟩ y3) gr zs tz y1 y2 y3 x4 x5 x6 ⟨d.self, s, d.base, d.log, d.known⟩ :=
 have hM : Mine S w.heap.size b w.heap.size := .inr ⟨nlr _, Nat.lt_trans h.g1 h.g2⟩
 have o : Off (Mine S w.heap.size b) W (((W.setCell ⟨w.heap.size, 1, none⟩ y1).setCell ⟨w.heap.size, 2, none⟩ y2).setCell ⟨w.heap.size, 3, none⟩ y3) := (((Off.refl _ W).set hM 1 y1).set hM 2 y2).set hM 3 y3
 ⟨((h.box.set 1 y1).set 2 y2).set 3 y3, ((h.res.away (Nat.ne_of_gt h.g1)).away (Nat.ne_of_gt h.g1)).away (Nat.ne_of_gt h.g1), ⟨hy.off o, h.nd.base.off o, h.nd.log.off o, h.nd.kn.off o⟩, ((h.hb.setCell (nlr _) _).setCell (nlr _) _).setCell (nlr _) _, fun k hk => by rw [World.size_setCell, World.size_setCell, World.size_setCell]; exact h.lt k hk, h.g1, h.g2⟩
theorem right_log (h : nodeE d = 0) {xs : List Int} (hx : xs.length = d.st.clock.length) : ∀ u ∈ d.log, FitU u ∧ u.author < xs.length := fun u hu => by
 have hw := small_all d.log (nodeE_zero.1 h).fits u hu
 exact ⟨fitU_of hw, by rw [hx]; exact (wrongU_right hw).2.2.1⟩
theorem joinC_long {xs ys : List Int} {n : Nat} (h : xs.length = n) (h' : ys.length = n) : (joinC xs ys).length = n := by
 rw [joinC_length]
 unfold lenM
 split <;> omega
end
theorem Box.six {w : World} {g : Nat} {x0 x1 x2 x3 x4 x5 : Value} {t : TypeId} (h : Box w g [x0, x1, x2, x3, x4, x5] t) :
  w.cell? ⟨g, 0, none⟩ = some x0 ∧ w.frozen? ⟨g, 0, none⟩ = false ∧ w.cell? ⟨g, 1, none⟩ = some x1 ∧ w.frozen? ⟨g, 1, none⟩ = false ∧ w.cell? ⟨g, 2, none⟩ = some x2 ∧ w.frozen? ⟨g, 2, none⟩ = false ∧ w.cell? ⟨g, 3, none⟩ = some x3 ∧ w.frozen? ⟨g, 3, none⟩ = false ∧ w.cell? ⟨g, 4, none⟩ = some x4 ∧ w.frozen? ⟨g, 4, none⟩ = false ∧ w.cell? ⟨g, 5, none⟩ = some x5 ∧ w.frozen? ⟨g, 5, none⟩ = false :=
 ⟨h.get 0 rfl, h.free 0, h.get 1 rfl, h.free 1, h.get 2 rfl, h.free 2, h.get 3 rfl, h.free 3, h.get 4 rfl, h.free 4, h.get 5 rfl, h.free 5⟩
theorem PcF.none {S : Nat → Prop} {w : World} : PcF S w (.slice none 0 0) (.slice none 0 0) (.slice none 0 0) (.slice none 0 0) (.slice none 0 0) noPcl :=
 ⟨fun _ _ => ⟨_, _, _, rfl, Row.nil _, SliceV.nil _, SliceV.nil _⟩, ⟨[], rfl, fun _ _ => SliceV.nil _, fun _ h => by simp at h⟩, fun _ _ => Row.nil _⟩

set_option maxRecDepth 100000 in
set_option maxHeartbeats 4000000 in
theorem prune_ref {S : Nat → Prop} {v : Value} {d : NdS} (w : World) (h : NdR S w v d) (hS : ∀ k, S k → k < w.heap.size) :
  Calls Tryz.prog 18 #[v] w fun e w' => ∃ rv, e = .returned (.tuple #[rv, .int .i64 (nodeE d)]) ∧ NdR S w' rv (pruneX d) ∧ Below w.heap.size w w' := by
 obtain ⟨a1, c1, a2, c2, a3, c3, a4, c4, a5, c5, a6, c6, rfl, hF⟩ := h.form
 obtain ⟨w0, HW, G0, R0, HB0, hs0⟩ := lay2 w [.int .i64 d.self, .slice a1 d.st.clock.length c1, .slice a2 d.st.lives.length c2, .slice a3 d.st.tals.length c3, .slice a4 d.base.length c4, .slice a5 d.log.length c5, .slice a6 d.known.length c6] 31 [.int .i64 0, .slice none 0 0, .slice none 0 0, .slice none 0 0, .slice none 0 0, .slice none 0 0, .slice none 0 0] 31
 have Q0 := hide (FrN.mk G0.out R0.out (hF.more (b := w.heap.size + 1 + 1) HB0.out) HB0.out (mine_lt hS (Nat.le_of_eq hs0.out.symm) (by omega)) (by omega) (by omega))
 obtain ⟨N, HN⟩ : ∃ N, Hid (nodeE d = N) := ⟨_, rfl⟩
 obtain ⟨X, HX⟩ : ∃ X, Hid (pruneX d = X) := ⟨_, rfl⟩
 rw [HN.out, HX.out]
 clear h hF G0 R0 HB0 hs0 hS
 obtain ⟨g0, g1, g2, g3, g4, g5, g6⟩ := Q0.box.c7
 go_enter Tryz.func18, Tryz.ntmps18
 go_upto_region 1 with fail
 rw [HW.out]
 go_wp2_with fail
 refine (wrongNode_ref _ d _ Q0.nd.node).mono ?_
 rintro e w1 ⟨rfl, hb1⟩
 rw [HN.out]
 have Q1 := hide (Q0.step hb1)
 clear g0 g1 g2 g3 g4 g5 g6 Q0 hb1
 by_cases hN : N = 0
 rotate_left
 ·have hN' : (N != 0) = true := by simp [hN]
  obtain rfl : noNode = X := by rw [← HX.out]; unfold pruneX; rw [if_neg (by rw [HN.out]; exact hN)]
  clear hN
  obtain ⟨r0, e0, r1, e1, r2, e2, r3, e3, r4, e4, r5, e5, r6, e6⟩ := Q1.res.seven
  go_wp2_with fail
  obtain ⟨hR, hV, hB⟩ := fin7 (S := S) (d := noNode) Q1.res NdF.none Q1.hb (by omega) Q1.g2
  exact bodyPost_ret (results_cell_tmp rfl _ _ (w.heap.size + 1) 31 _ (0, 0) _ rfl hR Tryz.underlying31 rfl Tryz.sizeNode) rfl ⟨_, rfl, ⟨_, _, _, _, _, _, rfl, hV⟩, hB⟩
 have hN' : (N != 0) = false := by simp [hN]
 have hNz : nodeE d = 0 := by rw [HN.out]; exact hN
 have HF := hide (fits_of hNz)
 have HXX : Hid (forgetN d (allC d) = X) := by unfold Hid; rw [← HX.out]; unfold pruneX; rw [if_pos hNz]
 have HAL := hide (nodeE_zero.1 hNz).all
 have HBL := hide (goodC_iff.1 (nodeE_zero.1 hNz).base)
 have HRL := hide (fun xs => right_log hNz (xs := xs))
 subst hN
 clear hNz
 have hkl := Q1.nd.kn.kn.len_le
 obtain ⟨g0, g1, g2, g3, g4, g5, g6⟩ := Q1.box.c7
 go_wp2_with fail
 clear g0 g1 g2 g3 g4 g5 g6
 have hc6 := HF.clock
 go_loopw [5, 20] (fun c i wr => ∃ k : Nat, k ≤ d.known.length ∧ i = .int .i64 k ∧ Hid (Row wr c ((d.known.take k).foldl meetC d.st.clock)) ∧ Hid (((d.known.take k).foldl meetC d.st.clock).length ≤ 6) ∧ Hid (Below w1.heap.size w1 wr)) (fun _ i _ => d.known.length - (intOf i).toNat)
 case atStart => exact ⟨0, Nat.zero_le _, rfl, (fix_clock Q1.nd.st).here, hide hc6, hide (Below.refl _ _)⟩
 obtain ⟨k, hk, rfl, C2, H6, HB2⟩ := hrel
 obtain ⟨w2, rfl⟩ : ∃ w2, w2 = wr := ⟨wr, rfl⟩
 have Q2 := hide (Q1.step HB2.out)
 obtain ⟨F, HF0⟩ : ∃ F, Hid ((d.known.take k).foldl meetC d.st.clock = F) := ⟨_, rfl⟩
 rw [HF0.out] at C2 H6
 obtain ⟨aF, cF, rfl, -⟩ := id C2.out
 by_cases hlt : k < d.known.length
 ·obtain ⟨x, hx⟩ : ∃ x, d.known[k]? = some x := ⟨_, List.getElem?_eq_getElem hlt⟩
  have hx6 := HF.known x (List.mem_of_getElem? hx)
  obtain ⟨b, off, a7, c7, rfl, hcell, hrow⟩ := Q2.nd.kn.kn.at hx
  have X2 := hide hrow
  have hlt' : (k : Int) < (d.known.length : Int) := by omega
  have HTK : Hid ((d.known.take (k + 1)).foldl meetC d.st.clock = meetC F x) := by unfold Hid; rw [List.take_add_one, hx]; simp only [Option.toList_some, List.foldl_append, List.foldl_cons, List.foldl_nil, HF0.out]
  have h66 := H6.out
  clear hrow hx
  go_wp2_with fail
  refine (meet_ref _ _ F x _ C2.out X2.out (by omega) (by omega)).mono ?_
  rintro e w3 ⟨v3, rfl, ho3, hb3⟩
  have HB3 := hide (below_step HB2.out hb3)
  have C3 := hide ho3.row
  have H3 := hide (meet_few h66 hx6)
  clear ho3 hb3 hcell
  go_wp2_with fail
  go_roundw
  case rel => exact ⟨k + 1, by omega, by go_num, by rw [HTK.out]; exact C3, by rw [HTK.out]; exact H3, HB3⟩
  case measure => simp [intOf]; omega
 have hlt' : ¬ (k : Int) < (d.known.length : Int) := by omega
 have HFF : Hid (allC d = F) := by unfold Hid; rw [← HF0.out, List.take_of_length_le (by omega)]; rfl
 have hFl : Hid (F.length = d.st.clock.length) := by unfold Hid; rw [← HFF.out]; have := (goodC_iff.1 HAL.1); omega
 have hbl : Hid (d.base.length = d.st.clock.length) := by unfold Hid; have := HBL.out; omega
 have HJL := hide (joinC_long hbl.out hFl.out)
 have b4 := Q2.box.get 4 rfl
 clear Q1 HB2
 go_wp2_with fail
 refine (join_ref _ _ d.base F _ Q2.nd.base.here C2.out (by have := hbl.out; omega) (by have := hFl.out; omega)).mono ?_
 rintro e w3 ⟨v3, rfl, ho3, hb3⟩
 have hy := ho3.fix Q2.lt
 have Q3 := Q2.step hb3
 have Q4 := Q3.base hy
 have C4 := (Q4.nd.base).here
 obtain ⟨aJ, cJ, rfl, -⟩ := id ho3.row
 have b4' := Q3.box.get 4 rfl
 have f4 := Q3.box.free 4
 obtain ⟨w4, HW4⟩ : ∃ w4, Hid (w3.setCell ⟨w.heap.size, 4, none⟩ (.slice aJ (joinC d.base F).length cJ) = w4) := ⟨_, rfl⟩
 rw [HW4.out] at Q4 C4
 have HQ4 := hide Q4
 have HC4 := hide C4
 clear hy Q2 Q3 Q4 C4 ho3 hb3 b4 C2
 obtain ⟨J, HJ⟩ : ∃ J, Hid (joinC d.base F = J) := ⟨_, rfl⟩
 rw [HJ.out] at HQ4 HC4 HJL HW4
 rw [HJ.out]
 go_upto_region 11 with fail
 rw [HW4.out]
 clear b4' f4
 have b4 := HQ4.box.get 4 rfl
 have b5 := HQ4.box.get 5 rfl
 go_wp2_with fail
 refine (lacks_fix _ HQ4.nd.log HC4.out (HRL.out J HJL.out) (by have := HF.few; simp only; omega) HQ4.lt rfl).mono ?_
 rintro e w5 ⟨v5, rfl, ho5, hb5⟩
 have Q5 := HQ4.step hb5
 have Q6 := hide (Q5.log ho5)
 obtain ⟨aL, cL, rfl, -⟩ := id ho5.log
 have b5' := Q5.box.get 5 rfl
 have f5 := Q5.box.free 5
 obtain ⟨w6, HW6⟩ : ∃ w6, Hid (w5.setCell ⟨w.heap.size, 5, none⟩ (.slice aL (lacksL d.log J).length cL) = w6) := ⟨_, rfl⟩
 simp only [HW6.out] at Q6
 clear Q5 ho5 hb5 HQ4 b4 b5 HC4
 go_upto_region 12 with fail
 rw [HW6.out]
 clear b5' f5
 obtain rfl : (⟨d.self, d.st, J, lacksL d.log J, d.known⟩ : NdS) = X := by rw [← HXX.out, HFF.out, ← HJ.out]; rfl
 obtain ⟨g0, g1, g2, g3, g4, g5, g6⟩ := Q6.box.c7
 obtain ⟨r0, e0, r1, e1, r2, e2, r3, e3, r4, e4, r5, e5, r6, e6⟩ := Q6.res.seven
 go_wp2_with fail
 obtain ⟨hR, hV, hB⟩ := fin7 Q6.res Q6.nd Q6.hb (by omega) Q6.g2
 exact bodyPost_ret (results_cell_tmp rfl _ _ (w.heap.size + 1) 31 _ (0, 0) _ rfl hR Tryz.underlying31 rfl Tryz.sizeNode) rfl ⟨_, rfl, ⟨_, _, _, _, _, _, rfl, hV⟩, hB⟩

set_option maxRecDepth 100000 in
set_option maxHeartbeats 4000000 in
theorem send_ref {S : Nat → Prop} {v : Value} {d : NdS} (i : Int) (w : World) (h : NdR S w v d) (hS : ∀ k, S k → k < w.heap.size) :
  Calls Tryz.prog 13 #[v, .int .i64 i] w fun e w' => ∃ rv, e = .returned (.tuple #[rv, .int .i64 (otherE d i)]) ∧ PcR S w' rv (sendX d i) ∧ Below w.heap.size w w' := by
 obtain ⟨a1, c1, a2, c2, a3, c3, a4, c4, a5, c5, a6, c6, rfl, hF⟩ := h.form
 obtain ⟨w0, HW, G0, R0, HB0, hs0⟩ := lay2 w [.int .i64 d.self, .slice a1 d.st.clock.length c1, .slice a2 d.st.lives.length c2, .slice a3 d.st.tals.length c3, .slice a4 d.base.length c4, .slice a5 d.log.length c5, .slice a6 d.known.length c6] 31 [.bool false, .slice none 0 0, .slice none 0 0, .slice none 0 0, .slice none 0 0, .slice none 0 0] 35
 have Q0 := hide (FrN.mk G0.out R0.out (hF.more (b := w.heap.size + 1 + 1) HB0.out) HB0.out (mine_lt hS (Nat.le_of_eq hs0.out.symm) (by omega)) (by omega) (by omega))
 obtain ⟨E, HE⟩ : ∃ E, Hid (otherE d i = E) := ⟨_, rfl⟩
 obtain ⟨X, HX⟩ : ∃ X, Hid (sendX d i = X) := ⟨_, rfl⟩
 rw [HE.out, HX.out]
 unfold sendX at HX
 rw [HE.out] at HX
 unfold otherE at HE
 obtain ⟨N, HN⟩ : ∃ N, Hid (nodeE d = N) := ⟨_, rfl⟩
 rw [HN.out] at HE
 clear h hF G0 R0 HB0 hs0 hS
 obtain ⟨g0, g1, g2, g3, g4, g5, g6⟩ := Q0.box.c7
 go_enter Tryz.func13, Tryz.ntmps13
 go_upto_region 1 with fail
 rw [HW.out]
 go_wp2_with fail
 refine (wrongNode_ref _ d _ Q0.nd.node).mono ?_
 rintro e w1 ⟨rfl, hb1⟩
 rw [HN.out]
 have Q1 := hide (Q0.step hb1)
 clear g0 g1 g2 g3 g4 g5 g6 Q0 hb1
 by_cases hN : N = 0
 rotate_left
 ·have hN' : (N != 0) = true := by simp [hN]
  rw [if_neg hN] at HE
  obtain rfl := HE.out
  rw [if_neg hN] at HX
  obtain rfl := HX.out
  clear hN
  obtain ⟨r0, e0, r1, e1, r2, e2, r3, e3, r4, e4, r5, e5⟩ := Q1.res.six
  go_wp2_with fail
  obtain ⟨hR, hV, hB⟩ := fin6 (S := S) (p := noPcl) Q1.res PcF.none Q1.hb (by omega) Q1.g2
  exact bodyPost_ret (results_cell_tmp rfl _ _ (w.heap.size + 1) 35 _ (0, 0) _ rfl hR Tryz.underlying35 rfl Tryz.sizeParcel) rfl ⟨_, rfl, ⟨_, _, _, _, _, rfl, hV⟩, hB⟩
 have hN' : (N != 0) = false := by simp [hN]
 have hNz : nodeE d = 0 := by rw [HN.out]; exact hN
 rw [if_pos hN] at HE
 have HF := hide (fits_of hNz)
 have HO := hide (nodeE_zero.1 hNz)
 have HRL := hide (fun xs => right_log hNz (xs := xs))
 have HKL := hide HO.kl
 clear hNz hN
 have hkl := Q1.nd.kn.kn.len_le
 obtain ⟨g0, g1, g2, g3, g4, g5, g6⟩ := Q1.box.c7
 by_cases q0 : i < 0
 ·rw [if_neg (by omega)] at HE
  obtain rfl := HE.out
  obtain rfl := HX.out
  obtain ⟨r0, e0, r1, e1, r2, e2, r3, e3, r4, e4, r5, e5⟩ := Q1.res.six
  go_wp2_with fail
  obtain ⟨hR, hV, hB⟩ := fin6 (S := S) (p := noPcl) Q1.res PcF.none Q1.hb (by omega) Q1.g2
  exact bodyPost_ret (results_cell_tmp rfl _ _ (w.heap.size + 1) 35 _ (0, 0) _ rfl hR Tryz.underlying35 rfl Tryz.sizeParcel) rfl ⟨_, rfl, ⟨_, _, _, _, _, rfl, hV⟩, hB⟩
 by_cases q1 : (d.known.length : Int) ≤ i
 ·rw [if_neg (by have := HKL.out; omega)] at HE
  obtain rfl := HE.out
  obtain rfl := HX.out
  obtain ⟨r0, e0, r1, e1, r2, e2, r3, e3, r4, e4, r5, e5⟩ := Q1.res.six
  go_wp2_with fail
  obtain ⟨hR, hV, hB⟩ := fin6 (S := S) (p := noPcl) Q1.res PcF.none Q1.hb (by omega) Q1.g2
  exact bodyPost_ret (results_cell_tmp rfl _ _ (w.heap.size + 1) 35 _ (0, 0) _ rfl hR Tryz.underlying35 rfl Tryz.sizeParcel) rfl ⟨_, rfl, ⟨_, _, _, _, _, rfl, hV⟩, hB⟩
 rw [if_pos (by have := HKL.out; omega)] at HE
 by_cases q2 : i = d.self
 ·rw [if_pos q2] at HE
  obtain rfl := HE.out
  obtain rfl := HX.out
  have q2' : (i == d.self) = true := by simp [q2]
  clear q2
  obtain ⟨r0, e0, r1, e1, r2, e2, r3, e3, r4, e4, r5, e5⟩ := Q1.res.six
  go_wp2_with fail
  obtain ⟨hR, hV, hB⟩ := fin6 (S := S) (p := noPcl) Q1.res PcF.none Q1.hb (by omega) Q1.g2
  exact bodyPost_ret (results_cell_tmp rfl _ _ (w.heap.size + 1) 35 _ (0, 0) _ rfl hR Tryz.underlying35 rfl Tryz.sizeParcel) rfl ⟨_, rfl, ⟨_, _, _, _, _, rfl, hV⟩, hB⟩
 rw [if_neg q2] at HE
 obtain rfl := HE.out
 have q2' : (i == d.self) = false := by simp [q2]
 clear q2
 obtain ⟨k, rfl⟩ : ∃ k : Nat, i = k := ⟨i.toNat, by omega⟩
 obtain ⟨x, hx⟩ : ∃ x, d.known[k]? = some x := ⟨_, List.getElem?_eq_getElem (by omega)⟩
 rw [if_pos rfl, Int.toNat_natCast, List.getD_eq_getElem?_getD, hx, Option.getD_some] at HX
 have HXL : Hid (x.length = d.st.clock.length) := by
  have h1 := (HO.kg k (by omega)).1
  rw [List.getD_eq_getElem?_getD, hx, Option.getD_some] at h1
  have := goodC_iff.1 h1
  unfold Hid
  omega
 obtain ⟨b, off, a7, c7, rfl, hcell, hrow⟩ := Q1.nd.kn.kn.at hx
 have X1 := hide hrow
 have q1' : (k : Int) < (d.known.length : Int) := by omega
 obtain ⟨s1, HS1⟩ : ∃ s, Hid (seesC x d.base = s) := ⟨_, rfl⟩
 rw [HS1.out] at HX
 clear hrow hx
 have HK8 := hide fun w' (hg : Grew w1 w') => (And.intro (cell_grewC hg g6) (And.intro (cell_grewC hg g4) (cell_grewC hg hcell)))
 go_upto_region 8 with fail
 clear g0 g1 g2 g3 g4 g5 g6
 refine bD (fun _ => false) (fun _ => True) (grew_refl _) HK8.out fun wd hcd hHeld => ?_
 refine yD 0 (.pointer (some ⟨w.heap.size, 6, none⟩)) ?_
 refine yD 1 (.slice (some ⟨b, off, none⟩) d.known.length c6) ?_
 refine yD 2 (.int .i64 (k : Int)) ?_
 refine yD 3 (.pointer (some ⟨b, off + k, none⟩)) ?_
 refine yD 4 (.slice a7 x.length c7) ?_
 refine yD 5 (.pointer (some ⟨w.heap.size, 4, none⟩)) ?_
 refine yD 6 (.slice a4 d.base.length c4) ?_
 refine oD 7 fun K hK => ?_
 go_simp
 refine (sees_ref _ _ x d.base _ (X1.below hcd (nlr _)) (Q1.step hcd).nd.base.here).mono ?_
 rintro e w' ⟨rfl, hw'⟩
 rw [hw', HS1.out]
 clear hw' w'
 go_simp
 have hH_7 := HK8.out _ hcd
 refine kS hK hH_7 ?_
 clear hK K
 refine eD ?_
 obtain ⟨w2, rfl⟩ : ∃ w2, w2 = wd := ⟨wd, rfl⟩
 have Q2 := hide (Q1.step hcd)
 have X2 := hide (X1.below hcd (nlr _))
 cases s1
 rotate_left
 ·rw [if_pos rfl] at HX
  obtain rfl := HX.out
  obtain ⟨g0, g1, g2, g3, g4, g5, g6⟩ := Q2.box.c7
  have hcell := cell_grewC hcd hcell
  have HK9 := hide fun w' (hg : Grew w2 w') => (And.intro (cell_grewC hg g5) (And.intro (cell_grewC hg g6) (And.intro (cell_grewC hg g1) (cell_grewC hg hcell))))
  go_upto_region 9 with fail
  clear g0 g1 g2 g3 g4 g5 g6 hcd
  refine bD (fun i => i == 12 || i == 13) (fun _ => True) (grew_refl _) HK9.out fun wd hcd hHeld => ?_
  refine yD 0 (.pointer (some ⟨w.heap.size, 5, none⟩)) ?_
  refine yD 1 (.slice a5 d.log.length c5) ?_
  refine yD 2 (.pointer (some ⟨w.heap.size, 6, none⟩)) ?_
  refine yD 3 (.slice (some ⟨b, off, none⟩) d.known.length c6) ?_
  refine yD 4 (.int .i64 (k : Int)) ?_
  refine yD 5 (.pointer (some ⟨b, off + k, none⟩)) ?_
  refine yD 6 (.slice a7 x.length c7) ?_
  refine yD 8 (.pointer (some ⟨w.heap.size, 1, none⟩)) ?_
  refine yD 9 (.pointer (some ⟨w.heap.size, 1, none⟩)) ?_
  refine yD 10 (.slice a1 d.st.clock.length c1) ?_
  refine oD 7 fun K hK => ?_
  go_simp
  refine (lacks_fix _ (Q2.step hcd).nd.log (X2.below hcd (nlr _)) (HRL.out x HXL.out) (by have := HF.few; omega) (Q2.step hcd).lt rfl).mono ?_
  rintro e w_7 ⟨v7, rfl, ho7, hb_7⟩
  obtain ⟨aL, cL, rfl, -⟩ := id ho7.log
  go_simp
  have hg_7 : Grew w2 w_7 := grew_step hcd hb_7
  have hH_7 := HK9.out _ hg_7
  refine kS hK hH_7 ?_
  clear hK K
  refine yD 11 (.agg #[.bool false, .slice none 0 0, .slice none 0 0, .slice none 0 0, .slice aL (lacksL d.log x).length cL, .slice a1 d.st.clock.length c1]) ?_
  refine oD 12 fun K hK => ?_
  have Q7 := hide (Q2.step hg_7)
  obtain ⟨r0, e0, r1, e1, r2, e2, r3, e3, r4, e4, r5, e5⟩ := Q7.res.six
  go_simp
  refine kD hK (trivial) ?_
  clear hK K
  refine oD 13 fun K hK => ?_
  go_simp
  refine kD hK (trivial) ?_
  clear hK K
  refine eD ?_
  go_wp2_with fail
  obtain ⟨hR, hV, hB⟩ := fin6 (S := S) (p := ⟨false, ⟨[], [], []⟩, lacksL d.log x, d.st.clock⟩) Q7.res ⟨PcF.none.st, ho7, fix_clock Q7.nd.st⟩ Q7.hb (by omega) Q7.g2
  exact bodyPost_ret (results_cell_tmp rfl _ _ (w.heap.size + 1) 35 _ (0, 0) _ rfl hR Tryz.underlying35 rfl Tryz.sizeParcel) rfl ⟨_, rfl, ⟨_, _, _, _, _, rfl, hV⟩, hB⟩
 rw [if_neg (by decide)] at HX
 obtain rfl := HX.out
 obtain ⟨g0, g1, g2, g3, g4, g5, g6⟩ := Q2.box.c7
 obtain ⟨r0, e0, r1, e1, r2, e2, r3, e3, r4, e4, r5, e5⟩ := Q2.res.six
 go_wp2_with fail
 obtain ⟨hR, hV, hB⟩ := fin6 (S := S) (p := ⟨true, d.st, [], d.st.clock⟩) Q2.res ⟨Q2.nd.st, PcF.none.ups, fix_clock Q2.nd.st⟩ Q2.hb (by omega) Q2.g2
 exact bodyPost_ret (results_cell_tmp rfl _ _ (w.heap.size + 1) 35 _ (0, 0) _ rfl hR Tryz.underlying35 rfl Tryz.sizeParcel) rfl ⟨_, rfl, ⟨_, _, _, _, _, rfl, hV⟩, hB⟩
end Go.Proofs.YtfhecilhcofboaaGreat
