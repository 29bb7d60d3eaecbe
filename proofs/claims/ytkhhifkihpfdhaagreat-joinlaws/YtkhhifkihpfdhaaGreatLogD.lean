/- log.keep and log.Lacks: those updates of a log that a clock has not seen. -/
import Derived.Test.YtkhhifkihpfdhaaGreatLogC
namespace Go.Proofs.YtkhhifkihpfdhaaGreat
open Go.RowKit

theorem or_map {a b c d : Prop} (h : a ∨ b) (f : a → c) (g : b → d) : c ∨ d := by
  rcases h with h | h
  · exact .inl (f h)
  · exact .inr (g h)
/-- Those that a clock lacks. -/
def lacksL (l : List Upd) (xs : List Int) : List Upd := l.filter fun u => !seenU u xs
theorem lacksL_take {l : List Upd} {k : Nat} {u : Upd} (xs : List Int) (h : l[k]? = some u) : lacksL (l.take (k + 1)) xs = if seenU u xs then lacksL (l.take k) xs else lacksL (l.take k) xs ++ [u] := by
  unfold lacksL
  rw [take_one h, List.filter_append]
  cases hs : seenU u xs <;> simp [hs]
/-- An update that is small enough to be copied, and whose author is one of its own. -/
def Small (u : Upd) : Prop := FitU u ∧ u.seen.length ≤ 6
theorem small_of {u : Upd} {n : Int} (h : wrongU u n = 0) : Small u := by
  obtain ⟨hcc, -⟩ := wrongU_right h
  have := wrongC_ok hcc
  exact ⟨fitU_of h, by omega⟩

/-- The read of update k of a log. -/
theorem LogV.at {w : World} {a : Option Addr} {m c : Nat} {l : List Upd} (h : LogV w (.slice a m c) l) {k : Nat} {u : Upd} (hu : l[k]? = some u) :
    ∃ b off a5 cap5, a = some ⟨b, off, none⟩ ∧ w.cell? ⟨b, off + k * 5, none⟩ = some (.int .i64 u.author) ∧ w.cell? ⟨b, off + k * 5 + 1, none⟩ = some (.slice a5 u.seen.length cap5) ∧ w.cell? ⟨b, off + k * 5 + 2, none⟩ = some (.int .i64 u.kind) ∧ w.cell? ⟨b, off + k * 5 + 3, none⟩ = some (.int .i64 u.key) ∧ w.cell? ⟨b, off + k * 5 + 4, none⟩ = some (.int .i64 u.item) ∧
      Row w (.slice a5 u.seen.length cap5) u.seen ∧ IsUpd w (.agg #[.int .i64 u.author, .slice a5 u.seen.length cap5, .int .i64 u.kind, .int .i64 u.key, .int .i64 u.item]) u := by
  obtain ⟨c1, c2, hv, hc2, hc3, hcell⟩ := h
  obtain ⟨b, off, rfl, sv, hsv, d0, d1, d2, d3, d4⟩ := hcell k u hu
  obtain ⟨a5, cap5, rfl, -, -, -⟩ := id hsv
  simp only [Value.slice.injEq] at hv
  obtain ⟨rfl, -, rfl⟩ := hv
  exact ⟨b, off, a5, cap5, rfl, d0, d1, d2, d3, d4, hsv, _, rfl, hsv⟩

theorem Row.one {w : World} {v : Value} {xs : List Int} (h : Row w v xs) : v.oneCell' = true := by
  obtain ⟨a, cap, rfl, -⟩ := h
  rfl
theorem cellsU_one {u : Upd} {sv : Value} (h : sv.oneCell' = true) : ∀ q ∈ cellsU u sv, q.oneCell' = true := by
  intro q hq
  simp only [cellsU, List.mem_cons, List.not_mem_nil, or_false] at hq
  rcases hq with rfl | rfl | rfl | rfl | rfl
  · rfl
  · exact h
  · rfl
  · rfl
  · rfl
/-- A row of updates of the call's own, their Seen too. -/
def LogO (w : World) (B : Nat) (v : Value) (ps : List (Upd × Value)) : Prop := OwnP (Own w B) w B v ps
theorem LogO.below {w w' : World} {B C : Nat} {v : Value} {ps : List (Upd × Value)} (h : LogO w B v ps) (hb : Below C w w') (hC : w.heap.size ≤ C) : LogO w' B v ps :=
  ⟨ownsRow_below h.1 hb hC, fun p hp => (h.2 p hp).below hb hC⟩
theorem LogO.alloc {w : World} {B : Nat} {v : Value} {ps : List (Upd × Value)} (h : LogO w B v ps) (o : Obj) : LogO (w.alloc o) B v ps := h.below ((Below.refl w.heap.size _).alloc (Nat.le_refl _) o) (Nat.le_refl _)
theorem LogO.log {w : World} {B : Nat} {v : Value} {ps : List (Upd × Value)} (h : LogO w B v ps) : LogV w v (ps.map (·.1)) := OwnP.log h fun _ _ h => h.row
theorem LogO.more {w w' : World} {B : Nat} {v v' sv : Value} {ps : List (Upd × Value)} {u : Upd} (h : LogO w B v ps) (hs : Own w B sv u.seen) (ho : w'.ownsRow B 52 5 v' (ps.length + 1) (cellsP ps ++ cellsU u sv)) (hg : w.grownBy w' v.ownBlock) : LogO w' B v' (ps ++ [(u, sv)]) := by
  refine ⟨by rw [cellsP_snoc]; simpa using ho, fun p hp => ?_⟩
  rcases List.mem_append.1 hp with hp | hp
  · exact (h.2 p hp).grown h.1 hg
  · simp at hp; subst hp; exact hs.grown h.1 hg

set_option maxRecDepth 100000 in
set_option maxHeartbeats 2000000 in
theorem keep_log (lv cv : Value) (l : List Upd) (g : Nat) (xs : List Int) (w : World) (hl : LogV w lv l) (hg : Box w g [cv] 24) (hc : Row w cv xs) (hs : ∀ u ∈ l, Small u) (hn : l.length ≤ 1000000) :
    Calls Tryz.prog 115 #[lv, .func (Fn.func 116) #[] #[.pointer (some ⟨g, 0, none⟩)]] w fun e w' => ∃ rv, e = .returned rv ∧ LogV w' rv (lacksL l xs) ∧ Below w.heap.size w w' := by
  obtain ⟨i0, hi, hz0, hz1, hz2⟩ := info_parts Tryz.infoUpd
  obtain ⟨a', cap', rfl, -, -, -⟩ := id hl
  have HL := hide hl
  have HG := hide hg
  have HC := hide hc
  have HS := hide hs
  clear hl hg hc hs
  go_enter Tryz.func115, Tryz.ntmps115
  go_wp2_with fail
  go_loopw [5, 10] (fun o i wr => ∃ (k : Nat) (ps : List (Upd × Value)), k ≤ l.length ∧ i = .int .i64 k ∧ Hid (ps.map (·.1) = lacksL (l.take k) xs) ∧ Hid (LogO wr w.heap.size o ps) ∧ Hid (Below w.heap.size w wr)) (fun _ i _ => l.length - (intOf i).toNat)
  case atStart => exact ⟨0, [], Nat.zero_le _, rfl, rfl, ⟨World.ownsRow_nil _ _ _ _, fun p hp => by simp at hp⟩, Below.refl _ _⟩
  case round =>
    obtain ⟨k, ps, hk, rfl, HP, O0, HB0⟩ := hrel
    obtain ⟨w0, rfl⟩ : ∃ w0, w0 = wr := ⟨wr, rfl⟩
    have L0 := hide (HL.out.below HB0.out (Nat.le_refl _))
    have G0 := hide (HG.out.below HB0.out (Nat.le_refl _))
    have C0 := hide (HC.out.below HB0.out (Nat.le_refl _))
    clear HL HG HC
    by_cases hlt : k < l.length
    · obtain ⟨u, hu⟩ : ∃ u, l[k]? = some u := ⟨_, List.getElem?_eq_getElem hlt⟩
      obtain ⟨hf, h6⟩ := HS.out u (List.mem_of_getElem? hu)
      have HF := hide hf
      have hpl : Hid (ps.length ≤ 1000000) := by
        have := congrArg List.length HP.out
        have h2 := List.length_filter_le (fun u => !seenU u xs) (l.take k)
        have h3 := List.length_take (i := k) (l := l)
        simp only [List.length_map] at this
        unfold lacksL at this
        unfold Hid
        omega
      obtain ⟨b, off, a5, cap5, rfl, d0, d1, d2, d3, d4, -, hU⟩ := L0.out.at hu
      have U0 := hide hU
      clear hU hf
      have hlt' : (k : Int) < (l.length : Int) := by omega
      have HT := hide (lacksL_take xs hu)
      cases hsn : seenU u xs
      · rw [hsn] at HT
        have hnot : (!false) = true := rfl
        have HB1 := hide (below_step HB0.out (Below.plus (Below.refl _ w0) (.cells #[.int .i64 u.author, .slice a5 u.seen.length cap5, .int .i64 u.kind, .int .i64 u.key, .int .i64 u.item] 52)))
        have L1 := hide (L0.out.below (Below.plus (Below.refl _ w0) (.cells #[.int .i64 u.author, .slice a5 u.seen.length cap5, .int .i64 u.kind, .int .i64 u.key, .int .i64 u.item] 52)) (Nat.le_refl _))
        have G1 := hide (G0.out.below (Below.plus (Below.refl _ w0) (.cells #[.int .i64 u.author, .slice a5 u.seen.length cap5, .int .i64 u.kind, .int .i64 u.key, .int .i64 u.item] 52)) (Nat.le_refl _))
        have C1 := hide (C0.out.below (Below.plus (Below.refl _ w0) (.cells #[.int .i64 u.author, .slice a5 u.seen.length cap5, .int .i64 u.kind, .int .i64 u.key, .int .i64 u.item] 52)) (Nat.le_refl _))
        have U1 := hide (U0.out.below (Below.plus (Below.refl _ w0) (.cells #[.int .i64 u.author, .slice a5 u.seen.length cap5, .int .i64 u.kind, .int .i64 u.key, .int .i64 u.item] 52)) (Nat.le_refl _))
        have O1 := hide (O0.out.below (Below.plus (Below.refl _ w0) (.cells #[.int .i64 u.author, .slice a5 u.seen.length cap5, .int .i64 u.kind, .int .i64 u.key, .int .i64 u.item] 52)) (Nat.le_refl _))
        have V1 := hide (Box.new w0 [.int .i64 u.author, .slice a5 u.seen.length cap5, .int .i64 u.kind, .int .i64 u.key, .int .i64 u.item] 52)
        clear HB0 L0 G0 C0 U0 O0
        go_wp2_with fail
        refine (lacks_fn _ u g cv xs _ U1.out G1.out C1.out HF.out).mono ?_
        rintro e w2 ⟨rfl, hb⟩
        have HB2 := hide (below_step HB1.out hb)
        have L2 := hide (L1.out.below hb (Nat.le_refl _))
        have G2 := hide (G1.out.below hb (Nat.le_refl _))
        have C2 := hide (C1.out.below hb (Nat.le_refl _))
        have U2 := hide (U1.out.below hb (Nat.le_refl _))
        have O2 := hide (O1.out.below hb (Nat.le_refl _))
        have V2 := hide (V1.out.below hb (Nat.le_refl _))
        clear HB1 hb L1 G1 C1 U1 O1 V1
        rw [hsn]
        have cV0 := V2.out.get 0 rfl
        have cV1 := V2.out.get 1 rfl
        have cV2 := V2.out.get 2 rfl
        have cV3 := V2.out.get 3 rfl
        have cV4 := V2.out.get 4 rfl
        have hsz := HB2.out.size
        go_wp2_with fail
        refine (copy_upd _ u _ U2.out (by omega)).mono ?_
        rintro e w3 ⟨vN, rfl, ho, hb⟩
        have HB3 := hide (below_step HB2.out hb)
        have L3 := hide (L2.out.below hb (Nat.le_refl _))
        have G3 := hide (G2.out.below hb (Nat.le_refl _))
        have C3 := hide (C2.out.below hb (Nat.le_refl _))
        have U3 := hide (U2.out.below hb (Nat.le_refl _))
        have O3 := hide (O2.out.below hb (Nat.le_refl _))
        have V3 := hide (V2.out.below hb (Nat.le_refl _))
        have N3 := hide ho
        clear HB2 hb L2 G2 C2 U2 O2 V2
        clear ho
        replace N3 := hide (Own.mono N3.out hsz)
        go_wp2_with (at_builtin; refine wpList_append_own _ rfl (.tmp 17) (.tmp 20) 22 rfl w.heap.size 52 i0 (.agg #[.int .i64 0, .slice none 0 0, .int .i64 0, .int .i64 0, .int .i64 0]) 5 56 Tryz.underlying22 hi hz0 hz1 hz2 rfl (by decide) _ _ _ rfl (O3.out.alloc _).1 ⟨w3.heap.size, 0, none⟩ 1 1 (cellsU u vN) rfl rfl ?c1 ?c2 ?c3 ?c4 ?c5 ?_)
        case c1 => intro j q hj; match j, hj with | 0, hj => (simp [cellsU] at hj; subst hj; simp [Addr.add]) | 1, hj => (simp [cellsU] at hj; subst hj; simp [Addr.add]) | 2, hj => (simp [cellsU] at hj; subst hj; simp [Addr.add]) | 3, hj => (simp [cellsU] at hj; subst hj; simp [Addr.add]) | 4, hj => (simp [cellsU] at hj; subst hj; simp [Addr.add]) | (j + 5), hj => simp [cellsU] at hj
        case c2 => exact cellsU_one N3.out.row.one
        case c3 => unfold maxLen; have := hpl.out; omega
        case c4 => have := hpl.out; omega
        case c5 => have := HB3.out.size; simp; omega
        intro v' w4 hown' hgrow _
        have HB4 := hide (((Below.plus HB3.out _).grown hgrow (by have := HB3.out.size; simp; omega) (fun g hg => (O3.out.1.lt g hg).1)))
        have O4 := hide ((O3.out.alloc _).more (Own.below N3.out ((Below.refl w3.heap.size w3).alloc (Nat.le_refl _) _) (Nat.le_refl _)) hown' hgrow)
        clear hown' hgrow
        go_wp2_with fail
        go_roundw
        case rel => exact ⟨k + 1, ps ++ [(u, vN)], by omega, by go_num, hide (by rw [HT.out, List.map_append, HP.out]; rfl), O4, HB4⟩
        case measure => simp [intOf]; omega
      · rw [hsn] at HT
        have HB1 := hide (below_step HB0.out (Below.plus (Below.refl _ w0) (.cells #[.int .i64 u.author, .slice a5 u.seen.length cap5, .int .i64 u.kind, .int .i64 u.key, .int .i64 u.item] 52)))
        have L1 := hide (L0.out.below (Below.plus (Below.refl _ w0) (.cells #[.int .i64 u.author, .slice a5 u.seen.length cap5, .int .i64 u.kind, .int .i64 u.key, .int .i64 u.item] 52)) (Nat.le_refl _))
        have G1 := hide (G0.out.below (Below.plus (Below.refl _ w0) (.cells #[.int .i64 u.author, .slice a5 u.seen.length cap5, .int .i64 u.kind, .int .i64 u.key, .int .i64 u.item] 52)) (Nat.le_refl _))
        have C1 := hide (C0.out.below (Below.plus (Below.refl _ w0) (.cells #[.int .i64 u.author, .slice a5 u.seen.length cap5, .int .i64 u.kind, .int .i64 u.key, .int .i64 u.item] 52)) (Nat.le_refl _))
        have U1 := hide (U0.out.below (Below.plus (Below.refl _ w0) (.cells #[.int .i64 u.author, .slice a5 u.seen.length cap5, .int .i64 u.kind, .int .i64 u.key, .int .i64 u.item] 52)) (Nat.le_refl _))
        have O1 := hide (O0.out.below (Below.plus (Below.refl _ w0) (.cells #[.int .i64 u.author, .slice a5 u.seen.length cap5, .int .i64 u.kind, .int .i64 u.key, .int .i64 u.item] 52)) (Nat.le_refl _))
        have V1 := hide (Box.new w0 [.int .i64 u.author, .slice a5 u.seen.length cap5, .int .i64 u.kind, .int .i64 u.key, .int .i64 u.item] 52)
        clear HB0 L0 G0 C0 U0 O0
        go_wp2_with fail
        refine (lacks_fn _ u g cv xs _ U1.out G1.out C1.out HF.out).mono ?_
        rintro e w2 ⟨rfl, hb⟩
        have HB2 := hide (below_step HB1.out hb)
        have L2 := hide (L1.out.below hb (Nat.le_refl _))
        have G2 := hide (G1.out.below hb (Nat.le_refl _))
        have C2 := hide (C1.out.below hb (Nat.le_refl _))
        have U2 := hide (U1.out.below hb (Nat.le_refl _))
        have O2 := hide (O1.out.below hb (Nat.le_refl _))
        have V2 := hide (V1.out.below hb (Nat.le_refl _))
        clear HB1 hb L1 G1 C1 U1 O1 V1
        rw [hsn]
        go_wp2_with fail
        go_roundw
        case rel => exact ⟨k + 1, ps, by omega, by go_num, hide (by rw [HT.out, HP.out]; rfl), O2.out, HB2.out⟩
        case measure => simp [intOf]; omega
    · have hkl : l.take k = l := List.take_of_length_le (by omega)
      rw [hkl] at HP
      have hlt' : ¬ (k : Int) < (l.length : Int) := by omega
      go_wp2_with fail
      go_ret
      exact ⟨_, rfl, by rw [← HP.out]; exact O0.out.log, HB0.out⟩

set_option maxRecDepth 100000 in
set_option maxHeartbeats 1000000 in
theorem lacks_log (lv cv : Value) (l : List Upd) (xs : List Int) (w : World) (hl : LogV w lv l) (hc : Row w cv xs) (hs : ∀ u ∈ l, Small u) (hn : l.length ≤ 1000000) :
    Calls Tryz.prog 65 #[lv, cv] w fun e w' => ∃ rv, e = .returned rv ∧ LogV w' rv (lacksL l xs) ∧ Below w.heap.size w w' := by
  obtain ⟨a', cap', rfl, -, -, -⟩ := id hl
  obtain ⟨a, cap, rfl, -, -, -⟩ := id hc
  have L0 := hide (hl.alloc (.cells #[.slice a xs.length cap] 24))
  have C0 := hide (hc.alloc (.cells #[.slice a xs.length cap] 24))
  have G0 := hide (Box.new w [.slice a xs.length cap] 24)
  have HB0 := hide (Below.plus (Below.refl w.heap.size w) (.cells #[.slice a xs.length cap] 24))
  clear hl hc
  go_enter Tryz.func65, Tryz.ntmps65
  go_wp2_with fail
  refine (keep_log _ _ l w.heap.size xs _ L0.out G0.out C0.out hs hn).mono ?_
  rintro e w1 ⟨rv, rfl, h, hb⟩
  have H := hide h
  have HB1 := hide (below_step HB0.out hb)
  clear h hb
  go_wp2_with fail
  go_ret
  exact ⟨_, rfl, H.out, HB1.out⟩
end Go.Proofs.YtkhhifkihpfdhaaGreat
