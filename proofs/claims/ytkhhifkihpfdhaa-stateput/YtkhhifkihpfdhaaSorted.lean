/- log.Sorted: all of a log, one behind the other, at each place of those that fit the one of the least author. -/
import Derived.Test.YtkhhifkihpfdhaaSortI
import Derived.Deep.RegionWith
namespace Go.Proofs.Ytkhhifkihpfdhaa
open Go.RowKit

def sortN : Nat → List Int → List Upd → List Upd
  | 0, _, _ => []
  | n + 1, xs, l => match l[leastL xs l]? with
    | some u => u :: sortN n (tickC xs u.author) (l.eraseIdx (leastL xs l))
    | none => []
/-- The log in order. -/
def sortL (xs : List Int) (l : List Upd) : List Upd := sortN l.length xs l
theorem leastL_lt {xs : List Int} {l : List Upd} (h : 0 < l.length) : leastL xs l < l.length := bestL_lt xs l h l.length (Nat.le_refl _)
theorem sortL_step {xs : List Int} {l : List Upd} {u : Upd} (h : 0 < l.length) (hu : l[leastL xs l]? = some u) : sortL xs l = u :: sortL (tickC xs u.author) (l.eraseIdx (leastL xs l)) := by
  have hl : (l.eraseIdx (leastL xs l)).length = l.length - 1 := by rw [List.length_eraseIdx, if_pos (leastL_lt h)]
  unfold sortL
  rw [hl]
  obtain ⟨n, hn⟩ : ∃ n, l.length = n + 1 := ⟨l.length - 1, by omega⟩
  rw [hn, Nat.add_sub_cancel, sortN, hu]
theorem map_erase (ps : List (Upd × Value)) (k : Nat) : (ps.eraseIdx k).map (·.1) = (ps.map (·.1)).eraseIdx k := by
  rw [List.eraseIdx_eq_take_drop_succ, List.eraseIdx_eq_take_drop_succ, List.map_append, List.map_take, List.map_drop]
def lenV : Value → Nat
  | .slice _ n _ => n
  | _ => 0

set_option maxRecDepth 100000 in
set_option maxHeartbeats 8000000 in
theorem sorted_ok (v lv : Value) (xs : List Int) (l : List Upd) (n : Int) (w : World) (h : Row w v xs) (hl : LogV w lv l) (hE : clockE xs l n = 0) (hsm : ∀ u ∈ l, Small u) (hx6 : xs.length ≤ 6) (hn : l.length ≤ 300) (hA : clockA xs l n = 0) :
    Calls Try.prog 21 #[v, lv, .int .i64 n] w fun e w' => ∃ rv, e = .returned (.tuple #[rv, .agg #[.int .i64 0, .int .i64 0]]) ∧ LogV w' rv (sortL xs l) ∧ Below w.heap.size w w' := by
  obtain ⟨i0, hi, hz0, hz1, hz2⟩ := info_parts Try.infoUpd
  obtain ⟨a, cap, rfl, -, -, -⟩ := id h
  obtain ⟨a', cap', rfl, -, -, -⟩ := id hl
  have HR := hide h
  have HL := hide hl
  have HE := hide hE
  have HA := hide hA
  have HSM := hide hsm
  have Z0 := hide (Box.new w [.int .i64 0, .int .i64 0] 31)
  have HB0 := hide (Below.plus (Below.refl w.heap.size w) (.cells #[.int .i64 0, .int .i64 0] 31))
  have C0 := hide (h.alloc (.cells #[.int .i64 0, .int .i64 0] 31))
  have L0 := hide (hl.alloc (.cells #[.int .i64 0, .int .i64 0] 31))
  clear h hl hE hA hsm
  go_enter Try.func21, Try.ntmps21
  go_wp2_with fail
  refine (clock_log _ _ xs l n _ C0.out L0.out).mono ?_
  rintro e w1 ⟨vK, rfl, hK, hb⟩
  have HB1 := hide (below_step HB0.out hb)
  have Z1 := hide (Z0.out.below hb (Nat.le_refl _))
  have C1 := hide (C0.out.below hb (Nat.le_refl _))
  have L1 := hide (L0.out.below hb (Nat.le_refl _))
  have K1 := hide hK
  clear HB0 hb Z0 C0 L0
  rw [HE.out, HA.out]
  have hg1 := Z1.out.lt
  obtain ⟨aK, cK, hvK, -, -, -⟩ := hK
  subst hvK
  clear K1
  have HB2 := hide (below_step HB1.out (Below.plus (Below.refl _ w1) (.cells #[.int .i64 0, .int .i64 0] 31)))
  have Z2 := hide (Z1.out.below (Below.plus (Below.refl _ w1) (.cells #[.int .i64 0, .int .i64 0] 31)) (Nat.le_refl _))
  have C2 := hide (C1.out.below (Below.plus (Below.refl _ w1) (.cells #[.int .i64 0, .int .i64 0] 31)) (Nat.le_refl _))
  have L2 := hide (L1.out.below (Below.plus (Below.refl _ w1) (.cells #[.int .i64 0, .int .i64 0] 31)) (Nat.le_refl _))
  have F2 := hide (Box.new w1 [.int .i64 0, .int .i64 0] 31)
  clear HB1 Z1 C1 L1
  have HB3 := hide (below_step HB2.out (Below.plus (Below.refl _ (w1.alloc (.cells #[.int .i64 0, .int .i64 0] 31))) (.cells #[.slice a xs.length cap] 23)))
  have Z3 := hide (Z2.out.below (Below.plus (Below.refl _ (w1.alloc (.cells #[.int .i64 0, .int .i64 0] 31))) (.cells #[.slice a xs.length cap] 23)) (Nat.le_refl _))
  have C3 := hide (C2.out.below (Below.plus (Below.refl _ (w1.alloc (.cells #[.int .i64 0, .int .i64 0] 31))) (.cells #[.slice a xs.length cap] 23)) (Nat.le_refl _))
  have L3 := hide (L2.out.below (Below.plus (Below.refl _ (w1.alloc (.cells #[.int .i64 0, .int .i64 0] 31))) (.cells #[.slice a xs.length cap] 23)) (Nat.le_refl _))
  have F3 := hide (F2.out.below (Below.plus (Below.refl _ (w1.alloc (.cells #[.int .i64 0, .int .i64 0] 31))) (.cells #[.slice a xs.length cap] 23)) (Nat.le_refl _))
  have S3 := hide (Box.new (w1.alloc (.cells #[.int .i64 0, .int .i64 0] 31)) [.slice a xs.length cap] 23)
  clear HB2 Z2 C2 L2 F2
  go_wp2_with fail
  refine (clone_fn _ l w _ HB3.out HL.out (by omega)).mono ?_
  rintro e w4 ⟨vl, rfl, hps, hb⟩
  have HB4 := hide (below_step HB3.out hb)
  have Z4 := hide (Z3.out.below hb (Nat.le_refl _))
  have S4 := hide (S3.out.below hb (Nat.le_refl _))
  simp only [World.size_alloc] at hps S4
  clear hb
  obtain ⟨gS, HGS⟩ : ∃ gS, Hid (w1.heap.size + 1 = gS) := ⟨_, rfl⟩
  have hgR : w.heap.size < gS := by rw [← HGS.out]; omega
  rw [HGS.out] at hps S4
  obtain ⟨ps0, hleft, hpm⟩ := hps
  clear HB3 Z3 C3 L3 F3 S3
  go_wp2_with (at_make; refine wpList_make_own _ rfl _ _ 28 rfl (gS + 1) 47 i0 (.agg #[.int .i64 0, .slice none 0 0, .int .i64 0, .int .i64 0, .int .i64 0]) 5 Try.underlying28 hi hz0 hz1 _ _ _ l.length rfl rfl rfl ?b2 ?b3 ?b4 ?_)
  case b2 => rw [hz2]; omega
  case b3 => unfold maxLen; omega
  case b4 => exact S4.out.lt
  intro w5 hown hgrow
  have hb5 : Below w4.heap.size w4 w5 := (Below.refl _ _).grown hgrow (Nat.le_refl _) (fun k hk => by cases hk)
  have I0 : Hid (SortI w gS vl (.slice (some ⟨w4.heap.size, 0, none⟩) 0 l.length) (.slice a xs.length cap) ps0 [] xs w5) := by
    refine ⟨Z4.out.below hb5 (Nat.le_refl _), S4.out.below hb5 (Nat.le_refl _), hleft.step hb5 (Nat.le_refl _), ⟨hown, fun p hp => by simp at hp⟩, fun g e e2 => ?_, .inl HR.out, below_step HB4.out hb5, hgR⟩
    obtain ⟨⟨cur, h1⟩, -⟩ := row_blk hleft.1 e
    have := lt_of_block h1
    simp only [Value.ownBlock, Option.some.injEq] at e2
    omega
  have HPM := hide hpm
  clear hown hgrow hb5 hleft hpm HB4 Z4 S4 hg1
  rw [HGS.out]
  go_wp2_with fail
  go_loopw [12, 13] (fun vl vo wr => ∃ (ps qs : List (Upd × Value)) (X : List Int) (cv : Value), Hid (SortI w gS vl vo cv ps qs X wr) ∧ Hid (qs.map (·.1) ++ sortL X (ps.map (·.1)) = sortL xs l) ∧ Hid (∀ p ∈ ps, Small p.1) ∧ Hid (ps.length + qs.length = l.length) ∧ Hid (X.length ≤ 6)) (fun vl _ _ => lenV vl)
  case atStart =>
    refine ⟨ps0, [], xs, _, I0, by rw [HPM.out]; rfl, fun q hq => HSM.out _ ?_, ?_, hx6⟩
    · rw [← HPM.out]; exact List.mem_map_of_mem hq
    · rw [← HPM.out]; simp [Hid]
  case round =>
    obtain ⟨ps, qs, X, cv, I1, HQ, HSP, HLN, HX6⟩ := hrel
    clear I0 HPM
    obtain ⟨m, HM⟩ : ∃ m, Hid (ps.length = m) := ⟨_, rfl⟩
    by_cases hm : m = 0
    · subst hm
      have h0 : ps = [] := List.eq_nil_of_length_eq_zero HM.out
      subst h0
      obtain ⟨a1, c1, hv1, -, -, -⟩ := I1.out.log
      obtain ⟨a2, c2, hv2, -, -, -⟩ := I1.out.out.log
      simp only [List.map_nil, List.length_nil, List.length_map] at hv1 hv2
      subst hv1
      subst hv2
      have z0 := I1.out.res.get 0 rfl
      have z1 := I1.out.res.get 1 rfl
      have f0 := I1.out.res.free 0
      have f1 := I1.out.res.free 1
      go_wp2_with fail
      have hZ := (I1.out.res.set 0 (.int .i64 0)).set 1 (.int .i64 0)
      have hlo : LogO ((wr.setCell ⟨w.heap.size, 0, none⟩ (.int .i64 0)).setCell ⟨w.heap.size, 1, none⟩ (.int .i64 0)) (gS + 1) (.slice a2 qs.length c2) qs :=
        ⟨ownsRow_setCell_below (ownsRow_setCell_below I1.out.out.1 (show w.heap.size < gS + 1 by omega) _) (show w.heap.size < gS + 1 by omega) _, fun p hp => ((I1.out.out.2 p hp).away (by omega) _ _).away (by omega) _ _⟩
      refine bodyPost_ret (results_tmp_cell rfl _ _ w.heap.size 31 _ (0, 0) _ rfl hZ Try.underlying31 rfl Try.sizeFault) rfl ⟨_, rfl, ?_, (I1.out.hB.setCell (Nat.le_refl _) _).setCell (Nat.le_refl _) _⟩
      have hq := HQ.out
      simp only [List.map_nil, sortL, sortN, List.length_nil, List.append_nil] at hq
      rw [sortL, ← hq]
      exact hlo.log
    · have hpos : 0 < ps.length := by rw [HM.out]; omega
      obtain ⟨g, c1, hv1⟩ : ∃ g c1, u12 = .slice (some ⟨g, 0, none⟩) ps.length c1 := by
        rcases I1.out.left.1.2 with ⟨-, h0⟩ | ⟨g, cap, cur, hv, -⟩
        · omega
        · exact ⟨g, cap, hv⟩
      subst hv1
      obtain ⟨hHold, -, hmc, hcm⟩ := I1.out.holds
      obtain ⟨ac, cc, hcv, -, -, -⟩ := I1.out.row
      subst hcv
      have hml : ps.length ≤ 300 := by have := HLN.out; omega
      rw [HM.out] at I1 hpos hmc hml ⊢
      have hpos' : (0 : Int) < (m : Int) := by omega
      have LL : LogV wr (.slice (some ⟨g, 0, none⟩) m c1) (ps.map (·.1)) := I1.out.log
      have hmm : (ps.map (·.1)).length = m := by rw [List.length_map]; exact HM.out
      have HSP2 : Hid (∀ u ∈ ps.map (·.1), Small u) := fun u hu => by obtain ⟨q, hq, rfl⟩ := List.mem_map.1 hu; exact HSP.out q hq
      go_wp2_with fail
      refine (least_log _ _ (ps.map (·.1)) gS X _ LL I1.out.box I1.out.row HSP2.out (by omega) (by omega)).mono ?_
      rintro e w6 ⟨rfl, hb6⟩
      have I2 := hide (I1.out.below hb6 (Nat.le_refl _))
      clear I1 hHold LL hb6
      have hKl := leastL_lt (xs := X) (l := ps.map (·.1)) (by omega)
      obtain ⟨K, HK⟩ : ∃ K, Hid (leastL X (ps.map (·.1)) = K) := ⟨_, rfl⟩
      rw [HK.out, hmm] at hKl
      rw [HK.out]
      obtain ⟨u, hu⟩ : ∃ u, (ps.map (·.1))[K]? = some u := ⟨_, List.getElem?_eq_getElem (by omega)⟩
      have HST := hide (sortL_step (xs := X) (l := ps.map (·.1)) (by omega) (by rw [HK.out]; exact hu))
      rw [HK.out] at HST
      have hsu := HSP2.out u (List.mem_of_getElem? hu)
      have HU := hide hu
      have L2 : LogV w6 (.slice (some ⟨g, 0, none⟩) m c1) (ps.map (·.1)) := I2.out.log
      obtain ⟨b', off', a5, cap5, e5, d0, -⟩ := L2.at hu
      simp only [Option.some.injEq, Addr.mk.injEq, and_true] at e5
      obtain ⟨rfl, rfl⟩ := e5
      rw [Nat.zero_add] at d0
      clear hu L2
      have hKm : (K : Int) < (m : Int) := by omega
      go_upto_region 10 with fail
      go_cut [14] (fun c wx => c = .int .i64 (K : Int) ∧ ∃ r, Hid (SortI w gS (.slice (some ⟨g, 0, none⟩) m c1) u13 r ps qs (tickC X u.author) wx))
      case first =>
        have cS := I2.out.box.get 0 rfl
        have fS := I2.out.box.free 0
        have HT : Hid (∀ w', Grew w6 w' → Calls Try.prog 23 #[.slice ac X.length cc, .int .i64 u.author] w' fun e w'' => ∃ r, e = .returned r ∧ Own w'' w'.heap.size r (tickC X u.author) ∧ Below w'.heap.size w' w'') := fun w' hg =>
          tick_clock _ X u.author w' (I2.out.row.below hg (Nat.le_refl _)) (by have := HX6.out; omega)
        go_region_with (go_at_call 23; refine (HT.out _ ?_).mono ?_; (first | exact grew_refl _ | exact grew_drew (grew_refl _)); rintro e w7 ⟨r, rfl, ho7, hb7⟩; obtain ⟨ar, cr, hvr, -, -, -⟩ := id ho7.row; subst hvr; have I7 := (I2.out.below ((Below.refl w6.heap.size w6).drew) (Nat.le_refl _)).below hb7 (Nat.le_refl _); have cS7 := I7.box.get 0 rfl; have fS7 := I7.box.free 0)
        all_goals (go_wp2_with fail; go_meet; exact ⟨rfl, _, hide (I7.ticked (ho7.mono I2.out.box.lt))⟩)
      case rest =>
        obtain ⟨rfl, r, I3⟩ := hcut
        clear I2 d0
        obtain ⟨b', off', a5, cap5, e5, d0, d1, d2, d3, d4, -, hU⟩ := I3.out.log.at HU.out
        simp only [Option.some.injEq, Addr.mk.injEq, and_true] at e5
        obtain ⟨rfl, rfl⟩ := e5
        simp only [Nat.zero_add] at d0 d1 d2 d3 d4
        have hbx := I3.out.box.lt
        go_wp2_with fail
        refine (copy_upd _ u _ hU (by have := hsu.2; omega)).mono ?_
        rintro e w8 ⟨sv, rfl, ho8, hb8⟩
        have N8 := hide (Own.mono ho8 hbx)
        have I4 := hide (I3.out.below hb8 (Nat.le_refl _))
        have I5 := hide (I4.out.below (Below.plus (Below.refl w8.heap.size w8) (.cells #[.int .i64 u.author, sv, .int .i64 u.kind, .int .i64 u.key, .int .i64 u.item] 47)) (Nat.le_refl _))
        have N9 := hide (Own.below N8.out (Below.plus (Below.refl w8.heap.size w8) (.cells #[.int .i64 u.author, sv, .int .i64 u.kind, .int .i64 u.key, .int .i64 u.item] 47)) (Nat.le_refl _))
        have HSRC : Hid (Src Try.prog 5 28 (.slice (some ⟨w8.heap.size, 0, none⟩) 1 1) 1 (cellsU u sv) (w8.alloc (.cells #[.int .i64 u.author, sv, .int .i64 u.kind, .int .i64 u.key, .int .i64 u.item] 47))) := by
          refine Src.ofSlice _ Try.underlying28 _ 1 1 _ rfl (fun j x hj => ?_) (cellsU_one N8.out.row.one)
          match j, hj with
          | 0, hj => (simp [cellsU] at hj; subst hj; simp [Addr.add])
          | 1, hj => (simp [cellsU] at hj; subst hj; simp [Addr.add])
          | 2, hj => (simp [cellsU] at hj; subst hj; simp [Addr.add])
          | 3, hj => (simp [cellsU] at hj; subst hj; simp [Addr.add])
          | 4, hj => (simp [cellsU] at hj; subst hj; simp [Addr.add])
          | (j + 5), hj => simp [cellsU] at hj
        have hql : qs.length ≤ 300 := by have := HLN.out; omega
        obtain ⟨as5, cs5, hsv, -, -, -⟩ := N8.out.row
        subst hsv
        clear I3 I4 ho8 hb8 hU d0 d1 d2 d3 d4 N8
        go_wp2_with (at_builtin; refine wpList_append_own_at _ rfl (.tmp 46) (.tmp 52) 28 28 rfl (gS + 1) 47 i0 (.agg #[.int .i64 0, .slice none 0 0, .int .i64 0, .int .i64 0, .int .i64 0]) 5 56 Try.underlying28 hi hz0 hz1 hz2 rfl _ _ _ rfl I5.out.out.1 _ rfl 1 (cellsU u (.slice as5 u.seen.length cs5)) HSRC.out ?c3 ?c4 ?c5 ?_)
        case c3 => unfold maxLen; omega
        case c4 => omega
        case c5 => exact I5.out.box.lt
        intro v' w9 hown hgrow hat
        have I6 := hide (I5.out.told N9.out hown hgrow (by rw [World.size_alloc]; exact hat))
        clear hown hgrow hat I5 N9 HSRC
        have hK1 : (K : Int) < 1000 := by omega
        have HDEL := delete_fn g c1 K ps w9 I6.out.holds.1 (fun q hq => (I6.out.left.2 q hq).one) (by rw [HM.out]; exact hKl) (by rw [HM.out]; exact hmc) hcm (by rw [HM.out]; omega)
        rw [HM.out] at HDEL
        have HDE := hide HDEL
        clear HDEL
        go_wp2_with fail
        refine HDE.out.mono ?_
        rintro e w10 ⟨rfl, hd, hgd⟩
        have hKp : K < ps.length := by rw [HM.out]; exact hKl
        rw [← HM.out] at I6
        have I7 := hide (I6.out.taken hKp hd hgd)
        rw [HM.out] at I7
        clear I6 hd hgd HDE
        go_wp2_with fail
        go_roundw
        case rel =>
          refine ⟨ps.eraseIdx K, qs ++ [(u, .slice as5 u.seen.length cs5)], tickC X u.author, r, I7, ?_, ?_, ?_, ?_⟩
          · unfold Hid
            rw [map_erase, List.map_append, List.append_assoc, ← HQ.out, HST.out]
            rfl
          · exact fun q hq => HSP.out q (List.mem_of_mem_eraseIdx hq)
          · have := HLN.out
            unfold Hid
            rw [List.length_eraseIdx, if_pos hKp, List.length_append]
            simp
            omega
          · unfold Hid; rw [tickC_length]; exact HX6.out
        case measure => simp [lenV]; omega

set_option maxRecDepth 100000 in
set_option maxHeartbeats 2000000 in
theorem sorted_bad (v lv : Value) (xs : List Int) (l : List Upd) (n : Int) (w : World) (h : Row w v xs) (hl : LogV w lv l) (hE : clockE xs l n ≠ 0) :
    Calls Try.prog 21 #[v, lv, .int .i64 n] w fun e w' => e = .returned (.tuple #[.slice none 0 0, .agg #[.int .i64 (clockE xs l n), .int .i64 (clockA xs l n)]]) ∧ Below w.heap.size w w' := by
  obtain ⟨a, cap, rfl, -, -, -⟩ := id h
  obtain ⟨a', cap', rfl, -, -, -⟩ := id hl
  have Z0 := hide (Box.new w [.int .i64 0, .int .i64 0] 31)
  have HB0 := hide (Below.plus (Below.refl w.heap.size w) (.cells #[.int .i64 0, .int .i64 0] 31))
  have C0 := hide (h.alloc (.cells #[.int .i64 0, .int .i64 0] 31))
  have L0 := hide (hl.alloc (.cells #[.int .i64 0, .int .i64 0] 31))
  obtain ⟨E, HE⟩ : ∃ E, Hid (clockE xs l n = E) := ⟨_, rfl⟩
  obtain ⟨A, HA⟩ : ∃ A, Hid (clockA xs l n = A) := ⟨_, rfl⟩
  rw [HE.out] at hE ⊢
  rw [HA.out]
  have hne : (E != 0) = true := by simp [hE]
  clear h hl hE
  go_enter Try.func21, Try.ntmps21
  go_wp2_with fail
  refine (clock_log _ _ xs l n _ C0.out L0.out).mono ?_
  rintro e w1 ⟨vK, rfl, hK, hb⟩
  have HB1 := hide (below_step HB0.out hb)
  have Z1 := hide (Z0.out.below hb (Nat.le_refl _))
  have C1 := hide (C0.out.below hb (Nat.le_refl _))
  have L1 := hide (L0.out.below hb (Nat.le_refl _))
  have K1 := hide hK
  clear HB0 hb Z0 C0 L0
  rw [HE.out, HA.out]
  obtain ⟨aK, cK, hvK, -, -, -⟩ := hK
  subst hvK
  have hg1 := Z1.out.lt
  clear K1
  have HB2 := hide (below_step HB1.out (Below.plus (Below.refl _ w1) (.cells #[.int .i64 E, .int .i64 A] 31)))
  have Z2 := hide (Z1.out.below (Below.plus (Below.refl _ w1) (.cells #[.int .i64 E, .int .i64 A] 31)) (Nat.le_refl _))
  have C2 := hide (C1.out.below (Below.plus (Below.refl _ w1) (.cells #[.int .i64 E, .int .i64 A] 31)) (Nat.le_refl _))
  have L2 := hide (L1.out.below (Below.plus (Below.refl _ w1) (.cells #[.int .i64 E, .int .i64 A] 31)) (Nat.le_refl _))
  have F2 := hide (Box.new w1 [.int .i64 E, .int .i64 A] 31)
  clear HB1 Z1 C1 L1
  obtain ⟨W2, HW2⟩ : ∃ W2, Hid ((w1.alloc (.cells #[.int .i64 E, .int .i64 A] 31)) = W2) := ⟨_, rfl⟩
  obtain ⟨gF, HGF⟩ : ∃ gF, Hid (w1.heap.size = gF) := ⟨_, rfl⟩
  rw [HW2.out] at HB2 Z2 F2
  rw [HGF.out] at F2 hg1
  have cF0 := F2.out.get 0 rfl
  have cF1 := F2.out.get 1 rfl
  have cZ0 := Z2.out.get 0 rfl
  have cZ1 := Z2.out.get 1 rfl
  have f0 := Z2.out.free 0
  have f1 := Z2.out.free 1
  go_upto_region 3 with fail
  rw [HW2.out, HGF.out]
  go_region
  have hZD : Box W2.drew w.heap.size [.int .i64 0, .int .i64 0] 31 := Z2.out
  have hBD : Below w.heap.size w W2.drew := HB2.out.drew
  all_goals
    go_wp2_with fail
    refine bodyPost_ret (results_tmp_cell rfl _ _ w.heap.size 31 _ (0, 0) _ rfl ((hZD.set 0 (.int .i64 E)).set 1 (.int .i64 A)) Try.underlying31 rfl Try.sizeFault) rfl ⟨rfl, ?_⟩
    exact (hBD.setCell (Nat.le_refl _) _).setCell (Nat.le_refl _) _
end Go.Proofs.Ytkhhifkihpfdhaa
