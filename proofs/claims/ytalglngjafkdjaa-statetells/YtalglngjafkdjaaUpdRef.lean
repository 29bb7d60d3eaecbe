/- The document's own answer to what is wrong with an update, for every update and every number of authors; and Seq, SameUpdate. -/
import Derived.Test.YtalglngjafkdjaaUpd
import Derived.Test.YtalglngjafkdjaaReads
namespace Go.Proofs.Ytalglngjafkdjaa
open Go.RowKit

set_option maxRecDepth 100000 in
set_option maxHeartbeats 1000000 in
theorem wrongU_ref (v : Value) (u : Upd) (n : Int) (w : World) (h : IsUpd w v u) :
    Calls Try.prog 70 #[v, .int .i64 n] w fun e w' => e = .returned (.int .i64 (wrongU u n)) ∧ Below w.heap.size w w' := by
  obtain ⟨sv, rfl, hs⟩ := h
  have ways := wrongU_ways u n
  generalize HU : wrongU u n = r at ways
  clear HU
  obtain ⟨author, seen, kind, key, item⟩ := u
  simp only at hs ways ⊢
  have HR := hide (hs.alloc (.cells #[.int .i64 author, sv, .int .i64 kind, .int .i64 key, .int .i64 item] 47))
  have HBox := hide (Box.new w [.int .i64 author, sv, .int .i64 kind, .int .i64 key, .int .i64 item] 47)
  have HB := hide (Below.plus (Below.refl w.heap.size w) (.cells #[.int .i64 author, sv, .int .i64 kind, .int .i64 key, .int .i64 item] 47))
  clear hs
  rcases ways with ⟨hw, rfl⟩ | ⟨hw, ways⟩
  · have hne : (wrongC seen n != 0) = true := by simp [hw]
    clear hw
    go_enter Try.func70, Try.ntmps70
    go_wp2_with fail
    refine (wrong_ref _ seen n _ HR.out).mono ?_
    rintro e w1 ⟨rfl, hw1⟩
    rw [← hw1] at HB
    clear hw1 HR HBox
    go_wp2
    go_ret
    exact ⟨rfl, HB.out⟩
  · obtain ⟨-, -, hl, -⟩ := wrongC_ok hw
    have HW := hide hw
    clear hw
    rcases ways with ⟨ha, rfl⟩ | ⟨ha0, ha, rfl⟩ | ⟨ha0, ha, ways⟩
    · go_enter Try.func70, Try.ntmps70
      go_wp2_with fail
      refine (wrong_ref _ seen n _ HR.out).mono ?_
      rintro e w1 ⟨rfl, hw1⟩
      rw [HW.out]
      rw [← hw1] at HB HR HBox
      clear hw1 HW
      have c0 := HBox.out.get 0 rfl
      have c1 := HBox.out.get 1 rfl
      have c2 := HBox.out.get 2 rfl
      have c3 := HBox.out.get 3 rfl
      have c4 := HBox.out.get 4 rfl
      clear HBox
      clear HR
      go_wp2
      go_ret
      exact ⟨rfl, HB.out⟩
    · go_enter Try.func70, Try.ntmps70
      go_wp2_with fail
      refine (wrong_ref _ seen n _ HR.out).mono ?_
      rintro e w1 ⟨rfl, hw1⟩
      rw [HW.out]
      rw [← hw1] at HB HR HBox
      clear hw1 HW
      have c0 := HBox.out.get 0 rfl
      have c1 := HBox.out.get 1 rfl
      have c2 := HBox.out.get 2 rfl
      have c3 := HBox.out.get 3 rfl
      have c4 := HBox.out.get 4 rfl
      clear HBox
      clear HR
      go_wp2
      go_ret
      exact ⟨rfl, HB.out⟩
    · obtain ⟨k, rfl⟩ : ∃ k : Nat, author = k := ⟨author.toNat, by omega⟩
      rw [Int.toNat_natCast] at ways
      have hlt : k < seen.length := by omega
      have hlt2 : (k : Int) < (seen.length : Int) := by omega
      obtain ⟨y, HY⟩ : ∃ y, Hid (seen.getD k 0 = y) := ⟨_, rfl⟩
      rw [HY.out] at ways
      rcases ways with ⟨hy, rfl⟩ | ⟨hy, ways⟩
      · have hy2 : 1000 ≤ y := by omega
        clear hy
        go_enter Try.func70, Try.ntmps70
        go_wp2_with fail
        refine (wrong_ref _ seen n _ HR.out).mono ?_
        rintro e w1 ⟨rfl, hw1⟩
        rw [HW.out]
        rw [← hw1] at HB HR HBox
        clear hw1 HW
        have c0 := HBox.out.get 0 rfl
        have c1 := HBox.out.get 1 rfl
        have c2 := HBox.out.get 2 rfl
        have c3 := HBox.out.get 3 rfl
        have c4 := HBox.out.get 4 rfl
        clear HBox
        obtain ⟨a, cap, hsv, hl', hm', hc⟩ := HR.out
        clear HR hl' hm'
        obtain ⟨b, off, rfl, hcell⟩ := hc k hlt
        subst hsv
        rw [HY.out] at hcell
        clear hc HY
        go_wp2
        go_ret
        exact ⟨rfl, HB.out⟩
      · rcases ways with ⟨hk, rfl⟩ | ⟨hk1, hk, rfl⟩ | ⟨hk1, hk5, ways⟩
        · go_enter Try.func70, Try.ntmps70
          go_wp2_with fail
          refine (wrong_ref _ seen n _ HR.out).mono ?_
          rintro e w1 ⟨rfl, hw1⟩
          rw [HW.out]
          rw [← hw1] at HB HR HBox
          clear hw1 HW
          have c0 := HBox.out.get 0 rfl
          have c1 := HBox.out.get 1 rfl
          have c2 := HBox.out.get 2 rfl
          have c3 := HBox.out.get 3 rfl
          have c4 := HBox.out.get 4 rfl
          clear HBox
          obtain ⟨a, cap, hsv, hl', hm', hc⟩ := HR.out
          clear HR hl' hm'
          obtain ⟨b, off, rfl, hcell⟩ := hc k hlt
          subst hsv
          rw [HY.out] at hcell
          clear hc HY
          go_wp2
          go_ret
          exact ⟨rfl, HB.out⟩
        · go_enter Try.func70, Try.ntmps70
          go_wp2_with fail
          refine (wrong_ref _ seen n _ HR.out).mono ?_
          rintro e w1 ⟨rfl, hw1⟩
          rw [HW.out]
          rw [← hw1] at HB HR HBox
          clear hw1 HW
          have c0 := HBox.out.get 0 rfl
          have c1 := HBox.out.get 1 rfl
          have c2 := HBox.out.get 2 rfl
          have c3 := HBox.out.get 3 rfl
          have c4 := HBox.out.get 4 rfl
          clear HBox
          obtain ⟨a, cap, hsv, hl', hm', hc⟩ := HR.out
          clear HR hl' hm'
          obtain ⟨b, off, rfl, hcell⟩ := hc k hlt
          subst hsv
          rw [HY.out] at hcell
          clear hc HY
          go_wp2
          go_ret
          exact ⟨rfl, HB.out⟩
        · rcases ways with ⟨h3, rfl⟩ | ⟨h2, h3, rfl⟩ | ⟨h1, h2, h3, rfl⟩ | ⟨h0, h1, h2, h3, rfl⟩ | ⟨h0, h1, h2, h3, ⟨rfl, h5, rfl⟩ | ⟨rfl, rfl, rfl⟩ | ⟨h4, rfl⟩⟩
          all_goals
            go_enter Try.func70, Try.ntmps70
            go_wp2_with fail
            refine (wrong_ref _ seen n _ HR.out).mono ?_
            rintro e w1 ⟨rfl, hw1⟩
            rw [HW.out]
            rw [← hw1] at HB HR HBox
            clear hw1 HW
            have c0 := HBox.out.get 0 rfl
            have c1 := HBox.out.get 1 rfl
            have c2 := HBox.out.get 2 rfl
            have c3 := HBox.out.get 3 rfl
            have c4 := HBox.out.get 4 rfl
            clear HBox
            obtain ⟨a, cap, hsv, hl', hm', hc⟩ := HR.out
            clear HR hl' hm'
            obtain ⟨b, off, rfl, hcell⟩ := hc k hlt
            subst hsv
            rw [HY.out] at hcell
            clear hc HY
            go_wp2
            go_ret
            exact ⟨rfl, HB.out⟩

/-- Seq of an update that its author's entry stands for. -/
theorem seq_upd (v : Value) (u : Upd) (k : Nat) (y : Int) (w : World) (h : IsUpd w v u) (hk : u.author = k) (hlt : k < u.seen.length) (hy : u.seen.getD k 0 = y) (hy0 : 0 ≤ y) (hy1 : y ≤ 1000) :
    Calls Try.prog 63 #[v] w fun e w' => e = .returned (.int .i64 (y + 1)) ∧ Below w.heap.size w w' := by
  obtain ⟨sv, rfl, hs⟩ := h
  obtain ⟨author, seen, kind, key, item⟩ := u
  simp only at hs hk hlt hy ⊢
  subst hk
  have HR := hide (hs.alloc (.cells #[.int .i64 k, sv, .int .i64 kind, .int .i64 key, .int .i64 item] 47))
  have HBox := hide (Box.new w [.int .i64 k, sv, .int .i64 kind, .int .i64 key, .int .i64 item] 47)
  have HB := hide (Below.plus (Below.refl w.heap.size w) (.cells #[.int .i64 k, sv, .int .i64 kind, .int .i64 key, .int .i64 item] 47))
  have HY := hide hy
  clear hs hy
  go_enter Try.func63, Try.ntmps63
  go_wp2_with fail
  refine (hasAuthor_yes _ seen k _ HR.out (by omega) (by omega)).mono ?_
  rintro e w1 ⟨rfl, hw1⟩
  rw [← hw1] at HB HR HBox
  clear hw1
  have c0 := HBox.out.get 0 rfl
  have c1 := HBox.out.get 1 rfl
  clear HBox
  have hl := HR.out.len_le
  obtain ⟨a, cap, hsv, hl', hm', hc⟩ := HR.out
  clear HR hl' hm'
  obtain ⟨b, off, rfl, hcell⟩ := hc k hlt
  subst hsv
  rw [HY.out] at hcell
  clear hc HY
  have hlt2 : (k : Int) < (seen.length : Int) := by omega
  go_wp2
  go_ret
  exact ⟨by go_num, HB.out⟩

theorem row_upd_cells {w : World} {u : Upd} {sv : Value} : IsUpd w (.agg #[.int .i64 u.author, sv, .int .i64 u.kind, .int .i64 u.key, .int .i64 u.item]) u ↔ Row w sv u.seen :=
  ⟨fun ⟨sv', h1, h2⟩ => by simp at h1; rw [h1]; exact h2, fun h => ⟨sv, rfl, h⟩⟩

end Go.Proofs.Ytalglngjafkdjaa
