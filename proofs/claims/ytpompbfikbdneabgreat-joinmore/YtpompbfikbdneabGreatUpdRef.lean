/- The document's own answer to what is wrong with an update, for every update and every number of authors; and Seq, SameUpdate. -/
import Derived.Test.YtpompbfikbdneabGreatUpd
import Derived.Test.YtpompbfikbdneabGreatSame
namespace Go.Proofs.YtpompbfikbdneabGreat
open Go.RowKit

/-- Seq of an update that its author's entry stands for. -/
theorem seq_upd (v : Value) (u : Upd) (k : Nat) (y : Int) (w : World) (h : IsUpd w v u) (hk : u.author = k) (hlt : k < u.seen.length) (hy : u.seen.getD k 0 = y) (hy0 : 0 ≤ y) (hy1 : y ≤ 1000) :
    Calls Tryz.prog 47 #[v] w fun e w' => e = .returned (.int .i64 (y + 1)) ∧ Below w.heap.size w w' := by
  obtain ⟨sv, rfl, hs⟩ := h
  obtain ⟨author, seen, kind, key, item⟩ := u
  simp only at hs hk hlt hy ⊢
  subst hk
  have HR := hide (hs.alloc (.cells #[.int .i64 k, sv, .int .i64 kind, .int .i64 key, .int .i64 item] 50))
  have HBox := hide (Box.new w [.int .i64 k, sv, .int .i64 kind, .int .i64 key, .int .i64 item] 50)
  have HB := hide (Below.plus (Below.refl w.heap.size w) (.cells #[.int .i64 k, sv, .int .i64 kind, .int .i64 key, .int .i64 item] 50))
  have HY := hide hy
  clear hs hy
  go_enter Tryz.func47, Tryz.ntmps47
  go_wp2_with fail
  refine (hasAuthor_yes _ seen k _ HR.out (by omega) (by omega)).mono ?_
  rintro e w1 ⟨rfl, hw1⟩
  rw [← hw1] at HB HR HBox
  clear hw1
  have c0 := HBox.out.get 0 rfl
  have c1 := HBox.out.get 1 rfl
  clear HBox
  have hl := HR.out.len_le
  obtain ⟨a, cap, hsv, hl', hm', hc⟩ := HR.out
  clear HR hl' hm'
  obtain ⟨b, off, rfl, hcell⟩ := hc k hlt
  subst hsv
  rw [HY.out] at hcell
  clear hc HY
  have hlt2 : (k : Int) < (seen.length : Int) := by omega
  go_wp2
  go_ret
  exact ⟨by go_num, HB.out⟩

theorem row_upd_cells {w : World} {u : Upd} {sv : Value} : IsUpd w (.agg #[.int .i64 u.author, sv, .int .i64 u.kind, .int .i64 u.key, .int .i64 u.item]) u ↔ Row w sv u.seen :=
  ⟨fun ⟨sv', h1, h2⟩ => by simp at h1; rw [h1]; exact h2, fun h => ⟨sv, rfl, h⟩⟩

end Go.Proofs.YtpompbfikbdneabGreat
