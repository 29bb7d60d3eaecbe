/- Slices of bytes; writePair and readPair. -/
import Derived.Test.YtiomdleoafakkaaUpdRef
namespace Go.Proofs.Ytiomdleoafakkaa
open Go.RowKit

/-- The slice value v reads, in w, as the bytes bs. -/
def RowB (w : World) (v : Value) (bs : List Int) : Prop :=
  ∃ (a : Option Addr) (cap : Nat), v = .slice a bs.length cap ∧ bs.length ≤ cap ∧ cap ≤ maxLen ∧ (∀ b ∈ bs, 0 ≤ b ∧ b ≤ 255) ∧
    ∀ i, i < bs.length → ∃ b off, a = some ⟨b, off, none⟩ ∧ w.cell? ⟨b, off + i, none⟩ = some (.int .u8 (bs.getD i 0))

theorem RowB.below {w w' : World} {v : Value} {xs : List Int} (h : RowB w v xs) {B : Nat} (hb : Below B w w') (hB : w.heap.size ≤ B) : RowB w' v xs := by
  obtain ⟨a, cap, h1, h2, h3, h0, h4⟩ := h
  refine ⟨a, cap, h1, h2, h3, h0, fun i hi => ?_⟩
  obtain ⟨b, off, h5, h6⟩ := h4 i hi
  refine ⟨b, off, h5, ?_⟩
  have := World.block_lt_of_cell? w _ h6
  rw [hb.cell (p := ⟨b, off + i, none⟩) (Nat.lt_of_lt_of_le this hB)]
  exact h6
theorem RowB.alloc {w : World} {v : Value} {xs : List Int} (h : RowB w v xs) (o : Obj) : RowB (w.alloc o) v xs := h.below ((Below.refl w.heap.size _).alloc (Nat.le_refl _) o) (Nat.le_refl _)
theorem RowB.len_le {w : World} {v : Value} {xs : List Int} (h : RowB w v xs) : xs.length ≤ 9223372036854775807 := by
  obtain ⟨a, cap, h1, h2, h3, h4⟩ := h
  unfold maxLen at h3
  omega
theorem RowB.nil (w : World) : RowB w (.slice none 0 0) [] := ⟨none, 0, rfl, by simp, by unfold maxLen; omega, by simp, fun i hi => by simp at hi⟩

theorem Box.set {w : World} {g : Nat} {cs : List Value} {t : TypeId} (h : Box w g cs t) (i : Nat) (v : Value) : Box (w.setCell ⟨g, i, none⟩ v) g (cs.set i v) t := by
  unfold Box at h ⊢
  rw [heap_setCell_same w g i _ t v h]
  simp
theorem box_byte {w : World} {g : Nat} {bs : List Int} {t : TypeId} (h : Box w g (bs.map (Value.int .u8)) t) (i : Nat) (x : Int) : Box (w.setCell ⟨g, i, none⟩ (.int .u8 x)) g ((bs.set i x).map (Value.int .u8)) t := by
  rw [List.map_set]; exact h.set i _
theorem box_byte_get {w : World} {g : Nat} {bs : List Int} {t : TypeId} (h : Box w g (bs.map (Value.int .u8)) t) (i : Nat) (hi : i < bs.length) : w.cell? ⟨g, i, none⟩ = some (.int .u8 (bs.getD i 0)) :=
  h.get i (by rw [List.getElem?_map, List.getElem?_eq_getElem hi, getD_at hi]; rfl)
theorem below_set (w : World) (g i : Nat) (v : Value) : Below g w (w.setCell ⟨g, i, none⟩ v) := (Below.refl g w).setCell (Nat.le_refl _) v

theorem writePair_fn (g p : Nat) (bs : List Int) (x : Int) (n : Nat) (w : World) (h : Box w g (bs.map (Value.int .u8)) 5) (hn : bs.length = n) (hm : n ≤ 1000) (hp : p + 1 < n) (hx0 : 0 ≤ x) (hx1 : x < 65536) :
    Calls Try.prog 61 #[.slice (some ⟨g, 0, none⟩) n n, .int .i64 p, .int .i64 x] w fun e w' => e = .returned (.tuple #[]) ∧ w' = (w.setCell ⟨g, p, none⟩ (.int .u8 (x / 256))).setCell ⟨g, p + 1, none⟩ (.int .u8 (x % 256)) := by
  have c1 := box_byte_get h p (by omega)
  have f1 := h.free p
  have h2 := box_byte h p (x / 256)
  have c2 := box_byte_get h2 (p + 1) (by rw [List.length_set]; omega)
  have f2 := h2.free (p + 1)
  clear h h2
  have hlt : (p : Int) < (n : Int) := by omega
  have hlt2 : (p : Int) + 1 < (n : Int) := by omega
  go_enter Try.func61, Try.ntmps61
  go_wp2
  exact bodyPost_end (results_none rfl _ _ _) rfl ⟨rfl, rfl⟩

theorem or_nat (y z : Nat) (hy : y < 256) (hz : z < 256) : bits .or .i64 ((y : Int) * 256) z = 256 * y + z := by
  have h : (BitVec.ofInt 64 ((y : Int) * 256) ||| BitVec.ofInt 64 (z : Int)).toNat = 256 * y + z := by
    have e1 : BitVec.ofInt 64 ((y : Int) * 256) = BitVec.ofNat 64 (y * 256) := by
      rw [show ((y : Int) * 256) = ((y * 256 : Nat) : Int) by omega, BitVec.ofInt_natCast]
    rw [e1, BitVec.ofInt_natCast, BitVec.toNat_or, BitVec.toNat_ofNat, BitVec.toNat_ofNat, Nat.mod_eq_of_lt (by omega), Nat.mod_eq_of_lt (by omega)]
    have := Nat.shiftLeft_add_eq_or_of_lt (i := 8) (b := z) (by omega) y
    rw [Nat.shiftLeft_eq] at this
    simp at this
    omega
  have h2 : bits .or .i64 ((y : Int) * 256) z = IntKind.i64.wrap ((BitVec.ofInt 64 ((y : Int) * 256) ||| BitVec.ofInt 64 (z : Int)).toNat : Int) := rfl
  rw [h2, h]
  simp [IntKind.wrap, IntKind.bits, IntKind.signed]
  omega
theorem or_pair {y z : Int} (hy0 : 0 ≤ y) (hy1 : y ≤ 255) (hz0 : 0 ≤ z) (hz1 : z ≤ 255) : bits .or .i64 (y * 256) z = 256 * y + z := by
  obtain ⟨Y, rfl⟩ : ∃ Y : Nat, y = Y := ⟨y.toNat, by omega⟩
  obtain ⟨Z, rfl⟩ : ∃ Y : Nat, z = Y := ⟨z.toNat, by omega⟩
  exact or_nat Y Z (by omega) (by omega)

theorem readPair_fn (v : Value) (bs : List Int) (p : Nat) (w : World) (h : RowB w v bs) (hp : p + 1 < bs.length) :
    Calls Try.prog 101 #[v, .int .i64 p] w fun e w' => e = .returned (.int .i64 (256 * bs.getD p 0 + bs.getD (p + 1) 0)) ∧ ∃ k, w' = w.drewN k := by
  have hx := h.len_le
  obtain ⟨a, cap, rfl, -, -, hr, hc⟩ := h
  obtain ⟨b, off, rfl, c1⟩ := hc p (by omega)
  obtain ⟨b', off', e1, c2⟩ := hc (p + 1) (by omega)
  simp only [Option.some.injEq, Addr.mk.injEq, and_true] at e1
  obtain ⟨rfl, rfl⟩ := e1
  clear hc
  obtain ⟨y, HY⟩ : ∃ y, Hid (bs.getD p 0 = y) := ⟨_, rfl⟩
  obtain ⟨z, HZ⟩ : ∃ y, Hid (bs.getD (p + 1) 0 = y) := ⟨_, rfl⟩
  have hy := hr (bs.getD p 0) (by rw [getD_at (by omega)]; exact List.getElem_mem _)
  have hz := hr (bs.getD (p + 1) 0) (by rw [getD_at (by omega)]; exact List.getElem_mem _)
  clear hr
  rw [HY.out] at c1 hy ⊢
  rw [HZ.out] at c2 hz ⊢
  obtain ⟨hy0, hy1⟩ := hy
  obtain ⟨hz0, hz1⟩ := hz
  have hlt : (p : Int) < (bs.length : Int) := by omega
  have hlt2 : (p : Int) + 1 < (bs.length : Int) := by omega
  clear HY HZ
  go_enter Try.func101, Try.ntmps101
  go_wp2
  go_quiet (fail)
  go_wp2
  go_ret
  exact ⟨ret_int (or_pair hy0 hy1 hz0 hz1), _, rfl⟩

theorem entryAt_fn (n : Int) (m : Nat) (w : World) (h0 : 0 ≤ n) (h1 : n ≤ 1000) (hm : (m : Int) = 6 + 2 * n) :
    Calls Try.prog 62 #[.int .i64 n] w fun e w' => e = .returned (.int .i64 m) ∧ w' = w := by
  go_enter Try.func62, Try.ntmps62
  go_wp2
  go_ret
  exact ⟨ret_int hm.symm, rfl⟩
theorem size_fn (n : Int) (m : Nat) (w : World) (h0 : 0 ≤ n) (h1 : n ≤ 1000) (hm : (m : Int) = 6 + 2 * n) :
    Calls Try.prog 60 #[.int .i64 n] w fun e w' => e = .returned (.int .i64 m) ∧ w' = w := by
  have HH := hide (entryAt_fn n m w h0 h1 hm)
  clear hm
  go_enter Try.func60, Try.ntmps60
  go_wp2_with fail
  refine HH.out.mono ?_
  rintro e w' ⟨rfl, hw'⟩
  rw [hw']; clear hw' w'
  go_wp2
  go_ret
  exact ⟨rfl, rfl⟩
end Go.Proofs.Ytiomdleoafakkaa
