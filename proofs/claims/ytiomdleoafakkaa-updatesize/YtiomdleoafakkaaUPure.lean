/- What is written is read, on lists: the bytes of a right update tell it, and bytes that tell a right update are its bytes. -/
import Derived.Test.YtiomdleoafakkaaParse
namespace Go.Proofs.Ytiomdleoafakkaa
open Go.RowKit

theorem pairsB_get (xs : List Int) : ∀ i, i < xs.length → (pairsB xs).getD (2 * i) 0 = xs.getD i 0 / 256 ∧ (pairsB xs).getD (2 * i + 1) 0 = xs.getD i 0 % 256 := by
  induction xs with
  | nil => intro i hi; simp at hi
  | cons x xs ih =>
    intro i hi
    have e : pairsB (x :: xs) = (x / 256) :: (x % 256) :: pairsB xs := rfl
    rw [e]
    cases i with
    | zero => exact ⟨rfl, rfl⟩
    | succ i =>
      have := ih i (by simpa using hi)
      rw [show 2 * (i + 1) = 2 * i + 1 + 1 by omega]
      simpa using this

theorem getD_app_left {xs ys : List Int} {i : Nat} (h : i < xs.length) : (xs ++ ys).getD i 0 = xs.getD i 0 := by
  simp [List.getD, List.getElem?_append_left h]
theorem getD_app_right {xs ys : List Int} {i : Nat} : (xs ++ ys).getD (xs.length + i) 0 = ys.getD i 0 := by
  simp [List.getD, List.getElem?_append_right]
theorem eq_of_getD {xs ys : List Int} (hl : xs.length = ys.length) (h : ∀ i, i < xs.length → xs.getD i 0 = ys.getD i 0) : xs = ys := by
  apply List.ext_getElem hl
  intro i h1 h2
  have := h i h1
  rwa [getD_at h1, getD_at h2] at this

theorem bytesU_length (u : Upd) (n : Int) : (bytesU u n).length = 6 + 2 * u.seen.length := by
  simp only [bytesU, headB, List.length_append, List.length_cons, List.length_nil, pairsB_length]

theorem bytesU_head (u : Upd) (n : Int) : (bytesU u n).getD 0 0 = n ∧ (bytesU u n).getD 1 0 = u.author ∧ (bytesU u n).getD 2 0 = u.kind ∧ (bytesU u n).getD 3 0 = u.key ∧ (bytesU u n).getD 4 0 = (u.item + 1000) / 256 ∧ (bytesU u n).getD (4 + 1) 0 = (u.item + 1000) % 256 :=
  ⟨rfl, rfl, rfl, rfl, rfl, rfl⟩

theorem bytesU_entry (u : Upd) (n : Int) {i : Nat} (hi : i < u.seen.length) : (bytesU u n).getD (6 + 2 * i) 0 = u.seen.getD i 0 / 256 ∧ (bytesU u n).getD (6 + 2 * i + 1) 0 = u.seen.getD i 0 % 256 := by
  have h := pairsB_get u.seen i hi
  have hl : (headB u n).length = 6 := rfl
  rw [Nat.add_assoc]
  unfold bytesU
  constructor
  · rw [← h.1, ← hl]; exact getD_app_right
  · rw [← h.2, ← hl]; exact getD_app_right

/-- The bytes of a right update tell it. -/
theorem parse_bytes {u : Upd} {n : Int} (h : wrongU u n = 0) : parseE (bytesU u n) = 0 ∧ parseU (bytesU u n) = u ∧ parseN (bytesU u n) = n := by
  obtain ⟨hc, h1, h2, h3, h4, h5, h6, h7, h8, h9⟩ := wrongU_ok h
  obtain ⟨g1, g2, g3, g4⟩ := wrongC_ok hc
  obtain ⟨b0, b1, b2, b3, b4, b5⟩ := bytesU_head u n
  have hf : formB (bytesU u n) = false := by
    rw [formB, decide_eq_false_iff_not, bytesU_length, b0]; omega
  have hn : n.toNat = u.seen.length := by omega
  have hr : readU (bytesU u n) ((bytesU u n).getD 0 0).toNat = u := by
    rw [b0, hn]
    unfold readU
    rw [b1, b2, b3, b4, b5]
    have hs : (List.range u.seen.length).map (entB (bytesU u n)) = u.seen := by
      apply eq_of_getD (by simp)
      intro i hi
      have hi' : i < u.seen.length := by simpa using hi
      rw [getD_range_map, if_pos hi', entB, (bytesU_entry u n hi').1, (bytesU_entry u n hi').2]
      omega
    rw [hs, show 256 * ((u.item + 1000) / 256) + (u.item + 1000) % 256 - 1000 = u.item by omega]
  have he : parseE (bytesU u n) = 0 := by
    unfold parseE
    rw [hf, hr, b0]
    exact h
  refine ⟨he, ?_, ?_⟩
  · unfold parseU; rw [if_pos he, hr]
  · unfold parseN; rw [if_pos he, b0]

/-- Bytes that tell a right update are its bytes. -/
theorem bytes_parse {bs : List Int} (hb : ∀ b ∈ bs, 0 ≤ b ∧ b ≤ 255) (h : parseE bs = 0) : wrongU (parseU bs) (parseN bs) = 0 ∧ bytesU (parseU bs) (parseN bs) = bs := by
  have hb' : ∀ i, i < bs.length → 0 ≤ bs.getD i 0 ∧ bs.getD i 0 ≤ 255 := fun i hi => hb _ (by rw [getD_at hi]; exact List.getElem_mem _)
  have hu : parseU bs = readU bs (bs.getD 0 0).toNat := by unfold parseU; rw [if_pos h]
  have hn : parseN bs = bs.getD 0 0 := by unfold parseN; rw [if_pos h]
  have hf : formB bs = false := by
    cases hf : formB bs with
    | false => rfl
    | true => unfold parseE at h; rw [hf] at h; cases h
  have hw : wrongU (readU bs (bs.getD 0 0).toNat) (bs.getD 0 0) = 0 := by
    unfold parseE at h; rw [hf] at h; exact h
  rw [hu, hn]
  refine ⟨hw, ?_⟩
  rw [formB, decide_eq_false_iff_not] at hf
  have h0 := hb' 0 (by omega)
  obtain ⟨m, hm⟩ : ∃ m : Nat, bs.getD 0 0 = m := ⟨(bs.getD 0 0).toNat, by omega⟩
  rw [hm] at hf ⊢
  have hl : bs.length = 6 + 2 * m := by omega
  rw [Int.toNat_natCast]
  have hsl : (readU bs m).seen.length = m := by simp [readU]
  apply eq_of_getD (by rw [bytesU_length, hsl, hl])
  intro i hi
  rw [bytesU_length, hsl] at hi
  obtain ⟨b0, b1, b2, b3, b4, b5⟩ := bytesU_head (readU bs m) m
  have k4 := hb' 4 (by omega)
  have k5 := hb' (4 + 1) (by omega)
  rcases (show i = 0 ∨ i = 1 ∨ i = 2 ∨ i = 3 ∨ i = 4 ∨ i = 4 + 1 ∨ 6 ≤ i by omega) with rfl | rfl | rfl | rfl | rfl | rfl | h6
  · rw [b0, hm]
  · rw [b1]; rfl
  · rw [b2]; rfl
  · rw [b3]; rfl
  · rw [b4]; show (256 * bs.getD 4 0 + bs.getD (4 + 1) 0 - 1000 + 1000) / 256 = _; omega
  · rw [b5]; show (256 * bs.getD 4 0 + bs.getD (4 + 1) 0 - 1000 + 1000) % 256 = _; omega
  · obtain ⟨j, hj⟩ : ∃ j, i = 6 + 2 * j ∨ i = 6 + 2 * j + 1 := ⟨(i - 6) / 2, by omega⟩
    have hjm : j < m := by omega
    have he := bytesU_entry (readU bs m) m (i := j) (by rw [hsl]; exact hjm)
    have hs : (readU bs m).seen.getD j 0 = entB bs j := by
      show ((List.range m).map (entB bs)).getD j 0 = _
      rw [getD_range_map, if_pos hjm]
    have q1 := hb' (6 + 2 * j) (by omega)
    have q2 := hb' (6 + 2 * j + 1) (by omega)
    rw [hs, entB] at he
    rcases hj with rfl | rfl
    · rw [he.1]; omega
    · rw [he.2]; omega

/-- More bytes, or fewer, are none. -/
theorem parse_more {u : Upd} {n : Int} {more : List Int} (h : wrongU u n = 0) (hm : more ≠ []) : parseE (bytesU u n ++ more) = 2 := by
  obtain ⟨hc, -⟩ := wrongU_ok h
  obtain ⟨g1, g2, g3, g4⟩ := wrongC_ok hc
  have hp : 0 < more.length := by cases more with | nil => exact absurd rfl hm | cons x xs => simp
  have h0 : (bytesU u n ++ more).getD 0 0 = n := rfl
  have hf : formB (bytesU u n ++ more) = true := by
    rw [formB, decide_eq_true_iff, List.length_append, bytesU_length, h0]; omega
  unfold parseE; rw [hf]; rfl
theorem parse_less {u : Upd} {n : Int} (h : wrongU u n = 0) : parseE ((bytesU u n).take (5 + 2 * u.seen.length)) = 2 := by
  obtain ⟨hc, -⟩ := wrongU_ok h
  obtain ⟨g1, g2, g3, g4⟩ := wrongC_ok hc
  have h0 : ((bytesU u n).take (5 + 2 * u.seen.length)).getD 0 0 = n := by
    rw [show 5 + 2 * u.seen.length = (4 + 2 * u.seen.length) + 1 by omega]; rfl
  have hf : formB ((bytesU u n).take (5 + 2 * u.seen.length)) = true := by
    rw [formB, decide_eq_true_iff, List.length_take, bytesU_length, h0]; omega
  unfold parseE; rw [hf]; rfl
end Go.Proofs.Ytiomdleoafakkaa
