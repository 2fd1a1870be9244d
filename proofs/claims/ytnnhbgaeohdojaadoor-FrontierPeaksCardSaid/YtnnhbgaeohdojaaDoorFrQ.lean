/-
  Peaks in plain Lean: which part each of them is the root of. No number of any translation stands here.
-/
import Derived.Test.YtnnhbgaeohdojaaDoorFrN
namespace Go.Proofs.YtnnhbgaeohdojaaDoor.Tr
set_option linter.unusedVariables false
open On (ones)

theorem Bin.long : ∀ (f j left : Nat) (st : List (List Bytes)), Bin f j left st → st.length = ones f left ∧ (cat st).length = left * 2 ^ j
  | 0, j, left, st, ⟨h, e⟩ => by subst e; subst h; exact ⟨rfl, by simp [cat]⟩
  | f + 1, j, left, st, h => by
    unfold Bin at h
    split at h
    · rename_i ho
      obtain ⟨s, r, rfl, hs, hr⟩ := h
      obtain ⟨h1, h2⟩ := Bin.long f (j + 1) (left / 2) r hr
      refine ⟨by rw [List.length_cons, h1]; simp only [ones]; omega, ?_⟩
      show (cat r ++ s).length = _
      rw [List.length_append, h2, hs, Nat.pow_succ]
      obtain ⟨q, hq⟩ : ∃ q, left / 2 = q := ⟨_, rfl⟩
      have : left = 2 * q + 1 := by omega
      rw [hq, this, Nat.add_mul, Nat.one_mul, Nat.mul_comm (2 ^ j) 2, ← Nat.mul_assoc, Nat.mul_comm q 2]
    · rename_i ho
      obtain ⟨h1, h2⟩ := Bin.long f (j + 1) (left / 2) st h
      refine ⟨by rw [h1]; simp only [ones]; omega, ?_⟩
      rw [h2, Nat.pow_succ]
      obtain ⟨q, hq⟩ : ∃ q, left / 2 = q := ⟨_, rfl⟩
      have : left = 2 * q := by omega
      rw [hq, this, Nat.mul_comm (2 ^ j) 2, ← Nat.mul_assoc, Nat.mul_comm q 2]
theorem Bin.cut : ∀ (q f j left : Nat) (st : List (List Bytes)), q < f → Bin f j left st → left / 2 ^ q % 2 = 1 →
    ∃ lo s up, st = lo ++ s :: up ∧ s.length = 2 ^ (j + q) ∧ Bin (f - q - 1) (j + q + 1) (left / 2 ^ (q + 1)) up
  | q, 0, j, left, st, hf, _, _ => by omega
  | 0, f + 1, j, left, st, _, h, hq => by
    unfold Bin at h
    rw [Nat.pow_zero, Nat.div_one] at hq
    rw [if_pos hq] at h
    obtain ⟨s, r, rfl, hs, hr⟩ := h
    exact ⟨[], s, r, rfl, hs, by simpa using hr⟩
  | q + 1, f + 1, j, left, st, hf, h, hq => by
    unfold Bin at h
    have hd : left / 2 ^ (q + 1) = left / 2 / 2 ^ q := by rw [Nat.div_div_eq_div_mul, Nat.pow_succ, Nat.mul_comm]
    have hd2 : left / 2 ^ (q + 1 + 1) = left / 2 / 2 ^ (q + 1) := by rw [Nat.div_div_eq_div_mul, Nat.pow_succ _ (q + 1), Nat.mul_comm]
    rw [hd] at hq
    rw [hd2, show f + 1 - (q + 1) - 1 = f - q - 1 by omega, show j + (q + 1) + 1 = j + 1 + q + 1 by omega, show j + (q + 1) = j + 1 + q by omega]
    split at h
    · obtain ⟨s, r, rfl, hs, hr⟩ := h
      obtain ⟨lo, t, up, e, h1, h2⟩ := Bin.cut q f (j + 1) (left / 2) r (by omega) hr hq
      exact ⟨s :: lo, t, up, by rw [e]; rfl, h1, h2⟩
    · exact Bin.cut q f (j + 1) (left / 2) st (by omega) h hq
theorem cat_append : ∀ (a b : List (List Bytes)), cat (a ++ b) = cat b ++ cat a
  | [], b => by simp [cat]
  | s :: a, b => by
    show cat (a ++ b) ++ s = cat b ++ (cat a ++ s)
    rw [cat_append a b, List.append_assoc]
/-- The peak of the q-th bit that is 1 is its part's root. -/
theorem pk_part (es : List Bytes) (q : Nat) (hq : q < 8) (hn : es.length ≤ 1000) (ho : es.length / 2 ^ q % 2 = 1) :
    (pk es)[ones 64 (es.length / 2 ^ (q + 1))]? = some (root ((es.drop (es.length / 2 ^ (q + 1) * 2 ^ (q + 1))).take (2 ^ q))) := by
  obtain ⟨st, h1, h2, h3⟩ := pk_stack es.length es rfl (by omega)
  obtain ⟨lo, s, up, e, h4, h5⟩ := Bin.cut q 64 0 es.length st (by omega) h1 ho
  obtain ⟨h6, h7⟩ := Bin.long _ _ _ _ h5
  rw [Nat.zero_add] at h4 h7
  obtain ⟨y, hy⟩ : ∃ y, es.length / 2 ^ (q + 1) = y := ⟨_, rfl⟩
  have hy1 : y ≤ 1000 := by rw [← hy]; exact Nat.le_trans (Nat.div_le_self _ _) hn
  rw [hy] at h6 h7 ⊢
  have h8 : ones 64 y = ones (64 - q - 1) y := by
    have := On.ones_zero
    have h9 := ones_more (64 - q - 1) (q + 1) y (Nat.lt_of_lt_of_le (show y < 2 ^ 10 by omega) (Nat.pow_le_pow_right (by omega) (by omega)))
    rw [show 64 - q - 1 + (q + 1) = 64 by omega] at h9
    exact h9
  rw [h8, ← h6]
  have h10 : pk es = (st.map root).reverse := by rw [← h3, List.reverse_reverse]
  have h11 : es = cat up ++ s ++ cat lo := by rw [← h2, e, cat_append]; rfl
  have h12 : (es.drop (y * 2 ^ (q + 1))).take (2 ^ q) = s := by
    rw [h11, ← h7, List.append_assoc, List.drop_left, ← h4, List.take_left]
  rw [h12, h10, e]
  simp
end Go.Proofs.YtnnhbgaeohdojaaDoor.Tr
