/-
  Numbers and their bytes: what is put is read. Plain: no translation.
-/
import Derived.Test.YtmjpaopobnhckaaWrB
import Derived.Test.YtmjpaopobnhckaaRdP
import Derived.Laws.BitsAllLaws
namespace Go.Proofs.Ytmjpaopobnhckaa
open Go.RowKit
set_option linter.unusedVariables false

theorem nb_succ (x : Int) (n : Nat) (hx : 0 ≤ x) : nb x (n + 1) = nb (x / 256) n ++ [UInt8.ofNat x.toNat] := by
  unfold nb
  rw [List.range_succ, List.map_append]
  congr 1
  · apply List.map_congr_left
    intro i hi
    have hi' : i < n := List.mem_range.1 hi
    unfold nbAt
    congr 2
    have e : 8 * (n + 1 - 1 - i) = 8 + 8 * (n - 1 - i) := by omega
    rw [e, Int.pow_add, ← Int.ediv_ediv_of_nonneg (by decide)]
    rfl
  · simp [nbAt]
theorem toNat_byte (x : Int) (hx : 0 ≤ x) : ((UInt8.ofNat x.toNat).toNat : Int) = x % 256 := by
  rw [← wrap_u8 x hx, IntKind.wrap_u8]
theorem be_nb (n : Nat) : ∀ x : Int, 0 ≤ x → be (nb x n) = x % 256 ^ n := by
  induction n with
  | zero => intro x _; simp [nb, be, Int.emod_one]
  | succ n ih =>
    intro x hx
    rw [nb_succ x n hx, be_snoc, ih (x / 256) (Int.ediv_nonneg hx (by decide)), toNat_byte x hx]
    have hp : (0 : Int) < 256 ^ n := Int.pow_pos (by decide)
    rw [Int.pow_succ, Int.mul_comm (256 ^ n) 256]
    generalize hP : (256 : Int) ^ n = P at *
    have h1 := Int.mul_ediv_add_emod x 256
    have h2 := Int.mul_ediv_add_emod (x / 256) P
    have h4 : 0 ≤ (x / 256) % P := Int.emod_nonneg _ (by omega)
    have h5 : (x / 256) % P < P := Int.emod_lt_of_pos _ hp
    have h6 : 0 ≤ x % 256 := Int.emod_nonneg _ (by decide)
    have h7 : x % 256 < 256 := Int.emod_lt_of_pos _ (by decide)
    have e : x = ((x / 256) % P * 256 + x % 256) + 256 * P * (x / 256 / P) := by
      have : 256 * (P * (x / 256 / P) + (x / 256) % P) + x % 256 = x := by rw [h2]; omega
      rw [Int.mul_add, ← Int.mul_assoc] at this
      omega
    have h8 : (x / 256) % P * 256 + x % 256 < 256 * P := by
      have : (x / 256) % P + 1 ≤ P := h5
      have := Int.mul_le_mul_of_nonneg_right this (show (0 : Int) ≤ 256 by decide)
      rw [Int.add_mul] at this
      omega
    conv => rhs; rw [e]
    rw [Int.add_mul_emod_self_left, Int.emod_eq_of_lt (by omega) h8]

/-- Whole rows are taken whole. -/
theorem tk_all (xs : List UInt8) (n : Nat) (h : xs.length = n) : tk n (xs, 0) = (([], 0), xs) := by
  subst h
  simp [tk]
theorem tk_front (xs ys : List UInt8) (n : Nat) (h : xs.length = n) : tk n (xs ++ ys, 0) = ((ys, 0), xs) := by
  subst h
  simp [tk]
theorem rnum_front (x : Int) (n : Nat) (ys : List UInt8) (hx : 0 ≤ x) (h1 : 1 ≤ n) (h8 : n ≤ 8) : rnum n (nb x n ++ ys, 0) = ((ys, 0), x % 256 ^ n) := by
  have hb : (decide (1 ≤ (n : Int)) && decide ((n : Int) ≤ 8)) = true := by simp; omega
  unfold rnum
  rw [if_pos hb, Int.toNat_natCast, tk_front _ _ _ (nb_length x n), be_nb n x hx]

end Go.Proofs.Ytmjpaopobnhckaa
