/-
  Sums' numbers of 32 bits as a walk spells them. No number of any translation stands here.
-/
import Derived.Test.YtnhegnncmjmafaaCrM
import Derived.WalkSpells
import Derived.Outline
import Derived.Laws.BitsAllLaws
namespace Go.Proofs.Ytnhegnncmjmafaa
open Go.RowKit
set_option linter.unusedVariables false

/-- A number of 32 bits, as the walks bear it. -/
def ci (x : BitVec 32) : Int := (x.toNat : Int)
def cv (x : BitVec 32) : Value := .int .u32 (ci x)
theorem ci_nonneg (x : BitVec 32) : 0 ≤ ci x := by unfold ci; omega
theorem ci_lt (x : BitVec 32) : ci x < 4294967296 := by unfold ci; have := x.isLt; omega
theorem ci_inj (x y : BitVec 32) : ci x = ci y ↔ x = y := by
  unfold ci
  constructor
  · intro h; exact BitVec.eq_of_toNat_eq (by omega)
  · rintro rfl; rfl
theorem ci_xor (x y : BitVec 32) : bits .xor .u32 (ci x) (ci y) = ci (x ^^^ y) := by
  unfold ci; rw [u32_xor_nat _ _ x.isLt y.isLt]; simp
theorem ci_and (x y : BitVec 32) : bits .and .u32 (ci x) (ci y) = ci (x &&& y) := by
  unfold ci; rw [u32_and_nat _ _ x.isLt y.isLt]; simp
theorem ci_shr (x : BitVec 32) (n : Nat) : ci x / (2 : Int) ^ n = ci (x >>> n) := by
  unfold ci; rw [BitVec.toNat_ushiftRight, Nat.shiftRight_eq_div_pow]; simp
theorem ci_half (x : BitVec 32) : ci x / (2 : Int) = ci (x >>> 1) := by have h := ci_shr x 1; rwa [show (2 : Int) ^ 1 = 2 from rfl] at h
theorem ci_four (x : BitVec 32) : ci x / (16 : Int) = ci (x >>> 4) := by have h := ci_shr x 4; rwa [show (2 : Int) ^ 4 = 16 from rfl] at h
theorem ci_low (x : BitVec 32) : (ci x % 2 = 1) ↔ x.getLsbD 0 = true := by
  unfold ci BitVec.getLsbD
  rw [Nat.testBit_zero]
  simp
  omega
theorem ci_byte (c : UInt8) : (c.toNat : Int) = ci (BitVec.ofNat 32 c.toNat) := by
  unfold ci; rw [BitVec.toNat_ofNat, Nat.mod_eq_of_lt (Nat.lt_of_lt_of_le (UInt8.toNat_lt c) (by decide))]
theorem ci_not (x : BitVec 32) : 4294967295 - ci x = ci (~~~ x) := by
  unfold ci; rw [BitVec.toNat_not]; have := x.isLt; omega
/-- A bit more, as the document and the program spell it. -/
theorem ci_bit (x : BitVec 32) : (if ci x % 2 = 1 then bits .xor .u32 (ci x / 2) 3988292384 else ci x / 2) = ci (Cr.bb x) := by
  unfold Cr.bb
  rw [ci_half, show (3988292384 : Int) = ci 3988292384#32 from rfl, ci_xor]
  by_cases h : ci x % 2 = 1
  · rw [if_pos h, (ci_low x).1 h]; rfl
  · rw [if_neg h, Bool.eq_false_iff.2 (fun e => h ((ci_low x).2 e))]; simp
theorem ci_one {x : BitVec 32} (h : ci x % 2 = 1) : bits .xor .u32 (ci x / 2) 3988292384 = ci (Cr.bb x) := by rw [← ci_bit, if_pos h]
theorem ci_none {x : BitVec 32} (h : ¬ ci x % 2 = 1) : ci x / 2 = ci (Cr.bb x) := by rw [← ci_bit, if_neg h]
theorem ci_mod (x : BitVec 32) : ci x % (4294967296 : Int) = ci x := Int.emod_eq_of_lt (ci_nonneg x) (ci_lt x)
theorem ci_byte' (c : UInt8) : (c.toNat : Int) % (4294967296 : Int) = ci (BitVec.ofNat 32 c.toNat) := by rw [ci_byte, ci_mod]
theorem ci_tdiv (x : BitVec 32) : (ci x).tdiv (2 : Int) % (4294967296 : Int) = ci (x >>> 1) := by
  rw [Int.tdiv_eq_ediv_of_nonneg (ci_nonneg x), ci_half, ci_mod]
theorem ci_tmod (x : BitVec 32) : (ci x).tmod (2 : Int) = ci x % (2 : Int) := Int.tmod_eq_emod_of_nonneg (ci_nonneg x)
/-- The same as the document's own sum spells it. -/
theorem ct_one {x : BitVec 32} (h : ((ci x).tmod (2 : Int) == 1) = true) : bits .xor .u32 ((ci x).tdiv (2 : Int) % (4294967296 : Int)) 3988292384 = ci (Cr.bb x) := by
  rw [ci_tdiv, ← ci_half]; exact ci_one (by rw [← ci_tmod]; exact eq_of_beq h)
theorem ct_none {x : BitVec 32} (h : ((ci x).tmod (2 : Int) == 1) = false) : (ci x).tdiv (2 : Int) % (4294967296 : Int) = ci (Cr.bb x) := by
  rw [ci_tdiv, ← ci_half]; exact ci_none (by rw [← ci_tmod]; exact ne_of_beq_false h)
theorem bbs_succ' (n : Nat) (x : BitVec 32) : Cr.bbs (n + 1) x = Cr.bb (Cr.bbs n x) := Cr.bbs_add n 1 x
theorem run_take (x : BitVec 32) (l : List UInt8) (i : Nat) (c : UInt8) (h : l[i]? = some c) : Cr.run x (l.take (i + 1)) = Cr.by1 (Cr.run x (l.take i)) c := by
  have hi := (List.getElem?_eq_some_iff.1 h).1
  rw [List.take_succ_eq_append_getElem hi, Cr.run_append]
  rw [List.getElem?_eq_getElem hi] at h
  rw [Option.some.inj h]; rfl

end Go.Proofs.Ytnhegnncmjmafaa
