/-
  Numbers of 32 bits as values; a number that is turned (sha.turn).
-/
import Derived.Test.YtgbajlmcoghofaaDoorRows
import Derived.Test.YtgbajlmcoghofaaDoorShaM
import Derived.WalkSpells
import Derived.Outline
import Derived.Laws.BitsAllLaws
namespace Go.Proofs.YtgbajlmcoghofaaDoor
open Go.RowKit
set_option linter.unusedVariables false

/-- A number of 32 bits, as the walks bear it. -/
def wi (x : UInt32) : Int := (x.toNat : Int)
def wv (x : UInt32) : Value := .int .u32 (wi x)
def wvs (l : List UInt32) : List Value := l.map wv
theorem wi_nonneg (x : UInt32) : 0 ≤ wi x := by unfold wi; omega
theorem wi_lt (x : UInt32) : wi x < 4294967296 := by unfold wi; have := x.toNat_lt; omega
theorem wi_xor (x y : UInt32) : bits .xor .u32 (wi x) (wi y) = wi (x ^^^ y) := by
  unfold wi; rw [u32_xor_nat _ _ x.toNat_lt y.toNat_lt]; simp
theorem wi_and (x y : UInt32) : bits .and .u32 (wi x) (wi y) = wi (x &&& y) := by
  unfold wi; rw [u32_and_nat _ _ x.toNat_lt y.toNat_lt]; simp
theorem wi_or (x y : UInt32) : bits .or .u32 (wi x) (wi y) = wi (x ||| y) := by
  unfold wi; rw [u32_or_nat _ _ x.toNat_lt y.toNat_lt]; simp
theorem wi_add (x y : UInt32) : IntKind.u32.wrap (wi x + wi y) = wi (x + y) := by
  unfold wi; rw [IntKind.wrap_u32']; simp
theorem wi_add' (x y : UInt32) : (wi x + wi y) % 4294967296 = wi (x + y) := by rw [← wi_add, IntKind.wrap_u32']
theorem wi_shr (x : UInt32) (n : Nat) (h : n < 32) : wi x / 2 ^ n = wi (x >>> n.toUInt32) := by
  unfold wi
  simp [UInt32.toNat_shiftRight, Nat.shiftRight_eq_div_pow]
  rw [Nat.mod_eq_of_lt h]
theorem wi_shl (x : UInt32) (n : Nat) (h : n < 32) : wi x * 2 ^ n % 4294967296 = wi (x <<< n.toUInt32) := by
  unfold wi
  simp [UInt32.toNat_shiftLeft, Nat.shiftLeft_eq]
  rw [Nat.mod_eq_of_lt h]
theorem sub_u32 (n : Nat) (h : n ≤ 32) : (32 - n).toUInt32 = 32 - n.toUInt32 := by
  apply UInt32.toNat_inj.1
  rw [UInt32.toNat_sub_of_le _ _ (by rw [UInt32.le_iff_toNat_le]; simp; omega)]
  simp
  omega

theorem turn_any (x : UInt32) (n : Nat) (w : World) (h0 : 0 < n) (h : n < 32) :
    Calls Tryd.prog 43 #[.int .u32 (wi x), .int .u64 n] w fun e w' => e = .returned (.int .u32 (wi (Sh.rr x n.toUInt32))) ∧ w = w' := by
  have b0 := wi_nonneg x
  have b1 := wi_lt x
  have fin : bits .or .u32 (wi x / 2 ^ n) (wi x * 2 ^ (32 - n) % 4294967296) = wi (Sh.rr x n.toUInt32) := by
    rw [wi_shr x n h, wi_shl x (32 - n) (by omega), wi_or, sub_u32 n (by omega)]
    rfl
  have FIN := Lib.hid fin
  clear fin
  go_enter Tryd.func43, Tryd.ntmps43
  go_wp2
  go_ret
  exact ⟨by rw [← FIN.out]; rfl, rfl⟩
/-- By a number as the walk bears it. -/
theorem turn_int (x : UInt32) (n : Int) (w : World) (h0 : 0 < n) (h : n < 32) :
    Calls Tryd.prog 43 #[.int .u32 (wi x), .int .u64 n] w fun e w' => e = .returned (.int .u32 (wi (Sh.rr x (UInt32.ofNat n.toNat)))) ∧ w = w' := by
  obtain ⟨k, rfl⟩ := Int.eq_ofNat_of_zero_le (show 0 ≤ n by omega)
  exact turn_any x k w (by omega) (by omega)
theorem turn_q (x : UInt32) (n : Int) (w : World) (h0 : 0 < n) (h : n < 32) :
    Calls Tryd.prog 43 #[.int .u32 (wi x), .int .u64 n] w fun e w' => e = .returned (.int .u32 (wi (Sh.rr x (UInt32.ofNat n.toNat)))) ∧ w' = w :=
  (turn_int x n w h0 h).mono fun _ _ ⟨he, hw⟩ => ⟨he, hw.symm⟩
theorem turn2 (x : UInt32) (w : World) : Calls Tryd.prog 43 #[.int .u32 (wi x), .int .u64 2] w fun e w' => e = .returned (.int .u32 (wi (Sh.rr x 2))) ∧ w' = w := turn_q x 2 w (by decide) (by decide)
theorem turn6 (x : UInt32) (w : World) : Calls Tryd.prog 43 #[.int .u32 (wi x), .int .u64 6] w fun e w' => e = .returned (.int .u32 (wi (Sh.rr x 6))) ∧ w' = w := turn_q x 6 w (by decide) (by decide)
theorem turn7 (x : UInt32) (w : World) : Calls Tryd.prog 43 #[.int .u32 (wi x), .int .u64 7] w fun e w' => e = .returned (.int .u32 (wi (Sh.rr x 7))) ∧ w' = w := turn_q x 7 w (by decide) (by decide)
theorem turn11 (x : UInt32) (w : World) : Calls Tryd.prog 43 #[.int .u32 (wi x), .int .u64 11] w fun e w' => e = .returned (.int .u32 (wi (Sh.rr x 11))) ∧ w' = w := turn_q x 11 w (by decide) (by decide)
theorem turn13 (x : UInt32) (w : World) : Calls Tryd.prog 43 #[.int .u32 (wi x), .int .u64 13] w fun e w' => e = .returned (.int .u32 (wi (Sh.rr x 13))) ∧ w' = w := turn_q x 13 w (by decide) (by decide)
theorem turn17 (x : UInt32) (w : World) : Calls Tryd.prog 43 #[.int .u32 (wi x), .int .u64 17] w fun e w' => e = .returned (.int .u32 (wi (Sh.rr x 17))) ∧ w' = w := turn_q x 17 w (by decide) (by decide)
theorem turn18 (x : UInt32) (w : World) : Calls Tryd.prog 43 #[.int .u32 (wi x), .int .u64 18] w fun e w' => e = .returned (.int .u32 (wi (Sh.rr x 18))) ∧ w' = w := turn_q x 18 w (by decide) (by decide)
theorem turn19 (x : UInt32) (w : World) : Calls Tryd.prog 43 #[.int .u32 (wi x), .int .u64 19] w fun e w' => e = .returned (.int .u32 (wi (Sh.rr x 19))) ∧ w' = w := turn_q x 19 w (by decide) (by decide)
theorem turn22 (x : UInt32) (w : World) : Calls Tryd.prog 43 #[.int .u32 (wi x), .int .u64 22] w fun e w' => e = .returned (.int .u32 (wi (Sh.rr x 22))) ∧ w' = w := turn_q x 22 w (by decide) (by decide)
theorem turn25 (x : UInt32) (w : World) : Calls Tryd.prog 43 #[.int .u32 (wi x), .int .u64 25] w fun e w' => e = .returned (.int .u32 (wi (Sh.rr x 25))) ∧ w' = w := turn_q x 25 w (by decide) (by decide)
end Go.Proofs.YtgbajlmcoghofaaDoor
