/-
  How many bits a number has (bits.Len64), on its own imports: more rules would meet the table's index first.
-/
import Derived.Test.YtjblnjeloimbgaaDoorChecked
import Derived.Lib.Strings
import Derived.Lib.Slices
import Derived.Lib.Small
import Derived.Lib.Walk
import Derived.Lib.BitFns
namespace Go.Proofs.YtjblnjeloimbgaaDoor
set_option linter.unusedVariables false

theorem len_part (x y : Int) (k : Nat) (h0 : 0 ≤ x) (h1 : x ≤ 18446744073709551615) (hy0 : 0 ≤ y) (hy : y ≤ 255) (e : y.toNat = x.toNat / 2 ^ k) (hk : 2 ^ k ≤ x.toNat) : (k : Int) + Lib.len8 y = (Lib.bitLen x.toNat : Int) ∧ 0 ≤ Lib.len8 y ∧ Lib.len8 y ≤ 8 := by
  have l := Lib.bitLen_le8' y hy0 hy
  rw [Lib.len8_of y hy0 hy, Lib.bitLen_shift k x.toNat hk (by omega)]
  rw [e] at l ⊢
  omega
set_option maxHeartbeats 4000000 in
set_option maxRecDepth 100000 in
theorem len64_any (x : Int) (w : World) (h0 : 0 ≤ x) (h1 : x ≤ 18446744073709551615) :
    Calls Tryd.prog 39 #[.int .u64 x] w fun e w' => e = .returned (.int .i64 (Lib.bitLen x.toNat)) ∧ w' = w := by
  go_enter Tryd.func39, Tryd.ntmps39
  go_wp2
  all_goals (go_ret; refine ⟨congrArg Ending.returned (congrArg (Value.int IntKind.i64) ?_), rfl⟩)
  all_goals first
    | (obtain ⟨a, b, c⟩ := len_part x (x / 4294967296 / 65536 / 256 % 256) 56 h0 h1 (by omega) (by omega) (by show _ = x.toNat / 72057594037927936; omega) (by show 72057594037927936 ≤ x.toNat; omega); omega)
    | (obtain ⟨a, b, c⟩ := len_part x (x / 4294967296 / 65536 % 256) 48 h0 h1 (by omega) (by omega) (by show _ = x.toNat / 281474976710656; omega) (by show 281474976710656 ≤ x.toNat; omega); omega)
    | (obtain ⟨a, b, c⟩ := len_part x (x / 4294967296 / 256 % 256) 40 h0 h1 (by omega) (by omega) (by show _ = x.toNat / 1099511627776; omega) (by show 1099511627776 ≤ x.toNat; omega); omega)
    | (obtain ⟨a, b, c⟩ := len_part x (x / 4294967296 % 256) 32 h0 h1 (by omega) (by omega) (by show _ = x.toNat / 4294967296; omega) (by show 4294967296 ≤ x.toNat; omega); omega)
    | (obtain ⟨a, b, c⟩ := len_part x (x / 65536 / 256 % 256) 24 h0 h1 (by omega) (by omega) (by show _ = x.toNat / 16777216; omega) (by show 16777216 ≤ x.toNat; omega); omega)
    | (obtain ⟨a, b, c⟩ := len_part x (x / 65536 % 256) 16 h0 h1 (by omega) (by omega) (by show _ = x.toNat / 65536; omega) (by show 65536 ≤ x.toNat; omega); omega)
    | (obtain ⟨a, b, c⟩ := len_part x (x / 256 % 256) 8 h0 h1 (by omega) (by omega) (by show _ = x.toNat / 256; omega) (by show 256 ≤ x.toNat; omega); omega)
    | (have l := Lib.bitLen_le8' (x % 256) (by omega) (by omega)
       rw [Lib.len8_of (x % 256) (by omega) (by omega)]
       have e : (x % 256).toNat = x.toNat := by omega
       rw [e] at l ⊢
       omega)
end Go.Proofs.YtjblnjeloimbgaaDoor
