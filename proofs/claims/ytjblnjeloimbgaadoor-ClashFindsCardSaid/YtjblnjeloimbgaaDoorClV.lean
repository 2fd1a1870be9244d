/-
  The hashes of 28 entries, evaluated.
-/
import Derived.Test.YtjblnjeloimbgaaDoorClT
namespace Go.Proofs.YtjblnjeloimbgaaDoor
theorem hv0 : Cl.hv 0 0 = 223 := by decide +kernel
theorem hv1 : Cl.hv 0 1 = 107 := by decide +kernel
theorem hv2 : Cl.hv 0 2 = 49 := by decide +kernel
theorem hv3 : Cl.hv 0 3 = 17 := by decide +kernel
theorem hv4 : Cl.hv 0 4 = 114 := by decide +kernel
theorem hv5 : Cl.hv 0 5 = 61 := by decide +kernel
theorem hv6 : Cl.hv 0 6 = 171 := by decide +kernel
theorem hv7 : Cl.hv 0 7 = 52 := by decide +kernel
theorem hv8 : Cl.hv 0 8 = 201 := by decide +kernel
theorem hv9 : Cl.hv 0 9 = 1 := by decide +kernel
theorem hv10 : Cl.hv 0 10 = 136 := by decide +kernel
theorem hv11 : Cl.hv 0 11 = 31 := by decide +kernel
theorem hv12 : Cl.hv 0 12 = 186 := by decide +kernel
theorem hv13 : Cl.hv 0 13 = 120 := by decide +kernel
theorem hv14 : Cl.hv 0 14 = 195 := by decide +kernel
theorem hv15 : Cl.hv 0 15 = 18 := by decide +kernel
theorem hv16 : Cl.hv 0 16 = 110 := by decide +kernel
theorem hv17 : Cl.hv 0 17 = 202 := by decide +kernel
theorem hv18 : Cl.hv 0 18 = 124 := by decide +kernel
theorem hv19 : Cl.hv 0 19 = 98 := by decide +kernel
theorem hv20 : Cl.hv 0 20 = 5 := by decide +kernel
theorem hv21 : Cl.hv 0 21 = 48 := by decide +kernel
theorem hv22 : Cl.hv 0 22 = 189 := by decide +kernel
theorem hv23 : Cl.hv 0 23 = 41 := by decide +kernel
theorem hv24 : Cl.hv 0 24 = 213 := by decide +kernel
theorem hv25 : Cl.hv 0 25 = 145 := by decide +kernel
theorem hv26 : Cl.hv 0 26 = 242 := by decide +kernel
theorem hv27 : Cl.hv 0 27 = 195 := by decide +kernel
theorem hv_at : ∀ i, i < 28 → Cl.hv 0 i = ([223, 107, 49, 17, 114, 61, 171, 52, 201, 1, 136, 31, 186, 120, 195, 18, 110, 202, 124, 98, 5, 48, 189, 41, 213, 145, 242, 195] : List Nat).getD i 0
  | 0, _ => hv0
  | 1, _ => hv1
  | 2, _ => hv2
  | 3, _ => hv3
  | 4, _ => hv4
  | 5, _ => hv5
  | 6, _ => hv6
  | 7, _ => hv7
  | 8, _ => hv8
  | 9, _ => hv9
  | 10, _ => hv10
  | 11, _ => hv11
  | 12, _ => hv12
  | 13, _ => hv13
  | 14, _ => hv14
  | 15, _ => hv15
  | 16, _ => hv16
  | 17, _ => hv17
  | 18, _ => hv18
  | 19, _ => hv19
  | 20, _ => hv20
  | 21, _ => hv21
  | 22, _ => hv22
  | 23, _ => hv23
  | 24, _ => hv24
  | 25, _ => hv25
  | 26, _ => hv26
  | 27, _ => hv27
  | _ + 28, h => absurd h (by omega)
theorem sha_apart : Sh.sha (0 :: Cl.pb 0 14) ≠ Sh.sha (0 :: Cl.pb 0 27) := by decide +kernel
end Go.Proofs.YtjblnjeloimbgaaDoor
