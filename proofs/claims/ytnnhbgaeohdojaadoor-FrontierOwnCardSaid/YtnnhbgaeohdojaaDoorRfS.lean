/-
  The document's own parting of a tree (assayerref03.Split).
-/
import Derived.Test.YtnnhbgaeohdojaaDoorSoP
import Derived.Test.YtnnhbgaeohdojaaDoorTrM
import Derived.Test.YtnnhbgaeohdojaaDoorTrG
import Derived.Test.YtnnhbgaeohdojaaDoorShaT
import Derived.Laws.AppendOwn
namespace Go.Proofs.YtnnhbgaeohdojaaDoor
open Go.RowKit Go.BigFrame
set_option linter.unusedVariables false

set_option maxHeartbeats 1000000 in
theorem rsplit_any (n : Nat) (w : World) (h1 : n ≤ 18446744073709551615) :
    Calls Tryd.prog 20 #[.int .u64 (n : Int)] w fun e w' => e = .returned (.int .u64 (Tr.split n : Int)) ∧ w' = w := by
  by_cases h : n < 2
  · have e := Tr.split_few h
    rw [e]
    have h' : (n : Int) < 2 := by omega
    go_enter Tryd.func20, Tryd.ntmps20
    go_wp2_with fail
    go_ret
    exact ⟨rfl, rfl⟩
  · have h' : ¬ (n : Int) < 2 := by omega
    go_enter Tryd.func20, Tryd.ntmps20
    go_wp2_with fail
    go_loopw [3] (fun kv wr => ∃ k : Nat, kv = .int .u64 (k : Int) ∧ 1 ≤ k ∧ k < n ∧ Hid (∃ j, k = 2 ^ j) ∧ wr = w) (fun kv _ => n - (intOf kv).toNat)
    case atStart => exact ⟨1, rfl, by omega, by omega, Lib.hid ⟨0, rfl⟩, rfl⟩
    case round =>
      obtain ⟨k, rfl, hk1, hkn, hp, rfl⟩ := hrel
      by_cases hlt : 2 * k < n
      · have hlt' : (k : Int) < (n : Int) - (k : Int) := by omega
        go_wp2
        go_roundw
        case rel => exact ⟨k * 2, by go_num, by omega, by omega, Lib.hid (by obtain ⟨j, hj⟩ := hp.out; exact ⟨j + 1, by rw [hj, Nat.pow_succ]⟩), by first | rfl | trivial⟩
        case measure => simp [intOf]; omega
      · have hlt' : (n : Int) - (k : Int) ≤ (k : Int) := by omega
        have hs : Tr.split n = k := by
          obtain ⟨j, hj⟩ := hp.out
          exact Tr.split_unique (by omega) hj hkn (by omega)
        have HS := Lib.hid hs
        clear hs hp
        go_wp2
        go_ret
        exact ⟨congrArg (fun s : Nat => Ending.returned (Value.int .u64 (s : Int))) HS.out.symm, rfl⟩
end Go.Proofs.YtnnhbgaeohdojaaDoor
