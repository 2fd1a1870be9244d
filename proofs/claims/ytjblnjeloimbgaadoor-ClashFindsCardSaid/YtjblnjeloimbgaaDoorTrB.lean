/-
  Where entries are parted (tree.Split), and how many hashes a path has (tree.steps).
-/
import Derived.Test.YtjblnjeloimbgaaDoorTrA
import Derived.Test.YtjblnjeloimbgaaDoorTrM
import Derived.Test.YtjblnjeloimbgaaDoorShaC
namespace Go.Proofs.YtjblnjeloimbgaaDoor
open Go.RowKit
set_option linter.unusedVariables false

set_option maxHeartbeats 1000000 in
theorem split_any (n : Nat) (w : World) (h1 : n ≤ 18446744073709551615) :
    Calls Tryd.prog 25 #[.int .u64 (n : Int)] w fun e w' => e = .returned (.int .u64 (Tr.split n : Int)) ∧ w' = w := by
  by_cases h : n < 2
  · have e := Tr.split_few h
    rw [e]
    go_enter Tryd.func25, Tryd.ntmps25
    go_wp2_with fail
    go_ret
    exact ⟨rfl, rfl⟩
  · obtain ⟨a, b, c⟩ := Tr.split_bitLen n (by omega) (by omega)
    have hl := Tr.split_lt (n := n) (by omega)
    have hn : ((n : Int) - 1).toNat = n - 1 := by omega
    rw [← hn] at a b c
    obtain ⟨L, hL⟩ : ∃ L, Lib.bitLen ((n : Int) - 1).toNat = L := ⟨_, rfl⟩
    have hcall := len64_any ((n : Int) - 1) w (by omega) (by omega)
    rw [hL] at a b c hcall
    obtain ⟨S, hS⟩ : ∃ S, Tr.split n = S := ⟨_, rfl⟩
    rw [hS] at a hl ⊢
    have e2 : ((L : Int) - 1).toNat = L - 1 := by omega
    have e3 : (2 : Int) ^ (L - 1) = (S : Int) := by rw [a]; simp
    have e4 : (2 : Int) ^ (L - 1) % 18446744073709551616 = (S : Int) := by rw [e3]; omega
    have HC := Lib.hid hcall
    clear hcall hL hn hS a
    go_enter Tryd.func25, Tryd.ntmps25
    go_wp2_with (go_at_call 39; refine HC.out.mono ?_; rintro e w' ⟨rfl, rfl⟩)
    go_ret
    exact ⟨rfl, rfl⟩

set_option maxHeartbeats 1000000 in
theorem steps_any (n i : Nat) (w : World) (hi : i < n) (h1 : n ≤ 18446744073709551615) :
    Calls Tryd.prog 23 #[.int .u64 (n : Int), .int .u64 (i : Int)] w fun e w' => e = .returned (.int .i64 (Tr.steps n i : Int)) ∧ w' = w := by
  obtain ⟨S, hS⟩ : ∃ S, Tr.steps n i = S := ⟨_, rfl⟩
  have hS64 : S ≤ 64 := by rw [← hS]; exact Tr.steps_le n i
  rw [hS]
  have hrel0 : 0 + Tr.steps n i = S := by rw [hS]; omega
  clear hS
  go_enter Tryd.func23, Tryd.ntmps23
  go_wp2_with fail
  go_loopw [0, 1, 5] (fun mv jv cv wr => ∃ m j c : Nat, mv = .int .u64 (m : Int) ∧ jv = .int .u64 (j : Int) ∧ cv = .int .i64 (c : Int) ∧ j < m ∧ m ≤ 18446744073709551615 ∧ Hid (c + Tr.steps m j = S) ∧ wr = w) (fun mv _ _ _ => (intOf mv).toNat)
  case atStart => exact ⟨n, i, 0, rfl, rfl, rfl, hi, h1, Lib.hid hrel0, rfl⟩
  case round =>
    clear hi h1 hrel0
    obtain ⟨m, j, c, rfl, rfl, rfl, hjm, hm, hc, rfl⟩ := hrel
    by_cases h2 : 2 ≤ m
    · have a := Tr.split_pos h2
      have b := Tr.split_lt h2
      have hst := hc.out
      rw [Tr.steps_more j h2 (by omega)] at hst
      have hsp := split_any m wr hm
      obtain ⟨k, hk⟩ : ∃ k, Tr.split m = k := ⟨_, rfl⟩
      rw [hk] at a b hst hsp
      have HSP := Lib.hid hsp
      have hm2 : (1 : Int) < m := by omega
      clear hsp hk hc
      by_cases hjk : j < k
      · rw [if_pos hjk] at hst
        have hc64 : c ≤ 64 := by omega
        have HST := Lib.hid hst
        clear hst
        go_wp2_with (go_at_call 25; refine HSP.out.mono ?_; rintro e w' ⟨rfl, rfl⟩)
        go_roundw
        case rel => exact ⟨k, j, c + 1, rfl, rfl, by go_num, hjk, by omega, Lib.hid (by have := HST.out; omega), by first | rfl | trivial⟩
        case measure => simp [intOf]; omega
      · rw [if_neg hjk] at hst
        have hc64 : c ≤ 64 := by omega
        have HST := Lib.hid hst
        clear hst
        go_wp2_with (go_at_call 25; refine HSP.out.mono ?_; rintro e w' ⟨rfl, rfl⟩)
        go_roundw
        case rel => exact ⟨m - k, j - k, c + 1, by go_num, by go_num, by go_num, by omega, by omega, Lib.hid (by have := HST.out; omega), by first | rfl | trivial⟩
        case measure => simp [intOf]; omega
    · have hst := hc.out
      rw [Tr.steps_few j (by omega)] at hst
      obtain rfl : c = S := by omega
      go_wp2
      go_ret
      exact ⟨rfl, rfl⟩
end Go.Proofs.YtjblnjeloimbgaaDoor
