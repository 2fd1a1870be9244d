/-
  How many hashes a proof has (chain.Long).
-/
import Derived.Test.YtjblnjeloimbgaaDoorTrB
import Derived.Test.YtjblnjeloimbgaaDoorTrM
namespace Go.Proofs.YtjblnjeloimbgaaDoor
open Go.RowKit
set_option linter.unusedVariables false

set_option maxHeartbeats 1000000 in
theorem goes_any (m n : Nat) (w : World) (h1 : m ≤ 18446744073709551615) (h2 : n ≤ 18446744073709551615) :
    Calls Tryd.prog 27 #[.int .u64 (m : Int), .int .u64 (n : Int)] w fun e w' => e = .returned (.bool (!decide (m < 1 ∨ n < m))) ∧ w' = w := by
  by_cases a : m < 1
  · rw [decide_eq_true (Or.inl a)]
    have a1 : ¬ (1 : Int) ≤ m := by omega
    clear a h1 h2
    go_enter Tryd.func27, Tryd.ntmps27
    go_wp2
    go_ret
    exact ⟨rfl, rfl⟩
  · have a1 : (1 : Int) ≤ m := by omega
    by_cases b : n < m
    · rw [decide_eq_true (Or.inr b)]
      have b1 : ¬ (m : Int) ≤ n := by omega
      clear a b h1 h2
      go_enter Tryd.func27, Tryd.ntmps27
      go_wp2
      go_ret
      exact ⟨rfl, rfl⟩
    · rw [decide_eq_false (by omega)]
      have b1 : (m : Int) ≤ n := by omega
      clear a b h1 h2
      go_enter Tryd.func27, Tryd.ntmps27
      go_wp2
      go_ret
      exact ⟨rfl, rfl⟩

set_option maxHeartbeats 1000000 in
theorem long_in (m n : Nat) (w : World) (hm : 1 ≤ m) (hmn : m ≤ n) (hn : n ≤ 18446744073709551615) :
    Calls Tryd.prog 28 #[.int .u64 (m : Int), .int .u64 (n : Int)] w fun e w' => e = .returned (.int .i64 (Tr.lng m n true : Int)) ∧ w' = w := by
  have hg := goes_any m n w (by omega) hn
  rw [decide_eq_false (by omega)] at hg
  have HG := Lib.hid hg
  have hS65 := Tr.lng_le 64 m n true (Tr.deep_le (by omega)) hm hmn (by omega)
  obtain ⟨S, hS⟩ : ∃ S, Tr.lng m n true = S := ⟨_, rfl⟩
  rw [hS] at hS65 ⊢
  have hrel0 : 0 + Tr.lng m n true = S := by rw [hS]; omega
  clear hS hg
  go_enter Tryd.func28, Tryd.ntmps28
  go_wp2_with (go_at_call 27; refine HG.out.mono ?_; rintro e w' ⟨rfl, rfl⟩)
  clear HG
  go_loopw [0, 1, 5, 6] (fun mv nv cv qv wr => ∃ (a b c : Nat) (q : Bool), mv = .int .u64 (a : Int) ∧ nv = .int .u64 (b : Int) ∧ cv = .int .i64 (c : Int) ∧ qv = .bool q ∧ 1 ≤ a ∧ a ≤ b ∧ b ≤ 18446744073709551615 ∧ Hid (c + Tr.lng a b q = S) ∧ wr = w') (fun _ nv _ _ _ => (intOf nv).toNat)
  case atStart => exact ⟨m, n, 0, true, rfl, rfl, rfl, rfl, hm, hmn, hn, Lib.hid hrel0, rfl⟩
  case round =>
    clear hm hmn hn hrel0
    obtain ⟨a, b, c, q, rfl, rfl, rfl, rfl, ha, hab, hb, hc, rfl⟩ := hrel
    by_cases he : a = b
    · subst he
      have hst := hc.out
      rw [Tr.lng_eq] at hst
      cases q with
      | true =>
        obtain rfl : c = S := by simpa using hst
        have hne : ((a : Int) != (a : Int)) = false := by simp
        clear hc hst ha hab hb
        go_wp2
        go_ret
        exact ⟨rfl, rfl⟩
      | false =>
        obtain rfl : c + 1 = S := by simpa using hst
        have hne : ((a : Int) != (a : Int)) = false := by simp
        clear hc hst ha hab hb
        go_wp2
        go_ret
        exact ⟨by simp, rfl⟩
    · have h2 : 2 ≤ b := by omega
      have a1 := Tr.split_pos h2
      have a2 := Tr.split_lt h2
      have hst := hc.out
      rw [Tr.lng_more q ha (by omega) (by omega)] at hst
      have hsp := split_any b wr hb
      obtain ⟨k, hk⟩ : ∃ k, Tr.split b = k := ⟨_, rfl⟩
      rw [hk] at a1 a2 hst hsp
      have HSP := Lib.hid hsp
      have hne : ((a : Int) != (b : Int)) = true := by rw [bne_iff_ne]; omega
      clear hsp hk hc
      by_cases hjk : a ≤ k
      · rw [if_pos hjk] at hst
        have hc64 : c ≤ 65 := by omega
        have HST := Lib.hid hst
        have hjk' : (a : Int) ≤ k := by omega
        clear hst he
        go_wp2_with (go_at_call 25; refine HSP.out.mono ?_; rintro e w' ⟨rfl, rfl⟩)
        go_roundw
        case rel => exact ⟨a, k, c + 1, q, rfl, rfl, by go_num, rfl, ha, hjk, by omega, Lib.hid (by have := HST.out; omega), by first | rfl | trivial⟩
        case measure => simp [intOf]; omega
      · rw [if_neg hjk] at hst
        have hc64 : c ≤ 65 := by omega
        have HST := Lib.hid hst
        have hjk' : ¬ (a : Int) ≤ k := by omega
        clear hst he
        go_wp2_with (go_at_call 25; refine HSP.out.mono ?_; rintro e w' ⟨rfl, rfl⟩)
        go_roundw
        case rel => exact ⟨a - k, b - k, c + 1, false, by go_num, by go_num, by go_num, rfl, by omega, by omega, by omega, Lib.hid (by have := HST.out; omega), by first | rfl | trivial⟩
        case measure => simp [intOf]; omega
set_option maxHeartbeats 1000000 in
theorem long_out (m n : Nat) (w : World) (h : m < 1 ∨ n < m) (hm : m ≤ 18446744073709551615) (hn : n ≤ 18446744073709551615) :
    Calls Tryd.prog 28 #[.int .u64 (m : Int), .int .u64 (n : Int)] w fun e w' => e = .returned (.int .i64 0) ∧ w' = w := by
  have hg := goes_any m n w hm hn
  rw [decide_eq_true h] at hg
  have HG := Lib.hid hg
  clear hg h
  go_enter Tryd.func28, Tryd.ntmps28
  go_wp2_with (go_at_call 27; refine HG.out.mono ?_; rintro e w' ⟨rfl, rfl⟩)
  go_ret
  exact ⟨rfl, rfl⟩
theorem long_any (m n : Nat) (w : World) (hm : m ≤ 18446744073709551615) (hn : n ≤ 18446744073709551615) :
    Calls Tryd.prog 28 #[.int .u64 (m : Int), .int .u64 (n : Int)] w fun e w' => e = .returned (.int .i64 (Tr.clong m n : Int)) ∧ w' = w := by
  unfold Tr.clong
  split
  · rename_i h
    exact long_out m n w h hm hn
  · exact long_in m n w (by omega) (by omega) hn
end Go.Proofs.YtjblnjeloimbgaaDoor
