/-
  The law ChainLong walked: how long proofs are.
-/
import Derived.Test.YtfokemminjikpaaDoorChW
import Derived.Laws.BitsAllLaws
namespace Go.Proofs.YtfokemminjikpaaDoor
open Go.RowKit Go.BigFrame
set_option linter.unusedVariables false

/-- How many bits a number has. -/
def nbits (x : Nat) : Nat := if x = 0 then 0 else Nat.log2 x + 1
theorem nbits_half {x : Nat} (h : 0 < x) : nbits x = nbits (x / 2) + 1 := by
  unfold nbits
  rw [if_neg (by omega)]
  rw [Nat.log2_def]
  split
  · rw [if_neg (by omega)]
  · rw [if_pos (by omega)]
theorem nbits_deep {n : Nat} (h : 1 ≤ n) : nbits (n - 1) = Tr.deep n := by
  unfold nbits Tr.deep
  by_cases h2 : n < 2
  · rw [if_pos (by omega), if_pos h2]
  · rw [if_neg (by omega), if_neg h2]
set_option maxRecDepth 100000 in
set_option maxHeartbeats 1000000 in
theorem clong_out (m n : Nat) (W : World) (hT : Tabs W) (h : m < 1 ∨ n ≤ m) (hm : m ≤ 18446744073709551615) (hn : n ≤ 18446744073709551615) :
    Calls Tryd.prog 9 #[.int .u64 (m : Int), .int .u64 (n : Int)] W fun e W' => e = .returned (.bool true) ∧ Below W.heap.size W W' := by
  have HAW := Lib.hid (awake4_any W hT)
  have hc : Tr.clong m n = 0 := by
    unfold Tr.clong
    split
    · rfl
    · obtain rfl : m = n := by omega
      exact Tr.lng_eq _ _
  have hl := fun V => long_any m n V hm hn
  rw [hc] at hl
  have HL := Lib.hid hl
  clear hl hc hT
  rcases Nat.lt_or_ge m 1 with h1 | h1
  · have h1' : (m : Int) < 1 := by omega
    clear h h1 hm hn
    go_enter Tryd.func9, Tryd.ntmps9
    go_wp2_with fail
    refine HAW.out.mono ?_
    rintro e1 w1 ⟨rfl, k1⟩
    go_wp2_with fail
    refine (HL.out w1).mono ?_
    rintro e2 w2 ⟨rfl, rfl⟩
    go_wp2
    go_ret
    exact ⟨rfl, keeps_below3 k1⟩
  · have h1' : ¬ (m : Int) < 1 := by omega
    have h2' : (n : Int) ≤ m := by omega
    clear h h1 hm hn
    go_enter Tryd.func9, Tryd.ntmps9
    go_wp2_with fail
    refine HAW.out.mono ?_
    rintro e1 w1 ⟨rfl, k1⟩
    go_wp2_with fail
    refine (HL.out w1).mono ?_
    rintro e2 w2 ⟨rfl, rfl⟩
    go_wp2
    go_ret
    exact ⟨rfl, keeps_below3 k1⟩
set_option maxRecDepth 100000 in
set_option maxHeartbeats 2000000 in
theorem clong_inn (m n : Nat) (W : World) (hT : Tabs W) (h1 : 1 ≤ m) (h2 : m < n) (hn : n ≤ 18446744073709551615) :
    Calls Tryd.prog 9 #[.int .u64 (m : Int), .int .u64 (n : Int)] W fun e W' => e = .returned (.bool true) ∧ Below W.heap.size W W' := by
  have HAW := Lib.hid (awake4_any W hT)
  have hl := fun V => long_in m n V h1 (by omega) hn
  have s1 := Tr.lng_pos true h1 h2 (by omega)
  have s2 := Tr.lng_le (Tr.deep n) m n true (Nat.le_refl _) h1 (by omega) (by omega)
  have s3 : m &&& (m - 1) = 0 → Tr.lng m n true ≤ Tr.deep n := fun h => by
    obtain ⟨j, rfl⟩ := Tr.pow_of_land h1 h
    exact Tr.lng_pow (Tr.deep n) j n (Nat.le_refl _) (by omega) (by omega)
  have hd64 : Tr.deep n ≤ 64 := Tr.deep_le (by omega)
  have hnb := nbits_deep (n := n) (by omega)
  obtain ⟨D, hD⟩ : ∃ D, Tr.deep n = D := ⟨_, rfl⟩
  obtain ⟨S, hS⟩ : ∃ S, Tr.lng m n true = S := ⟨_, rfl⟩
  rw [hD] at s2 s3 hd64 hnb
  rw [hS] at hl s1 s2 s3
  have hand : bits .and .u64 (m : Int) ((m : Int) - 1) = ((m &&& (m - 1) : Nat) : Int) := by
    rw [show ((m : Int) - 1) = ((m - 1 : Nat) : Int) by omega, u64_and_nat m (m - 1) (by omega) (by omega)]
  obtain ⟨L, hL⟩ : ∃ L, m &&& (m - 1) = L := ⟨_, rfl⟩
  rw [hL] at hand s3
  have q1 : (1 : Int) ≤ S := by omega
  have q2 : (S : Int) ≤ (D : Int) + 1 := by omega
  have q3 : ¬ (m : Int) < 1 := by omega
  have q4 : ¬ (n : Int) ≤ m := by omega
  have q5 : (D : Int) ≤ 64 := by omega
  have q6 : (1 : Int) ≤ m := by omega
  have q7 : (m : Int) ≤ 18446744073709551615 := by omega
  have q8 : (1 : Int) ≤ n := by omega
  have HL := Lib.hid hl
  have HAN := Lib.hid hand
  have HNB := Lib.hid hnb
  have HS3 := Lib.hid s3
  have HN := Lib.hid (show 1 ≤ n by omega)
  clear hl hand hnb s3 s1 s2 hL hD hS hT h1 h2 hd64
  go_enter Tryd.func9, Tryd.ntmps9
  go_wp2_with fail
  refine HAW.out.mono ?_
  rintro e1 w1 ⟨rfl, k1⟩
  have K1 := Lib.hid k1
  clear HAW k1
  go_wp2_with fail
  refine (HL.out w1).mono ?_
  rintro e2 w2 ⟨rfl, rfl⟩
  clear HL
  go_wp2_with fail
  go_loopw [7, 8] (fun bv xv wr => ∃ b x : Nat, bv = .int .i64 (b : Int) ∧ xv = .int .u64 (x : Int) ∧ x ≤ 18446744073709551615 ∧ Hid (b + nbits x = D) ∧ wr = w2) (fun _ xv _ => (intOf xv).toNat)
  case atStart => exact ⟨0, n - 1, rfl, by have := HN.out; go_num, by omega, Lib.hid (by rw [HNB.out]; omega), rfl⟩
  case round =>
    obtain ⟨b, x, rfl, rfl, hx, hb, rfl⟩ := hrel
    by_cases h0 : 0 < x
    · have hh := hb.out
      rw [nbits_half h0] at hh
      have hb64 : b ≤ 64 := by omega
      have h0' : (0 : Int) < x := by omega
      have HH := Lib.hid hh
      clear hh hb
      go_wp2
      go_roundw
      case rel => exact ⟨b + 1, x / 2, by go_num, by go_num, by omega, Lib.hid (by have := HH.out; omega), by first | rfl | trivial⟩
      case measure => simp [intOf]; omega
    · obtain rfl : x = 0 := by omega
      obtain rfl : b = D := by have := hb.out; unfold nbits at this; rw [if_pos rfl] at this; omega
      by_cases hz : L = 0
      · have q9 : (S : Int) ≤ b := by have := HS3.out hz; omega
        have hand : bits .and .u64 (m : Int) ((m : Int) - 1) = 0 := by rw [HAN.out, hz]; rfl
        clear hb hz HS3
        go_wp2
        go_ret
        exact ⟨rfl, keeps_below3 K1.out⟩
      · have hand := HAN.out
        have hne : ((L : Int) != 0) = true := by rw [bne_iff_ne]; omega
        clear hb hz HS3 HAN
        go_wp2
        go_ret
        exact ⟨rfl, keeps_below3 K1.out⟩
theorem clong_walk (m n : Int) (W : World) (hT : Tabs W) (h0 : (Lit.int .u64 m).wf = true) (h1 : (Lit.int .u64 n).wf = true) :
    Calls Tryd.prog 9 #[.int .u64 m, .int .u64 n] W fun e W' => e = .returned (.bool true) ∧ Below W.heap.size W W' := by
  have bm := bounds_u64 h0
  have bn := bounds_u64 h1
  obtain ⟨m, rfl⟩ := Int.eq_ofNat_of_zero_le bm.1
  obtain ⟨n, rfl⟩ := Int.eq_ofNat_of_zero_le bn.1
  by_cases h : m < 1 ∨ n ≤ m
  · exact clong_out m n W hT h (by omega) (by omega)
  · exact clong_inn m n W hT (by omega) (by omega) (by omega)
end Go.Proofs.YtfokemminjikpaaDoor
