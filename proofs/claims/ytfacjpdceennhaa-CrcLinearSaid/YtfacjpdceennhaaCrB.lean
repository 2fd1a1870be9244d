/-
  The document's own sum (assayerref10.Of).
-/
import Derived.Test.YtfacjpdceennhaaCrA
import Derived.Test.YtfacjpdceennhaaEq
import Derived.Test.YtfacjpdceennhaaRows
namespace Go.Proofs.Ytfacjpdceennhaa
open Go.RowKit
set_option linter.unusedVariables false

theorem bbs_succ' (n : Nat) (x : BitVec 32) : Cr.bbs (n + 1) x = Cr.bb (Cr.bbs n x) := Cr.bbs_add n 1 x
theorem run_take (x : BitVec 32) (l : List UInt8) (i : Nat) (c : UInt8) (h : l[i]? = some c) : Cr.run x (l.take (i + 1)) = Cr.by1 (Cr.run x (l.take i)) c := by
  have hi := (List.getElem?_eq_some_iff.1 h).1
  rw [List.take_succ_eq_append_getElem hi, Cr.run_append]
  rw [List.getElem?_eq_getElem hi] at h
  rw [Option.some.inj h]; rfl

set_option maxRecDepth 100000 in
set_option maxHeartbeats 1000000 in
theorem rcrc_any (xs : List UInt8) (w : World) (hx : xs.length ≤ 1000) :
    Calls Try.prog 8 #[.string (strOf xs)] w fun e w' => e = .returned (cv (Cr.sum xs)) ∧ w' = w := by
  obtain ⟨s, hs⟩ : ∃ s, strOf xs = s := ⟨_, rfl⟩
  have hz : s.size = xs.length := by rw [← hs]; rfl
  have hg : ∀ (i : Nat) (c : UInt8) (h : i < s.size), xs[i]? = some c → s[i]'h = c := by
    intro i c h e
    subst hs
    have hi := (List.getElem?_eq_some_iff.1 e).1
    rw [List.getElem?_eq_getElem hi] at e
    exact Option.some.inj e
  rw [hs]
  have HG := Lib.hid hg
  clear hs hg
  go_enter Try.func8, Try.ntmps8
  go_wp2
  go_loopw [3, 4] (fun x i wr => ∃ n : Nat, n ≤ xs.length ∧ i = .int .i64 n ∧ x = .int .u32 (ci (Cr.run 4294967295#32 (xs.take n))) ∧ wr = w) (fun _ i _ => xs.length - (intOf i).toNat)
  case atStart => exact ⟨0, by omega, rfl, rfl, rfl⟩
  case round =>
    obtain ⟨n, hn, rfl, rfl, hw⟩ := hrel
    obtain rfl : w = wr := hw.symm
    by_cases hlt : n < xs.length
    · obtain ⟨c, hc⟩ : ∃ c, xs[n]? = some c := ⟨_, List.getElem?_eq_getElem hlt⟩
      have g0 : s[n]'(by omega) = c := HG.out n c (by omega) hc
      have ht := run_take 4294967295#32 xs n c hc
      obtain ⟨x, hx0⟩ : ∃ x, Cr.run 4294967295#32 (xs.take n) = x := ⟨_, rfl⟩
      rw [hx0] at ht
      rw [hx0]
      have HT := Lib.hid ht
      clear ht hx0
      go_wp2_with fail
      go_loopw [3, 5] (fun y kk wr => ∃ k : Nat, k ≤ 8 ∧ kk = .int .i64 k ∧ y = .int .u32 (ci (Cr.bbs k (x ^^^ BitVec.ofNat 32 c.toNat))) ∧ wr = w) (fun _ kk _ => 8 - (intOf kk).toNat)
      case atStart =>
        exact ⟨0, by omega, rfl, by show _ = Value.int .u32 (ci (x ^^^ BitVec.ofNat 32 c.toNat)); rw [← ci_xor, ← ci_byte'], rfl⟩
      case round =>
        obtain ⟨k, hk, rfl, rfl, hw⟩ := hrel
        obtain rfl : w = wr := hw.symm
        by_cases hlk : k < 8
        · have hki : (k : Int) < 8 := by omega
          have hs := bbs_succ' k (x ^^^ BitVec.ofNat 32 c.toNat)
          obtain ⟨y, hy⟩ : ∃ y, Cr.bbs k (x ^^^ BitVec.ofNat 32 c.toNat) = y := ⟨_, rfl⟩
          rw [hy] at hs
          rw [hy]
          have HS := Lib.hid hs
          clear hs hy
          cases h1 : ((ci y).tmod 2 == 1) with
          | true =>
            have HO := Lib.hid (ct_one h1)
            go_wp2_with fail
            go_roundw
            case rel => exact ⟨k + 1, by omega, by go_num, by rw [HS.out, ← HO.out], by first | rfl | trivial⟩
            case measure => simp [intOf]; omega
          | false =>
            have HO := Lib.hid (ct_none h1)
            go_wp2_with fail
            go_roundw
            case rel => exact ⟨k + 1, by omega, by go_num, by rw [HS.out, ← HO.out], by first | rfl | trivial⟩
            case measure => simp [intOf]; omega
        · have hk8 : k = 8 := by omega
          subst hk8
          go_wp2_with fail
          go_roundw
          case rel => exact ⟨n + 1, by omega, by go_num, by rw [HT.out]; rfl, by first | rfl | trivial⟩
          case measure => simp [intOf]; omega
    · have hn' : n = xs.length := by omega
      have fin : 4294967295 - ci (Cr.run 4294967295#32 (xs.take n)) = ci (Cr.sum xs) := by
        rw [hn', List.take_length, ci_not]; rfl
      have FIN := Lib.hid fin
      clear fin
      obtain ⟨x, hx0⟩ : ∃ x, Cr.run 4294967295#32 (xs.take n) = x := ⟨_, rfl⟩
      rw [hx0] at FIN
      rw [hx0]
      clear hx0
      have b0 := ci_nonneg x
      have b1 := ci_lt x
      go_wp2_with fail
      go_ret
      exact ⟨by unfold cv; rw [← FIN.out]; rfl, rfl⟩
end Go.Proofs.Ytfacjpdceennhaa
