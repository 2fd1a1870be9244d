/-
  octet's Reader: numbers, the end: contracts over the translation.
-/
import Derived.Test.YtmjpaopobnhckaaRdA
import Derived.Deep.LoopGhost
import Derived.Laws.BitsLemmas
namespace Go.Proofs.Ytmjpaopobnhckaa
open Go.RowKit
set_option linter.unusedVariables false

theorem be_or (l : List UInt8) (c : UInt8) (h : l.length ≤ 7) : bits .or .u64 (IntKind.u64.wrap (be l * 256)) (IntKind.u64.wrap (c.toNat : Int)) = be (l ++ [c]) := by
  have h0 := be_nonneg l
  have h1 : be l < 72057594037927936 := be_lt l 7 h
  have hc : (c.toNat : Int) < 256 := by have := c.toNat_lt; omega
  rw [IntWalk.u64_in _ (by omega), IntWalk.u64_in _ (by omega), be_snoc]
  have h64 : (2 : Int) ^ 64 = 18446744073709551616 := by decide
  have h8 : (2 : Int) ^ 8 = 256 := by decide
  refine bits_join .u64 64 (by decide) ?_ 8 _ _ (by omega) ?_ ?_ (by omega) ?_ ?_
  · intro n a b
    rw [h64] at b
    exact IntWalk.u64_in n ⟨a, by omega⟩
  all_goals first | (rw [h64]; omega) | (rw [h8]; omega)

/-! ### Num -/
theorem rdNum_bad (b : Nat) (r : Option Nat) (n : Int) (s : RS) (w : World) (h : Rd w b r s) (hn : (decide (1 ≤ n) && decide (n ≤ 8)) = false) :
    Calls Try.prog 49 #[.pointer (some ⟨b, 0, none⟩), .int .i64 n] w fun e w' => e = .returned (.int .u64 (rnum n s).2) ∧ Rd w' b r (rnum n s).1 ∧ Only b w w' := by
  have fin : rnum n s = (failS 1 s, 0) := by simp [rnum, hn]
  have FIN := Lib.hid fin
  have HN := Lib.hid hn
  clear fin hn
  go_enter Try.func49, Try.ntmps49
  go_wp2_with (first
    | (go_at_call 46; refine (isNumSize_any _ _ false HN.out).mono ?_; rintro e w' ⟨rfl, rfl⟩)
    | (go_at_call 52; refine (rdFail_any b r _ _ _ h).mono ?_; rintro e w1 ⟨rfl, hr1, hk1⟩))
  go_ret
  rw [FIN.out]
  exact ⟨rfl, hr1, hk1⟩
theorem rdNum_ok (b : Nat) (r : Option Nat) (n : Nat) (s : RS) (w : World) (h : Rd w b r s) (h1 : 1 ≤ n) (h8 : n ≤ 8) :
    Calls Try.prog 49 #[.pointer (some ⟨b, 0, none⟩), .int .i64 n] w fun e w' => e = .returned (.int .u64 (rnum n s).2) ∧ Rd w' b r (rnum n s).1 ∧ Only b w w' := by
  have hn : (decide (1 ≤ (n : Int)) && decide ((n : Int) ≤ 8)) = true := by simp; omega
  have fin : rnum n s = ((tk n s).1, be (tk n s).2) := by simp [rnum, hn]
  have FIN := Lib.hid fin
  have HN := Lib.hid hn
  clear fin hn
  go_enter Try.func49, Try.ntmps49
  go_wp2_with (first
    | (go_at_call 46; refine (isNumSize_any _ _ true HN.out).mono ?_; rintro e w' ⟨rfl, rfl⟩)
    | (go_at_call 53; refine (rdTake_any b r n s _ h).mono ?_; rintro e w1 ⟨A, c, rfl, hrow, hcm, hr1, hk1⟩))
  have hle : (tk n s).2.length ≤ n := by
    unfold tk
    split
    · split
      · simp
      · simp; omega
    · simp
  generalize (tk n s).2 = bs at *
  go_loop [5, 7, 17] (fun x _ i => ∃ k : Nat, k ≤ bs.length ∧ i = .int .i64 k ∧ x = .int .u64 (be (bs.take k))) (fun _ _ i => bs.length - (intOf i).toNat)
  case atStart => exact ⟨0, Nat.zero_le _, rfl, rfl⟩
  case round =>
    obtain ⟨k, hk, rfl, rfl⟩ := hrel
    by_cases hlt : k < bs.length
    · obtain ⟨g, off, _, hA, hc⟩ := hrow k (bv bs[k]) (by rw [bvs_get, List.getElem?_eq_getElem hlt]; rfl)
      subst hA
      unfold bv at hc
      have ho := be_or (bs.take k) bs[k] (by rw [List.length_take]; omega)
      rw [← List.take_succ_eq_append_getElem hlt] at ho
      have HO := Lib.hid ho
      clear ho hrow
      go_wp2
      go_round
      case rel => exact ⟨k + 1, by omega, by go_num, by rw [HO.out]⟩
      case measure => simp [intOf]; omega
    · go_wp2
      have : k = bs.length := by omega
      subst this
      go_ret
      rw [FIN.out]
      exact ⟨by rw [List.take_of_length_le (Nat.le_refl _)]; rfl, hr1, hk1⟩
theorem rdNum_any (b : Nat) (r : Option Nat) (n : Int) (s : RS) (w : World) (h : Rd w b r s) :
    Calls Try.prog 49 #[.pointer (some ⟨b, 0, none⟩), .int .i64 n] w fun e w' => e = .returned (.int .u64 (rnum n s).2) ∧ Rd w' b r (rnum n s).1 ∧ Only b w w' := by
  cases hn : (decide (1 ≤ n) && decide (n ≤ 8)) with
  | false => exact rdNum_bad b r n s w h hn
  | true =>
    simp at hn
    obtain ⟨m, rfl⟩ := Int.eq_ofNat_of_zero_le (show 0 ≤ n by omega)
    exact rdNum_ok b r m s w h (by omega) (by omega)
theorem rdNum_nil (n : Int) (w : World) :
    Calls Try.prog 49 #[.pointer none, .int .i64 n] w fun e w' => e = .returned (.int .u64 0) ∧ w = w' := by
  cases hn : (decide (1 ≤ n) && decide (n ≤ 8)) with
  | false =>
    have HN := Lib.hid hn
    clear hn
    go_enter Try.func49, Try.ntmps49
    go_wp2_with (first
      | (go_at_call 46; refine (isNumSize_any _ _ false HN.out).mono ?_; rintro e w' ⟨rfl, rfl⟩)
      | (go_at_call 52; refine (rdFail_nil _ _).mono ?_; rintro e w1 ⟨rfl, rfl⟩))
    go_ret
    exact ⟨rfl, rfl⟩
  | true =>
    have HN := Lib.hid hn
    clear hn
    go_enter Try.func49, Try.ntmps49
    go_wp2_with (first
      | (go_at_call 46; refine (isNumSize_any _ _ true HN.out).mono ?_; rintro e w' ⟨rfl, rfl⟩)
      | (go_at_call 53; refine (rdTake_nil _ _).mono ?_; rintro e w1 ⟨rfl, rfl⟩))
    refine wp_loop_rounds 1 ?_
    rw [rounds_succ]
    go_wp2
    go_ret
    exact ⟨rfl, rfl⟩

/-! ### End -/
theorem rdEnd_any (b : Nat) (r : Option Nat) (s : RS) (w : World) (h : Rd w b r s) :
    Calls Try.prog 39 #[.pointer (some ⟨b, 0, none⟩)] w fun e w' => e = .returned (.int .i64 (rend s)) ∧ w = w' := by
  obtain ⟨l, e0⟩ := s
  have HR := h
  obtain ⟨_, A, c, h1, _⟩ := h
  have g0 := cell0 h1 0
  clear h1
  by_cases h0 : e0 = 0
  · subst h0
    by_cases hl : l = []
    · subst hl
      go_enter Try.func39, Try.ntmps39
      go_wp2_with (go_at_call 51; refine (rdErr_any b r _ _ HR).mono ?_; rintro e w' ⟨rfl, rfl⟩)
      go_ret
      exact ⟨rfl, rfl⟩
    · have hp : (0 : Int) < l.length := by cases l with
        | nil => exact absurd rfl hl
        | cons _ _ => simp only [List.length_cons]; omega
      have fin : rend (l, 0) = 12 := by simp [rend, hl]
      have FIN := Lib.hid fin
      clear hl fin
      go_enter Try.func39, Try.ntmps39
      go_wp2_with (go_at_call 51; refine (rdErr_any b r _ _ HR).mono ?_; rintro e w' ⟨rfl, rfl⟩)
      go_ret
      exact ⟨by rw [FIN.out]; rfl, rfl⟩
  · have hb : (e0 != 0) = true := by simpa using h0
    have fin : rend (l, e0) = e0 := by simp [rend, h0]
    have FIN := Lib.hid fin
    clear h0 fin
    go_enter Try.func39, Try.ntmps39
    go_wp2_with (go_at_call 51; refine (rdErr_any b r _ _ HR).mono ?_; rintro e w' ⟨rfl, rfl⟩)
    go_ret
    exact ⟨by rw [FIN.out]; rfl, rfl⟩
theorem rdEnd_nil (w : World) :
    Calls Try.prog 39 #[.pointer none] w fun e w' => e = .returned (.int .i64 1) ∧ w = w' := by
  go_enter Try.func39, Try.ntmps39
  go_wp2_with (go_at_call 51; refine (rdErr_nil _).mono ?_; rintro e w' ⟨rfl, rfl⟩)
  go_ret
  exact ⟨rfl, rfl⟩
end Go.Proofs.Ytmjpaopobnhckaa
