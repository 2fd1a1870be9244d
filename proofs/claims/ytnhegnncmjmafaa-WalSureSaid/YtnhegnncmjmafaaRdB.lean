/-
  octet's Reader: bytes, numbers, hashes, the end: contracts over the translation.
-/
import Derived.Test.YtnhegnncmjmafaaRdA
import Derived.Deep.LoopGhost
import Derived.Laws.BitsLemmas
namespace Go.Proofs.Ytnhegnncmjmafaa
open Go.RowKit
set_option linter.unusedVariables false

/-- The number that bytes tell, the highest first. -/
def be (l : List UInt8) : Int := l.foldl (fun x c => x * 256 + c.toNat) 0
theorem be_snoc (l : List UInt8) (c : UInt8) : be (l ++ [c]) = be l * 256 + c.toNat := by simp [be]

theorem be_aux (l : List UInt8) : ∀ x : Int, 0 ≤ x → 0 ≤ l.foldl (fun x c => x * 256 + (c.toNat : Int)) x ∧ l.foldl (fun x c => x * 256 + (c.toNat : Int)) x < (x + 1) * 256 ^ l.length := by
  induction l with
  | nil => intro x hx; simp; omega
  | cons c l ih =>
    intro x hx
    have hc : (c.toNat : Int) < 256 := by have := c.toNat_lt; omega
    obtain ⟨h1, h2⟩ := ih (x * 256 + c.toNat) (by omega)
    refine ⟨h1, ?_⟩
    simp only [List.foldl_cons, List.length_cons]
    refine Int.lt_of_lt_of_le h2 ?_
    rw [Int.pow_succ, Int.mul_comm (256 ^ l.length) 256, ← Int.mul_assoc]
    exact Int.mul_le_mul_of_nonneg_right (by omega) (Int.le_of_lt (Int.pow_pos (by omega)))
theorem be_nonneg (l : List UInt8) : 0 ≤ be l := (be_aux l 0 (by omega)).1
theorem be_lt (l : List UInt8) (n : Nat) (h : l.length ≤ n) : be l < 256 ^ n := by
  have h1 : be l < (0 + 1) * 256 ^ l.length := (be_aux l 0 (by omega)).2
  rw [Int.zero_add, Int.one_mul] at h1
  refine Int.lt_of_lt_of_le h1 ?_
  have e : ∀ k : Nat, (256 : Int) ^ k = ((256 ^ k : Nat) : Int) := fun k => by rw [Int.natCast_pow]; rfl
  rw [e, e]
  exact Int.ofNat_le.2 (Nat.pow_le_pow_right (by omega) h)
theorem be_or (l : List UInt8) (c : UInt8) (h : l.length ≤ 7) : bits .or .u64 (IntKind.u64.wrap (be l * 256)) (IntKind.u64.wrap (c.toNat : Int)) = be (l ++ [c]) := by
  have h0 := be_nonneg l
  have h1 : be l < 72057594037927936 := be_lt l 7 h
  have hc : (c.toNat : Int) < 256 := by have := c.toNat_lt; omega
  rw [IntWalk.u64_in _ (by omega), IntWalk.u64_in _ (by omega), be_snoc]
  have h64 : (2 : Int) ^ 64 = 18446744073709551616 := by decide
  have h8 : (2 : Int) ^ 8 = 256 := by decide
  refine bits_join .u64 64 (by decide) ?_ 8 _ _ (by omega) ?_ ?_ (by omega) ?_ ?_
  · intro n a b
    rw [h64] at b
    exact IntWalk.u64_in n ⟨a, by omega⟩
  all_goals first | (rw [h64]; omega) | (rw [h8]; omega)

/-! ### Raw -/
def rraw (n : Int) (s : RS) : RS × List UInt8 := if n < 0 then (failS 1 s, []) else tk n.toNat s
/-- What is told lies in a row of its own; the Reader's state and its rows. -/
def Told (b : Nat) (r : Option Nat) (p : RS × List UInt8) (w : World) (e : Ending) (w' : World) : Prop :=
  ∃ A c, e = .returned (.slice A p.2.length c) ∧ w'.ownsRow w.heap.size 5 1 (.slice A p.2.length c) p.2.length (bvs p.2) ∧ Rd w' b r p.1 ∧ Only b w w'

theorem tk_le (n : Nat) (s : RS) : (tk n s).2.length ≤ s.1.length := by
  unfold tk
  split
  · split
    · simp
    · simp; omega
  · simp

theorem rdRaw_any (b : Nat) (r : Option Nat) (n : Int) (s : RS) (w : World) (h : Rd w b r s) (hs : s.1.length ≤ 100000000) :
    Calls Try.prog 53 #[.pointer (some ⟨b, 0, none⟩), .int .i64 n] w (Told b r (rraw n s) w) := by
  by_cases hn : n < 0
  · have fin : rraw n s = (failS 1 s, []) := by simp [rraw, hn]
    have FIN := Lib.hid fin
    clear fin
    go_enter Try.func53, Try.ntmps53
    go_wp2_with (go_at_call 67; refine (rdFail_any b r _ _ _ h).mono ?_; rintro e w1 ⟨rfl, hr1, hk1⟩)
    go_ret
    exact ⟨none, 0, by rw [FIN.out]; rfl, by rw [FIN.out]; exact World.ownsRow_nil _ _ _ _, by rw [FIN.out]; exact hr1, hk1⟩
  · obtain ⟨m, rfl⟩ := Int.eq_ofNat_of_zero_le (Int.not_lt.1 hn)
    have fin : rraw m s = tk m s := by unfold rraw; rw [if_neg hn]; rfl
    have FIN := Lib.hid fin
    clear fin hn
    have hle := tk_le m s
    go_enter Try.func53, Try.ntmps53
    go_wp2_with fail
    refine (rdTake_any b r m s _ h).mono ?_
    rintro e w1 ⟨A, c, rfl, hrow, _, hr1, hk1⟩
    go_wp2_with fail
    refine (clone_any A c _ _ hrow.src (by omega)).mono ?_
    rintro e w2 ⟨A2, c2, rfl, hown, hk2⟩
    go_wp2
    go_ret
    have hlt1 := hk1.size
    refine ⟨A2, c2, by rw [FIN.out]; rfl, ?_, by rw [FIN.out]; exact hr1.keeps hk2 id (fun _ _ => id), hk1.trans' hk2 (fun _ _ h => h.elim)⟩
    rw [FIN.out]
    refine ⟨hown.1, hown.2.imp id ?_⟩
    rintro ⟨g, cap, cur, h1, h2, h3⟩
    exact ⟨g, cap, cur, h1, by omega, h3⟩
theorem rdRaw_nil (n : Int) (w : World) :
    Calls Try.prog 53 #[.pointer none, .int .i64 n] w fun e w' => e = .returned (.slice none 0 0) ∧ w = w' := by
  by_cases hn : n < 0
  · go_enter Try.func53, Try.ntmps53
    go_wp2_with (go_at_call 67; refine (rdFail_nil _ _).mono ?_; rintro e w1 ⟨rfl, rfl⟩)
    go_ret
    exact ⟨rfl, rfl⟩
  · go_enter Try.func53, Try.ntmps53
    go_wp2_with fail
    refine (rdTake_nil _ _).mono ?_
    rintro e w1 ⟨rfl, rfl⟩
    go_wp2_with fail
    refine (clone_nil _ _).mono ?_
    rintro e w1 ⟨rfl, rfl⟩
    go_wp2
    go_ret
    exact ⟨rfl, rfl⟩

/-! ### Num -/
def rnum (n : Int) (s : RS) : RS × Int := if (decide (1 ≤ n) && decide (n ≤ 8)) = true then ((tk n.toNat s).1, be (tk n.toNat s).2) else (failS 1 s, 0)

theorem rdNum_bad (b : Nat) (r : Option Nat) (n : Int) (s : RS) (w : World) (h : Rd w b r s) (hn : (decide (1 ≤ n) && decide (n ≤ 8)) = false) :
    Calls Try.prog 52 #[.pointer (some ⟨b, 0, none⟩), .int .i64 n] w fun e w' => e = .returned (.int .u64 (rnum n s).2) ∧ Rd w' b r (rnum n s).1 ∧ Only b w w' := by
  have fin : rnum n s = (failS 1 s, 0) := by simp [rnum, hn]
  have FIN := Lib.hid fin
  have HN := Lib.hid hn
  clear fin hn
  go_enter Try.func52, Try.ntmps52
  go_wp2_with (first
    | (go_at_call 66; refine (isNumSize_any _ _ false HN.out).mono ?_; rintro e w' ⟨rfl, rfl⟩)
    | (go_at_call 67; refine (rdFail_any b r _ _ _ h).mono ?_; rintro e w1 ⟨rfl, hr1, hk1⟩))
  go_ret
  rw [FIN.out]
  exact ⟨rfl, hr1, hk1⟩
theorem rdNum_ok (b : Nat) (r : Option Nat) (n : Nat) (s : RS) (w : World) (h : Rd w b r s) (h1 : 1 ≤ n) (h8 : n ≤ 8) :
    Calls Try.prog 52 #[.pointer (some ⟨b, 0, none⟩), .int .i64 n] w fun e w' => e = .returned (.int .u64 (rnum n s).2) ∧ Rd w' b r (rnum n s).1 ∧ Only b w w' := by
  have hn : (decide (1 ≤ (n : Int)) && decide ((n : Int) ≤ 8)) = true := by simp; omega
  have fin : rnum n s = ((tk n s).1, be (tk n s).2) := by simp [rnum, hn]
  have FIN := Lib.hid fin
  have HN := Lib.hid hn
  clear fin hn
  go_enter Try.func52, Try.ntmps52
  go_wp2_with (first
    | (go_at_call 66; refine (isNumSize_any _ _ true HN.out).mono ?_; rintro e w' ⟨rfl, rfl⟩)
    | (go_at_call 68; refine (rdTake_any b r n s _ h).mono ?_; rintro e w1 ⟨A, c, rfl, hrow, hcm, hr1, hk1⟩))
  have hle : (tk n s).2.length ≤ n := by
    unfold tk
    split
    · split
      · simp
      · simp; omega
    · simp
  generalize (tk n s).2 = bs at *
  go_loop [5, 7, 17] (fun x _ i => ∃ k : Nat, k ≤ bs.length ∧ i = .int .i64 k ∧ x = .int .u64 (be (bs.take k))) (fun _ _ i => bs.length - (intOf i).toNat)
  case atStart => exact ⟨0, Nat.zero_le _, rfl, rfl⟩
  case round =>
    obtain ⟨k, hk, rfl, rfl⟩ := hrel
    by_cases hlt : k < bs.length
    · obtain ⟨g, off, _, hA, hc⟩ := hrow k (bv bs[k]) (by rw [bvs_get, List.getElem?_eq_getElem hlt]; rfl)
      subst hA
      unfold bv at hc
      have ho := be_or (bs.take k) bs[k] (by rw [List.length_take]; omega)
      rw [← List.take_succ_eq_append_getElem hlt] at ho
      have HO := Lib.hid ho
      clear ho hrow
      go_wp2
      go_round
      case rel => exact ⟨k + 1, by omega, by go_num, by rw [HO.out]⟩
      case measure => simp [intOf]; omega
    · go_wp2
      have : k = bs.length := by omega
      subst this
      go_ret
      rw [FIN.out]
      exact ⟨by rw [List.take_of_length_le (Nat.le_refl _)]; rfl, hr1, hk1⟩
theorem rdNum_any (b : Nat) (r : Option Nat) (n : Int) (s : RS) (w : World) (h : Rd w b r s) :
    Calls Try.prog 52 #[.pointer (some ⟨b, 0, none⟩), .int .i64 n] w fun e w' => e = .returned (.int .u64 (rnum n s).2) ∧ Rd w' b r (rnum n s).1 ∧ Only b w w' := by
  cases hn : (decide (1 ≤ n) && decide (n ≤ 8)) with
  | false => exact rdNum_bad b r n s w h hn
  | true =>
    simp at hn
    obtain ⟨m, rfl⟩ := Int.eq_ofNat_of_zero_le (show 0 ≤ n by omega)
    exact rdNum_ok b r m s w h (by omega) (by omega)
theorem rdNum_nil (n : Int) (w : World) :
    Calls Try.prog 52 #[.pointer none, .int .i64 n] w fun e w' => e = .returned (.int .u64 0) ∧ w = w' := by
  cases hn : (decide (1 ≤ n) && decide (n ≤ 8)) with
  | false =>
    have HN := Lib.hid hn
    clear hn
    go_enter Try.func52, Try.ntmps52
    go_wp2_with (first
      | (go_at_call 66; refine (isNumSize_any _ _ false HN.out).mono ?_; rintro e w' ⟨rfl, rfl⟩)
      | (go_at_call 67; refine (rdFail_nil _ _).mono ?_; rintro e w1 ⟨rfl, rfl⟩))
    go_ret
    exact ⟨rfl, rfl⟩
  | true =>
    have HN := Lib.hid hn
    clear hn
    go_enter Try.func52, Try.ntmps52
    go_wp2_with (first
      | (go_at_call 66; refine (isNumSize_any _ _ true HN.out).mono ?_; rintro e w' ⟨rfl, rfl⟩)
      | (go_at_call 68; refine (rdTake_nil _ _).mono ?_; rintro e w1 ⟨rfl, rfl⟩))
    refine wp_loop_rounds 1 ?_
    rw [rounds_succ]
    go_wp2
    go_ret
    exact ⟨rfl, rfl⟩

/-! ### End -/
def rend (s : RS) : Int := if s.2 = 0 then (if s.1 = [] then 0 else 12) else s.2
theorem rdEnd_any (b : Nat) (r : Option Nat) (s : RS) (w : World) (h : Rd w b r s) :
    Calls Try.prog 51 #[.pointer (some ⟨b, 0, none⟩)] w fun e w' => e = .returned (.int .i64 (rend s)) ∧ w = w' := by
  obtain ⟨l, e0⟩ := s
  have HR := h
  obtain ⟨_, A, c, h1, _⟩ := h
  have g0 := cell0 h1 0
  clear h1
  by_cases h0 : e0 = 0
  · subst h0
    by_cases hl : l = []
    · subst hl
      go_enter Try.func51, Try.ntmps51
      go_wp2_with (go_at_call 54; refine (rdErr_any b r _ _ HR).mono ?_; rintro e w' ⟨rfl, rfl⟩)
      go_ret
      exact ⟨rfl, rfl⟩
    · have hp : (0 : Int) < l.length := by cases l with
        | nil => exact absurd rfl hl
        | cons _ _ => simp only [List.length_cons]; omega
      have fin : rend (l, 0) = 12 := by simp [rend, hl]
      have FIN := Lib.hid fin
      clear hl fin
      go_enter Try.func51, Try.ntmps51
      go_wp2_with (go_at_call 54; refine (rdErr_any b r _ _ HR).mono ?_; rintro e w' ⟨rfl, rfl⟩)
      go_ret
      exact ⟨by rw [FIN.out]; rfl, rfl⟩
  · have hb : (e0 != 0) = true := by simpa using h0
    have fin : rend (l, e0) = e0 := by simp [rend, h0]
    have FIN := Lib.hid fin
    clear h0 fin
    go_enter Try.func51, Try.ntmps51
    go_wp2_with (go_at_call 54; refine (rdErr_any b r _ _ HR).mono ?_; rintro e w' ⟨rfl, rfl⟩)
    go_ret
    exact ⟨by rw [FIN.out]; rfl, rfl⟩
theorem rdEnd_nil (w : World) :
    Calls Try.prog 51 #[.pointer none] w fun e w' => e = .returned (.int .i64 1) ∧ w = w' := by
  go_enter Try.func51, Try.ntmps51
  go_wp2_with (go_at_call 54; refine (rdErr_nil _).mono ?_; rintro e w' ⟨rfl, rfl⟩)
  go_ret
  exact ⟨rfl, rfl⟩
end Go.Proofs.Ytnhegnncmjmafaa
