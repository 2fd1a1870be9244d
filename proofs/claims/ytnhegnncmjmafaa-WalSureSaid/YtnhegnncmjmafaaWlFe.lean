/-
  What the laws of layer 12 share: whether rows are few.
-/
import Derived.Test.YtnhegnncmjmafaaWlAw
namespace Go.Proofs.Ytnhegnncmjmafaa
open Go.RowKit Go.BigFrame
set_option linter.unusedVariables false

def few12B (rs : List RowOf) : Bool := rs.all (fun r => decide (r.2.2.length ≤ 600)) && decide (rs.length ≤ 10)
theorem few12_all {rs : List RowOf} (h : few12B rs = true) : rs.length ≤ 10 ∧ ∀ r ∈ rs, r.2.2.length ≤ 600 := by
  unfold few12B at h
  rw [Bool.and_eq_true, List.all_eq_true] at h
  exact ⟨by simpa using h.2, fun r hr => by simpa using h.1 r hr⟩
set_option maxHeartbeats 1000000 in
theorem few12_none (c : Nat) (w : World) :
    Calls Try.prog 12 #[.slice none 0 c] w fun e w' => e = .returned (.bool true) ∧ w' = w := by
  go_enter Try.func12, Try.ntmps12
  go_wp2_with fail
  refine wp_loop_rounds 1 ?_
  rw [rounds_succ]
  go_wp2
  go_ret
  exact ⟨rfl, rfl⟩
set_option maxHeartbeats 1000000 in
theorem few12_some (a : Addr) (c : Nat) (rs : List RowOf) (w : World) (hR : RowsAt w (some a) rs) (hmax : rs.length ≤ 9223372036854775807) :
    Calls Try.prog 12 #[.slice (some a) rs.length c] w fun e w' => e = .returned (.bool (few12B rs)) ∧ w' = w := by
  obtain ⟨n, hn⟩ : ∃ n, rs.length = n := ⟨_, rfl⟩
  have HN := Lib.hid hn
  have HR := Lib.hid hR
  rw [hn] at hmax ⊢
  clear hn hR
  go_enter Try.func12, Try.ntmps12
  go_wp2_with fail
  go_loopw [3] (fun v wr => ∃ i : Nat, i ≤ n ∧ v = .int .i64 i ∧ Hid ((rs.take i).all (fun r => decide (r.2.2.length ≤ 600)) = true) ∧ wr = w) (fun v _ => n - (intOf v).toNat)
  case atStart => exact ⟨0, by omega, rfl, Lib.hid rfl, rfl⟩
  case round =>
    obtain ⟨i, hi, rfl, hall, rfl⟩ := hrel
    by_cases hlt : i < n
    · obtain ⟨r, hr⟩ : ∃ r, rs[i]? = some r := ⟨_, List.getElem?_eq_getElem (by rw [HN.out]; exact hlt)⟩
      obtain ⟨ad, e, hc⟩ := HR.out.cell i r hr
      injection e with e
      subst e
      have hi' : i < rs.length := by rw [HN.out]; exact hlt
      have hri : rs[i] = r := by rw [List.getElem?_eq_getElem hi'] at hr; exact Option.some.inj hr
      obtain ⟨m, hm⟩ : ∃ m, r.2.2.length = m := ⟨_, rfl⟩
      rw [hm] at hc
      have hcap := (HR.out.cap r (List.mem_of_getElem? hr))
      rw [hm] at hcap
      obtain ⟨A, cA, xs⟩ := r
      have hm' : xs.length = m := hm
      simp only at hc hcap
      have hm2 : m ≤ 9223372036854775807 := Nat.le_trans hcap.1 hcap.2
      by_cases h60 : m ≤ 600
      · have hnext : (rs.take (i + 1)).all (fun r => decide (r.2.2.length ≤ 600)) = true := by
          rw [List.take_succ_eq_append_getElem hi', List.all_append, hall.out, hri]
          simp [hm', h60]
        have HNX := Lib.hid hnext
        have h60' : (m : Int) ≤ 600 := by omega
        clear hnext hri hm hm' hr hi' hall hcap
        go_wp2
        go_roundw
        case rel => exact ⟨i + 1, by omega, by go_num, HNX, by first | rfl | trivial⟩
        case measure => simp [intOf]; omega
      · have hno : few12B rs = false := by
          unfold few12B
          rw [Bool.and_eq_false_iff]
          refine .inl ?_
          rw [List.all_eq_false]
          exact ⟨_, List.mem_of_getElem? hr, by simp [hm']; omega⟩
        have HNO := Lib.hid hno
        have h60' : (600 : Int) < m := by omega
        clear hno hri hm hm' hr hi' hall hcap
        go_wp2
        go_ret
        exact ⟨congrArg (fun b => Ending.returned (Value.bool b)) HNO.out.symm, rfl⟩
    · obtain rfl : i = n := by omega
      have hyes : few12B rs = decide (i ≤ 10) := by
        unfold few12B
        have := hall.out
        rw [List.take_of_length_le (by rw [HN.out]; exact Nat.le_refl _)] at this
        rw [this, HN.out, Bool.true_and]
      by_cases h20 : i ≤ 10
      · have h20' : (i : Int) ≤ 10 := by omega
        rw [decide_eq_true h20] at hyes
        have HY := Lib.hid hyes
        clear hall hyes hlt
        go_wp2
        go_ret
        exact ⟨congrArg (fun b => Ending.returned (Value.bool b)) HY.out.symm, rfl⟩
      · have h20' : (10 : Int) < i := by omega
        rw [decide_eq_false h20] at hyes
        have HY := Lib.hid hyes
        clear hall hyes hlt
        go_wp2
        go_ret
        exact ⟨congrArg (fun b => Ending.returned (Value.bool b)) ((decide_eq_false (by omega)).trans HY.out.symm), rfl⟩
theorem few12_any (A : Option Addr) (c : Nat) (rs : List RowOf) (w : World) (hR : RowsAt w A rs) (hmax : rs.length ≤ 9223372036854775807) :
    Calls Try.prog 12 #[.slice A rs.length c] w fun e w' => e = .returned (.bool (few12B rs)) ∧ w' = w := by
  cases A with
  | none =>
    have : rs = [] := by
      cases rs with
      | nil => rfl
      | cons r rs => obtain ⟨_, h, _⟩ := hR.cell 0 r rfl; cases h
    subst this
    exact few12_none c w
  | some a => exact few12_some a c rs w hR hmax
end Go.Proofs.Ytnhegnncmjmafaa
