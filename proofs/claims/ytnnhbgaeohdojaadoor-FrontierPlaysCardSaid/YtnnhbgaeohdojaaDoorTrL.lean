/-
  What the laws of layer 3 share: whether entries are few, hashes that came in.
-/
import Derived.Test.YtnnhbgaeohdojaaDoorTrW
import Derived.Test.YtnnhbgaeohdojaaDoorOpens
namespace Go.Proofs.YtnnhbgaeohdojaaDoor
open Go.RowKit Go.BigFrame
set_option linter.unusedVariables false

theorem PathAt.of_hashes {w : World} {A : Option Addr} {len cap : Nat} {hs : List (List UInt8)} (h : IsHashes w A len cap hs) : PathAt w A hs := by
  obtain ⟨h1, h2, h3, h4, h5⟩ := h
  refine ⟨h4, fun i p hp => ?_⟩
  obtain ⟨hi, e⟩ := List.getElem?_eq_some_iff.1 hp
  obtain ⟨b, o, ha, hc⟩ := h5 i hi
  refine ⟨b, o, ha, fun j v hv => ?_⟩
  rw [bvs_get] at hv
  obtain ⟨c, hc1, rfl⟩ := Option.map_eq_some_iff.1 hv
  have := hc j c (by rw [e]; exact hc1)
  rwa [← Nat.add_assoc] at this
theorem keeps_below3 {w w' : World} (h : Keeps (fun _ => False) w w') : Below w.heap.size w w' := h.below (Nat.le_refl _) (fun _ _ => id)
/-- Are entries few and short? -/
def fewB (rs : List RowOf) : Bool := rs.all (fun r => decide (r.2.2.length ≤ 60)) && decide (rs.length ≤ 20)
set_option maxHeartbeats 1000000 in
theorem few_none (c : Nat) (w : World) :
    Calls Tryd.prog 12 #[.slice none 0 c] w fun e w' => e = .returned (.bool true) ∧ w' = w := by
  go_enter Tryd.func12, Tryd.ntmps12
  go_wp2_with fail
  refine wp_loop_rounds 1 ?_
  rw [rounds_succ]
  go_wp2
  go_ret
  exact ⟨rfl, rfl⟩
set_option maxHeartbeats 1000000 in
theorem few_some (a : Addr) (c : Nat) (rs : List RowOf) (w : World) (hR : RowsAt w (some a) rs) (hmax : rs.length ≤ 9223372036854775807) :
    Calls Tryd.prog 12 #[.slice (some a) rs.length c] w fun e w' => e = .returned (.bool (fewB rs)) ∧ w' = w := by
  obtain ⟨n, hn⟩ : ∃ n, rs.length = n := ⟨_, rfl⟩
  have HN := Lib.hid hn
  have HR := Lib.hid hR
  rw [hn] at hmax ⊢
  clear hn hR
  go_enter Tryd.func12, Tryd.ntmps12
  go_wp2_with fail
  go_loopw [3] (fun v wr => ∃ i : Nat, i ≤ n ∧ v = .int .i64 i ∧ Hid ((rs.take i).all (fun r => decide (r.2.2.length ≤ 60)) = true) ∧ wr = w) (fun v _ => n - (intOf v).toNat)
  case atStart => exact ⟨0, by omega, rfl, Lib.hid rfl, rfl⟩
  case round =>
    obtain ⟨i, hi, rfl, hall, rfl⟩ := hrel
    by_cases hlt : i < n
    · obtain ⟨r, hr⟩ : ∃ r, rs[i]? = some r := ⟨_, List.getElem?_eq_getElem (by rw [HN.out]; exact hlt)⟩
      obtain ⟨ad, e, hc⟩ := HR.out.cell i r hr
      injection e with e
      subst e
      have hi' : i < rs.length := by rw [HN.out]; exact hlt
      have hri : rs[i] = r := by rw [List.getElem?_eq_getElem hi'] at hr; exact Option.some.inj hr
      obtain ⟨m, hm⟩ : ∃ m, r.2.2.length = m := ⟨_, rfl⟩
      rw [hm] at hc
      have hcap := (HR.out.cap r (List.mem_of_getElem? hr))
      rw [hm] at hcap
      obtain ⟨A, cA, xs⟩ := r
      have hm' : xs.length = m := hm
      simp only at hc hcap
      have hm2 : m ≤ 9223372036854775807 := Nat.le_trans hcap.1 hcap.2
      by_cases h60 : m ≤ 60
      · have hnext : (rs.take (i + 1)).all (fun r => decide (r.2.2.length ≤ 60)) = true := by
          rw [List.take_succ_eq_append_getElem hi', List.all_append, hall.out, hri]
          simp [hm', h60]
        have HNX := Lib.hid hnext
        have h60' : (m : Int) ≤ 60 := by omega
        clear hnext hri hm hm' hr hi' hall hcap
        go_wp2
        go_roundw
        case rel => exact ⟨i + 1, by omega, by go_num, HNX, by first | rfl | trivial⟩
        case measure => simp [intOf]; omega
      · have hno : fewB rs = false := by
          unfold fewB
          rw [Bool.and_eq_false_iff]
          refine .inl ?_
          rw [List.all_eq_false]
          exact ⟨_, List.mem_of_getElem? hr, by simp [hm']; omega⟩
        have HNO := Lib.hid hno
        have h60' : (60 : Int) < m := by omega
        clear hno hri hm hm' hr hi' hall hcap
        go_wp2
        go_ret
        exact ⟨congrArg (fun b => Ending.returned (Value.bool b)) HNO.out.symm, rfl⟩
    · obtain rfl : i = n := by omega
      have hyes : fewB rs = decide (i ≤ 20) := by
        unfold fewB
        have := hall.out
        rw [List.take_of_length_le (by rw [HN.out]; exact Nat.le_refl _)] at this
        rw [this, HN.out, Bool.true_and]
      by_cases h20 : i ≤ 20
      · have h20' : (i : Int) ≤ 20 := by omega
        rw [decide_eq_true h20] at hyes
        have HY := Lib.hid hyes
        clear hall hyes hlt
        go_wp2
        go_ret
        exact ⟨congrArg (fun b => Ending.returned (Value.bool b)) HY.out.symm, rfl⟩
      · have h20' : (20 : Int) < i := by omega
        rw [decide_eq_false h20] at hyes
        have HY := Lib.hid hyes
        clear hall hyes hlt
        go_wp2
        go_ret
        exact ⟨congrArg (fun b => Ending.returned (Value.bool b)) ((decide_eq_false (by omega)).trans HY.out.symm), rfl⟩
theorem few_any (A : Option Addr) (c : Nat) (rs : List RowOf) (w : World) (hR : RowsAt w A rs) (hmax : rs.length ≤ 9223372036854775807) :
    Calls Tryd.prog 12 #[.slice A rs.length c] w fun e w' => e = .returned (.bool (fewB rs)) ∧ w' = w := by
  cases A with
  | none =>
    have : rs = [] := by
      cases rs with
      | nil => rfl
      | cons r rs => obtain ⟨_, h, _⟩ := hR.cell 0 r rfl; cases h
    subst this
    exact few_none c w
  | some a => exact few_some a c rs w hR hmax
theorem few_short {rs : List RowOf} (h : fewB rs = true) : rs.length ≤ 20 ∧ ∀ r ∈ rs, r.2.2.length ≤ 1000 := by
  unfold fewB at h
  rw [Bool.and_eq_true, List.all_eq_true] at h
  refine ⟨by simpa using h.2, fun r hr => ?_⟩
  have := h.1 r hr
  simp only [decide_eq_true_eq] at this
  omega
end Go.Proofs.YtnnhbgaeohdojaaDoor
