/-
  What the laws of layer 5 share: whether entries are few, whether hashes are the same.
-/
import Derived.Test.YtnnhbgaeohdojaaDoorFrW
import Derived.Test.YtnnhbgaeohdojaaDoorTrL
import Derived.Test.YtnnhbgaeohdojaaDoorShaT
namespace Go.Proofs.YtnnhbgaeohdojaaDoor
open Go.RowKit Go.BigFrame
set_option linter.unusedVariables false

set_option maxHeartbeats 1000000 in
theorem few5_none (c : Nat) (w : World) :
    Calls Tryd.prog 30 #[.slice none 0 c] w fun e w' => e = .returned (.bool true) ∧ w' = w := by
  go_enter Tryd.func30, Tryd.ntmps30
  go_wp2_with fail
  refine wp_loop_rounds 1 ?_
  rw [rounds_succ]
  go_wp2
  go_ret
  exact ⟨rfl, rfl⟩
set_option maxHeartbeats 1000000 in
theorem few5_some (a : Addr) (c : Nat) (rs : List RowOf) (w : World) (hR : RowsAt w (some a) rs) (hmax : rs.length ≤ 9223372036854775807) :
    Calls Tryd.prog 30 #[.slice (some a) rs.length c] w fun e w' => e = .returned (.bool (fewB rs)) ∧ w' = w := by
  obtain ⟨n, hn⟩ : ∃ n, rs.length = n := ⟨_, rfl⟩
  have HN := Lib.hid hn
  have HR := Lib.hid hR
  rw [hn] at hmax ⊢
  clear hn hR
  go_enter Tryd.func30, Tryd.ntmps30
  go_wp2_with fail
  go_loopw [3] (fun v wr => ∃ i : Nat, i ≤ n ∧ v = .int .i64 i ∧ Hid ((rs.take i).all (fun r => decide (r.2.2.length ≤ 60)) = true) ∧ wr = w) (fun v _ => n - (intOf v).toNat)
  case atStart => exact ⟨0, by omega, rfl, Lib.hid rfl, rfl⟩
  case round =>
    obtain ⟨i, hi, rfl, hall, rfl⟩ := hrel
    by_cases hlt : i < n
    · obtain ⟨r, hr⟩ : ∃ r, rs[i]? = some r := ⟨_, List.getElem?_eq_getElem (by rw [HN.out]; exact hlt)⟩
      obtain ⟨ad, e, hc⟩ := HR.out.cell i r hr
      injection e with e
      subst e
      have hi' : i < rs.length := by rw [HN.out]; exact hlt
      have hri : rs[i] = r := by rw [List.getElem?_eq_getElem hi'] at hr; exact Option.some.inj hr
      obtain ⟨m, hm⟩ : ∃ m, r.2.2.length = m := ⟨_, rfl⟩
      rw [hm] at hc
      have hcap := (HR.out.cap r (List.mem_of_getElem? hr))
      rw [hm] at hcap
      obtain ⟨A, cA, xs⟩ := r
      have hm' : xs.length = m := hm
      simp only at hc hcap
      have hm2 : m ≤ 9223372036854775807 := Nat.le_trans hcap.1 hcap.2
      by_cases h60 : m ≤ 60
      · have hnext : (rs.take (i + 1)).all (fun r => decide (r.2.2.length ≤ 60)) = true := by
          rw [List.take_succ_eq_append_getElem hi', List.all_append, hall.out, hri]
          simp [hm', h60]
        have HNX := Lib.hid hnext
        have h60' : (m : Int) ≤ 60 := by omega
        clear hnext hri hm hm' hr hi' hall hcap
        go_wp2
        go_roundw
        case rel => exact ⟨i + 1, by omega, by go_num, HNX, by first | rfl | trivial⟩
        case measure => simp [intOf]; omega
      · have hno : fewB rs = false := by
          unfold fewB
          rw [Bool.and_eq_false_iff]
          refine .inl ?_
          rw [List.all_eq_false]
          exact ⟨_, List.mem_of_getElem? hr, by simp [hm']; omega⟩
        have HNO := Lib.hid hno
        have h60' : (60 : Int) < m := by omega
        clear hno hri hm hm' hr hi' hall hcap
        go_wp2
        go_ret
        exact ⟨congrArg (fun b => Ending.returned (Value.bool b)) HNO.out.symm, rfl⟩
    · obtain rfl : i = n := by omega
      have hyes : fewB rs = decide (i ≤ 20) := by
        unfold fewB
        have := hall.out
        rw [List.take_of_length_le (by rw [HN.out]; exact Nat.le_refl _)] at this
        rw [this, HN.out, Bool.true_and]
      by_cases h20 : i ≤ 20
      · have h20' : (i : Int) ≤ 20 := by omega
        rw [decide_eq_true h20] at hyes
        have HY := Lib.hid hyes
        clear hall hyes hlt
        go_wp2
        go_ret
        exact ⟨congrArg (fun b => Ending.returned (Value.bool b)) HY.out.symm, rfl⟩
      · have h20' : (20 : Int) < i := by omega
        rw [decide_eq_false h20] at hyes
        have HY := Lib.hid hyes
        clear hall hyes hlt
        go_wp2
        go_ret
        exact ⟨congrArg (fun b => Ending.returned (Value.bool b)) ((decide_eq_false (by omega)).trans HY.out.symm), rfl⟩
theorem few5_any (A : Option Addr) (c : Nat) (rs : List RowOf) (w : World) (hR : RowsAt w A rs) (hmax : rs.length ≤ 9223372036854775807) :
    Calls Tryd.prog 30 #[.slice A rs.length c] w fun e w' => e = .returned (.bool (fewB rs)) ∧ w' = w := by
  cases A with
  | none =>
    have : rs = [] := by
      cases rs with
      | nil => rfl
      | cons r rs => obtain ⟨_, h, _⟩ := hR.cell 0 r rfl; cases h
    subst this
    exact few5_none c w
  | some a => exact few5_some a c rs w hR hmax
set_option maxRecDepth 100000 in
set_option maxHeartbeats 1000000 in
theorem same5_eq (A B : Option Addr) (ca cb : Nat) (ps : List (List UInt8)) (w : World) (hA : PathAt w A ps) (hB : PathAt w B ps) (hl : ps.length ≤ 1000) :
    Calls Tryd.prog 34 #[.slice A ps.length ca, .slice B ps.length cb] w fun e w' => e = .returned (.bool true) ∧ Keeps (fun _ => False) w w' := by
  obtain ⟨n, hn⟩ : ∃ n, ps.length = n := ⟨_, rfl⟩
  have HN := Lib.hid hn
  have HA := Lib.hid hA
  have HB := Lib.hid hB
  have hne : ((n : Int) != (n : Int)) = false := by simp
  rw [hn] at hl ⊢
  clear hn hA hB
  go_enter Tryd.func34, Tryd.ntmps34
  go_wp2_with fail
  go_loopw [5] (fun v wr => ∃ i : Nat, i ≤ n ∧ v = .int .i64 (i : Int) ∧ Keeps (fun _ => False) w wr) (fun v _ => n - (intOf v).toNat)
  case atStart => exact ⟨0, by omega, rfl, Keeps.refl _ _⟩
  case round =>
    obtain ⟨i, hi, rfl, hk⟩ := hrel
    by_cases hlt : i < n
    · obtain ⟨p, hp⟩ : ∃ p, ps[i]? = some p := ⟨_, List.getElem?_eq_getElem (by rw [HN.out]; exact hlt)⟩
      have hp32 : p.length = 32 := HA.out.all p (List.mem_of_getElem? hp)
      obtain ⟨b1, o1, e1, hr1⟩ := HA.out.lie i p hp
      obtain ⟨b2, o2, e2, hr2⟩ := HB.out.lie i p hp
      subst e1
      subst e2
      have hc1 : ∀ V, Later wr V → V.rangeAt b1 (o1 + i * 32) (bvs p) := fun V hV => range_keeps hr1 (hk.trans hV.out) (fun _ _ => id)
      have hc2 : ∀ V, Later wr V → V.rangeAt b2 (o2 + i * 32) (bvs p) := fun V hV => range_keeps hr2 (hk.trans hV.out) (fun _ _ => id)
      have hpi : (Tryd.prog.info? 34).map (·.size) = some (bvs p).length := by rw [bvs_length, hp32]; exact size_hash'
      obtain ⟨u0, hu0, _⟩ := info_parts info_u8t
      have hneq : ∀ V, (binOp .neq 34 (.agg (bvs p).toArray) (.agg (bvs p).toArray)).run Tryd.prog V = .ok (.bool false) V := fun V => by
        rw [run_neq_bytes (P := Tryd.prog) V 34 5 32 Tryd.underlying34 Tryd.underlying5 hu0 (by kernel_rfl) (by kernel_rfl) p p hp32 hp32]
        simp
      obtain ⟨O, hO⟩ : ∃ O, bvs p = O := ⟨_, rfl⟩
      rw [hO] at hc1 hc2 hpi hneq
      have HC1 := Lib.hid hc1
      have HC2 := Lib.hid hc2
      have HPI := Lib.hid hpi
      have HNE := Lib.hid hneq
      have HK := Lib.hid hk
      clear hc1 hc2 hpi hneq hO hu0 hr1 hr2 hp32 hp hk
      go_wp2_with fail
      refine wp_region_class (Later wr) (by kernel_rfl) (by kernel_rfl) ⟨(Keeps.refl _ _).drew⟩ ?_
      go_big_quiet_step ((intro _; rfl))
      go_big_quiet_step ((intro _; rfl))
      go_big_quiet_step ((intro _; rfl))
      refine class_mid (by rfl) 34 (.tmp 19) (by rfl) b1 (o1 + i * 32) (by rfl) O _ HC1.out Tryd.underlying34 rfl HPI.out ?_
      simp only [Act.put, List.setIfInBounds_toArray, List.set_cons_zero, List.set_cons_succ]
      go_big_quiet_step ((intro _; rfl))
      go_big_quiet_step ((intro _; rfl))
      go_big_quiet_step ((intro _; rfl))
      refine class_mid (by rfl) 34 (.tmp 23) (by rfl) b2 (o2 + i * 32) (by rfl) O _ HC2.out Tryd.underlying34 rfl HPI.out ?_
      simp only [Act.put, List.setIfInBounds_toArray, List.set_cons_zero, List.set_cons_succ]
      refine class_eq (by rfl) .neq 34 _ (.tmp 20) (.tmp 24) (by rfl) O.toArray O.toArray (by rfl) (by rfl) (by kernel_rfl) _ HNE.out ?_
      simp only [Act.put, List.setIfInBounds_toArray, List.set_cons_zero, List.set_cons_succ]
      refine wpQuiet_nil ?_
      intro w6 k6
      go_wp2
      go_roundw
      case rel => exact ⟨i + 1, by omega, by go_num, HK.out.trans k6.out⟩
      case measure => simp [intOf]; omega
    · go_wp2
      go_ret
      exact ⟨rfl, hk⟩
end Go.Proofs.YtnnhbgaeohdojaaDoor
