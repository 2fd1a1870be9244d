/-
  The law ChainProofs walked: proofs, and how long they are, are the document's. WRITTEN BY wip/gen/mkchpr.py.
-/
import Derived.Test.YtnnhbgaeohdojaaDoorRtQ
import Derived.Test.YtnnhbgaeohdojaaDoorRgA
import Derived.Test.YtnnhbgaeohdojaaDoorRtA
import Derived.Test.YtnnhbgaeohdojaaDoorTrRo
import Derived.Test.YtnnhbgaeohdojaaDoorChW
namespace Go.Proofs.YtnnhbgaeohdojaaDoor
open Go.RowKit Go.BigFrame
set_option linter.unusedVariables false

theorem rlong_out (m n : Nat) (w : World) (h : m < 1 ∨ n < m) (hm : m ≤ 18446744073709551615) (hn : n ≤ 18446744073709551615) :
    Calls Tryd.prog 28 #[.int .u64 (m : Int), .int .u64 (n : Int)] w fun e w' => e = .returned (.int .i64 0) ∧ w' = w := by
  rcases Nat.lt_or_ge m 1 with h1 | h1
  · have h1' : (m : Int) < 1 := by omega
    clear h
    go_enter Tryd.func28, Tryd.ntmps28
    go_wp2
    go_ret
    exact ⟨rfl, rfl⟩
  · have h2' : (n : Int) < m := by omega
    have h1' : ¬ (m : Int) < 1 := by omega
    clear h
    go_enter Tryd.func28, Tryd.ntmps28
    go_wp2
    go_ret
    exact ⟨rfl, rfl⟩
/-- Of any number: both proofs are the same, and so are the errors. -/
theorem proofs_same (A : Option Addr) (c : Nat) (rs : List RowOf) (x : Int) (W : World) (hT : Tabs W) (hR : RowsAt W A rs) (h20 : rs.length ≤ 20) (hc : rs.length ≤ c) (hmax : c ≤ 9223372036854775807) (h60 : ∀ r ∈ rs, r.2.2.length ≤ 60) :
    ∃ (ps : List (List UInt8)) (er : Int), (∀ p ∈ ps, p.length = 32) ∧ ps.length ≤ 1000 ∧
      (∀ V, Keeps (fun _ => False) W V → Calls Tryd.prog 23 #[.slice A rs.length c, .int .i64 x] V fun e w' => ∃ v, e = .returned (.tuple #[v, .int .i64 er]) ∧ w'.ownsRow V.heap.size 34 32 v ps.length (flat ps) ∧ Keeps (fun _ => False) V w') ∧
      (∀ V B cb, StrsAt V B (ents rs) → rs.length ≤ cb → cb ≤ 9223372036854775807 → Calls Tryd.prog 24 #[.slice B rs.length cb, .int .i64 x] V fun e w' => ∃ v, e = .returned (.tuple #[v, .int .i64 er]) ∧ w'.ownsRow V.heap.size 34 32 v ps.length (flat ps) ∧ Keeps (fun _ => False) V w') := by
  by_cases hx : x < 1 ∨ (rs.length : Int) < x
  · refine ⟨[], 15, fun p hp => (by cases hp), by simp, fun V _ => (proof_out A rs.length c x V hx).mono fun e w' ⟨h1, h2⟩ => ⟨_, h1, World.ownsRow_nil _ _ _ _, by rw [h2]; exact Keeps.refl _ _⟩,
      fun V B cb _ _ _ => (rproof_out B rs.length cb x V hx).mono fun e w' ⟨h1, h2⟩ => ⟨_, h1, World.ownsRow_nil _ _ _ _, by rw [h2]; exact Keeps.refl _ _⟩⟩
  · obtain ⟨i, rfl⟩ := Int.eq_ofNat_of_zero_le (show 0 ≤ x by omega)
    have hi1 : 1 ≤ i := by have h : ¬ ((i : Int) < 1 ∨ (rs.length : Int) < (i : Int)) := hx; omega
    have hi : i ≤ rs.length := by have h : ¬ ((i : Int) < 1 ∨ (rs.length : Int) < (i : Int)) := hx; omega
    obtain ⟨a, rfl, _⟩ := hR.cell 0 rs[0] (by rw [List.getElem?_eq_getElem (by omega)])
    have hpf := Tr.prf_few (ents rs) i true hi1 (by rw [ents_length]; exact hi)
    rw [ents_length] at hpf
    refine ⟨Tr.prf (ents rs) i true, 0, fun p hp => Tr.prf_all _ _ _ _ p hp, by omega, fun V hk => proof_in a c rs i V (hT.keeps hk id id) (hR.keeps hk (fun _ _ => id)) hi1 hi hc hmax (fun r hr => by have := h60 r hr; omega) (by omega), fun V B cb hS hcb hmb => ?_⟩
    obtain ⟨ad, rfl, _⟩ := hS.cell 0 _ (List.getElem?_eq_getElem (show 0 < (ents rs).length by rw [ents_length]; omega))
    have h := rproof_in ad cb (ents rs) i V hS hi1 (by rw [ents_length]; exact hi) (by rw [ents_length]; exact hcb) hmb (by rw [ents_length]; omega) (fun y hy => by
      unfold ents at hy
      obtain ⟨r, hr, rfl⟩ := List.mem_map.1 hy
      have := h60 r hr
      omega)
    rw [ents_length] at h
    exact h
/-- Of any two sizes: both lengths are the same. -/
theorem longs_same (a b : Nat) (ha : a ≤ 18446744073709551615) (hb : b ≤ 18446744073709551615) : ∃ k : Int, (∀ V, Calls Tryd.prog 27 #[.int .u64 (a : Int), .int .u64 (b : Int)] V fun e w' => e = .returned (.int .i64 k) ∧ w' = V) ∧
    (∀ V, Calls Tryd.prog 28 #[.int .u64 (a : Int), .int .u64 (b : Int)] V fun e w' => e = .returned (.int .i64 k) ∧ Keeps (fun _ => False) V w') := by
  by_cases h : a < 1 ∨ b < a
  · exact ⟨0, fun V => long_out a b V h ha hb, fun V => (rlong_out a b V h ha hb).mono fun e w' ⟨h1, h2⟩ => ⟨h1, by rw [h2]; exact Keeps.refl _ _⟩⟩
  · exact ⟨_, fun V => long_in a b V (by omega) (by omega) hb, fun V => rlong_in a b V (by omega) (by omega) hb⟩
set_option maxRecDepth 100000 in
set_option maxHeartbeats 2000000 in
theorem cproofs_in (A : Option Addr) (c : Nat) (rs : List RowOf) (x : Int) (y z : Nat) (W : World) (hT : Tabs W) (hR : RowsAt W A rs) (h20 : rs.length ≤ 20) (hc : rs.length ≤ c) (hmax : c ≤ 9223372036854775807) (h60 : ∀ r ∈ rs, r.2.2.length ≤ 60) (hy : y ≤ 18446744073709551615) (hz : z ≤ 18446744073709551615)
    (HFEW : Hid (∀ V, Keeps (fun _ => False) W V → Calls Tryd.prog 22 #[.slice A rs.length c] V fun e w' => e = .returned (.bool true) ∧ w' = V)) :
    Calls Tryd.prog 4 #[.slice A rs.length c, .int .i64 x, .int .u64 (y : Int), .int .u64 (z : Int)] W fun e W' => e = .returned (.bool true) ∧ Below W.heap.size W W' := by
  have HAW := Lib.hid (awake4_any W hT)
  obtain ⟨ps, er, hall, hpl, hp1, hp2⟩ := proofs_same A c rs x W hT hR h20 hc hmax h60
  obtain ⟨k, hl1, hl2⟩ := longs_same y z hy hz
  have htx := fun V (hk : Keeps (fun _ => False) W V) => texts4_any A c rs V (hR.keeps hk (fun _ _ => id)) (by omega)
  obtain ⟨es, hes⟩ : ∃ es, ents rs = es := ⟨_, rfl⟩
  rw [hes] at hp2 htx
  obtain ⟨n, hn⟩ : ∃ n, rs.length = n := ⟨_, rfl⟩
  rw [hn] at hp1 hp2 htx HFEW h20 hc ⊢
  obtain ⟨m, hm⟩ : ∃ m, ps.length = m := ⟨_, rfl⟩
  have hsm := fun A B ca cb V hA hB => same4_eq A B ca cb ps V hA hB hpl
  rw [hm] at hp1 hp2 hsm
  have HP1 := Lib.hid hp1
  have HP2 := Lib.hid hp2
  have HTX := Lib.hid htx
  have HL1 := Lib.hid hl1
  have HL2 := Lib.hid hl2
  have HSM := Lib.hid hsm
  have HALL := Lib.hid hall
  have e1 : ((er == er) = true) := by simp
  have e2 : ((k == k) = true) := by simp
  clear hp1 hp2 htx hl1 hl2 hsm hall hn hm hes hT hR h60 hpl
  go_enter Tryd.func4, Tryd.ntmps4
  go_wp2_with fail
  refine HAW.out.mono ?_
  rintro ex w1 ⟨rfl, k1⟩
  go_wp2_with fail
  refine (HFEW.out w1 k1).mono ?_
  rintro ex w2 ⟨rfl, rfl⟩
  clear HAW HFEW
  go_wp2_with fail
  refine (HP1.out w2 k1).mono ?_
  rintro ex w3 ⟨v, rfl, ho3, k3⟩
  obtain ⟨A3, c3, rfl⟩ := own_slice ho3
  have P3 := Lib.hid (PathAt.of_own ho3 HALL.out rfl)
  have K3 := Lib.hid (k1.trans k3)
  clear HP1 k1 k3 ho3
  go_wp2_with fail
  refine (HTX.out w3 K3.out).mono ?_
  rintro ex w4 ⟨v, rfl, ho4, k4⟩
  obtain ⟨A4, c4, rfl⟩ := own_slice ho4
  obtain ⟨_, cc1, cc2⟩ := own_cap ho4
  have S4 := Lib.hid (StrsAt.of_own ho4)
  have K4 := Lib.hid (K3.out.trans k4)
  have P34 := Lib.hid (P3.out.keeps k4 (fun _ _ => id))
  clear HTX K3 k4 ho4 P3
  go_wp2_with fail
  refine (HP2.out w4 A4 c4 S4.out cc1 cc2).mono ?_
  rintro ex w5 ⟨v, rfl, ho5, k5⟩
  obtain ⟨A5, c5, rfl⟩ := own_slice ho5
  have P5 := Lib.hid (PathAt.of_own ho5 HALL.out rfl)
  have P35 := Lib.hid (P34.out.keeps k5 (fun _ _ => id))
  have K5 := Lib.hid (K4.out.trans k5)
  clear HP2 K4 k5 ho5 S4 P34
  go_wp2_with fail
  refine (HSM.out A3 A5 c3 c5 w5 P35.out P5.out).mono ?_
  rintro ex w6 ⟨rfl, k6⟩
  have K6 := Lib.hid (K5.out.trans k6)
  clear HSM K5 k6 P35 P5
  go_wp2_with fail
  refine (HL1.out w6).mono ?_
  rintro ex w7 ⟨rfl, h7⟩
  obtain rfl : w6 = w7 := h7.symm
  go_wp2_with fail
  refine (HL2.out w6).mono ?_
  rintro ex w8 ⟨rfl, k8⟩
  go_wp2
  go_ret
  exact ⟨rfl, keeps_below3 (K6.out.trans k8)⟩
set_option maxRecDepth 100000 in
set_option maxHeartbeats 1000000 in
theorem cproofs_out (A : Option Addr) (m c : Nat) (x y z : Int) (W : World) (hT : Tabs W) (HFEW : Hid (∀ V, Keeps (fun _ => False) W V → Calls Tryd.prog 22 #[.slice A m c] V fun e w' => e = .returned (.bool false) ∧ w' = V)) :
    Calls Tryd.prog 4 #[.slice A m c, .int .i64 x, .int .u64 y, .int .u64 z] W fun e W' => e = .returned (.bool true) ∧ Below W.heap.size W W' := by
  have HAW := Lib.hid (awake4_any W hT)
  clear hT
  go_enter Tryd.func4, Tryd.ntmps4
  go_wp2_with fail
  refine HAW.out.mono ?_
  rintro e1 w1 ⟨rfl, k1⟩
  go_wp2_with fail
  refine (HFEW.out w1 k1).mono ?_
  rintro e2 w2 ⟨rfl, rfl⟩
  go_wp2
  go_ret
  exact ⟨rfl, keeps_below3 k1⟩
theorem cproofs_walk (A : Option Addr) (len c : Nat) (rs : List RowOf) (x y z : Int) (W : World) (hT : Tabs W) (h0 : IsRows W A len c rs) (h1 : (Lit.int .i64 x).wf = true) (h2 : (Lit.int .u64 y).wf = true) (h3 : (Lit.int .u64 z).wf = true) :
    Calls Tryd.prog 4 #[.slice A len c, .int .i64 x, .int .u64 y, .int .u64 z] W fun e W' => e = .returned (.bool true) ∧ Below W.heap.size W W' := by
  obtain ⟨rfl, hc, hmax, hR⟩ := h0
  have b2 := bounds_u64 h2
  have b3 := bounds_u64 h3
  obtain ⟨y, rfl⟩ := Int.eq_ofNat_of_zero_le b2.1
  obtain ⟨z, rfl⟩ := Int.eq_ofNat_of_zero_le b3.1
  have hfew : ∀ V, Keeps (fun _ => False) W V → Calls Tryd.prog 22 #[.slice A rs.length c] V fun e w' => e = .returned (.bool (fewB rs)) ∧ w' = V := fun V hk => few4_any A c rs V (hR.keeps hk (fun _ _ => id)) (by omega)
  cases hq : fewB rs with
  | false => rw [hq] at hfew; exact cproofs_out A _ c x y z W hT (Lib.hid hfew)
  | true =>
    rw [hq] at hfew
    exact cproofs_in A c rs x y z W hT hR (few_short hq).1 hc hmax (few_sixty hq) (by omega) (by omega) (Lib.hid hfew)
end Go.Proofs.YtnnhbgaeohdojaaDoor
