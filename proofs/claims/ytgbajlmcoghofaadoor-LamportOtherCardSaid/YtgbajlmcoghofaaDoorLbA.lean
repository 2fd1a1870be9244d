/-
  The document's own answers for lamport (assayerref07): a bit of bytes, a secret, its open half.
-/
import Derived.Test.YtgbajlmcoghofaaDoorLaH
import Derived.Test.YtgbajlmcoghofaaDoorRfNu
import Derived.Test.YtgbajlmcoghofaaDoorSoP
namespace Go.Proofs.YtgbajlmcoghofaaDoor
open Go.RowKit Go.BigFrame
set_option linter.unusedVariables false

set_option maxRecDepth 100000 in
set_option maxHeartbeats 1000000 in
theorem rvalue_any (g : List UInt8) (k : Nat) (w : World) (hg : g.length = 32) (hk : k < 64) :
    Calls Tryd.prog 22 #[.agg (bvs g).toArray, .int .i64 k] w fun e w' => e = .returned (.int .i64 (Lm.bit g k)) ∧ Keeps (fun _ => False) w w' := by
  obtain ⟨x, hx⟩ : ∃ x, g[k / 8]? = some x := ⟨_, List.getElem?_eq_getElem (by omega)⟩
  obtain ⟨X, hX⟩ : ∃ X : Array Value, (bvs g).toArray = X := ⟨_, rfl⟩
  obtain ⟨W1, hW1⟩ : ∃ V, w.alloc (.cells X 23) = V := ⟨_, rfl⟩
  have k1 : Keeps (fun _ => False) w W1 := by rw [← hW1]; exact (Keeps.refl _ _).alloc _
  have r1 : Row W1 w.heap.size 23 (bvs g) := by rw [← hW1, ← hX]; exact heap_alloc_new w _
  have hc : W1.cell? ⟨w.heap.size, k / 8, none⟩ = some (.int .u8 (x.toNat : Int)) := by rw [r1.cell, bvs_get, hx]; rfl
  have hbit : Lm.bit g k = x.toNat / 2 ^ (7 - k % 8) % 2 := by
    unfold Lm.bit
    rw [List.getD_eq_getElem?_getD, hx]
    rfl
  obtain ⟨b, hb⟩ : ∃ b, Lm.bit g k = b := ⟨_, rfl⟩
  rw [hb] at hbit
  rw [hb, hX]
  have hq : (k : Int) / 8 < 32 := by omega
  have c0 : (x.toNat : Int) < 256 := by have := x.toNat_lt; omega
  obtain ⟨m, hm⟩ : ∃ m, k % 8 = m := ⟨_, rfl⟩
  have hm8 : m < 8 := by omega
  have hmi : (k : Int) % 8 = (m : Int) := by omega
  rw [hm] at hbit
  have HBIT := Lib.hid hbit
  have K1 := Lib.hid k1
  clear hbit hb hx hX k1 r1 hg hm
  obtain ⟨c, hcc⟩ : ∃ c, x.toNat = c := ⟨_, rfl⟩
  rw [hcc] at hc c0 HBIT
  clear hcc x
  go_enter Tryd.func22, Tryd.ntmps22
  go_wp2
  have HMI := Lib.hid hmi
  clear hc hmi hq
  go_loopw [5, 6] (fun xv iv wr => ∃ i z : Nat, m ≤ i ∧ i ≤ 7 ∧ iv = .int .i64 i ∧ xv = .int .i64 z ∧ z = c / 2 ^ (i - m) ∧ wr = W1) (fun _ iv _ => 7 - (intOf iv).toNat)
  case atStart => exact ⟨m, c, Nat.le_refl _, by omega, by rw [HMI.out], rfl, by rw [Nat.sub_self, Nat.pow_zero, Nat.div_one], rfl⟩
  case round =>
    obtain ⟨i, z, hi1, hi2, rfl, rfl, hz, rfl⟩ := hrel
    have hz256 : z < 256 := by rw [hz]; exact Nat.lt_of_le_of_lt (Nat.div_le_self _ _) (by omega)
    have hzi : (z : Int) < 256 := by omega
    by_cases hlt : i < 7
    · obtain ⟨z2, hz2⟩ : ∃ y, z / 2 = y := ⟨_, rfl⟩
      have e2 : (z : Int) / 2 = (z2 : Int) := by omega
      have hnext : z2 = c / 2 ^ (i + 1 - m) := by
        rw [← hz2, hz, Nat.div_div_eq_div_mul, ← Nat.pow_succ, show (i - m).succ = i + 1 - m by omega]
      have HN := Lib.hid hnext
      clear hnext hz hz2
      go_wp2
      go_roundw
      case rel => exact ⟨i + 1, z2, by omega, by omega, by go_num, rfl, HN.out, trivial⟩
      case measure => simp [intOf]; omega
    · obtain rfl : i = 7 := by omega
      have hb2 : b = z % 2 := by rw [HBIT.out, hz]
      obtain ⟨y, hy⟩ : ∃ y, z % 2 = y := ⟨_, rfl⟩
      have e2 : (z : Int) % 2 = (y : Int) := by omega
      have HB := Lib.hid (hb2.trans hy)
      clear hz hy hb2 HBIT
      go_wp2
      go_ret
      exact ⟨by show Ending.returned (.int .i64 ((z : Int) % 2)) = _; rw [e2, HB.out], K1.out⟩

set_option maxRecDepth 100000 in
set_option maxHeartbeats 1000000 in
theorem ropen_any (xs : List UInt8) (w : World) (hx : xs.length = 32) :
    Calls Tryd.prog 24 #[.agg (bvs xs).toArray] w fun e w' => e = .returned (.agg (bvs (Lm.opn xs)).toArray) ∧ Keeps (fun _ => False) w w' := by
  obtain ⟨Z, hZ⟩ : ∃ Z : Array Value, (bvs (List.replicate 32 0)).toArray = Z := ⟨_, rfl⟩
  have hz : ∀ w : World, (zeroValue 23).run Tryd.prog w = .ok (.agg Z) w := fun w => by rw [← hZ]; exact zero_hash w
  have hzs : Z.size = 32 := by subst hZ; rfl
  obtain ⟨a1, a2, a3⟩ := hash_arr xs hx
  have hraw := fun V => raw_any xs V hx
  have hof := fun V => rof_any xs V (by omega)
  obtain ⟨X, hX⟩ : ∃ X : Array Value, (bvs xs).toArray = X := ⟨_, rfl⟩
  obtain ⟨S, hS⟩ : ∃ S, strOf xs = S := ⟨_, rfl⟩
  rw [hX] at a1 hraw
  rw [hS] at hraw hof
  rw [hX]
  obtain ⟨b1, b2, b3⟩ := hash_arr (Lm.opn xs) (Lm.opn_length _)
  have hof' : ∀ V, Calls Tryd.prog 21 #[.string S] V fun e w' => e = .returned (.agg (bvs (Lm.opn xs)).toArray) ∧ Keeps (fun _ => False) V w' := hof
  obtain ⟨R, hR⟩ : ∃ X : Array Value, (bvs (Lm.opn xs)).toArray = X := ⟨_, rfl⟩
  rw [hR] at b1 b2 b3 hof'
  rw [hR]
  obtain ⟨W1, hW1⟩ : ∃ V, w.alloc (.cells X 23) = V := ⟨_, rfl⟩
  obtain ⟨c1, hc1⟩ : ∃ c, W1.heap.size = c := ⟨_, rfl⟩
  obtain ⟨W2, hW2⟩ : ∃ V, W1.alloc (.cells Z 23) = V := ⟨_, rfl⟩
  have k1 : Keeps (fun _ => False) w W1 := by rw [← hW1]; exact (Keeps.refl _ _).alloc _
  have k2 : Keeps (fun _ => False) W1 W2 := by rw [← hW2]; exact (Keeps.refl _ _).alloc _
  have r1 : W1.heap[w.heap.size]? = some (.cells X 23 (0, 0)) := by rw [← hW1]; exact heap_alloc_new w _
  have r2 : W2.heap[c1]? = some (.cells Z 23 (0, 0)) := by rw [← hW2, ← hc1]; exact heap_alloc_new W1 _
  have bc : w.heap.size < c1 := by rw [← hc1, ← hW1]; simp
  have r12 : W2.heap[w.heap.size]? = some (.cells X 23 (0, 0)) := (k2.block _ (by omega) id).trans r1
  have K2 := Lib.hid (k1.trans k2)
  have R2 := Lib.hid r2
  have R12 := Lib.hid r12
  have SX := Lib.hid a1
  have HR := Lib.hid (hraw W2)
  have HO := Lib.hid hof'
  have S1 := Lib.hid b1
  have S2 := Lib.hid (hzs.trans b2.symm)
  have S3 := Lib.hid b3
  clear a1 a2 a3 b1 b2 b3 hraw hof hof' hX hS hR hZ hzs k1 k2 r1 r2 r12 hx
  go_enter Tryd.func24, Tryd.ntmps24
  go_wp2_with (refine wpList_load_row rfl 23 _ rfl w.heap.size rfl 23 X (0, 0) _ R12.out Tryd.underlying23 rfl SX.out ?_)
  refine HR.out.mono ?_
  rintro e w3 ⟨rfl, k3⟩
  have R3 := Lib.hid ((k3.block _ (Array.getElem?_eq_some_iff.1 R2.out).1 id).trans R2.out)
  have K3 := Lib.hid (K2.out.trans k3)
  clear k3 HR R2 K2 R12
  go_wp2_with fail
  refine (HO.out w3).mono ?_
  rintro e w4 ⟨rfl, k4⟩
  have R4 := Lib.hid ((k4.block _ (Array.getElem?_eq_some_iff.1 R3.out).1 id).trans R3.out)
  have K4 := Lib.hid (K3.out.trans k4)
  clear k4 R3 K3 HO
  go_wp2_with (refine wpList_store_row rfl 23 _ _ rfl c1 R rfl rfl 23 Z R4.out S1.out S2.out S3.out ?_)
  refine bodyPost_ret (results_cell_row rfl _ _ c1 23 R (0, 0) _ rfl (setRow_heap _ _ _ _ _ _ R4.out) Tryd.underlying23 rfl S1.out) rfl ?_
  exact ⟨rfl, K4.out.trans' (Keeps.setRow c1 R) (fun i hi h => by omega)⟩

set_option maxRecDepth 100000 in
set_option maxHeartbeats 1000000 in
theorem rsecret_any (seed : List UInt8) (i : Int) (k v : Nat) (w : World) (hs : seed.length = 32) (hk : k < 64) (hv : v < 2) :
    Calls Tryd.prog 23 #[.agg (bvs seed).toArray, .int .i64 i, .int .i64 k, .int .i64 v] w fun e w' => e = .returned (.agg (bvs (Lm.sec seed i k v)).toArray) ∧ Keeps (fun _ => False) w w' := by
  obtain ⟨Z, hZ⟩ : ∃ Z : Array Value, (bvs (List.replicate 32 0)).toArray = Z := ⟨_, rfl⟩
  have hz : ∀ w : World, (zeroValue 23).run Tryd.prog w = .ok (.agg Z) w := fun w => by rw [← hZ]; exact zero_hash w
  have hzs : Z.size = 32 := by subst hZ; rfl
  obtain ⟨a1, a2, a3⟩ := hash_arr seed hs
  have hraw := fun V => raw_any seed V hs
  have ni0 : 0 ≤ IntKind.u32.wrap i := by simp [IntKind.wrap, IntKind.signed, IntKind.bits]; exact Int.emod_nonneg _ (by decide)
  have ni1 : IntKind.u32.wrap i < 4294967296 := by simp [IntKind.wrap, IntKind.signed, IntKind.bits]; exact Int.emod_lt_of_pos _ (by decide)
  have hidx : nb (IntKind.u32.wrap i) 4 = Lm.idx i := by
    have e : IntKind.u32.wrap i = i % 4294967296 := by simp [IntKind.wrap, IntKind.signed, IntKind.bits]
    rw [e]
    rfl
  have hn0 := fun V => refNum_ok (IntKind.u32.wrap i) 4 V ni0 (by omega) (by omega) (by omega)
  have hn1 := fun V => refNum_ok (k : Int) 1 V (by omega) (by omega) (by omega) (by omega)
  have hn2 := fun V => refNum_ok (v : Int) 1 V (by omega) (by omega) (by omega) (by omega)
  rw [hidx] at hn0
  obtain ⟨x, hx⟩ : ∃ x, IntKind.u32.wrap i = x := ⟨_, rfl⟩
  rw [hx] at ni0 ni1 hn0
  have wx : IntKind.u64.wrap x = x := by simp only [IntKind.wrap, IntKind.signed, IntKind.bits]; exact Int.emod_eq_of_lt (by omega) (by omega)
  have z0 : (strOf seed).size = 32 := hs
  have z1 : (strOf (Lm.idx i)).size = 4 := Lm.idx_length i
  have z2 : (strOf (nb (k : Int) 1)).size = 1 := nb_length _ _
  have z3 : (strOf (nb (v : Int) 1)).size = 1 := nb_length _ _
  have q1 : strOf seed ++ strOf (Lm.idx i) = strOf (seed ++ Lm.idx i) := strOf_append _ _
  have q2 : strOf (seed ++ Lm.idx i) ++ strOf (nb (k : Int) 1) = strOf (seed ++ Lm.idx i ++ nb (k : Int) 1) := strOf_append _ _
  have q3 : strOf (seed ++ Lm.idx i ++ nb (k : Int) 1) ++ strOf (nb (v : Int) 1) = strOf (seed ++ Lm.idx i ++ nb (k : Int) 1 ++ nb (v : Int) 1) := strOf_append _ _
  have z01 : (strOf (seed ++ Lm.idx i)).size = 36 := by rw [strOf_size, List.length_append, hs, Lm.idx_length]
  have z02 : (strOf (seed ++ Lm.idx i ++ nb (k : Int) 1)).size = 37 := by rw [strOf_size, List.length_append, List.length_append, hs, Lm.idx_length, nb_length]
  have hof : ∀ V, Calls Tryd.prog 21 #[.string (strOf (seed ++ Lm.idx i ++ nb (k : Int) 1 ++ nb (v : Int) 1))] V fun e w' => e = .returned (.agg (bvs (Lm.sec seed i k v)).toArray) ∧ Keeps (fun _ => False) V w' := fun V =>
    rof_any _ V (by simp only [List.length_append, hs, Lm.idx_length, nb_length]; omega)
  obtain ⟨s0, hs0⟩ : ∃ S, strOf seed = S := ⟨_, rfl⟩
  obtain ⟨s1, hs1⟩ : ∃ S, strOf (Lm.idx i) = S := ⟨_, rfl⟩
  obtain ⟨s2, hs2⟩ : ∃ S, strOf (nb (k : Int) 1) = S := ⟨_, rfl⟩
  obtain ⟨s3, hs3⟩ : ∃ S, strOf (nb (v : Int) 1) = S := ⟨_, rfl⟩
  obtain ⟨s4, hs4⟩ : ∃ S, strOf (seed ++ Lm.idx i) = S := ⟨_, rfl⟩
  obtain ⟨s5, hs5⟩ : ∃ S, strOf (seed ++ Lm.idx i ++ nb (k : Int) 1) = S := ⟨_, rfl⟩
  obtain ⟨s6, hs6⟩ : ∃ S, strOf (seed ++ Lm.idx i ++ nb (k : Int) 1 ++ nb (v : Int) 1) = S := ⟨_, rfl⟩
  rw [hs0] at hraw z0 q1
  rw [hs1] at hn0 z1 q1
  rw [hs2] at hn1 z2 q2
  rw [hs3] at hn2 z3 q3
  rw [hs4] at q1 q2 z01
  rw [hs5] at q2 q3 z02
  rw [hs6] at q3 hof
  have y1 : s0.size + s1.size ≤ 40 := by omega
  have y2 : s4.size + s2.size ≤ 40 := by omega
  have y3 : s5.size + s3.size ≤ 40 := by omega
  obtain ⟨X, hX⟩ : ∃ X : Array Value, (bvs seed).toArray = X := ⟨_, rfl⟩
  rw [hX] at a1 hraw
  rw [hX]
  obtain ⟨b1, b2, b3⟩ := hash_arr (Lm.sec seed i k v) (Lm.sec_length _ _ _ _)
  obtain ⟨R, hR⟩ : ∃ X : Array Value, (bvs (Lm.sec seed i k v)).toArray = X := ⟨_, rfl⟩
  rw [hR] at b1 b2 b3 hof
  rw [hR]
  obtain ⟨W1, hW1⟩ : ∃ V, w.alloc (.cells X 23) = V := ⟨_, rfl⟩
  obtain ⟨c1, hc1⟩ : ∃ c, W1.heap.size = c := ⟨_, rfl⟩
  obtain ⟨W2, hW2⟩ : ∃ V, W1.alloc (.cells Z 23) = V := ⟨_, rfl⟩
  have k1 : Keeps (fun _ => False) w W1 := by rw [← hW1]; exact (Keeps.refl _ _).alloc _
  have k2 : Keeps (fun _ => False) W1 W2 := by rw [← hW2]; exact (Keeps.refl _ _).alloc _
  have r1 : W1.heap[w.heap.size]? = some (.cells X 23 (0, 0)) := by rw [← hW1]; exact heap_alloc_new w _
  have r2 : W2.heap[c1]? = some (.cells Z 23 (0, 0)) := by rw [← hW2, ← hc1]; exact heap_alloc_new W1 _
  have bc : w.heap.size < c1 := by rw [← hc1, ← hW1]; simp
  have r12 : W2.heap[w.heap.size]? = some (.cells X 23 (0, 0)) := (k2.block _ (by omega) id).trans r1
  have K2 := Lib.hid (k1.trans k2)
  have R2 := Lib.hid r2
  have R12 := Lib.hid r12
  have SX := Lib.hid a1
  have HR := Lib.hid (hraw W2)
  have HO := Lib.hid hof
  have N0 := Lib.hid hn0
  have N1 := Lib.hid hn1
  have N2 := Lib.hid hn2
  have S1 := Lib.hid b1
  have S2 := Lib.hid (hzs.trans b2.symm)
  have S3 := Lib.hid b3
  clear a1 a2 a3 b1 b2 b3 hraw hof hn0 hn1 hn2 hX hR hZ hzs k1 k2 r1 r2 r12 hs hs0 hs1 hs2 hs3 hs4 hs5 hs6 z0 z1 z2 z3 z01 z02 hidx
  go_enter Tryd.func23, Tryd.ntmps23
  go_wp2_with (refine wpList_load_row rfl 23 _ rfl w.heap.size rfl 23 X (0, 0) _ R12.out Tryd.underlying23 rfl SX.out ?_)
  refine HR.out.mono ?_
  rintro e w3 ⟨rfl, k3⟩
  have R3 := Lib.hid ((k3.block _ (Array.getElem?_eq_some_iff.1 R2.out).1 id).trans R2.out)
  have K3 := Lib.hid (K2.out.trans k3)
  clear k3 HR R2 K2 R12
  go_wp2_with fail
  refine (N0.out _).mono ?_
  rintro e w4 ⟨rfl, b4⟩
  have k4 : Keeps (fun _ => False) w3 w4 := Keeps.of_below b4
  have R4 := Lib.hid ((k4.block _ (Array.getElem?_eq_some_iff.1 R3.out).1 id).trans R3.out)
  have K4 := Lib.hid (K3.out.trans k4)
  clear k4 b4 R3 K3 N0
  go_wp2_with fail
  refine (N1.out _).mono ?_
  rintro e w5 ⟨rfl, b5⟩
  have k5 : Keeps (fun _ => False) w4 w5 := Keeps.of_below b5
  have R5 := Lib.hid ((k5.block _ (Array.getElem?_eq_some_iff.1 R4.out).1 id).trans R4.out)
  have K5 := Lib.hid (K4.out.trans k5)
  clear k5 b5 R4 K4 N1
  go_wp2_with fail
  refine (N2.out _).mono ?_
  rintro e w6 ⟨rfl, b6⟩
  have k6 : Keeps (fun _ => False) w5 w6 := Keeps.of_below b6
  have R6 := Lib.hid ((k6.block _ (Array.getElem?_eq_some_iff.1 R5.out).1 id).trans R5.out)
  have K6 := Lib.hid (K5.out.trans k6)
  clear k6 b6 R5 K5 N2
  go_wp2_with fail
  refine (HO.out _).mono ?_
  rintro e w7 ⟨rfl, k7⟩
  have R7 := Lib.hid ((k7.block _ (Array.getElem?_eq_some_iff.1 R6.out).1 id).trans R6.out)
  have K7 := Lib.hid (K6.out.trans k7)
  clear k7 R6 K6 HO
  go_wp2_with (refine wpList_store_row rfl 23 _ _ rfl c1 R rfl rfl 23 Z R7.out S1.out S2.out S3.out ?_)
  refine bodyPost_ret (results_cell_row rfl _ _ c1 23 R (0, 0) _ rfl (setRow_heap _ _ _ _ _ _ R7.out) Tryd.underlying23 rfl S1.out) rfl ?_
  exact ⟨rfl, K7.out.trans' (Keeps.setRow c1 R) (fun i hi h => by omega)⟩
end Go.Proofs.YtgbajlmcoghofaaDoor
