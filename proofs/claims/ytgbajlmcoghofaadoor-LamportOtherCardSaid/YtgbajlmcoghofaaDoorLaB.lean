/-
  lamport's small ones: a secret's open half, the bits of bytes that are signed.
-/
import Derived.Test.YtgbajlmcoghofaaDoorLaA
import Derived.Laws.BitsAllLaws
import Derived.IntWalk
namespace Go.Proofs.YtgbajlmcoghofaaDoor
open Go.RowKit Go.BigFrame
set_option linter.unusedVariables false

set_option maxRecDepth 100000 in
set_option maxHeartbeats 1000000 in
theorem openHalf_any (xs : List UInt8) (w : World) (hT : Tabs w) (hx : xs.length = 32) :
    Calls Tryd.prog 20 #[.agg (bvs xs).toArray] w fun e w' => e = .returned (.agg (bvs (Lm.opn xs)).toArray) ∧ Keeps (fun _ => False) w w' := by
  have h0 := hT.lt
  obtain ⟨Z, hZ⟩ : ∃ Z : Array Value, (bvs (List.replicate 32 0)).toArray = Z := ⟨_, rfl⟩
  have hz : ∀ w : World, (zeroValue 23).run Tryd.prog w = .ok (.agg Z) w := fun w => by rw [← hZ]; exact zero_hash w
  have hzs : Z.size = 32 := by subst hZ; rfl
  have HZS := Lib.hid hzs
  clear hZ hzs
  obtain ⟨X, hX⟩ : ∃ X : Array Value, (bvs xs).toArray = X := ⟨_, rfl⟩
  rw [hX]
  obtain ⟨W1, hW1⟩ : ∃ W, w.alloc (.cells X 23) = W := ⟨_, rfl⟩
  obtain ⟨W2, hW2⟩ : ∃ W, W1.alloc (.cells Z 23) = W := ⟨_, rfl⟩
  obtain ⟨W3, hW3⟩ : ∃ W, W2.alloc (.cells #[.slice (some ⟨w.heap.size, 0, none⟩) 32 32] 24) = W := ⟨_, rfl⟩
  have k1 : Keeps (fun _ => False) w W1 := by rw [← hW1]; exact (Keeps.refl _ _).alloc _
  have k2 : Keeps (fun _ => False) W1 W2 := by rw [← hW2]; exact (Keeps.refl _ _).alloc _
  have k3 : Keeps (fun _ => False) W2 W3 := by rw [← hW3]; exact (Keeps.refl _ _).alloc _
  have r1 : Row W1 w.heap.size 23 (bvs xs) := by rw [← hW1, ← hX]; exact heap_alloc_new w _
  have r2 : Row W2 W1.heap.size 23 Z.toList := by rw [← hW2]; exact heap_alloc_new W1 _
  have r3 : Row W3 W2.heap.size 24 [.slice (some ⟨w.heap.size, 0, none⟩) 32 32] := by rw [← hW3]; exact heap_alloc_new W2 _
  have hrows : RowsAt W3 (some ⟨W2.heap.size, 0, none⟩) [(some ⟨w.heap.size, 0, none⟩, 32, xs)] :=
    rowsAt_only (by rw [add_plain, hx]; exact r3.cell 0) (src_new ((r1.keeps k2 id).keeps k3 id)) ⟨by rw [hx]; exact Nat.le_refl _, by show (32 : Nat) ≤ _; omega⟩
  have e : bytesOf [(some ⟨w.heap.size, 0, none⟩, 32, xs)] = xs := by simp [bytesOf]
  have hof := of_any _ 1 _ W3 (((hT.keeps k1 id id).keeps k2 id id).keeps k3 id id) hrows (by simp) (by rw [e]; omega)
  rw [e] at hof
  have HOF : Hid (Calls Tryd.prog 16 #[.slice (some ⟨W2.heap.size, 0, none⟩) 1 1] W3 fun e w' => e = .returned (.agg (bvs (Lm.opn xs)).toArray) ∧ Keeps (fun _ => False) W3 w') := hof
  have kk : Keeps (fun _ => False) w W3 := (k1.trans k2).trans k3
  have rr : Row W3 W1.heap.size 23 Z.toList := r2.keeps k3 id
  have kl : w.heap.size ≤ W1.heap.size := k1.size
  have RR := Lib.hid rr
  clear hof e hrows r1 r2 r3 k1 k2 k3 hx hT rr hX
  go_enter Tryd.func20, Tryd.ntmps20
  go_wp2_with fail
  refine HOF.out.mono ?_
  rintro e w4 ⟨rfl, k4⟩
  obtain ⟨R, hR⟩ : ∃ R, (bvs (Lm.opn xs)).toArray = R := ⟨_, rfl⟩
  obtain ⟨a1, a2, a3⟩ := hash_arr (Lm.opn xs) (Lm.opn_length _)
  rw [hR] at a1 a2 a3
  rw [hR]
  have HSZ := Lib.hid a1
  have HZR := Lib.hid (HZS.out.trans a2.symm)
  have HONE := Lib.hid a3
  have HO3 : Hid (w4.heap[W1.heap.size]? = some (.cells Z 23 (0, 0))) := RR.out.keeps k4 id
  have HRR := Lib.hid hR
  clear a1 a2 a3 RR HOF hR
  go_wp2_with (refine wpList_store_row rfl 23 _ _ rfl W1.heap.size R rfl rfl 23 Z HO3.out HSZ.out HZR.out HONE.out ?_)
  refine bodyPost_ret (results_cell_row rfl _ _ W1.heap.size 23 R (0, 0) _ rfl (setRow_heap _ _ _ _ _ _ HO3.out) Tryd.underlying23 rfl HSZ.out) rfl ?_
  exact ⟨by rw [HRR.out], (kk.trans k4).trans' (Keeps.setRow W1.heap.size R) (fun i hi h => by omega)⟩

/-- The first bits, told so far. -/
def bvals (g : List UInt8) (n : Nat) : List Value := (List.range 64).map fun k => .int .i64 (if k < n then (Lm.bit g k : Int) else 0)
theorem bvals_length (g : List UInt8) (n : Nat) : (bvals g n).length = 64 := by simp [bvals]
theorem bvals_at (g : List UInt8) (n k : Nat) (h : k < 64) : (bvals g n)[k]? = some (.int .i64 (if k < n then (Lm.bit g k : Int) else 0)) := by
  unfold bvals
  rw [List.getElem?_map, List.getElem?_range h]
  rfl
theorem bvals_succ (g : List UInt8) (k : Nat) : (bvals g k).set k (.int .i64 (Lm.bit g k : Int)) = bvals g (k + 1) := by
  apply List.ext_getElem?
  intro j
  by_cases hj : j < 64
  · rw [List.getElem?_set, bvals_at g (k + 1) j hj, bvals_at g k j hj, bvals_length]
    by_cases e : k = j
    · subst e; rw [if_pos rfl, if_pos hj, if_pos (by omega)]
    · rw [if_neg e]
      by_cases h : j < k
      · rw [if_pos h, if_pos (by omega)]
      · rw [if_neg h, if_neg (by omega)]
  · rw [List.getElem?_eq_none (by rw [List.length_set, bvals_length]; omega), List.getElem?_eq_none (by rw [bvals_length]; omega)]
theorem bvals_one (g : List UInt8) (n : Nat) : (bvals g n).toArray.all (·.oneCell') = true := by
  rw [Array.all_eq_true_iff_forall_mem]
  intro v hv
  simp only [bvals, List.mem_toArray, List.mem_map] at hv
  obtain ⟨k, _, rfl⟩ := hv
  rfl
theorem zero_ints (g : List UInt8) (w : World) : (zeroValue 46).run Tryd.prog w = .ok (.agg (bvals g 0).toArray) w := by
  have e : bvals g 0 = List.replicate 64 (.int .i64 0) := by
    apply List.ext_getElem?
    intro j
    by_cases hj : j < 64
    · rw [bvals_at g 0 j hj, if_neg (by omega), List.getElem?_replicate, if_pos hj]
    · rw [List.getElem?_eq_none (by rw [bvals_length]; omega), List.getElem?_eq_none (by rw [List.length_replicate]; omega)]
  have h : (zeroValue 46).run Tryd.prog w = .ok (.agg (List.replicate 64 (.int .i64 0)).toArray) w := by kernel_rfl
  rw [e]
  exact h
theorem size_ints : (Tryd.prog.info? 46).map (·.size) = some 64 := by kernel_rfl
theorem and_one (c : UInt8) (n : Nat) : bits .and .u8 ((c.toNat : Int) / 2 ^ n) 1 = ((c.toNat / 2 ^ n % 2 : Nat) : Int) := by
  have h1 : ((c.toNat : Int) / 2 ^ n) = ((c.toNat / 2 ^ n : Nat) : Int) := by simp
  have h2 : c.toNat / 2 ^ n < 256 := Nat.lt_of_le_of_lt (Nat.div_le_self _ _) c.toNat_lt
  rw [h1, show (1 : Int) = ((1 : Nat) : Int) from rfl, u8_and_nat _ _ h2 (by omega), Nat.and_one_is_mod]
set_option maxRecDepth 100000 in
set_option maxHeartbeats 2000000 in
theorem bitsOf_any (A : Option Addr) (c : Nat) (xs : List UInt8) (w : World) (hT : Tabs w) (hs : Src w A (bvs xs)) (hc : xs.length ≤ c) (hc1 : c ≤ 9223372036854775807) (hx : xs.length ≤ 99999999) :
    Calls Tryd.prog 18 #[.slice A xs.length c] w fun e w' => e = .returned (.agg (bvals (Sh.sha xs) 64).toArray) ∧ Keeps (fun _ => False) w w' := by
  have h0 := hT.lt
  obtain ⟨g, hg⟩ : ∃ g, Sh.sha xs = g := ⟨_, rfl⟩
  have hgl : g.length = 32 := by rw [← hg]; exact Sh.sha_length _
  obtain ⟨Z, hZ⟩ : ∃ Z : Array Value, (bvs (List.replicate 32 0)).toArray = Z := ⟨_, rfl⟩
  have hz : ∀ w : World, (zeroValue 23).run Tryd.prog w = .ok (.agg Z) w := fun w => by rw [← hZ]; exact zero_hash w
  have hzs : Z.size = 32 := by subst hZ; rfl
  obtain ⟨Y, hY⟩ : ∃ Y : Array Value, (bvals g 0).toArray = Y := ⟨_, rfl⟩
  have hy : ∀ w : World, (zeroValue 46).run Tryd.prog w = .ok (.agg Y) w := fun w => by rw [← hY]; exact zero_ints g w
  obtain ⟨W1, hW1⟩ : ∃ W, w.alloc (.cells Y 46) = W := ⟨_, rfl⟩
  obtain ⟨W2, hW2⟩ : ∃ W, W1.alloc (.cells Y 46) = W := ⟨_, rfl⟩
  obtain ⟨W3, hW3⟩ : ∃ W, W2.alloc (.cells #[.slice A xs.length c] 24) = W := ⟨_, rfl⟩
  have k1 : Keeps (fun _ => False) w W1 := by rw [← hW1]; exact (Keeps.refl _ _).alloc _
  have k2 : Keeps (fun _ => False) W1 W2 := by rw [← hW2]; exact (Keeps.refl _ _).alloc _
  have k3 : Keeps (fun _ => False) W2 W3 := by rw [← hW3]; exact (Keeps.refl _ _).alloc _
  have r1 : Row W1 w.heap.size 46 (bvals g 0) := by rw [← hW1, ← hY]; exact heap_alloc_new w _
  have r2 : Row W2 W1.heap.size 46 (bvals g 0) := by rw [← hW2, ← hY]; exact heap_alloc_new W1 _
  have r3 : Row W3 W2.heap.size 24 [.slice A xs.length c] := by rw [← hW3]; exact heap_alloc_new W2 _
  have hrows : RowsAt W3 (some ⟨W2.heap.size, 0, none⟩) [(A, c, xs)] :=
    rowsAt_only (by rw [add_plain]; exact r3.cell 0) (((hs.keeps k1 (fun _ _ _ => id)).keeps k2 (fun _ _ _ => id)).keeps k3 (fun _ _ _ => id)) ⟨hc, hc1⟩
  have e : bytesOf [(A, c, xs)] = xs := by simp [bytesOf]
  have hof := of_any _ 1 _ W3 (((hT.keeps k1 id id).keeps k2 id id).keeps k3 id id) hrows (by simp) (by rw [e]; omega)
  rw [e, hg] at hof
  have HOF : Hid (Calls Tryd.prog 16 #[.slice (some ⟨W2.heap.size, 0, none⟩) 1 1] W3 fun e w' => e = .returned (.agg (bvs g).toArray) ∧ Keeps (fun _ => False) W3 w') := hof
  have kk : Keeps (fun _ => False) w W3 := (k1.trans k2).trans k3
  have ra : Row W3 w.heap.size 46 (bvals g 0) := (r1.keeps k2 id).keeps k3 id
  have rb : Row W3 W1.heap.size 46 (bvals g 0) := r2.keeps k3 id
  have kl : w.heap.size < W1.heap.size := by rw [← hW1]; simp
  have kl3 : W1.heap.size < W3.heap.size := rb.lt
  obtain ⟨B1, hB1⟩ : ∃ B, W1.heap.size = B := ⟨_, rfl⟩
  rw [hB1] at rb kl kl3
  have RA := Lib.hid ra
  have RB := Lib.hid rb
  have KK := Lib.hid kk
  have HG := Lib.hid hg
  rw [hg]
  clear hof e hrows r1 r2 r3 k1 k2 k3 hx hT hs hc hc1 ra rb kk hg hY hZ
  go_enter Tryd.func18, Tryd.ntmps18
  go_wp2_with fail
  refine HOF.out.mono ?_
  rintro e w4 ⟨rfl, k4⟩
  obtain ⟨G, hG⟩ : ∃ G, w4.heap.size = G := ⟨_, rfl⟩
  obtain ⟨R, hR⟩ : ∃ R, (bvs g).toArray = R := ⟨_, rfl⟩
  obtain ⟨a1, a2, a3⟩ := hash_arr g hgl
  rw [hR] at a1 a2 a3
  rw [hR]
  obtain ⟨W5, hW5⟩ : ∃ W, w4.alloc (.cells Z 23) = W := ⟨_, rfl⟩
  obtain ⟨W6, hW6⟩ : ∃ W, W5.setRow G R = W := ⟨_, rfl⟩
  have r5 : W5.heap[G]? = some (.cells Z 23 (0, 0)) := by rw [← hW5, ← hG]; exact heap_alloc_new w4 _
  have r6 : Row W6 G 23 (bvs g) := by rw [← hW6]; have := setRow_heap W5 G Z R _ _ r5; rw [← hR] at this; rw [← hR]; exact this
  have k45 : Keeps (fun _ => False) w4 W5 := by rw [← hW5]; exact (Keeps.refl _ _).alloc _
  have k56 : Keeps (fun k => k = G) W5 W6 := by rw [← hW6]; exact Keeps.setRow _ _
  have k36 : Keeps (fun _ => False) W3 W6 := k4.trans (k45.trans' k56 (fun i hi h => by omega))
  have RA6 := Lib.hid (RA.out.keeps k36 id)
  have RB6 := Lib.hid (RB.out.keeps k36 id)
  have hG3 : W3.heap.size ≤ G := by rw [← hG]; exact k4.size
  have K6 := Lib.hid (KK.out.trans k36)
  have R6 := Lib.hid r6
  have S1 := Lib.hid a1
  have S2 := Lib.hid (hzs.trans a2.symm)
  have S3 := Lib.hid a3
  have R5 := Lib.hid r5
  clear HOF k4 a1 a2 a3 r5 r6 k45 k56 k36 RA RB KK hR hgl
  go_wp2_with (refine wpList_store_row rfl 23 _ _ rfl G R rfl rfl 23 Z R5.out S1.out S2.out S3.out ?_; rw [hW6])
  go_loopw [9] (fun v wr => ∃ k : Nat, k ≤ 64 ∧ v = .int .i64 k ∧ Hid (Row wr w.heap.size 46 (bvals g 0)) ∧ Hid (Row wr B1 46 (bvals g k)) ∧ Hid (Row wr G 23 (bvs g)) ∧ Keeps (fun _ => False) w wr) (fun v _ => 64 - (intOf v).toNat)
  case atStart => exact ⟨0, by omega, rfl, RA6, RB6, R6, K6.out⟩
  case round =>
    clear RA6 RB6 R6 K6
    obtain ⟨k, hk, rfl, HA, HB, HR, hkp⟩ := hrel
    by_cases hlt : k < 64
    · have hq : k / 8 < 32 := by omega
      obtain ⟨x, hx⟩ : ∃ x, g[k / 8]? = some x := ⟨_, List.getElem?_eq_getElem (by rw [← HG.out, Sh.sha_length]; exact hq)⟩
      have hcell : wr.cell? ⟨G, k / 8, none⟩ = some (.int .u8 (x.toNat : Int)) := by rw [HR.out.cell, bvs_get, hx]; rfl
      have hold : wr.cell? ⟨B1, k, none⟩ = some (.int .i64 0) := by rw [HB.out.cell, bvals_at g k k hlt, if_neg (by omega)]
      have hfr := HB.out.frozen k
      have hbit : bits .and .u8 ((x.toNat : Int) / 2 ^ (7 - k % 8)) 1 = (Lm.bit g k : Int) := by
        rw [and_one]
        unfold Lm.bit
        rw [List.getD_eq_getElem?_getD, hx]
        rfl
      have s7 : IntKind.i64.wrap (7 - (k : Int) % 8) = 7 - (k : Int) % 8 := IntWalk.i64_in _ (by omega)
      have l7 : (0 : Int) ≤ 7 - (k : Int) % 8 := by omega
      have t7 : (7 - (k : Int) % 8).toNat = 7 - k % 8 := by omega
      have hq' : (k : Int) / 8 < 32 := by omega
      have c0 : (x.toNat : Int) < 256 := by have := x.toNat_lt; omega
      obtain ⟨bt, hbt⟩ : ∃ b, Lm.bit g k = b := ⟨_, rfl⟩
      have hb2 : bt < 2 := by rw [← hbt]; exact Lm.bit_lt _ _
      rw [hbt] at hbit
      have hnext := bvals_succ g k
      rw [hbt] at hnext
      have HN := Lib.hid hnext
      clear hnext hbt
      go_wp2
      go_roundw
      case rel =>
        go_light
        refine ⟨k + 1, by omega, by go_num, Lib.hid (HA.out.set_other (by show w.heap.size ≠ B1; omega) _), Lib.hid ?_, Lib.hid (HR.out.set_other (by show G ≠ B1; omega) _), hkp.setCell (fun h => absurd h (by show ¬ B1 < w.heap.size; omega)) _⟩
        rw [← HN.out]
        exact HB.out.set _ _
      case measure => simp [intOf]; omega
    · obtain rfl : k = 64 := by omega
      obtain ⟨R2, hR2⟩ : ∃ R, (bvals g 64).toArray = R := ⟨_, rfl⟩
      have S1 : Hid ((Tryd.prog.info? 46).map (·.size) = some R2.size) := Lib.hid (by rw [← hR2, List.size_toArray, bvals_length]; exact size_ints)
      have S2 : Hid ((bvals g 0).toArray.size = R2.size) := Lib.hid (by rw [← hR2, List.size_toArray, List.size_toArray, bvals_length, bvals_length])
      have S3 : Hid (R2.all (·.oneCell') = true) := Lib.hid (by rw [← hR2]; exact bvals_one _ _)
      have H2 : Hid (wr.heap[B1]? = some (.cells R2 46 (0, 0))) := Lib.hid (by rw [← hR2]; exact HB.out)
      have H1 : Hid (wr.heap[w.heap.size]? = some (.cells (bvals g 0).toArray 46 (0, 0))) := Lib.hid HA.out
      have HR2 := Lib.hid hR2
      clear HA HB HR hR2
      go_wp2_with (first
        | (refine wpList_load_row rfl 46 _ rfl B1 rfl 46 R2 (0, 0) _ H2.out Tryd.underlying46 rfl S1.out ?_)
        | (refine wpList_store_row rfl 46 _ _ rfl w.heap.size R2 rfl rfl 46 (bvals g 0).toArray H1.out S1.out S2.out S3.out ?_))
      refine bodyPost_ret (results_cell_row rfl _ _ w.heap.size 46 R2 (0, 0) _ rfl (setRow_heap _ _ _ _ _ _ H1.out) Tryd.underlying46 rfl S1.out) rfl ?_
      exact ⟨by rw [HR2.out], hkp.trans' (Keeps.setRow w.heap.size R2) (fun i hi h => by omega)⟩
end Go.Proofs.YtgbajlmcoghofaaDoor
