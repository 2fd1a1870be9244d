/-
  The document's own disk: a block is written. WRITTEN BY wip/gen/mkrkc.py.
-/
import Derived.Test.YtonokeldlknadaaRkB
namespace Go.Proofs.Ytonokeldlknadaa
open Go.RowKit Go.BigFrame
set_option linter.unusedVariables false

/-- What is left behind a call that counts. -/
def cf (f : Int) : Int := if 0 < f then f - 1 else f
theorem rcount_go (A : Option Addr) (n c : Nat) (A2 : Option Addr) (m c2 : Nat) (f : Int) (d : Bool) (hf : f ≠ 0) (hf2 : f ≤ 9223372036854775807) (w : World) :
    Calls Try.prog 28 #[.agg (rrow A n c A2 m c2 f d).toArray] w fun e w' => e = .returned (.tuple #[.agg (rrow A n c A2 m c2 (cf f) d).toArray, .int .i64 0]) ∧ Keeps (fun _ => False) w w' := by
  unfold cf
  by_cases h : 0 < f
  · rw [if_pos h]
    exact rcount_pos A n c A2 m c2 f d h hf2 w
  · rw [if_neg h]
    exact rcount_neg A n c A2 m c2 f d (by omega) w
set_option maxRecDepth 100000 in
set_option maxHeartbeats 1000000 in
theorem rwrite_dead (A : Option Addr) (n c : Nat) (A2 : Option Addr) (m c2 : Nat) (f : Int) (i : Int) (sb : ByteArray) (w : World) :
    Calls Try.prog 14 #[.agg (rrow A n c A2 m c2 f true).toArray, .int .i64 i, .string sb] w fun e w' => e = .returned (.tuple #[.agg (rrow A n c A2 m c2 f true).toArray, .int .i64 30]) ∧ Keeps (fun _ => False) w w' := by
  obtain ⟨Z, hZ⟩ : ∃ Z : Array Value, (#[.slice none 0 0, .slice none 0 0, .int .i64 0, .bool false] : Array Value) = Z := ⟨_, rfl⟩
  have hz : ∀ V : World, (zeroValue 31).run Try.prog V = .ok (.agg Z) V := fun V => by rw [← hZ]; exact zero_D V
  have ZS : Hid (Z.size = 4) := Lib.hid (by rw [← hZ]; rfl)
  obtain ⟨RA, hRA⟩ : ∃ R, (rrow A n c A2 m c2 f true).toArray = R := ⟨_, rfl⟩
  have RAN : Hid (RA.size = 4) := Lib.hid (by rw [← hRA]; rfl)
  have RAS : Hid ((Try.prog.info? 31).map (·.size) = some RA.size) := Lib.hid (by rw [RAN.out]; exact size_D)
  have RAO : Hid (RA.all (·.oneCell') = true) := Lib.hid (by rw [← hRA]; exact rrow_one _ _ _ _ _ _ _ _)
  obtain ⟨b1, hb1⟩ : ∃ x, w.heap.size = x := ⟨_, rfl⟩
  obtain ⟨W1, hW1⟩ : ∃ V, w.alloc (.cells RA 31) = V := ⟨_, rfl⟩
  obtain ⟨b2, hb2⟩ : ∃ x, W1.heap.size = x := ⟨_, rfl⟩
  obtain ⟨W2, hW2⟩ : ∃ V, W1.alloc (.cells Z 31) = V := ⟨_, rfl⟩
  have k1 : Keeps (fun _ => False) w W1 := by rw [← hW1]; exact (Keeps.refl _ _).alloc _
  have k2 : Keeps (fun _ => False) W1 W2 := by rw [← hW2]; exact (Keeps.refl _ _).alloc _
  have r1 : W2.heap[b1]? = some (.cells RA 31 (0, 0)) := (k2.block b1 (by rw [← hW1, ← hb1]; simp) id).trans (by rw [← hW1, ← hb1]; exact heap_alloc_new w _)
  have r2 : W2.heap[b2]? = some (.cells Z 31 (0, 0)) := by rw [← hW2, ← hb2]; exact heap_alloc_new W1 _
  have hb12 : b1 < b2 := by rw [← hb1, ← hb2, ← hW1]; simp
  have hwb : w.heap.size ≤ b1 := by omega
  have kk := k1.trans k2
  clear k1 k2
  have hc0 : W2.cell? ⟨b1, 0, none⟩ = some (.slice A n c) := by rw [cell_of_row W2 b1 0 _ 31 (0, 0) r1, ← hRA]; rfl
  have hc3 : W2.cell? ⟨b1, 3, none⟩ = some (.bool true) := by rw [cell_of_row W2 b1 3 _ 31 (0, 0) r1, ← hRA]; rfl
  have R1 := Lib.hid r1
  have R2 := Lib.hid r2
  obtain ⟨W4, hW4⟩ : ∃ V, W2.setRow b2 RA = V := ⟨_, rfl⟩
  have R4 : Hid (W4.heap[b2]? = some (.cells RA 31 (0, 0))) := Lib.hid (by rw [← hW4]; exact setRow_heap _ _ _ _ _ _ r2)
  have K4 : Hid (Keeps (fun _ => False) w W4) := Lib.hid (kk.trans' (T := fun k => k = b2) (by rw [← hW4]; exact Keeps.setRow _ _) (fun i hi e => by omega))
  rw [hRA]
  clear r1 r2 kk hZ hRA
  go_enter Try.func14, Try.ntmps14
  go_wp2_with (first
    | (refine wpList_load_row (by rfl) 31 (.tmp 3) (by rfl) b1 (by rfl) 31 RA (0, 0) _ R1.out Try.underlying31 rfl RAS.out ?_)
    | (refine wpList_store_row (by rfl) 31 (.tmp 6) (.tmp 12) (by rfl) b2 RA (by rfl) (by rfl) 31 Z R2.out RAS.out (ZS.out.trans RAN.out.symm) RAO.out ?_; rw [hW4]))
  refine bodyPost_ret (results_cell_tmp11 rfl _ _ b2 31 RA (0, 0) _ rfl R4.out Try.underlying31 rfl RAS.out) rfl ?_
  exact ⟨rfl, K4.out⟩
set_option maxRecDepth 100000 in
set_option maxHeartbeats 1000000 in
theorem rwrite_low (A : Option Addr) (n c : Nat) (A2 : Option Addr) (m c2 : Nat) (f : Int) (i : Int) (sb : ByteArray) (hi : i < 0) (w : World) :
    Calls Try.prog 14 #[.agg (rrow A n c A2 m c2 f false).toArray, .int .i64 i, .string sb] w fun e w' => e = .returned (.tuple #[.agg (rrow A n c A2 m c2 f false).toArray, .int .i64 15]) ∧ Keeps (fun _ => False) w w' := by
  obtain ⟨Z, hZ⟩ : ∃ Z : Array Value, (#[.slice none 0 0, .slice none 0 0, .int .i64 0, .bool false] : Array Value) = Z := ⟨_, rfl⟩
  have hz : ∀ V : World, (zeroValue 31).run Try.prog V = .ok (.agg Z) V := fun V => by rw [← hZ]; exact zero_D V
  have ZS : Hid (Z.size = 4) := Lib.hid (by rw [← hZ]; rfl)
  obtain ⟨RA, hRA⟩ : ∃ R, (rrow A n c A2 m c2 f false).toArray = R := ⟨_, rfl⟩
  have RAN : Hid (RA.size = 4) := Lib.hid (by rw [← hRA]; rfl)
  have RAS : Hid ((Try.prog.info? 31).map (·.size) = some RA.size) := Lib.hid (by rw [RAN.out]; exact size_D)
  have RAO : Hid (RA.all (·.oneCell') = true) := Lib.hid (by rw [← hRA]; exact rrow_one _ _ _ _ _ _ _ _)
  obtain ⟨b1, hb1⟩ : ∃ x, w.heap.size = x := ⟨_, rfl⟩
  obtain ⟨W1, hW1⟩ : ∃ V, w.alloc (.cells RA 31) = V := ⟨_, rfl⟩
  obtain ⟨b2, hb2⟩ : ∃ x, W1.heap.size = x := ⟨_, rfl⟩
  obtain ⟨W2, hW2⟩ : ∃ V, W1.alloc (.cells Z 31) = V := ⟨_, rfl⟩
  have k1 : Keeps (fun _ => False) w W1 := by rw [← hW1]; exact (Keeps.refl _ _).alloc _
  have k2 : Keeps (fun _ => False) W1 W2 := by rw [← hW2]; exact (Keeps.refl _ _).alloc _
  have r1 : W2.heap[b1]? = some (.cells RA 31 (0, 0)) := (k2.block b1 (by rw [← hW1, ← hb1]; simp) id).trans (by rw [← hW1, ← hb1]; exact heap_alloc_new w _)
  have r2 : W2.heap[b2]? = some (.cells Z 31 (0, 0)) := by rw [← hW2, ← hb2]; exact heap_alloc_new W1 _
  have hb12 : b1 < b2 := by rw [← hb1, ← hb2, ← hW1]; simp
  have hwb : w.heap.size ≤ b1 := by omega
  have kk := k1.trans k2
  clear k1 k2
  have hc0 : W2.cell? ⟨b1, 0, none⟩ = some (.slice A n c) := by rw [cell_of_row W2 b1 0 _ 31 (0, 0) r1, ← hRA]; rfl
  have hc3 : W2.cell? ⟨b1, 3, none⟩ = some (.bool false) := by rw [cell_of_row W2 b1 3 _ 31 (0, 0) r1, ← hRA]; rfl
  have R1 := Lib.hid r1
  have R2 := Lib.hid r2
  obtain ⟨W4, hW4⟩ : ∃ V, W2.setRow b2 RA = V := ⟨_, rfl⟩
  have R4 : Hid (W4.heap[b2]? = some (.cells RA 31 (0, 0))) := Lib.hid (by rw [← hW4]; exact setRow_heap _ _ _ _ _ _ r2)
  have K4 : Hid (Keeps (fun _ => False) w W4) := Lib.hid (kk.trans' (T := fun k => k = b2) (by rw [← hW4]; exact Keeps.setRow _ _) (fun i hi e => by omega))
  rw [hRA]
  clear r1 r2 kk hZ hRA
  have h1 : i < 0 := hi
  go_enter Try.func14, Try.ntmps14
  go_wp2_with (first
    | (refine wpList_load_row (by rfl) 31 (.tmp 3) (by rfl) b1 (by rfl) 31 RA (0, 0) _ R1.out Try.underlying31 rfl RAS.out ?_)
    | (refine wpList_store_row (by rfl) 31 (.tmp 6) (.tmp 22) (by rfl) b2 RA (by rfl) (by rfl) 31 Z R2.out RAS.out (ZS.out.trans RAN.out.symm) RAO.out ?_; rw [hW4]))
  refine bodyPost_ret (results_cell_tmp11 rfl _ _ b2 31 RA (0, 0) _ rfl R4.out Try.underlying31 rfl RAS.out) rfl ?_
  exact ⟨rfl, K4.out⟩
set_option maxRecDepth 100000 in
set_option maxHeartbeats 1000000 in
theorem rwrite_high (A : Option Addr) (n c : Nat) (A2 : Option Addr) (m c2 : Nat) (f : Int) (i : Int) (sb : ByteArray) (hi : (n : Int) ≤ i) (w : World) :
    Calls Try.prog 14 #[.agg (rrow A n c A2 m c2 f false).toArray, .int .i64 i, .string sb] w fun e w' => e = .returned (.tuple #[.agg (rrow A n c A2 m c2 f false).toArray, .int .i64 15]) ∧ Keeps (fun _ => False) w w' := by
  obtain ⟨Z, hZ⟩ : ∃ Z : Array Value, (#[.slice none 0 0, .slice none 0 0, .int .i64 0, .bool false] : Array Value) = Z := ⟨_, rfl⟩
  have hz : ∀ V : World, (zeroValue 31).run Try.prog V = .ok (.agg Z) V := fun V => by rw [← hZ]; exact zero_D V
  have ZS : Hid (Z.size = 4) := Lib.hid (by rw [← hZ]; rfl)
  obtain ⟨RA, hRA⟩ : ∃ R, (rrow A n c A2 m c2 f false).toArray = R := ⟨_, rfl⟩
  have RAN : Hid (RA.size = 4) := Lib.hid (by rw [← hRA]; rfl)
  have RAS : Hid ((Try.prog.info? 31).map (·.size) = some RA.size) := Lib.hid (by rw [RAN.out]; exact size_D)
  have RAO : Hid (RA.all (·.oneCell') = true) := Lib.hid (by rw [← hRA]; exact rrow_one _ _ _ _ _ _ _ _)
  obtain ⟨b1, hb1⟩ : ∃ x, w.heap.size = x := ⟨_, rfl⟩
  obtain ⟨W1, hW1⟩ : ∃ V, w.alloc (.cells RA 31) = V := ⟨_, rfl⟩
  obtain ⟨b2, hb2⟩ : ∃ x, W1.heap.size = x := ⟨_, rfl⟩
  obtain ⟨W2, hW2⟩ : ∃ V, W1.alloc (.cells Z 31) = V := ⟨_, rfl⟩
  have k1 : Keeps (fun _ => False) w W1 := by rw [← hW1]; exact (Keeps.refl _ _).alloc _
  have k2 : Keeps (fun _ => False) W1 W2 := by rw [← hW2]; exact (Keeps.refl _ _).alloc _
  have r1 : W2.heap[b1]? = some (.cells RA 31 (0, 0)) := (k2.block b1 (by rw [← hW1, ← hb1]; simp) id).trans (by rw [← hW1, ← hb1]; exact heap_alloc_new w _)
  have r2 : W2.heap[b2]? = some (.cells Z 31 (0, 0)) := by rw [← hW2, ← hb2]; exact heap_alloc_new W1 _
  have hb12 : b1 < b2 := by rw [← hb1, ← hb2, ← hW1]; simp
  have hwb : w.heap.size ≤ b1 := by omega
  have kk := k1.trans k2
  clear k1 k2
  have hc0 : W2.cell? ⟨b1, 0, none⟩ = some (.slice A n c) := by rw [cell_of_row W2 b1 0 _ 31 (0, 0) r1, ← hRA]; rfl
  have hc3 : W2.cell? ⟨b1, 3, none⟩ = some (.bool false) := by rw [cell_of_row W2 b1 3 _ 31 (0, 0) r1, ← hRA]; rfl
  have R1 := Lib.hid r1
  have R2 := Lib.hid r2
  obtain ⟨W4, hW4⟩ : ∃ V, W2.setRow b2 RA = V := ⟨_, rfl⟩
  have R4 : Hid (W4.heap[b2]? = some (.cells RA 31 (0, 0))) := Lib.hid (by rw [← hW4]; exact setRow_heap _ _ _ _ _ _ r2)
  have K4 : Hid (Keeps (fun _ => False) w W4) := Lib.hid (kk.trans' (T := fun k => k = b2) (by rw [← hW4]; exact Keeps.setRow _ _) (fun i hi e => by omega))
  rw [hRA]
  clear r1 r2 kk hZ hRA
  have h2 : ¬ i < 0 := by omega
  have h3 : i ≥ (n : Int) := hi
  go_enter Try.func14, Try.ntmps14
  go_wp2_with (first
    | (refine wpList_load_row (by rfl) 31 (.tmp 3) (by rfl) b1 (by rfl) 31 RA (0, 0) _ R1.out Try.underlying31 rfl RAS.out ?_)
    | (refine wpList_store_row (by rfl) 31 (.tmp 6) (.tmp 22) (by rfl) b2 RA (by rfl) (by rfl) 31 Z R2.out RAS.out (ZS.out.trans RAN.out.symm) RAO.out ?_; rw [hW4]))
  refine bodyPost_ret (results_cell_tmp11 rfl _ _ b2 31 RA (0, 0) _ rfl R4.out Try.underlying31 rfl RAS.out) rfl ?_
  exact ⟨rfl, K4.out⟩
set_option maxRecDepth 100000 in
set_option maxHeartbeats 1000000 in
theorem rwrite_arg (A : Option Addr) (n c : Nat) (A2 : Option Addr) (m c2 : Nat) (f : Int) (i : Int) (sb : ByteArray) (hi : 0 ≤ i ∧ i < (n : Int)) (hs : sb.size ≠ 256) (w : World) :
    Calls Try.prog 14 #[.agg (rrow A n c A2 m c2 f false).toArray, .int .i64 i, .string sb] w fun e w' => e = .returned (.tuple #[.agg (rrow A n c A2 m c2 f false).toArray, .int .i64 1]) ∧ Keeps (fun _ => False) w w' := by
  obtain ⟨Z, hZ⟩ : ∃ Z : Array Value, (#[.slice none 0 0, .slice none 0 0, .int .i64 0, .bool false] : Array Value) = Z := ⟨_, rfl⟩
  have hz : ∀ V : World, (zeroValue 31).run Try.prog V = .ok (.agg Z) V := fun V => by rw [← hZ]; exact zero_D V
  have ZS : Hid (Z.size = 4) := Lib.hid (by rw [← hZ]; rfl)
  obtain ⟨RA, hRA⟩ : ∃ R, (rrow A n c A2 m c2 f false).toArray = R := ⟨_, rfl⟩
  have RAN : Hid (RA.size = 4) := Lib.hid (by rw [← hRA]; rfl)
  have RAS : Hid ((Try.prog.info? 31).map (·.size) = some RA.size) := Lib.hid (by rw [RAN.out]; exact size_D)
  have RAO : Hid (RA.all (·.oneCell') = true) := Lib.hid (by rw [← hRA]; exact rrow_one _ _ _ _ _ _ _ _)
  obtain ⟨b1, hb1⟩ : ∃ x, w.heap.size = x := ⟨_, rfl⟩
  obtain ⟨W1, hW1⟩ : ∃ V, w.alloc (.cells RA 31) = V := ⟨_, rfl⟩
  obtain ⟨b2, hb2⟩ : ∃ x, W1.heap.size = x := ⟨_, rfl⟩
  obtain ⟨W2, hW2⟩ : ∃ V, W1.alloc (.cells Z 31) = V := ⟨_, rfl⟩
  have k1 : Keeps (fun _ => False) w W1 := by rw [← hW1]; exact (Keeps.refl _ _).alloc _
  have k2 : Keeps (fun _ => False) W1 W2 := by rw [← hW2]; exact (Keeps.refl _ _).alloc _
  have r1 : W2.heap[b1]? = some (.cells RA 31 (0, 0)) := (k2.block b1 (by rw [← hW1, ← hb1]; simp) id).trans (by rw [← hW1, ← hb1]; exact heap_alloc_new w _)
  have r2 : W2.heap[b2]? = some (.cells Z 31 (0, 0)) := by rw [← hW2, ← hb2]; exact heap_alloc_new W1 _
  have hb12 : b1 < b2 := by rw [← hb1, ← hb2, ← hW1]; simp
  have hwb : w.heap.size ≤ b1 := by omega
  have kk := k1.trans k2
  clear k1 k2
  have hc0 : W2.cell? ⟨b1, 0, none⟩ = some (.slice A n c) := by rw [cell_of_row W2 b1 0 _ 31 (0, 0) r1, ← hRA]; rfl
  have hc3 : W2.cell? ⟨b1, 3, none⟩ = some (.bool false) := by rw [cell_of_row W2 b1 3 _ 31 (0, 0) r1, ← hRA]; rfl
  have R1 := Lib.hid r1
  have R2 := Lib.hid r2
  obtain ⟨W4, hW4⟩ : ∃ V, W2.setRow b2 RA = V := ⟨_, rfl⟩
  have R4 : Hid (W4.heap[b2]? = some (.cells RA 31 (0, 0))) := Lib.hid (by rw [← hW4]; exact setRow_heap _ _ _ _ _ _ r2)
  have K4 : Hid (Keeps (fun _ => False) w W4) := Lib.hid (kk.trans' (T := fun k => k = b2) (by rw [← hW4]; exact Keeps.setRow _ _) (fun i hi e => by omega))
  rw [hRA]
  clear r1 r2 kk hZ hRA
  obtain ⟨hi0, hin⟩ := hi
  have h2 : ¬ i < 0 := by omega
  have h3 : ¬ i ≥ (n : Int) := by omega
  have h4 : ((sb.size : Int) != 256) = true := by simp; omega
  go_enter Try.func14, Try.ntmps14
  go_wp2_with (first
    | (refine wpList_load_row (by rfl) 31 (.tmp 3) (by rfl) b1 (by rfl) 31 RA (0, 0) _ R1.out Try.underlying31 rfl RAS.out ?_)
    | (refine wpList_store_row (by rfl) 31 (.tmp 6) (.tmp 26) (by rfl) b2 RA (by rfl) (by rfl) 31 Z R2.out RAS.out (ZS.out.trans RAN.out.symm) RAO.out ?_; rw [hW4]))
  refine bodyPost_ret (results_cell_tmp11 rfl _ _ b2 31 RA (0, 0) _ rfl R4.out Try.underlying31 rfl RAS.out) rfl ?_
  exact ⟨rfl, K4.out⟩
set_option maxRecDepth 100000 in
set_option maxHeartbeats 1000000 in
theorem rwrite_down (A : Option Addr) (n c : Nat) (A2 : Option Addr) (m c2 : Nat) (i : Int) (sb : ByteArray) (hi : 0 ≤ i ∧ i < (n : Int)) (hs : sb.size = 256) (w : World) :
    Calls Try.prog 14 #[.agg (rrow A n c A2 m c2 0 false).toArray, .int .i64 i, .string sb] w fun e w' => e = .returned (.tuple #[.agg (rrow A n c A2 m c2 0 true).toArray, .int .i64 30]) ∧ Keeps (fun _ => False) w w' := by
  obtain ⟨Z, hZ⟩ : ∃ Z : Array Value, (#[.slice none 0 0, .slice none 0 0, .int .i64 0, .bool false] : Array Value) = Z := ⟨_, rfl⟩
  have hz : ∀ V : World, (zeroValue 31).run Try.prog V = .ok (.agg Z) V := fun V => by rw [← hZ]; exact zero_D V
  have ZS : Hid (Z.size = 4) := Lib.hid (by rw [← hZ]; rfl)
  obtain ⟨RA, hRA⟩ : ∃ R, (rrow A n c A2 m c2 0 false).toArray = R := ⟨_, rfl⟩
  have RAN : Hid (RA.size = 4) := Lib.hid (by rw [← hRA]; rfl)
  have RAS : Hid ((Try.prog.info? 31).map (·.size) = some RA.size) := Lib.hid (by rw [RAN.out]; exact size_D)
  have RAO : Hid (RA.all (·.oneCell') = true) := Lib.hid (by rw [← hRA]; exact rrow_one _ _ _ _ _ _ _ _)
  obtain ⟨b1, hb1⟩ : ∃ x, w.heap.size = x := ⟨_, rfl⟩
  obtain ⟨W1, hW1⟩ : ∃ V, w.alloc (.cells RA 31) = V := ⟨_, rfl⟩
  obtain ⟨b2, hb2⟩ : ∃ x, W1.heap.size = x := ⟨_, rfl⟩
  obtain ⟨W2, hW2⟩ : ∃ V, W1.alloc (.cells Z 31) = V := ⟨_, rfl⟩
  have k1 : Keeps (fun _ => False) w W1 := by rw [← hW1]; exact (Keeps.refl _ _).alloc _
  have k2 : Keeps (fun _ => False) W1 W2 := by rw [← hW2]; exact (Keeps.refl _ _).alloc _
  have r1 : W2.heap[b1]? = some (.cells RA 31 (0, 0)) := (k2.block b1 (by rw [← hW1, ← hb1]; simp) id).trans (by rw [← hW1, ← hb1]; exact heap_alloc_new w _)
  have r2 : W2.heap[b2]? = some (.cells Z 31 (0, 0)) := by rw [← hW2, ← hb2]; exact heap_alloc_new W1 _
  have hb12 : b1 < b2 := by rw [← hb1, ← hb2, ← hW1]; simp
  have hwb : w.heap.size ≤ b1 := by omega
  have kk := k1.trans k2
  clear k1 k2
  have hc0 : W2.cell? ⟨b1, 0, none⟩ = some (.slice A n c) := by rw [cell_of_row W2 b1 0 _ 31 (0, 0) r1, ← hRA]; rfl
  have hc3 : W2.cell? ⟨b1, 3, none⟩ = some (.bool false) := by rw [cell_of_row W2 b1 3 _ 31 (0, 0) r1, ← hRA]; rfl
  have hco := rcount_zero A n c A2 m c2 false W2
  obtain ⟨RB, hRB⟩ : ∃ R, (rrow A n c A2 m c2 0 true).toArray = R := ⟨_, rfl⟩
  have RBN : Hid (RB.size = 4) := Lib.hid (by rw [← hRB]; rfl)
  have RBS : Hid ((Try.prog.info? 31).map (·.size) = some RB.size) := Lib.hid (by rw [RBN.out]; exact size_D)
  have RBO : Hid (RB.all (·.oneCell') = true) := Lib.hid (by rw [← hRB]; exact rrow_one _ _ _ _ _ _ _ _)
  rw [hRA, hRB] at hco
  have HCO := Lib.hid hco
  have R1 := Lib.hid r1
  have R2 := Lib.hid r2
  have KK := Lib.hid kk
  rw [hRA, hRB]
  obtain ⟨hi0, hin⟩ := hi
  have h2 : ¬ i < 0 := by omega
  have h3 : ¬ i ≥ (n : Int) := by omega
  have h4 : ((sb.size : Int) != 256) = false := by simp; omega
  clear r1 r2 kk hZ hRA hRB hco hs
  go_enter Try.func14, Try.ntmps14
  go_wp2_with (first
    | (refine wpList_load_row (by rfl) 31 (.tmp 3) (by rfl) b1 (by rfl) 31 RA (0, 0) _ R1.out Try.underlying31 rfl RAS.out ?_))
  refine HCO.out.mono ?_
  rintro e wc ⟨rfl, kc⟩
  have rc1 : wc.heap[b1]? = some (.cells RA 31 (0, 0)) := (kc.block b1 (Array.getElem?_eq_some_iff.1 R1.out).1 id).trans R1.out
  have rc2 : wc.heap[b2]? = some (.cells Z 31 (0, 0)) := (kc.block b2 (Array.getElem?_eq_some_iff.1 R2.out).1 id).trans R2.out
  obtain ⟨W3, hW3⟩ : ∃ V, wc.setRow b1 RB = V := ⟨_, rfl⟩
  have k3 : Keeps (fun k => k = b1) wc W3 := by rw [← hW3]; exact Keeps.setRow _ _
  have r13 : W3.heap[b1]? = some (.cells RB 31 (0, 0)) := by rw [← hW3]; exact setRow_heap _ _ _ _ _ _ rc1
  have r23 : W3.heap[b2]? = some (.cells Z 31 (0, 0)) := (k3.block b2 (Array.getElem?_eq_some_iff.1 rc2).1 (fun e => by omega)).trans rc2
  obtain ⟨W4, hW4⟩ : ∃ V, W3.setRow b2 RB = V := ⟨_, rfl⟩
  have RC1 := Lib.hid rc1
  have R13 := Lib.hid r13
  have R23 := Lib.hid r23
  have ZRA : Hid (RA.size = RB.size) := Lib.hid (RAN.out.trans RBN.out.symm)
  have R4 : Hid (W4.heap[b2]? = some (.cells RB 31 (0, 0))) := Lib.hid (by rw [← hW4]; exact setRow_heap _ _ _ _ _ _ r23)
  have K4 : Hid (Keeps (fun _ => False) w W4) := Lib.hid (((KK.out.trans kc).trans' k3 (fun i hi e => by omega)).trans' (T := fun k => k = b2) (by rw [← hW4]; exact Keeps.setRow _ _) (fun i hi e => by omega))
  clear rc1 rc2 k3 r13 r23 kc HCO R1 R2 KK
  go_wp2_with (first
    | (refine wpList_store_row (by rfl) 31 (.tmp 3) (.tmp 30) (by rfl) b1 RB (by rfl) (by rfl) 31 RA RC1.out RBS.out ZRA.out RBO.out ?_; rw [hW3])
    | (refine wpList_load_row (by rfl) 31 (.tmp 3) (by rfl) b1 (by rfl) 31 RB (0, 0) _ R13.out Try.underlying31 rfl RBS.out ?_)
    | (refine wpList_store_row (by rfl) 31 (.tmp 6) (.tmp 34) (by rfl) b2 RB (by rfl) (by rfl) 31 Z R23.out RBS.out (ZS.out.trans RBN.out.symm) RBO.out ?_; rw [hW4]))
  refine bodyPost_ret (results_cell_tmp11 rfl _ _ b2 31 RB (0, 0) _ rfl R4.out Try.underlying31 rfl RBS.out) rfl ?_
  exact ⟨rfl, K4.out⟩
theorem own_src {w : World} {base size n c : Nat} {e : TypeId} {A : Option Addr} {xs : List Value} (h : w.ownsRow base e size (.slice A n c) n xs) : Src w A xs := by
  rcases h.2 with ⟨h1, h0⟩ | ⟨g, cap, cur, h1, _⟩
  · have : xs = [] := List.eq_nil_of_length_eq_zero (by rw [h.1, h0, Nat.zero_mul])
    subst this
    exact Src.nil _ _
  · injection h1 with h1 _ _
    subst h1
    intro j u hu
    have hj := (List.getElem?_eq_some_iff.1 hu).1
    refine ⟨_, rfl, ?_⟩
    rw [add_plain, Nat.zero_add, h.cellAt j (by rw [← h.1]; exact hj)]
    exact hu
theorem info_l : (Try.prog.info? 67).map (fun i => (i.zero, i.size, i.bytes)) = some (some (.agg #[.int .i64 0, .string ByteArray.empty]), 2, 24) := by kernel_rfl
theorem build_l (q : Nat) (sb : ByteArray) (V : World) : (Instr.build 67 #[(0, .int .i64 (q : Int)), (1, .string sb)]).run Try.prog V = .ok (.agg #[.int .i64 (q : Int), .string sb]) V := by kernel_rfl
theorem build_ls (q : Nat) (sb : ByteArray) (V : World) : (Instr.buildSlice 29 1 #[(0, .agg #[.int .i64 (q : Int), .string sb])]).run Try.prog V = .ok (.slice (some ⟨V.heap.size, 0, none⟩) 1 1) (V.alloc (.cells #[.int .i64 (q : Int), .string sb] 67)) := by kernel_rfl
set_option maxRecDepth 100000 in
set_option maxHeartbeats 2000000 in
theorem rwrite_ok (A : Option Addr) (n c : Nat) (A2 : Option Addr) (m c2 : Nat) (f : Int) (q : Nat) (b : List UInt8) (ls : List (Nat × List UInt8)) (hf : f ≠ 0) (hf2 : f ≤ 9223372036854775807) (hq : q < n) (hs : b.length = 256) (w : World) (hl : w.ownsRow 0 67 2 (.slice A2 m c2) m (lcells ls)) (hm : m ≤ 1000) :
    Calls Try.prog 14 #[.agg (rrow A n c A2 m c2 f false).toArray, .int .i64 (q : Int), .string (strOf b)] w fun e w' => ∃ A3 c3, e = .returned (.tuple #[.agg (rrow A n c A3 (m + 1) c3 (cf f) false).toArray, .int .i64 0]) ∧ w'.ownsRow w.heap.size 67 2 (.slice A3 (m + 1) c3) (m + 1) (lcells (ls ++ [(q, b)])) ∧ Keeps (fun _ => False) w w' := by
  obtain ⟨Z, hZ⟩ : ∃ Z : Array Value, (#[.slice none 0 0, .slice none 0 0, .int .i64 0, .bool false] : Array Value) = Z := ⟨_, rfl⟩
  have hz : ∀ V : World, (zeroValue 31).run Try.prog V = .ok (.agg Z) V := fun V => by rw [← hZ]; exact zero_D V
  have ZS : Hid (Z.size = 4) := Lib.hid (by rw [← hZ]; rfl)
  obtain ⟨RA, hRA⟩ : ∃ R, (rrow A n c A2 m c2 f false).toArray = R := ⟨_, rfl⟩
  have RAN : Hid (RA.size = 4) := Lib.hid (by rw [← hRA]; rfl)
  have RAS : Hid ((Try.prog.info? 31).map (·.size) = some RA.size) := Lib.hid (by rw [RAN.out]; exact size_D)
  have RAO : Hid (RA.all (·.oneCell') = true) := Lib.hid (by rw [← hRA]; exact rrow_one _ _ _ _ _ _ _ _)
  obtain ⟨b1, hb1⟩ : ∃ x, w.heap.size = x := ⟨_, rfl⟩
  obtain ⟨W1, hW1⟩ : ∃ V, w.alloc (.cells RA 31) = V := ⟨_, rfl⟩
  obtain ⟨b2, hb2⟩ : ∃ x, W1.heap.size = x := ⟨_, rfl⟩
  obtain ⟨W2, hW2⟩ : ∃ V, W1.alloc (.cells Z 31) = V := ⟨_, rfl⟩
  have k1 : Keeps (fun _ => False) w W1 := by rw [← hW1]; exact (Keeps.refl _ _).alloc _
  have k2 : Keeps (fun _ => False) W1 W2 := by rw [← hW2]; exact (Keeps.refl _ _).alloc _
  have r1 : W2.heap[b1]? = some (.cells RA 31 (0, 0)) := (k2.block b1 (by rw [← hW1, ← hb1]; simp) id).trans (by rw [← hW1, ← hb1]; exact heap_alloc_new w _)
  have r2 : W2.heap[b2]? = some (.cells Z 31 (0, 0)) := by rw [← hW2, ← hb2]; exact heap_alloc_new W1 _
  have hb12 : b1 < b2 := by rw [← hb1, ← hb2, ← hW1]; simp
  have hwb : w.heap.size ≤ b1 := by omega
  have kk := k1.trans k2
  clear k1 k2
  have hc0 : W2.cell? ⟨b1, 0, none⟩ = some (.slice A n c) := by rw [cell_of_row W2 b1 0 _ 31 (0, 0) r1, ← hRA]; rfl
  have hc3 : W2.cell? ⟨b1, 3, none⟩ = some (.bool false) := by rw [cell_of_row W2 b1 3 _ 31 (0, 0) r1, ← hRA]; rfl
  have hco := rcount_go A n c A2 m c2 f false hf hf2 W2
  obtain ⟨f', hf'⟩ : ∃ x, cf f = x := ⟨_, rfl⟩
  rw [hf'] at hco
  obtain ⟨RB, hRB⟩ : ∃ R, (rrow A n c A2 m c2 f' false).toArray = R := ⟨_, rfl⟩
  have RBN : Hid (RB.size = 4) := Lib.hid (by rw [← hRB]; rfl)
  have RBS : Hid ((Try.prog.info? 31).map (·.size) = some RB.size) := Lib.hid (by rw [RBN.out]; exact size_D)
  have RBO : Hid (RB.all (·.oneCell') = true) := Lib.hid (by rw [← hRB]; exact rrow_one _ _ _ _ _ _ _ _)
  rw [hRA, hRB] at hco
  obtain ⟨i0, hi0, hz0, hs0, hb0⟩ := info_parts info_l
  have HII := Lib.hid (And.intro hi0 (And.intro hz0 (And.intro hs0 hb0)))
  obtain ⟨sb, hsb⟩ : ∃ x, strOf b = x := ⟨_, rfl⟩
  have hsz : sb.size = 256 := by rw [← hsb]; exact hs
  have hbd := build_l q sb
  have hbs := build_ls q sb
  have HCO := Lib.hid hco
  have R1 := Lib.hid r1
  have R2 := Lib.hid r2
  have KK := Lib.hid kk
  have HSB := Lib.hid hsb
  have HL := Lib.hid hl
  have HF' := Lib.hid hf'
  rw [hRA, hsb]
  have h2 : ¬ (q : Int) < 0 := by omega
  have h3 : ¬ (q : Int) ≥ (n : Int) := by omega
  have h4 : ((sb.size : Int) != 256) = false := by rw [hsz]; rfl
  have HRB := Lib.hid hRB
  clear r1 r2 kk hZ hRA hRB hco hs hsz hsb hl hf' hi0 hz0 hs0 hb0 hf hf2
  go_enter Try.func14, Try.ntmps14
  go_wp2_with (first
    | (refine wpList_load_row (by rfl) 31 (.tmp 3) (by rfl) b1 (by rfl) 31 RA (0, 0) _ R1.out Try.underlying31 rfl RAS.out ?_))
  refine HCO.out.mono ?_
  rintro e wc ⟨rfl, kc⟩
  have rc1 : wc.heap[b1]? = some (.cells RA 31 (0, 0)) := (kc.block b1 (Array.getElem?_eq_some_iff.1 R1.out).1 id).trans R1.out
  have rc2 : wc.heap[b2]? = some (.cells Z 31 (0, 0)) := (kc.block b2 (Array.getElem?_eq_some_iff.1 R2.out).1 id).trans R2.out
  obtain ⟨W3, hW3⟩ : ∃ V, wc.setRow b1 RB = V := ⟨_, rfl⟩
  have k3 : Keeps (fun k => k = b1) wc W3 := by rw [← hW3]; exact Keeps.setRow _ _
  have r13 : Row W3 b1 31 (rrow A n c A2 m c2 f' false) := by show _ = some (Obj.cells (_ : List Value).toArray _ _); rw [HRB.out, ← hW3]; exact setRow_heap _ _ _ _ _ _ rc1
  have r23 : W3.heap[b2]? = some (.cells Z 31 (0, 0)) := (k3.block b2 (Array.getElem?_eq_some_iff.1 rc2).1 (fun e => by omega)).trans rc2
  have hc1 : W3.cell? ⟨b1, 1, none⟩ = some (.slice A2 m c2) := r13.cell 1
  have kw3 : Keeps (fun _ => False) w W3 := (KK.out.trans kc).trans' k3 (fun i hi e => by omega)
  have HL3 := Lib.hid (kw3.owns HL.out (fun _ _ => id))
  have RC1 := Lib.hid rc1
  have R13 := Lib.hid r13
  have R23 := Lib.hid r23
  have KW3 := Lib.hid kw3
  have ZRA : Hid (RA.size = RB.size) := Lib.hid (RAN.out.trans RBN.out.symm)
  clear rc1 rc2 k3 r13 r23 kc HCO R1 R2 KK kw3 HL
  go_wp2_with (first
    | (refine wpList_store_row (by rfl) 31 (.tmp 3) (.tmp 30) (by rfl) b1 RB (by rfl) (by rfl) 31 RA RC1.out RBS.out ZRA.out RBO.out ?_; rw [hW3])
    | (at_builtin; refine wpList_append_copy (by rfl) (.tmp 36) (.tmp 38) 29 (by rfl) W3.heap.size 67 i0 _ 2 24 Try.underlying29 HII.out.1 HII.out.2.1 HII.out.2.2.1 HII.out.2.2.2 (by rfl) (by decide) (by rfl) A2 m c2 (lcells ls) (by rfl) HL3.out.1 (own_src HL3.out) (own_none HL3.out) (lcells_one _) (by unfold maxLen; omega) (by omega) (Nat.le_refl _) ?_))
  intro v4 w4 ho4 hg4
  obtain ⟨A4, c4, rfl⟩ := own_slice ho4
  have k4 : Keeps (fun _ => False) W3 w4 := (Keeps.refl _ _).grown hg4 (fun k _ h => by cases h)
  have r14 := R13.out.keeps k4 id
  have r24 : w4.heap[b2]? = some (.cells Z 31 (0, 0)) := (k4.block b2 (Array.getElem?_eq_some_iff.1 R23.out).1 id).trans R23.out
  obtain ⟨W5, hW5⟩ : ∃ V, w4.alloc (.cells #[.int .i64 (q : Int), .string sb] 67) = V := ⟨_, rfl⟩
  have k5 : Keeps (fun _ => False) w4 W5 := by rw [← hW5]; exact (Keeps.refl _ _).alloc _
  have n5 : W5.heap[w4.heap.size]? = some (.cells [Value.int .i64 (q : Int), .string sb].toArray 67 (0, 0)) := by rw [← hW5]; exact heap_alloc_new w4 _
  have R15 := Lib.hid (r14.keeps k5 id)
  have R25 : Hid (W5.heap[b2]? = some (.cells Z 31 (0, 0))) := Lib.hid ((k5.block b2 (Array.getElem?_eq_some_iff.1 r24).1 id).trans r24)
  have HO5 := Lib.hid (k5.owns ho4 (fun _ _ => id))
  have N5 := Lib.hid n5
  have KW5 : Hid (Keeps (fun _ => False) w W5) := Lib.hid ((KW3.out.trans k4).trans k5)
  have hsz5 : W3.heap.size ≤ W5.heap.size := (k4.trans k5).size
  clear ho4 hg4 k4 r14 r24 k5 n5 R13 R23 HL3 RC1
  go_wp2_with (at_builtin; refine wpList_append_own _ (by rfl) (.tmp 40) (.tmp 44) 29 (by rfl) W3.heap.size 67 i0 _ 2 24 Try.underlying29 HII.out.1 HII.out.2.1 HII.out.2.2.1 HII.out.2.2.2 (by rfl) (by decide) (.slice A4 m c4) m (lcells ls) (by rfl) HO5.out ⟨w4.heap.size, 0, none⟩ 1 1 [.int .i64 (q : Int), .string sb] (by rfl) (by rfl) (World.news_of_block N5.out) (by intro u hu; simp only [List.mem_cons, List.not_mem_nil, or_false] at hu; rcases hu with rfl | rfl <;> rfl) (by unfold maxLen; omega) (by omega) hsz5 ?_)
  intro v6 w6 ho6 hg6 _
  obtain ⟨A6, c6, rfl⟩ := own_slice ho6
  have hap1 := own_apart HO5.out R15.out (by decide)
  have hap2 : ∀ k, (Value.slice A4 m c4).ownBlock = some k → k ≠ b2 := fun k hk e => by
    obtain ⟨cur, hc, _⟩ := own_block HO5.out k hk
    rw [e, R25.out] at hc
    simp at hc
  have k6 : Keeps (fun k => (Value.slice A4 m c4).ownBlock = some k) W5 w6 := (Keeps.refl _ _).grown hg6 (fun k _ h => h)
  have r16 := R15.out.keeps k6 (fun e => hap1 b1 e rfl)
  have r26 : w6.heap[b2]? = some (.cells Z 31 (0, 0)) := (k6.block b2 (Array.getElem?_eq_some_iff.1 R25.out).1 (fun e => hap2 b2 e rfl)).trans R25.out
  have hc6 : w6.cell? ⟨b1, 1, none⟩ = some (.slice A2 m c2) := r16.cell 1
  have hf6 := r16.frozen 1
  obtain ⟨W7, hW7⟩ : ∃ V, w6.setCell ⟨b1, 1, none⟩ (.slice A6 (m + 1) c6) = V := ⟨_, rfl⟩
  have k7 : Keeps (fun k => k = b1) w6 W7 := by rw [← hW7]; exact (Keeps.refl (fun k => k = b1) w6).setCell (p := ⟨b1, 1, none⟩) (fun _ => rfl) _
  obtain ⟨RD, hRD⟩ : ∃ R, (rrow A n c A6 (m + 1) c6 f' false).toArray = R := ⟨_, rfl⟩
  have RDN : Hid (RD.size = 4) := Lib.hid (by rw [← hRD]; rfl)
  have RDS : Hid ((Try.prog.info? 31).map (·.size) = some RD.size) := Lib.hid (by rw [RDN.out]; exact size_D)
  have RDO : Hid (RD.all (·.oneCell') = true) := Lib.hid (by rw [← hRD]; exact rrow_one _ _ _ _ _ _ _ _)
  have r17 : W7.heap[b1]? = some (.cells RD 31 (0, 0)) := by rw [← hRD, ← hW7]; exact r16.set 1 _
  have r27 : W7.heap[b2]? = some (.cells Z 31 (0, 0)) := (k7.block b2 (Array.getElem?_eq_some_iff.1 r26).1 (fun e => by omega)).trans r26
  obtain ⟨W8, hW8⟩ : ∃ V, W7.setRow b2 RD = V := ⟨_, rfl⟩
  have k8 : Keeps (fun k => k = b2) W7 W8 := by rw [← hW8]; exact Keeps.setRow _ _
  have R17 := Lib.hid r17
  have R27 := Lib.hid r27
  have R8 : Hid (W8.heap[b2]? = some (.cells RD 31 (0, 0))) := Lib.hid (by rw [← hW8]; exact setRow_heap _ _ _ _ _ _ r27)
  have hne : ∀ k, (Value.slice A6 (m + 1) c6).ownBlock = some k → k ≠ b1 ∧ k ≠ b2 := fun k hk => by
    obtain ⟨cur, hc, _⟩ := own_block ho6 k hk
    refine ⟨fun e => ?_, fun e => ?_⟩
    · have hr := r16
      unfold Row at hr
      rw [e, hr] at hc
      simp at hc
    · rw [e, r26] at hc
      simp at hc
  have HO8 : Hid (W8.ownsRow w.heap.size 67 2 (.slice A6 (m + 1) c6) (m + 1) (lcells (ls ++ [(q, b)]))) := Lib.hid (by
    have h := k8.owns (k7.owns ho6 (fun k hk e => (hne k hk).1 e)) (fun k hk e => (hne k hk).2 e)
    rw [← lcells_append, show lcells [(q, b)] = [Value.int .i64 (q : Int), .string (strOf b)] from rfl, HSB.out]
    exact own_base h KW3.out.size)
  have K8 : Hid (Keeps (fun _ => False) w W8) := Lib.hid (((KW5.out.trans' k6 (fun i hi e => by have := (HO5.out.lt i e).1; have := KW3.out.size; omega)).trans' k7 (fun i hi e => by omega)).trans' k8 (fun i hi e => by omega))
  have HEQ := Lib.hid hRD
  clear ho6 hg6 hap1 hap2 k6 r16 r26 k7 r17 r27 k8 hne hRD R15 R25 HO5 N5 KW5 KW3
  go_wp2_with (first
    | (refine wpList_load_row (by rfl) 31 (.tmp 3) (by rfl) b1 (by rfl) 31 RD (0, 0) _ R17.out Try.underlying31 rfl RDS.out ?_)
    | (refine wpList_store_row (by rfl) 31 (.tmp 6) (.tmp 47) (by rfl) b2 RD (by rfl) (by rfl) 31 Z R27.out RDS.out (ZS.out.trans RDN.out.symm) RDO.out ?_; rw [hW8]))
  refine bodyPost_ret (results_cell_tmp11 rfl _ _ b2 31 RD (0, 0) _ rfl R8.out Try.underlying31 rfl RDS.out) rfl ?_
  exact ⟨A6, c6, by rw [HF'.out, HEQ.out]; rfl, HO8.out, K8.out⟩
end Go.Proofs.Ytonokeldlknadaa
