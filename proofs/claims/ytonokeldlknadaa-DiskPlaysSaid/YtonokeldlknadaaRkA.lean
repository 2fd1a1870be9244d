/-
  The document's own disk: its value; what counts a call; when it fails. WRITTEN BY wip/gen/mkrka.py.
-/
import Derived.Test.YtonokeldlknadaaDkI
namespace Go.Proofs.Ytonokeldlknadaa
open Go.RowKit Go.BigFrame
set_option linter.unusedVariables false

theorem results_cell_tmp11 {P : Program} {fn : Func} {p u : Tmp} {ty : TypeId} (h : fn.results = #[.cell p ty, .tmp u]) (tmps : Array Value) (w : World) (g : Nat) (t : TypeId) (cs : Array Value) (fr : Nat × Nat) (d : TypeDesc)
    (hp : tmps.getD p undef = .pointer (some ⟨g, 0, none⟩)) (hg : w.heap[g]? = some (.cells cs t fr))
    (hu : P.underlying ty = some d) (hd : (match d with | .struct _ | .array _ _ => true | _ => false) = true) (hi : (P.info? ty).map (·.size) = some cs.size) :
    (results fn tmps).run P w = .ok (.tuple #[.agg cs, tmps.getD u undef]) w := by
  have hp' : tmps[p]?.getD undef = .pointer (some ⟨g, 0, none⟩) := by simpa using hp
  simp [results, h, hp', asAddr, run_loadVar_row w g t ty cs fr d hg hu hd hi]
/-- The cells of the document's disk. -/
def rrow (A : Option Addr) (n c : Nat) (A2 : Option Addr) (m c2 : Nat) (f : Int) (d : Bool) : List Value := [.slice A n c, .slice A2 m c2, .int .i64 f, .bool d]
theorem rrow_one (A : Option Addr) (n c : Nat) (A2 : Option Addr) (m c2 : Nat) (f : Int) (d : Bool) : (rrow A n c A2 m c2 f d).toArray.all (·.oneCell') = true := by
  rw [Array.all_eq_true_iff_forall_mem]
  intro v hv
  simp only [rrow, List.mem_toArray, List.mem_cons, List.not_mem_nil, or_false] at hv
  rcases hv with rfl | rfl | rfl | rfl <;> rfl
theorem size_D : (Try.prog.info? 31).map (·.size) = some 4 := by kernel_rfl
theorem zero_D (w : World) : (zeroValue 31).run Try.prog w = .ok (.agg #[.slice none 0 0, .slice none 0 0, .int .i64 0, .bool false]) w := by kernel_rfl
set_option maxRecDepth 100000 in
set_option maxHeartbeats 1000000 in
theorem rcount_zero (A : Option Addr) (n c : Nat) (A2 : Option Addr) (m c2 : Nat) (d : Bool) (w : World) :
    Calls Try.prog 28 #[.agg (rrow A n c A2 m c2 0 d).toArray] w fun e w' => e = .returned (.tuple #[.agg (rrow A n c A2 m c2 0 true).toArray, .int .i64 30]) ∧ Keeps (fun _ => False) w w' := by
  obtain ⟨Z, hZ⟩ : ∃ Z : Array Value, (#[.slice none 0 0, .slice none 0 0, .int .i64 0, .bool false] : Array Value) = Z := ⟨_, rfl⟩
  have hz : ∀ V : World, (zeroValue 31).run Try.prog V = .ok (.agg Z) V := fun V => by rw [← hZ]; exact zero_D V
  have ZS : Hid (Z.size = 4) := Lib.hid (by rw [← hZ]; rfl)
  obtain ⟨RA, hRA⟩ : ∃ R, (rrow A n c A2 m c2 0 d).toArray = R := ⟨_, rfl⟩
  have RAN : Hid (RA.size = 4) := Lib.hid (by rw [← hRA]; rfl)
  have RAS : Hid ((Try.prog.info? 31).map (·.size) = some RA.size) := Lib.hid (by rw [RAN.out]; exact size_D)
  have RAO : Hid (RA.all (·.oneCell') = true) := Lib.hid (by rw [← hRA]; exact rrow_one _ _ _ _ _ _ _ _)
  obtain ⟨b1, hb1⟩ : ∃ x, w.heap.size = x := ⟨_, rfl⟩
  obtain ⟨W1, hW1⟩ : ∃ V, w.alloc (.cells RA 31) = V := ⟨_, rfl⟩
  obtain ⟨b2, hb2⟩ : ∃ x, W1.heap.size = x := ⟨_, rfl⟩
  obtain ⟨W2, hW2⟩ : ∃ V, W1.alloc (.cells Z 31) = V := ⟨_, rfl⟩
  have k1 : Keeps (fun _ => False) w W1 := by rw [← hW1]; exact (Keeps.refl _ _).alloc _
  have k2 : Keeps (fun _ => False) W1 W2 := by rw [← hW2]; exact (Keeps.refl _ _).alloc _
  have r1 : W2.heap[b1]? = some (.cells RA 31 (0, 0)) := (k2.block b1 (by rw [← hW1, ← hb1]; simp) id).trans (by rw [← hW1, ← hb1]; exact heap_alloc_new w _)
  have r2 : W2.heap[b2]? = some (.cells Z 31 (0, 0)) := by rw [← hW2, ← hb2]; exact heap_alloc_new W1 _
  have hb12 : b1 < b2 := by rw [← hb1, ← hb2, ← hW1]; simp
  have hwb : w.heap.size ≤ b1 := by omega
  have kk := k1.trans k2
  clear k1 k2
  obtain ⟨RB, hRB⟩ : ∃ R, (rrow A n c A2 m c2 0 true).toArray = R := ⟨_, rfl⟩
  have RBN : Hid (RB.size = 4) := Lib.hid (by rw [← hRB]; rfl)
  have RBS : Hid ((Try.prog.info? 31).map (·.size) = some RB.size) := Lib.hid (by rw [RBN.out]; exact size_D)
  have RBO : Hid (RB.all (·.oneCell') = true) := Lib.hid (by rw [← hRB]; exact rrow_one _ _ _ _ _ _ _ _)
  have hc2 : W2.cell? ⟨b1, 2, none⟩ = some (.int .i64 0) := by rw [cell_of_row W2 b1 2 _ 31 (0, 0) r1, ← hRA]; rfl
  have hc3 : W2.cell? ⟨b1, 3, none⟩ = some (.bool d) := by rw [cell_of_row W2 b1 3 _ 31 (0, 0) r1, ← hRA]; rfl
  have f2 : W2.frozen? ⟨b1, 2, none⟩ = false := by simp [World.frozen?, r1]
  have f3 : W2.frozen? ⟨b1, 3, none⟩ = false := by simp [World.frozen?, r1]
  obtain ⟨W3, hW3⟩ : ∃ V, W2.setCell ⟨b1, 3, none⟩ (.bool true) = V := ⟨_, rfl⟩
  have k3 : Keeps (fun k => k = b1) W2 W3 := by rw [← hW3]; exact (Keeps.refl (fun k => k = b1) W2).setCell (p := ⟨b1, 3, none⟩) (fun _ => rfl) _
  have r13 : W3.heap[b1]? = some (.cells RB 31 (0, 0)) := by
    have h : Row W2 b1 31 (rrow A n c A2 m c2 0 d) := by show _ = some (Obj.cells (_ : List Value).toArray _ _); rw [hRA]; exact r1
    have h2 := h.set 3 (.bool true)
    rw [hW3] at h2
    rw [← hRB]
    exact h2
  have r23 : W3.heap[b2]? = some (.cells Z 31 (0, 0)) := (k3.block b2 (Array.getElem?_eq_some_iff.1 r2).1 (fun e => by omega)).trans r2
  obtain ⟨W4, hW4⟩ : ∃ V, W3.setRow b2 RB = V := ⟨_, rfl⟩
  have R1 := Lib.hid r13
  have R2 := Lib.hid r23
  have R4 : Hid (W4.heap[b2]? = some (.cells RB 31 (0, 0))) := Lib.hid (by rw [← hW4]; exact setRow_heap _ _ _ _ _ _ r23)
  have K4 : Hid (Keeps (fun _ => False) w W4) := Lib.hid ((kk.trans' k3 (fun i hi e => by omega)).trans' (T := fun k => k = b2) (by rw [← hW4]; exact Keeps.setRow _ _) (fun i hi e => by omega))
  have HEQ := Lib.hid hRB
  rw [hRA]
  clear r1 r2 kk hZ hRA hRB r13 r23 k3
  go_enter Try.func28, Try.ntmps28
  go_wp2_with (first
    | (refine wpList_load_row (by rfl) 31 (.tmp 1) (by rfl) b1 (by rfl) 31 RB (0, 0) _ R1.out Try.underlying31 rfl RBS.out ?_)
    | (refine wpList_store_row (by rfl) 31 (.tmp 2) (.tmp 8) (by rfl) b2 RB (by rfl) (by rfl) 31 Z R2.out RBS.out (ZS.out.trans RBN.out.symm) RBO.out ?_; rw [hW4]))
  refine bodyPost_ret (results_cell_tmp11 rfl _ _ b2 31 RB (0, 0) _ rfl R4.out Try.underlying31 rfl RBS.out) rfl ?_
  exact ⟨by first | (rw [HEQ.out]; rfl) | rfl, K4.out⟩
set_option maxRecDepth 100000 in
set_option maxHeartbeats 1000000 in
theorem rcount_pos (A : Option Addr) (n c : Nat) (A2 : Option Addr) (m c2 : Nat) (f : Int) (d : Bool) (hf : 0 < f) (hf2 : f ≤ 9223372036854775807) (w : World) :
    Calls Try.prog 28 #[.agg (rrow A n c A2 m c2 f d).toArray] w fun e w' => e = .returned (.tuple #[.agg (rrow A n c A2 m c2 (f - 1) d).toArray, .int .i64 0]) ∧ Keeps (fun _ => False) w w' := by
  obtain ⟨Z, hZ⟩ : ∃ Z : Array Value, (#[.slice none 0 0, .slice none 0 0, .int .i64 0, .bool false] : Array Value) = Z := ⟨_, rfl⟩
  have hz : ∀ V : World, (zeroValue 31).run Try.prog V = .ok (.agg Z) V := fun V => by rw [← hZ]; exact zero_D V
  have ZS : Hid (Z.size = 4) := Lib.hid (by rw [← hZ]; rfl)
  obtain ⟨RA, hRA⟩ : ∃ R, (rrow A n c A2 m c2 f d).toArray = R := ⟨_, rfl⟩
  have RAN : Hid (RA.size = 4) := Lib.hid (by rw [← hRA]; rfl)
  have RAS : Hid ((Try.prog.info? 31).map (·.size) = some RA.size) := Lib.hid (by rw [RAN.out]; exact size_D)
  have RAO : Hid (RA.all (·.oneCell') = true) := Lib.hid (by rw [← hRA]; exact rrow_one _ _ _ _ _ _ _ _)
  obtain ⟨b1, hb1⟩ : ∃ x, w.heap.size = x := ⟨_, rfl⟩
  obtain ⟨W1, hW1⟩ : ∃ V, w.alloc (.cells RA 31) = V := ⟨_, rfl⟩
  obtain ⟨b2, hb2⟩ : ∃ x, W1.heap.size = x := ⟨_, rfl⟩
  obtain ⟨W2, hW2⟩ : ∃ V, W1.alloc (.cells Z 31) = V := ⟨_, rfl⟩
  have k1 : Keeps (fun _ => False) w W1 := by rw [← hW1]; exact (Keeps.refl _ _).alloc _
  have k2 : Keeps (fun _ => False) W1 W2 := by rw [← hW2]; exact (Keeps.refl _ _).alloc _
  have r1 : W2.heap[b1]? = some (.cells RA 31 (0, 0)) := (k2.block b1 (by rw [← hW1, ← hb1]; simp) id).trans (by rw [← hW1, ← hb1]; exact heap_alloc_new w _)
  have r2 : W2.heap[b2]? = some (.cells Z 31 (0, 0)) := by rw [← hW2, ← hb2]; exact heap_alloc_new W1 _
  have hb12 : b1 < b2 := by rw [← hb1, ← hb2, ← hW1]; simp
  have hwb : w.heap.size ≤ b1 := by omega
  have kk := k1.trans k2
  clear k1 k2
  obtain ⟨RB, hRB⟩ : ∃ R, (rrow A n c A2 m c2 (f - 1) d).toArray = R := ⟨_, rfl⟩
  have RBN : Hid (RB.size = 4) := Lib.hid (by rw [← hRB]; rfl)
  have RBS : Hid ((Try.prog.info? 31).map (·.size) = some RB.size) := Lib.hid (by rw [RBN.out]; exact size_D)
  have RBO : Hid (RB.all (·.oneCell') = true) := Lib.hid (by rw [← hRB]; exact rrow_one _ _ _ _ _ _ _ _)
  have hc2 : W2.cell? ⟨b1, 2, none⟩ = some (.int .i64 f) := by rw [cell_of_row W2 b1 2 _ 31 (0, 0) r1, ← hRA]; rfl
  have hc3 : W2.cell? ⟨b1, 3, none⟩ = some (.bool d) := by rw [cell_of_row W2 b1 3 _ 31 (0, 0) r1, ← hRA]; rfl
  have f2 : W2.frozen? ⟨b1, 2, none⟩ = false := by simp [World.frozen?, r1]
  have f3 : W2.frozen? ⟨b1, 3, none⟩ = false := by simp [World.frozen?, r1]
  obtain ⟨W3, hW3⟩ : ∃ V, W2.setCell ⟨b1, 2, none⟩ (.int .i64 (f - 1)) = V := ⟨_, rfl⟩
  have k3 : Keeps (fun k => k = b1) W2 W3 := by rw [← hW3]; exact (Keeps.refl (fun k => k = b1) W2).setCell (p := ⟨b1, 2, none⟩) (fun _ => rfl) _
  have r13 : W3.heap[b1]? = some (.cells RB 31 (0, 0)) := by
    have h : Row W2 b1 31 (rrow A n c A2 m c2 f d) := by show _ = some (Obj.cells (_ : List Value).toArray _ _); rw [hRA]; exact r1
    have h2 := h.set 2 (.int .i64 (f - 1))
    rw [hW3] at h2
    rw [← hRB]
    exact h2
  have r23 : W3.heap[b2]? = some (.cells Z 31 (0, 0)) := (k3.block b2 (Array.getElem?_eq_some_iff.1 r2).1 (fun e => by omega)).trans r2
  obtain ⟨W4, hW4⟩ : ∃ V, W3.setRow b2 RB = V := ⟨_, rfl⟩
  have R1 := Lib.hid r13
  have R2 := Lib.hid r23
  have R4 : Hid (W4.heap[b2]? = some (.cells RB 31 (0, 0))) := Lib.hid (by rw [← hW4]; exact setRow_heap _ _ _ _ _ _ r23)
  have K4 : Hid (Keeps (fun _ => False) w W4) := Lib.hid ((kk.trans' k3 (fun i hi e => by omega)).trans' (T := fun k => k = b2) (by rw [← hW4]; exact Keeps.setRow _ _) (fun i hi e => by omega))
  have hne : ((f : Int) == 0) = false := by rw [beq_eq_false_iff_ne]; omega
  have hgt : f > 0 := hf
  have hwr : IntKind.i64.wrap (f - 1) = f - 1 := IntWalk.i64_in _ (by omega)
  have hwr' : wrap64 (f - 1) = f - 1 := IntWalk.wrap64_in _ (by omega)
  have HEQ := Lib.hid hRB
  rw [hRA]
  clear r1 r2 kk hZ hRA hRB r13 r23 k3
  go_enter Try.func28, Try.ntmps28
  go_wp2_with (first
    | (refine wpList_load_row (by rfl) 31 (.tmp 1) (by rfl) b1 (by rfl) 31 RB (0, 0) _ R1.out Try.underlying31 rfl RBS.out ?_)
    | (refine wpList_store_row (by rfl) 31 (.tmp 2) (.tmp 16) (by rfl) b2 RB (by rfl) (by rfl) 31 Z R2.out RBS.out (ZS.out.trans RBN.out.symm) RBO.out ?_; rw [hW4]))
  refine bodyPost_ret (results_cell_tmp11 rfl _ _ b2 31 RB (0, 0) _ rfl R4.out Try.underlying31 rfl RBS.out) rfl ?_
  exact ⟨by first | (rw [HEQ.out]; rfl) | rfl, K4.out⟩
set_option maxRecDepth 100000 in
set_option maxHeartbeats 1000000 in
theorem rcount_neg (A : Option Addr) (n c : Nat) (A2 : Option Addr) (m c2 : Nat) (f : Int) (d : Bool) (hf : f < 0) (w : World) :
    Calls Try.prog 28 #[.agg (rrow A n c A2 m c2 f d).toArray] w fun e w' => e = .returned (.tuple #[.agg (rrow A n c A2 m c2 f d).toArray, .int .i64 0]) ∧ Keeps (fun _ => False) w w' := by
  obtain ⟨Z, hZ⟩ : ∃ Z : Array Value, (#[.slice none 0 0, .slice none 0 0, .int .i64 0, .bool false] : Array Value) = Z := ⟨_, rfl⟩
  have hz : ∀ V : World, (zeroValue 31).run Try.prog V = .ok (.agg Z) V := fun V => by rw [← hZ]; exact zero_D V
  have ZS : Hid (Z.size = 4) := Lib.hid (by rw [← hZ]; rfl)
  obtain ⟨RA, hRA⟩ : ∃ R, (rrow A n c A2 m c2 f d).toArray = R := ⟨_, rfl⟩
  have RAN : Hid (RA.size = 4) := Lib.hid (by rw [← hRA]; rfl)
  have RAS : Hid ((Try.prog.info? 31).map (·.size) = some RA.size) := Lib.hid (by rw [RAN.out]; exact size_D)
  have RAO : Hid (RA.all (·.oneCell') = true) := Lib.hid (by rw [← hRA]; exact rrow_one _ _ _ _ _ _ _ _)
  obtain ⟨b1, hb1⟩ : ∃ x, w.heap.size = x := ⟨_, rfl⟩
  obtain ⟨W1, hW1⟩ : ∃ V, w.alloc (.cells RA 31) = V := ⟨_, rfl⟩
  obtain ⟨b2, hb2⟩ : ∃ x, W1.heap.size = x := ⟨_, rfl⟩
  obtain ⟨W2, hW2⟩ : ∃ V, W1.alloc (.cells Z 31) = V := ⟨_, rfl⟩
  have k1 : Keeps (fun _ => False) w W1 := by rw [← hW1]; exact (Keeps.refl _ _).alloc _
  have k2 : Keeps (fun _ => False) W1 W2 := by rw [← hW2]; exact (Keeps.refl _ _).alloc _
  have r1 : W2.heap[b1]? = some (.cells RA 31 (0, 0)) := (k2.block b1 (by rw [← hW1, ← hb1]; simp) id).trans (by rw [← hW1, ← hb1]; exact heap_alloc_new w _)
  have r2 : W2.heap[b2]? = some (.cells Z 31 (0, 0)) := by rw [← hW2, ← hb2]; exact heap_alloc_new W1 _
  have hb12 : b1 < b2 := by rw [← hb1, ← hb2, ← hW1]; simp
  have hwb : w.heap.size ≤ b1 := by omega
  have kk := k1.trans k2
  clear k1 k2
  have R1 := Lib.hid r1
  have R2 := Lib.hid r2
  have hc2 : W2.cell? ⟨b1, 2, none⟩ = some (.int .i64 f) := by rw [cell_of_row W2 b1 2 _ 31 (0, 0) r1, ← hRA]; rfl
  obtain ⟨W4, hW4⟩ : ∃ V, W2.setRow b2 RA = V := ⟨_, rfl⟩
  have R4 : Hid (W4.heap[b2]? = some (.cells RA 31 (0, 0))) := Lib.hid (by rw [← hW4]; exact setRow_heap _ _ _ _ _ _ r2)
  have K4 : Hid (Keeps (fun _ => False) w W4) := Lib.hid (kk.trans' (T := fun k => k = b2) (by rw [← hW4]; exact Keeps.setRow _ _) (fun i hi e => by omega))
  have hne : ((f : Int) == 0) = false := by rw [beq_eq_false_iff_ne]; omega
  have hgt : ¬ f > 0 := by omega
  have HEQ := Lib.hid hRA
  rw [hRA]
  clear r1 r2 kk hZ hRA
  go_enter Try.func28, Try.ntmps28
  go_wp2_with (first
    | (refine wpList_load_row (by rfl) 31 (.tmp 1) (by rfl) b1 (by rfl) 31 RA (0, 0) _ R1.out Try.underlying31 rfl RAS.out ?_)
    | (refine wpList_store_row (by rfl) 31 (.tmp 2) (.tmp 16) (by rfl) b2 RA (by rfl) (by rfl) 31 Z R2.out RAS.out (ZS.out.trans RAN.out.symm) RAO.out ?_; rw [hW4]))
  refine bodyPost_ret (results_cell_tmp11 rfl _ _ b2 31 RA (0, 0) _ rfl R4.out Try.underlying31 rfl RAS.out) rfl ?_
  exact ⟨by first | (rw [HEQ.out]; rfl) | rfl, K4.out⟩
set_option maxRecDepth 100000 in
set_option maxHeartbeats 1000000 in
theorem rfail_pos (A : Option Addr) (n c : Nat) (A2 : Option Addr) (m c2 : Nat) (f : Int) (d : Bool) (a : Int) (ha : 0 ≤ a) (w : World) :
    Calls Try.prog 18 #[.agg (rrow A n c A2 m c2 f d).toArray, .int .i64 a] w fun e w' => e = .returned (.agg (rrow A n c A2 m c2 a d).toArray) ∧ Keeps (fun _ => False) w w' := by
  obtain ⟨Z, hZ⟩ : ∃ Z : Array Value, (#[.slice none 0 0, .slice none 0 0, .int .i64 0, .bool false] : Array Value) = Z := ⟨_, rfl⟩
  have hz : ∀ V : World, (zeroValue 31).run Try.prog V = .ok (.agg Z) V := fun V => by rw [← hZ]; exact zero_D V
  have ZS : Hid (Z.size = 4) := Lib.hid (by rw [← hZ]; rfl)
  obtain ⟨RA, hRA⟩ : ∃ R, (rrow A n c A2 m c2 f d).toArray = R := ⟨_, rfl⟩
  have RAN : Hid (RA.size = 4) := Lib.hid (by rw [← hRA]; rfl)
  have RAS : Hid ((Try.prog.info? 31).map (·.size) = some RA.size) := Lib.hid (by rw [RAN.out]; exact size_D)
  have RAO : Hid (RA.all (·.oneCell') = true) := Lib.hid (by rw [← hRA]; exact rrow_one _ _ _ _ _ _ _ _)
  obtain ⟨b1, hb1⟩ : ∃ x, w.heap.size = x := ⟨_, rfl⟩
  obtain ⟨W1, hW1⟩ : ∃ V, w.alloc (.cells RA 31) = V := ⟨_, rfl⟩
  obtain ⟨b2, hb2⟩ : ∃ x, W1.heap.size = x := ⟨_, rfl⟩
  obtain ⟨W2, hW2⟩ : ∃ V, W1.alloc (.cells Z 31) = V := ⟨_, rfl⟩
  have k1 : Keeps (fun _ => False) w W1 := by rw [← hW1]; exact (Keeps.refl _ _).alloc _
  have k2 : Keeps (fun _ => False) W1 W2 := by rw [← hW2]; exact (Keeps.refl _ _).alloc _
  have r1 : W2.heap[b1]? = some (.cells RA 31 (0, 0)) := (k2.block b1 (by rw [← hW1, ← hb1]; simp) id).trans (by rw [← hW1, ← hb1]; exact heap_alloc_new w _)
  have r2 : W2.heap[b2]? = some (.cells Z 31 (0, 0)) := by rw [← hW2, ← hb2]; exact heap_alloc_new W1 _
  have hb12 : b1 < b2 := by rw [← hb1, ← hb2, ← hW1]; simp
  have hwb : w.heap.size ≤ b1 := by omega
  have kk := k1.trans k2
  clear k1 k2
  obtain ⟨RB, hRB⟩ : ∃ R, (rrow A n c A2 m c2 a d).toArray = R := ⟨_, rfl⟩
  have RBN : Hid (RB.size = 4) := Lib.hid (by rw [← hRB]; rfl)
  have RBS : Hid ((Try.prog.info? 31).map (·.size) = some RB.size) := Lib.hid (by rw [RBN.out]; exact size_D)
  have RBO : Hid (RB.all (·.oneCell') = true) := Lib.hid (by rw [← hRB]; exact rrow_one _ _ _ _ _ _ _ _)
  have hc2 : W2.cell? ⟨b1, 2, none⟩ = some (.int .i64 f) := by rw [cell_of_row W2 b1 2 _ 31 (0, 0) r1, ← hRA]; rfl
  have f2 : W2.frozen? ⟨b1, 2, none⟩ = false := by simp [World.frozen?, r1]
  obtain ⟨W3, hW3⟩ : ∃ V, W2.setCell ⟨b1, 2, none⟩ (.int .i64 a) = V := ⟨_, rfl⟩
  have k3 : Keeps (fun k => k = b1) W2 W3 := by rw [← hW3]; exact (Keeps.refl (fun k => k = b1) W2).setCell (p := ⟨b1, 2, none⟩) (fun _ => rfl) _
  have h2 : Row W3 b1 31 (rrow A n c A2 m c2 a d) := by
    have h : Row W2 b1 31 (rrow A n c A2 m c2 f d) := by show _ = some (Obj.cells (_ : List Value).toArray _ _); rw [hRA]; exact r1
    have h2 := h.set 2 (.int .i64 a)
    rw [hW3] at h2
    exact h2
  have r13 : W3.heap[b1]? = some (.cells RB 31 (0, 0)) := by rw [← hRB]; exact h2
  have r23 : W3.heap[b2]? = some (.cells Z 31 (0, 0)) := ((k3.block b2 (Array.getElem?_eq_some_iff.1 r2).1 (fun e => by omega)).trans r2)
  obtain ⟨W4, hW4⟩ : ∃ V, W3.setRow b2 RB = V := ⟨_, rfl⟩
  have R1 := Lib.hid r13
  have R2 := Lib.hid r23
  have R4 : Hid (W4.heap[b2]? = some (.cells RB 31 (0, 0))) := Lib.hid (by rw [← hW4]; exact setRow_heap _ _ _ _ _ _ r23)
  have K4 : Hid (Keeps (fun _ => False) w W4) := Lib.hid ((kk.trans' k3 (fun i hi e => by omega)).trans' (T := fun k => k = b2) (by rw [← hW4]; exact Keeps.setRow _ _) (fun i hi e => by omega))
  have HEQ := Lib.hid hRB
  have hlt : ¬ a < 0 := by omega
  rw [hRA]
  clear r1 r2 kk hZ hRA hRB r13 r23 k3 h2
  go_enter Try.func18, Try.ntmps18
  go_wp2_with (first
    | (refine wpList_load_row (by rfl) 31 (.tmp 2) (by rfl) b1 (by rfl) 31 RB (0, 0) _ R1.out Try.underlying31 rfl RBS.out ?_)
    | (refine wpList_store_row (by rfl) 31 (.tmp 4) (.tmp 10) (by rfl) b2 RB (by rfl) (by rfl) 31 Z R2.out RBS.out (ZS.out.trans RBN.out.symm) RBO.out ?_; rw [hW4]))
  refine bodyPost_ret (results_cell_row rfl _ _ b2 31 RB (0, 0) _ rfl R4.out Try.underlying31 rfl RBS.out) rfl ?_
  exact ⟨by first | (rw [HEQ.out]) | rfl, K4.out⟩
set_option maxRecDepth 100000 in
set_option maxHeartbeats 1000000 in
theorem rfail_neg (A : Option Addr) (n c : Nat) (A2 : Option Addr) (m c2 : Nat) (f : Int) (d : Bool) (a : Int) (ha : a < 0) (w : World) :
    Calls Try.prog 18 #[.agg (rrow A n c A2 m c2 f d).toArray, .int .i64 a] w fun e w' => e = .returned (.agg (rrow A n c A2 m c2 (-1) d).toArray) ∧ Keeps (fun _ => False) w w' := by
  obtain ⟨Z, hZ⟩ : ∃ Z : Array Value, (#[.slice none 0 0, .slice none 0 0, .int .i64 0, .bool false] : Array Value) = Z := ⟨_, rfl⟩
  have hz : ∀ V : World, (zeroValue 31).run Try.prog V = .ok (.agg Z) V := fun V => by rw [← hZ]; exact zero_D V
  have ZS : Hid (Z.size = 4) := Lib.hid (by rw [← hZ]; rfl)
  obtain ⟨RA, hRA⟩ : ∃ R, (rrow A n c A2 m c2 f d).toArray = R := ⟨_, rfl⟩
  have RAN : Hid (RA.size = 4) := Lib.hid (by rw [← hRA]; rfl)
  have RAS : Hid ((Try.prog.info? 31).map (·.size) = some RA.size) := Lib.hid (by rw [RAN.out]; exact size_D)
  have RAO : Hid (RA.all (·.oneCell') = true) := Lib.hid (by rw [← hRA]; exact rrow_one _ _ _ _ _ _ _ _)
  obtain ⟨b1, hb1⟩ : ∃ x, w.heap.size = x := ⟨_, rfl⟩
  obtain ⟨W1, hW1⟩ : ∃ V, w.alloc (.cells RA 31) = V := ⟨_, rfl⟩
  obtain ⟨b2, hb2⟩ : ∃ x, W1.heap.size = x := ⟨_, rfl⟩
  obtain ⟨W2, hW2⟩ : ∃ V, W1.alloc (.cells Z 31) = V := ⟨_, rfl⟩
  have k1 : Keeps (fun _ => False) w W1 := by rw [← hW1]; exact (Keeps.refl _ _).alloc _
  have k2 : Keeps (fun _ => False) W1 W2 := by rw [← hW2]; exact (Keeps.refl _ _).alloc _
  have r1 : W2.heap[b1]? = some (.cells RA 31 (0, 0)) := (k2.block b1 (by rw [← hW1, ← hb1]; simp) id).trans (by rw [← hW1, ← hb1]; exact heap_alloc_new w _)
  have r2 : W2.heap[b2]? = some (.cells Z 31 (0, 0)) := by rw [← hW2, ← hb2]; exact heap_alloc_new W1 _
  have hb12 : b1 < b2 := by rw [← hb1, ← hb2, ← hW1]; simp
  have hwb : w.heap.size ≤ b1 := by omega
  have kk := k1.trans k2
  clear k1 k2
  obtain ⟨RB, hRB⟩ : ∃ R, (rrow A n c A2 m c2 (-1) d).toArray = R := ⟨_, rfl⟩
  have RBN : Hid (RB.size = 4) := Lib.hid (by rw [← hRB]; rfl)
  have RBS : Hid ((Try.prog.info? 31).map (·.size) = some RB.size) := Lib.hid (by rw [RBN.out]; exact size_D)
  have RBO : Hid (RB.all (·.oneCell') = true) := Lib.hid (by rw [← hRB]; exact rrow_one _ _ _ _ _ _ _ _)
  have hc2 : W2.cell? ⟨b1, 2, none⟩ = some (.int .i64 f) := by rw [cell_of_row W2 b1 2 _ 31 (0, 0) r1, ← hRA]; rfl
  have f2 : W2.frozen? ⟨b1, 2, none⟩ = false := by simp [World.frozen?, r1]
  obtain ⟨W3, hW3⟩ : ∃ V, W2.setCell ⟨b1, 2, none⟩ (.int .i64 a) = V := ⟨_, rfl⟩
  have k3 : Keeps (fun k => k = b1) W2 W3 := by rw [← hW3]; exact (Keeps.refl (fun k => k = b1) W2).setCell (p := ⟨b1, 2, none⟩) (fun _ => rfl) _
  have h2 : Row W3 b1 31 (rrow A n c A2 m c2 a d) := by
    have h : Row W2 b1 31 (rrow A n c A2 m c2 f d) := by show _ = some (Obj.cells (_ : List Value).toArray _ _); rw [hRA]; exact r1
    have h2 := h.set 2 (.int .i64 a)
    rw [hW3] at h2
    exact h2
  obtain ⟨W3b, hW3b⟩ : ∃ V, W3.setCell ⟨b1, 2, none⟩ (.int .i64 (-1)) = V := ⟨_, rfl⟩
  have k3b : Keeps (fun k => k = b1) W3 W3b := by rw [← hW3b]; exact (Keeps.refl (fun k => k = b1) W3).setCell (p := ⟨b1, 2, none⟩) (fun _ => rfl) _
  have hc3 : W3.cell? ⟨b1, 2, none⟩ = some (.int .i64 a) := h2.cell 2
  have f3 : W3.frozen? ⟨b1, 2, none⟩ = false := h2.frozen 2
  have h3 : Row W3b b1 31 (rrow A n c A2 m c2 (-1) d) := by
    have h := h2.set 2 (.int .i64 (-1))
    rw [hW3b] at h
    exact h
  have r13 : W3b.heap[b1]? = some (.cells RB 31 (0, 0)) := by rw [← hRB]; exact h3
  have r23 : W3b.heap[b2]? = some (.cells Z 31 (0, 0)) := (k3b.block b2 (Nat.lt_of_lt_of_le (Array.getElem?_eq_some_iff.1 r2).1 k3.size) (fun e => by omega)).trans ((k3.block b2 (Array.getElem?_eq_some_iff.1 r2).1 (fun e => by omega)).trans r2)
  obtain ⟨W4, hW4⟩ : ∃ V, W3b.setRow b2 RB = V := ⟨_, rfl⟩
  have R1 := Lib.hid r13
  have R2 := Lib.hid r23
  have R4 : Hid (W4.heap[b2]? = some (.cells RB 31 (0, 0))) := Lib.hid (by rw [← hW4]; exact setRow_heap _ _ _ _ _ _ r23)
  have K4 : Hid (Keeps (fun _ => False) w W4) := Lib.hid (((kk.trans' k3 (fun i hi e => by omega)).trans' k3b (fun i hi e => by omega)).trans' (T := fun k => k = b2) (by rw [← hW4]; exact Keeps.setRow _ _) (fun i hi e => by omega))
  have HEQ := Lib.hid hRB
  have hlt : a < 0 := by omega
  rw [hRA]
  clear r1 r2 kk hZ hRA hRB r13 r23 k3 h2 h3 k3b
  go_enter Try.func18, Try.ntmps18
  go_wp2_with (first
    | (refine wpList_load_row (by rfl) 31 (.tmp 2) (by rfl) b1 (by rfl) 31 RB (0, 0) _ R1.out Try.underlying31 rfl RBS.out ?_)
    | (refine wpList_store_row (by rfl) 31 (.tmp 4) (.tmp 10) (by rfl) b2 RB (by rfl) (by rfl) 31 Z R2.out RBS.out (ZS.out.trans RBN.out.symm) RBO.out ?_; rw [hW4]))
  refine bodyPost_ret (results_cell_row rfl _ _ b2 31 RB (0, 0) _ rfl R4.out Try.underlying31 rfl RBS.out) rfl ?_
  exact ⟨by first | (rw [HEQ.out]) | rfl, K4.out⟩
end Go.Proofs.Ytonokeldlknadaa
