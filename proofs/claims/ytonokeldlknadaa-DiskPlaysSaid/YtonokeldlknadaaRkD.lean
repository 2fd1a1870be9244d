/-
  The document's own disk: Sync. WRITTEN BY wip/gen/mkrkd.py.
-/
import Derived.Test.YtonokeldlknadaaRkC
namespace Go.Proofs.Ytonokeldlknadaa
open Go.RowKit Go.BigFrame
set_option linter.unusedVariables false

set_option maxRecDepth 100000 in
set_option maxHeartbeats 1000000 in
theorem rsync_dead (A : Option Addr) (n c : Nat) (A2 : Option Addr) (m c2 : Nat) (f : Int) (w : World) :
    Calls Try.prog 16 #[.agg (rrow A n c A2 m c2 f true).toArray] w fun e w' => e = .returned (.tuple #[.agg (rrow A n c A2 m c2 f true).toArray, .int .i64 30]) ∧ Keeps (fun _ => False) w w' := by
  obtain ⟨Z, hZ⟩ : ∃ Z : Array Value, (#[.slice none 0 0, .slice none 0 0, .int .i64 0, .bool false] : Array Value) = Z := ⟨_, rfl⟩
  have hz : ∀ V : World, (zeroValue 31).run Try.prog V = .ok (.agg Z) V := fun V => by rw [← hZ]; exact zero_D V
  have ZS : Hid (Z.size = 4) := Lib.hid (by rw [← hZ]; rfl)
  obtain ⟨RA, hRA⟩ : ∃ R, (rrow A n c A2 m c2 f true).toArray = R := ⟨_, rfl⟩
  have RAN : Hid (RA.size = 4) := Lib.hid (by rw [← hRA]; rfl)
  have RAS : Hid ((Try.prog.info? 31).map (·.size) = some RA.size) := Lib.hid (by rw [RAN.out]; exact size_D)
  have RAO : Hid (RA.all (·.oneCell') = true) := Lib.hid (by rw [← hRA]; exact rrow_one _ _ _ _ _ _ _ _)
  obtain ⟨b1, hb1⟩ : ∃ x, w.heap.size = x := ⟨_, rfl⟩
  obtain ⟨W1, hW1⟩ : ∃ V, w.alloc (.cells RA 31) = V := ⟨_, rfl⟩
  obtain ⟨b2, hb2⟩ : ∃ x, W1.heap.size = x := ⟨_, rfl⟩
  obtain ⟨W2, hW2⟩ : ∃ V, W1.alloc (.cells Z 31) = V := ⟨_, rfl⟩
  have k1 : Keeps (fun _ => False) w W1 := by rw [← hW1]; exact (Keeps.refl _ _).alloc _
  have k2 : Keeps (fun _ => False) W1 W2 := by rw [← hW2]; exact (Keeps.refl _ _).alloc _
  have r1 : W2.heap[b1]? = some (.cells RA 31 (0, 0)) := (k2.block b1 (by rw [← hW1, ← hb1]; simp) id).trans (by rw [← hW1, ← hb1]; exact heap_alloc_new w _)
  have r2 : W2.heap[b2]? = some (.cells Z 31 (0, 0)) := by rw [← hW2, ← hb2]; exact heap_alloc_new W1 _
  have hb12 : b1 < b2 := by rw [← hb1, ← hb2, ← hW1]; simp
  have hwb : w.heap.size ≤ b1 := by omega
  have kk := k1.trans k2
  clear k1 k2
  have hc3 : W2.cell? ⟨b1, 3, none⟩ = some (.bool true) := by rw [cell_of_row W2 b1 3 _ 31 (0, 0) r1, ← hRA]; rfl
  have R1 := Lib.hid r1
  have R2 := Lib.hid r2
  obtain ⟨W4, hW4⟩ : ∃ V, W2.setRow b2 RA = V := ⟨_, rfl⟩
  have R4 : Hid (W4.heap[b2]? = some (.cells RA 31 (0, 0))) := Lib.hid (by rw [← hW4]; exact setRow_heap _ _ _ _ _ _ r2)
  have K4 : Hid (Keeps (fun _ => False) w W4) := Lib.hid (kk.trans' (T := fun k => k = b2) (by rw [← hW4]; exact Keeps.setRow _ _) (fun i hi e => by omega))
  rw [hRA]
  clear r1 r2 kk hZ hRA
  go_enter Try.func16, Try.ntmps16
  go_wp2_with (first
    | (refine wpList_load_row (by rfl) 31 (.tmp 1) (by rfl) b1 (by rfl) 31 RA (0, 0) _ R1.out Try.underlying31 rfl RAS.out ?_)
    | (refine wpList_store_row (by rfl) 31 (.tmp 2) (.tmp 8) (by rfl) b2 RA (by rfl) (by rfl) 31 Z R2.out RAS.out (ZS.out.trans RAN.out.symm) RAO.out ?_; rw [hW4]))
  refine bodyPost_ret (results_cell_tmp11 rfl _ _ b2 31 RA (0, 0) _ rfl R4.out Try.underlying31 rfl RAS.out) rfl ?_
  exact ⟨rfl, K4.out⟩
set_option maxRecDepth 100000 in
set_option maxHeartbeats 1000000 in
theorem rsync_down (A : Option Addr) (n c : Nat) (A2 : Option Addr) (m c2 : Nat) (w : World) :
    Calls Try.prog 16 #[.agg (rrow A n c A2 m c2 0 false).toArray] w fun e w' => e = .returned (.tuple #[.agg (rrow A n c A2 m c2 0 true).toArray, .int .i64 30]) ∧ Keeps (fun _ => False) w w' := by
  obtain ⟨Z, hZ⟩ : ∃ Z : Array Value, (#[.slice none 0 0, .slice none 0 0, .int .i64 0, .bool false] : Array Value) = Z := ⟨_, rfl⟩
  have hz : ∀ V : World, (zeroValue 31).run Try.prog V = .ok (.agg Z) V := fun V => by rw [← hZ]; exact zero_D V
  have ZS : Hid (Z.size = 4) := Lib.hid (by rw [← hZ]; rfl)
  obtain ⟨RA, hRA⟩ : ∃ R, (rrow A n c A2 m c2 0 false).toArray = R := ⟨_, rfl⟩
  have RAN : Hid (RA.size = 4) := Lib.hid (by rw [← hRA]; rfl)
  have RAS : Hid ((Try.prog.info? 31).map (·.size) = some RA.size) := Lib.hid (by rw [RAN.out]; exact size_D)
  have RAO : Hid (RA.all (·.oneCell') = true) := Lib.hid (by rw [← hRA]; exact rrow_one _ _ _ _ _ _ _ _)
  obtain ⟨b1, hb1⟩ : ∃ x, w.heap.size = x := ⟨_, rfl⟩
  obtain ⟨W1, hW1⟩ : ∃ V, w.alloc (.cells RA 31) = V := ⟨_, rfl⟩
  obtain ⟨b2, hb2⟩ : ∃ x, W1.heap.size = x := ⟨_, rfl⟩
  obtain ⟨W2, hW2⟩ : ∃ V, W1.alloc (.cells Z 31) = V := ⟨_, rfl⟩
  have k1 : Keeps (fun _ => False) w W1 := by rw [← hW1]; exact (Keeps.refl _ _).alloc _
  have k2 : Keeps (fun _ => False) W1 W2 := by rw [← hW2]; exact (Keeps.refl _ _).alloc _
  have r1 : W2.heap[b1]? = some (.cells RA 31 (0, 0)) := (k2.block b1 (by rw [← hW1, ← hb1]; simp) id).trans (by rw [← hW1, ← hb1]; exact heap_alloc_new w _)
  have r2 : W2.heap[b2]? = some (.cells Z 31 (0, 0)) := by rw [← hW2, ← hb2]; exact heap_alloc_new W1 _
  have hb12 : b1 < b2 := by rw [← hb1, ← hb2, ← hW1]; simp
  have hwb : w.heap.size ≤ b1 := by omega
  have kk := k1.trans k2
  clear k1 k2
  have hc3 : W2.cell? ⟨b1, 3, none⟩ = some (.bool false) := by rw [cell_of_row W2 b1 3 _ 31 (0, 0) r1, ← hRA]; rfl
  have hco := rcount_zero A n c A2 m c2 false W2
  obtain ⟨RB, hRB⟩ : ∃ R, (rrow A n c A2 m c2 0 true).toArray = R := ⟨_, rfl⟩
  have RBN : Hid (RB.size = 4) := Lib.hid (by rw [← hRB]; rfl)
  have RBS : Hid ((Try.prog.info? 31).map (·.size) = some RB.size) := Lib.hid (by rw [RBN.out]; exact size_D)
  have RBO : Hid (RB.all (·.oneCell') = true) := Lib.hid (by rw [← hRB]; exact rrow_one _ _ _ _ _ _ _ _)
  rw [hRA, hRB] at hco
  have HCO := Lib.hid hco
  have R1 := Lib.hid r1
  have R2 := Lib.hid r2
  have KK := Lib.hid kk
  rw [hRA, hRB]
  clear r1 r2 kk hZ hRA hRB hco
  go_enter Try.func16, Try.ntmps16
  go_wp2_with (first
    | (refine wpList_load_row (by rfl) 31 (.tmp 1) (by rfl) b1 (by rfl) 31 RA (0, 0) _ R1.out Try.underlying31 rfl RAS.out ?_))
  refine HCO.out.mono ?_
  rintro e wc ⟨rfl, kc⟩
  have rc1 : wc.heap[b1]? = some (.cells RA 31 (0, 0)) := (kc.block b1 (Array.getElem?_eq_some_iff.1 R1.out).1 id).trans R1.out
  have rc2 : wc.heap[b2]? = some (.cells Z 31 (0, 0)) := (kc.block b2 (Array.getElem?_eq_some_iff.1 R2.out).1 id).trans R2.out
  obtain ⟨W3, hW3⟩ : ∃ V, wc.setRow b1 RB = V := ⟨_, rfl⟩
  have k3 : Keeps (fun k => k = b1) wc W3 := by rw [← hW3]; exact Keeps.setRow _ _
  have r13 : W3.heap[b1]? = some (.cells RB 31 (0, 0)) := by rw [← hW3]; exact setRow_heap _ _ _ _ _ _ rc1
  have r23 : W3.heap[b2]? = some (.cells Z 31 (0, 0)) := (k3.block b2 (Array.getElem?_eq_some_iff.1 rc2).1 (fun e => by omega)).trans rc2
  obtain ⟨W4, hW4⟩ : ∃ V, W3.setRow b2 RB = V := ⟨_, rfl⟩
  have RC1 := Lib.hid rc1
  have R13 := Lib.hid r13
  have R23 := Lib.hid r23
  have ZRA : Hid (RA.size = RB.size) := Lib.hid (RAN.out.trans RBN.out.symm)
  have R4 : Hid (W4.heap[b2]? = some (.cells RB 31 (0, 0))) := Lib.hid (by rw [← hW4]; exact setRow_heap _ _ _ _ _ _ r23)
  have K4 : Hid (Keeps (fun _ => False) w W4) := Lib.hid (((KK.out.trans kc).trans' k3 (fun i hi e => by omega)).trans' (T := fun k => k = b2) (by rw [← hW4]; exact Keeps.setRow _ _) (fun i hi e => by omega))
  clear rc1 rc2 k3 r13 r23 kc HCO R1 R2 KK
  go_wp2_with (first
    | (refine wpList_store_row (by rfl) 31 (.tmp 1) (.tmp 12) (by rfl) b1 RB (by rfl) (by rfl) 31 RA RC1.out RBS.out ZRA.out RBO.out ?_; rw [hW3])
    | (refine wpList_load_row (by rfl) 31 (.tmp 1) (by rfl) b1 (by rfl) 31 RB (0, 0) _ R13.out Try.underlying31 rfl RBS.out ?_)
    | (refine wpList_store_row (by rfl) 31 (.tmp 2) (.tmp 16) (by rfl) b2 RB (by rfl) (by rfl) 31 Z R23.out RBS.out (ZS.out.trans RBN.out.symm) RBO.out ?_; rw [hW4]))
  refine bodyPost_ret (results_cell_tmp11 rfl _ _ b2 31 RB (0, 0) _ rfl R4.out Try.underlying31 rfl RBS.out) rfl ?_
  exact ⟨rfl, K4.out⟩
def gl (n : Nat) (g : Nat → List UInt8) : List (List UInt8) := (List.range n).map g
theorem gl_length (n : Nat) (g : Nat → List UInt8) : (gl n g).length = n := by simp [gl]
theorem gl_get (n : Nat) (g : Nat → List UInt8) (i : Nat) (h : i < n) : (gl n g)[i]? = some (g i) := by simp [gl, h]
theorem gl_put (n : Nat) (g : Nat → List UInt8) (i : Nat) (b : List UInt8) : (gl n g).set i b = gl n (Dk.put g i b) := by
  apply List.ext_getElem?
  intro j
  rw [List.getElem?_set]
  by_cases hj : j < n
  · rw [gl_get n (Dk.put g i b) j hj]
    by_cases h : i = j
    · subst h
      rw [if_pos rfl, if_pos (by rw [gl_length]; exact hj), Dk.put_same]
    · rw [if_neg h, gl_get n g j hj, Dk.put_other _ _ (Ne.symm h)]
  · rw [List.getElem?_eq_none (l := gl n (Dk.put g i b)) (by rw [gl_length]; omega)]
    by_cases h : i = j
    · rw [if_pos h, if_neg (by rw [gl_length]; omega)]
    · rw [if_neg h, List.getElem?_eq_none (l := gl n g) (by rw [gl_length]; omega)]
/-- A row that was there, or is new. -/
def OldNew (w : World) (v v' : Value) : Prop := v'.ownBlock = v.ownBlock ∨ ∃ k, w.heap.size ≤ k ∧ v'.ownBlock = some k
set_option maxRecDepth 100000 in
set_option maxHeartbeats 4000000 in
theorem rsync_ok (A : Option Addr) (n c : Nat) (A2 : Option Addr) (m c2 : Nat) (f : Int) (g : Nat → List UInt8) (ls : List (Nat × List UInt8)) (hf : f ≠ 0) (hf2 : f ≤ 9223372036854775807) (w : World) (hg : w.ownsRow 0 9 1 (.slice A n c) n (svals (gl n g))) (hl : w.ownsRow 0 67 2 (.slice A2 m c2) m (lcells ls)) (hls : ∀ p ∈ ls, p.1 < n) (hn : n ≤ 1000) (hm : m ≤ 1000) :
    Calls Try.prog 16 #[.agg (rrow A n c A2 m c2 f false).toArray] w fun e w' => ∃ A' c', e = .returned (.tuple #[.agg (rrow A' n c' none 0 0 (cf f) false).toArray, .int .i64 0]) ∧ w'.ownsRow 0 9 1 (.slice A' n c') n (svals (gl n (Dk.over g ls))) ∧ OldNew w (.slice A n c) (.slice A' n c') ∧ Keeps (fun _ => False) w w' := by
  obtain ⟨Z, hZ⟩ : ∃ Z : Array Value, (#[.slice none 0 0, .slice none 0 0, .int .i64 0, .bool false] : Array Value) = Z := ⟨_, rfl⟩
  have hz : ∀ V : World, (zeroValue 31).run Try.prog V = .ok (.agg Z) V := fun V => by rw [← hZ]; exact zero_D V
  have ZS : Hid (Z.size = 4) := Lib.hid (by rw [← hZ]; rfl)
  obtain ⟨RA, hRA⟩ : ∃ R, (rrow A n c A2 m c2 f false).toArray = R := ⟨_, rfl⟩
  have RAN : Hid (RA.size = 4) := Lib.hid (by rw [← hRA]; rfl)
  have RAS : Hid ((Try.prog.info? 31).map (·.size) = some RA.size) := Lib.hid (by rw [RAN.out]; exact size_D)
  have RAO : Hid (RA.all (·.oneCell') = true) := Lib.hid (by rw [← hRA]; exact rrow_one _ _ _ _ _ _ _ _)
  obtain ⟨b1, hb1⟩ : ∃ x, w.heap.size = x := ⟨_, rfl⟩
  obtain ⟨W1, hW1⟩ : ∃ V, w.alloc (.cells RA 31) = V := ⟨_, rfl⟩
  obtain ⟨b2, hb2⟩ : ∃ x, W1.heap.size = x := ⟨_, rfl⟩
  obtain ⟨W2, hW2⟩ : ∃ V, W1.alloc (.cells Z 31) = V := ⟨_, rfl⟩
  have k1 : Keeps (fun _ => False) w W1 := by rw [← hW1]; exact (Keeps.refl _ _).alloc _
  have k2 : Keeps (fun _ => False) W1 W2 := by rw [← hW2]; exact (Keeps.refl _ _).alloc _
  have r1 : W2.heap[b1]? = some (.cells RA 31 (0, 0)) := (k2.block b1 (by rw [← hW1, ← hb1]; simp) id).trans (by rw [← hW1, ← hb1]; exact heap_alloc_new w _)
  have r2 : W2.heap[b2]? = some (.cells Z 31 (0, 0)) := by rw [← hW2, ← hb2]; exact heap_alloc_new W1 _
  have hb12 : b1 < b2 := by rw [← hb1, ← hb2, ← hW1]; simp
  have hwb : w.heap.size ≤ b1 := by omega
  have kk := k1.trans k2
  clear k1 k2
  have hc3 : W2.cell? ⟨b1, 3, none⟩ = some (.bool false) := by rw [cell_of_row W2 b1 3 _ 31 (0, 0) r1, ← hRA]; rfl
  have hco := rcount_go A n c A2 m c2 f false hf hf2 W2
  obtain ⟨f', hf'⟩ : ∃ x, cf f = x := ⟨_, rfl⟩
  rw [hf'] at hco
  obtain ⟨RB, hRB⟩ : ∃ R, (rrow A n c A2 m c2 f' false).toArray = R := ⟨_, rfl⟩
  have RBN : Hid (RB.size = 4) := Lib.hid (by rw [← hRB]; rfl)
  have RBS : Hid ((Try.prog.info? 31).map (·.size) = some RB.size) := Lib.hid (by rw [RBN.out]; exact size_D)
  have RBO : Hid (RB.all (·.oneCell') = true) := Lib.hid (by rw [← hRB]; exact rrow_one _ _ _ _ _ _ _ _)
  rw [hRA, hRB] at hco
  have hll : ls.length = m := by have h := hl.1; rw [lcells_length] at h; omega
  have HCO := Lib.hid hco
  have R1 := Lib.hid r1
  have R2 := Lib.hid r2
  have KK := Lib.hid kk
  have HL := Lib.hid hl
  have HG := Lib.hid hg
  have HLL := Lib.hid hll
  have HLN := Lib.hid hls
  have HF' := Lib.hid hf'
  rw [hRA]
  have HRB := Lib.hid hRB
  clear r1 r2 kk hZ hRA hRB hco hl hg hll hls hf' hf hf2
  go_enter Try.func16, Try.ntmps16
  go_wp2_with (first
    | (refine wpList_load_row (by rfl) 31 (.tmp 1) (by rfl) b1 (by rfl) 31 RA (0, 0) _ R1.out Try.underlying31 rfl RAS.out ?_))
  refine HCO.out.mono ?_
  rintro e wc ⟨rfl, kc⟩
  have rc1 : wc.heap[b1]? = some (.cells RA 31 (0, 0)) := (kc.block b1 (Array.getElem?_eq_some_iff.1 R1.out).1 id).trans R1.out
  have rc2 : wc.heap[b2]? = some (.cells Z 31 (0, 0)) := (kc.block b2 (Array.getElem?_eq_some_iff.1 R2.out).1 id).trans R2.out
  obtain ⟨W3, hW3⟩ : ∃ V, wc.setRow b1 RB = V := ⟨_, rfl⟩
  have k3 : Keeps (fun k => k = b1) wc W3 := by rw [← hW3]; exact Keeps.setRow _ _
  have r13 : Row W3 b1 31 (rrow A n c A2 m c2 f' false) := by show _ = some (Obj.cells (_ : List Value).toArray _ _); rw [HRB.out, ← hW3]; exact setRow_heap _ _ _ _ _ _ rc1
  have r23 : W3.heap[b2]? = some (.cells Z 31 (0, 0)) := (k3.block b2 (Array.getElem?_eq_some_iff.1 rc2).1 (fun e => by omega)).trans rc2
  have kw3 : Keeps (fun _ => False) w W3 := (KK.out.trans kc).trans' k3 (fun i hi e => by omega)
  have HL3 := Lib.hid (kw3.owns HL.out (fun _ _ => id))
  have HG3 := Lib.hid (kw3.owns HG.out (fun _ _ => id))
  have RC1 := Lib.hid rc1
  have R13 := Lib.hid r13
  have R23 := Lib.hid r23
  have KW3 := Lib.hid kw3
  have ZRA : Hid (RA.size = RB.size) := Lib.hid (RAN.out.trans RBN.out.symm)
  clear rc1 rc2 k3 r13 r23 kc HCO R1 R2 KK kw3 HL HG
  go_wp2_with (first
    | (refine wpList_store_row (by rfl) 31 (.tmp 1) (.tmp 12) (by rfl) b1 RB (by rfl) (by rfl) 31 RA RC1.out RBS.out ZRA.out RBO.out ?_; rw [hW3]))
  go_loopw [5] (fun iv wr => ∃ (i : Nat) (A1 : Option Addr) (c1 : Nat), i ≤ m ∧ iv = .int .i64 (i : Int) ∧ Hid (Row wr b1 31 (rrow A1 n c1 A2 m c2 f' false)) ∧ Hid (wr.heap[b2]? = some (.cells Z 31 (0, 0))) ∧ Hid (wr.ownsRow 0 9 1 (.slice A1 n c1) n (svals (gl n (Dk.over g (ls.take i))))) ∧ Hid (OldNew w (.slice A n c) (.slice A1 n c1)) ∧ Hid (wr.ownsRow 0 67 2 (.slice A2 m c2) m (lcells ls)) ∧ Hid (Keeps (fun _ => False) w wr)) (fun iv _ => m - (intOf iv).toNat)
  case atStart => exact ⟨0, A, c, by omega, rfl, R13, R23, Lib.hid (by rw [List.take_zero]; exact HG3.out), Lib.hid (.inl rfl), HL3, KW3⟩
  case round =>
    clear R13 R23 HG3 HL3 KW3 RC1
    obtain ⟨i, A1, c1, hi, rfl, HR1, HR2, HG1, HON, HL1, HKW⟩ := hrel
    have hc1 : wr.cell? ⟨b1, 1, none⟩ = some (.slice A2 m c2) := HR1.out.cell 1
    by_cases hlt : i < m
    · have hii : (i : Int) < (m : Int) := by omega
      obtain ⟨gl, rfl⟩ := own_some HL1.out (by omega)
      obtain ⟨p, hp⟩ : ∃ p, ls[i]? = some p := ⟨_, List.getElem?_eq_getElem (by rw [HLL.out]; exact hlt)⟩
      obtain ⟨l1, l2⟩ := lcells_get ls i p hp
      obtain ⟨sp, hsp⟩ : ∃ s, strOf p.2 = s := ⟨_, rfl⟩
      obtain ⟨gs, hgs⟩ : ∃ l, Go.Proofs.Ytonokeldlknadaa.gl n (Dk.over g (ls.take i)) = l := ⟨_, rfl⟩
      have hpn := HLN.out p (List.mem_of_getElem? hp)
      have HC0 : Hid (∀ V, Later wr V → V.cell? ⟨b1, 0, none⟩ = some (.slice A1 n c1)) := Lib.hid (fun V hV => (HR1.out.keeps hV.out id).cell 0)
      have HC1 : Hid (∀ V, Later wr V → V.cell? ⟨b1, 1, none⟩ = some (.slice (some ⟨gl, 0, none⟩) m c2)) := Lib.hid (fun V hV => (HR1.out.keeps hV.out id).cell 1)
      have HCA : Hid (∀ V, Later wr V → V.cell? ⟨gl, i * 2, none⟩ = some (.int .i64 (p.1 : Int))) := Lib.hid (fun V hV => by rw [(hV.out.owns HL1.out (fun _ _ => id)).cellAt (i * 2) (by omega), l1])
      have HCB : Hid (∀ V, Later wr V → V.cell? ⟨gl, i * 2 + 1, none⟩ = some (.string sp)) := Lib.hid (fun V hV => by rw [(hV.out.owns HL1.out (fun _ _ => id)).cellAt (i * 2 + 1) (by omega), l2, hsp])
      have HSET : Hid (∀ V, Later wr V → Calls Try.prog 32 #[.slice A1 n c1, .int .i64 (p.1 : Int), .string sp] V fun e w' => ∃ x : Option Addr × Nat, e = .returned (.slice x.1 n x.2) ∧ Later wr w' ∧ w'.ownsRow wr.heap.size 9 1 (.slice x.1 n x.2) n (svals (gs.set p.1 p.2))) := Lib.hid (fun V hV => by
        have h := rset_any A1 n c1 gs p.1 p.2 V (hV.out.owns (by rw [← hgs]; exact HG1.out) (fun _ _ => id)) hpn hn
        rw [hsp] at h
        exact h.mono fun e w' ⟨A', c', h1, h2, h3⟩ => ⟨(A', c'), h1, ⟨hV.out.trans h3⟩, own_base h2 hV.out.size⟩)
      have HGS : Hid (gs.set p.1 p.2 = Go.Proofs.Ytonokeldlknadaa.gl n (Dk.over g (ls.take (i + 1)))) := Lib.hid (by
        have hk := (List.getElem?_eq_some_iff.1 hp).1
        rw [← hgs, gl_put, List.take_succ_eq_append_getElem hk, (List.getElem?_eq_some_iff.1 hp).2, Dk.over_snoc])
      clear l1 l2 hp hsp
      go_wp2_with fail
      refine wp_region_stores 16 [14] [0, 1, 2, 3, 4, 5, 6, 7, 8, 9, 10, 11, 12, 13, 14, 15] (Later wr) (fun _ => True) (by kernel_rfl) (by kernel_rfl) (Lasts.later _) (Lasts.true) (⟨(Keeps.refl _ _).drew⟩) (trivial) ?_
      refine T_value (get_op rfl) (by rfl) (by rfl) (.pointer (some ⟨b1, 0, none⟩)) (fun _ _ => by go_simp) ?_
      simp only [Act.put, List.setIfInBounds_toArray, List.set_cons_zero, List.set_cons_succ]
      refine T_cell (get_op rfl) (by rfl) (by rfl) 28 (.tmp 25) (by rfl) ⟨b1, 0, none⟩ (by rfl) (.slice A1 n c1) _ (fun V hV => HC0.out V hV) Try.underlying28 rfl ?_
      simp only [Act.put, List.setIfInBounds_toArray, List.set_cons_zero, List.set_cons_succ]
      refine T_value (get_op rfl) (by rfl) (by rfl) (.pointer (some ⟨b1, 1, none⟩)) (fun _ _ => by go_simp) ?_
      simp only [Act.put, List.setIfInBounds_toArray, List.set_cons_zero, List.set_cons_succ]
      refine T_cell (get_op rfl) (by rfl) (by rfl) 29 (.tmp 27) (by rfl) ⟨b1, 1, none⟩ (by rfl) (.slice (some ⟨gl, 0, none⟩) m c2) _ (fun V hV => HC1.out V hV) Try.underlying29 rfl ?_
      simp only [Act.put, List.setIfInBounds_toArray, List.set_cons_zero, List.set_cons_succ]
      refine T_value (get_op rfl) (by rfl) (by rfl) (.int .i64 (i : Int)) (fun _ _ => by go_simp) ?_
      simp only [Act.put, List.setIfInBounds_toArray, List.set_cons_zero, List.set_cons_succ]
      refine T_value (get_op rfl) (by rfl) (by rfl) (.pointer (some ⟨gl, i * 2, none⟩)) (fun _ _ => by go_simp) ?_
      simp only [Act.put, List.setIfInBounds_toArray, List.set_cons_zero, List.set_cons_succ]
      refine T_value (get_op rfl) (by rfl) (by rfl) (.pointer (some ⟨gl, i * 2, none⟩)) (fun _ _ => by go_simp) ?_
      simp only [Act.put, List.setIfInBounds_toArray, List.set_cons_zero, List.set_cons_succ]
      refine T_cell (get_op rfl) (by rfl) (by rfl) 3 (.tmp 31) (by rfl) ⟨gl, i * 2, none⟩ (by rfl) (.int .i64 (p.1 : Int)) _ (fun V hV => HCA.out V hV) Try.underlying3 rfl ?_
      simp only [Act.put, List.setIfInBounds_toArray, List.set_cons_zero, List.set_cons_succ]
      refine T_value (get_op rfl) (by rfl) (by rfl) (.pointer (some ⟨b1, 1, none⟩)) (fun _ _ => by go_simp) ?_
      simp only [Act.put, List.setIfInBounds_toArray, List.set_cons_zero, List.set_cons_succ]
      refine T_cell (get_op rfl) (by rfl) (by rfl) 29 (.tmp 33) (by rfl) ⟨b1, 1, none⟩ (by rfl) (.slice (some ⟨gl, 0, none⟩) m c2) _ (fun V hV => HC1.out V hV) Try.underlying29 rfl ?_
      simp only [Act.put, List.setIfInBounds_toArray, List.set_cons_zero, List.set_cons_succ]
      refine T_value (get_op rfl) (by rfl) (by rfl) (.int .i64 (i : Int)) (fun _ _ => by go_simp) ?_
      simp only [Act.put, List.setIfInBounds_toArray, List.set_cons_zero, List.set_cons_succ]
      refine T_value (get_op rfl) (by rfl) (by rfl) (.pointer (some ⟨gl, i * 2, none⟩)) (fun _ _ => by go_simp) ?_
      simp only [Act.put, List.setIfInBounds_toArray, List.set_cons_zero, List.set_cons_succ]
      refine T_value (get_op rfl) (by rfl) (by rfl) (.pointer (some ⟨gl, i * 2 + 1, none⟩)) (fun _ _ => by go_simp) ?_
      simp only [Act.put, List.setIfInBounds_toArray, List.set_cons_zero, List.set_cons_succ]
      refine T_cell (get_op rfl) (by rfl) (by rfl) 9 (.tmp 37) (by rfl) ⟨gl, i * 2 + 1, none⟩ (by rfl) (.string sp) _ (fun V hV => HCB.out V hV) Try.underlying9 rfl ?_
      simp only [Act.put, List.setIfInBounds_toArray, List.set_cons_zero, List.set_cons_succ]
      refine T_enterR (get_op rfl) (by rfl) (by rfl) _ _ (fun x : Option Addr × Nat => .slice x.1 n x.2) (fun x y h => by cases x; cases y; simp at h; simp [h]) (fun _ => by go_simp) (fun x V => V.ownsRow wr.heap.size 9 1 (.slice x.1 n x.2) n (svals (gs.set p.1 p.2))) (fun x w w' h hk => hk.owns h (fun _ _ => id)) (fun V hb hf => HSET.out V hb) ?_
      intro x9
      simp only [Act.put, List.setIfInBounds_toArray, List.set_cons_zero, List.set_cons_succ]
      refine T_value (get_op rfl) (by rfl) (by rfl) (.pointer (some ⟨b1, 0, none⟩)) (fun _ _ => by go_simp) ?_
      simp only [Act.put, List.setIfInBounds_toArray, List.set_cons_zero, List.set_cons_succ]
      refine T_nil ?_
      intro V5 k5 o5
      simp only [List.drop_succ_cons, List.drop_zero]
      have hr5 := HR1.out.keeps k5.out id
      have hc5 : V5.cell? ⟨b1, 0, none⟩ = some (.slice A1 n c1) := hr5.cell 0
      have hf5 := hr5.frozen 0
      obtain ⟨W6, hW6⟩ : ∃ V, V5.setCell ⟨b1, 0, none⟩ (.slice x9.1 n x9.2) = V := ⟨_, rfl⟩
      have k6 : Keeps (fun k => k = b1) V5 W6 := by rw [← hW6]; exact (Keeps.refl (fun k => k = b1) V5).setCell (p := ⟨b1, 0, none⟩) (fun _ => rfl) _
      have hr2 : V5.heap[b2]? = some (.cells Z 31 (0, 0)) := (k5.out.block b2 (Array.getElem?_eq_some_iff.1 HR2.out).1 id).trans HR2.out
      have hne : ∀ k, (Value.slice x9.1 n x9.2).ownBlock = some k → k ≠ b1 := fun k hk e => by
        have := (o5.lt k hk).1
        have := HR1.out.lt
        omega
      have N1 : Hid (Row W6 b1 31 (rrow x9.1 n x9.2 (some ⟨gl, 0, none⟩) m c2 f' false)) := Lib.hid (by rw [← hW6]; exact hr5.set 0 _)
      have N2 : Hid (W6.heap[b2]? = some (.cells Z 31 (0, 0))) := Lib.hid ((k6.block b2 (Array.getElem?_eq_some_iff.1 hr2).1 (fun e => by omega)).trans hr2)
      have N3 : Hid (W6.ownsRow 0 9 1 (.slice x9.1 n x9.2) n (svals (Go.Proofs.Ytonokeldlknadaa.gl n (Dk.over g (ls.take (i + 1)))))) := Lib.hid (by rw [← HGS.out]; exact k6.owns (own_base o5 (Nat.zero_le _)) (fun k hk e => hne k hk e))
      have N4 : Hid (OldNew w (.slice A n c) (.slice x9.1 n x9.2)) := Lib.hid (by
        cases h : (Value.slice x9.1 n x9.2).ownBlock with
        | none =>
          exfalso
          rcases o5.2 with ⟨_, h3⟩ | ⟨g2, cap, cur, h2, _⟩
          · omega
          · rw [h2] at h; cases h
        | some k => exact .inr ⟨k, Nat.le_trans HKW.out.size (o5.lt k h).1, h⟩)
      have N5 : Hid (W6.ownsRow 0 67 2 (.slice (some ⟨gl, 0, none⟩) m c2) m (lcells ls)) := Lib.hid (k6.owns (k5.out.owns HL1.out (fun _ _ => id)) (fun k hk e => own_apart HL1.out HR1.out (by decide) k hk e))
      have N6 : Hid (Keeps (fun _ => False) w W6) := Lib.hid ((HKW.out.trans k5.out).trans' k6 (fun i hi e => by omega))
      clear k5 o5 hr5 k6 hr2 hne HC0 HC1 HCA HCB HSET HGS HR1 HR2 HG1 HON HL1 HKW
      go_wp2_with fail
      go_roundw
      case rel => exact ⟨i + 1, x9.1, x9.2, by omega, by go_num, N1, N2, N3, N4, N5, N6⟩
      case measure => simp [intOf]; omega
    · obtain rfl : m = i := by omega
      have hii : ¬ (m : Int) < (m : Int) := by omega
      have hfr := HR1.out.frozen 1
      have ht : ls.take m = ls := List.take_of_length_le (by rw [HLL.out]; exact Nat.le_refl _)
      have hg1 := HG1.out
      rw [ht] at hg1
      obtain ⟨W7, hW7⟩ : ∃ V, wr.setCell ⟨b1, 1, none⟩ (.slice none 0 0) = V := ⟨_, rfl⟩
      have k7 : Keeps (fun k => k = b1) wr W7 := by rw [← hW7]; exact (Keeps.refl (fun k => k = b1) wr).setCell (p := ⟨b1, 1, none⟩) (fun _ => rfl) _
      obtain ⟨RD, hRD⟩ : ∃ R, (rrow A1 n c1 none 0 0 f' false).toArray = R := ⟨_, rfl⟩
      have RDN : Hid (RD.size = 4) := Lib.hid (by rw [← hRD]; rfl)
      have RDS : Hid ((Try.prog.info? 31).map (·.size) = some RD.size) := Lib.hid (by rw [RDN.out]; exact size_D)
      have RDO : Hid (RD.all (·.oneCell') = true) := Lib.hid (by rw [← hRD]; exact rrow_one _ _ _ _ _ _ _ _)
      have r17 : W7.heap[b1]? = some (.cells RD 31 (0, 0)) := by rw [← hRD, ← hW7]; exact HR1.out.set 1 _
      have r27 : W7.heap[b2]? = some (.cells Z 31 (0, 0)) := (k7.block b2 (Array.getElem?_eq_some_iff.1 HR2.out).1 (fun e => by omega)).trans HR2.out
      obtain ⟨W8, hW8⟩ : ∃ V, W7.setRow b2 RD = V := ⟨_, rfl⟩
      have k8 : Keeps (fun k => k = b2) W7 W8 := by rw [← hW8]; exact Keeps.setRow _ _
      have R17 := Lib.hid r17
      have R27 := Lib.hid r27
      have R8 : Hid (W8.heap[b2]? = some (.cells RD 31 (0, 0))) := Lib.hid (by rw [← hW8]; exact setRow_heap _ _ _ _ _ _ r27)
      have hne : ∀ k, (Value.slice A1 n c1).ownBlock = some k → k ≠ b1 ∧ k ≠ b2 := fun k hk => by
        obtain ⟨cur, hc, _⟩ := own_block hg1 k hk
        refine ⟨fun e => ?_, fun e => ?_⟩
        · have hr := HR1.out
          unfold Row at hr
          rw [e, hr] at hc
          simp at hc
        · rw [e, HR2.out] at hc
          simp at hc
      have HO8 : Hid (W8.ownsRow 0 9 1 (.slice A1 n c1) n (svals (gl n (Dk.over g ls)))) := Lib.hid (k8.owns (k7.owns hg1 (fun k hk e => (hne k hk).1 e)) (fun k hk e => (hne k hk).2 e))
      have K8 : Hid (Keeps (fun _ => False) w W8) := Lib.hid ((HKW.out.trans' k7 (fun i hi e => by omega)).trans' k8 (fun i hi e => by omega))
      have HEQ := Lib.hid hRD
      clear ht hg1 k7 r17 r27 k8 hne hRD HR1 HR2 HG1 HL1 HKW
      go_wp2_with (first
        | (refine wpList_load_row (by rfl) 31 (.tmp 1) (by rfl) b1 (by rfl) 31 RD (0, 0) _ R17.out Try.underlying31 rfl RDS.out ?_)
        | (refine wpList_store_row (by rfl) 31 (.tmp 2) (.tmp 42) (by rfl) b2 RD (by rfl) (by rfl) 31 Z R27.out RDS.out (ZS.out.trans RDN.out.symm) RDO.out ?_; rw [hW8]))
      refine bodyPost_ret (results_cell_tmp11 rfl _ _ b2 31 RD (0, 0) _ rfl R8.out Try.underlying31 rfl RDS.out) rfl ?_
      exact ⟨A1, c1, by rw [HF'.out, HEQ.out]; rfl, HO8.out, HON.out, K8.out⟩
end Go.Proofs.Ytonokeldlknadaa
