/-
  The document's own frontier (package assayerref05): its root. WRITTEN BY wip/gen/mkfrrc.py.
-/
import Derived.Test.YtnnhbgaeohdojaaDoorFrRb
import Derived.Test.YtnnhbgaeohdojaaDoorSoP
namespace Go.Proofs.YtnnhbgaeohdojaaDoor
open Go.RowKit Go.BigFrame
set_option linter.unusedVariables false

theorem Tr.peakRoot_cons (p : List UInt8) (l : List (List UInt8)) (h : l ≠ []) : Tr.peakRoot (p :: l) = Tr.node p (Tr.peakRoot l) := by
  unfold Tr.peakRoot
  rw [List.reverse_cons]
  cases hr : l.reverse with
  | nil => exact absurd (List.reverse_eq_nil_iff.1 hr) h
  | cons r rs => simp [List.foldl_append]
theorem Tr.peakRoot_drop (ps : List (List UInt8)) (j : Nat) (p : List UInt8) (h : ps[j]? = some p) (hj : j + 1 < ps.length) : Tr.peakRoot (ps.drop j) = Tr.node p (Tr.peakRoot (ps.drop (j + 1))) := by
  have h1 := (List.getElem?_eq_some_iff.1 h)
  obtain ⟨h1, h2⟩ := h1
  rw [List.drop_eq_getElem_cons h1, h2, Tr.peakRoot_cons]
  intro e
  have := congrArg List.length e
  rw [List.length_drop, List.length_nil] at this
  omega
theorem Tr.peakRoot_len (ps : List (List UInt8)) (h : ∀ p ∈ ps, p.length = 32) : (Tr.peakRoot ps).length = 32 := by
  cases ps with
  | nil => rfl
  | cons p l =>
    by_cases hl : l = []
    · subst hl
      exact h p (by simp)
    · rw [Tr.peakRoot_cons _ _ hl]
      exact Tr.node_length _ _
set_option maxRecDepth 100000 in
set_option maxHeartbeats 1500000 in
theorem rroot5_none (O L : Value) (w : World) (hOL : (fval 0 O L).toArray.all (·.oneCell') = true) :
    Calls Tryd.prog 37 #[.agg (fval 0 O L).toArray] w fun e w' => e = .returned (.agg (bvs (Sh.sha [])).toArray) ∧ Keeps (fun _ => False) w w' := by
  obtain ⟨Z, hZ, hz, hzs⟩ := zero_hash
  have hof : ∀ V : World, Calls Tryd.prog 47 #[.string ⟨#[]⟩] V fun e w' => e = .returned (.agg (bvs (Sh.sha [])).toArray) ∧ Keeps (fun _ => False) V w' := fun V => rof_any [] V (by decide)
  obtain ⟨s1, z1, o1⟩ := arr_hash (Sh.sha []) rfl
  obtain ⟨R, hR⟩ : ∃ R, (bvs (Sh.sha [])).toArray = R := ⟨_, rfl⟩
  rw [hR] at hof s1 z1 o1 ⊢
  obtain ⟨FV, hFV⟩ : ∃ FV, fval 0 O L = FV := ⟨_, rfl⟩
  have hf0 : FV[0]? = some (.int .u64 0) := by rw [← hFV]; rfl
  rw [hFV] at hOL ⊢
  obtain ⟨W1, hW1⟩ : ∃ V, w.alloc (.cells FV.toArray 47) = V := ⟨_, rfl⟩
  obtain ⟨W2, hW2⟩ : ∃ V, W1.alloc (.cells Z 34) = V := ⟨_, rfl⟩
  obtain ⟨B1, hB1⟩ : ∃ q, w.heap.size = q := ⟨_, rfl⟩
  obtain ⟨B2, hB2⟩ : ∃ q, W1.heap.size = q := ⟨_, rfl⟩
  have k1 : Keeps (fun _ => False) w W1 := by rw [← hW1]; exact (Keeps.refl _ _).alloc _
  have k2 : Keeps (fun _ => False) W1 W2 := by rw [← hW2]; exact (Keeps.refl _ _).alloc _
  have r1 : Row W1 B1 47 FV := by rw [← hW1, ← hB1]; exact heap_alloc_new w _
  have r2 : W2.heap[B2]? = some (.cells Z 34 (0, 0)) := by rw [← hW2, ← hB2]; exact heap_alloc_new W1 _
  have hc : W2.cell? ⟨B1, 0, none⟩ = some (.int .u64 0) := ((r1.keeps k2 id).cell 0).trans hf0
  have hb12 : w.heap.size ≤ B2 := by rw [← hB2]; exact k1.size
  have HB12 := Lib.hid hb12
  have HOF := Lib.hid hof
  have S1 := Lib.hid s1
  have ZZ := Lib.hid (hzs.trans z1.symm)
  have O1 := Lib.hid o1
  have K2 := Lib.hid (k1.trans k2)
  have R2 := Lib.hid r2
  have HB1 := Lib.hid hB1
  clear hof s1 z1 o1 k1 k2 r1 r2 hR hZ hzs hFV hf0 hb12
  go_enter Tryd.func37, Tryd.ntmps37
  go_wp2_with fail
  refine (HOF.out _).mono ?_
  rintro e w3 ⟨rfl, k3⟩
  have R3 := Lib.hid ((k3.block _ (Array.getElem?_eq_some_iff.1 R2.out).1 id).trans R2.out)
  have K3 := Lib.hid (K2.out.trans k3)
  clear k3 hW1 hW2 hB1 hB2 hc
  go_wp2_with (refine wpList_store_row rfl 34 _ _ rfl B2 R rfl rfl 34 Z R3.out S1.out ZZ.out O1.out ?_)
  refine bodyPost_ret (results_cell_row rfl _ _ B2 34 R (0, 0) _ rfl (setRow_heap _ _ _ _ _ _ R3.out) Tryd.underlying34 rfl S1.out) rfl ?_
  exact ⟨rfl, K3.out.trans' (Keeps.setRow B2 R) (fun i hi h => by have := HB12.out; omega)⟩
set_option maxRecDepth 100000 in
set_option maxHeartbeats 1500000 in
theorem rroot5_more (n : Nat) (O : Value) (A : Option Addr) (c : Nat) (ps : List (List UInt8)) (w : World) (hP : PathAt w A ps) (hn0 : n ≠ 0) (h1 : 1 ≤ ps.length) (hlen : ps.length ≤ 1000) (hOL : (fval n O (.slice A ps.length c)).toArray.all (·.oneCell') = true) (hc : ps.length ≤ c) :
    Calls Tryd.prog 37 #[.agg (fval n O (.slice A ps.length c)).toArray] w fun e w' => e = .returned (.agg (bvs (Tr.peakRoot ps)).toArray) ∧ Keeps (fun _ => False) w w' := by
  obtain ⟨Z, hZ, hz, hzs⟩ := zero_hash
  obtain ⟨b6, o6, hA⟩ : ∃ b6 o6, A = some ⟨b6, o6, none⟩ := by
    obtain ⟨b, o, e, _⟩ := hP.lie 0 ps[0] (List.getElem?_eq_getElem (by omega))
    exact ⟨b, o, e⟩
  subst hA
  have hall := hP.all
  have hrange : ∀ i p, ps[i]? = some p → ∀ V, Keeps (fun _ => False) w V → V.rangeAt b6 (o6 + i * 32) (bvs p) := fun i p hp V hV => by
    obtain ⟨b, o, e, hr⟩ := hP.lie i p hp
    injection e with e
    injection e with e1 e2 _
    subst e1
    subst e2
    exact range_keeps hr hV (fun _ _ => id)
  have hpl : ∀ j, (Tr.peakRoot (ps.drop j)).length = 32 := fun j => Tr.peakRoot_len _ (fun p hp => hall p (List.mem_of_mem_drop hp))
  obtain ⟨m, hm⟩ : ∃ m, ps.length = m := ⟨_, rfl⟩
  rw [hm] at h1 hlen hOL hc ⊢
  obtain ⟨q, hq⟩ : ∃ q, m = q + 1 := ⟨m - 1, by omega⟩
  have hq1 : (m : Int) - 1 = (q : Int) := by omega
  obtain ⟨ls, hls⟩ : ∃ p, ps[q]? = some p := ⟨_, List.getElem?_eq_getElem (by omega)⟩
  have hlast : Tr.peakRoot (ps.drop q) = ls := by
    obtain ⟨h2, h3⟩ := List.getElem?_eq_some_iff.1 hls
    rw [List.drop_eq_getElem_cons h2, h3, List.drop_eq_nil_of_le (by omega)]
    rfl
  have hlsl : ls.length = 32 := hall ls (List.mem_of_getElem? hls)
  have hrl := hrange q ls hls
  obtain ⟨s1, z1, o1⟩ := arr_hash ls hlsl
  have l1 : (Tryd.prog.info? 34).map (·.size) = some (bvs ls).length := by rw [bvs_length, hlsl]; exact size_hash'
  obtain ⟨RS, hRS⟩ : ∃ R, bvs ls = R := ⟨_, rfl⟩
  have hRS0 : bvs (Tr.peakRoot (ps.drop q)) = RS := by rw [hlast, hRS]
  rw [hRS] at hrl s1 z1 o1 l1
  obtain ⟨FV, hFV⟩ : ∃ FV, fval n O (.slice (some ⟨b6, o6, none⟩) m c) = FV := ⟨_, rfl⟩
  have hf0 : FV[0]? = some (.int .u64 (n : Int)) := by rw [← hFV]; rfl
  have hf2 : FV[2]? = some (.slice (some ⟨b6, o6, none⟩) m c) := by rw [← hFV]; rfl
  rw [hFV] at hOL ⊢
  obtain ⟨W1, hW1⟩ : ∃ V, w.alloc (.cells FV.toArray 47) = V := ⟨_, rfl⟩
  obtain ⟨W2, hW2⟩ : ∃ V, W1.alloc (.cells Z 34) = V := ⟨_, rfl⟩
  obtain ⟨W3, hW3⟩ : ∃ V, W2.alloc (.cells Z 34) = V := ⟨_, rfl⟩
  obtain ⟨B1, hB1⟩ : ∃ q, w.heap.size = q := ⟨_, rfl⟩
  obtain ⟨B2, hB2⟩ : ∃ q, W1.heap.size = q := ⟨_, rfl⟩
  obtain ⟨B3, hB3⟩ : ∃ q, W2.heap.size = q := ⟨_, rfl⟩
  obtain ⟨V9, hV9⟩ : ∃ V, W3.setRow B3 RS.toArray = V := ⟨_, rfl⟩
  have k1 : Keeps (fun _ => False) w W1 := by rw [← hW1]; exact (Keeps.refl _ _).alloc _
  have k2 : Keeps (fun _ => False) W1 W2 := by rw [← hW2]; exact (Keeps.refl _ _).alloc _
  have k3 : Keeps (fun _ => False) W2 W3 := by rw [← hW3]; exact (Keeps.refl _ _).alloc _
  have k9 : Keeps (fun k => k = B3) W3 V9 := by rw [← hV9]; exact Keeps.setRow _ _
  have r1 : Row W1 B1 47 FV := by rw [← hW1, ← hB1]; exact heap_alloc_new w _
  have r2 : W2.heap[B2]? = some (.cells Z 34 (0, 0)) := by rw [← hW2, ← hB2]; exact heap_alloc_new W1 _
  have r3 : W3.heap[B3]? = some (.cells Z 34 (0, 0)) := by rw [← hW3, ← hB3]; exact heap_alloc_new W2 _
  have r9 : V9.heap[B3]? = some (.cells RS.toArray 34 (0, 0)) := by rw [← hV9]; exact setRow_heap _ _ _ _ _ _ r3
  have hb1 : B1 < B2 := by rw [← hB2]; exact r1.lt
  have hb2 : B2 < B3 := by rw [← hB3]; exact (Array.getElem?_eq_some_iff.1 r2).1
  have k29 : Keeps (fun _ => False) W2 V9 := k3.trans' k9 (fun i hi h => by omega)
  have hc0 : W2.cell? ⟨B1, 0, none⟩ = some (.int .u64 (n : Int)) := ((r1.keeps k2 id).cell 0).trans hf0
  have hc2 : W2.cell? ⟨B1, 2, none⟩ = some (.slice (some ⟨b6, o6, none⟩) m c) := ((r1.keeps k2 id).cell 2).trans hf2
  have hc9 : V9.cell? ⟨B1, 2, none⟩ = some (.slice (some ⟨b6, o6, none⟩) m c) := ((r1.keeps (k2.trans k29) id).cell 2).trans hf2
  have HC2 : Hid (∀ V, Keeps (fun k => k = B3) V9 V → V.cell? ⟨B1, 2, none⟩ = some (.slice (some ⟨b6, o6, none⟩) m c)) := Lib.hid (fun V hV => (((r1.keeps (k2.trans k29) id).keeps hV (by omega)).cell 2).trans hf2)
  have HBW : Hid (w.heap.size = B1 ∧ B1 < B2 ∧ B2 < B3) := Lib.hid ⟨hB1, hb1, hb2⟩
  have R29 := Lib.hid ((k29.block _ (Array.getElem?_eq_some_iff.1 r2).1 id).trans r2)
  have R3 := Lib.hid r3
  have R9 := Lib.hid r9
  have K0 := Lib.hid ((k1.trans k2).trans k29)
  have HRG := Lib.hid (hrl W2 (k1.trans k2))
  have HRANGE := Lib.hid hrange
  have HPL := Lib.hid hpl
  have HALL := Lib.hid hall
  have HM := Lib.hid hm
  have HRS0 := Lib.hid hRS0
  have S1 := Lib.hid s1
  have Z1 := Lib.hid (hzs.trans z1.symm)
  have O1 := Lib.hid o1
  have L1 := Lib.hid l1
  have HZS := Lib.hid hzs
  have hnz : ((n : Int) == 0) = false := by simp; omega
  have hnd : decide ((n : Int) = 0) = false := by simp; omega
  have hqm : (q : Int) < m := by omega
  have HQ := Lib.hid hq
  clear k1 k2 k3 k9 r1 r2 r3 r9 k29 hf0 hf2 hFV hRS0 hRS hlast hrl s1 z1 o1 l1 hzs hZ hrange hpl hall hm hq hls hlsl h1 hP
  go_enter Tryd.func37, Tryd.ntmps37
  go_wp2_with (first
    | (rw [hV9])
    | (refine wpList_load_mid_w (by rfl) 34 (.tmp 15) (by rfl) b6 (o6 + q * 32) (by rfl) RS _ HRG.out Tryd.underlying34 rfl L1.out ?_)
    | (refine wpList_store_row rfl 34 _ _ rfl B3 RS.toArray rfl rfl 34 Z R3.out S1.out Z1.out O1.out ?_))
  clear hW1 hW2 hW3 hV9 hc0 hc2 hB1 hB2 hB3
  go_loopw [4] (fun iv wv => ∃ j : Nat, j ≤ q ∧ iv = .int .i64 ((j : Int) - 1) ∧ Hid (wv.heap[B3]? = some (.cells (bvs (Tr.peakRoot (ps.drop j))).toArray 34 (0, 0))) ∧ Hid (Keeps (fun k => k = B3) V9 wv)) (fun iv _ => (intOf iv + 1).toNat)
  case atStart => exact ⟨q, Nat.le_refl _, by have := HQ.out; first | go_num | (congr 1; omega), by rw [HRS0.out]; exact R9, Lib.hid (Keeps.refl _ _)⟩
  case round =>
    clear R9 hc9
    obtain ⟨j, hj, rfl, HB, HKV⟩ := hrel
    cases j with
    | zero =>
      have hb := HB.out
      rw [List.drop_zero] at hb
      have hl3 := HPL.out 0
      rw [List.drop_zero] at hl3
      obtain ⟨s3, z3, o3⟩ := arr_hash _ hl3
      obtain ⟨RL, hRL⟩ : ∃ R, bvs (Tr.peakRoot ps) = R := ⟨_, rfl⟩
      rw [hRL] at hb s3 z3 o3
      have HRL := Lib.hid hRL
      have HB2 := Lib.hid hb
      have S3 := Lib.hid s3
      have Z3 := Lib.hid (HZS.out.trans z3.symm)
      have O3 := Lib.hid o3
      have R2W : Hid (wr.heap[B2]? = some (.cells Z 34 (0, 0))) := Lib.hid ((HKV.out.block _ (Array.getElem?_eq_some_iff.1 R29.out).1 (by have := HBW.out; omega)).trans R29.out)
      have KF : Hid (Keeps (fun _ => False) w wr) := Lib.hid (K0.out.trans' HKV.out (fun i hi h => by have := HBW.out; omega))
      clear hb s3 z3 o3 hRL hl3 HB
      go_wp2_with (first
        | (refine wpList_load_row rfl 34 _ rfl B3 rfl 34 RL.toArray (0, 0) _ HB2.out Tryd.underlying34 rfl S3.out ?_)
        | (refine wpList_store_row rfl 34 _ _ rfl B2 RL.toArray rfl rfl 34 Z R2W.out S3.out Z3.out O3.out ?_))
      refine bodyPost_ret (results_cell_row rfl _ _ B2 34 RL.toArray (0, 0) _ rfl (setRow_heap _ _ _ _ _ _ R2W.out) Tryd.underlying34 rfl S3.out) rfl ?_
      exact ⟨by rw [HRL.out], KF.out.trans' (Keeps.setRow B2 RL.toArray) (fun i hi h => by have := HBW.out; omega)⟩
    | succ j =>
      obtain ⟨p, hp⟩ : ∃ p, ps[j]? = some p := ⟨_, List.getElem?_eq_getElem (by have := HM.out; have := HQ.out; omega)⟩
      have hst := Tr.peakRoot_drop ps j p hp (by have := HM.out; have := HQ.out; omega)
      have hl1 : p.length = 32 := HALL.out p (List.mem_of_getElem? hp)
      have hl2 := HPL.out (j + 1)
      have hl3 := HPL.out j
      have hnode := fun V => rnode_any p (Tr.peakRoot (ps.drop (j + 1))) V hl1 hl2
      rw [← Tr.node, ← hst] at hnode
      have hld : ∀ V, Keeps (fun k => k = B3) wr V → V.rangeAt b6 (o6 + j * 32) (bvs p) := fun V hV => HRANGE.out j p hp V (K0.out.trans' (HKV.out.trans hV) (fun i hi h => by have := HBW.out; omega))
      have hbx := HB.out
      have l1 : (Tryd.prog.info? 34).map (·.size) = some (bvs p).length := by rw [bvs_length, hl1]; exact size_hash'
      have sx : (Tryd.prog.info? 34).map (·.size) = some (bvs (Tr.peakRoot (ps.drop (j + 1)))).length := by rw [bvs_length, hl2]; exact size_hash'
      obtain ⟨_, zx, _⟩ := arr_hash _ hl2
      obtain ⟨sn, zn, on⟩ := arr_hash _ hl3
      obtain ⟨CR, hCR⟩ : ∃ R, bvs p = R := ⟨_, rfl⟩
      obtain ⟨CX, hCX⟩ : ∃ R, bvs (Tr.peakRoot (ps.drop (j + 1))) = R := ⟨_, rfl⟩
      obtain ⟨CY, hCY⟩ : ∃ R, bvs (Tr.peakRoot (ps.drop j)) = R := ⟨_, rfl⟩
      rw [hCR] at hld hnode l1
      rw [hCX] at hnode hbx sx zx
      rw [hCY] at hnode sn zn on
      have HCY := Lib.hid hCY
      have HLD := Lib.hid hld
      have HNODE : Hid (∀ V, Calls Tryd.prog 49 #[.agg CR.toArray, .agg CX.toArray] V fun e w' => e = .returned (.agg CY.toArray) ∧ Keeps (fun _ => False) V w') := Lib.hid hnode
      have HBX := Lib.hid hbx
      have HPI := Lib.hid l1
      have SX := Lib.hid sx
      have SN := Lib.hid sn
      have ZN := Lib.hid (zx.trans zn.symm)
      have ON := Lib.hid on
      have HC2W : Hid (∀ V, Keeps (fun k => k = B3) wr V → V.cell? ⟨B1, 2, none⟩ = some (.slice (some ⟨b6, o6, none⟩) m c)) := Lib.hid (fun V hV => HC2.out V (HKV.out.trans hV))
      have hjm : (j : Int) < m := by have := HQ.out; omega
      have hjs : ((j + 1 : Nat) : Int) - 1 = (j : Int) := by omega
      clear hst hl1 hl2 hl3 hnode hbx l1 sx zx sn zn on hCR hCX hCY HB hp hld
      rw [hjs]
      go_wp2_with fail
      refine wp_region_stores 8 [5, 7] [0, 1, 2, 3, 4, 5, 6, 7] (fun V => Keeps (fun k => k = B3) wr V) (fun V => V.heap[B3]? = some (.cells CX.toArray 34 (0, 0))) (by kernel_rfl) (by kernel_rfl) (fun _ _ h k => h.trans' k (fun _ _ h => h.elim)) (Lasts.block _ _) (((Keeps.refl _ _).drew)) (HBX.out) ?_
      refine T_value (get_op rfl) (by rfl) (by rfl) (.pointer (some ⟨B1, 2, none⟩)) (fun _ _ => by go_simp) ?_
      simp only [Act.put, List.setIfInBounds_toArray, List.set_cons_zero, List.set_cons_succ]
      refine T_cell (get_op rfl) (by rfl) (by rfl) 28 (.tmp 25) (by rfl) ⟨B1, 2, none⟩ (by rfl) (.slice (some ⟨b6, o6, none⟩) m c) _ (fun V hV => HC2W.out V hV) Tryd.underlying28 rfl ?_
      simp only [Act.put, List.setIfInBounds_toArray, List.set_cons_zero, List.set_cons_succ]
      refine T_value (get_op rfl) (by rfl) (by rfl) (.int .i64 (j : Int)) (fun _ _ => by go_simp) ?_
      simp only [Act.put, List.setIfInBounds_toArray, List.set_cons_zero, List.set_cons_succ]
      refine T_quiet (get_op rfl) (by rfl) (by rfl) (by rfl) ?_
      intro K hK
      go_big_quiet_op
      first | go_big_quiet_on | go_big_quiet_call ((intro _; rfl))
      refine T_load (get_op rfl) (by rfl) (by rfl) 34 (.tmp 28) (by rfl) b6 (o6 + j * 32) (by rfl) CR _ (fun V hV => HLD.out V hV) Tryd.underlying34 rfl HPI.out ?_
      simp only [Act.put, List.setIfInBounds_toArray, List.set_cons_zero, List.set_cons_succ]
      refine T_lload (get_op rfl) (by rfl) (by rfl) 34 (.tmp 3) (by rfl) B3 0 (by rfl) CX _ (Lasts.block _ _) (fun V hb hf => rangeAt_row hf) Tryd.underlying34 rfl SX.out ?_
      simp only [Act.put, List.setIfInBounds_toArray, List.set_cons_zero, List.set_cons_succ]
      refine T_call (get_op rfl) (by rfl) (by rfl) _ _ (.agg CY.toArray) (fun _ => by go_simp) (fun V hV => HNODE.out V) ?_
      simp only [Act.put, List.setIfInBounds_toArray, List.set_cons_zero, List.set_cons_succ]
      refine T_store (get_op rfl) (by rfl) (by rfl) 34 (.tmp 3) (.tmp 31) (by rfl) (by rfl) B3 (by rfl) CY.toArray CX.toArray (by rfl) 34 SN.out ZN.out ON.out (fun V => V.heap[B3]? = some (.cells CY.toArray 34 (0, 0))) (Lasts.block _ _) (fun V hb hf => ⟨hf, hb.trans' (Keeps.setRow _ _) (fun i hi h => h), setRow_heap _ _ _ _ _ _ hf⟩) ?_
      refine T_nil ?_
      intro w8 h8 r8
      simp only [List.drop_succ_cons, List.drop_zero]
      have KN := Lib.hid (HKV.out.trans h8)
      have HN6 := Lib.hid r8
      clear h8 r8
      go_wp2_with fail
      go_roundw
      case rel => exact ⟨j, by omega, by go_num, by rw [HCY.out]; exact HN6, KN⟩
      case measure => simp [intOf]
theorem rroot5_any (n : Nat) (O : Option Addr) (ol oc : Nat) (A : Option Addr) (c : Nat) (ps : List (List UInt8)) (w : World) (hP : PathAt w A ps) (he : ps.length = On.ones 64 n) (hn : n ≤ 18446744073709551615) (hc : ps.length ≤ c) :
    Calls Tryd.prog 37 #[.agg (fval n (.slice O ol oc) (.slice A ps.length c)).toArray] w fun e w' => e = .returned (.agg (bvs (Tr.peakRoot ps)).toArray) ∧ Keeps (fun _ => False) w w' := by
  rcases Nat.eq_zero_or_pos n with h0 | h0
  · subst h0
    have : ps = [] := List.eq_nil_of_length_eq_zero (by rw [he]; rfl)
    subst this
    exact rroot5_none _ _ w (fval_one _ _ _ _ _ _ _)
  · have h1 : 1 ≤ ps.length := by
      rcases Nat.eq_zero_or_pos ps.length with h | h
      · exact absurd (Tr.ones_eq_zero 64 n (by show n < 18446744073709551616; omega) (by omega)) (by omega)
      · exact h
    exact rroot5_more n _ A c ps w hP (by omega) h1 (by rw [he]; have := On.ones_le 64 n; omega) (fval_one _ _ _ _ _ _ _) hc
end Go.Proofs.YtnnhbgaeohdojaaDoor
