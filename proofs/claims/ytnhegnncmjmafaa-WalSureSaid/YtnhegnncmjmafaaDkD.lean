/-
  Disks: a front of a write is laid. WRITTEN BY wip/gen/mkdkc.py.
-/
import Derived.Test.YtnhegnncmjmafaaDkC
namespace Go.Proofs.Ytnhegnncmjmafaa
open Go.RowKit Go.BigFrame
set_option linter.unusedVariables false

theorem info_u8d : (Try.prog.info? 5).map (fun i => (i.zero, i.size, i.bytes)) = some (some (.int .u8 0), 1, 1) := by kernel_rfl
theorem size_u8d : (Try.prog.info? 5).map (·.size) = some 1 := by kernel_rfl
theorem slice_front (V : World) (B k : Nat) (hk : k ≤ 256) : (Instr.sliceAt 78 (.pointer (some ⟨B, 0, none⟩)) none (some (.int .i64 (k : Int))) none).run Try.prog V = .ok (.slice (some ⟨B, 0, none⟩) k 256) V := by
  have hz : Addr.add ⟨B, 0, none⟩ 0 = ⟨B, 0, none⟩ := rfl
  have he : Try.prog.arrayLen 78 = 256 := by kernel_rfl
  have hu : Try.prog.underlying 78 = some (.array (Try.prog.arrayLen 78) (Try.prog.elem 78)) := by kernel_rfl
  have hs : (sizeOf (Try.prog.elem 78)).run Try.prog V = .ok 1 V := by kernel_rfl
  rw [run_sliceAt_array_h (P := Try.prog) V 78 ⟨B, 0, none⟩ hu .i64 (k : Int) (by omega) (by rw [he]; omega), hs, he]
  simp [Result.andThen, slicedAt, hz]
theorem build_block (V : World) : (Instr.build 78 #[]).run Try.prog V = .ok (.agg (List.replicate 256 (Value.int .u8 0)).toArray) V := by kernel_rfl
theorem eq_block (x y : List UInt8) (hx : x.length = 256) (hy : y.length = 256) (W : World) : (binOp .eql 78 (.agg (bvs x).toArray) (.agg (bvs y).toArray)).run Try.prog W = .ok (.bool (x == y)) W := by
  obtain ⟨i0, hi, _⟩ := info_parts info_u8d
  rw [run_eql_bytes W 78 5 256 Try.underlying78 Try.underlying5 hi (by kernel_rfl) (by kernel_rfl) x y hx hy]
/-- The map of what is for good, behind a front that was laid. -/
theorem gv_lay {gf gf' : Int → Option Value} {good : Nat → List UInt8} (hg : ∀ i : Nat, (gf i).getD (arrv Dk.nought) = arrv (good i)) (p : Nat × List UInt8) (k : Nat) (v : Option Value) (he : gf' = upd gf (p.1 : Int) v) (hv : v.getD (arrv Dk.nought) = arrv (Dk.front p.2 (good p.1) k)) :
    ∀ i : Nat, (gf' i).getD (arrv Dk.nought) = arrv (Dk.lay good p k i) := by
  intro i
  subst he
  unfold Dk.lay
  by_cases hi : i = p.1
  · subst hi
    rw [upd_same, Dk.put_same, hv]
  · rw [upd_other _ _ (by omega), Dk.put_other _ _ hi, hg]
theorem Dsk.turn {w w' : World} {F : Nat → Prop} {g : Nat} {s : Dk.St} {gb lb : Nat} {A : Option Addr} {c : Nat} {gf gf' lf : Int → Option Value} {good : Nat → List UInt8} (h : Dsk w F g s gb lb A c gf lf) (hk : Keeps (fun j => j = gb) w w') (hm : IMap w' gb gf') (hg : ∀ i : Nat, (gf' i).getD (arrv Dk.nought) = arrv (good i)) (ho : ∀ i, (good i).length = 256) :
    Dsk w' F g { s with good := good } gb lb A c gf' lf :=
  ⟨h.row.keeps hk h.gb_ne.symm, hm, h.last.keeps hk h.ne.symm, hk.owns h.own (fun k hv => (h.own_ne k hv).2.1), h.ne, h.fg, h.fgb, h.flb, h.fown, hg, h.lv, ⟨h.ok.lo, h.ok.hi, ho, h.ok.loose, h.ok.wf, h.ok.aft⟩⟩
set_option maxRecDepth 100000 in
set_option maxHeartbeats 4000000 in
theorem lay_any (w : World) (F : Nat → Prop) (g : Nat) (s : Dk.St) (gb lb : Nat) (A : Option Addr) (c : Nat) (gf lf : Int → Option Value) (h : Dsk w F g s gb lb A c gf lf) (pi : Nat) (b : List UInt8) (k : Nat) (hb : b.length = 256) (hk : k ≤ 256) :
    Calls Try.prog 45 #[.pointer (some ⟨g, 0, none⟩), .agg (wcells (pi, b)).toArray, .int .i64 (k : Int)] w fun e w' => e = .returned (.tuple #[]) ∧ (∃ gf', Dsk w' F g { s with good := Dk.lay s.good (pi, b) k } gb lb A c gf' lf) ∧ Keeps (fun j => j = gb) w w' := by
  have hold := h.ok.good pi
  obtain ⟨WC, hWC⟩ : ∃ L, (wcells (pi, b)).toArray = L := ⟨_, rfl⟩
  obtain ⟨Z, hZ⟩ : ∃ Z, (bvs Dk.nought).toArray = Z := ⟨_, rfl⟩
  obtain ⟨OB, hOB⟩ : ∃ L, bvs (s.good pi) = L := ⟨_, rfl⟩
  obtain ⟨nb, hnb⟩ : ∃ x, Dk.front b (s.good pi) k = x := ⟨_, rfl⟩
  obtain ⟨NB, hNB⟩ : ∃ L, bvs nb = L := ⟨_, rfl⟩
  obtain ⟨CS, hCS⟩ : ∃ L, bvs (b.take k) = L := ⟨_, rfl⟩
  have hnl : nb.length = 256 := by rw [← hnb]; exact Dk.front_length _ _ _ hb hold
  obtain ⟨W0, hW0⟩ : ∃ W, w.alloc (.cells WC 80) = W := ⟨_, rfl⟩
  obtain ⟨Bw, hBw⟩ : ∃ x, w.heap.size = x := ⟨_, rfl⟩
  have k0 : Keeps (fun _ => False) w W0 := by rw [← hW0]; exact (Keeps.refl _ _).alloc _
  have rw0 : Row W0 Bw 80 (wcells (pi, b)) := by rw [← hW0, ← hBw, ← hWC]; exact heap_alloc_new w _
  have hBlt : Bw < W0.heap.size := rw0.lt
  have h0 := h.later k0
  have hz : ∀ V : World, (zeroValue 78).run Try.prog V = .ok (.agg Z) V := fun V => by rw [← hZ]; exact zero_block V
  have hal : ∀ V : World, (Instr.alloc 78 true (.tuple #[])).run Try.prog V = .ok (.pointer (some ⟨V.heap.size, 0, none⟩)) (V.alloc (.cells Z 78)) := fun V => by go_simp
  have hz1 : Z = (List.replicate 256 (Value.int .u8 0)).toArray := by
    rw [← hZ]
    have h := arrv_nought
    unfold arrv at h
    injection h
  have hzs : Z.size = 256 := by rw [hz1, List.size_toArray]; exact List.length_replicate
  have hbz : ∀ V : World, (Instr.build 78 #[]).run Try.prog V = .ok (.agg Z) V := fun V => by rw [hz1]; exact build_block V
  have hlk : (gf (pi : Int)).getD (.agg Z) = .agg OB.toArray := by rw [← hZ, ← hOB]; exact h.gv pi
  have hcmp : ∀ V : World, (binOp .eql 78 (.agg NB.toArray) (.agg Z)).run Try.prog V = .ok (.bool (nb == Dk.nought)) V := fun V => by rw [← hNB, ← hZ]; exact eq_block nb Dk.nought hnl (by unfold Dk.nought; exact List.length_replicate) V
  have hsp : (OB.toArray.toList.take 0 ++ (CS ++ OB.toArray.toList.drop (0 + CS.length))) = NB := by
    have hcl : CS.length = k := by rw [← hCS, bvs_length, List.length_take]; omega
    rw [List.take_zero, List.nil_append, Nat.zero_add, hcl, ← hNB, ← hnb, ← hCS, ← hOB]
    unfold Dk.front
    rw [← bvs_append, ← bvs_drop]
  have hcl : CS.length = Nat.min 256 k := by rw [← hCS, bvs_length, List.length_take, hb]; show min k 256 = min 256 k; omega
  have hc1 : ∀ j v, CS[j]? = some v → ∃ hj : j < 256, W0.cell? ⟨Bw, 1 + j, none⟩ = some v := by
    intro j v hv
    rw [← hCS, ← bvs_take, List.getElem?_take] at hv
    split at hv
    · have hj : j < 256 := by have := (List.getElem?_eq_some_iff.1 hv).1; rw [bvs_length, hb] at this; exact this
      refine ⟨hj, ?_⟩
      rw [rw0.cell, show 1 + j = j + 1 by omega]
      unfold wcells
      rw [List.getElem?_cons_succ]
      exact hv
    · cases hv
  have h1c : ∀ v ∈ CS, v.oneCell' = true := by rw [← hCS]; exact bvs_one _
  have hol : OB.length = 256 := by rw [← hOB, bvs_length, hold]
  have HZ := Lib.hid hz
  have HAL := Lib.hid hal
  have HLK := Lib.hid hlk
  have HC1 : Hid (∀ V, Later W0 V → V.cell? ⟨g, 1, none⟩ = some (.map (some gb))) := Lib.hid (fun V hV => (h0.row.keeps hV.out id).cell 1)
  have HW0 : Hid (∀ V, Later W0 V → V.cell? ⟨Bw, 0, none⟩ = some (.int .i64 (pi : Int))) := Lib.hid (fun V hV => (rw0.keeps hV.out id).cell 0)
  have HGM : Hid (∀ V, Later W0 V → IMap V gb gf) := Lib.hid (fun V hV => h0.good.keeps hV.out id)
  have SOB : Hid ((Try.prog.info? 78).map (·.size) = some OB.toArray.size) := Lib.hid (by rw [List.size_toArray, hol]; exact size_block)
  have ZOB : Hid (Z.size = OB.toArray.size) := Lib.hid (by rw [hzs, List.size_toArray, hol])
  have OOB : Hid (OB.toArray.all (·.oneCell') = true) := Lib.hid (by rw [← hOB]; exact bvs_all _)
  have hnbl : NB.length = 256 := by rw [← hNB, bvs_length, hnl]
  have SNB : Hid ((Try.prog.info? 78).map (·.size) = some NB.length) := Lib.hid (by rw [hnbl]; exact size_block)
  have SNB' : Hid ((Try.prog.info? 78).map (·.size) = some NB.toArray.size) := Lib.hid (by rw [List.size_toArray, hnbl]; exact size_block)
  have HBZ := Lib.hid hbz
  have HCMP := Lib.hid hcmp
  have HSP := Lib.hid hsp
  have HCL := Lib.hid hcl
  have HCC := Lib.hid hc1
  have HOL := Lib.hid hol
  have HONE := Lib.hid h1c
  have H0 := Lib.hid h0
  have HR0 := Lib.hid rw0
  have K0 := Lib.hid k0
  have HEQ := Lib.hid (And.intro hZ (And.intro hOB (And.intro hNB (And.intro hnb hnl))))
  have HHH := Lib.hid h
  have hgB : g < Bw := by rw [← hBw]; exact h.row.lt
  have hgbB : gb < Bw := by rw [← hBw]; exact h.good.lt
  clear hz hal hbz hz1 hzs hlk hcmp hsp hcl hc1 hol h1c h0 rw0 k0 hZ hOB hNB hnb hnl h hnbl hCS hold
  go_enter Try.func45, Try.ntmps45
  go_wp2_with fail
  refine wp_region_stores 9 [7, 8] [0, 1, 2, 3, 4, 5, 6, 7, 8] (Later W0) (fun _ => True) (by kernel_rfl) (by kernel_rfl) (Lasts.later W0) (Lasts.true) (⟨(Keeps.refl _ _).drew⟩) (trivial) ?_
  refine T_quiet (get_op rfl) (by rfl) (by rfl) (by rfl) ?_
  intro K hK
  go_big_quiet_op
  first | go_big_quiet_on | go_big_quiet_call ((intro _; rfl))
  refine T_value (get_op rfl) (by rfl) (by rfl) (.pointer (some ⟨g, 0, none⟩)) (fun _ _ => by go_simp) ?_
  simp only [Act.put, List.setIfInBounds_toArray, List.set_cons_zero, List.set_cons_succ]
  refine T_value (get_op rfl) (by rfl) (by rfl) (.pointer (some ⟨g, 1, none⟩)) (fun _ _ => by go_simp) ?_
  simp only [Act.put, List.setIfInBounds_toArray, List.set_cons_zero, List.set_cons_succ]
  refine T_cell (get_op rfl) (by rfl) (by rfl) 55 (.tmp 9) (by rfl) ⟨g, 1, none⟩ (by rfl) (.map (some gb)) _ (fun V hV => HC1.out V hV) Try.underlying55 rfl ?_
  simp only [Act.put, List.setIfInBounds_toArray, List.set_cons_zero, List.set_cons_succ]
  refine T_value (get_op rfl) (by rfl) (by rfl) (.pointer (some ⟨Bw, 0, none⟩)) (fun _ _ => by go_simp) ?_
  simp only [Act.put, List.setIfInBounds_toArray, List.set_cons_zero, List.set_cons_succ]
  refine T_cell (get_op rfl) (by rfl) (by rfl) 3 (.tmp 11) (by rfl) ⟨Bw, 0, none⟩ (by rfl) (.int .i64 (pi : Int)) _ (fun V hV => HW0.out V hV) Try.underlying3 rfl ?_
  simp only [Act.put, List.setIfInBounds_toArray, List.set_cons_zero, List.set_cons_succ]
  refine T_value (get_op rfl) (by rfl) (by rfl) (.agg OB.toArray) (fun _ _ => exec_look (P := Try.prog) (.tmp 10) (.tmp 12) 55 3 78 (by rfl) Try.underlying55 Try.underlying3 (.agg Z) HZ.out gb gf (pi : Int) (.agg OB.toArray) (by rfl) (by rfl) (HGM.out _ (by assumption)) HLK.out) ?_
  simp only [Act.put, List.setIfInBounds_toArray, List.set_cons_zero, List.set_cons_succ]
  refine T_alloc (get_op rfl) (by rfl) (by rfl) 78 Z (by rfl) HAL.out (Lasts.later W0) Lasts.true W0.heap.size (fun V hV => hV.out.size) ?_
  intro Bb hge
  simp only [Act.put, List.setIfInBounds_toArray, List.set_cons_zero, List.set_cons_succ]
  refine T_store (get_op rfl) (by rfl) (by rfl) 78 (.tmp 6) (.tmp 13) (by rfl) (by rfl) Bb (by rfl) OB.toArray Z (by rfl) 78 SOB.out ZOB.out OOB.out (fun V => V.heap[Bb]? = some (.cells OB.toArray 78 (0, 0))) (Lasts.block _ _) (fun V hb hf => ⟨hf.2, ⟨hb.out.trans' (Keeps.setRow _ _) (fun i hi h => by omega)⟩, setRow_heap _ _ _ _ _ _ hf.2⟩) ?_
  refine T_nil ?_
  intro V1 k1 r1
  simp only [List.drop_succ_cons, List.drop_nil]
  have K1 := Lib.hid k1.out
  have R1 : Hid (V1.heap[Bb]? = some (.cells OB.toArray 78 (0, 0))) := Lib.hid r1
  clear HC1 HLK HGM HAL SOB ZOB OOB HW0 k1 r1
  go_wp2_with fail
  refine wp_region_phase 4 (Later V1) (by kernel_rfl) (by kernel_rfl) (⟨(Keeps.refl _ _).drew⟩) ?_
  simp only [List.take_succ_cons, List.take_zero, List.drop_succ_cons, List.drop_zero]
  refine class_value (by rfl) (.int .i64 (k : Int)) (fun V hV => by go_simp) ?_
  simp only [Act.put, List.setIfInBounds_toArray, List.set_cons_zero, List.set_cons_succ]
  refine class_value (by rfl) (.slice (some ⟨Bb, 0, none⟩) k 256) (fun V hV => by have hsl := slice_front V Bb k hk; go_simp) ?_
  simp only [Act.put, List.setIfInBounds_toArray, List.set_cons_zero, List.set_cons_succ]
  refine class_value (by rfl) (.pointer (some ⟨Bw, 1, none⟩)) (fun V hV => by go_simp) ?_
  simp only [Act.put, List.setIfInBounds_toArray, List.set_cons_zero, List.set_cons_succ]
  refine class_value (by rfl) (.slice (some ⟨Bw, 1, none⟩) 256 256) (fun V hV => by go_simp) ?_
  simp only [Act.put, List.setIfInBounds_toArray, List.set_cons_zero, List.set_cons_succ]
  refine wpQuiet_nil ?_
  intro V2a k2a
  have R2a : Hid (V2a.heap[Bb]? = some (.cells OB.toArray 78 (0, 0))) := Lib.hid ((k2a.out.block Bb (Array.getElem?_eq_some_iff.1 R1.out).1 id).trans R1.out)
  have hbw2 : ∀ j v, CS[j]? = some v → V2a.cell? (Addr.add ⟨Bw, 1, none⟩ j) = some v := fun j v hv => by
    obtain ⟨hj, hc⟩ := HCC.out j v hv
    rw [add_plain]
    exact ((K1.out.trans k2a.out).cell (p := ⟨Bw, 1 + j, none⟩) hBlt id).trans hc
  have HBW2 := Lib.hid hbw2
  clear hbw2
  refine wpList_copy_own (by rfl) (.tmp 15) (.tmp 17) 33 33 (by rfl) 5 Try.underlying33 size_u8d Bb 0 k 256 ⟨Bw, 1, none⟩ 256 256 (by rfl) (by rfl) OB.toArray 78 R2a.out CS HCL.out HBW2.out (by rw [List.size_toArray, HOL.out, Nat.zero_add, HCL.out]; exact Nat.min_le_left _ _) HONE.out ?_
  have hsp : (OB.toArray.toList.take 0 ++ (CS ++ OB.toArray.toList.drop (0 + CS.length))) = NB := HSP.out
  rw [hsp]
  obtain ⟨V2, hV2⟩ : ∃ V, V2a.setRow Bb NB.toArray = V := ⟨_, rfl⟩
  have R2 : Hid (V2.heap[Bb]? = some (.cells NB.toArray 78 (0, 0))) := Lib.hid (by rw [← hV2]; exact setRow_heap _ _ _ _ _ _ R2a.out)
  have K2 : Hid (Keeps (fun _ => False) W0 V2) := Lib.hid ((K1.out.trans k2a.out).trans' (T := fun j => j = Bb) (by rw [← hV2]; exact Keeps.setRow _ _) (fun i hi e => by omega))
  have HNB : Hid (∀ V, Later V2 V → V.heap[Bb]? = some (.cells NB.toArray 78 (0, 0))) := Lib.hid (fun V hV => (hV.out.block Bb (Array.getElem?_eq_some_iff.1 R2.out).1 id).trans R2.out)
  have HW2 : Hid (∀ V, Later V2 V → V.cell? ⟨Bw, 0, none⟩ = some (.int .i64 (pi : Int))) := Lib.hid (fun V hV => (HR0.out.keeps (K2.out.trans hV.out) id).cell 0)
  have HC2 : Hid (∀ V, Later V2 V → V.cell? ⟨g, 1, none⟩ = some (.map (some gb))) := Lib.hid (fun V hV => (H0.out.row.keeps (K2.out.trans hV.out) id).cell 1)
  have HGM2 : Hid (∀ V, Later V2 V → IMap V gb gf) := Lib.hid (fun V hV => H0.out.good.keeps (K2.out.trans hV.out) id)
  have HDS2 : Hid (∀ V, Later V2 V → Dsk V F g s gb lb A c gf lf) := Lib.hid (fun V hV => H0.out.later (K2.out.trans hV.out))
  have hz := HZ.out
  obtain ⟨q, hq⟩ : ∃ q, (nb == Dk.nought) = q := ⟨_, rfl⟩
  rw [hq] at HCMP
  have HQ := Lib.hid hq
  rw [hV2]
  clear hsp hV2 R2a k2a HBW2 HSP HCL HCC HOL HONE hq H0 HR0
  cases q with
  | true =>
    go_wp2_with (first
      | (refine wpList_load_row rfl 78 _ rfl Bb rfl 78 NB.toArray (0, 0) _ R2.out Try.underlying78 rfl SNB'.out ?_)
      | (refine wpList_eq_agg_w (by rfl) .eql 78 _ (.tmp 19) (.tmp 20) (by rfl) NB.toArray Z (by rfl) (by rfl) (by kernel_rfl) (.bool true) (HCMP.out _) ?_))
    refine wp_region_phase 6 (Later V2) (by kernel_rfl) (by kernel_rfl) (⟨(Keeps.refl _ _).drew⟩) ?_
    simp only [List.take_succ_cons, List.take_zero, List.drop_succ_cons, List.drop_zero]
    refine class_value (by rfl) (.pointer (some ⟨g, 0, none⟩)) (fun V hV => by go_simp) ?_
    simp only [Act.put, List.setIfInBounds_toArray, List.set_cons_zero, List.set_cons_succ]
    refine class_value (by rfl) (.pointer (some ⟨g, 0, none⟩)) (fun V hV => by go_simp) ?_
    simp only [Act.put, List.setIfInBounds_toArray, List.set_cons_zero, List.set_cons_succ]
    refine class_value (by rfl) (.pointer (some ⟨g, 1, none⟩)) (fun V hV => by go_simp) ?_
    simp only [Act.put, List.setIfInBounds_toArray, List.set_cons_zero, List.set_cons_succ]
    refine class_cell (by rfl) 55 (.tmp 24) (by rfl) ⟨g, 1, none⟩ (by rfl) (.map (some gb)) _ (fun V hV => HC2.out V hV) Try.underlying55 rfl ?_
    simp only [Act.put, List.setIfInBounds_toArray, List.set_cons_zero, List.set_cons_succ]
    refine class_value (by rfl) (.pointer (some ⟨Bw, 0, none⟩)) (fun V hV => by go_simp) ?_
    simp only [Act.put, List.setIfInBounds_toArray, List.set_cons_zero, List.set_cons_succ]
    refine class_cell (by rfl) 3 (.tmp 26) (by rfl) ⟨Bw, 0, none⟩ (by rfl) (.int .i64 (pi : Int)) _ (fun V hV => HW2.out V hV) Try.underlying3 rfl ?_
    simp only [Act.put, List.setIfInBounds_toArray, List.set_cons_zero, List.set_cons_succ]
    refine wpQuiet_nil ?_
    intro V4 k4
    refine wpList_map_drop (by rfl) (.tmp 25) (.tmp 27) 55 3 78 (by rfl) Try.underlying55 Try.underlying3 gb gf (pi : Int) (by rfl) (by rfl) (HGM2.out V4 k4) ?_
    intro V5 m5 k5
    have hds := HDS2.out V4 k4
    have hkk : Keeps (fun j => j = gb) w V5 := (((K0.out.trans K2.out).trans k4.out).mono (fun _ _ h => h.elim)).trans' k5 (fun i _ e => e)
    have hgv := gv_lay HHH.out.gv (pi, b) k none rfl (by show arrv Dk.nought = _; rw [HEQ.out.2.2.2.1, beq_iff_eq.1 HQ.out])
    have fin := hds.turn k5 m5 hgv (Dk.lay_length _ _ _ HHH.out.ok.good hb)
    have FIN := Lib.hid (And.intro fin hkk)
    clear hds hkk hgv fin m5 k5 k4 HDS2 HGM2 HC2 HW2 HNB K2 K1 K0 R1 R2 HHH
    go_wp2_with fail
    refine bodyPost_ret (results_none rfl _ _ _) rfl ?_
    exact ⟨rfl, ⟨_, FIN.out.1⟩, FIN.out.2⟩
  | false =>
    go_wp2_with (first
      | (refine wpList_load_row rfl 78 _ rfl Bb rfl 78 NB.toArray (0, 0) _ R2.out Try.underlying78 rfl SNB'.out ?_)
      | (refine wpList_eq_agg_w (by rfl) .eql 78 _ (.tmp 19) (.tmp 20) (by rfl) NB.toArray Z (by rfl) (by rfl) (by kernel_rfl) (.bool false) (HCMP.out _) ?_))
    refine wp_region_phase 7 (Later V2) (by kernel_rfl) (by kernel_rfl) (⟨(Keeps.refl _ _).drew⟩) ?_
    simp only [List.take_succ_cons, List.take_zero, List.drop_succ_cons, List.drop_zero]
    refine class_value (by rfl) (.pointer (some ⟨g, 0, none⟩)) (fun V hV => by go_simp) ?_
    simp only [Act.put, List.setIfInBounds_toArray, List.set_cons_zero, List.set_cons_succ]
    refine class_value (by rfl) (.pointer (some ⟨g, 0, none⟩)) (fun V hV => by go_simp) ?_
    simp only [Act.put, List.setIfInBounds_toArray, List.set_cons_zero, List.set_cons_succ]
    refine class_value (by rfl) (.pointer (some ⟨g, 1, none⟩)) (fun V hV => by go_simp) ?_
    simp only [Act.put, List.setIfInBounds_toArray, List.set_cons_zero, List.set_cons_succ]
    refine class_cell (by rfl) 55 (.tmp 30) (by rfl) ⟨g, 1, none⟩ (by rfl) (.map (some gb)) _ (fun V hV => HC2.out V hV) Try.underlying55 rfl ?_
    simp only [Act.put, List.setIfInBounds_toArray, List.set_cons_zero, List.set_cons_succ]
    refine class_value (by rfl) (.pointer (some ⟨Bw, 0, none⟩)) (fun V hV => by go_simp) ?_
    simp only [Act.put, List.setIfInBounds_toArray, List.set_cons_zero, List.set_cons_succ]
    refine class_cell (by rfl) 3 (.tmp 32) (by rfl) ⟨Bw, 0, none⟩ (by rfl) (.int .i64 (pi : Int)) _ (fun V hV => HW2.out V hV) Try.underlying3 rfl ?_
    simp only [Act.put, List.setIfInBounds_toArray, List.set_cons_zero, List.set_cons_succ]
    refine class_mid (by rfl) 78 (.tmp 6) (by rfl) Bb 0 (by rfl) NB _ (fun V hV => rangeAt_row (HNB.out V hV)) Try.underlying78 rfl SNB.out ?_
    simp only [Act.put, List.setIfInBounds_toArray, List.set_cons_zero, List.set_cons_succ]
    refine wpQuiet_nil ?_
    intro V4 k4
    refine wpList_map_store (by rfl) (.tmp 31) (.tmp 33) (.tmp 34) 55 3 78 (by rfl) Try.underlying55 Try.underlying3 gb gf (pi : Int) (.agg NB.toArray) (by rfl) (by rfl) (by rfl) (HGM2.out V4 k4) ?_
    intro V5 m5 k5
    have hds := HDS2.out V4 k4
    have hkk : Keeps (fun j => j = gb) w V5 := (((K0.out.trans K2.out).trans k4.out).mono (fun _ _ h => h.elim)).trans' k5 (fun i _ e => e)
    have hgv := gv_lay HHH.out.gv (pi, b) k (some (.agg NB.toArray)) rfl (by show Value.agg NB.toArray = _; rw [HEQ.out.2.2.2.1, ← HEQ.out.2.2.1]; rfl)
    have fin := hds.turn k5 m5 hgv (Dk.lay_length _ _ _ HHH.out.ok.good hb)
    have FIN := Lib.hid (And.intro fin hkk)
    clear hds hkk hgv fin m5 k5 k4 HDS2 HGM2 HC2 HW2 HNB K2 K1 K0 R1 R2 HHH
    go_wp2_with fail
    go_end0
    exact ⟨rfl, ⟨_, FIN.out.1⟩, FIN.out.2⟩
end Go.Proofs.Ytnhegnncmjmafaa
