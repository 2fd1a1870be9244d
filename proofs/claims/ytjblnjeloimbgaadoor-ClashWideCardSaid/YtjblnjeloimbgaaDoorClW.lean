/-
  The law ClashWide walked: whole hashes are the trees' own. WRITTEN BY wip/gen/mkwide.py.
-/
import Derived.Test.YtjblnjeloimbgaaDoorClG
import Derived.Test.YtjblnjeloimbgaaDoorTrH
import Derived.Test.YtjblnjeloimbgaaDoorClO
namespace Go.Proofs.YtjblnjeloimbgaaDoor
open Go.RowKit Go.BigFrame
set_option linter.unusedVariables false

set_option maxRecDepth 100000 in
set_option maxHeartbeats 4000000 in
theorem wide_in (n0 k m0 : Nat) (x y m : Int) (A2 : Option Addr) (c2 : Nat) (xs : List UInt8) (A3 : Option Addr) (c3 : Nat) (ps : List (List UInt8)) (rt : List UInt8) (W : World) (hT : Tabs W) (hs : Src W A2 (bvs xs)) (hx : xs.length ≤ 60) (hc2 : xs.length ≤ c2) (hm2 : c2 ≤ 9223372036854775807) (hP : PathAt W A3 ps) (hp : ps.length ≤ 10) (hc3 : ps.length ≤ c3) (hm3 : c3 ≤ 9223372036854775807) (hr : rt.length = 32)
    (hx0 : 0 ≤ x ∧ x ≤ 255) (hy0 : 0 ≤ y ∧ y ≤ 255) (hm0 : 0 ≤ m ∧ m ≤ 255) (hn0 : n0 ≤ 29) (tx : x.tmod 30 = (n0 : Int)) (ty : y.tmod ((n0 + 1 : Nat) : Int) = (k : Int)) (hk : k < n0 + 1) (tm : m.tmod ((n0 + 1 : Nat) : Int) = (m0 : Int)) (hm1 : m0 < n0 + 1) :
    Calls Tryd.prog 6 #[.int .u8 x, .int .u8 y, .slice A2 xs.length c2, .slice A3 ps.length c3, .int .u8 m, .agg (bvs rt).toArray] W fun e W' => e = .returned (.bool true) ∧ Below W.heap.size W W' := by
  obtain ⟨n, hn⟩ : ∃ n, n0 + 1 = n := ⟨_, rfl⟩
  obtain ⟨m1, hm11⟩ : ∃ m, m0 + 1 = m := ⟨_, rfl⟩
  rw [hn] at ty tm hk hm1
  obtain ⟨Z, hZ, hz, hzs⟩ := zero_hash
  obtain ⟨gr, hgr⟩ : ∃ q, W.heap.size = q := ⟨_, rfl⟩
  obtain ⟨RR, hRR⟩ : ∃ R, bvs rt = R := ⟨_, rfl⟩
  obtain ⟨W1, hW1⟩ : ∃ V, W.alloc (.cells RR.toArray 26) = V := ⟨_, rfl⟩
  have k1 : Keeps (fun _ => False) W W1 := by rw [← hW1]; exact (Keeps.refl _ _).alloc _
  have r1 : Row W1 gr 26 RR := by rw [← hW1, ← hgr]; exact heap_alloc_new W _
  have lx := Cl.prow_length 32 n k xs ps
  obtain ⟨l1, l2⟩ := Cl.crow_length 32 m1 n rt ps hr hP.all (by omega)
  have hmade := fun V (hV : Keeps (fun _ => False) W V) => cmade_path 32 n k A2 c2 xs A3 c3 ps V (hT.keeps hV id id) (hs.keeps hV (fun _ _ _ => id)) hc2 hm2 (by omega) (hP.keeps hV (fun _ _ => id)) (by omega) hc3 hm3
  have hver := fun V (hV : Keeps (fun _ => False) W V) => verify_any (Cl.prow 32 n k xs ps).2.1 n k A2 A3 c2 c3 xs ps V (hT.keeps hV id id) lx (hs.keeps hV (fun _ _ _ => id)) hc2 hm2 (by omega) (hP.keeps hV (fun _ _ => id)) hc3 hm3 (by omega)
  have hchd := fun V (hV : Keeps (fun _ => False) W V) => chained_any 32 m1 n rt A3 c3 ps V (hT.keeps hV id id) hr (hP.keeps hV (fun _ _ => id)) (by omega) (by omega) hc3 hm3
  have hcv := fun V (hV : Keeps (fun _ => False) W V) => cverify_any m1 n rt (Cl.crow 32 m1 n rt ps).2.2.1 A3 ps c3 V (hT.keeps hV id id) hr l2 (hP.keeps hV (fun _ _ => id)) hc3 hm3 (by omega) (by omega)
  rw [wid_32] at hmade hchd
  have hwe := Cl.wide_same n k xs ps hk (by omega)
  have hwc := Cl.wide_chain m1 n rt ps (by omega) (by omega) (by omega)
  have hpe := Cl.prow_errs 32 n k xs ps hk
  rw [hwe] at hver
  have hba := ckey_build m1 rt hr
  have hbb := ckey_build n (Cl.crow 32 m1 n rt ps).2.2.1 l2
  have la := ckey_length m1 rt hr
  have lb := ckey_length n (Cl.crow 32 m1 n rt ps).2.2.1 l2
  have oa := ckey_one m1 rt
  obtain ⟨s1, y1, i1⟩ := arr_hash _ lx
  obtain ⟨s2, y2, i2⟩ := arr_hash _ l1
  obtain ⟨s3, y3, i3⟩ := arr_hash _ l2
  obtain ⟨s4, y4, i4⟩ := arr_hash _ hr
  obtain ⟨u0, hu0, _⟩ := info_parts info_u8t
  have heq : ∀ V, (binOp .eql 26 (.agg (bvs (Cl.crow 32 m1 n rt ps).2.1).toArray) (.agg (bvs rt).toArray)).run Tryd.prog V = .ok (.bool ((Cl.crow 32 m1 n rt ps).2.1 == rt)) V := fun V => run_eql_bytes (P := Tryd.prog) V 26 5 32 Tryd.underlying26 Tryd.underlying5 hu0 (by kernel_rfl) (by kernel_rfl) _ _ l1 hr
  obtain ⟨C, hC⟩ : ∃ C, Cl.crow 32 m1 n rt ps = C := ⟨_, rfl⟩
  obtain ⟨D, hD⟩ : ∃ D, Cl.prow 32 n k xs ps = D := ⟨_, rfl⟩
  rw [hC] at hchd hcv hwc hbb lb s2 y2 i2 s3 y3 i3 heq
  rw [hD] at hmade hver hpe s1 y1 i1
  obtain ⟨j, hj⟩ : ∃ j, Tr.cverify m1 rt n C.2.2.1 ps = j := ⟨_, rfl⟩
  rw [hj] at hcv hwc
  obtain ⟨_, rh, er⟩ := D
  obtain ⟨_, rx, ry, g⟩ := C
  simp only at hmade hver hpe hchd hcv hwc hbb lb s1 y1 i1 s2 y2 i2 s3 y3 i3 heq
  obtain ⟨KA, hKA⟩ : ∃ K, keyCells m1 rt = K := ⟨_, rfl⟩
  obtain ⟨KB, hKB⟩ : ∃ K, keyCells n ry = K := ⟨_, rfl⟩
  obtain ⟨RH, hRH⟩ : ∃ R, bvs rh = R := ⟨_, rfl⟩
  obtain ⟨RX, hRX⟩ : ∃ R, bvs rx = R := ⟨_, rfl⟩
  obtain ⟨RY, hRY⟩ : ∃ R, bvs ry = R := ⟨_, rfl⟩
  obtain ⟨q2, hq2⟩ : ∃ q, xs.length = q := ⟨_, rfl⟩
  obtain ⟨q3, hq3⟩ : ∃ q, ps.length = q := ⟨_, rfl⟩
  rw [hKA] at hchd hcv hba la oa
  rw [hKB] at hcv hbb lb
  rw [hRH] at hmade hver s1 y1 i1
  rw [hRX] at hchd heq s2 y2 i2
  rw [hRY] at hchd hbb s3 y3 i3
  rw [hRR] at hba heq s4 y4 i4
  rw [hq2] at hmade hver hx
  rw [hq3] at hmade hver hchd hcv hp
  rw [hRR, hq2, hq3]
  obtain ⟨ZK, hZK⟩ : ∃ Z, (keyCells 0 (List.replicate 32 0)).toArray = Z := ⟨_, rfl⟩
  have hzk : ∀ w : World, (zeroValue 35).run Tryd.prog w = .ok (.agg ZK) w := fun _ => by subst hZK; kernel_rfl
  have hzks : ZK.size = 33 := by rw [← hZK, List.size_toArray]; exact ckey_length 0 _ (by simp)
  have hal : ∀ V : World, (Instr.alloc 35 true (.tuple #[])).run Tryd.prog V = .ok (.pointer (some ⟨V.heap.size, 0, none⟩)) (V.alloc (.cells ZK 35)) := fun V => by go_simp
  have HAL := Lib.hid hal
  have SKA : Hid ((Tryd.prog.info? 35).map (·.size) = some KA.toArray.size) := Lib.hid (by rw [List.size_toArray, la]; exact ckey_size)
  have ZKA : Hid (ZK.size = KA.toArray.size) := Lib.hid (by rw [hzks, List.size_toArray, la])
  have OKA := Lib.hid oa
  have HAW := Lib.hid (awake6_any W1 (hT.keeps k1 id id))
  have HMADE := Lib.hid hmade
  have HVER := Lib.hid hver
  have HCHD := Lib.hid hchd
  have HCV := Lib.hid hcv
  have HWC := Lib.hid hwc
  have HPE := Lib.hid hpe
  have HBA := Lib.hid hba
  have HBB := Lib.hid hbb
  have HEQ := Lib.hid heq
  have SH := Lib.hid s1
  have ZH := Lib.hid (hzs.trans y1.symm)
  have OH := Lib.hid i1
  have SX := Lib.hid s2
  have ZX := Lib.hid (hzs.trans y2.symm)
  have OX := Lib.hid i2
  have SY := Lib.hid s3
  have ZY := Lib.hid (hzs.trans y3.symm)
  have OY := Lib.hid i3
  have SR := Lib.hid s4
  have SRR : Hid ((Tryd.prog.info? 26).map (·.size) = some RR.length) := Lib.hid (by have := s4; simpa using this)
  have K1 := Lib.hid k1
  have R1 := Lib.hid r1
  have b60 : ¬ (60 : Int) < (q2 : Int) := by omega
  have b10 : ¬ (10 : Int) < (q3 : Int) := by omega
  have n1 : (n0 : Int) + 1 = (n : Int) := by omega
  have n29 : (n0 : Int) ≤ 29 := by omega
  have n30 : (n : Int) ≤ 30 := by omega
  have nz : ((n : Int) == 0) = false := by rw [beq_eq_false_iff_ne]; omega
  have nz' : ¬ (n : Int) = 0 := by omega
  have nz2 : ¬ n = 0 := by omega
  have m11 : (m0 : Int) + 1 = (m1 : Int) := by omega
  have m29 : (m0 : Int) ≤ 29 := by omega
  have hxa := hx0.1
  have hxb := hx0.2
  have hya := hy0.1
  have hyb := hy0.2
  have hma := hm0.1
  have hmb := hm0.2
  have hwm : IntKind.u64.wrap m = m := by rw [IntKind.wrap_u64]; omega
  have hw0 : IntKind.u64.wrap (m0 : Int) = (m0 : Int) := by rw [IntKind.wrap_u64]; omega
  have hw1 : IntKind.u64.wrap (m1 : Int) = (m1 : Int) := by rw [IntKind.wrap_u64]; omega
  clear hal hmade hver hchd hcv hwc hpe hba hbb heq s1 y1 i1 s2 y2 i2 s3 y3 i3 s4 y4 i4 la lb oa lx l1 l2 hwe hZK hzks hZ hzs k1 r1 hC hD hj hKA hKB hRH hRX hRY hRR hq2 hq3 hT hs hP hr hu0 hx hp hc2 hm2 hc3 hm3 hx0 hy0 hm0 hn hm11
  go_enter Tryd.func6, Tryd.ntmps6
  go_wp2_with fail
  refine HAW.out.mono ?_
  rintro e w1 ⟨rfl, k1⟩
  have K2 := Lib.hid (K1.out.trans k1)
  have R2 := Lib.hid (R1.out.keeps k1 id)
  clear k1 HAW K1 R1
  go_wp2_with fail
  refine (HMADE.out w1 K2.out).mono ?_
  rintro e2 w2 ⟨rfl, k2⟩
  obtain ⟨g16, hg16⟩ : ∃ q, w2.heap.size = q := ⟨_, rfl⟩
  obtain ⟨W3, hW3⟩ : ∃ V, w2.alloc (.cells Z 26) = V := ⟨_, rfl⟩
  obtain ⟨W4, hW4⟩ : ∃ V, W3.setRow g16 RH.toArray = V := ⟨_, rfl⟩
  have k3 : Keeps (fun _ => False) w2 W3 := by rw [← hW3]; exact (Keeps.refl _ _).alloc _
  have r3 : W3.heap[g16]? = some (.cells Z 26 (0, 0)) := by rw [← hW3, ← hg16]; exact heap_alloc_new w2 _
  have k4 : Keeps (fun k => k = g16) W3 W4 := by rw [← hW4]; exact Keeps.setRow _ _
  have r4 : W4.heap[g16]? = some (.cells RH.toArray 26 (0, 0)) := by rw [← hW4]; exact setRow_heap _ _ _ _ _ _ r3
  have k24 : Keeps (fun _ => False) w2 W4 := k3.trans' k4 (fun i hi e => by omega)
  have K4 := Lib.hid ((K2.out.trans k2).trans k24)
  have R4 := Lib.hid ((R2.out.keeps k2 id).keeps k24 id)
  have Q3 := Lib.hid r3
  have Q4 := Lib.hid r4
  clear k2 k3 k4 r3 r4 k24 K2 R2 HMADE
  go_wp2_with (first
    | (refine wpList_store_row rfl 26 _ _ rfl g16 RH.toArray rfl rfl 26 Z Q3.out SH.out ZH.out OH.out ?_; rw [hW4])
    | (refine wpList_load_row_w (by rfl) 26 (.tmp 16) (by rfl) g16 (by rfl) 26 RH.toArray (0, 0) _ Q4.out Tryd.underlying26 rfl SH.out ?_))
  refine (HVER.out W4 K4.out).mono ?_
  rintro e5 wr ⟨rfl, k5⟩
  have K5 := Lib.hid (K4.out.trans k5)
  have R5 := Lib.hid (R4.out.keeps k5 id)
  have HRR : Hid (∀ V, Later wr V → V.rangeAt gr 0 RR) := Lib.hid (fun V hV => rangeAt_row (R5.out.keeps hV.out id))
  clear k5 K4 R4 HVER Q3 Q4 hW3 hW4
  go_wp2_with fail
  refine wp_region_stores 9 [7, 8] [0, 1, 2, 3, 4, 5, 6, 7, 8] (Later wr) (fun _ => True) (by kernel_rfl) (by kernel_rfl) (Lasts.later wr) (Lasts.true) (⟨(Keeps.refl _ _).drew⟩) (trivial) ?_
  refine T_value (get_op rfl) (by rfl) (by rfl) (.int .u8 m) (fun _ _ => by go_simp) ?_
  simp only [Act.put, List.setIfInBounds_toArray, List.set_cons_zero, List.set_cons_succ]
  refine T_value (get_op rfl) (by rfl) (by rfl) (.int .u64 m) (fun _ _ => by go_simp) ?_
  simp only [Act.put, List.setIfInBounds_toArray, List.set_cons_zero, List.set_cons_succ]
  refine T_value (get_op rfl) (by rfl) (by rfl) (.int .u64 (n : Int)) (fun _ _ => by go_simp) ?_
  simp only [Act.put, List.setIfInBounds_toArray, List.set_cons_zero, List.set_cons_succ]
  refine T_value (get_op rfl) (by rfl) (by rfl) (.int .u64 (m0 : Int)) (fun _ _ => by go_simp) ?_
  simp only [Act.put, List.setIfInBounds_toArray, List.set_cons_zero, List.set_cons_succ]
  refine T_value (get_op rfl) (by rfl) (by rfl) (.int .u64 (m1 : Int)) (fun _ _ => by go_simp) ?_
  simp only [Act.put, List.setIfInBounds_toArray, List.set_cons_zero, List.set_cons_succ]
  refine T_load (get_op rfl) (by rfl) (by rfl) 26 (.tmp 11) (by rfl) gr 0 (by rfl) RR _ (fun V hV => HRR.out V hV) Tryd.underlying26 rfl SRR.out ?_
  simp only [Act.put, List.setIfInBounds_toArray, List.set_cons_zero, List.set_cons_succ]
  refine T_built (get_op rfl) (by rfl) (by rfl) 35 [(0, .tmp 61), (1, .tmp 62)] (by rfl) [(0, .int .u64 (m1 : Int)), (1, .agg RR.toArray)] (by rfl) (.agg KA.toArray) HBA.out ?_
  simp only [Act.put, List.setIfInBounds_toArray, List.set_cons_zero, List.set_cons_succ]
  refine T_alloc (get_op rfl) (by rfl) (by rfl) 35 ZK (by rfl) HAL.out (Lasts.later wr) Lasts.true wr.heap.size (fun V hV => hV.out.size) ?_
  intro g19 hge
  simp only [Act.put, List.setIfInBounds_toArray, List.set_cons_zero, List.set_cons_succ]
  refine T_store (get_op rfl) (by rfl) (by rfl) 35 (.tmp 19) (.tmp 63) (by rfl) (by rfl) g19 (by rfl) KA.toArray ZK (by rfl) 35 SKA.out ZKA.out OKA.out (fun V => V.heap[g19]? = some (.cells KA.toArray 35 (0, 0))) (Lasts.block _ _) (fun V hb hf => ⟨hf.2, ⟨hb.out.trans' (Keeps.setRow _ _) (fun i hi h => by omega)⟩, setRow_heap _ _ _ _ _ _ hf.2⟩) ?_
  refine T_nil ?_
  intro V8 h8 f8
  simp only [List.drop_succ_cons, List.drop_nil]
  have K8 := Lib.hid (K5.out.trans h8.out)
  have R8 := Lib.hid (R5.out.keeps h8.out id)
  have F8 := Lib.hid f8
  clear h8 f8 K5 R5 HRR
  go_wp2_with (refine wpList_load_row_w (by rfl) 35 (.tmp 19) (by rfl) g19 (by rfl) 35 KA.toArray (0, 0) _ F8.out Tryd.underlying35 rfl SKA.out ?_)
  refine (HCHD.out V8 K8.out).mono ?_
  rintro e9 w9 ⟨rfl, k9⟩
  obtain ⟨g20, hg20⟩ : ∃ q, w9.heap.size = q := ⟨_, rfl⟩
  obtain ⟨X1, hX1⟩ : ∃ V, w9.alloc (.cells Z 26) = V := ⟨_, rfl⟩
  obtain ⟨g21, hg21⟩ : ∃ q, X1.heap.size = q := ⟨_, rfl⟩
  obtain ⟨X2, hX2⟩ : ∃ V, X1.alloc (.cells Z 26) = V := ⟨_, rfl⟩
  obtain ⟨X3, hX3⟩ : ∃ V, X2.setRow g20 RX.toArray = V := ⟨_, rfl⟩
  obtain ⟨X4, hX4⟩ : ∃ V, X3.setRow g21 RY.toArray = V := ⟨_, rfl⟩
  have j1 : Keeps (fun _ => False) w9 X1 := by rw [← hX1]; exact (Keeps.refl _ _).alloc _
  have j2 : Keeps (fun _ => False) X1 X2 := by rw [← hX2]; exact (Keeps.refl _ _).alloc _
  have z1 : g21 = g20 + 1 := by rw [← hg21, ← hX1, World.size_alloc, hg20]
  have p20 : X2.heap[g20]? = some (.cells Z 26 (0, 0)) := (j2.block _ (by omega) id).trans (by rw [← hX1, ← hg20]; exact heap_alloc_new w9 _)
  have p21 : X2.heap[g21]? = some (.cells Z 26 (0, 0)) := by rw [← hX2, ← hg21]; exact heap_alloc_new X1 _
  have j3 : Keeps (fun k => k = g20) X2 X3 := by rw [← hX3]; exact Keeps.setRow _ _
  have j4 : Keeps (fun k => k = g21) X3 X4 := by rw [← hX4]; exact Keeps.setRow _ _
  have p321 : X3.heap[g21]? = some (.cells Z 26 (0, 0)) := (j3.block _ (Array.getElem?_eq_some_iff.1 p21).1 (by omega)).trans p21
  have p320 : X3.heap[g20]? = some (.cells RX.toArray 26 (0, 0)) := by rw [← hX3]; exact setRow_heap _ _ _ _ _ _ p20
  have p420 : X4.heap[g20]? = some (.cells RX.toArray 26 (0, 0)) := (j4.block _ (Array.getElem?_eq_some_iff.1 p320).1 (by omega)).trans p320
  have p421 : X4.heap[g21]? = some (.cells RY.toArray 26 (0, 0)) := by rw [← hX4]; exact setRow_heap _ _ _ _ _ _ p321
  have j94 : Keeps (fun _ => False) w9 X4 := ((j1.trans j2).trans' j3 (fun i hi e => by omega)).trans' j4 (fun i hi e => by omega)
  have P20 := Lib.hid p20
  have P321 := Lib.hid p321
  have P420 := Lib.hid p420
  have P421 := Lib.hid p421
  have j89 := k9.trans j94
  have KX := Lib.hid (K8.out.trans j89)
  have RX4 := Lib.hid (R8.out.keeps j89 id)
  have FX4 := Lib.hid ((j89.block _ (Array.getElem?_eq_some_iff.1 F8.out).1 id).trans F8.out)
  clear k9 j1 j2 z1 p20 p21 j3 j4 p321 p320 p420 p421 j94 j89 K8 R8 F8 HCHD
  go_wp2_with (first
    | (refine wpList_store_row rfl 26 _ _ rfl g20 RX.toArray rfl rfl 26 Z P20.out SX.out ZX.out OX.out ?_; rw [hX3])
    | (refine wpList_store_row rfl 26 _ _ rfl g21 RY.toArray rfl rfl 26 Z P321.out SY.out ZY.out OY.out ?_; rw [hX4])
    | (refine wpList_load_row_w (by rfl) 35 (.tmp 19) (by rfl) g19 (by rfl) 35 KA.toArray (0, 0) _ FX4.out Tryd.underlying35 rfl SKA.out ?_)
    | (refine wpList_load_row_w (by rfl) 26 (.tmp 21) (by rfl) g21 (by rfl) 26 RY.toArray (0, 0) _ P421.out Tryd.underlying26 rfl SY.out ?_)
    | (refine wpList_builds (by rfl) 35 [(0, .tmp 73), (1, .tmp 74)] (by rfl) [(0, .int .u64 (n : Int)), (1, .agg RY.toArray)] (by rfl) (.agg KB.toArray) (HBB.out _) ?_))
  refine (HCV.out X4 KX.out).mono ?_
  rintro e10 wf ⟨rfl, kf⟩
  have KF := Lib.hid (KX.out.trans kf)
  have REr : Hid (wf.heap[gr]? = some (.cells RR.toArray 26 (0, 0))) := Lib.hid (RX4.out.keeps kf id)
  have RE20 := Lib.hid ((kf.block _ (Array.getElem?_eq_some_iff.1 P420.out).1 id).trans P420.out)
  clear kf KX RX4 FX4 P20 P321 P420 P421 hX1 hX2 hX3 hX4 HCV
  have hwc := HWC.out
  have hpe := HPE.out
  clear HWC HPE
  rcases hwc with ⟨rfl, rfl⟩ | ⟨rfl, rfl⟩
  · rcases hpe with rfl | rfl
    · go_wp2_with fail
      go_ret
      exact ⟨rfl, KF.out.below (Nat.le_refl _) (fun k hk => id)⟩
    · go_wp2_with fail
      go_ret
      exact ⟨rfl, KF.out.below (Nat.le_refl _) (fun k hk => id)⟩
  · by_cases hxr : rx = rt
    · have HEQ2 : Hid ((binOp .eql 26 (.agg RX.toArray) (.agg RR.toArray)).run Tryd.prog wf = .ok (.bool true) wf) := Lib.hid (by rw [HEQ.out, hxr, beq_self_eq_true])
      rw [if_pos hxr]
      clear hxr HEQ
      rcases hpe with rfl | rfl
      · go_wp2_with (first
          | (refine wpList_load_row_w (by rfl) 26 (.tmp 20) (by rfl) g20 (by rfl) 26 RX.toArray (0, 0) _ RE20.out Tryd.underlying26 rfl SX.out ?_)
          | (refine wpList_load_row_w (by rfl) 26 (.tmp 11) (by rfl) gr (by rfl) 26 RR.toArray (0, 0) _ REr.out Tryd.underlying26 rfl SR.out ?_)
          | (refine wpList_eq_agg_w (by rfl) .eql 26 26 (.tmp 107) (.tmp 108) (by rfl) RX.toArray RR.toArray (by rfl) (by rfl) (by kernel_rfl) (.bool true) HEQ2.out ?_))
        go_ret
        exact ⟨rfl, KF.out.below (Nat.le_refl _) (fun k hk => id)⟩
      · go_wp2_with (first
          | (refine wpList_load_row_w (by rfl) 26 (.tmp 20) (by rfl) g20 (by rfl) 26 RX.toArray (0, 0) _ RE20.out Tryd.underlying26 rfl SX.out ?_)
          | (refine wpList_load_row_w (by rfl) 26 (.tmp 11) (by rfl) gr (by rfl) 26 RR.toArray (0, 0) _ REr.out Tryd.underlying26 rfl SR.out ?_)
          | (refine wpList_eq_agg_w (by rfl) .eql 26 26 (.tmp 107) (.tmp 108) (by rfl) RX.toArray RR.toArray (by rfl) (by rfl) (by kernel_rfl) (.bool true) HEQ2.out ?_))
        go_ret
        exact ⟨rfl, KF.out.below (Nat.le_refl _) (fun k hk => id)⟩
    · have HEQ2 : Hid ((binOp .eql 26 (.agg RX.toArray) (.agg RR.toArray)).run Tryd.prog wf = .ok (.bool false) wf) := Lib.hid (by rw [HEQ.out, beq_eq_false_iff_ne.2 hxr])
      rw [if_neg hxr]
      clear hxr HEQ
      rcases hpe with rfl | rfl
      · go_wp2_with (first
          | (refine wpList_load_row_w (by rfl) 26 (.tmp 20) (by rfl) g20 (by rfl) 26 RX.toArray (0, 0) _ RE20.out Tryd.underlying26 rfl SX.out ?_)
          | (refine wpList_load_row_w (by rfl) 26 (.tmp 11) (by rfl) gr (by rfl) 26 RR.toArray (0, 0) _ REr.out Tryd.underlying26 rfl SR.out ?_)
          | (refine wpList_eq_agg_w (by rfl) .eql 26 26 (.tmp 107) (.tmp 108) (by rfl) RX.toArray RR.toArray (by rfl) (by rfl) (by kernel_rfl) (.bool false) HEQ2.out ?_))
        go_ret
        exact ⟨rfl, KF.out.below (Nat.le_refl _) (fun k hk => id)⟩
      · go_wp2_with (first
          | (refine wpList_load_row_w (by rfl) 26 (.tmp 20) (by rfl) g20 (by rfl) 26 RX.toArray (0, 0) _ RE20.out Tryd.underlying26 rfl SX.out ?_)
          | (refine wpList_load_row_w (by rfl) 26 (.tmp 11) (by rfl) gr (by rfl) 26 RR.toArray (0, 0) _ REr.out Tryd.underlying26 rfl SR.out ?_)
          | (refine wpList_eq_agg_w (by rfl) .eql 26 26 (.tmp 107) (.tmp 108) (by rfl) RX.toArray RR.toArray (by rfl) (by rfl) (by kernel_rfl) (.bool false) HEQ2.out ?_))
        go_ret
        exact ⟨rfl, KF.out.below (Nat.le_refl _) (fun k hk => id)⟩
theorem wide_few (x y m : Int) (A2 A3 : Option Addr) (q2 q3 c2 c3 : Nat) (rt : List UInt8) (W : World) (hT : Tabs W) (hr : rt.length = 32) (hx0 : 0 ≤ x ∧ x ≤ 255) (hy0 : 0 ≤ y ∧ y ≤ 255) (n0 k : Nat) (hn0 : n0 ≤ 29) (tx : x.tmod 30 = (n0 : Int)) (ty : y.tmod ((n0 + 1 : Nat) : Int) = (k : Int)) (hk : k < n0 + 1) (h : 60 < q2 ∨ 10 < q3) :
    Calls Tryd.prog 6 #[.int .u8 x, .int .u8 y, .slice A2 q2 c2, .slice A3 q3 c3, .int .u8 m, .agg (bvs rt).toArray] W fun e W' => e = .returned (.bool true) ∧ Below W.heap.size W W' := by
  obtain ⟨n, hn⟩ : ∃ n, n0 + 1 = n := ⟨_, rfl⟩
  rw [hn] at ty hk
  obtain ⟨RR, hRR⟩ : ∃ R, (bvs rt).toArray = R := ⟨_, rfl⟩
  obtain ⟨W1, hW1⟩ : ∃ V, W.alloc (.cells RR 26) = V := ⟨_, rfl⟩
  have k1 : Keeps (fun _ => False) W W1 := by rw [← hW1]; exact (Keeps.refl _ _).alloc _
  have HAW := Lib.hid (awake6_any W1 (hT.keeps k1 id id))
  have K1 := Lib.hid k1
  have n1 : (n0 : Int) + 1 = (n : Int) := by omega
  have n29 : (n0 : Int) ≤ 29 := by omega
  have n30 : (n : Int) ≤ 30 := by omega
  have nz : ((n : Int) == 0) = false := by rw [beq_eq_false_iff_ne]; omega
  have nz' : ¬ (n : Int) = 0 := by omega
  have hxa := hx0.1
  have hxb := hx0.2
  have hya := hy0.1
  have hyb := hy0.2
  rw [hRR]
  clear hx0 hy0 hn k1 hT hRR hr
  go_enter Tryd.func6, Tryd.ntmps6
  go_wp2_with fail
  refine HAW.out.mono ?_
  rintro e w1 ⟨rfl, k1⟩
  have K2 := Lib.hid (K1.out.trans k1)
  clear k1 HAW K1
  by_cases h60 : 60 < q2
  · have b60 : (60 : Int) < (q2 : Int) := by omega
    clear h
    go_wp2_with fail
    go_ret
    exact ⟨rfl, K2.out.below (Nat.le_refl _) (fun k hk => id)⟩
  · have b60 : ¬ (60 : Int) < (q2 : Int) := by omega
    have b10 : (10 : Int) < (q3 : Int) := by omega
    clear h
    go_wp2_with fail
    go_ret
    exact ⟨rfl, K2.out.below (Nat.le_refl _) (fun k hk => id)⟩
theorem wide_walk (x y : Int) (A2 : Option Addr) (l2 c2 : Nat) (zs : List Int) (A3 : Option Addr) (l3 c3 : Nat) (hs : List (List UInt8)) (m : Int) (rt : List UInt8) (W : World) (hT : Tabs W) (wx : (Lit.int .u8 x).wf = true) (wy : (Lit.int .u8 y).wf = true) (h2 : IsRowU .u8 W A2 l2 c2 zs) (h3 : IsHashes W A3 l3 c3 hs) (wm : (Lit.int .u8 m).wf = true) (wr : rt.length = 32) :
    Calls Tryd.prog 6 #[.int .u8 x, .int .u8 y, .slice A2 l2 c2, .slice A3 l3 c3, .int .u8 m, .agg (bvs rt).toArray] W fun e W' => e = .returned (.bool true) ∧ Below W.heap.size W W' := by
  have bx := bounds_u8 wx
  have by' := bounds_u8 wy
  have bm := bounds_u8 wm
  have hP := PathAt.of_hs h3
  obtain ⟨xs, rfl, hs2, hc2, hm2⟩ := h2.src
  obtain ⟨rfl, hc3, hm3, _, _⟩ := h3
  obtain ⟨n0, hn0, tx⟩ := crem_in x 30 bx.1 (by omega)
  obtain ⟨k, hk, ty⟩ := crem_in y (n0 + 1) by'.1 (by omega)
  obtain ⟨m0, hm0, tm⟩ := crem_in m (n0 + 1) bm.1 (by omega)
  by_cases h : 60 < xs.length ∨ 10 < hs.length
  · exact wide_few x y m A2 A3 _ _ c2 c3 rt W hT wr bx by' n0 k (by omega) tx ty hk h
  · exact wide_in n0 k m0 x y m A2 c2 xs A3 c3 hs rt W hT hs2 (by omega) hc2 hm2 hP (by omega) hc3 hm3 wr bx by' bm (by omega) tx ty hk tm hm0
end Go.Proofs.YtjblnjeloimbgaaDoor
