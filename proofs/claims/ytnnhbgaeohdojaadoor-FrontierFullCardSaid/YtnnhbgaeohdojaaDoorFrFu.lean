/-
  The law FrontierFull walked: of the greatest size no entry comes any more. WRITTEN BY wip/gen/mkfrfu.py.
-/
import Derived.Test.YtnnhbgaeohdojaaDoorFrT
import Derived.Test.YtnnhbgaeohdojaaDoorOpens
namespace Go.Proofs.YtnnhbgaeohdojaaDoor
open Go.RowKit Go.BigFrame
set_option linter.unusedVariables false

theorem ones_full : On.ones 64 18446744073709551615 = 64 := by decide +kernel
theorem Tr.peakRoot_length (ps : List (List UInt8)) (h : ∀ p ∈ ps, p.length = 32) : (Tr.peakRoot ps).length = 32 := by
  unfold Tr.peakRoot
  cases hr : ps.reverse with
  | nil => rfl
  | cons r rs =>
    show (rs.foldl (fun h p => Tr.node p h) r).length = 32
    have h0 : r.length = 32 := h r (by rw [← List.mem_reverse, hr]; simp)
    clear hr
    induction rs generalizing r with
    | nil => exact h0
    | cons x rs ih => exact ih _ (Tr.node_length _ _)
structure PkV where
  val : Option Addr × Nat
set_option maxRecDepth 100000 in
set_option maxHeartbeats 1500000 in
theorem ffull_long (z : List UInt8) (A : Option Addr) (l c : Nat) (W : World) (hT : Tabs W) (hz : z.length = 32) (hl : 100 < l) :
    Calls Tryd.prog 8 #[.agg (bvs z).toArray, .slice A l c] W fun e W' => e = .returned (.bool true) ∧ Below W.heap.size W W' := by
  obtain ⟨W1, hW1⟩ : ∃ V, W.alloc (.cells (bvs z).toArray 34) = V := ⟨_, rfl⟩
  have k0 : Keeps (fun _ => False) W W1 := by rw [← hW1]; exact (Keeps.refl _ _).alloc _
  have HAW := Lib.hid (awake5_any W1 (hT.keeps k0 id id))
  have hl' : (100 : Int) < l := by omega
  clear hT hz
  go_enter Tryd.func8, Tryd.ntmps8
  go_wp2_with fail
  refine HAW.out.mono ?_
  rintro e1 w1 ⟨rfl, k1⟩
  go_wp2
  go_ret
  exact ⟨rfl, keeps_below3 (k0.trans k1)⟩
set_option maxRecDepth 100000 in
set_option maxHeartbeats 1500000 in
theorem ffull_in (z : List UInt8) (A : Option Addr) (l c : Nat) (W : World) (hT : Tabs W) (hz : z.length = 32) (hl : l ≤ 100) :
    Calls Tryd.prog 8 #[.agg (bvs z).toArray, .slice A l c] W fun e W' => e = .returned (.bool true) ∧ Below W.heap.size W W' := by
  obtain ⟨W1, hW1⟩ : ∃ V, W.alloc (.cells (bvs z).toArray 34) = V := ⟨_, rfl⟩
  obtain ⟨B0, hB0⟩ : ∃ q, W.heap.size = q := ⟨_, rfl⟩
  have k0 : Keeps (fun _ => False) W W1 := by rw [← hW1]; exact (Keeps.refl _ _).alloc _
  have r0 : W1.heap[B0]? = some (.cells (bvs z).toArray 34 (0, 0)) := by rw [← hW1, ← hB0]; exact heap_alloc_new W _
  have HAW := Lib.hid (awake5_any W1 (hT.keeps k0 id id))
  have hl' : ¬ (100 : Int) < l := by omega
  have hld : decide ((100 : Int) < l) = false := by rw [decide_eq_false_iff_not]; exact hl'
  obtain ⟨ih, zh, hih, hzh, hsh, hbh, hzsh⟩ := info_hash
  have HII := Lib.hid (And.intro hih (And.intro hzh (And.intro hsh (And.intro hbh hzsh))))
  have hbs := fun V => build_hash z hz V
  have szz : (Tryd.prog.info? 34).map (·.size) = some (bvs z).length := by rw [bvs_length, hz]; exact size_hash'
  have hzl : (bvs z).length = 32 := by rw [bvs_length, hz]
  have HONE := Lib.hid (bvs_one z)
  have HREP : Hid (∀ i, flat (List.replicate i z) ++ bvs z = flat (List.replicate (i + 1) z)) := Lib.hid (fun i => by rw [List.replicate_succ', flat_snoc])
  have HALLZ : Hid (∀ p ∈ List.replicate 64 z, p.length = 32) := Lib.hid (fun p hp => by rw [(List.mem_replicate.1 hp).2]; exact hz)
  obtain ⟨C, hC⟩ : ∃ C, bvs z = C := ⟨_, rfl⟩
  rw [hC] at r0 hbs szz hzl HONE HREP hW1
  have HBS := Lib.hid hbs
  have SZZ := Lib.hid szz
  have HZL := Lib.hid hzl
  have HT := Lib.hid hT
  have K0 := Lib.hid k0
  have R0 := Lib.hid r0
  clear hih hzh hsh hbh hzsh hT hbs szz hzl hz k0 r0
  go_enter Tryd.func8, Tryd.ntmps8
  go_wp2_with fail
  try rw [hW1]
  refine HAW.out.mono ?_
  rintro e1 w1 ⟨rfl, k1⟩
  have HB0 := Lib.hid hB0
  clear hC hW1 hB0
  obtain ⟨b, hb⟩ : ∃ q, w1.heap.size = q := ⟨_, rfl⟩
  have HB : Hid (w1.heap.size = b) := Lib.hid hb
  have R1 : Hid (∀ V, Keeps (fun _ => False) w1 V → V.heap[B0]? = some (.cells C.toArray 34 (0, 0))) := Lib.hid (fun V hV => ((k1.trans hV).block _ (Array.getElem?_eq_some_iff.1 R0.out).1 id).trans R0.out)
  have K1 := Lib.hid (K0.out.trans k1)
  clear k1 hb
  go_wp2_with fail
  go_loopw [6, 7] (fun lv iv wr => ∃ (i : Nat) (A2 : Option Addr) (c2 : Nat), i ≤ 64 ∧ lv = .slice A2 i c2 ∧ iv = .int .i64 (i : Int) ∧ Hid (wr.ownsRow b 34 32 (.slice A2 i c2) i (flat (List.replicate i z))) ∧ Hid (Keeps (fun _ => False) w1 wr)) (fun _ iv _ => 64 - (intOf iv).toNat)
  case atStart => exact ⟨0, none, 0, by omega, rfl, rfl, Lib.hid (World.ownsRow_nil _ _ _ _), Lib.hid (Keeps.refl _ _)⟩
  case round =>
    obtain ⟨i, A2, c2, hi, rfl, rfl, HO, HK⟩ := hrel
    by_cases hlt : i < 64
    · have hi64 : (i : Int) < 64 := by omega
      have hr := R1.out wr HK.out
      have hmid : wr.rangeAt B0 0 C := rangeAt_row hr
      have hbw : b ≤ wr.heap.size := by rw [← HB.out]; exact HK.out.size
      obtain ⟨V1, hV1⟩ : ∃ V, wr.alloc (.cells C.toArray 34) = V := ⟨_, rfl⟩
      have kv1 : Keeps (fun _ => False) wr V1 := by rw [← hV1]; exact (Keeps.refl _ _).alloc _
      have rv1 : V1.heap[wr.heap.size]? = some (.cells C.toArray 34 (0, 0)) := by rw [← hV1]; exact heap_alloc_new wr _
      have hbv : b ≤ V1.heap.size := Nat.le_trans hbw kv1.size
      have HMID := Lib.hid hmid
      have KV1 := Lib.hid kv1
      have RV1 := Lib.hid rv1
      have HBSW := Lib.hid (HBS.out wr)
      rw [hV1] at HBSW
      clear hr hmid kv1 rv1 hV1
      go_wp2_with (first
        | (refine wpList_load_mid_w (by rfl) 34 (.tmp 2) (by rfl) B0 0 (by rfl) C _ HMID.out Tryd.underlying34 rfl SZZ.out ?_)
        | (refine wpList_buildSlice_run (by rfl) 28 1 0 (.tmp 25) (by rfl) _ _ (by rfl) HBSW.out ?_)
        | (refine wpList_append_own _ (by rfl) (.tmp 24) (.tmp 26) 28 (by rfl) b 34 ih zh 32 32 Tryd.underlying28 HII.out.1 HII.out.2.1 HII.out.2.2.1 HII.out.2.2.2.1 HII.out.2.2.2.2 (by decide) (.slice A2 i c2) i (flat (List.replicate i z)) (by rfl) (KV1.out.owns HO.out (fun _ _ => id)) ⟨wr.heap.size, 0, none⟩ 1 1 C (by rfl) HZL.out (World.news_of_block RV1.out) HONE.out (by unfold maxLen; omega) (by omega) hbv ?_; intro v3 V3 ho3 hg3 _; have HO3 := Lib.hid ho3; have HG3 := Lib.hid hg3; obtain ⟨A3, c3, rfl⟩ := own_slice ho3; clear ho3 hg3))
      have ho2 := KV1.out.owns HO.out (fun _ _ => id)
      have k23 : Keeps (fun k => (Value.slice A2 i c2).ownBlock = some k) V1 V3 := (Keeps.refl _ _).grown HG3.out (fun _ _ h => h)
      have kw3 : Keeps (fun _ => False) w1 V3 := (HK.out.trans KV1.out).trans' k23 (fun k hk e => by
        obtain ⟨_, _, hbk⟩ := own_block ho2 k e
        have := HB.out
        omega)
      have HO4 : Hid (V3.ownsRow b 34 32 (.slice A3 (i + 1) c3) (i + 1) (flat (List.replicate (i + 1) z))) := Lib.hid (by rw [← HREP.out]; exact HO3.out)
      have KW3 := Lib.hid kw3
      clear ho2 k23 kw3 HO3 HG3
      go_roundw
      case rel => exact ⟨i + 1, A3, c3, by omega, rfl, by go_num, HO4, KW3⟩
      case measure => simp [intOf]; omega
    · obtain rfl : i = 64 := by omega
      have hcap := own_cap HO.out
      have hc63 : (63 : Int) ≤ c2 := by have := hcap.2.1; omega
      have hP := PathAt.of_own' HO.out HALLZ.out
      have hlen : (List.replicate 64 z).length = 64 := List.length_replicate
      have hfr := from_any 18446744073709551615 A2 c2 (List.replicate 64 z) wr (by omega) hP (by rw [hlen]; exact ones_full.symm)
      have hfn := fun V => from_not 18446744073709551615 A2 63 c2 V (by omega) (by omega) (by rw [ones_full]; omega)
      rw [hlen] at hfr
      obtain ⟨ps, hps⟩ : ∃ q, List.replicate 64 z = q := ⟨_, rfl⟩
      rw [hps] at hfr hlen
      have HFR := Lib.hid hfr
      have HFN := Lib.hid hfn
      have HLEN := Lib.hid hlen
      have KR := Lib.hid (K1.out.trans HK.out)
      clear hcap hP hfr hfn hlen hps HO HK HREP HALLZ
      go_wp2_with fail
      refine HFR.out.mono ?_
      rintro e w5 ⟨g, rfl, hf5, k5⟩
      have HF5 := Lib.hid hf5
      have K5 := Lib.hid (KR.out.trans k5)
      clear hf5 k5 HFR
      go_wp2_with fail
      refine (HFN.out w5).mono ?_
      rintro e w6 ⟨rfl, h6⟩
      obtain rfl : w5 = w6 := h6.symm
      have hro := froot_any wr.heap.size g 18446744073709551615 ps w5 (HT.out.keeps K5.out id id) HF5.out (by omega) (by rw [HLEN.out]; exact ones_full.symm)
      have hro2 := fun V (hV : Keeps (fun _ => False) w5 V) => froot_any wr.heap.size g 18446744073709551615 ps V (HT.out.keeps (K5.out.trans hV) id id) (HF5.out.later hV) (by omega) (by rw [HLEN.out]; exact ones_full.symm)
      have hrl : (Tr.peakRoot ps).length = 32 := Tr.peakRoot_length ps HF5.out.all
      obtain ⟨ro, hroo⟩ : ∃ r, Tr.peakRoot ps = r := ⟨_, rfl⟩
      rw [hroo] at hro hro2 hrl
      obtain ⟨s1, z1, o1⟩ := arr_hash ro hrl
      obtain ⟨Z, hZ, hz, hzs⟩ := zero_hash
      obtain ⟨u0, hu0, _⟩ := info_parts info_u8t
      have heq : ∀ V, (binOp .eql 34 (.agg (bvs ro).toArray) (.agg (bvs ro).toArray)).run Tryd.prog V = .ok (.bool true) V := fun V => by
        rw [run_eql_bytes (P := Tryd.prog) V 34 5 32 Tryd.underlying34 Tryd.underlying5 hu0 (by kernel_rfl) (by kernel_rfl) ro ro hrl hrl]
        simp
      have sr : (Tryd.prog.info? 34).map (·.size) = some (bvs ro).length := by rw [bvs_length, hrl]; exact size_hash'
      obtain ⟨R, hR⟩ : ∃ R, bvs ro = R := ⟨_, rfl⟩
      rw [hR] at hro hro2 s1 z1 o1 heq sr
      have HRO := Lib.hid hro
      have HRO2 := Lib.hid hro2
      have HEQ := Lib.hid heq
      have SR := Lib.hid sr
      have S1 := Lib.hid s1
      have ZZ := Lib.hid (hzs.trans z1.symm)
      have O1 := Lib.hid o1
      clear hro hro2 heq sr s1 z1 o1 hzs hrl hroo hR hu0 hZ
      go_wp2_with fail
      refine HRO.out.mono ?_
      rintro e w7 ⟨rfl, k7⟩
      obtain ⟨W8, hW8⟩ : ∃ V, w7.alloc (.cells Z 34) = V := ⟨_, rfl⟩
      obtain ⟨B12, hB12⟩ : ∃ q, w7.heap.size = q := ⟨_, rfl⟩
      have k8 : Keeps (fun _ => False) w7 W8 := by rw [← hW8]; exact (Keeps.refl _ _).alloc _
      have r8 : W8.heap[B12]? = some (.cells Z 34 (0, 0)) := by rw [← hW8, ← hB12]; exact heap_alloc_new w7 _
      obtain ⟨w9, hw9⟩ : ∃ V, W8.setRow B12 R.toArray = V := ⟨_, rfl⟩
      have ks9 : Keeps (fun k => k = B12) W8 w9 := by rw [← hw9]; exact Keeps.setRow B12 R.toArray
      have k59 : Keeps (fun _ => False) w5 w9 := (k7.trans k8).trans' ks9 (fun k hk e => by have := k7.size; omega)
      have r9 : w9.heap[B12]? = some (.cells R.toArray 34 (0, 0)) := by rw [← hw9]; exact setRow_heap _ _ _ _ _ _ r8
      have HLD : Hid (∀ V, Later w9 V → V.rangeAt B12 0 R) := Lib.hid (fun V hV => rangeAt_row ((hV.out.block _ (Array.getElem?_eq_some_iff.1 r9).1 id).trans r9))
      have HF9 : Hid (∀ V, Later w9 V → Fro V wr.heap.size g 18446744073709551615 ps) := Lib.hid (fun V hV => HF5.out.later (k59.trans hV.out))
      have HADD := Lib.hid (fadd_full wr.heap.size g ps A l c w9 (HF5.out.later k59))
      have HROOT := Lib.hid (fun V (hV : Later w9 V) => HRO2.out V (k59.trans hV.out))
      have HSIZE : Hid (∀ V, Later w9 V → Calls Tryd.prog 33 #[.pointer (some ⟨g, 0, none⟩)] V fun e w' => e = .returned (.int .u64 18446744073709551615) ∧ Keeps (fun _ => False) V w') := Lib.hid (fun V hV => (size_any wr.heap.size g 18446744073709551615 ps V (HF9.out V hV)).mono fun e w' h => ⟨h.1, by rw [h.2]; exact Keeps.refl _ _⟩)
      have HPEAKS : Hid (∀ V, Later w9 V → Calls Tryd.prog 35 #[.pointer (some ⟨g, 0, none⟩)] V fun e w' => ∃ x : PkV, e = .returned (.slice (Prod.fst (PkV.val x)) 64 (Prod.snd (PkV.val x))) ∧ Later w9 w' ∧ True) := Lib.hid (fun V hV => (peaks_any wr.heap.size g 18446744073709551615 ps V (HF9.out V hV) (by rw [HLEN.out]; omega)).mono fun e w' h => by
        obtain ⟨v, h1, h2, h3⟩ := h
        rw [HLEN.out] at h2
        obtain ⟨A9, c9, rfl⟩ := own_slice h2
        exact ⟨⟨(A9, c9)⟩, h1, ⟨hV.out.trans h3⟩, trivial⟩)
      have R8 := Lib.hid r8
      have FIN : Hid (∀ V, Later w9 V → Keeps (fun _ => False) W V) := Lib.hid (fun V hV => K5.out.trans (k59.trans hV.out))
      clear k8 r8 ks9 k59 r9 k7 HF9 HRO2 HRO
      go_wp2_with (first
        | (refine wpList_store_row rfl 34 _ _ rfl B12 R.toArray rfl rfl 34 Z R8.out S1.out ZZ.out O1.out ?_)
        | (rw [hW8, hB12])
        | (rw [hw9]))
      refine HADD.out.mono ?_
      rintro e w10 ⟨rfl, h10⟩
      obtain rfl : w9 = w10 := h10.symm
      clear hW8 hw9 R8
      go_wp2_with fail
      refine wp_region_stores 24 [19] [0, 1, 2, 3, 4, 5, 6, 7, 8, 9, 10, 11, 12, 13, 14, 15, 16, 17, 18, 19, 20, 21, 22, 23] (Later w9) (fun _ => True) (by kernel_rfl) (by kernel_rfl) (Lasts.later w9) (Lasts.true) (⟨(Keeps.refl _ _).drew⟩) (trivial) ?_
      refine T_quiet (get_op rfl) (by rfl) (by rfl) (by rfl) ?_
      intro K hK
      go_big_quiet_op
      first | go_big_quiet_on | go_big_quiet_call ((intro _; rfl))
      refine T_value (get_op rfl) (by rfl) (by rfl) (.bool true) (fun _ _ => by go_simp) ?_
      simp only [Act.put, List.setIfInBounds_toArray, List.set_cons_zero, List.set_cons_succ]
      refine T_quiet (get_op rfl) (by rfl) (by rfl) (by rfl) ?_
      intro K hK
      go_big_quiet_op
      first | go_big_quiet_on | go_big_quiet_call ((intro _; rfl))
      refine T_quiet (get_op rfl) (by rfl) (by rfl) (by rfl) ?_
      intro K hK
      go_big_quiet_op
      first | go_big_quiet_on | go_big_quiet_call ((intro _; rfl))
      refine T_value (get_op rfl) (by rfl) (by rfl) (.bool true) (fun _ _ => by go_simp) ?_
      simp only [Act.put, List.setIfInBounds_toArray, List.set_cons_zero, List.set_cons_succ]
      refine T_value (get_op rfl) (by rfl) (by rfl) (.bool true) (fun _ _ => by go_simp) ?_
      simp only [Act.put, List.setIfInBounds_toArray, List.set_cons_zero, List.set_cons_succ]
      refine T_quiet (get_op rfl) (by rfl) (by rfl) (by rfl) ?_
      intro K hK
      go_big_quiet_op
      first | go_big_quiet_on | go_big_quiet_call ((intro _; rfl))
      refine T_value (get_op rfl) (by rfl) (by rfl) (.pointer (some ⟨g, 0, none⟩)) (fun _ _ => by go_simp) ?_
      simp only [Act.put, List.setIfInBounds_toArray, List.set_cons_zero, List.set_cons_succ]
      refine T_call (get_op rfl) (by rfl) (by rfl) _ _ (.agg R.toArray) (fun _ => by go_simp) (fun V hV => HROOT.out V hV) ?_
      simp only [Act.put, List.setIfInBounds_toArray, List.set_cons_zero, List.set_cons_succ]
      refine T_load (get_op rfl) (by rfl) (by rfl) 34 (.tmp 12) (by rfl) B12 0 (by rfl) R _ (fun V hV => HLD.out V hV) Tryd.underlying34 rfl SR.out ?_
      simp only [Act.put, List.setIfInBounds_toArray, List.set_cons_zero, List.set_cons_succ]
      refine T_eq (get_op rfl) (by rfl) (by rfl) .eql 34 _ (.tmp 58) (.tmp 59) (by rfl) R.toArray R.toArray (by rfl) (by rfl) (by kernel_rfl) (.bool true) (HEQ.out) ?_
      simp only [Act.put, List.setIfInBounds_toArray, List.set_cons_zero, List.set_cons_succ]
      refine T_value (get_op rfl) (by rfl) (by rfl) (.bool true) (fun _ _ => by go_simp) ?_
      simp only [Act.put, List.setIfInBounds_toArray, List.set_cons_zero, List.set_cons_succ]
      refine T_quiet (get_op rfl) (by rfl) (by rfl) (by rfl) ?_
      intro K hK
      go_big_quiet_op
      first | go_big_quiet_on | go_big_quiet_call ((intro _; rfl))
      refine T_value (get_op rfl) (by rfl) (by rfl) (.pointer (some ⟨g, 0, none⟩)) (fun _ _ => by go_simp) ?_
      simp only [Act.put, List.setIfInBounds_toArray, List.set_cons_zero, List.set_cons_succ]
      refine T_call (get_op rfl) (by rfl) (by rfl) _ _ (.int .u64 18446744073709551615) (fun _ => by go_simp) (fun V hV => HSIZE.out V hV) ?_
      simp only [Act.put, List.setIfInBounds_toArray, List.set_cons_zero, List.set_cons_succ]
      refine T_value (get_op rfl) (by rfl) (by rfl) (.bool true) (fun _ _ => by go_simp) ?_
      simp only [Act.put, List.setIfInBounds_toArray, List.set_cons_zero, List.set_cons_succ]
      refine T_value (get_op rfl) (by rfl) (by rfl) (.bool true) (fun _ _ => by go_simp) ?_
      simp only [Act.put, List.setIfInBounds_toArray, List.set_cons_zero, List.set_cons_succ]
      refine T_quiet (get_op rfl) (by rfl) (by rfl) (by rfl) ?_
      intro K hK
      go_big_quiet_op
      first | go_big_quiet_on | go_big_quiet_call ((intro _; rfl))
      refine T_value (get_op rfl) (by rfl) (by rfl) (.pointer (some ⟨g, 0, none⟩)) (fun _ _ => by go_simp) ?_
      simp only [Act.put, List.setIfInBounds_toArray, List.set_cons_zero, List.set_cons_succ]
      refine T_enterx (get_op rfl) (by rfl) (by rfl) _ _ (fun x => (.slice (Prod.fst (PkV.val x)) 64 (Prod.snd (PkV.val x)))) (fun _ => by go_simp) (fun _ => True) (Lasts.true) (fun V hb hf => HPEAKS.out V hb) ?_
      intro pk
      simp only [Act.put, List.setIfInBounds_toArray, List.set_cons_zero, List.set_cons_succ]
      refine T_value (get_op rfl) (by rfl) (by rfl) (.int .i64 64) (fun _ _ => by go_simp) ?_
      simp only [Act.put, List.setIfInBounds_toArray, List.set_cons_zero, List.set_cons_succ]
      refine T_value (get_op rfl) (by rfl) (by rfl) (.bool true) (fun _ _ => by go_simp) ?_
      simp only [Act.put, List.setIfInBounds_toArray, List.set_cons_zero, List.set_cons_succ]
      refine T_value (get_op rfl) (by rfl) (by rfl) (.bool true) (fun _ _ => by go_simp) ?_
      simp only [Act.put, List.setIfInBounds_toArray, List.set_cons_zero, List.set_cons_succ]
      refine T_quiet (get_op rfl) (by rfl) (by rfl) (by rfl) ?_
      intro K hK
      go_big_quiet_op
      first | go_big_quiet_on | go_big_quiet_call ((intro _; rfl))
      refine T_nil ?_
      intro w11 h11 _
      have hfin := FIN.out w11 h11
      simp only [List.drop_succ_cons, List.drop_zero]
      go_wp2
      go_ret
      exact ⟨rfl, keeps_below3 hfin⟩
theorem ffull_walk (z : List UInt8) (A : Option Addr) (len c : Nat) (zs : List Int) (W : World) (hT : Tabs W) (h0 : z.length = 32) (h1 : IsRowU .u8 W A len c zs) :
    Calls Tryd.prog 8 #[.agg (bvs z).toArray, .slice A len c] W fun e W' => e = .returned (.bool true) ∧ Below W.heap.size W W' := by
  rcases Nat.lt_or_ge 100 len with h | h
  · exact ffull_long z A len c W hT h0 h
  · exact ffull_in z A len c W hT h0 h
end Go.Proofs.YtnnhbgaeohdojaaDoor
