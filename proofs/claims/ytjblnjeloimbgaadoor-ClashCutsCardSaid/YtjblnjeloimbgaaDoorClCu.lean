/-
  The law ClashCuts walked: a narrow hash is a hash but for noughts. WRITTEN BY wip/gen/mkcuts.py.
-/
import Derived.Test.YtjblnjeloimbgaaDoorClU
namespace Go.Proofs.YtjblnjeloimbgaaDoor
open Go.RowKit Go.BigFrame
set_option linter.unusedVariables false

theorem wid_min (a b : Int) : Cl.wid (min a b) = min (Cl.wid b) (Cl.wid a) := by unfold Cl.wid; omega
theorem wid_zero : Cl.wid 0 = 0 := by decide
set_option maxRecDepth 100000 in
set_option maxHeartbeats 2000000 in
theorem cuts_walk (a b : Int) (h : List UInt8) (W : World) (hT : Tabs W) (wa : (Lit.int .i64 a).wf = true) (wb : (Lit.int .i64 b).wf = true) (wh : h.length = 32) :
    Calls Tryd.prog 5 #[.int .i64 a, .int .i64 b, .agg (bvs h).toArray] W fun e W' => e = .returned (.bool true) ∧ Below W.heap.size W W' := by
  obtain ⟨Z, hZ, hz, hzs⟩ := zero_hash
  obtain ⟨gh, hgh⟩ : ∃ q, W.heap.size = q := ⟨_, rfl⟩
  obtain ⟨RH, hRH⟩ : ∃ R, bvs h = R := ⟨_, rfl⟩
  have hxl : (Cl.cut (Cl.wid a) h).length = 32 := by rw [Cl.cut_length, wh]
  obtain ⟨RX, hRX⟩ : ∃ R, bvs (Cl.cut (Cl.wid a) h) = R := ⟨_, rfl⟩
  obtain ⟨W1, hW1⟩ : ∃ V, W.alloc (.cells RH.toArray 26) = V := ⟨_, rfl⟩
  have k1 : Keeps (fun _ => False) W W1 := by rw [← hW1]; exact (Keeps.refl _ _).alloc _
  have r1 : Row W1 gh 26 RH := by rw [← hW1, ← hgh]; exact heap_alloc_new W _
  have hc0 := fun V => cut_any a h wh V
  have hc1 := fun V => cut_any b _ hxl V
  have hc2 := fun V => cut_any (min a b) h wh V
  have hc3 := fun V => cut_any 32 h wh V
  have hc4 := fun V => cut_any 0 h wh V
  rw [Cl.cut_cut, ← wid_min] at hc1
  rw [wid_32, Cl.cut_all 32 h (by omega)] at hc3
  rw [wid_zero, Cl.cut_none, wh, hZ] at hc4
  have hcl : (Cl.cut (Cl.wid (min a b)) h).length = 32 := by rw [Cl.cut_length, wh]
  obtain ⟨u0, hu0, _⟩ := info_parts info_u8t
  have heq : ∀ (l : List UInt8), l.length = 32 → ∀ V, (binOp .eql 26 (.agg (bvs l).toArray) (.agg (bvs l).toArray)).run Tryd.prog V = .ok (.bool true) V := fun l hl V => by
    rw [run_eql_bytes (P := Tryd.prog) V 26 5 32 Tryd.underlying26 Tryd.underlying5 hu0 (by kernel_rfl) (by kernel_rfl) _ _ hl hl, beq_self_eq_true]
  have he1 := heq _ hcl
  have he2 := heq _ wh
  have he3 := heq (List.replicate 32 0) (by simp)
  have hbz : ∀ V : World, (Instr.build 26 #[]).run Tryd.prog V = .ok (.agg Z) V := fun _ => by subst hZ; kernel_rfl
  obtain ⟨RC, hRC⟩ : ∃ R, bvs (Cl.cut (Cl.wid (min a b)) h) = R := ⟨_, rfl⟩
  obtain ⟨RZ, hRZ⟩ : ∃ R, Z.toList = R := ⟨_, rfl⟩
  have hZR : Z = RZ.toArray := by rw [← hRZ]
  rw [hRC] at he1 hc1 hc2
  rw [hRX] at hc0 hc1
  rw [hRH] at hc0 hc2 hc3 hc4 he2
  rw [hZ, hZR] at he3
  rw [hZR] at hc4 hbz
  obtain ⟨sx, zx, ox⟩ := arr_hash _ hxl
  rw [hRX] at sx zx ox
  have hsH : (Tryd.prog.info? 26).map (·.size) = some RH.length := by rw [← hRH, bvs_length, wh]; exact size_hash'
  have hsX : (Tryd.prog.info? 26).map (·.size) = some RX.length := by rw [← hRX, bvs_length, hxl]; exact size_hash'
  -- the bytes of what is cut
  have hby : ∀ i : Nat, i < 32 → ∃ x y : Nat, RX[i]? = some (.int .u8 (x : Int)) ∧ RH[i]? = some (.int .u8 (y : Int)) ∧ ((i : Int) < a → x = y) ∧ (a ≤ (i : Int) → x = 0) := fun i hi => by
    refine ⟨(if i < Cl.wid a then h.getD i 0 else 0).toNat, (h.getD i 0).toNat, ?_, ?_, fun hl => ?_, fun hl => ?_⟩
    · rw [← hRX, bvs_get, Cl.cut_get _ _ i (by omega)]; rfl
    · rw [← hRH, bvs_get, List.getD_eq_getElem?_getD, List.getElem?_eq_getElem (by omega)]; rfl
    · rw [if_pos (by unfold Cl.wid; omega)]
    · rw [if_neg (by unfold Cl.wid; omega)]; rfl
  have HAW := Lib.hid (awake6_any W1 (hT.keeps k1 id id))
  have HC0 := Lib.hid hc0
  have HC1 := Lib.hid hc1
  have HC2 := Lib.hid hc2
  have HC3 := Lib.hid hc3
  have HC4 := Lib.hid hc4
  have HE1 := Lib.hid he1
  have HE2 := Lib.hid he2
  have HE3 := Lib.hid he3
  have HBZ := Lib.hid hbz
  have SX1 := Lib.hid sx
  have ZX := Lib.hid (hzs.trans zx.symm)
  have OX := Lib.hid ox
  have SH := Lib.hid hsH
  have SX := Lib.hid hsX
  have K1 := Lib.hid k1
  have R1 := Lib.hid r1
  have HBY := Lib.hid hby
  have HGH := Lib.hid hgh
  rw [hRH]
  clear hc0 hc1 hc2 hc3 hc4 heq he1 he2 he3 hbz sx zx ox hsH hsX k1 r1 hby hRC hRZ hZR hRX hRH hxl hcl hT wh hzs hZ hu0
  go_enter Tryd.func5, Tryd.ntmps5
  go_wp2_with fail
  refine HAW.out.mono ?_
  rintro e1 w1 ⟨rfl, k1⟩
  have K2 := Lib.hid (K1.out.trans k1)
  have R2 := Lib.hid (R1.out.keeps k1 id)
  have hcell2 := R2.out
  clear k1 HAW K1 R1
  have HLR : Hid (w1.heap[gh]? = some (.cells RH.toArray 26 (0, 0))) := Lib.hid hcell2
  clear hcell2
  go_wp2_with (refine wpList_load_row rfl 26 _ rfl gh rfl 26 RH.toArray (0, 0) _ HLR.out Tryd.underlying26 rfl (by have := SH.out; simpa using this) ?_)
  refine (HC0.out w1).mono ?_
  rintro e2 w2 ⟨rfl, k2⟩
  obtain ⟨gx, hgx⟩ : ∃ q, w2.heap.size = q := ⟨_, rfl⟩
  obtain ⟨W3, hW3⟩ : ∃ V, w2.alloc (.cells Z 26) = V := ⟨_, rfl⟩
  obtain ⟨W4, hW4⟩ : ∃ V, W3.setRow gx RX.toArray = V := ⟨_, rfl⟩
  have k3 : Keeps (fun _ => False) w2 W3 := by rw [← hW3]; exact (Keeps.refl _ _).alloc _
  have r3 : W3.heap[gx]? = some (.cells Z 26 (0, 0)) := by rw [← hW3, ← hgx]; exact heap_alloc_new w2 _
  have k4 : Keeps (fun k => k = gx) W3 W4 := by rw [← hW4]; exact Keeps.setRow _ _
  have r4 : Row W4 gx 26 RX := by rw [← hW4]; exact setRow_heap _ _ _ _ _ _ r3
  have k24 : Keeps (fun _ => False) w2 W4 := k3.trans' k4 (fun i hi e => by omega)
  have K4 := Lib.hid ((K2.out.trans k2).trans k24)
  have RHW := Lib.hid ((R2.out.keeps k2 id).keeps k24 id)
  have R3 := Lib.hid r3
  have RXW := Lib.hid r4
  clear k2 k3 k4 r3 r4 k24 K2 R2 HLR HC0
  go_wp2_with (refine wpList_store_row rfl 26 _ _ rfl gx RX.toArray rfl rfl 26 Z R3.out SX1.out ZX.out OX.out ?_; rw [hW4])
  go_loopw [9] (fun v wr => ∃ i : Nat, i ≤ 32 ∧ v = .int .i64 (i : Int) ∧ Hid (Keeps (fun _ => False) W4 wr)) (fun v _ => 32 - (intOf v).toNat)
  case atStart => exact ⟨0, by omega, rfl, Lib.hid (Keeps.refl _ _)⟩
  case round =>
    obtain ⟨i, hi, rfl, HK⟩ := hrel
    by_cases hlt : i < 32
    · obtain ⟨x, y, hx, hy, hl, hg⟩ := HBY.out i hlt
      have c1 : wr.cell? ⟨gx, i, none⟩ = some (.int .u8 (x : Int)) := by rw [(RXW.out.keeps HK.out id).cell]; exact hx
      have c2 : wr.cell? ⟨gh, i, none⟩ = some (.int .u8 (y : Int)) := by rw [(RHW.out.keeps HK.out id).cell]; exact hy
      have hi2 : (i : Int) < 32 := by omega
      clear hx hy
      by_cases hia : (i : Int) < a
      · obtain rfl := hl hia
        clear hl hg
        have hna : decide (a ≤ (i : Int)) = false := by simp; omega
        have HKD : Hid (∀ n, Keeps (fun _ => False) W4 (wr.drewN n)) := Lib.hid (fun n => HK.out.drewN n)
        go_wp2_with fail
        go_quiet (fail)
        go_wp2_with fail
        go_roundw
        case rel => exact ⟨i + 1, by omega, by go_num, Lib.hid (HKD.out _)⟩
        case measure => simp [intOf]; omega
      · obtain rfl := hg (by omega)
        clear hl hg
        have hna : decide ((i : Int) < a) = false := by simp; omega
        have hia2 : a ≤ (i : Int) := by omega
        have HKD : Hid (∀ n, Keeps (fun _ => False) W4 (wr.drewN n)) := Lib.hid (fun n => HK.out.drewN n)
        go_wp2_with fail
        go_quiet (fail)
        go_wp2_with fail
        go_roundw
        case rel => exact ⟨i + 1, by omega, by go_num, Lib.hid (HKD.out _)⟩
        case measure => simp [intOf]; omega
    · have HRX : Hid (∀ V, Later wr V → V.rangeAt gx 0 RX) := Lib.hid (fun V hV => rangeAt_row ((RXW.out.keeps HK.out id).keeps hV.out id))
      have HRH : Hid (∀ V, Later wr V → V.rangeAt gh 0 RH) := Lib.hid (fun V hV => rangeAt_row ((RHW.out.keeps HK.out id).keeps hV.out id))
      have HFIN : Hid (∀ V, Later wr V → Below W.heap.size W V) := Lib.hid (fun V hV => ((K4.out.trans HK.out).trans hV.out).below (Nat.le_refl _) (fun k hk => id))
      clear HBY
      go_wp2_with fail
      refine wp_region_stores 22 [18] [0, 1, 2, 3, 4, 5, 6, 7, 8, 9, 10, 11, 12, 13, 14, 15, 16, 17, 18, 19, 20, 21] (Later wr) (fun _ => True) (by kernel_rfl) (by kernel_rfl) (Lasts.later wr) (Lasts.true) (⟨(Keeps.refl _ _).drew⟩) (trivial) ?_
      refine T_value (get_op rfl) (by rfl) (by rfl) (.int .i64 b) (fun _ _ => by go_simp) ?_
      simp only [Act.put, List.setIfInBounds_toArray, List.set_cons_zero, List.set_cons_succ]
      refine T_load (get_op rfl) (by rfl) (by rfl) 26 (.tmp 8) (by rfl) gx 0 (by rfl) RX _ (fun V hV => HRX.out V hV) Tryd.underlying26 rfl SX.out ?_
      simp only [Act.put, List.setIfInBounds_toArray, List.set_cons_zero, List.set_cons_succ]
      refine T_call (get_op rfl) (by rfl) (by rfl) _ _ (.agg RC.toArray) (fun _ => by go_simp) (fun V hV => HC1.out V) ?_
      simp only [Act.put, List.setIfInBounds_toArray, List.set_cons_zero, List.set_cons_succ]
      refine T_value (get_op rfl) (by rfl) (by rfl) (.int .i64 a) (fun _ _ => by go_simp) ?_
      simp only [Act.put, List.setIfInBounds_toArray, List.set_cons_zero, List.set_cons_succ]
      refine T_value (get_op rfl) (by rfl) (by rfl) (.int .i64 b) (fun _ _ => by go_simp) ?_
      simp only [Act.put, List.setIfInBounds_toArray, List.set_cons_zero, List.set_cons_succ]
      refine T_value (get_op rfl) (by rfl) (by rfl) (.int .i64 (min a b)) (fun _ _ => by go_simp) ?_
      simp only [Act.put, List.setIfInBounds_toArray, List.set_cons_zero, List.set_cons_succ]
      refine T_load (get_op rfl) (by rfl) (by rfl) 26 (.tmp 5) (by rfl) gh 0 (by rfl) RH _ (fun V hV => HRH.out V hV) Tryd.underlying26 rfl SH.out ?_
      simp only [Act.put, List.setIfInBounds_toArray, List.set_cons_zero, List.set_cons_succ]
      refine T_call (get_op rfl) (by rfl) (by rfl) _ _ (.agg RC.toArray) (fun _ => by go_simp) (fun V hV => HC2.out V) ?_
      simp only [Act.put, List.setIfInBounds_toArray, List.set_cons_zero, List.set_cons_succ]
      refine T_eq (get_op rfl) (by rfl) (by rfl) .eql 26 _ (.tmp 45) (.tmp 50) (by rfl) RC.toArray RC.toArray (by rfl) (by rfl) (by kernel_rfl) (.bool true) (HE1.out) ?_
      simp only [Act.put, List.setIfInBounds_toArray, List.set_cons_zero, List.set_cons_succ]
      refine T_value (get_op rfl) (by rfl) (by rfl) (.bool true) (fun _ _ => by go_simp) ?_
      simp only [Act.put, List.setIfInBounds_toArray, List.set_cons_zero, List.set_cons_succ]
      refine T_load (get_op rfl) (by rfl) (by rfl) 26 (.tmp 5) (by rfl) gh 0 (by rfl) RH _ (fun V hV => HRH.out V hV) Tryd.underlying26 rfl SH.out ?_
      simp only [Act.put, List.setIfInBounds_toArray, List.set_cons_zero, List.set_cons_succ]
      refine T_call (get_op rfl) (by rfl) (by rfl) _ _ (.agg RH.toArray) (fun _ => by go_simp) (fun V hV => HC3.out V) ?_
      simp only [Act.put, List.setIfInBounds_toArray, List.set_cons_zero, List.set_cons_succ]
      refine T_load (get_op rfl) (by rfl) (by rfl) 26 (.tmp 5) (by rfl) gh 0 (by rfl) RH _ (fun V hV => HRH.out V hV) Tryd.underlying26 rfl SH.out ?_
      simp only [Act.put, List.setIfInBounds_toArray, List.set_cons_zero, List.set_cons_succ]
      refine T_eq (get_op rfl) (by rfl) (by rfl) .eql 26 _ (.tmp 54) (.tmp 55) (by rfl) RH.toArray RH.toArray (by rfl) (by rfl) (by kernel_rfl) (.bool true) (HE2.out) ?_
      simp only [Act.put, List.setIfInBounds_toArray, List.set_cons_zero, List.set_cons_succ]
      refine T_value (get_op rfl) (by rfl) (by rfl) (.bool true) (fun _ _ => by go_simp) ?_
      simp only [Act.put, List.setIfInBounds_toArray, List.set_cons_zero, List.set_cons_succ]
      refine T_value (get_op rfl) (by rfl) (by rfl) (.bool true) (fun _ _ => by go_simp) ?_
      simp only [Act.put, List.setIfInBounds_toArray, List.set_cons_zero, List.set_cons_succ]
      refine T_load (get_op rfl) (by rfl) (by rfl) 26 (.tmp 5) (by rfl) gh 0 (by rfl) RH _ (fun V hV => HRH.out V hV) Tryd.underlying26 rfl SH.out ?_
      simp only [Act.put, List.setIfInBounds_toArray, List.set_cons_zero, List.set_cons_succ]
      refine T_call (get_op rfl) (by rfl) (by rfl) _ _ (.agg RZ.toArray) (fun _ => by go_simp) (fun V hV => HC4.out V) ?_
      simp only [Act.put, List.setIfInBounds_toArray, List.set_cons_zero, List.set_cons_succ]
      refine T_loose (get_op rfl) (by rfl) (by rfl) (fun u => u = .agg RZ.toArray) (fun u w => True) ⟨fun _ => Lasts.true, fun V hb hf => by unfold execOp; simp only [Sem.run_bind, Sem.run_pure, Result.andThen_ok, List.map_toArray, List.map_nil, HBZ.out]; exact ⟨hb, rfl, trivial⟩⟩ ?_
      rintro _ rfl
      simp only [Act.put, List.setIfInBounds_toArray, List.set_cons_zero, List.set_cons_succ]
      refine T_eq (get_op rfl) (by rfl) (by rfl) .eql 26 _ (.tmp 60) (.tmp 61) (by rfl) RZ.toArray RZ.toArray (by rfl) (by rfl) (by kernel_rfl) (.bool true) (HE3.out) ?_
      simp only [Act.put, List.setIfInBounds_toArray, List.set_cons_zero, List.set_cons_succ]
      refine T_value (get_op rfl) (by rfl) (by rfl) (.bool true) (fun _ _ => by go_simp) ?_
      simp only [Act.put, List.setIfInBounds_toArray, List.set_cons_zero, List.set_cons_succ]
      refine T_quiet (get_op rfl) (by rfl) (by rfl) (by rfl) ?_
      intro K hK
      go_big_quiet_op
      first | go_big_quiet_on | go_big_quiet_call ((intro _; rfl))
      refine T_nil ?_
      intro V hV _
      simp only [List.drop_succ_cons, List.drop_nil]
      go_wp2_with fail
      go_ret
      exact ⟨rfl, HFIN.out V hV⟩
end Go.Proofs.YtjblnjeloimbgaaDoor
