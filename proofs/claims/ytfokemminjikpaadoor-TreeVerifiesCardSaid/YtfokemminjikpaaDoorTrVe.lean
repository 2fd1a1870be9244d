/-
  The law TreeVerifies walked: whether a path proves an entry is the document's. WRITTEN BY wip/gen/mkrfb.py.
-/
import Derived.Test.YtfokemminjikpaaDoorRfB
import Derived.Test.YtfokemminjikpaaDoorTrL
namespace Go.Proofs.YtfokemminjikpaaDoor
open Go.RowKit Go.BigFrame
set_option linter.unusedVariables false

theorem two_rows' {V : World} {g1 g2 : Nat} {Z1 Z2 R1 R2 : Array Value} {t t2 : TypeId} (hne : g1 ≠ g2) (h1 : V.heap[g1]? = some (.cells Z1 t (0, 0))) (h2 : V.heap[g2]? = some (.cells Z2 t2 (0, 0))) :
    (V.setRow g1 R1).heap[g2]? = some (.cells Z2 t2 (0, 0)) ∧ (V.setRow g1 R1).heap[g1]? = some (.cells R1 t (0, 0)) ∧ ((V.setRow g1 R1).setRow g2 R2).heap[g1]? = some (.cells R1 t (0, 0)) ∧ ((V.setRow g1 R1).setRow g2 R2).heap[g2]? = some (.cells R2 t2 (0, 0)) := by
  have a : (V.setRow g1 R1).heap[g2]? = some (.cells Z2 t2 (0, 0)) := (setRow_other V g1 g2 R1 (fun e => hne e.symm)).trans h2
  have b : (V.setRow g1 R1).heap[g1]? = some (.cells R1 t (0, 0)) := setRow_heap _ _ _ _ _ _ h1
  exact ⟨a, b, (setRow_other _ g2 g1 R2 hne).trans b, setRow_heap _ _ _ _ _ _ a⟩
set_option maxRecDepth 100000 in
set_option maxHeartbeats 1000000 in
theorem tver_long (zr : List UInt8) (n i : Int) (A3 A4 : Option Addr) (e c3 p c4 : Nat) (s : Bool) (W : World) (hT : Tabs W) (h : 70 < p ∨ 100 < e) :
    Calls Tryd.prog 5 #[.agg (bvs zr).toArray, .int .u64 n, .int .u64 i, .slice A3 e c3, .slice A4 p c4, .bool s] W fun e W' => e = .returned (.bool true) ∧ Below W.heap.size W W' := by
  obtain ⟨X, hX⟩ : ∃ X : Array Value, (bvs zr).toArray = X := ⟨_, rfl⟩
  rw [hX]
  obtain ⟨W1, hW1⟩ : ∃ V, W.alloc (.cells X 24) = V := ⟨_, rfl⟩
  have k1 : Keeps (fun _ => False) W W1 := by rw [← hW1]; exact (Keeps.refl _ _).alloc _
  have HAW := Lib.hid (awake3_any W1 (hT.keeps k1 id id))
  clear hX hT
  by_cases h1 : 70 < p
  · have h1' : (70 : Int) < p := by omega
    clear h h1
    go_enter Tryd.func5, Tryd.ntmps5
    go_wp2_with fail
    refine HAW.out.mono ?_
    rintro e w3 ⟨rfl, k3⟩
    go_wp2
    go_ret
    exact ⟨rfl, keeps_below3 (k1.trans k3)⟩
  · have h1' : ¬ (70 : Int) < p := by omega
    have h2' : (100 : Int) < e := by omega
    clear h h1
    go_enter Tryd.func5, Tryd.ntmps5
    go_wp2_with fail
    refine HAW.out.mono ?_
    rintro e w3 ⟨rfl, k3⟩
    go_wp2
    go_ret
    exact ⟨rfl, keeps_below3 (k1.trans k3)⟩
set_option maxRecDepth 100000 in
set_option maxHeartbeats 2000000 in
theorem tver_off (zr : List UInt8) (n i : Nat) (A3 A4 : Option Addr) (xs : List UInt8) (ps : List (List UInt8)) (c3 c4 : Nat) (s : Bool) (W : World) (hT : Tabs W) (hn : n ≤ 18446744073709551615) (hi : i ≤ 18446744073709551615) (hr : zr.length = 32) (hs3 : Src W A3 (bvs xs)) (hc3 : xs.length ≤ c3) (hm3 : c3 ≤ 9223372036854775807) (hP : PathAt W A4 ps) (hc4 : ps.length ≤ c4) (hm4 : c4 ≤ 9223372036854775807) (hp70 : ps.length ≤ 70) (he100 : xs.length ≤ 100) (hoff : s = false ∨ n ≤ i) :
    Calls Tryd.prog 5 #[.agg (bvs zr).toArray, .int .u64 (n : Int), .int .u64 (i : Int), .slice A3 xs.length c3, .slice A4 ps.length c4, .bool s] W fun e W' => e = .returned (.bool true) ∧ Below W.heap.size W W' := by
  have htv := fun V (hk : Keeps (fun _ => False) W V) => verify_any zr n i A3 A4 c3 c4 xs ps V (hT.keeps hk id id) hr (hs3.keeps hk (fun _ _ _ => id)) hc3 hm3 (by omega) (hP.keeps hk (fun _ _ => id)) hc4 hm4 hn
  have hrv := fun V (hk : Keeps (fun _ => False) W V) => rverify_any zr n i xs A4 c4 ps V hr (by omega) hn (hP.keeps hk (fun _ _ => id)) (by omega)
  have hcs : ∀ V, Keeps (fun _ => False) W V → (convert 22 9 (.slice A3 xs.length c3)).run Tryd.prog V = .ok (.string (strOf xs)) V := fun V hk =>
    run_string_src (P := Tryd.prog) V 22 9 5 Tryd.underlying22 Tryd.underlying5 Tryd.underlying9 A3 xs c3 (hs3.keeps hk (fun _ _ _ => id))
  have hrc : (Tryd.prog.info? 24).map (·.size) = some (bvs zr).length := by rw [bvs_length, hr]; exact size_hash'
  obtain ⟨RC, hRC⟩ : ∃ R, bvs zr = R := ⟨_, rfl⟩
  obtain ⟨VV, hVV⟩ : ∃ v, Tr.verify zr n i xs ps = v := ⟨_, rfl⟩
  obtain ⟨st, hst⟩ : ∃ v, strOf xs = v := ⟨_, rfl⟩
  obtain ⟨W1, hW1⟩ : ∃ V, W.alloc (.cells RC.toArray 24) = V := ⟨_, rfl⟩
  have k1 : Keeps (fun _ => False) W W1 := by rw [← hW1]; exact (Keeps.refl _ _).alloc _
  have r6 : W1.heap[W.heap.size]? = some (.cells RC.toArray 24 (0, 0)) := by rw [← hW1]; exact heap_alloc_new W _
  have HAW := Lib.hid (awake3_any W1 (hT.keeps k1 id id))
  rw [hVV, hRC] at htv
  rw [hVV, hRC, hst] at hrv
  rw [hst] at hcs
  rw [hRC] at hrc
  rw [hRC]
  obtain ⟨e, hel⟩ : ∃ e, xs.length = e := ⟨_, rfl⟩
  obtain ⟨p, hpl⟩ : ∃ p, ps.length = p := ⟨_, rfl⟩
  rw [hel, hpl] at htv
  rw [hpl] at hrv
  rw [hel] at hcs
  rw [hel] at he100
  rw [hpl] at hp70
  rw [hel, hpl]
  have HTV := Lib.hid htv
  have HRV := Lib.hid hrv
  have HCS := Lib.hid hcs
  have SRC := Lib.hid hrc
  have R6 := Lib.hid r6
  have K1 := Lib.hid k1
  have q1 : ¬ (70 : Int) < p := by omega
  have q2 : ¬ (100 : Int) < e := by omega
  have hq : s = false ∨ (s = true ∧ ¬ (i : Int) < n) := by
    rcases hoff with h | h
    · exact .inl h
    · cases s
      · exact .inl rfl
      · exact .inr ⟨rfl, by omega⟩
  clear htv hrv hcs hrc r6 k1 hRC hVV hst hel hpl hT hr hs3 hP hc3 hc4 hp70 he100 hoff
  rcases hq with rfl | ⟨rfl, hin⟩
  all_goals
    go_enter Tryd.func5, Tryd.ntmps5
    go_wp2_with fail
    refine HAW.out.mono ?_
    rintro e2 wz ⟨rfl, kz⟩
    have KZ := Lib.hid (K1.out.trans kz)
    have RZ := Lib.hid ((kz.block _ (Array.getElem?_eq_some_iff.1 R6.out).1 id).trans R6.out)
    clear kz HAW hW1
    obtain ⟨b6, hb6⟩ : ∃ b, W.heap.size = b := ⟨_, rfl⟩
    rw [hb6] at RZ
    clear R6
    go_wp2_with fail
    have CV : Hid (∀ V, Later wz V → Calls Tryd.prog 33 #[.agg RC.toArray, .int .u64 (n : Int), .int .u64 (i : Int), .slice A3 e c3, .slice A4 p c4] V fun e w' => e = .returned (.int .i64 VV) ∧ Keeps (fun _ => False) V w') := fun V hV => HTV.out V (KZ.out.trans hV.out)
    have RV : Hid (∀ V, Later wz V → Calls Tryd.prog 34 #[.agg RC.toArray, .int .u64 (n : Int), .int .u64 (i : Int), .string st, .slice A4 p c4] V fun e w' => e = .returned (.int .i64 VV) ∧ Keeps (fun _ => False) V w') := fun V hV => HRV.out V (KZ.out.trans hV.out)
    have G6 : Hid (∀ V, Later wz V → V.rangeAt b6 0 RC) := fun V hV j v hv => by
      have h : Row V b6 24 RC := (hV.out.block _ (Array.getElem?_eq_some_iff.1 RZ.out).1 id).trans RZ.out
      rw [Nat.zero_add, h.cell]; exact hv
    have HCV : Hid (∀ V, Later wz V → (convert 22 9 (.slice A3 e c3)).run Tryd.prog V = .ok (.string st) V) := fun V hV => HCS.out V (KZ.out.trans hV.out)
    have FIN : Hid (∀ V, Later wz V → Below W.heap.size W V) := fun V hV => keeps_below3 (KZ.out.trans hV.out)
    clear HTV HRV KZ RZ HCS
    refine wp_region_loose [] [0, 1, 2, 3, 4, 5, 6, 7, 8, 9, 10, 11, 12, 13, 14] (by kernel_rfl) (by kernel_rfl) ?_
    refine R_load (get_op rfl) (by rfl) (by rfl) 24 (.tmp 6) (by rfl) b6 0 (by rfl) RC _ (fun V hV => G6.out V hV) Tryd.underlying24 rfl SRC.out ?_
    simp only [Act.put, List.setIfInBounds_toArray, List.set_cons_zero, List.set_cons_succ]
    refine R_value (get_op rfl) (by rfl) (by rfl) (.int .u64 (n : Int)) (fun _ _ => by go_simp) ?_
    simp only [Act.put, List.setIfInBounds_toArray, List.set_cons_zero, List.set_cons_succ]
    refine R_value (get_op rfl) (by rfl) (by rfl) (.int .u64 (i : Int)) (fun _ _ => by go_simp) ?_
    simp only [Act.put, List.setIfInBounds_toArray, List.set_cons_zero, List.set_cons_succ]
    refine R_value (get_op rfl) (by rfl) (by rfl) (.slice A3 e c3) (fun _ _ => by go_simp) ?_
    simp only [Act.put, List.setIfInBounds_toArray, List.set_cons_zero, List.set_cons_succ]
    refine R_value (get_op rfl) (by rfl) (by rfl) (.slice A4 p c4) (fun _ _ => by go_simp) ?_
    simp only [Act.put, List.setIfInBounds_toArray, List.set_cons_zero, List.set_cons_succ]
    refine R_call (get_op rfl) (by rfl) (by rfl) _ _ (.int .i64 VV) (fun _ => by go_simp) (fun V hV => CV.out V hV) ?_
    simp only [Act.put, List.setIfInBounds_toArray, List.set_cons_zero, List.set_cons_succ]
    refine R_load (get_op rfl) (by rfl) (by rfl) 24 (.tmp 6) (by rfl) b6 0 (by rfl) RC _ (fun V hV => G6.out V hV) Tryd.underlying24 rfl SRC.out ?_
    simp only [Act.put, List.setIfInBounds_toArray, List.set_cons_zero, List.set_cons_succ]
    refine R_value (get_op rfl) (by rfl) (by rfl) (.int .u64 (n : Int)) (fun _ _ => by go_simp) ?_
    simp only [Act.put, List.setIfInBounds_toArray, List.set_cons_zero, List.set_cons_succ]
    refine R_value (get_op rfl) (by rfl) (by rfl) (.int .u64 (i : Int)) (fun _ _ => by go_simp) ?_
    simp only [Act.put, List.setIfInBounds_toArray, List.set_cons_zero, List.set_cons_succ]
    refine R_value (get_op rfl) (by rfl) (by rfl) (.slice A3 e c3) (fun _ _ => by go_simp) ?_
    simp only [Act.put, List.setIfInBounds_toArray, List.set_cons_zero, List.set_cons_succ]
    refine R_value (get_op rfl) (by rfl) (by rfl) (.string st) (fun V hV => by have hcv := HCV.out V hV; go_simp) ?_
    simp only [Act.put, List.setIfInBounds_toArray, List.set_cons_zero, List.set_cons_succ]
    refine R_value (get_op rfl) (by rfl) (by rfl) (.slice A4 p c4) (fun _ _ => by go_simp) ?_
    simp only [Act.put, List.setIfInBounds_toArray, List.set_cons_zero, List.set_cons_succ]
    refine R_call (get_op rfl) (by rfl) (by rfl) _ _ (.int .i64 VV) (fun _ => by go_simp) (fun V hV => RV.out V hV) ?_
    simp only [Act.put, List.setIfInBounds_toArray, List.set_cons_zero, List.set_cons_succ]
    refine R_value (get_op rfl) (by rfl) (by rfl) (.bool true) (fun _ _ => by go_simp) ?_
    simp only [Act.put, List.setIfInBounds_toArray, List.set_cons_zero, List.set_cons_succ]
    refine R_value (get_op rfl) (by rfl) (by rfl) (.bool true) (fun _ _ => by go_simp) ?_
    simp only [Act.put, List.setIfInBounds_toArray, List.set_cons_zero, List.set_cons_succ]
    refine R_nil ?_
    intro w10 hw10
    have hfin := FIN.out w10 hw10
    go_wp2
    go_ret
    exact ⟨rfl, hfin⟩
set_option maxRecDepth 100000 in
set_option maxHeartbeats 2000000 in
theorem tver_on (zr : List UInt8) (n i : Nat) (A3 A4 : Option Addr) (xs : List UInt8) (ps : List (List UInt8)) (c3 c4 : Nat) (W : World) (hT : Tabs W) (hn : n ≤ 18446744073709551615) (hi : i ≤ 18446744073709551615) (hr : zr.length = 32) (hs3 : Src W A3 (bvs xs)) (hc3 : xs.length ≤ c3) (hm3 : c3 ≤ 9223372036854775807) (hP : PathAt W A4 ps) (hc4 : ps.length ≤ c4) (hm4 : c4 ≤ 9223372036854775807) (hp70 : ps.length ≤ 70) (he100 : xs.length ≤ 100) (hin : i < n) :
    Calls Tryd.prog 5 #[.agg (bvs zr).toArray, .int .u64 (n : Int), .int .u64 (i : Int), .slice A3 xs.length c3, .slice A4 ps.length c4, .bool true] W fun e W' => e = .returned (.bool true) ∧ Below W.heap.size W W' := by
  have hl32 : (Sh.sha (0 :: xs)).length = 32 := rfl
  have hm32 := rmade_length n i (Sh.sha (0 :: xs)) ps hl32
  have hlf := fun V (hk : Keeps (fun _ => False) W V) => leaf_any A3 c3 xs V (hT.keeps hk id id) (hs3.keeps hk (fun _ _ _ => id)) hc3 hm3 (by omega)
  have hmd := fun V (hk : Keeps (fun _ => False) W V) => rmade_any (Sh.sha (0 :: xs)) hl32 n i A4 c4 ps V hin hn (hP.keeps hk (fun _ _ => id)) (by omega)
  obtain ⟨mm, hmm⟩ : ∃ m, rmade n i (Sh.sha (0 :: xs)) ps = m := ⟨_, rfl⟩
  rw [hmm] at hm32 hmd
  have htv := fun V (hk : Keeps (fun _ => False) W V) => verify_any mm n i A3 A4 c3 c4 xs ps V (hT.keeps hk id id) hm32 (hs3.keeps hk (fun _ _ _ => id)) hc3 hm3 (by omega) (hP.keeps hk (fun _ _ => id)) hc4 hm4 hn
  have hrv := fun V (hk : Keeps (fun _ => False) W V) => rverify_any mm n i xs A4 c4 ps V hm32 (by omega) hn (hP.keeps hk (fun _ _ => id)) (by omega)
  have hcs : ∀ V, Keeps (fun _ => False) W V → (convert 22 9 (.slice A3 xs.length c3)).run Tryd.prog V = .ok (.string (strOf xs)) V := fun V hk =>
    run_string_src (P := Tryd.prog) V 22 9 5 Tryd.underlying22 Tryd.underlying5 Tryd.underlying9 A3 xs c3 (hs3.keeps hk (fun _ _ _ => id))
  have hrc : (Tryd.prog.info? 24).map (·.size) = some (bvs mm).length := by rw [bvs_length, hm32]; exact size_hash'
  have a1 : (Tryd.prog.info? 24).map (·.size) = some (bvs mm).toArray.size := by rw [List.size_toArray, bvs_length, hm32]; exact size_hash'
  have a2 : (bvs mm).toArray.size = 32 := by rw [List.size_toArray, bvs_length, hm32]
  have a3 : (bvs mm).toArray.all (·.oneCell') = true := bvs_all _
  have x2 : (bvs zr).toArray.size = 32 := by rw [List.size_toArray, bvs_length, hr]
  obtain ⟨Z, hZ⟩ : ∃ Z : Array Value, (bvs (List.replicate 32 0)).toArray = Z := ⟨_, rfl⟩
  have hz : ∀ w : World, (zeroValue 24).run Tryd.prog w = .ok (.agg Z) w := fun _ => by subst hZ; kernel_rfl
  have hzs : Z.size = 32 := by subst hZ; rfl
  obtain ⟨RC, hRC⟩ : ∃ R, bvs mm = R := ⟨_, rfl⟩
  obtain ⟨X, hX⟩ : ∃ X : Array Value, (bvs zr).toArray = X := ⟨_, rfl⟩
  obtain ⟨LF, hLF⟩ : ∃ X : Array Value, (bvs (Sh.sha (0 :: xs))).toArray = X := ⟨_, rfl⟩
  obtain ⟨VV, hVV⟩ : ∃ v, Tr.verify mm n i xs ps = v := ⟨_, rfl⟩
  obtain ⟨qb, hqb⟩ : ∃ v, decide (ps.length = Tr.steps n i) = v := ⟨_, rfl⟩
  obtain ⟨st, hst⟩ : ∃ v, strOf xs = v := ⟨_, rfl⟩
  obtain ⟨W1, hW1⟩ : ∃ V, W.alloc (.cells X 24) = V := ⟨_, rfl⟩
  have k1 : Keeps (fun _ => False) W W1 := by rw [← hW1]; exact (Keeps.refl _ _).alloc _
  have r6 : W1.heap[W.heap.size]? = some (.cells X 24 (0, 0)) := by rw [← hW1]; exact heap_alloc_new W _
  have HAW := Lib.hid (awake3_any W1 (hT.keeps k1 id id))
  rw [hVV, hRC] at htv
  rw [hVV, hRC, hst] at hrv
  rw [hst] at hcs
  rw [hRC] at hrc a1 a2 a3
  rw [hX] at x2
  rw [hLF] at hlf
  rw [hLF, hRC, hqb] at hmd
  rw [hX]
  obtain ⟨e, hel⟩ : ∃ e, xs.length = e := ⟨_, rfl⟩
  obtain ⟨p, hpl⟩ : ∃ p, ps.length = p := ⟨_, rfl⟩
  rw [hel, hpl] at htv
  rw [hpl] at hrv hmd
  rw [hel] at hcs hlf
  rw [hel] at he100
  rw [hpl] at hp70
  rw [hel, hpl]
  have HTV := Lib.hid htv
  have HRV := Lib.hid hrv
  have HCS := Lib.hid hcs
  have HLF := Lib.hid hlf
  have HMD := Lib.hid hmd
  have SRC := Lib.hid hrc
  have S1 := Lib.hid a1
  have O1 := Lib.hid a3
  have ZZ := Lib.hid (hzs.trans a2.symm)
  have ZX := Lib.hid (x2.trans a2.symm)
  have R6 := Lib.hid r6
  have K1 := Lib.hid k1
  have q1 : ¬ (70 : Int) < p := by omega
  have q2 : ¬ (100 : Int) < e := by omega
  have hin' : (i : Int) < n := by omega
  clear htv hrv hcs hlf hmd hrc a1 a2 a3 x2 r6 k1 hRC hX hLF hVV hqb hst hel hpl hT hr hs3 hP hc3 hc4 hp70 he100 hm32 hl32 hmm hZ
  go_enter Tryd.func5, Tryd.ntmps5
  go_wp2_with fail
  refine HAW.out.mono ?_
  rintro e2 w2 ⟨rfl, k2⟩
  have K2 := Lib.hid (K1.out.trans k2)
  have R62 := Lib.hid ((k2.block _ (Array.getElem?_eq_some_iff.1 R6.out).1 id).trans R6.out)
  clear k2 HAW hW1 R6 K1
  go_wp2_with fail
  refine (HLF.out w2 K2.out).mono ?_
  rintro e3 w3 ⟨rfl, k3⟩
  have K3 := Lib.hid (K2.out.trans k3)
  have R63 := Lib.hid ((k3.block _ (Array.getElem?_eq_some_iff.1 R62.out).1 id).trans R62.out)
  clear k3 R62 K2 HLF
  go_wp2_with fail
  refine (HMD.out w3 K3.out).mono ?_
  rintro e4 w4 ⟨rfl, k4⟩
  have K4 := Lib.hid (K3.out.trans k4)
  have r64 := (k4.block _ (Array.getElem?_eq_some_iff.1 R63.out).1 id).trans R63.out
  have lt64 := (Array.getElem?_eq_some_iff.1 r64).1
  obtain ⟨V4, hV4⟩ : ∃ V, w4.alloc (.cells Z 24) = V := ⟨_, rfl⟩
  have kv4 : Keeps (fun _ => False) w4 V4 := by rw [← hV4]; exact (Keeps.refl _ _).alloc _
  have z14 : V4.heap[w4.heap.size]? = some (.cells Z 24 (0, 0)) := by rw [← hV4]; exact heap_alloc_new w4 _
  have r6v := (kv4.block _ lt64 id).trans r64
  obtain ⟨b6, hb6⟩ : ∃ b, W.heap.size = b := ⟨_, rfl⟩
  obtain ⟨b14, hb14⟩ : ∃ b, w4.heap.size = b := ⟨_, rfl⟩
  rw [hb6] at r6v lt64
  rw [hb14] at z14 lt64
  have hh := two_rows' (R1 := RC.toArray) (R2 := RC.toArray) (show b14 ≠ b6 by omega) z14 r6v
  have H14 := Lib.hid z14
  have HA := Lib.hid hh.1
  have HB := Lib.hid hh.2.1
  have RZ := Lib.hid hh.2.2.2
  have KZ := Lib.hid (((K4.out.trans kv4).trans' (Keeps.setRow b14 RC.toArray) (fun k hk e => by omega)).trans' (Keeps.setRow b6 RC.toArray) (fun k hk e => by omega))
  clear k4 r64 lt64 kv4 z14 r6v hh HMD K3 R63 K4
  go_wp2_with (first
    | (refine wpList_store_row rfl 24 _ _ rfl b14 RC.toArray rfl rfl 24 Z H14.out S1.out ZZ.out O1.out ?_)
    | (refine wpList_load_row rfl 24 (.tmp 14) rfl b14 rfl 24 RC.toArray (0, 0) _ HB.out Tryd.underlying24 rfl S1.out ?_)
    | (refine wpList_store_row rfl 24 _ _ rfl b6 RC.toArray rfl rfl 24 X HA.out S1.out ZX.out O1.out ?_))
  obtain ⟨wz, hwz⟩ : ∃ V, (V4.setRow b14 RC.toArray).setRow b6 RC.toArray = V := ⟨_, rfl⟩
  rw [hwz] at RZ KZ ⊢
  clear hwz hV4 H14 HA HB
  have CV : Hid (∀ V, Later wz V → Calls Tryd.prog 33 #[.agg RC.toArray, .int .u64 (n : Int), .int .u64 (i : Int), .slice A3 e c3, .slice A4 p c4] V fun e w' => e = .returned (.int .i64 VV) ∧ Keeps (fun _ => False) V w') := fun V hV => HTV.out V (KZ.out.trans hV.out)
  have RV : Hid (∀ V, Later wz V → Calls Tryd.prog 34 #[.agg RC.toArray, .int .u64 (n : Int), .int .u64 (i : Int), .string st, .slice A4 p c4] V fun e w' => e = .returned (.int .i64 VV) ∧ Keeps (fun _ => False) V w') := fun V hV => HRV.out V (KZ.out.trans hV.out)
  have G6 : Hid (∀ V, Later wz V → V.rangeAt b6 0 RC) := fun V hV j v hv => by
    have h : Row V b6 24 RC := (hV.out.block _ (Array.getElem?_eq_some_iff.1 RZ.out).1 id).trans RZ.out
    rw [Nat.zero_add, h.cell]; exact hv
  have HCV : Hid (∀ V, Later wz V → (convert 22 9 (.slice A3 e c3)).run Tryd.prog V = .ok (.string st) V) := fun V hV => HCS.out V (KZ.out.trans hV.out)
  have FIN : Hid (∀ V, Later wz V → Below W.heap.size W V) := fun V hV => keeps_below3 (KZ.out.trans hV.out)
  clear HTV HRV KZ RZ HCS
  refine wp_region_loose [] [0, 1, 2, 3, 4, 5, 6, 7, 8, 9, 10, 11, 12, 13, 14] (by kernel_rfl) (by kernel_rfl) ?_
  refine R_load (get_op rfl) (by rfl) (by rfl) 24 (.tmp 6) (by rfl) b6 0 (by rfl) RC _ (fun V hV => G6.out V hV) Tryd.underlying24 rfl SRC.out ?_
  simp only [Act.put, List.setIfInBounds_toArray, List.set_cons_zero, List.set_cons_succ]
  refine R_value (get_op rfl) (by rfl) (by rfl) (.int .u64 (n : Int)) (fun _ _ => by go_simp) ?_
  simp only [Act.put, List.setIfInBounds_toArray, List.set_cons_zero, List.set_cons_succ]
  refine R_value (get_op rfl) (by rfl) (by rfl) (.int .u64 (i : Int)) (fun _ _ => by go_simp) ?_
  simp only [Act.put, List.setIfInBounds_toArray, List.set_cons_zero, List.set_cons_succ]
  refine R_value (get_op rfl) (by rfl) (by rfl) (.slice A3 e c3) (fun _ _ => by go_simp) ?_
  simp only [Act.put, List.setIfInBounds_toArray, List.set_cons_zero, List.set_cons_succ]
  refine R_value (get_op rfl) (by rfl) (by rfl) (.slice A4 p c4) (fun _ _ => by go_simp) ?_
  simp only [Act.put, List.setIfInBounds_toArray, List.set_cons_zero, List.set_cons_succ]
  refine R_call (get_op rfl) (by rfl) (by rfl) _ _ (.int .i64 VV) (fun _ => by go_simp) (fun V hV => CV.out V hV) ?_
  simp only [Act.put, List.setIfInBounds_toArray, List.set_cons_zero, List.set_cons_succ]
  refine R_load (get_op rfl) (by rfl) (by rfl) 24 (.tmp 6) (by rfl) b6 0 (by rfl) RC _ (fun V hV => G6.out V hV) Tryd.underlying24 rfl SRC.out ?_
  simp only [Act.put, List.setIfInBounds_toArray, List.set_cons_zero, List.set_cons_succ]
  refine R_value (get_op rfl) (by rfl) (by rfl) (.int .u64 (n : Int)) (fun _ _ => by go_simp) ?_
  simp only [Act.put, List.setIfInBounds_toArray, List.set_cons_zero, List.set_cons_succ]
  refine R_value (get_op rfl) (by rfl) (by rfl) (.int .u64 (i : Int)) (fun _ _ => by go_simp) ?_
  simp only [Act.put, List.setIfInBounds_toArray, List.set_cons_zero, List.set_cons_succ]
  refine R_value (get_op rfl) (by rfl) (by rfl) (.slice A3 e c3) (fun _ _ => by go_simp) ?_
  simp only [Act.put, List.setIfInBounds_toArray, List.set_cons_zero, List.set_cons_succ]
  refine R_value (get_op rfl) (by rfl) (by rfl) (.string st) (fun V hV => by have hcv := HCV.out V hV; go_simp) ?_
  simp only [Act.put, List.setIfInBounds_toArray, List.set_cons_zero, List.set_cons_succ]
  refine R_value (get_op rfl) (by rfl) (by rfl) (.slice A4 p c4) (fun _ _ => by go_simp) ?_
  simp only [Act.put, List.setIfInBounds_toArray, List.set_cons_zero, List.set_cons_succ]
  refine R_call (get_op rfl) (by rfl) (by rfl) _ _ (.int .i64 VV) (fun _ => by go_simp) (fun V hV => RV.out V hV) ?_
  simp only [Act.put, List.setIfInBounds_toArray, List.set_cons_zero, List.set_cons_succ]
  refine R_value (get_op rfl) (by rfl) (by rfl) (.bool true) (fun _ _ => by go_simp) ?_
  simp only [Act.put, List.setIfInBounds_toArray, List.set_cons_zero, List.set_cons_succ]
  refine R_value (get_op rfl) (by rfl) (by rfl) (.bool true) (fun _ _ => by go_simp) ?_
  simp only [Act.put, List.setIfInBounds_toArray, List.set_cons_zero, List.set_cons_succ]
  refine R_nil ?_
  intro w10 hw10
  have hfin := FIN.out w10 hw10
  go_wp2
  go_ret
  exact ⟨rfl, hfin⟩
theorem tver_walk (zr : List UInt8) (n i : Int) (A3 : Option Addr) (len3 c3 : Nat) (zs : List Int) (A4 : Option Addr) (len4 c4 : Nat) (hs : List (List UInt8)) (s : Bool) (W : World) (hT : Tabs W) (hr : zr.length = 32) (h1 : (Lit.int .u64 n).wf = true) (h2 : (Lit.int .u64 i).wf = true) (h3 : IsRowU .u8 W A3 len3 c3 zs) (h4 : IsHashes W A4 len4 c4 hs) :
    Calls Tryd.prog 5 #[.agg (bvs zr).toArray, .int .u64 n, .int .u64 i, .slice A3 len3 c3, .slice A4 len4 c4, .bool s] W fun e W' => e = .returned (.bool true) ∧ Below W.heap.size W W' := by
  have bn := bounds_u64 h1
  have bi := bounds_u64 h2
  have hP := PathAt.of_hashes h4
  obtain ⟨xs, rfl, hs3, hc3, hm3⟩ := h3.src
  obtain ⟨rfl, hc4, hm4, _, _⟩ := h4
  obtain ⟨n, rfl⟩ := Int.eq_ofNat_of_zero_le bn.1
  obtain ⟨i, rfl⟩ := Int.eq_ofNat_of_zero_le bi.1
  by_cases h : 70 < hs.length ∨ 100 < xs.length
  · exact tver_long zr _ _ A3 A4 _ _ _ _ s W hT h
  · by_cases ho : s = false ∨ n ≤ i
    · exact tver_off zr n i A3 A4 xs hs c3 c4 s W hT (by omega) (by omega) hr hs3 hc3 hm3 hP hc4 hm4 (by omega) (by omega) ho
    · cases s
      · exact absurd (.inl rfl) ho
      · exact tver_on zr n i A3 A4 xs hs c3 c4 W hT (by omega) (by omega) hr hs3 hc3 hm3 hP hc4 hm4 (by omega) (by omega) (by omega)
end Go.Proofs.YtfokemminjikpaaDoor
