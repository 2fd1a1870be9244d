/-
  A path is checked (tree.Verify), whole.
-/
import Derived.Test.YtjblnjeloimbgaaDoorTrG
import Derived.Test.YtjblnjeloimbgaaDoorShaT
namespace Go.Proofs.YtjblnjeloimbgaaDoor
open Go.RowKit Go.BigFrame
set_option linter.unusedVariables false

set_option maxRecDepth 100000 in
set_option maxHeartbeats 1000000 in
theorem verify_out (R : Array Value) (n i : Nat) (Ae A : Option Addr) (le ce lp cp : Nat) (w : World) (hi : n ≤ i) :
    Calls Tryd.prog 14 #[.agg R, .int .u64 (n : Int), .int .u64 (i : Int), .slice Ae le ce, .slice A lp cp] w fun e w' => e = .returned (.int .i64 15) ∧ Keeps (fun _ => False) w w' := by
  have h1 : (n : Int) ≤ i := by omega
  obtain ⟨W1, hW1⟩ : ∃ W, w.alloc (.cells R 26) = W := ⟨_, rfl⟩
  obtain ⟨W2, hW2⟩ : ∃ W, W1.alloc (.cells #[.slice Ae le ce] 23) = W := ⟨_, rfl⟩
  have k1 : Keeps (fun _ => False) w W1 := by rw [← hW1]; exact (Keeps.refl _ _).alloc _
  have k2 : Keeps (fun _ => False) W1 W2 := by rw [← hW2]; exact (Keeps.refl _ _).alloc _
  have kk := k1.trans k2
  clear hi k1 k2
  go_enter Tryd.func14, Tryd.ntmps14
  go_wp2_with fail
  go_ret
  exact ⟨rfl, kk⟩
set_option maxRecDepth 100000 in
set_option maxHeartbeats 1000000 in
theorem verify_len (R : Array Value) (n i : Nat) (Ae A : Option Addr) (le ce lp cp : Nat) (w : World) (hi : i < n) (hn : n ≤ 18446744073709551615) (hl : lp ≠ Tr.steps n i) :
    Calls Tryd.prog 14 #[.agg R, .int .u64 (n : Int), .int .u64 (i : Int), .slice Ae le ce, .slice A lp cp] w fun e w' => e = .returned (.int .i64 20) ∧ Keeps (fun _ => False) w w' := by
  have h1 : (i : Int) < n := by omega
  obtain ⟨W1, hW1⟩ : ∃ W, w.alloc (.cells R 26) = W := ⟨_, rfl⟩
  obtain ⟨W2, hW2⟩ : ∃ W, W1.alloc (.cells #[.slice Ae le ce] 23) = W := ⟨_, rfl⟩
  have k1 : Keeps (fun _ => False) w W1 := by rw [← hW1]; exact (Keeps.refl _ _).alloc _
  have k2 : Keeps (fun _ => False) W1 W2 := by rw [← hW2]; exact (Keeps.refl _ _).alloc _
  have kk := k1.trans k2
  have hst := steps_any n i W2 hi hn
  obtain ⟨S, hS⟩ : ∃ S, Tr.steps n i = S := ⟨_, rfl⟩
  rw [hS] at hst hl
  have hne : ((lp : Int) != (S : Int)) = true := by rw [bne_iff_ne]; omega
  have HST := Lib.hid hst
  clear hi k1 k2 hst hl hS
  go_enter Tryd.func14, Tryd.ntmps14
  go_wp2_with (go_at_call 23; refine HST.out.mono ?_; rintro e w' ⟨rfl, rfl⟩)
  go_ret
  exact ⟨rfl, kk⟩
set_option maxRecDepth 100000 in
set_option maxHeartbeats 1000000 in
theorem verify_in (rt : List UInt8) (n i : Nat) (Ae A : Option Addr) (ce cp : Nat) (xs : List UInt8) (ps : List (List UInt8)) (w : World) (hT : Tabs w) (hrt : rt.length = 32) (hs : Src w Ae (bvs xs)) (hce : xs.length ≤ ce) (hce1 : ce ≤ 9223372036854775807) (hxs : xs.length ≤ 1000)
    (hP : PathAt w A ps) (hcp : ps.length ≤ cp) (hcp1 : cp ≤ 9223372036854775807) (hi : i < n) (hn : n ≤ 18446744073709551615) (hl : ps.length = Tr.steps n i) :
    Calls Tryd.prog 14 #[.agg (bvs rt).toArray, .int .u64 (n : Int), .int .u64 (i : Int), .slice Ae xs.length ce, .slice A ps.length cp] w fun e w' => e = .returned (.int .i64 (if Tr.made n i (Tr.leaf xs) ps = rt then 0 else 20)) ∧ Keeps (fun _ => False) w w' := by
  have h1 : (i : Int) < n := by omega
  have hrsz : (Tryd.prog.info? 26).map (·.size) = some (bvs rt).toArray.size := by rw [List.size_toArray, bvs_length, hrt]; exact size_hash'
  have hL32 := Tr.made_length n i (Tr.leaf xs) ps (Tr.leaf_length xs)
  obtain ⟨L, hL⟩ : ∃ L, Tr.made n i (Tr.leaf xs) ps = L := ⟨_, rfl⟩
  obtain ⟨u0, hu0, _⟩ := info_parts info_u8t
  have hneq : ∀ V, (binOp .neq 26 (.agg (bvs L).toArray) (.agg (bvs rt).toArray)).run Tryd.prog V = .ok (.bool (L != rt)) V := fun V =>
    run_neq_bytes (P := Tryd.prog) V 26 5 32 Tryd.underlying26 Tryd.underlying5 hu0 (by kernel_rfl) (by kernel_rfl) L rt (by rw [← hL]; exact hL32) hrt
  obtain ⟨R, hR⟩ : ∃ R : Array Value, (bvs rt).toArray = R := ⟨_, rfl⟩
  rw [hR] at hneq hrsz ⊢
  obtain ⟨W1, hW1⟩ : ∃ W, w.alloc (.cells R 26) = W := ⟨_, rfl⟩
  obtain ⟨W2, hW2⟩ : ∃ W, W1.alloc (.cells #[.slice Ae xs.length ce] 23) = W := ⟨_, rfl⟩
  obtain ⟨W3, hW3⟩ : ∃ W, W2.alloc (.cells #[.nilFunc] 62) = W := ⟨_, rfl⟩
  have k1 : Keeps (fun _ => False) w W1 := by rw [← hW1]; exact (Keeps.refl _ _).alloc _
  have k2 : Keeps (fun _ => False) W1 W2 := by rw [← hW2]; exact (Keeps.refl _ _).alloc _
  have k3 : Keeps (fun _ => False) W2 W3 := by rw [← hW3]; exact (Keeps.refl _ _).alloc _
  have r1 : W1.heap[w.heap.size]? = some (.cells R 26 (0, 0)) := by rw [← hW1]; exact heap_alloc_new w _
  have r2 : Row W2 W1.heap.size 23 [.slice Ae xs.length ce] := by rw [← hW2]; exact heap_alloc_new W1 _
  have r3 : Row W3 W2.heap.size 62 [.nilFunc] := by rw [← hW3]; exact heap_alloc_new W2 _
  have b1 : w.heap.size < W1.heap.size := by rw [← hW1]; simp
  have b2 : W1.heap.size < W2.heap.size := by rw [← hW2]; simp
  have hc3 : W3.cell? ⟨W2.heap.size, 0, none⟩ = some .nilFunc := r3.cell 0
  have hf3 : W3.frozen? ⟨W2.heap.size, 0, none⟩ = false := r3.frozen 0
  have hst : (store ⟨W2.heap.size, 0, none⟩ (.func (.func 24) #[] #[.pointer (some ⟨W1.heap.size, 0, none⟩), .pointer (some ⟨W2.heap.size, 0, none⟩)])).run Tryd.prog W3 = .ok () (W3.setCell ⟨W2.heap.size, 0, none⟩ (.func (.func 24) #[] #[.pointer (some ⟨W1.heap.size, 0, none⟩), .pointer (some ⟨W2.heap.size, 0, none⟩)])) := by
    rw [run_store _ _ _ _ _ rfl, hc3]
    simp [hf3]
  obtain ⟨W4, hW4⟩ : ∃ W, W3.setCell ⟨W2.heap.size, 0, none⟩ (.func (.func 24) #[] #[.pointer (some ⟨W1.heap.size, 0, none⟩), .pointer (some ⟨W2.heap.size, 0, none⟩)]) = W := ⟨_, rfl⟩
  have r4 : Row W4 W2.heap.size 62 [madeFn W1.heap.size W2.heap.size] := by rw [← hW4]; exact r3.set 0 _
  have k4 : Keeps (fun k => k = W2.heap.size) W2 W4 := by rw [← hW4]; exact Keeps.setCell (p := ⟨W2.heap.size, 0, none⟩) (S := fun k => k = W2.heap.size) (k3.mono (fun _ _ h => h.elim)) (fun _ => rfl) _
  have k24 : Keeps (fun _ => False) w W4 := (k1.trans k2).trans' k4 (fun i hi h => by omega)
  have hS : Sees W4 W1.heap.size W2.heap.size Ae ce xs := ⟨r2.keeps k4 (by omega), hs.keeps k24 (fun _ _ _ => id), r4⟩
  have hT4 := hT.keeps k24 id id
  have r14 : W4.heap[w.heap.size]? = some (.cells R 26 (0, 0)) := (k4.block _ (by omega) (by omega)).trans ((k2.block _ b1 id).trans r1)
  have hP4 := hP.keeps k24 (fun _ _ => id)
  have hv : ∀ V, Later W4 V → V.cell? ⟨W2.heap.size, 0, none⟩ = some (.func (.func 24) #[] #[.pointer (some ⟨W1.heap.size, 0, none⟩), .pointer (some ⟨W2.heap.size, 0, none⟩)]) := fun V hV => by
    rw [(hS.later hV.out).fn.cell]; rfl
  have c1 : ∀ V, Later W4 V → Calls Tryd.prog 24 #[.int .u64 (n : Int), .int .u64 (i : Int), .slice A ps.length cp, .pointer (some ⟨W1.heap.size, 0, none⟩), .pointer (some ⟨W2.heap.size, 0, none⟩)] V fun e w' => e = .returned (.agg (bvs L).toArray) ∧ Later W4 w' := fun V hV => by
    have h := made_any W1.heap.size W2.heap.size Ae ce xs hce hce1 hxs 64 A cp ps n i V (hT4.keeps hV.out id id) (hP4.keeps hV.out (fun _ _ => id)) (hS.later hV.out) hi hn (Tr.deep_le (by omega)) hl hcp hcp1
    rw [hL] at h
    exact h.mono fun e w' hh => ⟨hh.1, ⟨hV.out.trans hh.2⟩⟩
  have hrow : ∀ V, Later W4 V → V.heap[w.heap.size]? = some (.cells R 26 (0, 0)) := fun V hV => (hV.out.block _ (Array.getElem?_eq_some_iff.1 r14).1 id).trans r14
  have hsteps := steps_any n i W2 hi hn
  rw [← hl] at hsteps
  have hif : (if L = rt then (0 : Int) else 20) = if (L != rt) then 20 else 0 := by
    by_cases h : L = rt
    · rw [if_pos h, h]; simp
    · rw [if_neg h, if_pos (bne_iff_ne.2 h)]
  rw [hL, hif]
  obtain ⟨m, hm⟩ : ∃ m, ps.length = m := ⟨_, rfl⟩
  obtain ⟨q, hq⟩ : ∃ q, (L != rt) = q := ⟨_, rfl⟩
  rw [hm] at hsteps c1 ⊢
  rw [hq] at hneq ⊢
  have hnn : ((m : Int) != (m : Int)) = false := by simp
  have C1 := Lib.hid c1
  have HV := Lib.hid hv
  have HST := Lib.hid hsteps
  have HRW := Lib.hid hrow
  have HSZ := Lib.hid hrsz
  have HNE := Lib.hid hneq
  have KK := Lib.hid k24
  clear c1 hv hsteps hrow hrsz hneq k24 k4 r14 r4 hS hT4 hP4 k1 k2 k3 r1 r2 r3 hc3 hf3 hT hs hP hi hL hL32 hR hu0 hif hq hm hl b1 b2
  go_enter Tryd.func14, Tryd.ntmps14
  go_wp2_with (go_at_call 23; refine HST.out.mono ?_; rintro e w' ⟨rfl, rfl⟩)
  cases q
  all_goals
    refine wp_region_class (Later _) (by kernel_rfl) (by kernel_rfl) ⟨(Keeps.refl _ _).drew⟩ ?_
    refine class_cell (by rfl) 62 (.tmp 11) (by rfl) ⟨w'.heap.size, 0, none⟩ (by rfl) _ _ HV.out Tryd.underlying62 rfl ?_
    simp only [Act.put, List.setIfInBounds_toArray, List.set_cons_zero, List.set_cons_succ]
    go_big_quiet_step ((intro _; rfl))
    go_big_quiet_step ((intro _; rfl))
    go_big_quiet_step ((intro _; rfl))
    go_big_quiet_want
    go_big_quiet_op
    refine ⟨.agg (bvs L).toArray, fun V hV => C1.out V hV, ?_⟩
    go_big_quiet_on
    refine class_load (by rfl) 26 (.tmp 5) (by rfl) w.heap.size (by rfl) 26 R (0, 0) _ HRW.out Tryd.underlying26 rfl HSZ.out ?_
    simp only [Act.put, List.setIfInBounds_toArray, List.set_cons_zero, List.set_cons_succ]
    refine class_eq (by rfl) .neq 26 _ (.tmp 26) (.tmp 27) (by rfl) (bvs L).toArray R (by rfl) (by rfl) (by kernel_rfl) _ HNE.out ?_
    simp only [Act.put, List.setIfInBounds_toArray, List.set_cons_zero, List.set_cons_succ]
    refine wpQuiet_nil ?_
    intro w6 k6
    go_wp2
    go_ret
    exact ⟨rfl, KK.out.trans k6.out⟩
/-- What Verify answers. -/
theorem verify_any (rt : List UInt8) (n i : Nat) (Ae A : Option Addr) (ce cp : Nat) (xs : List UInt8) (ps : List (List UInt8)) (w : World) (hT : Tabs w) (hrt : rt.length = 32) (hs : Src w Ae (bvs xs)) (hce : xs.length ≤ ce) (hce1 : ce ≤ 9223372036854775807) (hxs : xs.length ≤ 1000)
    (hP : PathAt w A ps) (hcp : ps.length ≤ cp) (hcp1 : cp ≤ 9223372036854775807) (hn : n ≤ 18446744073709551615) :
    Calls Tryd.prog 14 #[.agg (bvs rt).toArray, .int .u64 (n : Int), .int .u64 (i : Int), .slice Ae xs.length ce, .slice A ps.length cp] w fun e w' => e = .returned (.int .i64 (Tr.verify rt n i xs ps)) ∧ Keeps (fun _ => False) w w' := by
  unfold Tr.verify
  by_cases h1 : n ≤ i
  · rw [if_pos h1]
    exact verify_out _ n i Ae A _ ce _ cp w h1
  rw [if_neg h1]
  by_cases h2 : ps.length = Tr.steps n i
  · rw [if_pos h2]
    exact verify_in rt n i Ae A ce cp xs ps w hT hrt hs hce hce1 hxs hP hcp hcp1 (by omega) hn h2
  · rw [if_neg h2]
    exact verify_len _ n i Ae A _ ce _ cp w (by omega) hn h2
end Go.Proofs.YtjblnjeloimbgaaDoor
