/-
  The document's own answer for a path (assayerref03.Verify). WRITTEN BY wip/gen/mkrfb.py.
-/
import Derived.Test.YtfokemminjikpaaDoorRfA
namespace Go.Proofs.YtfokemminjikpaaDoor
open Go.RowKit Go.BigFrame
set_option linter.unusedVariables false

set_option maxRecDepth 100000 in
set_option maxHeartbeats 2000000 in
theorem rverify_any (rt : List UInt8) (n i : Nat) (xs : List UInt8) (A : Option Addr) (c : Nat) (ps : List (List UInt8)) (w : World) (hrt : rt.length = 32) (hx : xs.length ≤ 399) (hn : n ≤ 18446744073709551615) (hP : PathAt w A ps) (hlp : ps.length ≤ 100) :
    Calls Tryd.prog 34 #[.agg (bvs rt).toArray, .int .u64 (n : Int), .int .u64 (i : Int), .string (strOf xs), .slice A ps.length c] w fun e w' => e = .returned (.int .i64 (Tr.verify rt n i xs ps)) ∧ Keeps (fun _ => False) w w' := by
  obtain ⟨X, hX⟩ : ∃ X : Array Value, (bvs rt).toArray = X := ⟨_, rfl⟩
  obtain ⟨W1, hW1⟩ : ∃ W, w.alloc (.cells X 24) = W := ⟨_, rfl⟩
  have k1 : Keeps (fun _ => False) w W1 := by rw [← hW1]; exact (Keeps.refl _ _).alloc _
  have r5 : W1.heap[w.heap.size]? = some (.cells X 24 (0, 0)) := by rw [← hW1]; exact heap_alloc_new w _
  unfold Tr.verify
  by_cases h1 : n ≤ i
  · rw [if_pos h1, hX]
    have h1' : (n : Int) ≤ i := by omega
    clear hP hlp hx hrt hX r5
    go_enter Tryd.func34, Tryd.ntmps34
    go_wp2_with fail
    go_ret
    exact ⟨rfl, k1⟩
  · rw [if_neg h1]
    have h1' : ¬ (n : Int) ≤ i := by omega
    have hleaf := fun V => rleaf_any xs V hx
    have hl32 : (Sh.sha (0 :: xs)).length = 32 := rfl
    have hmade := fun V (hk : Keeps (fun _ => False) w V) => rmade_any (Sh.sha (0 :: xs)) hl32 n i A c ps V (by omega) hn (hP.keeps hk (fun _ _ => id)) hlp
    have hm32 := rmade_length n i (Sh.sha (0 :: xs)) ps hl32
    obtain ⟨u0, hu0, _⟩ := info_parts info_u8t
    have hneq : ∀ V, (binOp .neq 24 (.agg (bvs (rmade n i (Sh.sha (0 :: xs)) ps)).toArray) (.agg (bvs rt).toArray)).run Tryd.prog V = .ok (.bool (rmade n i (Sh.sha (0 :: xs)) ps != rt)) V := fun V =>
      run_neq_bytes (P := Tryd.prog) V 24 5 32 Tryd.underlying24 Tryd.underlying5 hu0 (by kernel_rfl) (by kernel_rfl) _ rt hm32 hrt
    have hres : (if ps.length = Tr.steps n i then (if Tr.made n i (Tr.leaf xs) ps = rt then (0 : Int) else 20) else 20) = if decide (ps.length = Tr.steps n i) then (if (rmade n i (Sh.sha (0 :: xs)) ps != rt) then 20 else 0) else 20 := by
      have e : Tr.leaf xs = Sh.sha (0 :: xs) := rfl
      rw [e]
      unfold rmade
      by_cases h : ps.length = Tr.steps n i
      · have hd : decide (ps.length = Tr.steps n i) = true := decide_eq_true h
        rw [if_pos h, if_pos h, hd, if_pos rfl]
        by_cases h2 : Tr.made n i (Sh.sha (0 :: xs)) ps = rt
        · rw [if_pos h2, h2]; simp
        · rw [if_neg h2, if_pos (bne_iff_ne.2 h2)]
      · have hd : decide (ps.length = Tr.steps n i) = false := decide_eq_false h
        rw [if_neg h, hd, if_neg (by decide)]
    rw [hres]
    have a1 : (Tryd.prog.info? 24).map (·.size) = some (bvs (rmade n i (Sh.sha (0 :: xs)) ps)).toArray.size := by rw [List.size_toArray, bvs_length, hm32]; exact size_hash'
    have a2 : (bvs (rmade n i (Sh.sha (0 :: xs)) ps)).toArray.size = 32 := by rw [List.size_toArray, bvs_length, hm32]
    have a3 : (bvs (rmade n i (Sh.sha (0 :: xs)) ps)).toArray.all (·.oneCell') = true := bvs_all _
    have sx : (Tryd.prog.info? 24).map (·.size) = some X.size := by rw [← hX, List.size_toArray, bvs_length, hrt]; exact size_hash'
    obtain ⟨q1, hq1⟩ : ∃ q, decide (ps.length = Tr.steps n i) = q := ⟨_, rfl⟩
    obtain ⟨q2, hq2⟩ : ∃ q, (rmade n i (Sh.sha (0 :: xs)) ps != rt) = q := ⟨_, rfl⟩
    obtain ⟨R, hR⟩ : ∃ R, (bvs (rmade n i (Sh.sha (0 :: xs)) ps)).toArray = R := ⟨_, rfl⟩
    obtain ⟨L, hL⟩ : ∃ L, (bvs (Sh.sha (0 :: xs))).toArray = L := ⟨_, rfl⟩
    obtain ⟨s, hs⟩ : ∃ s, strOf xs = s := ⟨_, rfl⟩
    obtain ⟨Z, hZ⟩ : ∃ Z : Array Value, (bvs (List.replicate 32 0)).toArray = Z := ⟨_, rfl⟩
    have hz : ∀ w : World, (zeroValue 24).run Tryd.prog w = .ok (.agg Z) w := fun _ => by subst hZ; kernel_rfl
    have hzs : Z.size = 32 := by subst hZ; rfl
    rw [hL, hs] at hleaf
    rw [hL, hR, hq1] at hmade
    rw [hR, hX, hq2] at hneq
    rw [hR] at a1 a2 a3
    rw [hq1, hq2, hs, hX]
    have HLF := Lib.hid hleaf
    have HMD := Lib.hid hmade
    have HNE := Lib.hid hneq
    have S1 := Lib.hid a1
    have Z1 := Lib.hid (hzs.trans a2.symm)
    have O1 := Lib.hid a3
    have SX := Lib.hid sx
    have R5 := Lib.hid r5
    have K1 := Lib.hid k1
    clear hleaf hmade hneq a1 a2 a3 sx r5 k1 hX hL hs hR hq1 hq2 hres hm32 hl32 hrt hx hP hlp hZ hu0
    go_enter Tryd.func34, Tryd.ntmps34
    go_wp2_with fail
    refine (HLF.out W1).mono ?_
    rintro e2 w2 ⟨rfl, k2⟩
    have K2 := Lib.hid k2
    clear HLF k2
    go_wp2_with fail
    refine (HMD.out w2 (K1.out.trans K2.out)).mono ?_
    rintro e3 w3 ⟨rfl, k3⟩
    obtain ⟨W4, hW4⟩ : ∃ V, w3.alloc (.cells Z 24) = V := ⟨_, rfl⟩
    have k4 : Keeps (fun _ => False) w3 W4 := by rw [← hW4]; exact (Keeps.refl _ _).alloc _
    have r4 : W4.heap[w3.heap.size]? = some (.cells Z 24 (0, 0)) := by rw [← hW4]; exact heap_alloc_new w3 _
    have r54 := ((K2.out.trans k3).trans k4).block _ (Array.getElem?_eq_some_iff.1 R5.out).1 id
    have hr5 := r54.trans R5.out
    have lt5 := (((K2.out.trans k3)).block _ (Array.getElem?_eq_some_iff.1 R5.out).1 id).trans R5.out
    have hlt : w.heap.size < w3.heap.size := (Array.getElem?_eq_some_iff.1 lt5).1
    have H4 := Lib.hid r4
    have H5 := Lib.hid ((setRow_other W4 w3.heap.size w.heap.size R (by omega)).trans hr5)
    have H11 := Lib.hid (setRow_heap _ _ _ _ _ _ r4 : (W4.setRow w3.heap.size R).heap[w3.heap.size]? = some (.cells R 24 (0, 0)))
    have KF := Lib.hid (((K1.out.trans K2.out).trans k3).trans (k4.trans' (Keeps.setRow w3.heap.size R) (fun k hk e => by omega)))
    clear HMD k3 k4 r4 r54 hr5 lt5 hlt K1 K2 R5
    cases q1
    · go_wp2_with (refine wpList_store_row rfl 24 _ _ rfl w3.heap.size R rfl rfl 24 Z H4.out S1.out Z1.out O1.out ?_)
      go_ret
      exact ⟨rfl, KF.out⟩
    · cases q2
      all_goals
        go_wp2_with (first
          | (refine wpList_store_row rfl 24 _ _ rfl w3.heap.size R rfl rfl 24 Z H4.out S1.out Z1.out O1.out ?_)
          | (refine wpList_load_row_w (by rfl) 24 (.tmp 11) (by rfl) w3.heap.size (by rfl) 24 R (0, 0) _ H11.out Tryd.underlying24 rfl S1.out ?_)
          | (refine wpList_load_row_w (by rfl) 24 (.tmp 5) (by rfl) w.heap.size (by rfl) 24 X (0, 0) _ H5.out Tryd.underlying24 rfl SX.out ?_)
          | (refine wpList_eq_agg_w (by rfl) .neq 24 _ (.tmp 28) (.tmp 29) (by rfl) R X (by rfl) (by rfl) (by kernel_rfl) _ (HNE.out _) ?_))
        go_ret
        exact ⟨rfl, KF.out⟩
end Go.Proofs.YtfokemminjikpaaDoor
