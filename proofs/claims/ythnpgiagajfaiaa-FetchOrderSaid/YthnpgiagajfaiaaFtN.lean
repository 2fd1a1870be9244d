/-
  The document's own table of what is asked for, by value: a new one.
-/
import Derived.Test.YthnpgiagajfaiaaFtH
namespace Go.Proofs.Ythnpgiagajfaiaa
open Go.RowKit Go.BigFrame
set_option linter.unusedVariables false
set_option linter.unusedSimpArgs false

theorem results_cell_tmp18 {P : Program} {fn : Func} {p u : Tmp} {ty : TypeId} (h : fn.results = #[.cell p ty, .tmp u]) (tmps : Array Value) (w : World) (g : Nat) (t : TypeId) (cs : Array Value) (fr : Nat × Nat) (d : TypeDesc)
    (hp : tmps.getD p undef = .pointer (some ⟨g, 0, none⟩)) (hg : w.heap[g]? = some (.cells cs t fr))
    (hu : P.underlying ty = some d) (hd : (match d with | .struct _ | .array _ _ => true | _ => false) = true) (hi : (P.info? ty).map (·.size) = some cs.size) :
    (results fn tmps).run P w = .ok (.tuple #[.agg cs, tmps.getD u undef]) w := by
  have hp' : tmps[p]?.getD undef = .pointer (some ⟨g, 0, none⟩) := by simpa using hp
  simp [results, h, hp', asAddr, run_loadVar_row w g t ty cs fr d hg hu hd hi]
theorem size_T : (Try.prog.info? 31).map (·.size) = some 4 := by kernel_rfl
theorem zero_T (w : World) : (zeroValue 31).run Try.prog w = .ok (.agg (tcs 0 0 0 (.slice none 0 0))) w := by kernel_rfl
theorem build_T_none (V : World) : (Instr.build 31 #[]).run Try.prog V = .ok (.agg (tcs 0 0 0 (.slice none 0 0))) V := by kernel_rfl
theorem build_T (a b c : Nat) (V : World) : (Instr.build 31 #[(0, .int .i64 (a : Int)), (1, .int .i64 (b : Int)), (2, .int .i64 (c : Int))]).run Try.prog V = .ok (.agg (tcs a b c (.slice none 0 0))) V := by kernel_rfl
theorem tcs_one (a b c : Nat) (A : Option Addr) (n m : Nat) : (tcs a b c (.slice A n m)).all (·.oneCell') = true := by simp [tcs, Value.oneCell']
set_option maxRecDepth 100000 in
set_option maxHeartbeats 2000000 in
theorem rnew18_off (base most budget : Int) (w : World) (h : ¬ ((1 ≤ base ∧ base ≤ 100) ∧ (base ≤ most ∧ most ≤ 1000) ∧ (1 ≤ budget ∧ budget ≤ 20))) :
    Calls Try.prog 10 #[.int .i64 base, .int .i64 most, .int .i64 budget] w fun e w' => e = .returned (.tuple #[.agg (tcs 0 0 0 (.slice none 0 0)), .int .i64 1]) ∧ Keeps (fun _ => False) w w' := by
  obtain ⟨Z, hZ⟩ : ∃ Z, tcs 0 0 0 (.slice none 0 0) = Z := ⟨_, rfl⟩
  have hz : ∀ V : World, (zeroValue 31).run Try.prog V = .ok (.agg Z) V := fun V => by rw [← hZ]; exact zero_T V
  have SZ : Hid ((Try.prog.info? 31).map (·.size) = some Z.size) := Lib.hid (by rw [← hZ]; exact size_T)
  have OZ : Hid (Z.all (·.oneCell') = true) := Lib.hid (by rw [← hZ]; exact tcs_one _ _ _ _ _ _)
  have HB : Hid (∀ V : World, (Instr.build 31 #[]).run Try.prog V = .ok (.agg Z) V) := Lib.hid (fun V => by rw [← hZ]; exact build_T_none V)
  obtain ⟨b1, hb1⟩ : ∃ x, w.heap.size = x := ⟨_, rfl⟩
  obtain ⟨W1, hW1⟩ : ∃ V, w.alloc (.cells Z 31) = V := ⟨_, rfl⟩
  have k1 : Keeps (fun _ => False) w W1 := by rw [← hW1]; exact (Keeps.refl _ _).alloc _
  have r1 : W1.heap[b1]? = some (.cells Z 31 (0, 0)) := by rw [← hW1, ← hb1]; exact heap_alloc_new w _
  have R1 := Lib.hid r1
  obtain ⟨W2, hW2⟩ : ∃ V, W1.setRow b1 Z = V := ⟨_, rfl⟩
  have R2 : Hid (W2.heap[b1]? = some (.cells Z 31 (0, 0))) := Lib.hid (by rw [← hW2]; exact setRow_heap _ _ _ _ _ _ r1)
  have K2 : Hid (Keeps (fun _ => False) w W2) := Lib.hid (k1.trans' (T := fun k => k = b1) (by rw [← hW2]; exact Keeps.setRow _ _) (fun i hi e => by omega))
  rw [hZ]
  clear hZ k1 r1
  by_cases h0 : base < 1
  · have d0 : decide (base < 1) = true := decide_eq_true h0
    clear h
    go_enter Try.func10, Try.ntmps10
    go_wp2_with (first
      | (refine wpList_made (by rfl) 31 [] (by rfl) [] (by rfl) (.agg Z) HB.out ?_)
      | (refine wpList_store_row (by rfl) 31 _ _ (by rfl) b1 Z (by rfl) (by rfl) 31 Z R1.out SZ.out rfl OZ.out ?_; rw [hW2]))
    refine bodyPost_ret (results_cell_tmp18 rfl _ _ b1 31 Z (0, 0) _ rfl R2.out Try.underlying31 rfl SZ.out) rfl ?_
    exact ⟨rfl, K2.out⟩
  · skip
    by_cases h1 : 100 < base
    · have d0 : decide (base < 1) = false := decide_eq_false h0
      have d1 : decide (100 < base) = true := decide_eq_true h1
      clear h
      go_enter Try.func10, Try.ntmps10
      go_wp2_with (first
        | (refine wpList_made (by rfl) 31 [] (by rfl) [] (by rfl) (.agg Z) HB.out ?_)
        | (refine wpList_store_row (by rfl) 31 _ _ (by rfl) b1 Z (by rfl) (by rfl) 31 Z R1.out SZ.out rfl OZ.out ?_; rw [hW2]))
      refine bodyPost_ret (results_cell_tmp18 rfl _ _ b1 31 Z (0, 0) _ rfl R2.out Try.underlying31 rfl SZ.out) rfl ?_
      exact ⟨rfl, K2.out⟩
    · skip
      by_cases h2 : most < base
      · have d0 : decide (base < 1) = false := decide_eq_false h0
        have d1 : decide (100 < base) = false := decide_eq_false h1
        have d2 : decide (most < base) = true := decide_eq_true h2
        clear h
        go_enter Try.func10, Try.ntmps10
        go_wp2_with (first
          | (refine wpList_made (by rfl) 31 [] (by rfl) [] (by rfl) (.agg Z) HB.out ?_)
          | (refine wpList_store_row (by rfl) 31 _ _ (by rfl) b1 Z (by rfl) (by rfl) 31 Z R1.out SZ.out rfl OZ.out ?_; rw [hW2]))
        refine bodyPost_ret (results_cell_tmp18 rfl _ _ b1 31 Z (0, 0) _ rfl R2.out Try.underlying31 rfl SZ.out) rfl ?_
        exact ⟨rfl, K2.out⟩
      · skip
        by_cases h3 : 1000 < most
        · have d0 : decide (base < 1) = false := decide_eq_false h0
          have d1 : decide (100 < base) = false := decide_eq_false h1
          have d2 : decide (most < base) = false := decide_eq_false h2
          have d3 : decide (1000 < most) = true := decide_eq_true h3
          clear h
          go_enter Try.func10, Try.ntmps10
          go_wp2_with (first
            | (refine wpList_made (by rfl) 31 [] (by rfl) [] (by rfl) (.agg Z) HB.out ?_)
            | (refine wpList_store_row (by rfl) 31 _ _ (by rfl) b1 Z (by rfl) (by rfl) 31 Z R1.out SZ.out rfl OZ.out ?_; rw [hW2]))
          refine bodyPost_ret (results_cell_tmp18 rfl _ _ b1 31 Z (0, 0) _ rfl R2.out Try.underlying31 rfl SZ.out) rfl ?_
          exact ⟨rfl, K2.out⟩
        · skip
          by_cases h4 : budget < 1
          · have d0 : decide (base < 1) = false := decide_eq_false h0
            have d1 : decide (100 < base) = false := decide_eq_false h1
            have d2 : decide (most < base) = false := decide_eq_false h2
            have d3 : decide (1000 < most) = false := decide_eq_false h3
            have d4 : decide (budget < 1) = true := decide_eq_true h4
            clear h
            go_enter Try.func10, Try.ntmps10
            go_wp2_with (first
              | (refine wpList_made (by rfl) 31 [] (by rfl) [] (by rfl) (.agg Z) HB.out ?_)
              | (refine wpList_store_row (by rfl) 31 _ _ (by rfl) b1 Z (by rfl) (by rfl) 31 Z R1.out SZ.out rfl OZ.out ?_; rw [hW2]))
            refine bodyPost_ret (results_cell_tmp18 rfl _ _ b1 31 Z (0, 0) _ rfl R2.out Try.underlying31 rfl SZ.out) rfl ?_
            exact ⟨rfl, K2.out⟩
          · skip
            have h5 : 20 < budget := by omega
            have d0 : decide (base < 1) = false := decide_eq_false h0
            have d1 : decide (100 < base) = false := decide_eq_false h1
            have d2 : decide (most < base) = false := decide_eq_false h2
            have d3 : decide (1000 < most) = false := decide_eq_false h3
            have d4 : decide (budget < 1) = false := decide_eq_false h4
            have d5 : decide (20 < budget) = true := decide_eq_true h5
            clear h
            go_enter Try.func10, Try.ntmps10
            go_wp2_with (first
              | (refine wpList_made (by rfl) 31 [] (by rfl) [] (by rfl) (.agg Z) HB.out ?_)
              | (refine wpList_store_row (by rfl) 31 _ _ (by rfl) b1 Z (by rfl) (by rfl) 31 Z R1.out SZ.out rfl OZ.out ?_; rw [hW2]))
            refine bodyPost_ret (results_cell_tmp18 rfl _ _ b1 31 Z (0, 0) _ rfl R2.out Try.underlying31 rfl SZ.out) rfl ?_
            exact ⟨rfl, K2.out⟩
set_option maxRecDepth 100000 in
set_option maxHeartbeats 2000000 in
theorem rnew18_on (base most budget : Nat) (w : World) (h : (1 ≤ base ∧ base ≤ 100) ∧ (base ≤ most ∧ most ≤ 1000) ∧ (1 ≤ budget ∧ budget ≤ 20)) :
    Calls Try.prog 10 #[.int .i64 (base : Int), .int .i64 (most : Int), .int .i64 (budget : Int)] w fun e w' => e = .returned (.tuple #[.agg (tcs base most budget (.slice none 0 0)), .int .i64 0]) ∧ Keeps (fun _ => False) w w' := by
  obtain ⟨Z, hZ⟩ : ∃ Z, tcs 0 0 0 (.slice none 0 0) = Z := ⟨_, rfl⟩
  have hz : ∀ V : World, (zeroValue 31).run Try.prog V = .ok (.agg Z) V := fun V => by rw [← hZ]; exact zero_T V
  have SZ : Hid ((Try.prog.info? 31).map (·.size) = some Z.size) := Lib.hid (by rw [← hZ]; exact size_T)
  have OZ : Hid (Z.all (·.oneCell') = true) := Lib.hid (by rw [← hZ]; exact tcs_one _ _ _ _ _ _)
  have HB : Hid (∀ V : World, (Instr.build 31 #[]).run Try.prog V = .ok (.agg Z) V) := Lib.hid (fun V => by rw [← hZ]; exact build_T_none V)
  obtain ⟨b1, hb1⟩ : ∃ x, w.heap.size = x := ⟨_, rfl⟩
  obtain ⟨W1, hW1⟩ : ∃ V, w.alloc (.cells Z 31) = V := ⟨_, rfl⟩
  have k1 : Keeps (fun _ => False) w W1 := by rw [← hW1]; exact (Keeps.refl _ _).alloc _
  have r1 : W1.heap[b1]? = some (.cells Z 31 (0, 0)) := by rw [← hW1, ← hb1]; exact heap_alloc_new w _
  have R1 := Lib.hid r1
  obtain ⟨C, hC⟩ : ∃ C, tcs base most budget (.slice none 0 0) = C := ⟨_, rfl⟩
  have SC : Hid ((Try.prog.info? 31).map (·.size) = some C.size) := Lib.hid (by rw [← hC]; exact size_T)
  have SZC : Hid (Z.size = C.size) := Lib.hid (by rw [← hC, ← hZ]; rfl)
  have OC : Hid (C.all (·.oneCell') = true) := Lib.hid (by rw [← hC]; exact tcs_one _ _ _ _ _ _)
  have HB2 : Hid (∀ V : World, (Instr.build 31 #[(0, .int .i64 (base : Int)), (1, .int .i64 (most : Int)), (2, .int .i64 (budget : Int))]).run Try.prog V = .ok (.agg C) V) := Lib.hid (fun V => by rw [← hC]; exact build_T base most budget V)
  obtain ⟨W2, hW2⟩ : ∃ V, W1.setRow b1 C = V := ⟨_, rfl⟩
  have R2 : Hid (W2.heap[b1]? = some (.cells C 31 (0, 0))) := Lib.hid (by rw [← hW2]; exact setRow_heap _ _ _ _ _ _ r1)
  have K2 : Hid (Keeps (fun _ => False) w W2) := Lib.hid (k1.trans' (T := fun k => k = b1) (by rw [← hW2]; exact Keeps.setRow _ _) (fun i hi e => by omega))
  rw [hC]
  clear hZ k1 r1 hC
  obtain ⟨⟨h1, h2⟩, ⟨h3, h4⟩, h5, h6⟩ := h
  go_enter Try.func10, Try.ntmps10
  go_wp2_with (first
    | (refine wpList_made (by rfl) 31 [(0, .tmp 32), (1, .tmp 33), (2, .tmp 34)] (by rfl) [(0, .int .i64 (base : Int)), (1, .int .i64 (most : Int)), (2, .int .i64 (budget : Int))] (by rfl) (.agg C) HB2.out ?_)
    | (refine wpList_store_row (by rfl) 31 _ _ (by rfl) b1 C (by rfl) (by rfl) 31 Z R1.out SC.out SZC.out OC.out ?_; rw [hW2]))
  refine bodyPost_ret (results_cell_tmp18 rfl _ _ b1 31 C (0, 0) _ rfl R2.out Try.underlying31 rfl SC.out) rfl ?_
  exact ⟨rfl, K2.out⟩
end Go.Proofs.Ythnpgiagajfaiaa
