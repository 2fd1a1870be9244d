/-
  The document's own of layer 21, by value: a new one.
-/
import Derived.Test.YtmhbfchhooggjaaGoA
namespace Go.Proofs.Ytmhbfchhooggjaa
open Go.RowKit Go.BigFrame
set_option linter.unusedVariables false
set_option linter.unusedSimpArgs false

theorem results_cell_tmp21 {P : Program} {fn : Func} {p u : Tmp} {ty : TypeId} (h : fn.results = #[.cell p ty, .tmp u]) (tmps : Array Value) (w : World) (g : Nat) (t : TypeId) (cs : Array Value) (fr : Nat × Nat) (d : TypeDesc)
    (hp : tmps.getD p undef = .pointer (some ⟨g, 0, none⟩)) (hg : w.heap[g]? = some (.cells cs t fr))
    (hu : P.underlying ty = some d) (hd : (match d with | .struct _ | .array _ _ => true | _ => false) = true) (hi : (P.info? ty).map (·.size) = some cs.size) :
    (results fn tmps).run P w = .ok (.tuple #[.agg cs, tmps.getD u undef]) w := by
  have hp' : tmps[p]?.getD undef = .pointer (some ⟨g, 0, none⟩) := by simpa using hp
  simp [results, h, hp', asAddr, run_loadVar_row w g t ty cs fr d hg hu hd hi]
/-- Nobody's. -/
def gz : Array Value := #[.int .i64 0, .int .i64 0, .int .i64 0, .int .u64 0, .slice none 0 0]
theorem size_g21 : (Try.prog.info? 31).map (·.size) = some 5 := by kernel_rfl
theorem zero_g21 (w : World) : (zeroValue 31).run Try.prog w = .ok (.agg gz) w := by kernel_rfl
theorem build_g21_none (V : World) : (Instr.build 31 #[]).run Try.prog V = .ok (.agg gz) V := by kernel_rfl
theorem build_g21 (a b c d : Int) (V : World) : (Instr.build 31 #[(0, .int .i64 a), (1, .int .i64 b), (2, .int .i64 c), (3, .int .u64 d)]).run Try.prog V = .ok (.agg #[.int .i64 a, .int .i64 b, .int .i64 c, .int .u64 d, .slice none 0 0]) V := by kernel_rfl
theorem gcs_one (g : Gp.G) (A : Option Addr) (n c : Nat) : (gcs g (.slice A n c)).toArray.all (·.oneCell') = true := by simp [gcs, Value.oneCell']
theorem gz_one : gz.all (·.oneCell') = true := by simp [gz, Value.oneCell']
set_option maxRecDepth 100000 in
set_option maxHeartbeats 2000000 in
theorem rnew21_off (me many fan : Int) (s : BitVec 64) (w : World) (h : ¬ Gp.In me many fan) :
    Calls Try.prog 9 #[.int .i64 me, .int .i64 many, .int .i64 fan, .int .u64 (di s)] w fun e w' => e = .returned (.tuple #[.agg gz, .int .i64 1]) ∧ Keeps (fun _ => False) w w' := by
  obtain ⟨Z, hZ⟩ : ∃ Z, gz = Z := ⟨_, rfl⟩
  have hz : ∀ V : World, (zeroValue 31).run Try.prog V = .ok (.agg Z) V := fun V => by rw [← hZ]; exact zero_g21 V
  have SZ : Hid ((Try.prog.info? 31).map (·.size) = some Z.size) := Lib.hid (by rw [← hZ]; exact size_g21)
  have OZ : Hid (Z.all (·.oneCell') = true) := Lib.hid (by rw [← hZ]; exact gz_one)
  have HB : Hid (∀ V : World, (Instr.build 31 #[]).run Try.prog V = .ok (.agg Z) V) := Lib.hid (fun V => by rw [← hZ]; exact build_g21_none V)
  obtain ⟨b1, hb1⟩ : ∃ x, w.heap.size = x := ⟨_, rfl⟩
  obtain ⟨W1, hW1⟩ : ∃ V, w.alloc (.cells Z 31) = V := ⟨_, rfl⟩
  have k1 : Keeps (fun _ => False) w W1 := by rw [← hW1]; exact (Keeps.refl _ _).alloc _
  have r1 : W1.heap[b1]? = some (.cells Z 31 (0, 0)) := by rw [← hW1, ← hb1]; exact heap_alloc_new w _
  have R1 := Lib.hid r1
  obtain ⟨W2, hW2⟩ : ∃ V, W1.setRow b1 Z = V := ⟨_, rfl⟩
  have R2 : Hid (W2.heap[b1]? = some (.cells Z 31 (0, 0))) := Lib.hid (by rw [← hW2]; exact setRow_heap _ _ _ _ _ _ r1)
  have K2 : Hid (Keeps (fun _ => False) w W2) := Lib.hid (k1.trans' (T := fun k => k = b1) (by rw [← hW2]; exact Keeps.setRow _ _) (fun i hi e => by have e' : i = b1 := e; omega))
  rw [hZ]
  clear hZ k1 r1
  by_cases h0 : many < 1
  · have d0 : decide (many < 1) = true := decide_eq_true h0
    clear h
    go_enter Try.func9, Try.ntmps9
    go_wp2_with (first
      | (refine wpList_made (by rfl) 31 [] (by rfl) [] (by rfl) (.agg Z) HB.out ?_)
      | (refine wpList_store_row (by rfl) 31 _ _ (by rfl) b1 Z (by rfl) (by rfl) 31 Z R1.out SZ.out rfl OZ.out ?_; rw [hW2]))
    refine bodyPost_ret (results_cell_tmp21 rfl _ _ b1 31 Z (0, 0) _ rfl R2.out Try.underlying31 rfl SZ.out) rfl ?_
    exact ⟨rfl, K2.out⟩
  · skip
    by_cases h1 : 64 < many
    · have d0 : decide (many < 1) = false := decide_eq_false h0
      have d1 : decide (64 < many) = true := decide_eq_true h1
      clear h
      go_enter Try.func9, Try.ntmps9
      go_wp2_with (first
        | (refine wpList_made (by rfl) 31 [] (by rfl) [] (by rfl) (.agg Z) HB.out ?_)
        | (refine wpList_store_row (by rfl) 31 _ _ (by rfl) b1 Z (by rfl) (by rfl) 31 Z R1.out SZ.out rfl OZ.out ?_; rw [hW2]))
      refine bodyPost_ret (results_cell_tmp21 rfl _ _ b1 31 Z (0, 0) _ rfl R2.out Try.underlying31 rfl SZ.out) rfl ?_
      exact ⟨rfl, K2.out⟩
    · skip
      by_cases h2 : me < 0
      · have d0 : decide (many < 1) = false := decide_eq_false h0
        have d1 : decide (64 < many) = false := decide_eq_false h1
        have d2 : decide (me < 0) = true := decide_eq_true h2
        clear h
        go_enter Try.func9, Try.ntmps9
        go_wp2_with (first
          | (refine wpList_made (by rfl) 31 [] (by rfl) [] (by rfl) (.agg Z) HB.out ?_)
          | (refine wpList_store_row (by rfl) 31 _ _ (by rfl) b1 Z (by rfl) (by rfl) 31 Z R1.out SZ.out rfl OZ.out ?_; rw [hW2]))
        refine bodyPost_ret (results_cell_tmp21 rfl _ _ b1 31 Z (0, 0) _ rfl R2.out Try.underlying31 rfl SZ.out) rfl ?_
        exact ⟨rfl, K2.out⟩
      · skip
        by_cases h3 : many ≤ me
        · have d0 : decide (many < 1) = false := decide_eq_false h0
          have d1 : decide (64 < many) = false := decide_eq_false h1
          have d2 : decide (me < 0) = false := decide_eq_false h2
          have d3 : decide (many ≤ me) = true := decide_eq_true h3
          clear h
          go_enter Try.func9, Try.ntmps9
          go_wp2_with (first
            | (refine wpList_made (by rfl) 31 [] (by rfl) [] (by rfl) (.agg Z) HB.out ?_)
            | (refine wpList_store_row (by rfl) 31 _ _ (by rfl) b1 Z (by rfl) (by rfl) 31 Z R1.out SZ.out rfl OZ.out ?_; rw [hW2]))
          refine bodyPost_ret (results_cell_tmp21 rfl _ _ b1 31 Z (0, 0) _ rfl R2.out Try.underlying31 rfl SZ.out) rfl ?_
          exact ⟨rfl, K2.out⟩
        · skip
          by_cases h4 : fan < 1
          · have d0 : decide (many < 1) = false := decide_eq_false h0
            have d1 : decide (64 < many) = false := decide_eq_false h1
            have d2 : decide (me < 0) = false := decide_eq_false h2
            have d3 : decide (many ≤ me) = false := decide_eq_false h3
            have d4 : decide (fan < 1) = true := decide_eq_true h4
            clear h
            go_enter Try.func9, Try.ntmps9
            go_wp2_with (first
              | (refine wpList_made (by rfl) 31 [] (by rfl) [] (by rfl) (.agg Z) HB.out ?_)
              | (refine wpList_store_row (by rfl) 31 _ _ (by rfl) b1 Z (by rfl) (by rfl) 31 Z R1.out SZ.out rfl OZ.out ?_; rw [hW2]))
            refine bodyPost_ret (results_cell_tmp21 rfl _ _ b1 31 Z (0, 0) _ rfl R2.out Try.underlying31 rfl SZ.out) rfl ?_
            exact ⟨rfl, K2.out⟩
          · skip
            have h5 : many < fan := by unfold Gp.In at h; omega
            have d0 : decide (many < 1) = false := decide_eq_false h0
            have d1 : decide (64 < many) = false := decide_eq_false h1
            have d2 : decide (me < 0) = false := decide_eq_false h2
            have d3 : decide (many ≤ me) = false := decide_eq_false h3
            have d4 : decide (fan < 1) = false := decide_eq_false h4
            have d5 : decide (many < fan) = true := decide_eq_true h5
            clear h
            go_enter Try.func9, Try.ntmps9
            go_wp2_with (first
              | (refine wpList_made (by rfl) 31 [] (by rfl) [] (by rfl) (.agg Z) HB.out ?_)
              | (refine wpList_store_row (by rfl) 31 _ _ (by rfl) b1 Z (by rfl) (by rfl) 31 Z R1.out SZ.out rfl OZ.out ?_; rw [hW2]))
            refine bodyPost_ret (results_cell_tmp21 rfl _ _ b1 31 Z (0, 0) _ rfl R2.out Try.underlying31 rfl SZ.out) rfl ?_
            exact ⟨rfl, K2.out⟩
set_option maxRecDepth 100000 in
set_option maxHeartbeats 2000000 in
theorem rnew21_on (me many fan : Nat) (s : BitVec 64) (w : World) (h : Gp.In me many fan) :
    Calls Try.prog 9 #[.int .i64 (me : Int), .int .i64 (many : Int), .int .i64 (fan : Int), .int .u64 (di s)] w fun e w' => e = .returned (.tuple #[.agg (gcs ⟨me, many, fan, s, []⟩ (.slice none 0 0)).toArray, .int .i64 0]) ∧ Keeps (fun _ => False) w w' := by
  obtain ⟨Z, hZ⟩ : ∃ Z, gz = Z := ⟨_, rfl⟩
  have hz : ∀ V : World, (zeroValue 31).run Try.prog V = .ok (.agg Z) V := fun V => by rw [← hZ]; exact zero_g21 V
  have SZ : Hid ((Try.prog.info? 31).map (·.size) = some Z.size) := Lib.hid (by rw [← hZ]; exact size_g21)
  have OZ : Hid (Z.all (·.oneCell') = true) := Lib.hid (by rw [← hZ]; exact gz_one)
  have HB : Hid (∀ V : World, (Instr.build 31 #[]).run Try.prog V = .ok (.agg Z) V) := Lib.hid (fun V => by rw [← hZ]; exact build_g21_none V)
  obtain ⟨b1, hb1⟩ : ∃ x, w.heap.size = x := ⟨_, rfl⟩
  obtain ⟨W1, hW1⟩ : ∃ V, w.alloc (.cells Z 31) = V := ⟨_, rfl⟩
  have k1 : Keeps (fun _ => False) w W1 := by rw [← hW1]; exact (Keeps.refl _ _).alloc _
  have r1 : W1.heap[b1]? = some (.cells Z 31 (0, 0)) := by rw [← hW1, ← hb1]; exact heap_alloc_new w _
  have R1 := Lib.hid r1
  obtain ⟨C, hC⟩ : ∃ C, (gcs ⟨me, many, fan, s, []⟩ (.slice none 0 0)).toArray = C := ⟨_, rfl⟩
  have SC : Hid ((Try.prog.info? 31).map (·.size) = some C.size) := Lib.hid (by rw [← hC]; exact size_g21)
  have SZC : Hid (Z.size = C.size) := Lib.hid (by rw [← hC, ← hZ]; rfl)
  have OC : Hid (C.all (·.oneCell') = true) := Lib.hid (by rw [← hC]; exact gcs_one _ _ _ _)
  have HB2 : Hid (∀ V : World, (Instr.build 31 #[(0, .int .i64 (me : Int)), (1, .int .i64 (many : Int)), (2, .int .i64 (fan : Int)), (3, .int .u64 (di s))]).run Try.prog V = .ok (.agg C) V) := Lib.hid (fun V => by rw [← hC]; exact build_g21 _ _ _ _ V)
  obtain ⟨W2, hW2⟩ : ∃ V, W1.setRow b1 C = V := ⟨_, rfl⟩
  have R2 : Hid (W2.heap[b1]? = some (.cells C 31 (0, 0))) := Lib.hid (by rw [← hW2]; exact setRow_heap _ _ _ _ _ _ r1)
  have K2 : Hid (Keeps (fun _ => False) w W2) := Lib.hid (k1.trans' (T := fun k => k = b1) (by rw [← hW2]; exact Keeps.setRow _ _) (fun i hi e => by have e' : i = b1 := e; omega))
  rw [hC]
  clear hZ k1 r1 hC
  obtain ⟨⟨h1, h2⟩, ⟨h3, h4⟩, h5, h6⟩ := h
  obtain ⟨z, hzz⟩ : ∃ z, di s = z := ⟨_, rfl⟩
  rw [hzz] at HB2 ⊢
  go_enter Try.func9, Try.ntmps9
  go_wp2_with (first
    | (refine wpList_made (by rfl) 31 [(0, .tmp 35), (1, .tmp 36), (2, .tmp 37), (3, .tmp 38)] (by rfl) [(0, .int .i64 (me : Int)), (1, .int .i64 (many : Int)), (2, .int .i64 (fan : Int)), (3, .int .u64 z)] (by rfl) (.agg C) HB2.out ?_)
    | (refine wpList_store_row (by rfl) 31 _ _ (by rfl) b1 C (by rfl) (by rfl) 31 Z R1.out SC.out SZC.out OC.out ?_; rw [hW2]))
  refine bodyPost_ret (results_cell_tmp21 rfl _ _ b1 31 C (0, 0) _ rfl R2.out Try.underlying31 rfl SC.out) rfl ?_
  exact ⟨rfl, K2.out⟩
end Go.Proofs.Ytmhbfchhooggjaa