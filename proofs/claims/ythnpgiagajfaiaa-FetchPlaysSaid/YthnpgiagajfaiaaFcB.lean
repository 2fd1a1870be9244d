/-
  The program's order of wants: what its comparing function answers.
-/
import Derived.Test.YthnpgiagajfaiaaFcA
import Derived.Test.YthnpgiagajfaiaaFtL
import Derived.Test.YthnpgiagajfaiaaFtA
import Derived.Lib.SliceRun
import Derived.Lib.Bytealg
import Derived.Lib.BytesEntry
namespace Go.Proofs.Ythnpgiagajfaiaa
open Go.RowKit Go.BigFrame
set_option linter.unusedVariables false
set_option linter.unusedSimpArgs false

theorem wpList_build2_18 {P : Program} {ops : Array Oper} {rest : List Oper} {o : Oper} {a : Act} {w w' : World} {Q : Exit → Act → World → Prop} (hgd : o.guard = none) (t : TypeId) (n m m' : Nat) (x x' : Operand) (ho : o.op = .buildSlice t n #[(m, x), (m', x')])
    (u u' v : Value) (hx : a.eval x = u) (hx' : a.eval x' = u') (hrun : (Instr.buildSlice t n #[(m, u), (m', u')]).run P w = .ok v w') (h : wpList P ops Q rest (a.put o.dst v) w') : wpList P ops Q (o :: rest) a w := by
  refine wpList_plain hgd fun _ hK => ?_
  unfold Oper.wp execOp
  simp only [ho, Sem.run_bind, Sem.run_pure, Result.andThen_ok, List.map_toArray, List.map_cons, List.map_nil, hx, hx', hrun]
  exact hK _ _ h
theorem build_two (x y : Int) (V : World) : (Instr.buildSlice 95 2 #[(0, .int .i64 x), (1, .int .i64 y)]).run Try.prog V = .ok (.slice (some ⟨V.heap.size, 0, none⟩) 2 2) (V.alloc (.cells #[.int .i64 x, .int .i64 y] 3)) := by
  kernel_rfl
/-- A row of bytes as an entry of the library's takes it. -/
theorem run_bytesOf18 {P : Program} (w : World) (A : Option Addr) (c : Nat) (xs : List UInt8) (h : Src w A (bvs xs)) : (Extern.Bytes.bytesOf (.slice A xs.length c)).run P w = .ok (strOf xs) w := by
  cases A with
  | none =>
    have hn : xs = [] := by
      cases xs with
      | nil => rfl
      | cons u l => obtain ⟨a, h, _⟩ := h 0 (bv u) rfl; cases h
    subst hn
    rfl
  | some a =>
    have h2 := Lib.run_loadBytesX (P := P) (w := w) (xs.map fun c => (c.toNat : Int)) a .empty (fun j x hj => by
      refine h.at_ (j := j) ?_
      rw [List.getElem?_map] at hj
      rw [bvs_get]
      cases hx : xs[j]? with
      | none => rw [hx] at hj; cases hj
      | some c => rw [hx] at hj; cases hj; rfl)
    rw [List.length_map] at h2
    show (Extern.Bytes.loadBytes a xs.length .empty).run P w = _
    rw [h2]
    have e : Lib.bytesOf (xs.map fun c => (c.toNat : Int)) = xs := by
      unfold Lib.bytesOf
      rw [List.map_map]
      conv => rhs; rw [← List.map_id xs]
      apply List.map_congr_left
      intro c _
      simp
    rw [e]
    simp [strOf, ByteArray.empty, ByteArray.emptyWithCapacity]
    rfl
set_option maxRecDepth 100000 in
theorem bcmp_any (A B : Option Addr) (c d n m : Nat) (xs ys : List UInt8) (w : World) (h1 : Src w A (bvs xs)) (h2 : Src w B (bvs ys)) (hn : xs.length = n) (hm : ys.length = m) :
    Calls Try.prog 60 #[.slice A n c, .slice B m d] w fun e w' => e = .returned (.int .i64 (Lib.compareBytes xs ys)) ∧ w' = w := by
  have e1 := run_bytesOf18 (P := Try.prog) w A c xs h1
  have e2 := run_bytesOf18 (P := Try.prog) w B d ys h2
  have hrun : (Extern.BytealgCompare.compare #[.slice A xs.length c, .slice B ys.length d]).run Try.prog w = .ok (.int .i64 (Lib.compareBytes xs ys)) w := by
    change Sem.run Try.prog (do pure (goInt (Extern.BytealgCompare.cmp (← Extern.Bytes.bytesOf (.slice A xs.length c)) (← Extern.Bytes.bytesOf (.slice B ys.length d))))) w = _
    simp only [Sem.run_bind, Sem.run_pure, Result.andThen, e1, e2]
    rw [Lib.cmp_eq]
    rfl
  obtain ⟨x, hx⟩ : ∃ x, Lib.compareBytes xs ys = x := ⟨_, rfl⟩
  rw [hx] at hrun ⊢
  rw [hn, hm] at hrun
  clear e1 e2 h1 h2 hx hn hm
  go_enter Try.func60, Try.ntmps60
  go_wp2
  rw [run_callFunc_extern Try.func63 (by kernel_rfl) (by kernel_rfl) (by kernel_rfl) (e := Extern.BytealgCompare.compare) (by kernel_rfl), hrun]
  simp only [Result.andThen]
  rw [Oper.upon_value]
  go_wp2
  go_ret
  exact ⟨rfl, rfl⟩
set_option maxRecDepth 100000 in
set_option maxHeartbeats 1000000 in
theorem hcmp_any (a b : Ft.Key) (ha : Ft.Key.Ok a) (hb : Ft.Key.Ok b) (w : World) :
    Calls Try.prog 53 #[.agg (kcs a).toArray, .agg (kcs b).toArray] w fun e w' => e = .returned (.int .i64 (Ft.hcmp a b)) ∧ Gr w w' := by
  obtain ⟨KA, hKA⟩ : ∃ K, (kcs a).toArray = K := ⟨_, rfl⟩
  obtain ⟨KB, hKB⟩ : ∃ K, (kcs b).toArray = K := ⟨_, rfl⟩
  rw [hKA, hKB]
  obtain ⟨b1, hb1⟩ : ∃ x, w.heap.size = x := ⟨_, rfl⟩
  obtain ⟨W1, hW1⟩ : ∃ V, w.alloc (.cells KA 39) = V := ⟨_, rfl⟩
  obtain ⟨b2, hb2⟩ : ∃ x, W1.heap.size = x := ⟨_, rfl⟩
  obtain ⟨W2, hW2⟩ : ∃ V, W1.alloc (.cells KB 39) = V := ⟨_, rfl⟩
  have k1 : Gr w W1 := by rw [← hW1]; exact (Gr.refl _).alloc _
  have k2 : Gr W1 W2 := by rw [← hW2]; exact (Gr.refl _).alloc _
  have r1 : Row W2 b1 39 (kcs a) := Row.keeps (w := W1) (by rw [← hW1, ← hb1, ← hKA]; exact heap_alloc_new w _) k2.keeps id
  have r2 : Row W2 b2 39 (kcs b) := by rw [← hW2, ← hb2, ← hKB]; exact heap_alloc_new W1 _
  have K2 := Lib.hid (k1.trans k2)
  obtain ⟨S1, hS1⟩ : ∃ s : Int, (a.1 : Int) = s := ⟨_, rfl⟩
  obtain ⟨S2, hS2⟩ : ∃ s : Int, (b.1 : Int) = s := ⟨_, rfl⟩
  have HC1 : Hid (∀ V, LaterG W2 V → V.cell? ⟨b1, 0, none⟩ = some (.int .u64 S1)) := Lib.hid (fun V hV => by rw [← hS1]; exact (Row.keeps r1 hV.out.keeps id).cell 0)
  have HC2 : Hid (∀ V, LaterG W2 V → V.cell? ⟨b2, 0, none⟩ = some (.int .u64 S2)) := Lib.hid (fun V hV => by rw [← hS2]; exact (Row.keeps r2 hV.out.keeps id).cell 0)
  obtain ⟨c0, hc0⟩ : ∃ c, Ft.ucmp a.1 b.1 = c := ⟨_, rfl⟩
  obtain ⟨c1, hc1⟩ : ∃ c, Lib.compareBytes a.2 b.2 = c := ⟨_, rfl⟩
  have HU : Hid (∀ V, LaterG W2 V → Calls Try.prog 59 #[.int .u64 S1, .int .u64 S2] V fun e w' => e = .returned (.int .i64 c0) ∧ LaterG W2 w') := Lib.hid (fun V hV => by rw [← hS1, ← hS2, ← hc0]; exact (ucmp_any a.1 b.1 V).mono (fun e w' h => ⟨h.1, by rw [h.2]; exact hV⟩))
  have HB : Hid (∀ V, LaterG W2 V → Calls Try.prog 60 #[.slice (some ⟨b1, 1, none⟩) 32 32, .slice (some ⟨b2, 1, none⟩) 32 32] V fun e w' => e = .returned (.int .i64 c1) ∧ LaterG W2 w') := Lib.hid (fun V hV => by
    rw [← hc1]
    refine (bcmp_any _ _ 32 32 32 32 a.2 b.2 V (fun j u hu => ⟨_, rfl, ?_⟩) (fun j u hu => ⟨_, rfl, ?_⟩) ha.2 hb.2).mono (fun e w' h => ⟨h.1, by rw [h.2]; exact hV⟩)
    · rw [add_plain]; exact kcs_range (Row.keeps r1 hV.out.keeps id) j u hu
    · rw [add_plain]; exact kcs_range (Row.keeps r2 hV.out.keeps id) j u hu)
  have hr : Ft.hcmp a b = Ft.orI c0 c1 := by rw [← hc0, ← hc1]; rfl
  rw [hr]
  clear hKA hKB r1 r2 k1 k2 hS1 hS2 hc0 hc1 hr ha hb
  go_enter Try.func53, Try.ntmps53
  go_wp2_with fail
  refine wp_region_phase 10 (LaterG W2) (by kernel_rfl) (by kernel_rfl) (⟨(Gr.refl _).drew⟩) ?_
  simp only [List.take_succ_cons, List.take_zero, List.drop_succ_cons, List.drop_zero]
  refine class_value (by rfl) (.pointer (some ⟨b1, 0, none⟩)) (fun V hV => by go_simp) ?_
  simp only [Act.put, List.setIfInBounds_toArray, List.set_cons_zero, List.set_cons_succ]
  refine class_cell (by rfl) 22 (.tmp 5) (by rfl) ⟨b1, 0, none⟩ (by rfl) (.int .u64 S1) _ (fun V hV => HC1.out V hV) Try.underlying22 rfl ?_
  simp only [Act.put, List.setIfInBounds_toArray, List.set_cons_zero, List.set_cons_succ]
  refine class_value (by rfl) (.pointer (some ⟨b2, 0, none⟩)) (fun V hV => by go_simp) ?_
  simp only [Act.put, List.setIfInBounds_toArray, List.set_cons_zero, List.set_cons_succ]
  refine class_cell (by rfl) 22 (.tmp 7) (by rfl) ⟨b2, 0, none⟩ (by rfl) (.int .u64 S2) _ (fun V hV => HC2.out V hV) Try.underlying22 rfl ?_
  simp only [Act.put, List.setIfInBounds_toArray, List.set_cons_zero, List.set_cons_succ]
  refine class_callW (by rfl) _ _ (.int .i64 c0) (fun _ => by go_simp) (fun V hV => HU.out V hV) ?_
  simp only [Act.put, List.setIfInBounds_toArray, List.set_cons_zero, List.set_cons_succ]
  refine class_value (by rfl) (.pointer (some ⟨b1, 1, none⟩)) (fun V hV => by go_simp) ?_
  simp only [Act.put, List.setIfInBounds_toArray, List.set_cons_zero, List.set_cons_succ]
  refine class_value (by rfl) (.slice (some ⟨b1, 1, none⟩) 32 32) (fun V hV => by go_simp) ?_
  simp only [Act.put, List.setIfInBounds_toArray, List.set_cons_zero, List.set_cons_succ]
  refine class_value (by rfl) (.pointer (some ⟨b2, 1, none⟩)) (fun V hV => by go_simp) ?_
  simp only [Act.put, List.setIfInBounds_toArray, List.set_cons_zero, List.set_cons_succ]
  refine class_value (by rfl) (.slice (some ⟨b2, 1, none⟩) 32 32) (fun V hV => by go_simp) ?_
  simp only [Act.put, List.setIfInBounds_toArray, List.set_cons_zero, List.set_cons_succ]
  refine class_callW (by rfl) _ _ (.int .i64 c1) (fun _ => by go_simp) (fun V hV => HB.out V hV) ?_
  simp only [Act.put, List.setIfInBounds_toArray, List.set_cons_zero, List.set_cons_succ]
  refine wpQuiet_nil ?_
  intro V hV
  obtain ⟨bb, hbb⟩ : ∃ x, V.heap.size = x := ⟨_, rfl⟩
  obtain ⟨V1, hV1⟩ : ∃ U, V.alloc (.cells #[.int .i64 c0, .int .i64 c1] 3) = U := ⟨_, rfl⟩
  have r1 : Row V1 bb 3 [.int .i64 c0, .int .i64 c1] := by rw [← hV1, ← hbb]; exact heap_alloc_new V _
  have g1 : Gr W2 V1 := by rw [← hV1]; exact hV.out.alloc _
  have HBI := Lib.hid (build_two c0 c1 V)
  rw [hV1, hbb] at HBI
  have HO := Lib.hid (or_any c0 c1 V1 bb 2 (r1.cell 0) (r1.cell 1))
  have G1 := Lib.hid g1
  clear r1 g1 hV1
  go_wp2_with (first
    | (refine wpList_build2_18 (by rfl) 95 2 0 1 _ _ (by rfl) _ _ _ (by rfl) (by rfl) HBI.out ?_)
    | fail)
  refine HO.out.mono ?_
  rintro e w4 ⟨rfl, rfl⟩
  go_wp2
  go_ret
  exact ⟨rfl, K2.out.trans G1.out⟩
set_option maxRecDepth 100000 in
set_option maxHeartbeats 1000000 in
theorem hless_any (a b : Ft.Key) (ha : Ft.Key.Ok a) (hb : Ft.Key.Ok b) (w : World) :
    Calls Try.prog 42 #[.agg (kcs a).toArray, .agg (kcs b).toArray] w fun e w' => e = .returned (.bool (Ft.kless a b)) ∧ Gr w w' := by
  obtain ⟨b1, hb1⟩ : ∃ x, w.heap.size = x := ⟨_, rfl⟩
  obtain ⟨W1, hW1⟩ : ∃ V, w.alloc (.cells (kcs a).toArray 39) = V := ⟨_, rfl⟩
  obtain ⟨b2, hb2⟩ : ∃ x, W1.heap.size = x := ⟨_, rfl⟩
  obtain ⟨W2, hW2⟩ : ∃ V, W1.alloc (.cells (kcs b).toArray 39) = V := ⟨_, rfl⟩
  have k1 : Gr w W1 := by rw [← hW1]; exact (Gr.refl _).alloc _
  have k2 : Gr W1 W2 := by rw [← hW2]; exact (Gr.refl _).alloc _
  have r1 : Row W2 b1 39 (kcs a) := Row.keeps (w := W1) (by rw [← hW1, ← hb1]; exact heap_alloc_new w _) k2.keeps id
  have r2 : Row W2 b2 39 (kcs b) := by rw [← hW2, ← hb2]; exact heap_alloc_new W1 _
  have HC := Lib.hid (hcmp_any a b ha hb W2)
  have SA : Hid ((Try.prog.info? 39).map (·.size) = some (kcs a).toArray.size) := Lib.hid (by rw [List.size_toArray, kcs_length ha.2]; exact info_k)
  have SB : Hid ((Try.prog.info? 39).map (·.size) = some (kcs b).toArray.size) := Lib.hid (by rw [List.size_toArray, kcs_length hb.2]; exact info_k)
  obtain ⟨KA, hKA⟩ : ∃ K, (kcs a).toArray = K := ⟨_, rfl⟩
  obtain ⟨KB, hKB⟩ : ∃ K, (kcs b).toArray = K := ⟨_, rfl⟩
  have R1 : Hid (W2.heap[b1]? = some (.cells KA 39 (0, 0))) := Lib.hid (by rw [← hKA]; exact r1)
  have R2 : Hid (W2.heap[b2]? = some (.cells KB 39 (0, 0))) := Lib.hid (by rw [← hKB]; exact r2)
  rw [hKA, hKB] at HC
  rw [hKA] at hW1 SA
  rw [hKB] at hW2 SB
  rw [hKA, hKB]
  have K2 := Lib.hid (k1.trans k2)
  obtain ⟨r, hr⟩ : ∃ r, Ft.kless a b = r := ⟨_, rfl⟩
  obtain ⟨c, hc⟩ : ∃ c, Ft.hcmp a b = c := ⟨_, rfl⟩
  have hcr : decide (c < 0) = r := by rw [← hc, ← hr]; exact Ft.hcmp_neg a b
  rw [hr]
  rw [hc] at HC
  clear hKA hKB r1 r2 k1 k2 hr hc ha hb
  go_enter Try.func42, Try.ntmps42
  go_wp2_with (first
    | (refine wpList_load_row (by rfl) 39 _ (by rfl) b1 (by rfl) 39 KA (0, 0) _ R1.out Try.underlying39 rfl SA.out ?_)
    | (refine wpList_load_row (by rfl) 39 _ (by rfl) b2 (by rfl) 39 KB (0, 0) _ R2.out Try.underlying39 rfl SB.out ?_)
    | fail)
  refine HC.out.mono ?_
  rintro e w4 ⟨rfl, g4⟩
  have G4 := Lib.hid g4
  clear g4
  go_wp2
  go_ret
  exact ⟨rfl, K2.out.trans G4.out⟩
theorem want_range {w : World} {b : Nat} {k : Ft.Wn} (h : Row w b 41 (wcs k)) : w.rangeAt b 0 (wcs k) := fun j v hv => by
  rw [h.cell, Nat.zero_add]
  exact hv
set_option maxRecDepth 100000 in
set_option maxHeartbeats 1000000 in
theorem order_any (a b : Ft.Key) (ha : Ft.Key.Ok a) (hb : Ft.Key.Ok b) (w : World) :
    Calls Try.prog 37 #[.agg (kcs a).toArray, .agg (kcs b).toArray] w fun e w' => e = .returned (.int .i64 (Ft.ord a b)) ∧ Gr w w' := by
  obtain ⟨b1, hb1⟩ : ∃ x, w.heap.size = x := ⟨_, rfl⟩
  obtain ⟨W1, hW1⟩ : ∃ V, w.alloc (.cells (kcs a).toArray 39) = V := ⟨_, rfl⟩
  obtain ⟨b2, hb2⟩ : ∃ x, W1.heap.size = x := ⟨_, rfl⟩
  obtain ⟨W2, hW2⟩ : ∃ V, W1.alloc (.cells (kcs b).toArray 39) = V := ⟨_, rfl⟩
  have k1 : Gr w W1 := by rw [← hW1]; exact (Gr.refl _).alloc _
  have k2 : Gr W1 W2 := by rw [← hW2]; exact (Gr.refl _).alloc _
  have r1 : Row W2 b1 39 (kcs a) := Row.keeps (w := W1) (by rw [← hW1, ← hb1]; exact heap_alloc_new w _) k2.keeps id
  have r2 : Row W2 b2 39 (kcs b) := by rw [← hW2, ← hb2]; exact heap_alloc_new W1 _
  have HL1 : Hid (∀ V, Gr W2 V → Calls Try.prog 42 #[.agg (kcs a).toArray, .agg (kcs b).toArray] V fun e w' => e = .returned (.bool (Ft.kless a b)) ∧ Gr W2 w') := Lib.hid (fun V hV => (hless_any a b ha hb V).mono (fun e w' h => ⟨h.1, hV.trans h.2⟩))
  have HL2 : Hid (∀ V, Gr W2 V → Calls Try.prog 42 #[.agg (kcs b).toArray, .agg (kcs a).toArray] V fun e w' => e = .returned (.bool (Ft.kless b a)) ∧ Gr W2 w') := Lib.hid (fun V hV => (hless_any b a hb ha V).mono (fun e w' h => ⟨h.1, hV.trans h.2⟩))
  have SA : Hid ((Try.prog.info? 39).map (·.size) = some (kcs a).toArray.size) := Lib.hid (by rw [List.size_toArray, kcs_length ha.2]; exact info_k)
  have SB : Hid ((Try.prog.info? 39).map (·.size) = some (kcs b).toArray.size) := Lib.hid (by rw [List.size_toArray, kcs_length hb.2]; exact info_k)
  obtain ⟨KA, hKA⟩ : ∃ K, (kcs a).toArray = K := ⟨_, rfl⟩
  obtain ⟨KB, hKB⟩ : ∃ K, (kcs b).toArray = K := ⟨_, rfl⟩
  have R1 : Hid (∀ V, Gr W2 V → V.heap[b1]? = some (.cells KA 39 (0, 0))) := Lib.hid (fun V hV => by rw [← hKA]; exact Row.keeps r1 hV.keeps id)
  have R2 : Hid (∀ V, Gr W2 V → V.heap[b2]? = some (.cells KB 39 (0, 0))) := Lib.hid (fun V hV => by rw [← hKB]; exact Row.keeps r2 hV.keeps id)
  rw [hKA, hKB] at HL1 HL2
  rw [hKA] at hW1 SA
  rw [hKB] at hW2 SB
  rw [hKA, hKB]
  have K2 := Lib.hid (k1.trans k2)
  obtain ⟨r1, hr1⟩ : ∃ r, Ft.kless a b = r := ⟨_, rfl⟩
  obtain ⟨r2, hr2⟩ : ∃ r, Ft.kless b a = r := ⟨_, rfl⟩
  have hro : Ft.ord a b = if r1 = true then -1 else if r2 = true then 1 else 0 := by rw [← hr1, ← hr2]; rfl
  rw [hr1] at HL1
  rw [hr2] at HL2
  rw [hro]
  clear hKA hKB k1 k2 hr1 hr2 hro ha hb
  cases r1 with
  | true =>
    show Calls _ _ _ _ fun e w' => e = .returned (.int .i64 (-1)) ∧ Gr w w'
    go_enter Try.func37, Try.ntmps37
    go_wp2_with (first
    | (refine wpList_load_row (by rfl) 39 _ (by rfl) b1 (by rfl) 39 KA (0, 0) _ (R1.out _ (Gr.refl _)) Try.underlying39 rfl SA.out ?_)
    | (refine wpList_load_row (by rfl) 39 _ (by rfl) b2 (by rfl) 39 KB (0, 0) _ (R2.out _ (Gr.refl _)) Try.underlying39 rfl SB.out ?_)
    | fail)
    refine (HL1.out _ (Gr.refl _)).mono ?_
    rintro e w4 ⟨rfl, g4⟩
    have G4 := Lib.hid g4
    clear g4
    go_wp2
    go_ret
    exact ⟨rfl, K2.out.trans G4.out⟩
  | false =>
    have FIN : ∀ (r2 : Bool) (z : Int), (if r2 = true then (1 : Int) else 0) = z → Hid (∀ V, Gr W2 V → Calls Try.prog 42 #[.agg KB, .agg KA] V fun e w' => e = .returned (.bool r2) ∧ Gr W2 w') → Calls Try.prog 37 #[.agg KA, .agg KB] w fun e w' => e = .returned (.int .i64 z) ∧ Gr w w' := by
      intro r2 z hz HL2
      cases r2 with
      | true =>
        subst hz
        show Calls _ _ _ _ fun e w' => e = .returned (.int .i64 1) ∧ Gr w w'
        go_enter Try.func37, Try.ntmps37
        go_wp2_with (first
    | (refine wpList_load_row (by rfl) 39 _ (by rfl) b1 (by rfl) 39 KA (0, 0) _ (R1.out _ (Gr.refl _)) Try.underlying39 rfl SA.out ?_)
    | (refine wpList_load_row (by rfl) 39 _ (by rfl) b2 (by rfl) 39 KB (0, 0) _ (R2.out _ (Gr.refl _)) Try.underlying39 rfl SB.out ?_)
    | fail)
        refine (HL1.out _ (Gr.refl _)).mono ?_
        rintro e w4 ⟨rfl, g4⟩
        have G4 := Lib.hid g4
        clear g4
        go_wp2_with (first
    | (refine wpList_load_row (by rfl) 39 _ (by rfl) b1 (by rfl) 39 KA (0, 0) _ (R1.out _ G4.out) Try.underlying39 rfl SA.out ?_)
    | (refine wpList_load_row (by rfl) 39 _ (by rfl) b2 (by rfl) 39 KB (0, 0) _ (R2.out _ G4.out) Try.underlying39 rfl SB.out ?_)
    | fail)
        refine (HL2.out _ G4.out).mono ?_
        rintro e w5 ⟨rfl, g5⟩
        have G5 := Lib.hid g5
        clear g5
        go_wp2
        go_ret
        exact ⟨rfl, K2.out.trans G5.out⟩
      | false =>
        subst hz
        show Calls _ _ _ _ fun e w' => e = .returned (.int .i64 0) ∧ Gr w w'
        go_enter Try.func37, Try.ntmps37
        go_wp2_with (first
    | (refine wpList_load_row (by rfl) 39 _ (by rfl) b1 (by rfl) 39 KA (0, 0) _ (R1.out _ (Gr.refl _)) Try.underlying39 rfl SA.out ?_)
    | (refine wpList_load_row (by rfl) 39 _ (by rfl) b2 (by rfl) 39 KB (0, 0) _ (R2.out _ (Gr.refl _)) Try.underlying39 rfl SB.out ?_)
    | fail)
        refine (HL1.out _ (Gr.refl _)).mono ?_
        rintro e w4 ⟨rfl, g4⟩
        have G4 := Lib.hid g4
        clear g4
        go_wp2_with (first
    | (refine wpList_load_row (by rfl) 39 _ (by rfl) b1 (by rfl) 39 KA (0, 0) _ (R1.out _ G4.out) Try.underlying39 rfl SA.out ?_)
    | (refine wpList_load_row (by rfl) 39 _ (by rfl) b2 (by rfl) 39 KB (0, 0) _ (R2.out _ G4.out) Try.underlying39 rfl SB.out ?_)
    | fail)
        refine (HL2.out _ G4.out).mono ?_
        rintro e w5 ⟨rfl, g5⟩
        have G5 := Lib.hid g5
        clear g5
        go_wp2
        go_ret
        exact ⟨rfl, K2.out.trans G5.out⟩
    exact FIN r2 _ rfl HL2
set_option maxRecDepth 100000 in
set_option maxHeartbeats 1000000 in
theorem wcmp_any (a b : Ft.Wn) (ha : Ft.Wn.Ok a) (hb : Ft.Wn.Ok b) (w : World) :
    Calls Try.prog 29 #[.agg (wcs a).toArray, .agg (wcs b).toArray] w fun e w' => e = .returned (.int .i64 (Ft.wcmp a b)) ∧ Gr w w' := by
  obtain ⟨KA, hKA⟩ : ∃ K, (wcs a).toArray = K := ⟨_, rfl⟩
  obtain ⟨KB, hKB⟩ : ∃ K, (wcs b).toArray = K := ⟨_, rfl⟩
  rw [hKA, hKB]
  obtain ⟨b1, hb1⟩ : ∃ x, w.heap.size = x := ⟨_, rfl⟩
  obtain ⟨W1, hW1⟩ : ∃ V, w.alloc (.cells KA 41) = V := ⟨_, rfl⟩
  obtain ⟨b2, hb2⟩ : ∃ x, W1.heap.size = x := ⟨_, rfl⟩
  obtain ⟨W2, hW2⟩ : ∃ V, W1.alloc (.cells KB 41) = V := ⟨_, rfl⟩
  have k1 : Gr w W1 := by rw [← hW1]; exact (Gr.refl _).alloc _
  have k2 : Gr W1 W2 := by rw [← hW2]; exact (Gr.refl _).alloc _
  have r1 : Row W2 b1 41 (wcs a) := Row.keeps (w := W1) (by rw [← hW1, ← hb1, ← hKA]; exact heap_alloc_new w _) k2.keeps id
  have r2 : Row W2 b2 41 (wcs b) := by rw [← hW2, ← hb2, ← hKB]; exact heap_alloc_new W1 _
  have K2 := Lib.hid (k1.trans k2)
  obtain ⟨A1, hA1⟩ : ∃ l, kcs a.1 = l := ⟨_, rfl⟩
  obtain ⟨A2, hA2⟩ : ∃ l, kcs a.2 = l := ⟨_, rfl⟩
  obtain ⟨B1, hB1⟩ : ∃ l, kcs b.1 = l := ⟨_, rfl⟩
  obtain ⟨B2, hB2⟩ : ∃ l, kcs b.2 = l := ⟨_, rfl⟩
  have HA1 : Hid (∀ V, LaterG W2 V → V.rangeAt b1 0 A1) := Lib.hid (fun V hV => by rw [← hA1]; exact (range_w ha (want_range (Row.keeps r1 hV.out.keeps id))).1)
  have HA2 : Hid (∀ V, LaterG W2 V → V.rangeAt b1 33 A2) := Lib.hid (fun V hV => by rw [← hA2]; have h := (range_w ha (want_range (Row.keeps r1 hV.out.keeps id))).2; rwa [Nat.zero_add] at h)
  have HB1 : Hid (∀ V, LaterG W2 V → V.rangeAt b2 0 B1) := Lib.hid (fun V hV => by rw [← hB1]; exact (range_w hb (want_range (Row.keeps r2 hV.out.keeps id))).1)
  have HB2 : Hid (∀ V, LaterG W2 V → V.rangeAt b2 33 B2) := Lib.hid (fun V hV => by rw [← hB2]; have h := (range_w hb (want_range (Row.keeps r2 hV.out.keeps id))).2; rwa [Nat.zero_add] at h)
  have SA1 : Hid ((Try.prog.info? 39).map (·.size) = some A1.length) := Lib.hid (by rw [← hA1, kcs_length ha.1.2]; exact info_k)
  have SA2 : Hid ((Try.prog.info? 39).map (·.size) = some A2.length) := Lib.hid (by rw [← hA2, kcs_length ha.2.2]; exact info_k)
  have SB1 : Hid ((Try.prog.info? 39).map (·.size) = some B1.length) := Lib.hid (by rw [← hB1, kcs_length hb.1.2]; exact info_k)
  have SB2 : Hid ((Try.prog.info? 39).map (·.size) = some B2.length) := Lib.hid (by rw [← hB2, kcs_length hb.2.2]; exact info_k)
  obtain ⟨c0, hc0⟩ : ∃ c, Ft.ord a.1 b.1 = c := ⟨_, rfl⟩
  obtain ⟨c1, hc1⟩ : ∃ c, Ft.ord a.2 b.2 = c := ⟨_, rfl⟩
  have HU : Hid (∀ V, LaterG W2 V → Calls Try.prog 37 #[.agg A1.toArray, .agg B1.toArray] V fun e w' => e = .returned (.int .i64 c0) ∧ LaterG W2 w') := Lib.hid (fun V hV => by rw [← hA1, ← hB1, ← hc0]; exact (order_any a.1 b.1 ha.1 hb.1 V).mono (fun e w' h => ⟨h.1, ⟨hV.out.trans h.2⟩⟩))
  have HB : Hid (∀ V, LaterG W2 V → Calls Try.prog 37 #[.agg A2.toArray, .agg B2.toArray] V fun e w' => e = .returned (.int .i64 c1) ∧ LaterG W2 w') := Lib.hid (fun V hV => by rw [← hA2, ← hB2, ← hc1]; exact (order_any a.2 b.2 ha.2 hb.2 V).mono (fun e w' h => ⟨h.1, ⟨hV.out.trans h.2⟩⟩))
  have hr : Ft.wcmp a b = Ft.orI c0 c1 := by rw [← hc0, ← hc1]; rfl
  rw [hr]
  clear hKA hKB r1 r2 k1 k2 hA1 hA2 hB1 hB2 hc0 hc1 hr ha hb
  go_enter Try.func29, Try.ntmps29
  go_wp2_with fail
  refine wp_region_phase 10 (LaterG W2) (by kernel_rfl) (by kernel_rfl) (⟨(Gr.refl _).drew⟩) ?_
  simp only [List.take_succ_cons, List.take_zero, List.drop_succ_cons, List.drop_zero]
  refine class_value (by rfl) (.pointer (some ⟨b1, 0, none⟩)) (fun V hV => by go_simp) ?_
  simp only [Act.put, List.setIfInBounds_toArray, List.set_cons_zero, List.set_cons_succ]
  refine class_mid (by rfl) 39 (.tmp 5) (by rfl) b1 0 (by rfl) A1 _ (fun V hV => HA1.out V hV) Try.underlying39 rfl SA1.out ?_
  simp only [Act.put, List.setIfInBounds_toArray, List.set_cons_zero, List.set_cons_succ]
  refine class_value (by rfl) (.pointer (some ⟨b2, 0, none⟩)) (fun V hV => by go_simp) ?_
  simp only [Act.put, List.setIfInBounds_toArray, List.set_cons_zero, List.set_cons_succ]
  refine class_mid (by rfl) 39 (.tmp 7) (by rfl) b2 0 (by rfl) B1 _ (fun V hV => HB1.out V hV) Try.underlying39 rfl SB1.out ?_
  simp only [Act.put, List.setIfInBounds_toArray, List.set_cons_zero, List.set_cons_succ]
  refine class_callW (by rfl) _ _ (.int .i64 c0) (fun _ => by go_simp) (fun V hV => HU.out V hV) ?_
  simp only [Act.put, List.setIfInBounds_toArray, List.set_cons_zero, List.set_cons_succ]
  refine class_value (by rfl) (.pointer (some ⟨b1, 33, none⟩)) (fun V hV => by go_simp) ?_
  simp only [Act.put, List.setIfInBounds_toArray, List.set_cons_zero, List.set_cons_succ]
  refine class_mid (by rfl) 39 (.tmp 10) (by rfl) b1 33 (by rfl) A2 _ (fun V hV => HA2.out V hV) Try.underlying39 rfl SA2.out ?_
  simp only [Act.put, List.setIfInBounds_toArray, List.set_cons_zero, List.set_cons_succ]
  refine class_value (by rfl) (.pointer (some ⟨b2, 33, none⟩)) (fun V hV => by go_simp) ?_
  simp only [Act.put, List.setIfInBounds_toArray, List.set_cons_zero, List.set_cons_succ]
  refine class_mid (by rfl) 39 (.tmp 12) (by rfl) b2 33 (by rfl) B2 _ (fun V hV => HB2.out V hV) Try.underlying39 rfl SB2.out ?_
  simp only [Act.put, List.setIfInBounds_toArray, List.set_cons_zero, List.set_cons_succ]
  refine class_callW (by rfl) _ _ (.int .i64 c1) (fun _ => by go_simp) (fun V hV => HB.out V hV) ?_
  simp only [Act.put, List.setIfInBounds_toArray, List.set_cons_zero, List.set_cons_succ]
  refine wpQuiet_nil ?_
  intro V hV
  obtain ⟨bb, hbb⟩ : ∃ x, V.heap.size = x := ⟨_, rfl⟩
  obtain ⟨V1, hV1⟩ : ∃ U, V.alloc (.cells #[.int .i64 c0, .int .i64 c1] 3) = U := ⟨_, rfl⟩
  have r1 : Row V1 bb 3 [.int .i64 c0, .int .i64 c1] := by rw [← hV1, ← hbb]; exact heap_alloc_new V _
  have g1 : Gr W2 V1 := by rw [← hV1]; exact hV.out.alloc _
  have HBI := Lib.hid (build_two c0 c1 V)
  rw [hV1, hbb] at HBI
  have HO := Lib.hid (or_any c0 c1 V1 bb 2 (r1.cell 0) (r1.cell 1))
  have G1 := Lib.hid g1
  clear r1 g1 hV1
  go_wp2_with (first
    | (refine wpList_build2_18 (by rfl) 95 2 0 1 _ _ (by rfl) _ _ _ (by rfl) (by rfl) HBI.out ?_)
    | fail)
  refine HO.out.mono ?_
  rintro e w4 ⟨rfl, rfl⟩
  go_wp2
  go_ret
  exact ⟨rfl, K2.out.trans G1.out⟩
end Go.Proofs.Ythnpgiagajfaiaa
