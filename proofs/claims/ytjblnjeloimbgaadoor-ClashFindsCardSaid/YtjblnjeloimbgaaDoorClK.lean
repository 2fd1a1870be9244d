/-
  Two rows that are different, of one narrow hash (clash.Check). WRITTEN BY wip/gen/mkclk.py.
-/
import Derived.Test.YtjblnjeloimbgaaDoorClR
namespace Go.Proofs.YtjblnjeloimbgaaDoor
open Go.RowKit Go.BigFrame
set_option linter.unusedVariables false

set_option maxRecDepth 100000 in
set_option maxHeartbeats 1000000 in
/-- Of two rows that are different: are their narrow hashes the same? -/
theorem check_ne (wide : Int) (r s : RowOf) (w : World) (hT : Tabs w) (hr : RowG w r) (hs : RowG w s) (hne : r.2.2 ≠ s.2.2) (hr1 : r.2.2.length ≤ 1000) (hs1 : s.2.2.length ≤ 1000) :
    Calls Tryd.prog 11 #[.int .i64 wide, .agg #[rowSl r, rowSl s]] w fun e w' => e = .returned (.bool (Cl.nar (Cl.wid wide) r.2.2 == Cl.nar (Cl.wid wide) s.2.2)) ∧ Keeps (fun _ => False) w w' := by
  obtain ⟨rA, rc, xs⟩ := r
  obtain ⟨sA, sc, ys⟩ := s
  simp only at hne hr1 hs1
  obtain ⟨W1, hW1⟩ : ∃ V, w.alloc (.cells #[.slice rA xs.length rc, .slice sA ys.length sc] 29) = V := ⟨_, rfl⟩
  have k1 : Keeps (fun _ => False) w W1 := by rw [← hW1]; exact (Keeps.refl _ _).alloc _
  have r1 : Row W1 w.heap.size 29 [.slice rA xs.length rc, .slice sA ys.length sc] := by rw [← hW1]; exact heap_alloc_new w _
  have hb : (xs == ys) = false := by rw [beq_eq_false_iff_ne]; exact hne
  have hkv : ∀ V, Later W1 V → Keeps (fun _ => False) w V := fun V hV => k1.trans hV.out
  have HEQ : Hid (∀ V, Later W1 V → Calls Tryd.prog 17 #[.slice rA xs.length rc, .slice sA ys.length sc] V fun e w' => e = .returned (.bool false) ∧ Keeps (fun _ => False) V w') := Lib.hid (fun V hV => by
    have := equal_any rA sA rc sc xs ys V (hr.src.keeps (hkv V hV) (fun _ _ _ => id)) (hs.src.keeps (hkv V hV) (fun _ _ _ => id))
    rw [hb] at this
    exact this.mono fun e w' h => ⟨h.1, by rw [h.2]; exact Keeps.refl _ _⟩)
  have n1 := fun V (hV : Later W1 V) => narrow_any wide rA rc xs V (hT.keeps (hkv V hV) id id) (hr.src.keeps (hkv V hV) (fun _ _ _ => id)) hr.cap.1 hr.cap.2 (by omega)
  have n2 := fun V (hV : Later W1 V) => narrow_any wide sA sc ys V (hT.keeps (hkv V hV) id id) (hs.src.keeps (hkv V hV) (fun _ _ _ => id)) hs.cap.1 hs.cap.2 (by omega)
  obtain ⟨h1, hh1⟩ : ∃ h, Cl.nar (Cl.wid wide) xs = h := ⟨_, rfl⟩
  obtain ⟨h2, hh2⟩ : ∃ h, Cl.nar (Cl.wid wide) ys = h := ⟨_, rfl⟩
  have l1 : h1.length = 32 := by rw [← hh1]; exact Cl.nar_length _ _
  have l2 : h2.length = 32 := by rw [← hh2]; exact Cl.nar_length _ _
  simp only [hh1, hh2] at n1 n2 ⊢
  obtain ⟨u0, hu0, _⟩ := info_parts info_u8t
  have hre : ∀ V, (binOp .eql 26 (.agg (bvs h1).toArray) (.agg (bvs h2).toArray)).run Tryd.prog V = .ok (.bool (h1 == h2)) V := fun V => run_eql_bytes (P := Tryd.prog) V 26 5 32 Tryd.underlying26 Tryd.underlying5 hu0 (by kernel_rfl) (by kernel_rfl) h1 h2 l1 l2
  obtain ⟨z, hz⟩ : ∃ z, (h1 == h2) = z := ⟨_, rfl⟩
  obtain ⟨R1, hR1⟩ : ∃ R, (bvs h1).toArray = R := ⟨_, rfl⟩
  obtain ⟨R2, hR2⟩ : ∃ R, (bvs h2).toArray = R := ⟨_, rfl⟩
  rw [hR1] at n1 hre
  rw [hR2] at n2 hre
  rw [hz] at hre ⊢
  obtain ⟨m, hm⟩ : ∃ m, xs.length = m := ⟨_, rfl⟩
  obtain ⟨q, hq⟩ : ∃ m, ys.length = m := ⟨_, rfl⟩
  rw [hm] at n1
  rw [hq] at n2
  rw [hm, hq] at hW1 r1 HEQ
  have HN1 := Lib.hid n1
  have HN2 := Lib.hid n2
  have HRE := Lib.hid hre
  have HA : Hid (∀ V, Later W1 V → V.cell? ⟨w.heap.size, 0, none⟩ = some (.slice rA m rc)) := Lib.hid (fun V hV => (r1.keeps hV.out id).cell 0)
  have HB : Hid (∀ V, Later W1 V → V.cell? ⟨w.heap.size, 1, none⟩ = some (.slice sA q sc)) := Lib.hid (fun V hV => (r1.keeps hV.out id).cell 1)
  have K1 := Lib.hid k1
  unfold rowSl
  simp only [hm, hq]
  clear n1 n2 hre hR1 hR2 hz hh1 hh2 l1 l2 hm hq hT hr hs hne hr1 hs1 k1 r1 hb hkv hu0
  go_enter Tryd.func11, Tryd.ntmps11
  go_wp2_with fail
  refine wp_region_stores 18 [] [0, 1, 2, 3, 4, 5, 6, 7, 8, 9, 10, 11, 12, 13, 14, 15, 16, 17] (Later W1) (fun _ => True) (by kernel_rfl) (by kernel_rfl) (Lasts.later W1) (Lasts.true) (⟨(Keeps.refl _ _).drew⟩) (trivial) ?_
  refine T_value (get_op rfl) (by rfl) (by rfl) (.pointer (some ⟨w.heap.size, 0, none⟩)) (fun _ _ => by go_simp) ?_
  simp only [Act.put, List.setIfInBounds_toArray, List.set_cons_zero, List.set_cons_succ]
  refine T_cell (get_op rfl) (by rfl) (by rfl) 23 (.tmp 5) (by rfl) ⟨w.heap.size, 0, none⟩ (by rfl) (.slice rA m rc) _ (fun V hV => HA.out V hV) Tryd.underlying23 rfl ?_
  simp only [Act.put, List.setIfInBounds_toArray, List.set_cons_zero, List.set_cons_succ]
  refine T_value (get_op rfl) (by rfl) (by rfl) (.pointer (some ⟨w.heap.size, 1, none⟩)) (fun _ _ => by go_simp) ?_
  simp only [Act.put, List.setIfInBounds_toArray, List.set_cons_zero, List.set_cons_succ]
  refine T_cell (get_op rfl) (by rfl) (by rfl) 23 (.tmp 7) (by rfl) ⟨w.heap.size, 1, none⟩ (by rfl) (.slice sA q sc) _ (fun V hV => HB.out V hV) Tryd.underlying23 rfl ?_
  simp only [Act.put, List.setIfInBounds_toArray, List.set_cons_zero, List.set_cons_succ]
  refine T_call (get_op rfl) (by rfl) (by rfl) _ _ (.bool false) (fun _ => by go_simp) (fun V hV => HEQ.out V hV) ?_
  simp only [Act.put, List.setIfInBounds_toArray, List.set_cons_zero, List.set_cons_succ]
  refine T_value (get_op rfl) (by rfl) (by rfl) (.bool true) (fun _ _ => by go_simp) ?_
  simp only [Act.put, List.setIfInBounds_toArray, List.set_cons_zero, List.set_cons_succ]
  refine T_value (get_op rfl) (by rfl) (by rfl) (.bool true) (fun _ _ => by go_simp) ?_
  simp only [Act.put, List.setIfInBounds_toArray, List.set_cons_zero, List.set_cons_succ]
  refine T_value (get_op rfl) (by rfl) (by rfl) (.int .i64 wide) (fun _ _ => by go_simp) ?_
  simp only [Act.put, List.setIfInBounds_toArray, List.set_cons_zero, List.set_cons_succ]
  refine T_value (get_op rfl) (by rfl) (by rfl) (.pointer (some ⟨w.heap.size, 0, none⟩)) (fun _ _ => by go_simp) ?_
  simp only [Act.put, List.setIfInBounds_toArray, List.set_cons_zero, List.set_cons_succ]
  refine T_cell (get_op rfl) (by rfl) (by rfl) 23 (.tmp 13) (by rfl) ⟨w.heap.size, 0, none⟩ (by rfl) (.slice rA m rc) _ (fun V hV => HA.out V hV) Tryd.underlying23 rfl ?_
  simp only [Act.put, List.setIfInBounds_toArray, List.set_cons_zero, List.set_cons_succ]
  refine T_call (get_op rfl) (by rfl) (by rfl) _ _ (.agg R1) (fun _ => by go_simp) (fun V hV => HN1.out V hV) ?_
  simp only [Act.put, List.setIfInBounds_toArray, List.set_cons_zero, List.set_cons_succ]
  refine T_value (get_op rfl) (by rfl) (by rfl) (.int .i64 wide) (fun _ _ => by go_simp) ?_
  simp only [Act.put, List.setIfInBounds_toArray, List.set_cons_zero, List.set_cons_succ]
  refine T_value (get_op rfl) (by rfl) (by rfl) (.pointer (some ⟨w.heap.size, 1, none⟩)) (fun _ _ => by go_simp) ?_
  simp only [Act.put, List.setIfInBounds_toArray, List.set_cons_zero, List.set_cons_succ]
  refine T_cell (get_op rfl) (by rfl) (by rfl) 23 (.tmp 17) (by rfl) ⟨w.heap.size, 1, none⟩ (by rfl) (.slice sA q sc) _ (fun V hV => HB.out V hV) Tryd.underlying23 rfl ?_
  simp only [Act.put, List.setIfInBounds_toArray, List.set_cons_zero, List.set_cons_succ]
  refine T_call (get_op rfl) (by rfl) (by rfl) _ _ (.agg R2) (fun _ => by go_simp) (fun V hV => HN2.out V hV) ?_
  simp only [Act.put, List.setIfInBounds_toArray, List.set_cons_zero, List.set_cons_succ]
  refine T_eq (get_op rfl) (by rfl) (by rfl) .eql 26 _ (.tmp 15) (.tmp 19) (by rfl) R1 R2 (by rfl) (by rfl) (by kernel_rfl) (.bool z) (HRE.out) ?_
  simp only [Act.put, List.setIfInBounds_toArray, List.set_cons_zero, List.set_cons_succ]
  refine T_quiet (get_op rfl) (by rfl) (by rfl) (by rfl) ?_
  intro K hK
  go_big_quiet_op
  first | go_big_quiet_on | go_big_quiet_call ((intro _; rfl))
  refine T_quiet (get_op rfl) (by rfl) (by rfl) (by rfl) ?_
  intro K hK
  go_big_quiet_op
  first | go_big_quiet_on | go_big_quiet_call ((intro _; rfl))
  refine T_nil ?_
  intro V hV _
  simp only [List.drop_succ_cons, List.drop_nil]
  go_wp2_with fail
  go_ret
  exact ⟨rfl, K1.out.trans hV.out⟩
end Go.Proofs.YtjblnjeloimbgaaDoor
