/-
  The document's example.
-/
import Derived.Test.YtecdeogbponplaaDiC
namespace Go.Proofs.Ytecdeogbponplaa
open Go.RowKit Go.BigFrame
set_option linter.unusedVariables false
set_option linter.unusedSimpArgs false

theorem awake_pick : ∃ a b c : Int, (Di.pick (Di.inc 0#64) [4, 5, 6] 9).out = [a, b, c] ∧ a + b + c = 15 ∧ 0 ≤ a ∧ a ≤ 9 ∧ 0 ≤ b ∧ b ≤ 9 := ⟨_, _, _, rfl, by decide, by decide, by decide, by decide, by decide⟩
set_option maxRecDepth 100000 in
set_option maxHeartbeats 4000000 in
theorem awake17_any (w : World) : Calls Try.prog 8 #[] w fun e w' => e = .returned (.bool true) ∧ Keeps (fun _ => False) w w' := by
  have h0 := dnew_any w 0#64
  rw [show di 0#64 = 0 from rfl] at h0
  have H0 := Lib.hid h0
  obtain ⟨pa, pb, pc, hpk, hsum, ha0, ha9, hb0, hb9⟩ := awake_pick
  have HPK := Lib.hid hpk
  clear h0 hpk
  go_enter Try.func8, Try.ntmps8
  go_wp2_with fail
  refine H0.out.mono ?_
  rintro e w1 ⟨g, rfl, hg, d1, k1⟩
  have h1 := next_any w1 g 0#64 d1
  rw [show di (Di.nxt 0#64) = 16294208416658607535 by decide] at h1
  have H1 := Lib.hid h1
  have K1 := Lib.hid k1
  have HGB := Lib.hid hg
  clear h1 d1 k1 hg
  go_wp2_with fail
  refine H1.out.mono ?_
  rintro e w2 ⟨rfl, d2, k2⟩
  obtain ⟨W3, hW3⟩ : ∃ V, w2.alloc (.cells #[.int .i64 4, .int .i64 5, .int .i64 6] 3) = V := ⟨_, rfl⟩
  have k3 : Keeps (fun _ => False) w2 W3 := by rw [← hW3]; exact (Keeps.refl _ _).alloc _
  have r3 : W3.heap[w2.heap.size]? = some (.cells (ivs [4, 5, 6]).toArray 3 (0, 0)) := by rw [← hW3]; exact heap_alloc_new w2 _
  have hs3 : Src W3 (some ⟨w2.heap.size, 0, none⟩) (ivs [4, 5, 6]) := fun j u hu => ⟨_, rfl, World.news_of_block r3 j u hu⟩
  have h3 := pick_any W3 g (Di.inc 0#64) (some ⟨w2.heap.size, 0, none⟩) 3 [4, 5, 6] 9 (Row.keeps d2 k3 id) hs3 (fun h => by cases h) (by decide) (by decide)
  rw [HPK.out] at h3
  have H3 := Lib.hid h3
  have K3 := Lib.hid ((K1.out.trans' k2 (fun i hi e => by have := HGB.out; omega)).trans k3)
  clear d2 k2 k3 r3 hs3 h3
  go_wp2_with fail
  refine H3.out.mono ?_
  rintro e w4 ⟨v, rfl, d4, o4, k4⟩
  obtain ⟨A4, c4, rfl⟩ := own_slice o4
  obtain ⟨ad, rfl, _⟩ := (Src.of_own o4) 0 (.int .i64 pa) rfl
  have c40 := (Src.of_own o4).at_ (j := 0) (u := .int .i64 pa) rfl
  have c41 := (Src.of_own o4).at_ (j := 1) (u := .int .i64 pb) rfl
  have c42 := (Src.of_own o4).at_ (j := 2) (u := .int .i64 pc) rfl
  obtain ⟨g4, hg4⟩ : ∃ g4, ad = ⟨g4, 0, none⟩ := by
    rcases o4.2 with ⟨h1, _⟩ | ⟨g4, _, _, h1, _⟩
    · cases h1
    · injection h1 with h1; injection h1 with h1; exact ⟨g4, h1⟩
  subst hg4
  rw [add_plain] at c40 c41 c42
  have HB : Hid (∀ V, Later w4 V → Calls Try.prog 13 #[.pointer (some ⟨g, 0, none⟩), .int .i64 1] V fun e w' => e = .returned (.int .i64 0) ∧ Later w4 w') := Lib.hid (fun V hV => (below_low _ V 1 (by decide)).mono (by rintro e w' ⟨h1, rfl⟩; exact ⟨h1, hV⟩))
  have HC0 : Hid (∀ V, Later w4 V → V.cell? ⟨g4, 0, none⟩ = some (.int .i64 pa)) := Lib.hid (fun V hV => (hV.out.cell (World.block_lt_of_cell? _ _ c40) id).trans c40)
  have HC1 : Hid (∀ V, Later w4 V → V.cell? ⟨g4, 1, none⟩ = some (.int .i64 pb)) := Lib.hid (fun V hV => (hV.out.cell (World.block_lt_of_cell? _ _ c41) id).trans c41)
  have HC2 : Hid (∀ V, Later w4 V → V.cell? ⟨g4, 2, none⟩ = some (.int .i64 pc)) := Lib.hid (fun V hV => (hV.out.cell (World.block_lt_of_cell? _ _ c42) id).trans c42)
  have K4 : Hid (Keeps (fun _ => False) w w4) := Lib.hid (K3.out.trans' k4 (fun i hi e => by have := HGB.out; omega))
  have hw1 : IntKind.i64.wrap (pa + pb) = pa + pb := by rw [IntKind.wrap_i64]; omega
  have hw2 : IntKind.i64.wrap 15 = 15 := by decide
  clear d4 o4 k4 hW3 c40 c41 c42
  go_wp2_with fail
  refine wp_region_class (Later w4) (by kernel_rfl) (by kernel_rfl) (⟨(Keeps.refl _ _).drew⟩) ?_
  refine class_value (by rfl) (.int .u64 16294208416658607535) (fun V hV => by go_simp) ?_
  simp only [Act.put, List.setIfInBounds_toArray, List.set_cons_zero, List.set_cons_succ]
  refine class_value (by rfl) (.bool true) (fun V hV => by go_simp) ?_
  simp only [Act.put, List.setIfInBounds_toArray, List.set_cons_zero, List.set_cons_succ]
  refine class_value (by rfl) (.bool true) (fun V hV => by go_simp) ?_
  simp only [Act.put, List.setIfInBounds_toArray, List.set_cons_zero, List.set_cons_succ]
  refine class_value (by rfl) (.slice (some ⟨g4, 0, none⟩) 3 c4) (fun V hV => by go_simp) ?_
  simp only [Act.put, List.setIfInBounds_toArray, List.set_cons_zero, List.set_cons_succ]
  refine class_value (by rfl) (.int .i64 3) (fun V hV => by go_simp) ?_
  simp only [Act.put, List.setIfInBounds_toArray, List.set_cons_zero, List.set_cons_succ]
  refine class_value (by rfl) (.bool true) (fun V hV => by go_simp) ?_
  simp only [Act.put, List.setIfInBounds_toArray, List.set_cons_zero, List.set_cons_succ]
  refine class_value (by rfl) (.bool true) (fun V hV => by go_simp) ?_
  simp only [Act.put, List.setIfInBounds_toArray, List.set_cons_zero, List.set_cons_succ]
  refine class_value (by rfl) (.bool true) (fun V hV => by go_simp) ?_
  simp only [Act.put, List.setIfInBounds_toArray, List.set_cons_zero, List.set_cons_succ]
  refine class_value (by rfl) (.slice (some ⟨g4, 0, none⟩) 3 c4) (fun V hV => by go_simp) ?_
  simp only [Act.put, List.setIfInBounds_toArray, List.set_cons_zero, List.set_cons_succ]
  refine class_value (by rfl) (.pointer (some ⟨g4, 0, none⟩)) (fun V hV => by go_simp) ?_
  simp only [Act.put, List.setIfInBounds_toArray, List.set_cons_zero, List.set_cons_succ]
  refine class_cell (by rfl) 3 (.tmp 19) (by rfl) ⟨g4, 0, none⟩ (by rfl) (.int .i64 pa) _ (fun V hV => HC0.out V hV) Try.underlying3 rfl ?_
  simp only [Act.put, List.setIfInBounds_toArray, List.set_cons_zero, List.set_cons_succ]
  refine class_value (by rfl) (.slice (some ⟨g4, 0, none⟩) 3 c4) (fun V hV => by go_simp) ?_
  simp only [Act.put, List.setIfInBounds_toArray, List.set_cons_zero, List.set_cons_succ]
  refine class_value (by rfl) (.pointer (some ⟨g4, 1, none⟩)) (fun V hV => by go_simp) ?_
  simp only [Act.put, List.setIfInBounds_toArray, List.set_cons_zero, List.set_cons_succ]
  refine class_cell (by rfl) 3 (.tmp 22) (by rfl) ⟨g4, 1, none⟩ (by rfl) (.int .i64 pb) _ (fun V hV => HC1.out V hV) Try.underlying3 rfl ?_
  simp only [Act.put, List.setIfInBounds_toArray, List.set_cons_zero, List.set_cons_succ]
  refine class_value (by rfl) (.int .i64 (pa + pb)) (fun V hV => by go_simp) ?_
  simp only [Act.put, List.setIfInBounds_toArray, List.set_cons_zero, List.set_cons_succ]
  refine class_value (by rfl) (.slice (some ⟨g4, 0, none⟩) 3 c4) (fun V hV => by go_simp) ?_
  simp only [Act.put, List.setIfInBounds_toArray, List.set_cons_zero, List.set_cons_succ]
  refine class_value (by rfl) (.pointer (some ⟨g4, 2, none⟩)) (fun V hV => by go_simp) ?_
  simp only [Act.put, List.setIfInBounds_toArray, List.set_cons_zero, List.set_cons_succ]
  refine class_cell (by rfl) 3 (.tmp 26) (by rfl) ⟨g4, 2, none⟩ (by rfl) (.int .i64 pc) _ (fun V hV => HC2.out V hV) Try.underlying3 rfl ?_
  simp only [Act.put, List.setIfInBounds_toArray, List.set_cons_zero, List.set_cons_succ]
  refine class_value (by rfl) (.int .i64 15) (fun V hV => by go_simp) ?_
  simp only [Act.put, List.setIfInBounds_toArray, List.set_cons_zero, List.set_cons_succ]
  refine class_value (by rfl) (.bool true) (fun V hV => by go_simp) ?_
  simp only [Act.put, List.setIfInBounds_toArray, List.set_cons_zero, List.set_cons_succ]
  refine class_value (by rfl) (.bool true) (fun V hV => by go_simp) ?_
  simp only [Act.put, List.setIfInBounds_toArray, List.set_cons_zero, List.set_cons_succ]
  refine class_value (by rfl) (.bool true) (fun V hV => by go_simp) ?_
  simp only [Act.put, List.setIfInBounds_toArray, List.set_cons_zero, List.set_cons_succ]
  refine class_value (by rfl) (.pointer (some ⟨g, 0, none⟩)) (fun V hV => by go_simp) ?_
  simp only [Act.put, List.setIfInBounds_toArray, List.set_cons_zero, List.set_cons_succ]
  refine class_callW (by rfl) _ _ (.int .i64 0) (fun _ => by go_simp) (fun V hV => HB.out V hV) ?_
  simp only [Act.put, List.setIfInBounds_toArray, List.set_cons_zero, List.set_cons_succ]
  refine class_value (by rfl) (.bool true) (fun V hV => by go_simp) ?_
  simp only [Act.put, List.setIfInBounds_toArray, List.set_cons_zero, List.set_cons_succ]
  refine class_value (by rfl) (.bool true) (fun V hV => by go_simp) ?_
  simp only [Act.put, List.setIfInBounds_toArray, List.set_cons_zero, List.set_cons_succ]
  refine class_value (by rfl) (.bool true) (fun V hV => by go_simp) ?_
  simp only [Act.put, List.setIfInBounds_toArray, List.set_cons_zero]
  refine wpQuiet_nil ?_
  intro w5 hw5
  go_wp2
  go_ret
  exact ⟨rfl, K4.out.trans hw5.out⟩
end Go.Proofs.Ytecdeogbponplaa
