/-
  The document's example of layer 21, out of the contracts.
-/
import Derived.Test.YtmhbfchhooggjaaGoC
import Derived.Deep.CutRange
namespace Go.Proofs.Ytmhbfchhooggjaa
open Go.RowKit Go.BigFrame
set_option linter.unusedVariables false
set_option linter.unusedSimpArgs false

theorem wpList_buildN21 {P : Program} {ops : Array Oper} {rest : List Oper} {o : Oper} {a : Act} {w w' : World} {Q : Exit → Act → World → Prop} (hgd : o.guard = none) (t : TypeId) (n : Nat) (parts : List (Nat × Operand)) (ho : o.op = .buildSlice t n parts.toArray) (vs : List (Nat × Value)) (hx : parts.map (fun (i, x) => (i, a.eval x)) = vs)
    (v : Value) (hrun : (Instr.buildSlice t n vs.toArray).run P w = .ok v w') (h : wpList P ops Q rest (a.put o.dst v) w') : wpList P ops Q (o :: rest) a w := by
  refine wpList_plain hgd fun _ hK => ?_
  unfold Oper.wp execOp
  simp only [ho, Sem.run_bind, Sem.run_pure, Result.andThen_ok, List.map_toArray, hx, hrun]
  exact hK _ _ h
theorem wpList_madeW21 {P : Program} {w : World} {ops : Array Oper} {rest : List Oper} {o : Oper} {a : Act} {Q : Exit → Act → World → Prop} (hw : Region.wanted o (yielded ops a.tmps) = true) (t : TypeId) (parts : List (Nat × Operand)) (ho : o.op = .build t parts.toArray) (vs : List (Nat × Value)) (hx : parts.map (fun (i, x) => (i, a.eval x)) = vs)
    (v : Value) (hrun : ∀ w, (Instr.build t vs.toArray).run P w = .ok v w) (h : wpList P ops Q rest (a.put o.dst v) w) : wpList P ops Q (o :: rest) a w := by
  refine wpList_wanted hw fun _ hK => ?_
  unfold Oper.wp execOp
  simp only [ho, List.map_toArray, hx, Sem.run_bind, Sem.run_pure, Result.andThen_ok, hrun]
  exact hK _ _ h
theorem four_ints (V : World) : (Instr.buildSlice 34 4 #[(0, .int .i64 0), (1, .int .i64 1), (2, .int .i64 2), (3, .int .i64 3)]).run Try.prog V = .ok (.slice (some ⟨V.heap.size, 0, none⟩) 4 4) (V.alloc (.cells (ivs [0, 1, 2, 3]).toArray 3)) := by kernel_rfl
theorem two_ints (V : World) : (Instr.buildSlice 34 2 #[(0, .int .i64 0), (1, .int .i64 2)]).run Try.prog V = .ok (.slice (some ⟨V.heap.size, 0, none⟩) 2 2) (V.alloc (.cells (ivs [0, 2]).toArray 3)) := by kernel_rfl
namespace Gp
def a0 : G := ⟨1, 4, 2, 7#64, []⟩
def a1 : G := ⟨1, 4, 2, 7#64, [hb 1]⟩
theorem a_one : flood a0 (hb 1) [0, 1, 2, 3] 3 = (a1, [0, 2]) := by
  unfold flood
  rw [if_neg (by simp [a0])]
  have h : oth a0 [0, 1, 2, 3] 3 = [0, 2] := by decide
  rw [h]
  rfl
theorem a_two : flood a1 (hb 1) [0, 2] 3 = (a1, []) := by
  unfold flood
  rw [if_pos (by simp [a1])]
theorem a_round : ∃ s x y, round a1 [0, 1, 2, 3] = (⟨1, 4, 2, s, [hb 1]⟩, [x, y]) ∧ x ≠ 1 ∧ y ≠ 1 := by
  have h1 : (Di.pick 7#64 (oth a1 [0, 1, 2, 3] (-1)) 2).out.length = 2 ∧ ∀ x ∈ (Di.pick 7#64 (oth a1 [0, 1, 2, 3] (-1)) 2).out, x ≠ 1 := by decide
  obtain ⟨h2, h3⟩ := h1
  match h : (Di.pick 7#64 (oth a1 [0, 1, 2, 3] (-1)) 2).out, h2 with
  | [x, y], _ =>
    refine ⟨(Di.pick 7#64 (oth a1 [0, 1, 2, 3] (-1)) 2).s, x, y, ?_, h3 x (by rw [h]; simp), h3 y (by rw [h]; simp)⟩
    unfold round
    show (_, (Di.pick 7#64 (oth a1 [0, 1, 2, 3] (-1)) 2).out) = _
    rw [h]
    rfl
end Gp
theorem own_block21 {w : World} {B : Nat} {A : Option Addr} {n c : Nat} {l : List Int} (h : w.ownsRow B 3 1 (.slice A n c) n (ivs l)) (i : Nat) (x : Int) (hx : l[i]? = some x) : ∃ b, A = some ⟨b, 0, none⟩ ∧ w.cell? ⟨b, i, none⟩ = some (.int .i64 x) ∧ B ≤ b := by
  obtain ⟨ad, rfl, hc⟩ := src_at21 (Src.of_own h) hx
  rcases h.2 with ⟨h1, _⟩ | ⟨b, cap, cur, h1, hb, _⟩
  · injection h1 with h1; cases h1
  · injection h1 with h1 _ _
    injection h1 with h1
    subst h1
    refine ⟨b, rfl, ?_, hb⟩
    rw [add_plain, Nat.zero_add] at hc
    exact hc
/-- A row of numbers that was just laid. -/
theorem ints_lie {w : World} {l : List Int} : Src (w.alloc (.cells (ivs l).toArray 3)) (some ⟨w.heap.size, 0, none⟩) (ivs l) := fun j u hu =>
  ⟨_, rfl, World.news_of_block (heap_alloc_new w _) j u (by simpa using hu)⟩
variable {At : World → (Nat → Prop) → Nat → Gp.G → Prop}
set_option maxRecDepth 100000 in
set_option maxHeartbeats 8000000 in
theorem awake21_any (C : Goss At) (w : World) : Calls Try.prog 7 #[] w fun e w' => e = .returned (.bool true) ∧ Keeps (fun _ => False) w w' := by
  have CC := Lib.hid C
  have hnew := C.new_on w 1 4 2 7#64 (by unfold Gp.In; omega)
  rw [show ((1 : Nat) : Int) = 1 from rfl, show ((4 : Nat) : Int) = 4 from rfl, show ((2 : Nat) : Int) = 2 from rfl, show di 7#64 = 7 from by decide] at hnew
  have HNEW := Lib.hid hnew
  obtain ⟨H1, hH1⟩ : ∃ L, (bvs (hb 1)).toArray = L := ⟨_, rfl⟩
  obtain ⟨H2, hH2⟩ : ∃ L, (bvs (hb 2)).toArray = L := ⟨_, rfl⟩
  have HB1 : Hid (∀ V : World, (Instr.build 36 #[(0, .int .u8 1)]).run Try.prog V = .ok (.agg H1) V) := Lib.hid (fun V => by rw [← hH1]; exact build_hb 1 V)
  have HB2 : Hid (∀ V : World, (Instr.build 36 #[(0, .int .u8 2)]).run Try.prog V = .ok (.agg H2) V) := Lib.hid (fun V => by rw [← hH2]; exact build_hb 2 V)
  have HH := Lib.hid (And.intro hH1 hH2)
  clear C hnew hH1 hH2
  go_enter Try.func7, Try.ntmps7
  go_wp2_with fail
  refine HNEW.out.mono ?_
  rintro e w1 ⟨g, F, rfl, a1, hF, k1⟩
  obtain ⟨V1, hV1⟩ : ∃ V, w1.alloc (.cells (ivs [0, 1, 2, 3]).toArray 3) = V := ⟨_, rfl⟩
  have kv1 : Keeps (fun _ => False) w1 V1 := by rw [← hV1]; exact (Keeps.refl _ _).alloc _
  have f1 := CC.out.flood (hb 1) (some ⟨w1.heap.size, 0, none⟩) 4 4 [0, 1, 2, 3] 3 (CC.out.keeps a1 kv1 (fun _ h => h.elim)) (hb_ok 1) (by rw [← hV1]; exact ints_lie) rfl (Nat.le_refl _) (by decide) (fun e => by cases e) (fun ad e _ h => by injection e with e; subst e; have := CC.out.lt a1 _ h; simp at this) (by decide) (by decide)
  rw [show Gp.flood ⟨1, 4, 2, 7#64, []⟩ (hb 1) [0, 1, 2, 3] 3 = (Gp.a1, [0, 2]) from Gp.a_one, HH.out.1] at f1
  have HF1 : Hid (Calls Try.prog 13 #[.pointer (some ⟨g, 0, none⟩), .agg H1, .slice (some ⟨w1.heap.size, 0, none⟩) 4 4, .int .i64 3] V1 fun e w' => ∃ F' A' c', e = .returned (.slice A' 2 c') ∧ At w' F' g Gp.a1 ∧ w'.ownsRow V1.heap.size 3 1 (.slice A' 2 c') 2 (ivs [0, 2]) ∧ (∀ b, F' b → F b ∨ V1.heap.size ≤ b) ∧ (∀ ad, A' = some ad → ¬ F' ad.block) ∧ Keeps F V1 w') := Lib.hid f1
  have HK1 : Hid (Keeps (fun _ => False) w V1 ∧ ∀ b, F b → w.heap.size ≤ b) := Lib.hid ⟨k1.trans kv1, hF⟩
  clear a1 hF k1 kv1 f1 HNEW
  go_wp2_with (first
    | (refine wpList_made (by rfl) 36 [(0, .const (.int .u8 1))] (by rfl) [(0, .int .u8 1)] (by rfl) (.agg H1) HB1.out ?_)
    | (refine wpList_buildN21 (by rfl) 34 4 [(0, .const (.int .i64 0)), (1, .const (.int .i64 1)), (2, .const (.int .i64 2)), (3, .const (.int .i64 3))] (by rfl) [(0, .int .i64 0), (1, .int .i64 1), (2, .int .i64 2), (3, .int .i64 3)] (by rfl) _ (four_ints w1) ?_; rw [hV1])
    | fail)
  refine HF1.out.mono ?_
  rintro e w2 ⟨F2, A2, c2, rfl, a2, o2, hF2, hA2, k2⟩
  obtain ⟨b2, rfl, hx0, hb2⟩ := own_block21 o2 0 0 rfl
  have hb2' : b2 < w2.heap.size := World.block_lt_of_cell? w2 _ hx0
  have hx1' : w2.cell? ⟨b2, 1, none⟩ = some (.int .i64 2) := by
    obtain ⟨b9, e9, h9, _⟩ := own_block21 o2 1 2 rfl
    injection e9 with e9
    injection e9 with e9
    rw [e9]; exact h9
  obtain ⟨V2, hV2⟩ : ∃ V, w2.alloc (.cells (ivs [0, 2]).toArray 3) = V := ⟨_, rfl⟩
  have kv2 : Keeps (fun _ => False) w2 V2 := by rw [← hV2]; exact (Keeps.refl _ _).alloc _
  have f2 := CC.out.flood (hb 1) (some ⟨w2.heap.size, 0, none⟩) 2 2 [0, 2] 3 (CC.out.keeps a2 kv2 (fun _ h => h.elim)) (hb_ok 1) (by rw [← hV2]; exact ints_lie) rfl (Nat.le_refl _) (by decide) (fun e => by cases e) (fun ad e _ h => by injection e with e; subst e; have := CC.out.lt a2 _ h; simp at this) (by decide) (by decide)
  rw [Gp.a_two, HH.out.1] at f2
  have HF2 : Hid (Calls Try.prog 13 #[.pointer (some ⟨g, 0, none⟩), .agg H1, .slice (some ⟨w2.heap.size, 0, none⟩) 2 2, .int .i64 3] V2 fun e w' => ∃ F' A' c', e = .returned (.slice A' 0 c') ∧ At w' F' g Gp.a1 ∧ w'.ownsRow V2.heap.size 3 1 (.slice A' 0 c') 0 (ivs []) ∧ (∀ b, F' b → F2 b ∨ V2.heap.size ≤ b) ∧ (∀ ad, A' = some ad → ¬ F' ad.block) ∧ Keeps F2 V2 w') := Lib.hid f2
  have HK2 : Hid ((Keeps (fun _ => False) w V2 ∧ ∀ b, F2 b → w.heap.size ≤ b) ∧ (¬ F2 b2 ∧ b2 < V2.heap.size ∧ w.heap.size ≤ b2) ∧ V2.cell? ⟨b2, 0, none⟩ = some (.int .i64 0) ∧ V2.cell? ⟨b2, 1, none⟩ = some (.int .i64 2)) := Lib.hid ⟨⟨(HK1.out.1.trans' k2 (fun i hi e => by have := HK1.out.2 i e; omega)).trans kv2, fun b h => by rcases hF2 b h with h | h; exact HK1.out.2 b h; exact Nat.le_trans HK1.out.1.size h⟩, ⟨hA2 _ rfl, by have := kv2.size; omega, Nat.le_trans HK1.out.1.size hb2⟩, (kv2.cell hb2' id).trans hx0, (kv2.cell hb2' id).trans hx1'⟩
  clear a2 o2 hF2 hA2 k2 hx0 hx1' hb2 hb2' kv2 f2 HF1 HK1 hV1
  go_wp2_with (first
    | (refine wpList_made (by rfl) 36 [(0, .const (.int .u8 1))] (by rfl) [(0, .int .u8 1)] (by rfl) (.agg H1) HB1.out ?_)
    | (refine wpList_buildN21 (by rfl) 34 2 [(0, .const (.int .i64 0)), (1, .const (.int .i64 2))] (by rfl) [(0, .int .i64 0), (1, .int .i64 2)] (by rfl) _ (two_ints w2) ?_; rw [hV2])
    | fail)
  refine HF2.out.mono ?_
  rintro e w3 ⟨F3, A3, c3, rfl, a3, _, hF3, _, k3⟩
  obtain ⟨sr, x, y, hr, hx1, hy1⟩ := Gp.a_round
  obtain ⟨V3, hV3⟩ : ∃ V, w3.alloc (.cells (ivs [0, 1, 2, 3]).toArray 3) = V := ⟨_, rfl⟩
  have kv3 : Keeps (fun _ => False) w3 V3 := by rw [← hV3]; exact (Keeps.refl _ _).alloc _
  have f3 := CC.out.round (some ⟨w3.heap.size, 0, none⟩) 4 4 [0, 1, 2, 3] (CC.out.keeps a3 kv3 (fun _ h => h.elim)) (by rw [← hV3]; exact ints_lie) rfl (Nat.le_refl _) (by decide) (fun e => by cases e) (fun ad e _ h => by injection e with e; subst e; have := CC.out.lt a3 _ h; simp at this) (by decide)
  rw [hr] at f3
  have HF3 : Hid (Calls Try.prog 10 #[.pointer (some ⟨g, 0, none⟩), .slice (some ⟨w3.heap.size, 0, none⟩) 4 4] V3 fun e w' => ∃ F' A' c', e = .returned (.slice A' 2 c') ∧ At w' F' g ⟨1, 4, 2, sr, [hb 1]⟩ ∧ w'.ownsRow V3.heap.size 3 1 (.slice A' 2 c') 2 (ivs [x, y]) ∧ (∀ b, F' b → F3 b ∨ V3.heap.size ≤ b) ∧ (∀ ad, A' = some ad → ¬ F' ad.block) ∧ Keeps F3 V3 w') := Lib.hid f3
  have k23 : Keeps F2 V2 V3 := k3.trans (kv3.mono (fun _ _ h => h.elim))
  have HK3 : Hid ((Keeps (fun _ => False) w V3 ∧ ∀ b, F3 b → w.heap.size ≤ b) ∧ (¬ F3 b2 ∧ b2 < V3.heap.size) ∧ V3.cell? ⟨b2, 0, none⟩ = some (.int .i64 0) ∧ V3.cell? ⟨b2, 1, none⟩ = some (.int .i64 2)) := Lib.hid ⟨⟨HK2.out.1.1.trans' k23 (fun i hi e => by have := HK2.out.1.2 i e; omega), fun b h => by rcases hF3 b h with h | h; exact HK2.out.1.2 b h; exact Nat.le_trans HK2.out.1.1.size h⟩, ⟨fun h => by rcases hF3 _ h with h | h; exact HK2.out.2.1.1 h; have := HK2.out.2.1.2.1; omega, Nat.lt_of_lt_of_le HK2.out.2.1.2.1 k23.size⟩, (k23.cell HK2.out.2.1.2.1 HK2.out.2.1.1).trans HK2.out.2.2.1, (k23.cell HK2.out.2.1.2.1 HK2.out.2.1.1).trans HK2.out.2.2.2⟩
  have HXY := Lib.hid (And.intro hx1 hy1)
  clear a3 hF3 k3 hr hx1 hy1 kv3 f3 k23 HF2 HK2 hV2
  go_wp2_with (first
    | (refine wpList_buildN21 (by rfl) 34 4 [(0, .const (.int .i64 0)), (1, .const (.int .i64 1)), (2, .const (.int .i64 2)), (3, .const (.int .i64 3))] (by rfl) [(0, .int .i64 0), (1, .int .i64 1), (2, .int .i64 2), (3, .int .i64 3)] (by rfl) _ (four_ints w3) ?_; rw [hV3])
    | fail)
  refine HF3.out.mono ?_
  rintro e w4 ⟨F4, A4, c4, rfl, a4, o4, hF4, hA4, k4⟩
  obtain ⟨b4, hA, hy0, hb4⟩ := own_block21 o4 0 x rfl
  subst hA
  have hy1 : w4.cell? ⟨b4, 1, none⟩ = some (.int .i64 y) := by
    obtain ⟨b9, e9, h9, _⟩ := own_block21 o4 1 y rfl
    injection e9 with e9
    injection e9 with e9
    rw [e9]; exact h9
  have hx0 : w4.cell? ⟨b2, 0, none⟩ = some (.int .i64 0) := (k4.cell HK3.out.2.1.2 HK3.out.2.1.1).trans HK3.out.2.2.1
  have hx1 : w4.cell? ⟨b2, 1, none⟩ = some (.int .i64 2) := (k4.cell HK3.out.2.1.2 HK3.out.2.1.1).trans HK3.out.2.2.2
  have hb4' : b4 < w4.heap.size := World.block_lt_of_cell? w4 _ hy0
  have HA4 := Lib.hid a4
  have HS1 : Hid (Calls Try.prog 15 #[.pointer (some ⟨g, 0, none⟩), .agg H1] w4 fun e w' => e = .returned (.bool true) ∧ Keeps (fun _ => False) w4 w') := Lib.hid (by
    have h := CC.out.seen (hb 1) a4 (hb_ok 1)
    rw [HH.out.1, decide_eq_true (by simp)] at h
    exact h)
  have HS2 : Hid (∀ V, Keeps (fun _ => False) w4 V → Calls Try.prog 15 #[.pointer (some ⟨g, 0, none⟩), .agg H2] V fun e w' => e = .returned (.bool false) ∧ Keeps (fun _ => False) V w') := Lib.hid (fun V hV => by
    have h := CC.out.seen (hb 2) (CC.out.keeps a4 hV (fun _ h => h.elim)) (hb_ok 2)
    rw [HH.out.2, decide_eq_false (by simp [hb])] at h
    exact h)
  have HK4 : Hid (Keeps (fun _ => False) w w4) := Lib.hid (HK3.out.1.1.trans' k4 (fun i hi e => by have := HK3.out.1.2 i e; omega))
  have HY : Hid (b4 < w4.heap.size ∧ w4.cell? ⟨b4, 0, none⟩ = some (.int .i64 x) ∧ w4.cell? ⟨b4, 1, none⟩ = some (.int .i64 y)) := Lib.hid ⟨hb4', hy0, hy1⟩
  clear a4 o4 hF4 hA4 k4 hy0 hb4 hy1 hb4' HF3 HK3 hV3
  go_upto_region 7 with fail
  try simp only [List.append]
  go_wp2_with (first
    | go_skip
    | (refine wpList_madeW21 ?_ 36 [(0, .const (.int .u8 1))] (by rfl) [(0, .int .u8 1)] (by rfl) (.agg H1) HB1.out ?_; rfl)
    | fail)
  refine HS1.out.mono ?_
  rintro e w5 ⟨rfl, k5⟩
  have HS3 := Lib.hid (HS2.out w5 k5)
  have K5 := Lib.hid k5
  clear k5 hx0 hx1 HS1
  go_wp2_with (first
    | go_skip
    | (refine wpList_madeW21 ?_ 36 [(0, .const (.int .u8 2))] (by rfl) [(0, .int .u8 2)] (by rfl) (.agg H2) HB2.out ?_; rfl)
    | fail)
  refine HS3.out.mono ?_
  rintro e w6 ⟨rfl, k6⟩
  have hy0 : w6.cell? ⟨b4, 0, none⟩ = some (.int .i64 x) := ((K5.out.trans k6).cell HY.out.1 id).trans HY.out.2.1
  have hy1 : w6.cell? ⟨b4, 1, none⟩ = some (.int .i64 y) := ((K5.out.trans k6).cell HY.out.1 id).trans HY.out.2.2
  have hxn : (x != 1) = true := by simpa using HXY.out.1
  have hyn : (y != 1) = true := by simpa using HXY.out.2
  have K6 := Lib.hid ((HK4.out.trans K5.out).trans k6)
  clear k6 HS3
  go_wp2_with fail
  go_ret
  exact ⟨rfl, K6.out⟩
end Go.Proofs.Ytmhbfchhooggjaa
