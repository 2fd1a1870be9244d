/-
  The document's example holds: 'awake' of layer 10 returns true, and leaves all that was as it was.
-/
import Derived.Test.YtfacjpdceennhaaCrC
import Derived.Lib.SlBytesConst
namespace Go.Proofs.Ytfacjpdceennhaa
open Go.RowKit Go.BigFrame
set_option linter.unusedVariables false

theorem sum_nine : Cr.sum [49, 50, 51, 52, 53, 54, 55, 56, 57] = 3421780262#32 := by decide +kernel
theorem sum_none : Cr.sum [] = 0#32 := by decide +kernel

set_option maxRecDepth 100000 in
set_option maxHeartbeats 1000000 in
theorem awake10_any (w : World) :
    Calls Try.prog 7 #[] w fun e w' => e = .returned (.bool true) ∧ Keeps (fun _ => False) w w' := by
  have kc := fun (w : World) (C : Array Value) (n c : Nat) => Lib.run_convert_bytes_const (P := Try.prog) w 22 5 C n c Try.underlying22 Try.underlying5
  go_enter Try.func7, Try.ntmps7
  obtain ⟨W1, hW1⟩ : ∃ W, w.alloc (.cells #[.int .u8 49, .int .u8 50, .int .u8 51, .int .u8 52, .int .u8 53, .int .u8 54, .int .u8 55, .int .u8 56, .int .u8 57] 5 (9, 10)) = W := ⟨_, rfl⟩
  obtain ⟨W2, hW2⟩ : ∃ W, W1.alloc (.cells #[.slice (some ⟨w.heap.size, 0, none⟩) 9 9] 22) = W := ⟨_, rfl⟩
  have k1 : Keeps (fun _ => False) w W1 := by rw [← hW1]; exact (Keeps.refl _ _).alloc _
  have k2 : Keeps (fun _ => False) W1 W2 := by rw [← hW2]; exact (Keeps.refl _ _).alloc _
  have r1 : Src W1 (some ⟨w.heap.size, 0, none⟩) (bvs [49, 50, 51, 52, 53, 54, 55, 56, 57]) := by rw [← hW1]; exact src_blk (fr := (9, 10)) (t := 5) (heap_alloc_new w _)
  have r2 : Row W2 W1.heap.size 22 [.slice (some ⟨w.heap.size, 0, none⟩) 9 9] := by rw [← hW2]; exact heap_alloc_new W1 _
  have hs1 : W1.heap.size = w.heap.size + 1 := by rw [← hW1]; simp
  rw [hs1] at r2
  have kk2 := k1.trans k2
  have hof := crc_any _ 1 _ W2 (rowsAt_one (a := ⟨w.heap.size + 1, 0, none⟩) (r := (some ⟨w.heap.size, 0, none⟩, 9, [49, 50, 51, 52, 53, 54, 55, 56, 57])) (by rw [add_plain]; exact r2.cell 0) (r1.keeps k2 (fun _ _ _ => id)) ⟨Nat.le_refl _, by show (9 : Nat) ≤ _; omega⟩) (by simp) (by simp)
  rw [show bytesOf [(some ⟨w.heap.size, 0, none⟩, 9, [49, 50, 51, 52, 53, 54, 55, 56, 57])] = [49, 50, 51, 52, 53, 54, 55, 56, 57] from rfl, sum_nine] at hof
  rw [← hW1] at hW2
  rw [← hW2] at hof
  have HOF : Hid (Calls Try.prog 9 #[.slice (some ⟨w.heap.size + 1, 0, none⟩) 1 1] _ fun e w' => e = .returned (.int .u32 3421780262) ∧ Keeps (fun _ => False) _ w') := hof
  rw [← hW2] at kk2
  have KK := Lib.hid kk2
  clear hof r1 r2 k1 k2 kk2 hs1 hW2 hW1
  go_wp2_with fail
  refine HOF.out.mono ?_
  rintro e w2 ⟨rfl, k2⟩
  have KW2 := Lib.hid (KK.out.trans k2)
  clear HOF KK k2
  obtain ⟨W3, hW3⟩ : ∃ W, w2.alloc (.cells #[.int .u8 49, .int .u8 50, .int .u8 51, .int .u8 52, .int .u8 53] 5 (5, 6)) = W := ⟨_, rfl⟩
  obtain ⟨W4, hW4⟩ : ∃ W, W3.alloc (.cells #[.int .u8 54, .int .u8 55, .int .u8 56, .int .u8 57] 5 (4, 5)) = W := ⟨_, rfl⟩
  obtain ⟨W5, hW5⟩ : ∃ W, W4.alloc (.cells #[.slice (some ⟨w2.heap.size, 0, none⟩) 5 5, .slice none 0 0, .slice (some ⟨W3.heap.size, 0, none⟩) 4 4] 22) = W := ⟨_, rfl⟩
  have k3 : Keeps (fun _ => False) w2 W3 := by rw [← hW3]; exact (Keeps.refl _ _).alloc _
  have k4 : Keeps (fun _ => False) W3 W4 := by rw [← hW4]; exact (Keeps.refl _ _).alloc _
  have k5 : Keeps (fun _ => False) W4 W5 := by rw [← hW5]; exact (Keeps.refl _ _).alloc _
  have r3 : Src W3 (some ⟨w2.heap.size, 0, none⟩) (bvs [49, 50, 51, 52, 53]) := by rw [← hW3]; exact src_blk (fr := (5, 6)) (t := 5) (heap_alloc_new w2 _)
  have r4 : Src W4 (some ⟨W3.heap.size, 0, none⟩) (bvs [54, 55, 56, 57]) := by rw [← hW4]; exact src_blk (fr := (4, 5)) (t := 5) (heap_alloc_new W3 _)
  have r5 : Row W5 W4.heap.size 22 [.slice (some ⟨w2.heap.size, 0, none⟩) 5 5, .slice none 0 0, .slice (some ⟨W3.heap.size, 0, none⟩) 4 4] := by rw [← hW5]; exact heap_alloc_new W4 _
  have hrows : RowsAt W5 (some ⟨W4.heap.size, 0, none⟩) [(some ⟨w2.heap.size, 0, none⟩, 5, [49, 50, 51, 52, 53]), (none, 0, []), (some ⟨W3.heap.size, 0, none⟩, 4, [54, 55, 56, 57])] :=
    rowsAt_three (by rw [add_plain]; exact r5.cell 0) (by rw [add_plain]; exact r5.cell 1) (by rw [add_plain]; exact r5.cell 2) ((r3.keeps k4 (fun _ _ _ => id)).keeps k5 (fun _ _ _ => id)) (Src.nil _ _) (r4.keeps k5 (fun _ _ _ => id)) ⟨Nat.le_refl _, by show (5 : Nat) ≤ _; omega⟩ ⟨Nat.le_refl _, by show (0 : Nat) ≤ _; omega⟩ ⟨Nat.le_refl _, by show (4 : Nat) ≤ _; omega⟩
  have kk5 : Keeps (fun _ => False) w W5 := ((KW2.out.trans k3).trans k4).trans k5
  have hof := crc_any _ 3 _ W5 hrows (by simp) (by simp)
  rw [show bytesOf [(some ⟨w2.heap.size, 0, none⟩, 5, [49, 50, 51, 52, 53]), (none, 0, []), (some ⟨W3.heap.size, 0, none⟩, 4, [54, 55, 56, 57])] = [49, 50, 51, 52, 53, 54, 55, 56, 57] from rfl, sum_nine] at hof
  have HOF : Hid (Calls Try.prog 9 #[.slice (some ⟨W4.heap.size, 0, none⟩) 3 3] W5 fun e w' => e = .returned (.int .u32 3421780262) ∧ Keeps (fun _ => False) W5 w') := hof
  clear hof hrows r3 r4 r5 k3 k4 k5 KW2
  go_wp2_with fail
  refine HOF.out.mono ?_
  rintro e w6 ⟨rfl, k6⟩
  clear HOF hW3 hW4 hW5
  have kk6 := kk5.trans k6
  have hof := crc_any none 0 [] w6 (RowsAt.nil _ _) (by simp) (by simp)
  rw [show bytesOf [] = [] from rfl, sum_none] at hof
  have HOF : Hid (Calls Try.prog 9 #[.slice none 0 0] w6 fun e w' => e = .returned (.int .u32 0) ∧ Keeps (fun _ => False) w6 w') := hof
  clear hof kk5 k6
  go_wp2_with fail
  refine HOF.out.mono ?_
  rintro e w7 ⟨rfl, k7⟩
  clear HOF
  go_wp2
  go_ret
  exact ⟨rfl, kk6.trans k7⟩
end Go.Proofs.Ytfacjpdceennhaa
