/-
  The document's examples hold: 'awake' of layer 2 returns true, and leaves all that was as it was.
-/
import Derived.Test.YtfokemminjikpaaDoorShaN
import Derived.Test.YtfokemminjikpaaDoorShaT
import Derived.Lib.SlBytesConst
namespace Go.Proofs.YtfokemminjikpaaDoor
open Go.RowKit Go.BigFrame
set_option linter.unusedVariables false

theorem rowsAt_one {w : World} {a : Addr} {r : RowOf} (h0 : w.cell? (a.add 0) = some (.slice r.1 r.2.2.length r.2.1)) (hr : Src w r.1 (bvs r.2.2)) (cr : r.2.2.length ≤ r.2.1 ∧ r.2.1 ≤ 9223372036854775807) : RowsAt w (some a) [r] := by
  refine ⟨fun i x hx => ⟨a, rfl, ?_⟩, fun x hx => ?_, fun x hx => ?_⟩
  · match i, hx with
    | 0, hx => cases hx; exact h0
  · rw [List.mem_singleton] at hx; subst hx; exact hr
  · rw [List.mem_singleton] at hx; subst hx; exact cr
theorem src_blk {w : World} {g : Nat} {t : TypeId} {fr : Nat × Nat} {xs : List Value} (h : w.heap[g]? = some (.cells xs.toArray t fr)) : Src w (some ⟨g, 0, none⟩) xs := fun j u hu => ⟨_, rfl, by
  rw [add_plain, Nat.zero_add, cell_of_row w g j xs.toArray t fr h]
  simpa using hu⟩
def str1 : ByteArray := ⟨#[101, 51, 98, 48, 99, 52, 52, 50, 57, 56, 102, 99, 49, 99, 49, 52, 57, 97, 102, 98, 102, 52, 99, 56, 57, 57, 54, 102, 98, 57, 50, 52, 50, 55, 97, 101, 52, 49, 101, 52, 54, 52, 57, 98, 57, 51, 52, 99, 97, 52, 57, 53, 57, 57, 49, 98, 55, 56, 53, 50, 98, 56, 53, 53]⟩
def str2 : ByteArray := ⟨#[98, 97, 55, 56, 49, 54, 98, 102, 56, 102, 48, 49, 99, 102, 101, 97, 52, 49, 52, 49, 52, 48, 100, 101, 53, 100, 97, 101, 50, 50, 50, 51, 98, 48, 48, 51, 54, 49, 97, 51, 57, 54, 49, 55, 55, 97, 57, 99, 98, 52, 49, 48, 102, 102, 54, 49, 102, 50, 48, 48, 49, 53, 97, 100]⟩
theorem hex1 : hex (Sh.sha []) = [101, 51, 98, 48, 99, 52, 52, 50, 57, 56, 102, 99, 49, 99, 49, 52, 57, 97, 102, 98, 102, 52, 99, 56, 57, 57, 54, 102, 98, 57, 50, 52, 50, 55, 97, 101, 52, 49, 101, 52, 54, 52, 57, 98, 57, 51, 52, 99, 97, 52, 57, 53, 57, 57, 49, 98, 55, 56, 53, 50, 98, 56, 53, 53] := by decide +kernel
theorem hex2 : hex (Sh.sha [97, 98, 99]) = [98, 97, 55, 56, 49, 54, 98, 102, 56, 102, 48, 49, 99, 102, 101, 97, 52, 49, 52, 49, 52, 48, 100, 101, 53, 100, 97, 101, 50, 50, 50, 51, 98, 48, 48, 51, 54, 49, 97, 51, 57, 54, 49, 55, 55, 97, 57, 99, 98, 52, 49, 48, 102, 102, 54, 49, 102, 50, 48, 48, 49, 53, 97, 100] := by decide +kernel
theorem strOf1 : strOf (hex (Sh.sha [])) = str1 := by rw [hex1]; rfl
theorem strOf2 : strOf (hex (Sh.sha [97, 98, 99])) = str2 := by rw [hex2]; rfl

structure IsSha (l m : List UInt8) : Prop where
  out : Sh.sha l = m
set_option maxRecDepth 100000 in
set_option maxHeartbeats 1000000 in
theorem awake2_any (w : World) (hT : Tabs w) :
    Calls Tryd.prog 13 #[] w fun e w' => e = .returned (.bool true) ∧ Keeps (fun _ => False) w w' := by
  have h1 := of_any none 0 [] w hT (RowsAt.nil _ _) (by simp) (by simp [bytesOf])
  have e1 : bytesOf [] = [] := rfl
  rw [e1] at h1
  have H1 : Hid (Calls Tryd.prog 14 #[.slice none 0 0] w fun e w' => e = .returned (.agg (bvs (Sh.sha [])).toArray) ∧ Keeps (fun _ => False) w w') := h1
  obtain ⟨V1, hV1⟩ : ∃ V, Sh.sha [] = V := ⟨_, rfl⟩
  obtain ⟨V2, hV2⟩ : ∃ V, Sh.sha [97, 98, 99] = V := ⟨_, rfl⟩
  obtain ⟨V3, hV3⟩ : ∃ V, Sh.sha [0] = V := ⟨_, rfl⟩
  have hs1 := strOf1
  have hs2 := strOf2
  rw [hV1] at hs1 H1
  rw [hV2] at hs2
  have hl1 : V1.length = 32 := by rw [← hV1]; rfl
  have hl2 : V2.length = 32 := by rw [← hV2]; rfl
  have hl3 : V3.length = 32 := by rw [← hV3]; rfl
  have HS1 := Lib.hid hs1
  have HS2 := Lib.hid hs2
  have HL1 := Lib.hid hl1
  have HL2 := Lib.hid hl2
  have HL3 := Lib.hid hl3
  have HV2 : IsSha [97, 98, 99] V2 := ⟨hV2⟩
  have HV3 : IsSha [0] V3 := ⟨hV3⟩
  clear h1 e1 hs1 hs2 hl1 hl2 hl3 hV1 hV2 hV3
  have kc := fun (w : World) (C : Array Value) (n c : Nat) => Lib.run_convert_bytes_const (P := Tryd.prog) w 22 5 C n c Tryd.underlying22 Tryd.underlying5
  go_enter Tryd.func13, Tryd.ntmps13
  go_wp2_with fail
  refine H1.out.mono ?_
  rintro e w1 ⟨rfl, k1⟩
  clear H1
  go_wp2_with fail
  refine (text_any V1 _ HL1.out).mono ?_
  rintro e w2 ⟨rfl, k2⟩
  rw [HS1.out]
  unfold str1
  obtain ⟨W3, hW3⟩ : ∃ W, w2.alloc (.cells #[.int .u8 97] 5 (1, 2)) = W := ⟨_, rfl⟩
  obtain ⟨W4, hW4⟩ : ∃ W, W3.alloc (.cells #[.int .u8 98, .int .u8 99] 5 (2, 3)) = W := ⟨_, rfl⟩
  obtain ⟨W5, hW5⟩ : ∃ W, W4.alloc (.cells #[.slice (some ⟨w2.heap.size, 0, none⟩) 1 1, .slice (some ⟨W3.heap.size, 0, none⟩) 2 2] 22) = W := ⟨_, rfl⟩
  have k3 : Keeps (fun _ => False) w2 W3 := by rw [← hW3]; exact (Keeps.refl _ _).alloc _
  have k4 : Keeps (fun _ => False) W3 W4 := by rw [← hW4]; exact (Keeps.refl _ _).alloc _
  have k5 : Keeps (fun _ => False) W4 W5 := by rw [← hW5]; exact (Keeps.refl _ _).alloc _
  have r3 : Src W3 (some ⟨w2.heap.size, 0, none⟩) (bvs [97]) := by rw [← hW3]; exact src_blk (fr := (1, 2)) (t := 5) (heap_alloc_new w2 _)
  have r4 : Src W4 (some ⟨W3.heap.size, 0, none⟩) (bvs [98, 99]) := by rw [← hW4]; exact src_blk (fr := (2, 3)) (t := 5) (heap_alloc_new W3 _)
  have r5 : Row W5 W4.heap.size 22 [.slice (some ⟨w2.heap.size, 0, none⟩) 1 1, .slice (some ⟨W3.heap.size, 0, none⟩) 2 2] := by rw [← hW5]; exact heap_alloc_new W4 _
  have hrows : RowsAt W5 (some ⟨W4.heap.size, 0, none⟩) [(some ⟨w2.heap.size, 0, none⟩, 1, [97]), (some ⟨W3.heap.size, 0, none⟩, 2, [98, 99])] :=
    rowsAt_two (by rw [add_plain]; exact r5.cell 0) (by rw [add_plain]; exact r5.cell 1) ((r3.keeps k4 (fun _ _ _ => id)).keeps k5 (fun _ _ _ => id)) (r4.keeps k5 (fun _ _ _ => id)) ⟨Nat.le_refl _, by show (1 : Nat) ≤ _; omega⟩ ⟨Nat.le_refl _, by show (2 : Nat) ≤ _; omega⟩
  have kk5 : Keeps (fun _ => False) w W5 := (((k1.trans k2).trans k3).trans k4).trans k5
  have hof := of_any _ 2 _ W5 (hT.keeps kk5 id id) hrows (by simp) (by simp [bytesOf])
  have e2 : bytesOf [(some ⟨w2.heap.size, 0, none⟩, 1, [97]), (some ⟨W3.heap.size, 0, none⟩, 2, [98, 99])] = [97, 98, 99] := rfl
  rw [e2, HV2.out] at hof
  have HOF : Hid (Calls Tryd.prog 14 #[.slice (some ⟨W4.heap.size, 0, none⟩) 2 2] W5 fun e w' => e = .returned (.agg (bvs V2).toArray) ∧ Keeps (fun _ => False) W5 w') := hof
  clear hof e2 hrows r3 r4 r5 k1 k2 k3 k4 k5
  go_wp2_with fail
  refine HOF.out.mono ?_
  rintro e w6 ⟨rfl, k6⟩
  clear HOF hW3 hW4 hW5
  go_wp2_with fail
  refine (text_any V2 _ HL2.out).mono ?_
  rintro e w7 ⟨rfl, k7⟩
  rw [HS2.out]
  unfold str2
  have kk7 : Keeps (fun _ => False) w w7 := (kk5.trans k6).trans k7
  have hleaf := leaf_any none 0 [] w7 (hT.keeps kk7 id id) (Src.nil _ _) (Nat.le_refl _) (by omega) (by simp)
  rw [HV3.out] at hleaf
  have HLEAF : Hid (Calls Tryd.prog 16 #[.slice none 0 0] w7 fun e w' => e = .returned (.agg (bvs V3).toArray) ∧ Keeps (fun _ => False) w7 w') := hleaf
  clear hleaf kk5 k6 k7
  go_wp2_with fail
  refine HLEAF.out.mono ?_
  rintro e w8 ⟨rfl, k8⟩
  clear HLEAF
  obtain ⟨W9, hW9⟩ : ∃ W, w8.alloc (.cells #[.int .u8 0] 5) = W := ⟨_, rfl⟩
  obtain ⟨W10, hW10⟩ : ∃ W, W9.alloc (.cells #[.slice (some ⟨w8.heap.size, 0, none⟩) 1 1] 22) = W := ⟨_, rfl⟩
  have k9 : Keeps (fun _ => False) w8 W9 := by rw [← hW9]; exact (Keeps.refl _ _).alloc _
  have k10 : Keeps (fun _ => False) W9 W10 := by rw [← hW10]; exact (Keeps.refl _ _).alloc _
  have r9 : Src W9 (some ⟨w8.heap.size, 0, none⟩) (bvs [0]) := by rw [← hW9]; exact src_blk (fr := (0, 0)) (t := 5) (heap_alloc_new w8 _)
  have r10 : Row W10 W9.heap.size 22 [.slice (some ⟨w8.heap.size, 0, none⟩) 1 1] := by rw [← hW10]; exact heap_alloc_new W9 _
  have kk10 : Keeps (fun _ => False) w W10 := ((kk7.trans k8).trans k9).trans k10
  have hof := of_any _ 1 _ W10 (hT.keeps kk10 id id) (rowsAt_one (a := ⟨W9.heap.size, 0, none⟩) (r := (some ⟨w8.heap.size, 0, none⟩, 1, [0])) (by rw [add_plain]; exact r10.cell 0) (r9.keeps k10 (fun _ _ _ => id)) ⟨Nat.le_refl _, by show (1 : Nat) ≤ _; omega⟩) (by simp) (by simp [bytesOf])
  have e3 : bytesOf [(some ⟨w8.heap.size, 0, none⟩, 1, [0])] = [0] := rfl
  rw [e3, HV3.out] at hof
  have HOF : Hid (Calls Tryd.prog 14 #[.slice (some ⟨W9.heap.size, 0, none⟩) 1 1] W10 fun e w' => e = .returned (.agg (bvs V3).toArray) ∧ Keeps (fun _ => False) W10 w') := hof
  clear hof e3 r9 r10 k8 k9 k10 kk7
  go_wp2_with fail
  refine HOF.out.mono ?_
  rintro e w11 ⟨rfl, k11⟩
  clear HOF hW9 hW10
  have HE : Hid (∀ W : World, (binOp .eql 24 (.agg (bvs V3).toArray) (.agg (bvs V3).toArray)).run Tryd.prog W = .ok (.bool true) W) := fun W => by
    obtain ⟨i0, hi, _⟩ := info_parts info_u8t
    rw [run_eql_bytes W 24 5 32 Tryd.underlying24 Tryd.underlying5 hi (by kernel_rfl) (by kernel_rfl) V3 V3 HL3.out HL3.out]
    simp
  go_wp2_with (refine wpList_eq_agg_w (by rfl) .eql 24 _ (.tmp 15) (.tmp 18) (by rfl) (bvs V3).toArray (bvs V3).toArray (by rfl) (by rfl) (by kernel_rfl) (.bool true) (HE.out _) ?_)
  go_ret
  exact ⟨rfl, kk10.trans k11⟩
end Go.Proofs.YtfokemminjikpaaDoor
