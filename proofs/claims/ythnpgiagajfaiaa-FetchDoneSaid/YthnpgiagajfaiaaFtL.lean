/-
  The document's own order of keys.
-/
import Derived.Test.YthnpgiagajfaiaaFtK
import Derived.Test.YthnpgiagajfaiaaRaw
import Derived.Test.YthnpgiagajfaiaaClsW
namespace Go.Proofs.Ythnpgiagajfaiaa
open Go.RowKit Go.BigFrame
set_option linter.unusedVariables false
set_option linter.unusedSimpArgs false

theorem str_list (l : List UInt8) : (strOf l).toList = l := by
  rw [ByteArray.toList_eq]
  rfl
theorem kcs_range {w : World} {b : Nat} {k : Ft.Key} (h : Row w b 39 (kcs k)) : w.rangeAt b 1 (bvs k.2) := fun j v hv => by
  rw [h.cell, Nat.add_comm]
  unfold kcs
  rw [List.getElem?_cons_succ]
  exact hv
set_option maxRecDepth 100000 in
set_option maxHeartbeats 1000000 in
theorem rkless_any (a b : Ft.Key) (ha : Ft.Key.Ok a) (hb : Ft.Key.Ok b) (w : World) :
    Calls Try.prog 30 #[.agg (kcs a).toArray, .agg (kcs b).toArray] w fun e w' => e = .returned (.bool (Ft.kless a b)) ∧ Keeps (fun _ => False) w w' := by
  obtain ⟨KA, hKA⟩ : ∃ K, (kcs a).toArray = K := ⟨_, rfl⟩
  obtain ⟨KB, hKB⟩ : ∃ K, (kcs b).toArray = K := ⟨_, rfl⟩
  rw [hKA, hKB]
  obtain ⟨b1, hb1⟩ : ∃ x, w.heap.size = x := ⟨_, rfl⟩
  obtain ⟨W1, hW1⟩ : ∃ V, w.alloc (.cells KA 39) = V := ⟨_, rfl⟩
  obtain ⟨b2, hb2⟩ : ∃ x, W1.heap.size = x := ⟨_, rfl⟩
  obtain ⟨W2, hW2⟩ : ∃ V, W1.alloc (.cells KB 39) = V := ⟨_, rfl⟩
  have k1 : Keeps (fun _ => False) w W1 := by rw [← hW1]; exact (Keeps.refl _ _).alloc _
  have k2 : Keeps (fun _ => False) W1 W2 := by rw [← hW2]; exact (Keeps.refl _ _).alloc _
  have r1 : Row W2 b1 39 (kcs a) := Row.keeps (w := W1) (by rw [← hW1, ← hb1, ← hKA]; exact heap_alloc_new w _) k2 id
  have r2 : Row W2 b2 39 (kcs b) := by rw [← hW2, ← hb2, ← hKB]; exact heap_alloc_new W1 _
  have c1 : W2.cell? ⟨b1, 0, none⟩ = some (.int .u64 (a.1 : Int)) := r1.cell 0
  have c2 : W2.cell? ⟨b2, 0, none⟩ = some (.int .u64 (b.1 : Int)) := r2.cell 0
  have K2 := Lib.hid (k1.trans k2)
  have R1 := Lib.hid r1
  have R2 := Lib.hid r2
  have hle : Ft.kless a b = if a.1 = b.1 then Op.bytesLess a.2 b.2 else decide (a.1 < b.1) := rfl
  by_cases he : a.1 = b.1
  · rw [if_pos he] at hle
    have hne : ((a.1 : Int) != (b.1 : Int)) = false := by rw [he]; simp
    have HA2 := Lib.hid (And.intro ha.2 hb.2)
    have HLE := Lib.hid hle
    obtain ⟨RA, hRA⟩ : ∃ R, bvs a.2 = R := ⟨_, rfl⟩
    obtain ⟨RB, hRB⟩ : ∃ R, bvs b.2 = R := ⟨_, rfl⟩
    obtain ⟨SA, hSA⟩ : ∃ S, strOf a.2 = S := ⟨_, rfl⟩
    obtain ⟨SB, hSB⟩ : ∃ S, strOf b.2 = S := ⟨_, rfl⟩
    obtain ⟨r, hr⟩ : ∃ r, Op.bytesLess SA.toList SB.toList = r := ⟨_, rfl⟩
    have hr2 : Ft.kless a b = r := by rw [hle, ← hr, ← hSA, ← hSB, str_list, str_list]
    have HR2 := Lib.hid hr2
    have SRA : Hid ((Try.prog.info? 37).map (·.size) = some RA.length) := Lib.hid (by rw [← hRA, bvs_length, ha.2]; exact info_h)
    have SRB : Hid ((Try.prog.info? 37).map (·.size) = some RB.length) := Lib.hid (by rw [← hRB, bvs_length, hb.2]; exact info_h)
    have HRA : Hid (∀ V, Later W2 V → V.rangeAt b1 1 RA) := Lib.hid (fun V hV => by rw [← hRA]; exact kcs_range (r1.keeps hV.out id))
    have HRB : Hid (∀ V, Later W2 V → V.rangeAt b2 1 RB) := Lib.hid (fun V hV => by rw [← hRB]; exact kcs_range (r2.keeps hV.out id))
    have HCA : Hid (∀ V, Later W2 V → Calls Try.prog 38 #[.agg RA.toArray] V fun e w' => e = .returned (.string SA) ∧ Later W2 w') := Lib.hid (fun V hV => by rw [← hRA, ← hSA]; exact (raw_any a.2 V ha.2).mono (fun e w' h => ⟨h.1, ⟨hV.out.trans h.2⟩⟩))
    have HCB : Hid (∀ V, Later W2 V → Calls Try.prog 38 #[.agg RB.toArray] V fun e w' => e = .returned (.string SB) ∧ Later W2 w') := Lib.hid (fun V hV => by rw [← hRB, ← hSB]; exact (raw_any b.2 V hb.2).mono (fun e w' h => ⟨h.1, ⟨hV.out.trans h.2⟩⟩))
    clear hKA hKB r1 r2 k1 k2 hle he hr2 hRA hRB hSA hSB
    go_enter Try.func30, Try.ntmps30
    go_wp2_with fail
    refine wp_region_class (Later W2) (by kernel_rfl) (by kernel_rfl) (⟨(Keeps.refl _ _).drew⟩) ?_
    refine class_value (by rfl) (.pointer (some ⟨b1, 1, none⟩)) (fun V hV => by go_simp) ?_
    simp only [Act.put, List.setIfInBounds_toArray, List.set_cons_zero, List.set_cons_succ]
    refine class_mid (by rfl) 37 (.tmp 15) (by rfl) b1 1 (by rfl) RA _ (fun V hV => HRA.out V hV) Try.underlying37 rfl SRA.out ?_
    simp only [Act.put, List.setIfInBounds_toArray, List.set_cons_zero, List.set_cons_succ]
    refine class_callW (by rfl) _ _ (.string SA) (fun _ => by go_simp) (fun V hV => HCA.out V hV) ?_
    simp only [Act.put, List.setIfInBounds_toArray, List.set_cons_zero, List.set_cons_succ]
    refine class_value (by rfl) (.pointer (some ⟨b2, 1, none⟩)) (fun V hV => by go_simp) ?_
    simp only [Act.put, List.setIfInBounds_toArray, List.set_cons_zero, List.set_cons_succ]
    refine class_mid (by rfl) 37 (.tmp 18) (by rfl) b2 1 (by rfl) RB _ (fun V hV => HRB.out V hV) Try.underlying37 rfl SRB.out ?_
    simp only [Act.put, List.setIfInBounds_toArray, List.set_cons_zero, List.set_cons_succ]
    refine class_callW (by rfl) _ _ (.string SB) (fun _ => by go_simp) (fun V hV => HCB.out V hV) ?_
    simp only [Act.put, List.setIfInBounds_toArray, List.set_cons_zero, List.set_cons_succ]
    refine class_value (by rfl) (.bool r) (fun V hV => by go_simp) ?_
    simp only [Act.put, List.setIfInBounds_toArray, List.set_cons_zero, List.set_cons_succ]
    refine class_value (by rfl) (.bool r) (fun V hV => by go_simp) ?_
    simp only [Act.put, List.setIfInBounds_toArray, List.set_cons_zero, List.set_cons_succ]
    refine wpQuiet_nil ?_
    intro w5 hw5
    go_wp2
    go_ret
    exact ⟨by rw [HR2.out]; rfl, K2.out.trans hw5.out⟩
  · rw [if_neg he] at hle
    have hne : ((a.1 : Int) != (b.1 : Int)) = true := by simp; omega
    obtain ⟨r, hr⟩ : ∃ r, decide (a.1 < b.1) = r := ⟨_, rfl⟩
    have hr2 : Ft.kless a b = r := by rw [hle, ← hr]
    have HR2 := Lib.hid hr2
    clear hKA hKB r1 r2 k1 k2 hle he hr2
    go_enter Try.func30, Try.ntmps30
    go_wp2
    go_ret
    exact ⟨by rw [HR2.out, ← hr]; rfl, K2.out⟩
end Go.Proofs.Ythnpgiagajfaiaa
