/-
  octet's Reader: hashes: contracts over the translation.
-/
import Derived.Test.YtmjpaopobnhckaaRdNE
import Derived.Deep.RegionLaw
import Derived.Laws.CopyOwn
import Derived.Deep.DrawnRows
import Derived.Deep.RegionHeld3
import Derived.Deep.WholeRow
namespace Go.Proofs.Ytmjpaopobnhckaa
open Go.RowKit
set_option linter.unusedVariables false

/-! ### Hash -/
theorem rhash_cells (s : RS) : splice (bvs (List.replicate 32 0)) 0 (bvs (tk 32 s).2) = bvs (rhash s).2 := by
  unfold rhash
  rcases tk_full 32 s with h | h
  · simp only [splice, List.take_zero, List.nil_append, bvs_length, h, Nat.zero_add, if_pos]
    rw [List.drop_of_length_le (by simp [bvs]), List.append_nil]
  · simp [h, splice, bvs]
theorem size_hash : (Try.prog.info? 52).map (·.size) = some 32 := by kernel_rfl
theorem size_u8 : (Try.prog.info? 5).map (·.size) = some 1 := by kernel_rfl

theorem rdHash_any (b : Nat) (r : Option Nat) (s : RS) (w : World) (h : Rd w b r s) :
    Calls Try.prog 50 #[.pointer (some ⟨b, 0, none⟩)] w fun e w' => e = .returned (.agg (bvs (rhash s).2).toArray) ∧ Rd w' b r (rhash s).1 ∧ Only b w w' := by
  obtain ⟨out, hout⟩ : ∃ out, (tk 32 s).2 = out := ⟨_, rfl⟩
  obtain ⟨s1, hs1⟩ : ∃ s1, (tk 32 s).1 = s1 := ⟨_, rfl⟩
  obtain ⟨tn, htn⟩ : ∃ tn, tn = 32 := ⟨32, rfl⟩
  have hb := h.lt
  go_enter Try.func50, Try.ntmps50
  go_wp2_with fail
  obtain ⟨Z, hZ⟩ : ∃ Z, (bvs (List.replicate 32 0)) = Z := ⟨_, rfl⟩
  obtain ⟨W, hW⟩ : ∃ W, (w.alloc (.cells (bvs (List.replicate 32 0)).toArray 52)).alloc (.cells (bvs (List.replicate 32 0)).toArray 52) = W := ⟨_, rfl⟩
  have z0 : W.heap[w.heap.size]? = some (.cells Z.toArray 52 (0, 0)) := by rw [← hW, ← hZ]; exact heap_alloc2_old w _ _
  have z1 : W.heap[w.heap.size + 1]? = some (.cells Z.toArray 52 (0, 0)) := by rw [← hW, ← hZ]; exact heap_alloc2_new w _ _
  have kW : Keeps (fun _ => False) w W := by rw [← hW]; exact ((Keeps.refl _ _).alloc _).alloc _
  have hr := h.keeps kW id (fun _ _ => id)
  have HZ := Lib.hid hZ
  change Code.wp _ _ _ _ ((w.alloc (.cells (bvs (List.replicate 32 0)).toArray 52)).alloc (.cells (bvs (List.replicate 32 0)).toArray 52))
  rw [hW]
  clear hW hZ
  have hol : out.length ≤ 32 := by
    rw [← hout]
    unfold tk
    split
    · split
      · simp
      · simp; omega
    · simp
  have hzl : 32 ≤ Z.length := by rw [← HZ.out]; simp [bvs]
  have HB1 : Hid (∀ w1, Only b W.drew w1 → w1.heap[w.heap.size + 1]? = some (.cells Z.toArray 52 (0, 0)) ∧ w1.heap[w.heap.size]? = some (.cells Z.toArray 52 (0, 0))) := fun w1 hk =>
    ⟨(hk.block (w.heap.size + 1) (Array.getElem?_eq_some_iff.1 z1).1 (by omega)).trans z1, (hk.block w.heap.size (Array.getElem?_eq_some_iff.1 z0).1 (by omega)).trans z0⟩
  clear z0 z1
  have HO := Lib.hid hout
  have HS := Lib.hid hs1
  go_region_law (first
    | (go_simp; go_at_call 53; refine (rdTake_at b r _ 32 s _ (by exact hr) rfl).mono ?_; rintro e w1 ⟨A, c, rfl, hrow, hcm, hr1, hk1⟩; rw [HO.out] at hrow; rw [HS.out] at hr1)
    | (refine step_copy_splice (by rfl) (.tmp 4) (.tmp 6) 37 37 (by rfl) 5 Try.underlying37 size_u8 (some ⟨w.heap.size + 1, 0, none⟩) A 32 32 out.length c (by rfl) (by rfl) (w.heap.size + 1) 0 Z 52 (by exact (HB1.out _ hk1).1) (bvs out) (by rw [bvs_length]; exact (Nat.min_eq_left hol).symm) (fun hp => ⟨rfl, hrow.src.pos hp⟩) (by rw [bvs_length]; omega) (bvs_one _) (w.heap.size + 1) w1 (Below.refl _ _) (Nat.le_refl _) ?_; intro w2 HG2 hb2))
  obtain ⟨y0, y1⟩ := HB1.out _ hk1
  have y2 := (hb2.block w.heap.size (by omega)).trans y1
  have Y0 := Lib.hid y2
  obtain ⟨C, hC⟩ : ∃ C, (splice Z 0 (bvs out)).toArray = C := ⟨_, rfl⟩
  have hC32 : C.size = 32 := by
    rw [← hC, List.size_toArray, length_splice _ _ _ (by rw [bvs_length]; omega), ← HZ.out]
    simp [bvs]
  have hCi : (Try.prog.info? 52).map (·.size) = some C.size := by rw [hC32]; exact size_hash
  have hC1 : C.all (·.oneCell') = true := by
    rw [← hC, Array.all_eq_true_iff_forall_mem]
    intro v hv
    have hv' : v ∈ Z ∨ v ∈ bvs out := by
      simp [splice] at hv
      rcases hv with h | h
      · exact .inr h
      · exact .inl (List.mem_of_mem_drop h)
    rcases hv' with h | h
    · rw [← HZ.out] at h; exact bvs_one _ v h
    · exact bvs_one _ v h
  have HG : Hid (w2.heap[w.heap.size + 1]? = some (.cells C 52 (0, 0))) := by
    have := HG2.out
    rw [hC] at this
    exact this
  have HC := Lib.hid hC
  have H32 := Lib.hid hC32
  have HCI := Lib.hid hCi
  have HC1 := Lib.hid hC1
  have HZ32 : Hid (Z.toArray.size = C.size) := by
    show _ = _
    rw [hC32, ← HZ.out]
    simp [bvs]
  clear y0 y1 y2 hC hC32 hCi hC1
  go_wp2_with (first
    | (refine wpList_load_row rfl 52 _ rfl (w.heap.size + 1) rfl 52 C (0, 0) _ HG.out Try.underlying52 rfl HCI.out ?_)
    | (refine wpList_store_row rfl 52 _ _ rfl w.heap.size C rfl rfl 52 Z.toArray Y0.out HCI.out HZ32.out HC1.out ?_))
  have k3 : Keeps (fun k => w.heap.size ≤ k) w1 (w2.setRow w.heap.size C) :=
    ((Keeps.from_below hb2).mono (fun _ _ h => by omega)).trans' (Keeps.setRow w.heap.size C) (fun _ _ h => by omega)
  have hrd : Rd (w2.setRow w.heap.size C) b r s1 := hr1.keeps k3 (by omega) (fun k hk => by have := (h.1 k hk).1; omega)
  have hon : Only b w (w2.setRow w.heap.size C) := ((kW.drew.mono (fun _ _ h => h.elim)).trans hk1).trans' k3 (fun i hi h => by omega)
  refine bodyPost_ret (results_cell_row rfl _ _ w.heap.size 52 C (0, 0) _ rfl (setRow_heap _ _ _ _ _ _ Y0.out) Try.underlying52 rfl HCI.out) rfl ?_
  refine ⟨?_, by unfold rhash; rw [HS.out]; exact hrd, hon⟩
  rw [← rhash_cells, HO.out, HZ.out, HC.out]
/-- Of nil: noughts. -/
theorem rdHash_nil (w : World) :
    Calls Try.prog 50 #[.pointer none] w fun e w' => e = .returned (.agg (bvs (List.replicate 32 0)).toArray) ∧ Keeps (fun _ => False) w w' := by
  go_enter Try.func50, Try.ntmps50
  go_wp2_with fail
  obtain ⟨Z, hZ⟩ : ∃ Z, (bvs (List.replicate 32 0)) = Z := ⟨_, rfl⟩
  obtain ⟨W, hW⟩ : ∃ W, (w.alloc (.cells (bvs (List.replicate 32 0)).toArray 52)).alloc (.cells (bvs (List.replicate 32 0)).toArray 52) = W := ⟨_, rfl⟩
  have z0 : W.heap[w.heap.size]? = some (.cells Z.toArray 52 (0, 0)) := by rw [← hW, ← hZ]; exact heap_alloc2_old w _ _
  have z1 : W.heap[w.heap.size + 1]? = some (.cells Z.toArray 52 (0, 0)) := by rw [← hW, ← hZ]; exact heap_alloc2_new w _ _
  have kW : Keeps (fun _ => False) w W := by rw [← hW]; exact ((Keeps.refl _ _).alloc _).alloc _
  have HZ := Lib.hid hZ
  change Code.wp _ _ _ _ ((w.alloc (.cells (bvs (List.replicate 32 0)).toArray 52)).alloc (.cells (bvs (List.replicate 32 0)).toArray 52))
  rw [hW]
  clear hW hZ
  have Z0 : Hid (W.drew.heap[w.heap.size]? = some (.cells Z.toArray 52 (0, 0))) := z0
  have Z1 : Hid (W.drew.heap[w.heap.size + 1]? = some (.cells Z.toArray 52 (0, 0))) := z1
  clear z0 z1
  go_region_law (first
    | (go_simp; go_at_call 53; refine (rdTake_nil _ _).mono ?_; rintro e w1 ⟨rfl, rfl⟩)
    | (refine step_copy_splice (by rfl) (.tmp 4) (.tmp 6) 37 37 (by rfl) 5 Try.underlying37 size_u8 (some ⟨w.heap.size + 1, 0, none⟩) none 32 32 0 0 (by rfl) (by rfl) (w.heap.size + 1) 0 Z 52 (by exact Z1.out) [] (by rfl) (fun hp => absurd hp (by simp)) (by simp) (by simp) (w.heap.size + 1) W.drew (Below.refl _ _) (Nat.le_refl _) ?_; intro w2 HG2 hb2))
  have y2 := (hb2.block w.heap.size (by omega)).trans Z0.out
  have Y0 := Lib.hid y2
  have hZ32 : Z.toArray.size = 32 := by rw [← HZ.out]; simp [bvs]
  have HG : Hid (w2.heap[w.heap.size + 1]? = some (.cells Z.toArray 52 (0, 0))) := by
    have := HG2.out
    show _ = _
    simpa [splice] using this
  have HCI : Hid ((Try.prog.info? 52).map (·.size) = some Z.toArray.size) := by show _ = _; rw [hZ32]; exact size_hash
  have HC1 : Hid (Z.toArray.all (·.oneCell') = true) := by
    show _ = _
    rw [← HZ.out, Array.all_eq_true_iff_forall_mem]
    intro v hv
    exact bvs_one _ v (by simpa using hv)
  clear y2 hZ32
  go_wp2_with (first
    | (refine wpList_load_row rfl 52 _ rfl (w.heap.size + 1) rfl 52 Z.toArray (0, 0) _ HG.out Try.underlying52 rfl HCI.out ?_)
    | (refine wpList_store_row rfl 52 _ _ rfl w.heap.size Z.toArray rfl rfl 52 Z.toArray Y0.out HCI.out rfl HC1.out ?_))
  have k3 : Keeps (fun k => w.heap.size ≤ k) W (w2.setRow w.heap.size Z.toArray) :=
    (((Keeps.refl _ W).drew.trans (Keeps.from_below hb2)).mono (fun _ _ h => by omega)).trans' (Keeps.setRow w.heap.size Z.toArray) (fun _ _ h => by omega)
  refine bodyPost_ret (results_cell_row rfl _ _ w.heap.size 52 Z.toArray (0, 0) _ rfl (setRow_heap _ _ _ _ _ _ Y0.out) Try.underlying52 rfl HCI.out) rfl ?_
  exact ⟨by rw [HZ.out], kW.trans' k3 (fun i hi h => by omega)⟩
end Go.Proofs.Ytmjpaopobnhckaa
