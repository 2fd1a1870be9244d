/-
  The document's own frontier (package assayerref05): of the greatest size no entry comes any more; what a store elsewhere leaves.
-/
import Derived.Test.YtnnhbgaeohdojaaDoorFrRd
namespace Go.Proofs.YtnnhbgaeohdojaaDoor
open Go.RowKit Go.BigFrame
set_option linter.unusedVariables false

set_option maxRecDepth 100000 in
set_option maxHeartbeats 1500000 in
theorem radd_full (O : Option Addr) (ol oc : Nat) (A : Option Addr) (l c : Nat) (s : Value) (w : World) :
    Calls Tryd.prog 38 #[.agg (fval 18446744073709551615 (.slice O ol oc) (.slice A l c)).toArray, s] w fun e w' => e = .returned (.tuple #[.agg (fval 18446744073709551615 (.slice O ol oc) (.slice A l c)).toArray, .int .i64 31]) ∧ Keeps (fun _ => False) w w' := by
  obtain ⟨FV, hFV⟩ : ∃ FV, fval 18446744073709551615 (.slice O ol oc) (.slice A l c) = FV := ⟨_, rfl⟩
  have hf0 : FV[0]? = some (.int .u64 18446744073709551615) := by rw [← hFV]; rfl
  have hone : FV.toArray.all (·.oneCell') = true := by rw [← hFV]; exact fval_one _ _ _ _ _ _ _
  have hsz : (Tryd.prog.info? 47).map (·.size) = some FV.toArray.size := by rw [← hFV]; exact fval_size _ _ _
  have hsz2 : (fval 0 (.slice none 0 0) (.slice none 0 0)).toArray.size = FV.toArray.size := by rw [← hFV]; rfl
  rw [hFV]
  obtain ⟨W1, hW1⟩ : ∃ V, w.alloc (.cells FV.toArray 47) = V := ⟨_, rfl⟩
  obtain ⟨W2, hW2⟩ : ∃ V, W1.alloc (.cells #[.int .u64 0, .slice none 0 0, .slice none 0 0] 47) = V := ⟨_, rfl⟩
  obtain ⟨B1, hB1⟩ : ∃ q, w.heap.size = q := ⟨_, rfl⟩
  obtain ⟨B2, hB2⟩ : ∃ q, W1.heap.size = q := ⟨_, rfl⟩
  have k1 : Keeps (fun _ => False) w W1 := by rw [← hW1]; exact (Keeps.refl _ _).alloc _
  have k2 : Keeps (fun _ => False) W1 W2 := by rw [← hW2]; exact (Keeps.refl _ _).alloc _
  have r1 : Row W1 B1 47 FV := by rw [← hW1, ← hB1]; exact heap_alloc_new w _
  have r2 : W2.heap[B2]? = some (.cells (fval 0 (.slice none 0 0) (.slice none 0 0)).toArray 47 (0, 0)) := by rw [← hW2, ← hB2]; exact heap_alloc_new W1 _
  have r12 : W2.heap[B1]? = some (.cells FV.toArray 47 (0, 0)) := r1.keeps k2 id
  have hc0 : W2.cell? ⟨B1, 0, none⟩ = some (.int .u64 18446744073709551615) := ((r1.keeps k2 id).cell 0).trans hf0
  have hb : w.heap.size ≤ B2 := by rw [← hB2]; exact k1.size
  have HB := Lib.hid hb
  have K12 := Lib.hid (k1.trans k2)
  have R12 := Lib.hid r12
  have R2 := Lib.hid r2
  have HSZ := Lib.hid hsz
  have HSZ2 := Lib.hid hsz2
  have HONE := Lib.hid hone
  clear k1 k2 r1 r2 r12 hf0 hone hsz hsz2 hFV hb
  go_enter Tryd.func38, Tryd.ntmps38
  go_wp2_with (first
    | (refine wpList_load_row rfl 47 _ rfl B1 rfl 47 FV.toArray (0, 0) _ R12.out Tryd.underlying47 rfl HSZ.out ?_)
    | (refine wpList_store_row rfl 47 _ _ rfl B2 FV.toArray rfl rfl 47 _ R2.out HSZ.out HSZ2.out HONE.out ?_))
  refine bodyPost_ret (results_cell_tmp5 rfl _ _ B2 47 FV.toArray (0, 0) _ _ rfl (setRow_heap _ _ _ _ _ _ R2.out) Tryd.underlying47 rfl HSZ.out rfl) rfl ?_
  exact ⟨rfl, K12.out.trans' (Keeps.setRow B2 FV.toArray) (fun i hi h => by have := HB.out; omega)⟩
/-- A store into a block of another type leaves a frontier as it is. -/
theorem Fro.apart {w w' : World} {base g sz B : Nat} {ps : List (List UInt8)} {t : TypeId} {cs : List Value} (h : Fro w base g sz ps) (hB : Row w B t cs) (h1 : t ≠ 81) (h2 : t ≠ 34) (hk : Keeps (fun k => k = B) w w') : Fro w' base g sz ps := by
  obtain ⟨v, hr, hv⟩ := h.var
  refine ⟨h.lo, h.all, v, hr.keeps hk (fun e => ?_), hk.owns hv (fun k hk2 => own_apart hv hB h2 k hk2)⟩
  subst e
  unfold Row at hr hB
  rw [hr] at hB
  injection hB with hB
  injection hB with _ hB _
  exact h1 hB.symm
/-- .. and, into another block, a row of hashes. -/
theorem PathAt.apart {S : Nat → Prop} {w w' : World} {A : Option Addr} {ps : List (List UInt8)} (h : PathAt w A ps) (hk : Keeps S w w') (hne : ∀ a, A = some a → ¬ S a.block) : PathAt w' A ps := by
  refine ⟨h.all, fun i p hp => ?_⟩
  obtain ⟨b, o, e, hr⟩ := h.lie i p hp
  refine ⟨b, o, e, fun j v hv => ?_⟩
  have hc := hr j v hv
  exact (hk.cell (World.block_lt_of_cell? w _ hc) (show ¬ S b from hne ⟨b, o, none⟩ e)).trans hc
end Go.Proofs.YtnnhbgaeohdojaaDoor
