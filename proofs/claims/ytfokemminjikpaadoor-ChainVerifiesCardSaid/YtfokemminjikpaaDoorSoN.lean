/-
  The document's own hash of a leaf (assayerref02.Leaf).
-/
import Derived.Test.YtfokemminjikpaaDoorSoL
namespace Go.Proofs.YtfokemminjikpaaDoor
open Go.RowKit
set_option linter.unusedVariables false

set_option maxRecDepth 100000 in
set_option maxHeartbeats 2000000 in
theorem rleaf_any (xs : List UInt8) (w : World) (hx : xs.length ≤ 399) :
    Calls Tryd.prog 17 #[.string (strOf xs)] w fun e w' => e = .returned (.agg (bvs (Sh.sha (0 :: xs))).toArray) ∧ Keeps (fun _ => False) w w' := by
  obtain ⟨Z, hZ⟩ : ∃ Z : Array Value, (bvs (List.replicate 32 0)).toArray = Z := ⟨_, rfl⟩
  have hz : ∀ w : World, (zeroValue 24).run Tryd.prog w = .ok (.agg Z) w := fun _ => by subst hZ; kernel_rfl
  have hadd : ByteArray.mk #[0] ++ strOf xs = strOf (0 :: xs) := str_app [0] xs
  have hsz : (ByteArray.mk #[0]).size + (strOf xs).size ≤ 400 := by rw [str_size]; show 1 + xs.length ≤ 400; omega
  obtain ⟨s, hs⟩ : ∃ s, strOf xs = s := ⟨_, rfl⟩
  rw [hs] at hadd hsz ⊢
  obtain ⟨s2, hs2⟩ : ∃ s2, strOf (0 :: xs) = s2 := ⟨_, rfl⟩
  rw [hs2] at hadd
  have hof : ∀ W : World, Calls Tryd.prog 15 #[.string s2] W fun e w' => e = .returned (.agg (bvs (Sh.sha (0 :: xs))).toArray) ∧ Keeps (fun _ => False) W w' := fun W => by rw [← hs2]; exact rof_any (0 :: xs) W (by rw [List.length_cons]; omega)
  obtain ⟨R, hR⟩ : ∃ R, (bvs (Sh.sha (0 :: xs))).toArray = R := ⟨_, rfl⟩
  have hrl : (Sh.sha (0 :: xs)).length = 32 := by rw [Sh.sha_mixed, Sh.outs_length]
  have hsz2 : (Tryd.prog.info? 24).map (·.size) = some R.size := by rw [← hR, List.size_toArray, bvs_length, hrl]; exact size_hash'
  have hz2 : Z.size = R.size := by rw [← hR, ← hZ, List.size_toArray, bvs_length, List.size_toArray, bvs_length, hrl, List.length_replicate]
  have hone : R.all (·.oneCell') = true := by rw [← hR]; exact bvs_all _
  rw [hR] at hof ⊢
  have ho0 : (w.alloc (.cells Z 24)).heap[w.heap.size]? = some (.cells Z 24 (0, 0)) := heap_alloc_new w _
  have hk0 : Keeps (fun _ => False) w (w.alloc (.cells Z 24)) := (Keeps.refl _ _).alloc _
  have HOF := Lib.hid hof
  have HSZ := Lib.hid hsz2
  have HZ2 := Lib.hid hz2
  have HONE := Lib.hid hone
  have HO0 := Lib.hid ho0
  have HK0 := Lib.hid hk0
  have hl0 : w.heap.size < (w.alloc (.cells Z 24)).heap.size := by simp
  have HL0 := Lib.hid hl0
  clear hs hs2 hof hR hrl hsz2 hz2 hone ho0 hk0 hZ hl0
  go_enter Tryd.func17, Tryd.ntmps17
  go_wp2_with fail
  refine (HOF.out _).mono ?_
  rintro e w2 ⟨rfl, hk2⟩
  have HO2 : Hid (w2.heap[w.heap.size]? = some (.cells Z 24 (0, 0))) := Lib.hid ((hk2.block w.heap.size HL0.out id).trans HO0.out)
  have HK2 := Lib.hid (HK0.out.trans hk2)
  clear hk2
  go_wp2_with (refine wpList_store_row rfl 24 _ _ rfl w.heap.size R rfl rfl 24 Z HO2.out HSZ.out HZ2.out HONE.out ?_)
  refine bodyPost_ret (results_cell_row rfl _ _ w.heap.size 24 R (0, 0) _ rfl (setRow_heap _ _ _ _ _ _ HO2.out) Tryd.underlying24 rfl HSZ.out) rfl ?_
  exact ⟨rfl, HK2.out.trans' (Keeps.setRow w.heap.size R) (fun i hi h => by omega)⟩
end Go.Proofs.YtfokemminjikpaaDoor
