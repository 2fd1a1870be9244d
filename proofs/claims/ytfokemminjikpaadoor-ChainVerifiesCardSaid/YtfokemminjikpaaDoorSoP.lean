/-
  The document's own hash of two hashes (assayerref02.Node).
-/
import Derived.Test.YtfokemminjikpaaDoorSoN
import Derived.Test.YtfokemminjikpaaDoorWalkR
namespace Go.Proofs.YtfokemminjikpaaDoor
open Go.RowKit Go.BigFrame
set_option linter.unusedVariables false

set_option maxRecDepth 100000 in
set_option maxHeartbeats 2000000 in
theorem rnode_any (x y : List UInt8) (w : World) (hx : x.length = 32) (hy : y.length = 32) :
    Calls Tryd.prog 19 #[.agg (bvs x).toArray, .agg (bvs y).toArray] w fun e w' => e = .returned (.agg (bvs (Sh.sha (1 :: (x ++ y)))).toArray) ∧ Keeps (fun _ => False) w w' := by
  obtain ⟨Z, hZ⟩ : ∃ Z : Array Value, (bvs (List.replicate 32 0)).toArray = Z := ⟨_, rfl⟩
  have hz : ∀ w : World, (zeroValue 24).run Tryd.prog w = .ok (.agg Z) w := fun _ => by subst hZ; kernel_rfl
  obtain ⟨X, hX⟩ : ∃ X : Array Value, (bvs x).toArray = X := ⟨_, rfl⟩
  obtain ⟨Y, hY⟩ : ∃ Y : Array Value, (bvs y).toArray = Y := ⟨_, rfl⟩
  have hXs : (Tryd.prog.info? 24).map (·.size) = some X.size := by rw [← hX, List.size_toArray, bvs_length, hx]; exact size_hash'
  have hYs : (Tryd.prog.info? 24).map (·.size) = some Y.size := by rw [← hY, List.size_toArray, bvs_length, hy]; exact size_hash'
  obtain ⟨W1, hW1⟩ : ∃ W, w.alloc (.cells X 24) = W := ⟨_, rfl⟩
  obtain ⟨W2, hW2⟩ : ∃ W, W1.alloc (.cells Y 24) = W := ⟨_, rfl⟩
  obtain ⟨W3, hW3⟩ : ∃ W, W2.alloc (.cells Z 24) = W := ⟨_, rfl⟩
  have k1 : Keeps (fun _ => False) w W1 := by rw [← hW1]; exact (Keeps.refl _ _).alloc _
  have k2 : Keeps (fun _ => False) W1 W2 := by rw [← hW2]; exact (Keeps.refl _ _).alloc _
  have k3 : Keeps (fun _ => False) W2 W3 := by rw [← hW3]; exact (Keeps.refl _ _).alloc _
  have k0 : Keeps (fun _ => False) w W3 := (k1.trans k2).trans k3
  have r1 : W1.heap[w.heap.size]? = some (.cells X 24 (0, 0)) := by rw [← hW1]; exact heap_alloc_new w _
  have r2 : W2.heap[W1.heap.size]? = some (.cells Y 24 (0, 0)) := by rw [← hW2]; exact heap_alloc_new W1 _
  have r3 : W3.heap[W2.heap.size]? = some (.cells Z 24 (0, 0)) := by rw [← hW3]; exact heap_alloc_new W2 _
  have b1 : w.heap.size < W1.heap.size := by rw [← hW1]; simp
  have b2 : W1.heap.size < W2.heap.size := by rw [← hW2]; simp
  have b3 : W2.heap.size < W3.heap.size := by rw [← hW3]; simp
  have g1 : ∀ V, Later W3 V → V.heap[w.heap.size]? = some (.cells X 24 (0, 0)) := fun V hV => ((hV.out.block _ (by omega) id).trans ((k3.block _ (by omega) id).trans ((k2.block _ b1 id).trans r1)))
  have g2 : ∀ V, Later W3 V → V.heap[W1.heap.size]? = some (.cells Y 24 (0, 0)) := fun V hV => ((hV.out.block _ (by omega) id).trans ((k3.block _ b2 id).trans r2))
  have g3 : ∀ V, Later W3 V → V.heap[W2.heap.size]? = some (.cells Z 24 (0, 0)) := fun V hV => ((hV.out.block _ b3 id).trans r3)
  have ca : ∀ V, Later W3 V → Calls Tryd.prog 52 #[.agg X] V fun e w' => e = .returned (.string (strOf x)) ∧ Later W3 w' := fun V hV => by
    rw [← hX]; exact (raw_any x V hx).mono fun e w' hh => ⟨hh.1, ⟨hV.out.trans hh.2⟩⟩
  have cb : ∀ V, Later W3 V → Calls Tryd.prog 52 #[.agg Y] V fun e w' => e = .returned (.string (strOf y)) ∧ Later W3 w' := fun V hV => by
    rw [← hY]; exact (raw_any y V hy).mono fun e w' hh => ⟨hh.1, ⟨hV.out.trans hh.2⟩⟩
  have e1 : ∀ V : World, (Op.stringOp .add (ByteArray.mk #[1]) (strOf x)).run Tryd.prog V = .ok (.string (strOf (1 :: x))) V := fun V => by
    rw [run_string_add_sum V _ _ (by rw [str_size, hx]; show 1 + 32 ≤ _; omega)]
    exact congrArg (fun s => Result.ok (Value.string s) V) (str_app [1] x)
  have e2 : ∀ V : World, (Op.stringOp .add (strOf (1 :: x)) (strOf y)).run Tryd.prog V = .ok (.string (strOf (1 :: (x ++ y)))) V := fun V => by
    rw [run_string_add_sum V _ _ (by rw [str_size, str_size, List.length_cons, hx, hy]; omega), str_app]
    rfl
  have hof : ∀ V, Later W3 V → Calls Tryd.prog 15 #[.string (strOf (1 :: (x ++ y)))] V fun e w' => e = .returned (.agg (bvs (Sh.sha (1 :: (x ++ y)))).toArray) ∧ Later W3 w' := fun V hV =>
    (rof_any (1 :: (x ++ y)) V (by rw [List.length_cons, List.length_append]; omega)).mono fun e w' hh => ⟨hh.1, ⟨hV.out.trans hh.2⟩⟩
  obtain ⟨s1, hs1⟩ : ∃ s, strOf (1 :: x) = s := ⟨_, rfl⟩
  obtain ⟨s2, hs2⟩ : ∃ s, strOf (1 :: (x ++ y)) = s := ⟨_, rfl⟩
  obtain ⟨sx, hsx⟩ : ∃ s, strOf x = s := ⟨_, rfl⟩
  obtain ⟨sy, hsy⟩ : ∃ s, strOf y = s := ⟨_, rfl⟩
  rw [hs1, hsx] at e1
  rw [hs1, hs2, hsy] at e2
  rw [hsx] at ca
  rw [hsy] at cb
  rw [hs2] at hof
  obtain ⟨R, hR⟩ : ∃ R, (bvs (Sh.sha (1 :: (x ++ y)))).toArray = R := ⟨_, rfl⟩
  have hrl : (Sh.sha (1 :: (x ++ y))).length = 32 := by rw [Sh.sha_mixed, Sh.outs_length]
  have hsz2 : (Tryd.prog.info? 24).map (·.size) = some R.size := by rw [← hR, List.size_toArray, bvs_length, hrl]; exact size_hash'
  have hz2 : Z.size = R.size := by rw [← hR, ← hZ, List.size_toArray, bvs_length, List.size_toArray, bvs_length, hrl, List.length_replicate]
  have hone : R.all (·.oneCell') = true := by rw [← hR]; exact bvs_all _
  rw [hR] at hof
  rw [hX, hY, hR]
  have CA := Lib.hid ca
  have CB := Lib.hid cb
  have HOF := Lib.hid hof
  have G1 := Lib.hid g1
  have G2 := Lib.hid g2
  have G3 := Lib.hid g3
  have HXS := Lib.hid hXs
  have HYS := Lib.hid hYs
  have HSZ := Lib.hid hsz2
  have HZ2 := Lib.hid hz2
  have HONE := Lib.hid hone
  have K0 := Lib.hid k0
  have B2 := Lib.hid (show ¬ W2.heap.size < w.heap.size by omega)
  clear ca cb hof g1 g2 g3 hXs hYs hsz2 hz2 hone k0 k1 k2 k3 r1 r2 r3 b1 b2 b3 hX hY hZ hR hrl hs1 hs2 hsx hsy hx hy
  go_enter Tryd.func19, Tryd.ntmps19
  go_wp2_with fail
  refine wp_region_phase 7 (Later W3) (by kernel_rfl) (by kernel_rfl) ⟨(Keeps.refl _ _).drew⟩ ?_
  simp only [List.take_succ_cons, List.take_zero, List.drop_succ_cons, List.drop_zero]
  refine class_load (by rfl) 24 (.tmp 2) (by rfl) w.heap.size (by rfl) 24 X (0, 0) _ G1.out Tryd.underlying24 rfl HXS.out ?_
  simp only [Act.put, List.setIfInBounds_toArray, List.set_cons_zero, List.set_cons_succ]
  go_big_quiet_want
  go_big_quiet_op
  refine ⟨.string sx, fun V hV => CA.out V hV, ?_⟩
  go_big_quiet_on
  refine class_value (by rfl) (.string s1) (fun V _ => by go_simp) ?_
  simp only [Act.put, List.setIfInBounds_toArray, List.set_cons_zero, List.set_cons_succ]
  refine class_load (by rfl) 24 (.tmp 3) (by rfl) W1.heap.size (by rfl) 24 Y (0, 0) _ G2.out Tryd.underlying24 rfl HYS.out ?_
  simp only [Act.put, List.setIfInBounds_toArray, List.set_cons_zero, List.set_cons_succ]
  go_big_quiet_want
  go_big_quiet_op
  refine ⟨.string sy, fun V hV => CB.out V hV, ?_⟩
  go_big_quiet_on
  refine class_value (by rfl) (.string s2) (fun V _ => by go_simp) ?_
  simp only [Act.put, List.setIfInBounds_toArray, List.set_cons_zero, List.set_cons_succ]
  go_big_quiet_want
  go_big_quiet_op
  refine ⟨.agg R, fun V hV => HOF.out V hV, ?_⟩
  go_big_quiet_on
  refine wpQuiet_nil ?_
  intro w6 k6
  have HO6 := Lib.hid (G3.out w6 k6)
  have K6 := Lib.hid (K0.out.trans k6.out)
  go_wp2_with (refine wpList_store_row rfl 24 _ _ rfl W2.heap.size R rfl rfl 24 Z HO6.out HSZ.out HZ2.out HONE.out ?_)
  refine bodyPost_ret (results_cell_row rfl _ _ W2.heap.size 24 R (0, 0) _ rfl (setRow_heap _ _ _ _ _ _ HO6.out) Tryd.underlying24 rfl HSZ.out) rfl ?_
  exact ⟨rfl, K6.out.trans' (Keeps.setRow W2.heap.size R) (fun i hi h => B2.out (h ▸ hi))⟩
end Go.Proofs.YtfokemminjikpaaDoor
