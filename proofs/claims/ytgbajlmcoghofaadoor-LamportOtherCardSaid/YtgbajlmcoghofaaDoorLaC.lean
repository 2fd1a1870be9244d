/-
  lamport's secret, and the public key of all open halves (joined).
-/
import Derived.Test.YtgbajlmcoghofaaDoorLaB
import Derived.Test.YtgbajlmcoghofaaDoorWrCa
namespace Go.Proofs.YtgbajlmcoghofaaDoor
open Go.RowKit Go.BigFrame
set_option linter.unusedVariables false

theorem u64_nonneg (x : Int) : 0 ≤ IntKind.u64.wrap x := by
  simp [IntKind.wrap, IntKind.signed, IntKind.bits]
  exact Int.emod_nonneg _ (by decide)
set_option maxRecDepth 100000 in
set_option maxHeartbeats 2000000 in
theorem secret_any (seed : List UInt8) (i : Int) (k v : Nat) (w : World) (hT : Tabs w) (hs : seed.length = 32) (hk : k < 64) (hv : v < 2) :
    Calls Tryd.prog 19 #[.agg (bvs seed).toArray, .int .i64 i, .int .i64 k, .int .i64 v] w fun e w' => e = .returned (.agg (bvs (Lm.sec seed i k v)).toArray) ∧ Keeps (fun _ => False) w w' := by
  have h0 := hT.lt
  obtain ⟨Z, hZ⟩ : ∃ Z : Array Value, (bvs (List.replicate 32 0)).toArray = Z := ⟨_, rfl⟩
  have hz : ∀ w : World, (zeroValue 23).run Tryd.prog w = .ok (.agg Z) w := fun w => by rw [← hZ]; exact zero_hash w
  have hzs : Z.size = 32 := by subst hZ; rfl
  obtain ⟨a1, a2, a3⟩ := hash_arr seed hs
  obtain ⟨X, hX⟩ : ∃ X : Array Value, (bvs seed).toArray = X := ⟨_, rfl⟩
  rw [hX]
  rw [hX] at a1 a2 a3
  obtain ⟨W1, hW1⟩ : ∃ W, w.alloc (.cells X 23) = W := ⟨_, rfl⟩
  obtain ⟨W2, hW2⟩ : ∃ W, W1.alloc (.cells Z 23) = W := ⟨_, rfl⟩
  obtain ⟨b, hb⟩ : ∃ b, W2.heap.size = b := ⟨_, rfl⟩
  obtain ⟨c1, hc1⟩ : ∃ c, W1.heap.size = c := ⟨_, rfl⟩
  obtain ⟨W3, hW3⟩ : ∃ W, W2.alloc (.cells #[.slice none 0 0] 75) = W := ⟨_, rfl⟩
  have k1 : Keeps (fun _ => False) w W1 := by rw [← hW1]; exact (Keeps.refl _ _).alloc _
  have k2 : Keeps (fun _ => False) W1 W2 := by rw [← hW2]; exact (Keeps.refl _ _).alloc _
  have k3 : Keeps (fun _ => False) W2 W3 := by rw [← hW3]; exact (Keeps.refl _ _).alloc _
  have r1 : W1.heap[w.heap.size]? = some (.cells X 23 (0, 0)) := by rw [← hW1]; exact heap_alloc_new w _
  have r2 : W2.heap[c1]? = some (.cells Z 23 (0, 0)) := by rw [← hW2, ← hc1]; exact heap_alloc_new W1 _
  have b1 : w.heap.size < c1 := by rw [← hc1, ← hW1]; simp
  have b2 : c1 < b := by rw [← hb, ← hW2, ← hc1]; simp
  have b3 : b < W3.heap.size := by rw [← hb, ← hW3]; simp
  have wr0 : Wr W3 b none [] := by rw [← hW3, ← hb]; exact newWriter_wr W2
  have r13 : W3.heap[w.heap.size]? = some (.cells X 23 (0, 0)) := (k3.block _ (by omega) id).trans ((k2.block _ (by omega) id).trans r1)
  have r23 : W3.heap[c1]? = some (.cells Z 23 (0, 0)) := (k3.block _ (by omega) id).trans r2
  have hh := wrHash_any b none [] seed W3 wr0 hs (by simp)
  rw [hX] at hh
  have HH := Lib.hid hh
  have HT3 := Lib.hid (((hT.keeps k1 id id).keeps k2 id id).keeps k3 id id)
  have K3 := Lib.hid ((k1.trans k2).trans k3)
  have R13 := Lib.hid r13
  have R23 := Lib.hid r23
  have SX := Lib.hid a1
  have HZS := Lib.hid hzs
  have HS := Lib.hid hs
  have HNW : Hid (Calls Tryd.prog 30 #[] W2 fun e w' => e = .returned (.pointer (some ⟨b, 0, none⟩)) ∧ W3 = w') := Lib.hid (by rw [← hb, ← hW3]; exact newWriter_any W2)
  clear hh r1 r2 r13 r23 a1 a2 a3 hX hZ hzs wr0 k1 k2 k3 hT hs hW3 hb
  go_enter Tryd.func19, Tryd.ntmps19
  go_wp2_with fail
  refine HNW.out.mono ?_
  rintro e w' ⟨rfl, rfl⟩
  go_wp2_with (refine wpList_load_row rfl 23 _ rfl w.heap.size rfl 23 X (0, 0) _ R13.out Tryd.underlying23 rfl SX.out ?_)
  refine HH.out.mono ?_
  rintro e w4 ⟨rfl, q1, hw1, hq1, kk1⟩
  have P1 := Lib.hid (And.intro hq1 kk1)
  have H1 := Lib.hid hw1
  clear hw1 hq1 kk1 HH
  go_wp2_with fail
  refine (wrNum_at b q1 _ _ _ 4 _ H1.out (u64_nonneg _) rfl (by omega) (by omega) (by show ([] ++ seed).length ≤ _; rw [List.nil_append, HS.out]; omega)).mono ?_
  rintro e w5 ⟨rfl, q2, hw2, hq2, kk2⟩
  have P2 := Lib.hid (wr_trans P1.out.1 P1.out.2 hq2 kk2)
  have H2 := Lib.hid hw2
  clear hw2 hq2 kk2 P1 H1
  go_wp2_with fail
  refine (wrNum_at b q2 _ _ _ 1 _ H2.out (by first | exact u64_nonneg _ | omega) rfl (by omega) (by omega) (by simp [HS.out, nb_length])).mono ?_
  rintro e w6 ⟨rfl, q3, hw3, hq3, kk3⟩
  have P3 := Lib.hid (wr_trans P2.out.1 P2.out.2 hq3 kk3)
  have H3 := Lib.hid hw3
  clear hw3 hq3 kk3 P2 H2
  go_wp2_with fail
  refine (wrNum_at b q3 _ _ _ 1 _ H3.out (by first | exact u64_nonneg _ | omega) rfl (by omega) (by omega) (by simp [HS.out, nb_length])).mono ?_
  rintro e w7 ⟨rfl, q4, hw4, hq4, kk4⟩
  have P4 := Lib.hid (wr_trans P3.out.1 P3.out.2 hq4 kk4)
  have hlist : ([] ++ seed ++ nb (IntKind.u64.wrap i) 4 ++ nb (k : Int) 1 ++ nb (v : Int) 1) = seed ++ Lm.idx i ++ nb (k : Int) 1 ++ nb (v : Int) 1 := by rw [List.nil_append, Lm.nb_idx]
  rw [hlist] at hw4
  obtain ⟨ys, hys⟩ : ∃ ys, seed ++ Lm.idx i ++ nb (k : Int) 1 ++ nb (v : Int) 1 = ys := ⟨_, rfl⟩
  have hyl : ys.length = 38 := by rw [← hys]; simp only [List.length_append, HS.out, Lm.idx_length, nb_length]
  have hsec : Lm.sec seed i k v = Sh.sha ys := by rw [← hys]; rfl
  rw [hys] at hw4
  have H4 := Lib.hid hw4
  have HSEC := Lib.hid hsec
  clear hw4 hq4 kk4 P3 H3 hlist hys hsec
  go_wp2_with fail
  refine (wrOut_any b q4 ys _ H4.out (by omega)).mono ?_
  rintro e w8 ⟨A, c, rfl, hown, k8⟩
  rw [hyl] at hown
  rw [hyl]
  obtain ⟨g9, hg9⟩ : ∃ g, w8.heap.size = g := ⟨_, rfl⟩
  obtain ⟨W9, hW9⟩ : ∃ W, w8.alloc (.cells #[.slice A 38 c] 24) = W := ⟨_, rfl⟩
  have k9 : Keeps (fun _ => False) w8 W9 := by rw [← hW9]; exact (Keeps.refl _ _).alloc _
  have r9 : Row W9 g9 24 [.slice A 38 c] := by rw [← hW9, ← hg9]; exact heap_alloc_new w8 _
  have k39 : Keeps (fun q => q = b) W3 W9 := ((P4.out.2.mono (fun _ _ h => h.elim id (fun e => nomatch e))).trans' k8 (fun _ _ h => h.elim)).trans' k9 (fun _ _ h => h.elim)
  obtain ⟨A', c', hA', hc', hcm, hrow⟩ := RowIn.of_own hown
  obtain ⟨rfl, rfl⟩ : A = A' ∧ c = c' := by injection hA' with e1 _ e2 <;> exact ⟨e1, e2⟩
  have hrows : RowsAt W9 (some ⟨g9, 0, none⟩) [(A, c, ys)] :=
    rowsAt_only (by rw [add_plain]; show _ = some (Value.slice A ys.length c); rw [hyl]; exact r9.cell 0) ((Src.of_own hown).keeps k9 (fun _ _ _ => id)) ⟨by show ys.length ≤ c; rw [hyl]; exact hc', by show c ≤ _; simp only [maxLen] at hcm; omega⟩
  have e : bytesOf [(A, c, ys)] = ys := by simp [bytesOf]
  have hof := of_any _ 1 _ W9 (HT3.out.keeps k39 (by have := h0; omega) (by have := h0; omega)) hrows (by simp) (by rw [e]; omega)
  rw [e, ← HSEC.out] at hof
  have HOF : Hid (Calls Tryd.prog 16 #[.slice (some ⟨g9, 0, none⟩) 1 1] W9 fun e w' => e = .returned (.agg (bvs (Lm.sec seed i k v)).toArray) ∧ Keeps (fun _ => False) W9 w') := hof
  have R29 := Lib.hid ((k39.block _ (Array.getElem?_eq_some_iff.1 R23.out).1 (by omega)).trans R23.out)
  have K9 := Lib.hid (K3.out.trans' k39 (fun i hi h => by omega))
  clear hof e hrows hrow hA' hc' hcm hown k8 k9 r9 k39 P4 H4 HSEC R13 R23 hyl
  go_wp2_with fail
  refine HOF.out.mono ?_
  rintro e w10 ⟨rfl, k10⟩
  obtain ⟨R, hR⟩ : ∃ R, (bvs (Lm.sec seed i k v)).toArray = R := ⟨_, rfl⟩
  obtain ⟨a1, a2, a3⟩ := hash_arr (Lm.sec seed i k v) (Lm.sec_length _ _ _ _)
  rw [hR] at a1 a2 a3
  rw [hR]
  have HSZ := Lib.hid a1
  have HZR := Lib.hid (HZS.out.trans a2.symm)
  have HONE := Lib.hid a3
  have HO3 : Hid (w10.heap[c1]? = some (.cells Z 23 (0, 0))) := (k10.block _ (Array.getElem?_eq_some_iff.1 R29.out).1 id).trans R29.out
  have HRR := Lib.hid hR
  clear a1 a2 a3 R29 HOF hR
  go_wp2_with (refine wpList_store_row rfl 23 _ _ rfl c1 R rfl rfl 23 Z HO3.out HSZ.out HZR.out HONE.out ?_)
  refine bodyPost_ret (results_cell_row rfl _ _ c1 23 R (0, 0) _ rfl (setRow_heap _ _ _ _ _ _ HO3.out) Tryd.underlying23 rfl HSZ.out) rfl ?_
  exact ⟨by rw [HRR.out], (K9.out.trans k10).trans' (Keeps.setRow c1 R) (fun i hi h => by omega)⟩
end Go.Proofs.YtgbajlmcoghofaaDoor
