/-
  The document's own public key, and signature (assayerref07.Public, Sign). WRITTEN BY wip/gen/mklbb.py.
-/
import Derived.Test.YtgbajlmcoghofaaDoorLbB
namespace Go.Proofs.YtgbajlmcoghofaaDoor
open Go.RowKit Go.BigFrame
set_option linter.unusedVariables false

theorem str_join (P : Program) (a b : List UInt8) (ha : a.length ≤ 8000000) (hb : b.length ≤ 8000000) (V : World) : (Op.stringOp .add (strOf a) (strOf b)).run P V = .ok (.string (strOf (a ++ b))) V :=
  run_string_add_lists V a b (by omega) (by omega)
set_option maxRecDepth 100000 in
set_option maxHeartbeats 2000000 in
theorem rpublic_any (seed : List UInt8) (i : Int) (w : World) (hs : seed.length = 32) :
    Calls Tryd.prog 13 #[.agg (bvs seed).toArray, .int .i64 i] w fun e w' => e = .returned (.agg (bvs (Lm.pub seed i)).toArray) ∧ Keeps (fun _ => False) w w' := by
  obtain ⟨Z, hZ⟩ : ∃ Z : Array Value, (bvs (List.replicate 32 0)).toArray = Z := ⟨_, rfl⟩
  have hz : ∀ w : World, (zeroValue 23).run Tryd.prog w = .ok (.agg Z) w := fun w => by rw [← hZ]; exact zero_hash w
  have hzs : Z.size = 32 := by subst hZ; rfl
  obtain ⟨a1, a2, a3⟩ := hash_arr seed hs
  have hsec := fun (k v : Nat) (V : World) (hk : k < 64) (hv : v < 2) => rsecret_any seed i k v V hs hk hv
  obtain ⟨f, hf⟩ : ∃ f, Lm.pubs seed i = f := ⟨_, rfl⟩
  have hfl : ∀ j, j < 128 → (f j).length = 32 := fun j _ => by rw [← hf]; exact Lm.pubs_length _ _ _
  have hat : ∀ k v, v < 2 → f (2 * k + v) = Lm.opn (Lm.sec seed i k v) := fun k v hv => by rw [← hf]; exact pubs_at seed i k v hv
  have hpub : Lm.pub seed i = Sh.sha (Lm.cat f 128) := by unfold Lm.pub; rw [hf]
  rw [hpub]
  obtain ⟨X, hX⟩ : ∃ X : Array Value, (bvs seed).toArray = X := ⟨_, rfl⟩
  rw [hX] at a1 hsec
  rw [hX]
  have hof : ∀ V, Calls Tryd.prog 21 #[.string (strOf (Lm.cat f 128))] V fun e w' => e = .returned (.agg (bvs (Sh.sha (Lm.cat f 128))).toArray) ∧ Keeps (fun _ => False) V w' := fun V => rof_any _ V (by rw [Lm.cat_length _ _ hfl]; omega)
  obtain ⟨b1, b2, b3⟩ := hash_arr (Sh.sha (Lm.cat f 128)) (Sh.sha_length _)
  obtain ⟨R, hR⟩ : ∃ X : Array Value, (bvs (Sh.sha (Lm.cat f 128))).toArray = X := ⟨_, rfl⟩
  rw [hR] at b1 b2 b3 hof
  rw [hR]
  obtain ⟨W1, hW1⟩ : ∃ V, w.alloc (.cells X 23) = V := ⟨_, rfl⟩
  obtain ⟨c1, hc1⟩ : ∃ c, W1.heap.size = c := ⟨_, rfl⟩
  obtain ⟨W2, hW2⟩ : ∃ V, W1.alloc (.cells Z 23) = V := ⟨_, rfl⟩
  have k1 : Keeps (fun _ => False) w W1 := by rw [← hW1]; exact (Keeps.refl _ _).alloc _
  have k2 : Keeps (fun _ => False) W1 W2 := by rw [← hW2]; exact (Keeps.refl _ _).alloc _
  have r1 : W1.heap[w.heap.size]? = some (.cells X 23 (0, 0)) := by rw [← hW1]; exact heap_alloc_new w _
  have r2 : W2.heap[c1]? = some (.cells Z 23 (0, 0)) := by rw [← hW2, ← hc1]; exact heap_alloc_new W1 _
  have bc : w.heap.size < c1 := by rw [← hc1, ← hW1]; simp
  have r12 : W2.heap[w.heap.size]? = some (.cells X 23 (0, 0)) := (k2.block _ (by omega) id).trans r1
  have K2 := Lib.hid (k1.trans k2)
  have R2 := Lib.hid r2
  have R12 := Lib.hid r12
  have SX := Lib.hid a1
  have HO := Lib.hid hof
  have S1 := Lib.hid b1
  have S2 := Lib.hid (hzs.trans b2.symm)
  have S3 := Lib.hid b3
  have HSEC := Lib.hid hsec
  have HAT := Lib.hid hat
  have HFL := Lib.hid hfl
  obtain ⟨e0, he0⟩ : ∃ s, strOf (Lm.cat f (2 * 0)) = s := ⟨_, rfl⟩
  have he00 : Value.string (ByteArray.mk #[]) = .string e0 := by rw [← he0]; rfl
  have HE0 := Lib.hid he0
  have HE00 := Lib.hid he00
  clear a1 a2 a3 b1 b2 b3 hX hR hZ hzs k1 k2 r1 r2 r12 hs hsec hat hfl hf hpub hof he0 he00
  go_enter Tryd.func13, Tryd.ntmps13
  go_wp2_with fail
  go_loopw [5, 6] (fun sv x wr => ∃ (k : Nat) (s : ByteArray), k ≤ 64 ∧ x = .int .i64 k ∧ sv = .string s ∧ Hid (strOf (Lm.cat f (2 * k)) = s) ∧ Hid (Keeps (fun _ => False) W2 wr)) (fun _ x _ => 64 - (intOf x).toNat)
  case atStart => exact ⟨0, e0, by omega, rfl, HE00.out, HE0, Lib.hid (Keeps.refl _ _)⟩
  case round =>
    obtain ⟨k, sp, hk, rfl, rfl, HS, HK⟩ := hrel
    by_cases hlt : k < 64
    · have hki : (k : Int) < 64 := by omega
      have x0 := HAT.out k 0 (by omega)
      have x1 := HAT.out k 1 (by omega)
      have hnext : Lm.cat f (2 * (k + 1)) = Lm.cat f (2 * k) ++ (Lm.opn (Lm.sec seed i k 0) ++ Lm.opn (Lm.sec seed i k 1)) := by
        rw [show 2 * (k + 1) = 2 * k + 1 + 1 by omega, Lm.cat_succ, Lm.cat_succ, x1, ← x0, List.append_assoc]
        rfl
      have hcl : (Lm.cat f (2 * k)).length ≤ 5000 := by rw [Lm.cat_length _ _ (fun j hj => HFL.out j (by omega))]; omega
      have c0 : ∀ V, Later wr V → Calls Tryd.prog 23 #[.agg X, .int .i64 i, .int .i64 k, .int .i64 0] V fun e w' => e = .returned (.agg (bvs (Lm.sec seed i k 0)).toArray) ∧ Later wr w' := fun V hV => (HSEC.out k 0 V hlt (by omega)).mono fun e w' h => ⟨h.1, ⟨hV.out.trans h.2⟩⟩
      have c1' : ∀ V, Later wr V → Calls Tryd.prog 23 #[.agg X, .int .i64 i, .int .i64 k, .int .i64 1] V fun e w' => e = .returned (.agg (bvs (Lm.sec seed i k 1)).toArray) ∧ Later wr w' := fun V hV => (HSEC.out k 1 V hlt (by omega)).mono fun e w' h => ⟨h.1, ⟨hV.out.trans h.2⟩⟩
      have p0 : ∀ V, Later wr V → Calls Tryd.prog 24 #[.agg (bvs (Lm.sec seed i k 0)).toArray] V fun e w' => e = .returned (.agg (bvs (Lm.opn (Lm.sec seed i k 0))).toArray) ∧ Later wr w' := fun V hV => (ropen_any _ V (Lm.sec_length _ _ _ _)).mono fun e w' h => ⟨h.1, ⟨hV.out.trans h.2⟩⟩
      have p1 : ∀ V, Later wr V → Calls Tryd.prog 24 #[.agg (bvs (Lm.sec seed i k 1)).toArray] V fun e w' => e = .returned (.agg (bvs (Lm.opn (Lm.sec seed i k 1))).toArray) ∧ Later wr w' := fun V hV => (ropen_any _ V (Lm.sec_length _ _ _ _)).mono fun e w' h => ⟨h.1, ⟨hV.out.trans h.2⟩⟩
      have q0 : ∀ V, Later wr V → Calls Tryd.prog 26 #[.agg (bvs (Lm.opn (Lm.sec seed i k 0))).toArray] V fun e w' => e = .returned (.string (strOf (Lm.opn (Lm.sec seed i k 0)))) ∧ Later wr w' := fun V hV => (raw_any _ V (Lm.opn_length _)).mono fun e w' h => ⟨h.1, ⟨hV.out.trans h.2⟩⟩
      have q1 : ∀ V, Later wr V → Calls Tryd.prog 26 #[.agg (bvs (Lm.opn (Lm.sec seed i k 1))).toArray] V fun e w' => e = .returned (.string (strOf (Lm.opn (Lm.sec seed i k 1)))) ∧ Later wr w' := fun V hV => (raw_any _ V (Lm.opn_length _)).mono fun e w' h => ⟨h.1, ⟨hV.out.trans h.2⟩⟩
      have hx : ∀ V, Later wr V → V.heap[w.heap.size]? = some (.cells X 23 (0, 0)) := fun V hV => by
        have h1 := (HK.out.block _ (Array.getElem?_eq_some_iff.1 R12.out).1 id).trans R12.out
        exact (hV.out.block _ (Array.getElem?_eq_some_iff.1 h1).1 id).trans h1
      have j1 := fun V => str_join Tryd.prog (Lm.opn (Lm.sec seed i k 0)) (Lm.opn (Lm.sec seed i k 1)) (by rw [Lm.opn_length]; omega) (by rw [Lm.opn_length]; omega) V
      have j2 := fun V => str_join Tryd.prog (Lm.cat f (2 * k)) (Lm.opn (Lm.sec seed i k 0) ++ Lm.opn (Lm.sec seed i k 1)) (by omega) (by rw [List.length_append, Lm.opn_length, Lm.opn_length]; omega) V
      rw [← hnext, HS.out] at j2
      obtain ⟨E0, hE0⟩ : ∃ E, (bvs (Lm.sec seed i k 0)).toArray = E := ⟨_, rfl⟩
      obtain ⟨E1, hE1⟩ : ∃ E, (bvs (Lm.sec seed i k 1)).toArray = E := ⟨_, rfl⟩
      obtain ⟨O0, hO0⟩ : ∃ E, (bvs (Lm.opn (Lm.sec seed i k 0))).toArray = E := ⟨_, rfl⟩
      obtain ⟨O1, hO1⟩ : ∃ E, (bvs (Lm.opn (Lm.sec seed i k 1))).toArray = E := ⟨_, rfl⟩
      obtain ⟨s0, hs0⟩ : ∃ E, strOf (Lm.opn (Lm.sec seed i k 0)) = E := ⟨_, rfl⟩
      obtain ⟨s1, hs1⟩ : ∃ E, strOf (Lm.opn (Lm.sec seed i k 1)) = E := ⟨_, rfl⟩
      obtain ⟨s01, hs01⟩ : ∃ E, strOf (Lm.opn (Lm.sec seed i k 0) ++ Lm.opn (Lm.sec seed i k 1)) = E := ⟨_, rfl⟩
      obtain ⟨sn, hsn⟩ : ∃ E, strOf (Lm.cat f (2 * (k + 1))) = E := ⟨_, rfl⟩
      rw [hE0] at c0 p0
      rw [hE1] at c1' p1
      rw [hO0] at p0 q0
      rw [hO1] at p1 q1
      rw [hs0] at q0 j1
      rw [hs1] at q1 j1
      rw [hs01] at j1 j2
      rw [hsn] at j2
      have C0 := Lib.hid c0
      have C1 := Lib.hid c1'
      have P0 := Lib.hid p0
      have P1 := Lib.hid p1
      have R0 := Lib.hid q0
      have R1' := Lib.hid q1
      have HX := Lib.hid hx
      have HSN := Lib.hid hsn
      clear c0 c1' p0 p1 q0 q1 hx x0 x1 hnext hcl hE0 hE1 hO0 hO1 hs0 hs1 hs01 hsn HS
      go_wp2_with fail
      refine wp_region_class (Later wr) (by kernel_rfl) (by kernel_rfl) (⟨(Keeps.refl _ _).drew⟩) ?_
      refine class_value (by rfl) (.string sp) (fun V hV => by go_simp) ?_
      simp only [Act.put, List.setIfInBounds_toArray, List.set_cons_zero, List.set_cons_succ]
      refine class_load (by rfl) 23 (.tmp 2) (by rfl) w.heap.size (by rfl) _ X _ _ (fun V hV => HX.out V hV) Tryd.underlying23 rfl SX.out ?_
      simp only [Act.put, List.setIfInBounds_toArray, List.set_cons_zero, List.set_cons_succ]
      refine class_value (by rfl) (.int .i64 i) (fun V hV => by go_simp) ?_
      simp only [Act.put, List.setIfInBounds_toArray, List.set_cons_zero, List.set_cons_succ]
      refine class_value (by rfl) (.int .i64 (k : Int)) (fun V hV => by go_simp) ?_
      simp only [Act.put, List.setIfInBounds_toArray, List.set_cons_zero, List.set_cons_succ]
      refine class_call (by rfl) _ _ (.agg E0) (fun _ => by go_simp) (fun V hV => C0.out V hV) ?_
      simp only [Act.put, List.setIfInBounds_toArray, List.set_cons_zero, List.set_cons_succ]
      refine class_call (by rfl) _ _ (.agg O0) (fun _ => by go_simp) (fun V hV => P0.out V hV) ?_
      simp only [Act.put, List.setIfInBounds_toArray, List.set_cons_zero, List.set_cons_succ]
      refine class_call (by rfl) _ _ (.string s0) (fun _ => by go_simp) (fun V hV => R0.out V hV) ?_
      simp only [Act.put, List.setIfInBounds_toArray, List.set_cons_zero, List.set_cons_succ]
      refine class_load (by rfl) 23 (.tmp 2) (by rfl) w.heap.size (by rfl) _ X _ _ (fun V hV => HX.out V hV) Tryd.underlying23 rfl SX.out ?_
      simp only [Act.put, List.setIfInBounds_toArray, List.set_cons_zero, List.set_cons_succ]
      refine class_value (by rfl) (.int .i64 i) (fun V hV => by go_simp) ?_
      simp only [Act.put, List.setIfInBounds_toArray, List.set_cons_zero, List.set_cons_succ]
      refine class_value (by rfl) (.int .i64 (k : Int)) (fun V hV => by go_simp) ?_
      simp only [Act.put, List.setIfInBounds_toArray, List.set_cons_zero, List.set_cons_succ]
      refine class_call (by rfl) _ _ (.agg E1) (fun _ => by go_simp) (fun V hV => C1.out V hV) ?_
      simp only [Act.put, List.setIfInBounds_toArray, List.set_cons_zero, List.set_cons_succ]
      refine class_call (by rfl) _ _ (.agg O1) (fun _ => by go_simp) (fun V hV => P1.out V hV) ?_
      simp only [Act.put, List.setIfInBounds_toArray, List.set_cons_zero, List.set_cons_succ]
      refine class_call (by rfl) _ _ (.string s1) (fun _ => by go_simp) (fun V hV => R1'.out V hV) ?_
      simp only [Act.put, List.setIfInBounds_toArray, List.set_cons_zero, List.set_cons_succ]
      refine class_value (by rfl) (.string s01) (fun V hV => by go_simp) ?_
      simp only [Act.put, List.setIfInBounds_toArray, List.set_cons_zero, List.set_cons_succ]
      refine class_value (by rfl) (.string sn) (fun V hV => by go_simp) ?_
      simp only [Act.put, List.setIfInBounds_toArray, List.set_cons_zero, List.set_cons_succ]
      refine class_value (by rfl) (.string sn) (fun V hV => by go_simp) ?_
      simp only [Act.put, List.setIfInBounds_toArray, List.set_cons_zero, List.set_cons_succ]
      refine wpQuiet_nil ?_
      intro w6 k6
      have HK6 : Hid (Keeps (fun _ => False) W2 w6) := Lib.hid (HK.out.trans k6.out)
      clear C0 C1 P0 P1 R0 R1' HX HK k6 j1 j2
      go_wp2
      go_roundw
      case rel => exact ⟨k + 1, sn, by omega, by go_num, rfl, HSN, HK6⟩
      case measure => simp [intOf]; omega
    · obtain rfl : k = 64 := by omega
      have ho := HO.out wr
      have e2 := HS.out
      rw [show 2 * 64 = 128 by rfl] at e2
      rw [e2] at ho
      have HO2 := Lib.hid ho
      have R7 := Lib.hid ((HK.out.block _ (Array.getElem?_eq_some_iff.1 R2.out).1 id).trans R2.out)
      have K7 := Lib.hid (K2.out.trans HK.out)
      clear ho e2 HS HK R2 HO R12
      go_wp2_with fail
      refine HO2.out.mono ?_
      rintro e w8 ⟨rfl, k8⟩
      have R8 := Lib.hid ((k8.block _ (Array.getElem?_eq_some_iff.1 R7.out).1 id).trans R7.out)
      have K8 := Lib.hid (K7.out.trans k8)
      clear k8 R7 K7 HO2
      go_wp2_with (refine wpList_store_row rfl 23 _ _ rfl c1 R rfl rfl 23 Z R8.out S1.out S2.out S3.out ?_)
      refine bodyPost_ret (results_cell_row rfl _ _ c1 23 R (0, 0) _ rfl (setRow_heap _ _ _ _ _ _ R8.out) Tryd.underlying23 rfl S1.out) rfl ?_
      exact ⟨rfl, K8.out.trans' (Keeps.setRow c1 R) (fun i hi h => by omega)⟩
end Go.Proofs.YtgbajlmcoghofaaDoor
