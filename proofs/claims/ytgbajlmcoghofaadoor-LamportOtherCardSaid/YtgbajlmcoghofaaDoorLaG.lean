/-
  lamport.From. WRITTEN BY wip/gen/mkla.py.
-/
import Derived.Test.YtgbajlmcoghofaaDoorLaF
import Derived.Test.YtgbajlmcoghofaaDoorWalkR
namespace Go.Proofs.YtgbajlmcoghofaaDoor
open Go.RowKit Go.BigFrame
set_option linter.unusedVariables false

theorem opens_own (g : List UInt8) (h : Nat → List UInt8) (k v : Nat) (hv : v < 2) (hb : Lm.bit g k = v) : Lm.opens g h (2 * k + v) = Lm.opn (h (2 * k + v)) := by
  unfold Lm.opens
  rw [show (2 * k + v) / 2 = k by omega, show (2 * k + v) % 2 = v by omega, if_pos hb.symm]
theorem opens_other (g : List UInt8) (h : Nat → List UInt8) (k u : Nat) (hu : u < 2) (hb : u ≠ Lm.bit g k) : Lm.opens g h (2 * k + u) = h (2 * k + u) := by
  unfold Lm.opens
  rw [show (2 * k + u) / 2 = k by omega, show (2 * k + u) % 2 = u by omega, if_neg hb]
set_option maxRecDepth 100000 in
set_option maxHeartbeats 3000000 in
theorem from_at (h : Nat → List UInt8) (A : Option Addr) (c : Nat) (xs : List UInt8) (w : World) (hT : Tabs w) (hh : ∀ j, j < 128 → (h j).length = 32) (hsrc : Src w A (bvs xs)) (hc : xs.length ≤ c) (hcm : c ≤ 9223372036854775807) (hx : xs.length ≤ 99999999) :
    Calls Tryd.prog 14 #[.slice A xs.length c, .agg (bvs (Lm.cat h 128)).toArray] w fun e w' => e = .returned (.agg (bvs (Sh.sha (Lm.cat (Lm.opens (Sh.sha xs) h) 128))).toArray) ∧ Keeps (fun _ => False) w w' := by
  have h0 := hT.lt
  obtain ⟨g, hg⟩ : ∃ g, Sh.sha xs = g := ⟨_, rfl⟩
  obtain ⟨f, hf⟩ : ∃ f, Lm.opens g h = f := ⟨_, rfl⟩
  have hfl : ∀ j, j < 128 → (f j).length = 32 := fun j hj => by rw [← hf]; exact Lm.opens_length _ _ _ (hh j hj)
  have hown : ∀ k v, v < 2 → Lm.bit g k = v → f (2 * k + v) = Lm.opn (h (2 * k + v)) := fun k v hv hb => by rw [← hf]; exact opens_own g h k v hv hb
  have hoth : ∀ k u, u < 2 → u ≠ Lm.bit g k → f (2 * k + u) = h (2 * k + u) := fun k u hu hb => by rw [← hf]; exact opens_other g h k u hu hb
  rw [hg, hf]
  obtain ⟨L, hL⟩ : ∃ L, Lm.cat f 128 = L := ⟨_, rfl⟩
  have hLl : L.length = 4096 := by rw [← hL]; exact Lm.cat_length _ 128 hfl
  obtain ⟨Z, hZ⟩ : ∃ Z : Array Value, (bvs (List.replicate 32 0)).toArray = Z := ⟨_, rfl⟩
  have hz : ∀ w : World, (zeroValue 23).run Tryd.prog w = .ok (.agg Z) w := fun w => by rw [← hZ]; exact zero_hash w
  have hzs : Z.size = 32 := by subst hZ; rfl
  obtain ⟨X, hX⟩ : ∃ X : Array Value, (bvs (Lm.cat h 128)).toArray = X := ⟨_, rfl⟩
  rw [hX]
  obtain ⟨B, hB⟩ : ∃ b, w.heap.size = b := ⟨_, rfl⟩
  obtain ⟨W1, hW1⟩ : ∃ W, w.alloc (.cells X 29) = W := ⟨_, rfl⟩
  obtain ⟨c1, hc1⟩ : ∃ c, W1.heap.size = c := ⟨_, rfl⟩
  obtain ⟨W3, hW3⟩ : ∃ W, W1.alloc (.cells Z 23) = W := ⟨_, rfl⟩
  have k1 : Keeps (fun _ => False) w W1 := by rw [← hW1]; exact (Keeps.refl _ _).alloc _
  have k3 : Keeps (fun _ => False) W1 W3 := by rw [← hW3]; exact (Keeps.refl _ _).alloc _
  have r1 : Row W1 B 29 (bvs (Lm.cat h 128)) := by rw [← hW1, ← hB]; show _ = some (Obj.cells (bvs _).toArray _ _); rw [hX]; exact heap_alloc_new w _
  have r3 : Row W3 B 29 (bvs (Lm.cat (Lm.mix f h (2 * 0)) 128)) := by rw [Nat.mul_zero, Lm.mix_zero]; exact r1.keeps k3 id
  have r23 : W3.heap[c1]? = some (.cells Z 23 (0, 0)) := by rw [← hW3, ← hc1]; exact heap_alloc_new W1 _
  have b1 : B < c1 := by rw [← hc1, ← hW1, ← hB]; simp
  have b3 : c1 < W3.heap.size := by rw [← hc1, ← hW3]; simp
  have hT3 := (hT.keeps k1 id id).keeps k3 id id
  have hbits := bitsOf_any A c xs W3 hT3 ((hsrc.keeps k1 (fun _ _ _ => id)).keeps k3 (fun _ _ _ => id)) hc hcm hx
  rw [hg] at hbits
  have hjx : ∀ (j : Nat), j < 64 → ∀ W, (Instr.index 46 (.agg (bvals g 64).toArray) (.int .i64 (j : Int))).run Tryd.prog W = .ok (.int .i64 (Lm.bit g j : Int)) W := fun j hj W => by
    obtain ⟨j0, hj0, hj1⟩ : ∃ i, Tryd.prog.info? 3 = some i ∧ i.size = 1 := ⟨_, rfl, rfl⟩
    refine run_index_row W 46 3 64 Tryd.underlying46 hj0 hj1 (by kernel_rfl) _ .i64 j _ hj ?_
    have h := bvals_at g 64 j hj
    rw [if_pos hj] at h
    simpa using h
  obtain ⟨BV, hBV⟩ : ∃ C, (bvals g 64).toArray = C := ⟨_, rfl⟩
  rw [hBV] at hjx hbits
  have HJX := Lib.hid hjx
  have HBITS := Lib.hid hbits
  have HT3 := Lib.hid hT3
  have K3 := Lib.hid (k1.trans k3)
  have R23 := Lib.hid r23
  have RB3 := Lib.hid r3
  have HZS := Lib.hid hzs
  have HFL := Lib.hid hfl
  have HHL := Lib.hid hh
  have HLE := Lib.hid hLl
  have HLL := Lib.hid hL
  have HOWN := Lib.hid hown
  have HOTH := Lib.hid hoth
  have hB2 : 2 ≤ B := by have := h0; omega
  have hBw : w.heap.size ≤ B := by omega
  clear r1 r3 r23 hX hZ hzs k1 k3 hT hh hLl hL hfl hT3 hbits hjx hBV hown hoth hf hg hsrc hx hc hcm
  go_enter Tryd.func14, Tryd.ntmps14
  go_wp2_with fail
  refine HBITS.out.mono ?_
  rintro e w4 ⟨rfl, k4⟩
  have RB4 := Lib.hid ((RB3.out : Row _ _ _ _).keeps k4 id)
  have HK4 : Hid (Keeps (fun q => q = B) W3 w4) := Lib.hid (k4.mono (fun _ _ h => h.elim))
  clear RB3 k4 HBITS
  go_wp2_with fail
  go_loopw [9] (fun x wr => ∃ k : Nat, k ≤ 64 ∧ x = .int .i64 k ∧ Hid (Row wr B 29 (bvs (Lm.cat (Lm.mix f h (2 * k)) 128))) ∧ Hid (Keeps (fun q => q = B) W3 wr)) (fun x _ => 64 - (intOf x).toNat)
  case atStart => exact ⟨0, by omega, rfl, RB4, HK4⟩
  case round =>
    clear RB4 HK4
    obtain ⟨k, hk, rfl, HB, HK⟩ := hrel
    by_cases hlt : k < 64
    · have hki : (k : Int) < 64 := by omega
      have hij := HJX.out k hlt
      obtain ⟨v, hbv⟩ : ∃ v, Lm.bit g k = v := ⟨_, rfl⟩
      have hlv : v < 2 := by rw [← hbv]; exact Lm.bit_lt _ _
      have hfo := HOWN.out k v hlv hbv
      have hft := HOTH.out k (1 - v) (by omega) (by omega)
      rw [hbv] at hij
      have hml : ∀ j, j < 128 → (Lm.mix f h (2 * k) j).length = 32 := Lm.mix_length HFL.out HHL.out
      have hatv : Lm.mix f h (2 * k) (2 * k + v) = h (2 * k + v) := by unfold Lm.mix; rw [if_neg (by omega)]
      have hsl : (h (2 * k + v)).length = 32 := HHL.out _ (by omega)
      have hpl := Lm.opn_length (h (2 * k + v))
      have htw := Lm.mix_one f h k v 128 hlv hft
      rw [hfo] at htw
      obtain ⟨p, hp⟩ : ∃ p, h (2 * k + v) = p := ⟨_, rfl⟩
      rw [hp] at hatv hsl hpl htw
      have co : ∀ V, Later wr V → Calls Tryd.prog 20 #[.agg (bvs p).toArray] V fun e w' => e = .returned (.agg (bvs (Lm.opn p)).toArray) ∧ Later wr w' := fun V hV =>
        (openHalf_any _ V ((HT3.out.keeps HK.out (by omega) (by omega)).keeps hV.out id id) hsl).mono fun e w' h => ⟨h.1, ⟨hV.out.trans h.2⟩⟩
      have hx : ∀ V, Later wr V → V.rangeAt B (k * 64 + v * 32) (bvs p) := fun V hV => by
        have h1 := sig_at ((HB.out : Row _ _ _ _).keeps hV.out id) hml (show 2 * k + v < 128 by omega)
        rw [hatv, show 32 * (2 * k + v) = k * 64 + v * 32 by omega] at h1
        exact h1
      obtain ⟨q, hq⟩ : ∃ q, Lm.opn p = q := ⟨_, rfl⟩
      rw [hq] at hpl htw co
      obtain ⟨p1, p2, p3⟩ := hash_arr q hpl
      have hs0 : (Tryd.prog.info? 23).map (·.size) = some (bvs p).length := by rw [bvs_length, hsl]; exact size_hash'
      obtain ⟨E1, hE1⟩ : ∃ E, bvs p = E := ⟨_, rfl⟩
      obtain ⟨E2, hE2⟩ : ∃ E, (bvs q).toArray = E := ⟨_, rfl⟩
      rw [hE1] at co hx hs0
      rw [hE2] at co p1 p2 p3
      have hth : ∀ V, Later wr V → V.there B (k * 64 + v * 32) E2.size := fun V hV => by
        rw [p2, show k * 64 + v * 32 = 32 * (2 * k + v) by omega]
        exact sig_there ((HB.out : Row _ _ _ _).keeps hV.out id) hml (by omega)
      have hst : ∀ V, Later wr V → Row (V.setCells B (k * 64 + v * 32) E2.toList) B 29 (bvs (Lm.cat (Lm.mix f h (2 * (k + 1))) 128)) := fun V hV => by
        have h := sig_set ((HB.out : Row _ _ _ _).keeps hV.out id) hml hpl (show 2 * k + v < 128 by omega)
        rw [htw] at h
        rw [← hE2, show k * 64 + v * 32 = 32 * (2 * k + v) by omega]
        exact h
      have HIJ := Lib.hid hij
      have CO := Lib.hid co
      have HX := Lib.hid hx
      have HTH := Lib.hid hth
      have HST := Lib.hid hst
      have S0 := Lib.hid hs0
      have S1 := Lib.hid p1
      have S3 := Lib.hid p3
      have hvi : (v : Int) < 2 := by omega
      clear hij co hx hth hst hml htw hsl hpl hatv hq p1 p2 p3 hE1 hE2 HB hfo hft hbv hp hs0
      go_wp2_with (refine wpList_index_run (by rfl) 46 (.tmp 8) (.tmp 9) (by rfl) (.agg BV) (.int .i64 (k : Int)) (.int .i64 (v : Int)) (by rfl) (by rfl) (HIJ.out _) ?_)
      refine wp_region_phase 10 (Later wr) (by kernel_rfl) (by kernel_rfl) (⟨(Keeps.refl _ _).drew⟩) ?_
      simp only [List.take_succ_cons, List.take_zero, List.drop_succ_cons, List.drop_zero]
      refine class_value (by rfl) (.int .i64 (k : Int)) (fun V hV => by go_simp) ?_
      simp only [Act.put, List.setIfInBounds_toArray, List.set_cons_zero, List.set_cons_succ]
      refine class_value (by rfl) (.int .i64 (v : Int)) (fun V hV => by go_simp) ?_
      simp only [Act.put, List.setIfInBounds_toArray, List.set_cons_zero, List.set_cons_succ]
      refine class_value (by rfl) (.int .i64 (k : Int)) (fun V hV => by go_simp) ?_
      simp only [Act.put, List.setIfInBounds_toArray, List.set_cons_zero, List.set_cons_succ]
      refine class_value (by rfl) (.int .i64 (v : Int)) (fun V hV => by go_simp) ?_
      simp only [Act.put, List.setIfInBounds_toArray, List.set_cons_zero, List.set_cons_succ]
      refine class_value (by rfl) (.pointer (some ⟨B, k * 64, none⟩)) (fun V hV => by go_simp) ?_
      simp only [Act.put, List.setIfInBounds_toArray, List.set_cons_zero, List.set_cons_succ]
      refine class_value (by rfl) (.pointer (some ⟨B, k * 64 + v * 32, none⟩)) (fun V hV => by go_simp) ?_
      simp only [Act.put, List.setIfInBounds_toArray, List.set_cons_zero, List.set_cons_succ]
      refine class_mid (by rfl) 23 (.tmp 18) (by rfl) B (k * 64 + v * 32) (by rfl) E1 _ (fun V hV => HX.out V hV) Tryd.underlying23 rfl S0.out ?_
      simp only [Act.put, List.setIfInBounds_toArray, List.set_cons_zero, List.set_cons_succ]
      refine class_call (by rfl) _ _ (.agg E2) (fun _ => by go_simp) (fun V hV => CO.out V hV) ?_
      simp only [Act.put, List.setIfInBounds_toArray, List.set_cons_zero, List.set_cons_succ]
      refine class_value (by rfl) (.pointer (some ⟨B, k * 64, none⟩)) (fun V hV => by go_simp) ?_
      simp only [Act.put, List.setIfInBounds_toArray, List.set_cons_zero, List.set_cons_succ]
      refine class_value (by rfl) (.pointer (some ⟨B, k * 64 + v * 32, none⟩)) (fun V hV => by go_simp) ?_
      simp only [Act.put, List.setIfInBounds_toArray, List.set_cons_zero, List.set_cons_succ]
      refine wpQuiet_nil ?_
      intro w6 k6
      go_wp2_with (refine wpList_store_mid rfl 23 (.tmp 22) (.tmp 20) rfl B (k * 64 + v * 32) E2 rfl rfl (HTH.out w6 k6) S1.out S3.out ?_)
      have HB8 := Lib.hid (HST.out w6 k6)
      have HK8 : Hid (Keeps (fun q => q = B) W3 (w6.setCells B (k * 64 + v * 32) E2.toList)) := Lib.hid (Keeps.setCells B _ _ _ (HK.out.trans' k6.out (fun _ _ h => h.elim)) (fun _ => rfl))
      clear CO HX HTH HST S0 S1 S3 HK k6 HIJ
      go_roundw
      case rel => exact ⟨k + 1, by omega, by go_num, HB8, HK8⟩
      case measure => simp [intOf]; omega
    · obtain rfl : k = 64 := by omega
      rw [show 2 * 64 = 128 by rfl, Lm.mix_all, HLL.out] at HB
      obtain ⟨fL, hfl, hfL⟩ : ∃ fL : Nat → List UInt8, (∀ j, j < 128 → (fL j).length = 32) ∧ Lm.cat fL 128 = L := ⟨_, HFL.out, HLL.out⟩
      have hLl := HLE.out
      have HL := HLL
      obtain ⟨R, hR⟩ : ∃ R, (bvs (Sh.sha L)).toArray = R := ⟨_, rfl⟩
      obtain ⟨b1, b2, b3⟩ := hash_arr (Sh.sha L) (Sh.sha_length _)
      rw [hR] at b1 b2 b3
      obtain ⟨s1, s2, s3⟩ := sig_arr L hLl
      obtain ⟨Y2, hY2⟩ : ∃ Y, (bvs L).toArray = Y := ⟨_, rfl⟩
      rw [hY2] at s1
      have RB2 : Hid (wr.heap[B]? = some (.cells Y2 29 (0, 0))) := Lib.hid (by rw [← hY2]; exact HB.out)
      have SY := Lib.hid s1
      have hj := joined_any fL wr (HT3.out.keeps HK.out (by omega) (by omega)) hfl
      rw [hfL, hR, hY2] at hj
      have HJ := Lib.hid hj
      have RC := Lib.hid ((HK.out.block _ (Array.getElem?_eq_some_iff.1 R23.out).1 (by omega)).trans R23.out)
      have HSZ := Lib.hid b1
      have HZR := Lib.hid (HZS.out.trans b2.symm)
      have HONE := Lib.hid b3
      have HRR := Lib.hid hR
      have K9 := Lib.hid (K3.out.trans' HK.out (fun i hi h => by omega))
      clear hR b1 b2 b3 s1 s2 s3 hY2 hj hfl hfL hLl HB HK
      go_wp2_with (refine wpList_load_row rfl 29 _ rfl B rfl 29 Y2 (0, 0) _ RB2.out Tryd.underlying29 rfl SY.out ?_)
      refine HJ.out.mono ?_
      rintro e w9 ⟨rfl, k9⟩
      have HO3 : Hid (w9.heap[c1]? = some (.cells Z 23 (0, 0))) := Lib.hid ((k9.block _ (Array.getElem?_eq_some_iff.1 RC.out).1 id).trans RC.out)
      clear RC HJ RB2 SY
      go_wp2_with (refine wpList_store_row rfl 23 _ _ rfl c1 R rfl rfl 23 Z HO3.out HSZ.out HZR.out HONE.out ?_)
      refine bodyPost_ret (results_cell_row rfl _ _ c1 23 R (0, 0) _ rfl (setRow_heap _ _ _ _ _ _ HO3.out) Tryd.underlying23 rfl HSZ.out) rfl ?_
      exact ⟨by rw [HL.out, HRR.out], (K9.out.trans k9).trans' (Keeps.setRow c1 R) (fun i hi h => by omega)⟩
theorem from_any (S : List UInt8) (A : Option Addr) (c : Nat) (xs : List UInt8) (w : World) (hT : Tabs w) (hS : S.length = 4096) (hsrc : Src w A (bvs xs)) (hc : xs.length ≤ c) (hcm : c ≤ 9223372036854775807) (hx : xs.length ≤ 99999999) :
    Calls Tryd.prog 14 #[.slice A xs.length c, .agg (bvs S).toArray] w fun e w' => e = .returned (.agg (bvs (Lm.frm xs S)).toArray) ∧ Keeps (fun _ => False) w w' := by
  have h := from_at (Lm.part S) A c xs w hT (fun j hj => Lm.part_length S 128 j hS hj) hsrc hc hcm hx
  rw [Lm.cat_part S 128 hS] at h
  exact h
end Go.Proofs.YtgbajlmcoghofaaDoor
