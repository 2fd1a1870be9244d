/-
  lamport.Sign. WRITTEN BY wip/gen/mkla.py.
-/
import Derived.Test.YtgbajlmcoghofaaDoorLaE
import Derived.Test.YtgbajlmcoghofaaDoorWalkR
namespace Go.Proofs.YtgbajlmcoghofaaDoor
open Go.RowKit Go.BigFrame
set_option linter.unusedVariables false

theorem sigs_own (seed : List UInt8) (i : Int) (g : List UInt8) (k v : Nat) (hv : v < 2) (hb : Lm.bit g k = v) : Lm.sigs seed i g (2 * k + v) = Lm.sec seed i k v := by
  unfold Lm.sigs
  rw [show (2 * k + v) / 2 = k by omega, show (2 * k + v) % 2 = v by omega, if_pos hb.symm]
theorem sigs_other (seed : List UInt8) (i : Int) (g : List UInt8) (k u : Nat) (hu : u < 2) (hb : u ≠ Lm.bit g k) : Lm.sigs seed i g (2 * k + u) = Lm.opn (Lm.sec seed i k u) := by
  unfold Lm.sigs
  rw [show (2 * k + u) / 2 = k by omega, show (2 * k + u) % 2 = u by omega, if_neg hb]
set_option maxRecDepth 100000 in
set_option maxHeartbeats 3000000 in
theorem sign_any (seed : List UInt8) (i : Int) (A : Option Addr) (c : Nat) (xs : List UInt8) (w : World) (hT : Tabs w) (hs : seed.length = 32) (hsrc : Src w A (bvs xs)) (hc : xs.length ≤ c) (hcm : c ≤ 9223372036854775807) (hx : xs.length ≤ 99999999) :
    Calls Tryd.prog 9 #[.agg (bvs seed).toArray, .int .i64 i, .slice A xs.length c] w fun e w' => e = .returned (.agg (bvs (Lm.sign seed i xs)).toArray) ∧ Keeps (fun _ => False) w w' := by
  have h0 := hT.lt
  obtain ⟨g, hg⟩ : ∃ g, Sh.sha xs = g := ⟨_, rfl⟩
  obtain ⟨f, hf⟩ : ∃ f, Lm.sigs seed i g = f := ⟨_, rfl⟩
  have hfl : ∀ j, (f j).length = 32 := fun j => by rw [← hf]; exact Lm.sigs_length _ _ _ _
  have hsign : Lm.sign seed i xs = Lm.cat f 128 := by unfold Lm.sign; rw [hg, hf]
  have hown : ∀ k v, v < 2 → Lm.bit g k = v → f (2 * k + v) = Lm.sec seed i k v := fun k v hv hb => by rw [← hf]; exact sigs_own seed i g k v hv hb
  have hoth : ∀ k u, u < 2 → u ≠ Lm.bit g k → f (2 * k + u) = Lm.opn (Lm.sec seed i k u) := fun k u hu hb => by rw [← hf]; exact sigs_other seed i g k u hu hb
  rw [hsign]
  have hLl : (Lm.cat f 128).length = 4096 := Lm.cat_length _ 128 (fun j _ => hfl j)
  obtain ⟨Y, hY⟩ : ∃ Y : Array Value, (bvs (List.replicate 4096 0)).toArray = Y := ⟨_, rfl⟩
  have hy : ∀ w : World, (zeroValue 29).run Tryd.prog w = .ok (.agg Y) w := fun w => by rw [← hY]; exact zero_sig w
  have hys : Y.size = 4096 := by rw [← hY, List.size_toArray, bvs_length, List.length_replicate]
  obtain ⟨a1, a2, a3⟩ := hash_arr seed hs
  have hsec := fun (k v : Nat) (V : World) (hV : Tabs V) (hk : k < 64) (hv : v < 2) => secret_any seed i k v V hV hs hk hv
  obtain ⟨X, hX⟩ : ∃ X : Array Value, (bvs seed).toArray = X := ⟨_, rfl⟩
  rw [hX] at hsec
  rw [hX]
  rw [hX] at a1 a2 a3
  obtain ⟨W1, hW1⟩ : ∃ W, w.alloc (.cells X 23) = W := ⟨_, rfl⟩
  obtain ⟨W2, hW2⟩ : ∃ W, W1.alloc (.cells Y 29) = W := ⟨_, rfl⟩
  obtain ⟨B, hB⟩ : ∃ b, W2.heap.size = b := ⟨_, rfl⟩
  obtain ⟨c1, hc1⟩ : ∃ c, W1.heap.size = c := ⟨_, rfl⟩
  obtain ⟨W3, hW3⟩ : ∃ W, W2.alloc (.cells Y 29) = W := ⟨_, rfl⟩
  have k1 : Keeps (fun _ => False) w W1 := by rw [← hW1]; exact (Keeps.refl _ _).alloc _
  have k2 : Keeps (fun _ => False) W1 W2 := by rw [← hW2]; exact (Keeps.refl _ _).alloc _
  have k3 : Keeps (fun _ => False) W2 W3 := by rw [← hW3]; exact (Keeps.refl _ _).alloc _
  have r1 : W1.heap[w.heap.size]? = some (.cells X 23 (0, 0)) := by rw [← hW1]; exact heap_alloc_new w _
  have r2 : W2.heap[c1]? = some (.cells Y 29 (0, 0)) := by rw [← hW2, ← hc1]; exact heap_alloc_new W1 _
  have r3 : Row W3 B 29 (bvs (Lm.cat (Lm.mix f nought (2 * 0)) 128)) := by rw [Nat.mul_zero, Lm.mix_zero, nought_cat, ← hW3, ← hB]; show _ = some (Obj.cells (bvs _).toArray _ _); rw [hY]; exact heap_alloc_new W2 _
  have b1 : w.heap.size < c1 := by rw [← hc1, ← hW1]; simp
  have b2 : c1 < B := by rw [← hB, ← hW2, ← hc1]; simp
  have b3 : B < W3.heap.size := by rw [← hB, ← hW3]; simp
  have r13 : W3.heap[w.heap.size]? = some (.cells X 23 (0, 0)) := (k3.block _ (by omega) id).trans ((k2.block _ (by omega) id).trans r1)
  have r23 : W3.heap[c1]? = some (.cells Y 29 (0, 0)) := (k3.block _ (by omega) id).trans r2
  have hT3 := ((hT.keeps k1 id id).keeps k2 id id).keeps k3 id id
  have hbits := bitsOf_any A c xs W3 hT3 (((hsrc.keeps k1 (fun _ _ _ => id)).keeps k2 (fun _ _ _ => id)).keeps k3 (fun _ _ _ => id)) hc hcm hx
  rw [hg] at hbits
  have hjx : ∀ (j : Nat), j < 64 → ∀ W, (Instr.index 46 (.agg (bvals g 64).toArray) (.int .i64 (j : Int))).run Tryd.prog W = .ok (.int .i64 (Lm.bit g j : Int)) W := fun j hj W => by
    obtain ⟨j0, hj0, hj1⟩ : ∃ i, Tryd.prog.info? 3 = some i ∧ i.size = 1 := ⟨_, rfl, rfl⟩
    refine run_index_row W 46 3 64 Tryd.underlying46 hj0 hj1 (by kernel_rfl) _ .i64 j _ hj ?_
    have h := bvals_at g 64 j hj
    rw [if_pos hj] at h
    simpa using h
  obtain ⟨BV, hBV⟩ : ∃ C, (bvals g 64).toArray = C := ⟨_, rfl⟩
  rw [hBV] at hjx hbits
  have HJX := Lib.hid hjx
  have HBITS := Lib.hid hbits
  have HT3 := Lib.hid hT3
  have K3 := Lib.hid ((k1.trans k2).trans k3)
  have R13 := Lib.hid r13
  have R23 := Lib.hid r23
  have RB3 := Lib.hid r3
  have SX := Lib.hid a1
  have HYS := Lib.hid hys
  have HSEC := Lib.hid hsec
  have HFL := Lib.hid hfl
  have HLE := Lib.hid hLl
  have HOWN := Lib.hid hown
  have HOTH := Lib.hid hoth
  clear r1 r2 r3 r13 r23 a1 a2 a3 hX hY hys k1 k2 k3 hT hs hsec hsign hLl hfl hT3 hbits hjx hBV hown hoth hf hg hsrc hx hc hcm
  go_enter Tryd.func9, Tryd.ntmps9
  go_wp2_with fail
  refine HBITS.out.mono ?_
  rintro e w4 ⟨rfl, k4⟩
  have RB4 := Lib.hid ((RB3.out : Row _ _ _ _).keeps k4 id)
  have HK4 : Hid (Keeps (fun q => q = B) W3 w4) := Lib.hid (k4.mono (fun _ _ h => h.elim))
  clear RB3 k4 HBITS
  go_wp2_with fail
  go_loopw [12] (fun x wr => ∃ k : Nat, k ≤ 64 ∧ x = .int .i64 k ∧ Hid (Row wr B 29 (bvs (Lm.cat (Lm.mix f nought (2 * k)) 128))) ∧ Hid (Keeps (fun q => q = B) W3 wr)) (fun x _ => 64 - (intOf x).toNat)
  case atStart => exact ⟨0, by omega, rfl, RB4, HK4⟩
  case round =>
    clear RB4 HK4
    obtain ⟨k, hk, rfl, HB, HK⟩ := hrel
    by_cases hlt : k < 64
    · have hki : (k : Int) < 64 := by omega
      have hij := HJX.out k hlt
      obtain ⟨v, hbv⟩ : ∃ v, Lm.bit g k = v := ⟨_, rfl⟩
      have hlv : v < 2 := by rw [← hbv]; exact Lm.bit_lt _ _
      obtain ⟨u, hu⟩ : ∃ u, 1 - v = u := ⟨_, rfl⟩
      have hlu : u < 2 := by omega
      have e1 : IntKind.i64.wrap (1 - (v : Int)) = (u : Int) := by rw [IntWalk.i64_in _ (by omega)]; omega
      have hfo := HOWN.out k v hlv hbv
      have hft := HOTH.out k u hlu (by omega)
      rw [hbv] at hij
      have hml : ∀ j, j < 128 → (Lm.mix f nought (2 * k) j).length = 32 := Lm.mix_length (fun j _ => HFL.out j) (fun _ _ => nought_length _)
      have hsl := Lm.sec_length seed i k v
      have hsl2 := Lm.sec_length seed i k u
      have hpl := Lm.opn_length (Lm.sec seed i k u)
      have hml2 : ∀ j, j < 128 → (Lm.ups (Lm.mix f nought (2 * k)) (2 * k + v) (Lm.sec seed i k v) j).length = 32 := Lm.ups_length hml hsl
      have htw := Lm.mix_two f nought k v 128 hlv
      rw [hu, hfo, hft] at htw
      have cs : ∀ V, Later wr V → Calls Tryd.prog 19 #[.agg X, .int .i64 i, .int .i64 k, .int .i64 v] V fun e w' => e = .returned (.agg (bvs (Lm.sec seed i k v)).toArray) ∧ Later wr w' := fun V hV =>
        (HSEC.out k v V ((HT3.out.keeps HK.out (by have := h0; omega) (by have := h0; omega)).keeps hV.out id id) hlt hlv).mono fun e w' h => ⟨h.1, ⟨hV.out.trans h.2⟩⟩
      have hx : ∀ V, Later wr V → V.heap[w.heap.size]? = some (.cells X 23 (0, 0)) := fun V hV => by
        have h1 := (HK.out.block _ (Array.getElem?_eq_some_iff.1 R13.out).1 (by omega)).trans R13.out
        exact (hV.out.block _ (Array.getElem?_eq_some_iff.1 h1).1 id).trans h1
      obtain ⟨q, hq⟩ : ∃ q, Lm.sec seed i k v = q := ⟨_, rfl⟩
      rw [hq] at hsl hml2 htw cs
      obtain ⟨p1, p2, p3⟩ := hash_arr q hsl
      obtain ⟨E1, hE1⟩ : ∃ E, (bvs q).toArray = E := ⟨_, rfl⟩
      rw [hE1] at cs p1 p2 p3
      have hth : ∀ V, Later wr V → V.there B (k * 64 + v * 32) E1.size := fun V hV => by
        rw [p2, show k * 64 + v * 32 = 32 * (2 * k + v) by omega]
        exact sig_there ((HB.out : Row _ _ _ _).keeps hV.out id) hml (by omega)
      have hst : ∀ V, Later wr V → Row (V.setCells B (k * 64 + v * 32) E1.toList) B 29 (bvs (Lm.cat (Lm.ups (Lm.mix f nought (2 * k)) (2 * k + v) q) 128)) := fun V hV => by
        have h := sig_set ((HB.out : Row _ _ _ _).keeps hV.out id) hml hsl (show 2 * k + v < 128 by omega)
        rw [← hE1, show k * 64 + v * 32 = 32 * (2 * k + v) by omega]
        exact h
      have HIJ := Lib.hid hij
      have CS := Lib.hid cs
      have HX := Lib.hid hx
      have HTH := Lib.hid hth
      have HST := Lib.hid hst
      have S1 := Lib.hid p1
      have S3 := Lib.hid p3
      have HM2 := Lib.hid hml2
      have HTW := Lib.hid htw
      have hvi : (v : Int) < 2 := by omega
      have hui : (u : Int) < 2 := by omega
      have HU := Lib.hid (And.intro hu hbv)
      clear hij cs hx hth hst hml hml2 htw hsl hq p1 p2 p3 hE1 HB hfo hft hu hbv
      go_wp2_with (refine wpList_index_run (by rfl) 46 (.tmp 11) (.tmp 12) (by rfl) (.agg BV) (.int .i64 (k : Int)) (.int .i64 (v : Int)) (by rfl) (by rfl) (HIJ.out _) ?_)
      refine wp_region_phase 9 (Later wr) (by kernel_rfl) (by kernel_rfl) (⟨(Keeps.refl _ _).drew⟩) ?_
      simp only [List.take_succ_cons, List.take_zero, List.drop_succ_cons, List.drop_zero]
      refine class_value (by rfl) (.int .i64 (k : Int)) (fun V hV => by go_simp) ?_
      simp only [Act.put, List.setIfInBounds_toArray, List.set_cons_zero, List.set_cons_succ]
      refine class_value (by rfl) (.int .i64 (v : Int)) (fun V hV => by go_simp) ?_
      simp only [Act.put, List.setIfInBounds_toArray, List.set_cons_zero, List.set_cons_succ]
      refine class_load (by rfl) 23 (.tmp 3) (by rfl) w.heap.size (by rfl) _ X _ _ (fun V hV => HX.out V hV) Tryd.underlying23 rfl SX.out ?_
      simp only [Act.put, List.setIfInBounds_toArray, List.set_cons_zero, List.set_cons_succ]
      refine class_value (by rfl) (.int .i64 i) (fun V hV => by go_simp) ?_
      simp only [Act.put, List.setIfInBounds_toArray, List.set_cons_zero, List.set_cons_succ]
      refine class_value (by rfl) (.int .i64 (k : Int)) (fun V hV => by go_simp) ?_
      simp only [Act.put, List.setIfInBounds_toArray, List.set_cons_zero, List.set_cons_succ]
      refine class_value (by rfl) (.int .i64 (v : Int)) (fun V hV => by go_simp) ?_
      simp only [Act.put, List.setIfInBounds_toArray, List.set_cons_zero, List.set_cons_succ]
      refine class_call (by rfl) _ _ (.agg E1) (fun _ => by go_simp) (fun V hV => CS.out V hV) ?_
      simp only [Act.put, List.setIfInBounds_toArray, List.set_cons_zero, List.set_cons_succ]
      refine class_value (by rfl) (.pointer (some ⟨B, k * 64, none⟩)) (fun V hV => by go_simp) ?_
      simp only [Act.put, List.setIfInBounds_toArray, List.set_cons_zero, List.set_cons_succ]
      refine class_value (by rfl) (.pointer (some ⟨B, k * 64 + v * 32, none⟩)) (fun V hV => by go_simp) ?_
      simp only [Act.put, List.setIfInBounds_toArray, List.set_cons_zero, List.set_cons_succ]
      refine wpQuiet_nil ?_
      intro w6 k6
      go_wp2_with (refine wpList_store_mid rfl 23 (.tmp 24) (.tmp 22) rfl B (k * 64 + v * 32) E1 rfl rfl (HTH.out w6 k6) S1.out S3.out ?_)
      obtain ⟨W7, hW7⟩ : ∃ W, w6.setCells B (k * 64 + v * 32) E1.toList = W := ⟨_, rfl⟩
      have HB7 : Hid (Row W7 B 29 (bvs (Lm.cat (Lm.ups (Lm.mix f nought (2 * k)) (2 * k + v) q) 128))) := Lib.hid (by rw [← hW7]; exact HST.out w6 k6)
      have HK7 : Hid (Keeps (fun q => q = B) W3 W7) := Lib.hid (by rw [← hW7]; exact Keeps.setCells B _ _ _ (HK.out.trans' k6.out (fun _ _ h => h.elim)) (fun _ => rfl))
      rw [hW7]
      clear CS HX HTH HST S1 S3 HK k6 hW7 HIJ
      have cs2 : ∀ V, Later W7 V → Calls Tryd.prog 19 #[.agg X, .int .i64 i, .int .i64 k, .int .i64 u] V fun e w' => e = .returned (.agg (bvs (Lm.sec seed i k u)).toArray) ∧ Later W7 w' := fun V hV =>
        (HSEC.out k u V ((HT3.out.keeps HK7.out (by have := h0; omega) (by have := h0; omega)).keeps hV.out id id) hlt hlu).mono fun e w' h => ⟨h.1, ⟨hV.out.trans h.2⟩⟩
      have co : ∀ V, Later W7 V → Calls Tryd.prog 20 #[.agg (bvs (Lm.sec seed i k u)).toArray] V fun e w' => e = .returned (.agg (bvs (Lm.opn (Lm.sec seed i k u))).toArray) ∧ Later W7 w' := fun V hV =>
        (openHalf_any _ V ((HT3.out.keeps HK7.out (by have := h0; omega) (by have := h0; omega)).keeps hV.out id id) hsl2).mono fun e w' h => ⟨h.1, ⟨hV.out.trans h.2⟩⟩
      have hx2 : ∀ V, Later W7 V → V.heap[w.heap.size]? = some (.cells X 23 (0, 0)) := fun V hV => by
        have h1 := (HK7.out.block _ (Array.getElem?_eq_some_iff.1 R13.out).1 (by omega)).trans R13.out
        exact (hV.out.block _ (Array.getElem?_eq_some_iff.1 h1).1 id).trans h1
      have htw := HTW.out
      obtain ⟨q2, hq2⟩ : ∃ q, Lm.opn (Lm.sec seed i k u) = q := ⟨_, rfl⟩
      rw [hq2] at co hpl htw
      obtain ⟨p1, p2, p3⟩ := hash_arr q2 hpl
      obtain ⟨D1, hD1⟩ : ∃ E, (bvs (Lm.sec seed i k u)).toArray = E := ⟨_, rfl⟩
      obtain ⟨E2, hE2⟩ : ∃ E, (bvs q2).toArray = E := ⟨_, rfl⟩
      rw [hD1] at cs2 co
      rw [hE2] at co p1 p2 p3
      have hth : ∀ V, Later W7 V → V.there B (k * 64 + u * 32) E2.size := fun V hV => by
        rw [p2, show k * 64 + u * 32 = 32 * (2 * k + u) by omega]
        exact sig_there ((HB7.out : Row _ _ _ _).keeps hV.out id) HM2.out (by omega)
      have hst : ∀ V, Later W7 V → Row (V.setCells B (k * 64 + u * 32) E2.toList) B 29 (bvs (Lm.cat (Lm.mix f nought (2 * (k + 1))) 128)) := fun V hV => by
        have h := sig_set ((HB7.out : Row _ _ _ _).keeps hV.out id) HM2.out hpl (show 2 * k + u < 128 by omega)
        rw [htw] at h
        rw [← hE2, show k * 64 + u * 32 = 32 * (2 * k + u) by omega]
        exact h
      have CS2 := Lib.hid cs2
      have CO := Lib.hid co
      have HX2 := Lib.hid hx2
      have HTH := Lib.hid hth
      have HST := Lib.hid hst
      have S1 := Lib.hid p1
      have S3 := Lib.hid p3
      clear cs2 co hx2 htw hpl hq2 p1 p2 p3 hD1 hE2 hth hst HM2 HTW hsl2 HB7 HU
      go_wp2_with fail
      refine wp_region_phase 12 (Later W7) (by kernel_rfl) (by kernel_rfl) (⟨(Keeps.refl _ _).drew⟩) ?_
      simp only [List.take_succ_cons, List.take_zero, List.drop_succ_cons, List.drop_zero]
      refine class_value (by rfl) (.int .i64 (k : Int)) (fun V hV => by go_simp) ?_
      simp only [Act.put, List.setIfInBounds_toArray, List.set_cons_zero, List.set_cons_succ]
      refine class_value (by rfl) (.int .i64 (v : Int)) (fun V hV => by go_simp) ?_
      simp only [Act.put, List.setIfInBounds_toArray, List.set_cons_zero, List.set_cons_succ]
      refine class_value (by rfl) (.int .i64 (u : Int)) (fun V hV => by go_simp) ?_
      simp only [Act.put, List.setIfInBounds_toArray, List.set_cons_zero, List.set_cons_succ]
      refine class_load (by rfl) 23 (.tmp 3) (by rfl) w.heap.size (by rfl) _ X _ _ (fun V hV => HX2.out V hV) Tryd.underlying23 rfl SX.out ?_
      simp only [Act.put, List.setIfInBounds_toArray, List.set_cons_zero, List.set_cons_succ]
      refine class_value (by rfl) (.int .i64 i) (fun V hV => by go_simp) ?_
      simp only [Act.put, List.setIfInBounds_toArray, List.set_cons_zero, List.set_cons_succ]
      refine class_value (by rfl) (.int .i64 (k : Int)) (fun V hV => by go_simp) ?_
      simp only [Act.put, List.setIfInBounds_toArray, List.set_cons_zero, List.set_cons_succ]
      refine class_value (by rfl) (.int .i64 (v : Int)) (fun V hV => by go_simp) ?_
      simp only [Act.put, List.setIfInBounds_toArray, List.set_cons_zero, List.set_cons_succ]
      refine class_value (by rfl) (.int .i64 (u : Int)) (fun V hV => by go_simp) ?_
      simp only [Act.put, List.setIfInBounds_toArray, List.set_cons_zero, List.set_cons_succ]
      refine class_call (by rfl) _ _ (.agg D1) (fun _ => by go_simp) (fun V hV => CS2.out V hV) ?_
      simp only [Act.put, List.setIfInBounds_toArray, List.set_cons_zero, List.set_cons_succ]
      refine class_call (by rfl) _ _ (.agg E2) (fun _ => by go_simp) (fun V hV => CO.out V hV) ?_
      simp only [Act.put, List.setIfInBounds_toArray, List.set_cons_zero, List.set_cons_succ]
      refine class_value (by rfl) (.pointer (some ⟨B, k * 64, none⟩)) (fun V hV => by go_simp) ?_
      simp only [Act.put, List.setIfInBounds_toArray, List.set_cons_zero, List.set_cons_succ]
      refine class_value (by rfl) (.pointer (some ⟨B, k * 64 + u * 32, none⟩)) (fun V hV => by go_simp) ?_
      simp only [Act.put, List.setIfInBounds_toArray, List.set_cons_zero, List.set_cons_succ]
      refine wpQuiet_nil ?_
      intro w8 k8
      go_wp2_with (refine wpList_store_mid rfl 23 (.tmp 36) (.tmp 34) rfl B (k * 64 + u * 32) E2 rfl rfl (HTH.out w8 k8) S1.out S3.out ?_)
      have HB8 := Lib.hid (HST.out w8 k8)
      have HK8 : Hid (Keeps (fun q => q = B) W3 (w8.setCells B (k * 64 + u * 32) E2.toList)) := Lib.hid (Keeps.setCells B _ _ _ (HK7.out.trans' k8.out (fun _ _ h => h.elim)) (fun _ => rfl))
      clear CS2 CO HX2 HTH HST S1 S3 HK7 k8 e1
      go_roundw
      case rel => exact ⟨k + 1, by omega, by go_num, HB8, HK8⟩
      case measure => simp [intOf]; omega
    · obtain rfl : k = 64 := by omega
      rw [show 2 * 64 = 128 by rfl, Lm.mix_all] at HB
      obtain ⟨s1, s2, s3⟩ := sig_arr (Lm.cat f 128) HLE.out
      obtain ⟨Y2, hY2⟩ : ∃ Y, (bvs (Lm.cat f 128)).toArray = Y := ⟨_, rfl⟩
      rw [hY2] at s1 s2 s3
      have RB2 : Hid (wr.heap[B]? = some (.cells Y2 29 (0, 0))) := Lib.hid (by rw [← hY2]; exact HB.out)
      have RC : Hid (wr.heap[c1]? = some (.cells Y 29 (0, 0))) := Lib.hid ((HK.out.block _ (Array.getElem?_eq_some_iff.1 R23.out).1 (by omega)).trans R23.out)
      have K9 := Lib.hid (K3.out.trans' HK.out (fun i hi h => by omega))
      have SY := Lib.hid s1
      have SZ := Lib.hid (HYS.out.trans s2.symm)
      have SO := Lib.hid s3
      have HRR := Lib.hid hY2
      clear s1 s2 s3 hY2 HB HK
      go_wp2_with (first
        | (refine wpList_load_row rfl 29 _ rfl B rfl 29 Y2 (0, 0) _ RB2.out Tryd.underlying29 rfl SY.out ?_)
        | (refine wpList_store_row rfl 29 _ _ rfl c1 Y2 rfl rfl 29 Y RC.out SY.out SZ.out SO.out ?_))
      refine bodyPost_ret (results_cell_row rfl _ _ c1 29 Y2 (0, 0) _ rfl (setRow_heap _ _ _ _ _ _ RC.out) Tryd.underlying29 rfl SY.out) rfl ?_
      exact ⟨by rw [HRR.out], K9.out.trans' (Keeps.setRow c1 Y2) (fun i hi h => by omega)⟩
end Go.Proofs.YtgbajlmcoghofaaDoor
