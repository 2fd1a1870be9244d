/-
  lamport.Public. WRITTEN BY wip/gen/mkla.py.
-/
import Derived.Test.YtgbajlmcoghofaaDoorLaD
import Derived.Test.YtgbajlmcoghofaaDoorWalkR
namespace Go.Proofs.YtgbajlmcoghofaaDoor
open Go.RowKit Go.BigFrame
set_option linter.unusedVariables false

section
variable {P : Program} {ops : Array Oper} {rest : List Oper} {o : Oper} {a : Act} {C : World → Prop} {Q : Act → Prop}
theorem class_call (hw : Region.wanted o (yielded ops a.tmps) = true) (f : FuncId) (args : Array Value) (v : Value) (hrun : ∀ w, (execOp a.eval o).run P w = .ok (.enter f args) w) (hc : ∀ w, C w → Calls P f args w (fun e w' => e = .returned v ∧ C w'))
    (h : wpQuiet P ops C Q rest (a.put o.dst v)) : wpQuiet P ops C Q (o :: rest) a := by
  refine BigFrame.wpQuiet_want hw fun K hK => ⟨v, fun w hw' => ?_, hK _ h⟩
  unfold Oper.quietAt
  rw [hrun w]
  exact ⟨rfl, hc w hw'⟩
end
theorem Keeps.setCells {w : World} {S : Nat → Prop} (b : Nat) : ∀ (vs : List Value) (o : Nat) (V : World), Keeps S w V → (b < w.heap.size → S b) → Keeps S w (V.setCells b o vs)
  | [], _, _, h, _ => h
  | v :: r, o, V, h, hb => by
    rw [World.setCells]
    exact Keeps.setCells b r (o + 1) _ (h.setCell (p := ⟨b, o, none⟩) hb v) hb
def nought (_ : Nat) : List UInt8 := List.replicate 32 0
theorem nought_cats : ∀ n, Lm.cat nought n = List.replicate (32 * n) 0
  | 0 => rfl
  | n + 1 => by rw [Lm.cat_succ, nought_cats n]; unfold nought; rw [List.replicate_append_replicate, Nat.mul_succ]
theorem nought_cat : Lm.cat nought 128 = List.replicate 4096 0 := nought_cats 128
theorem nought_length (i : Nat) : (nought i).length = 32 := List.length_replicate
theorem pubs_at (seed : List UInt8) (i : Int) (k v : Nat) (hv : v < 2) : Lm.pubs seed i (2 * k + v) = Lm.opn (Lm.sec seed i k v) := by
  unfold Lm.pubs
  rw [show (2 * k + v) / 2 = k by omega, show (2 * k + v) % 2 = v by omega]
set_option maxRecDepth 100000 in
set_option maxHeartbeats 2000000 in
theorem public_any (seed : List UInt8) (i : Int) (w : World) (hT : Tabs w) (hs : seed.length = 32) :
    Calls Tryd.prog 12 #[.agg (bvs seed).toArray, .int .i64 i] w fun e w' => e = .returned (.agg (bvs (Lm.pub seed i)).toArray) ∧ Keeps (fun _ => False) w w' := by
  have h0 := hT.lt
  obtain ⟨L, hL⟩ : ∃ L, Lm.cat (Lm.pubs seed i) 128 = L := ⟨_, rfl⟩
  have hLl : L.length = 4096 := by rw [← hL]; exact Lm.cat_length _ 128 (fun _ _ => Lm.pubs_length _ _ _)
  obtain ⟨Z, hZ⟩ : ∃ Z : Array Value, (bvs (List.replicate 32 0)).toArray = Z := ⟨_, rfl⟩
  have hz : ∀ w : World, (zeroValue 23).run Tryd.prog w = .ok (.agg Z) w := fun w => by rw [← hZ]; exact zero_hash w
  have hzs : Z.size = 32 := by subst hZ; rfl
  obtain ⟨Y, hY⟩ : ∃ Y : Array Value, (bvs (List.replicate 4096 0)).toArray = Y := ⟨_, rfl⟩
  have hy : ∀ w : World, (zeroValue 29).run Tryd.prog w = .ok (.agg Y) w := fun w => by rw [← hY]; exact zero_sig w
  obtain ⟨a1, a2, a3⟩ := hash_arr seed hs
  have hsec := fun (k v : Nat) (V : World) (hV : Tabs V) (hk : k < 64) (hv : v < 2) => secret_any seed i k v V hV hs hk hv
  obtain ⟨X, hX⟩ : ∃ X : Array Value, (bvs seed).toArray = X := ⟨_, rfl⟩
  rw [hX] at hsec
  rw [hX]
  rw [hX] at a1 a2 a3
  obtain ⟨W1, hW1⟩ : ∃ W, w.alloc (.cells X 23) = W := ⟨_, rfl⟩
  obtain ⟨W2, hW2⟩ : ∃ W, W1.alloc (.cells Z 23) = W := ⟨_, rfl⟩
  obtain ⟨B, hB⟩ : ∃ b, W2.heap.size = b := ⟨_, rfl⟩
  obtain ⟨c1, hc1⟩ : ∃ c, W1.heap.size = c := ⟨_, rfl⟩
  obtain ⟨W3, hW3⟩ : ∃ W, W2.alloc (.cells Y 29) = W := ⟨_, rfl⟩
  have k1 : Keeps (fun _ => False) w W1 := by rw [← hW1]; exact (Keeps.refl _ _).alloc _
  have k2 : Keeps (fun _ => False) W1 W2 := by rw [← hW2]; exact (Keeps.refl _ _).alloc _
  have k3 : Keeps (fun _ => False) W2 W3 := by rw [← hW3]; exact (Keeps.refl _ _).alloc _
  have r1 : W1.heap[w.heap.size]? = some (.cells X 23 (0, 0)) := by rw [← hW1]; exact heap_alloc_new w _
  have r2 : W2.heap[c1]? = some (.cells Z 23 (0, 0)) := by rw [← hW2, ← hc1]; exact heap_alloc_new W1 _
  have r3 : Row W3 B 29 (bvs (Lm.cat (Lm.mix (Lm.pubs seed i) nought 0) 128)) := by rw [Lm.mix_zero, nought_cat, ← hW3, ← hB]; show _ = some (Obj.cells (bvs _).toArray _ _); rw [hY]; exact heap_alloc_new W2 _
  have b1 : w.heap.size < c1 := by rw [← hc1, ← hW1]; simp
  have b2 : c1 < B := by rw [← hB, ← hW2, ← hc1]; simp
  have b3 : B < W3.heap.size := by rw [← hB, ← hW3]; simp
  have r13 : W3.heap[w.heap.size]? = some (.cells X 23 (0, 0)) := (k3.block _ (by omega) id).trans ((k2.block _ (by omega) id).trans r1)
  have r23 : W3.heap[c1]? = some (.cells Z 23 (0, 0)) := (k3.block _ (by omega) id).trans r2
  have HT3 := Lib.hid (((hT.keeps k1 id id).keeps k2 id id).keeps k3 id id)
  have K3 := Lib.hid ((k1.trans k2).trans k3)
  have R13 := Lib.hid r13
  have R23 := Lib.hid r23
  have RB3 := Lib.hid r3
  have SX := Lib.hid a1
  have HZS := Lib.hid hzs
  have HSEC := Lib.hid hsec
  have HL : Hid (Lm.pub seed i = Sh.sha L) := Lib.hid (by rw [← hL]; rfl)
  have HLL := Lib.hid hL
  have HLE := Lib.hid hLl
  clear r1 r2 r3 r13 r23 a1 a2 a3 hX hZ hY hzs k1 k2 k3 hT hs hsec hL hLl
  go_enter Tryd.func12, Tryd.ntmps12
  go_wp2_with fail
  go_loopw [8] (fun x wr => ∃ k : Nat, k ≤ 64 ∧ x = .int .i64 k ∧ Hid (Row wr B 29 (bvs (Lm.cat (Lm.mix (Lm.pubs seed i) nought (2 * k)) 128))) ∧ Hid (Keeps (fun q => q = B) W3 wr)) (fun x _ => 64 - (intOf x).toNat)
  case atStart => exact ⟨0, by omega, rfl, RB3, Lib.hid (Keeps.refl _ _)⟩
  case round =>
    clear RB3
    obtain ⟨k, hk, rfl, HB, HK⟩ := hrel
    by_cases hlt : k < 64
    · have hki : (k : Int) < 64 := by omega
      go_wp2_with fail
      go_loopw [11] (fun x wr => ∃ v : Nat, v ≤ 2 ∧ x = .int .i64 v ∧ Hid (Row wr B 29 (bvs (Lm.cat (Lm.mix (Lm.pubs seed i) nought (2 * k + v)) 128))) ∧ Hid (Keeps (fun q => q = B) W3 wr)) (fun x _ => 2 - (intOf x).toNat)
      case atStart => exact ⟨0, by omega, rfl, HB, HK⟩
      case round =>
        clear HB HK
        obtain ⟨v, hv, rfl, HB, HK⟩ := hrel
        by_cases hlv : v < 2
        · have hml : ∀ j, j < 128 → (Lm.mix (Lm.pubs seed i) nought (2 * k + v) j).length = 32 := Lm.mix_length (fun _ _ => Lm.pubs_length _ _ _) (fun _ _ => nought_length _)
          have hsl := Lm.sec_length seed i k v
          have hpl := Lm.opn_length (Lm.sec seed i k v)
          have hat := pubs_at seed i k v hlv
          have cs : ∀ V, Later wr V → Calls Tryd.prog 19 #[.agg X, .int .i64 i, .int .i64 k, .int .i64 v] V fun e w' => e = .returned (.agg (bvs (Lm.sec seed i k v)).toArray) ∧ Later wr w' := fun V hV =>
            (HSEC.out k v V ((HT3.out.keeps HK.out (by have := h0; omega) (by have := h0; omega)).keeps hV.out id id) hlt hlv).mono fun e w' h => ⟨h.1, ⟨hV.out.trans h.2⟩⟩
          have co : ∀ V, Later wr V → Calls Tryd.prog 20 #[.agg (bvs (Lm.sec seed i k v)).toArray] V fun e w' => e = .returned (.agg (bvs (Lm.opn (Lm.sec seed i k v))).toArray) ∧ Later wr w' := fun V hV =>
            (openHalf_any _ V ((HT3.out.keeps HK.out (by have := h0; omega) (by have := h0; omega)).keeps hV.out id id) hsl).mono fun e w' h => ⟨h.1, ⟨hV.out.trans h.2⟩⟩
          have hx : ∀ V, Later wr V → V.heap[w.heap.size]? = some (.cells X 23 (0, 0)) := fun V hV => by
            have h1 := (HK.out.block _ (Array.getElem?_eq_some_iff.1 R13.out).1 (by omega)).trans R13.out
            exact (hV.out.block _ (Array.getElem?_eq_some_iff.1 h1).1 id).trans h1
          obtain ⟨q, hq⟩ : ∃ q, Lm.opn (Lm.sec seed i k v) = q := ⟨_, rfl⟩
          rw [hq] at co hpl hat
          obtain ⟨p1, p2, p3⟩ := hash_arr q hpl
          obtain ⟨E1, hE1⟩ : ∃ E, (bvs (Lm.sec seed i k v)).toArray = E := ⟨_, rfl⟩
          obtain ⟨E2, hE2⟩ : ∃ E, (bvs q).toArray = E := ⟨_, rfl⟩
          rw [hE1] at cs co
          rw [hE2] at co p1 p2 p3
          have hth : ∀ V, Later wr V → V.there B (k * 64 + v * 32) E2.size := fun V hV => by
            rw [p2, show k * 64 + v * 32 = 32 * (2 * k + v) by omega]
            exact sig_there ((HB.out : Row _ _ _ _).keeps hV.out id) hml (by omega)
          have hst : ∀ V, Later wr V → Row (V.setCells B (k * 64 + v * 32) E2.toList) B 29 (bvs (Lm.cat (Lm.mix (Lm.pubs seed i) nought (2 * k + v + 1)) 128)) := fun V hV => by
            have h := sig_set ((HB.out : Row _ _ _ _).keeps hV.out id) hml hpl (show 2 * k + v < 128 by omega)
            rw [← hat, Lm.mix_succ, hat] at h
            rw [← hE2, show k * 64 + v * 32 = 32 * (2 * k + v) by omega]
            exact h
          have CS := Lib.hid cs
          have CO := Lib.hid co
          have HX := Lib.hid hx
          have HTH := Lib.hid hth
          have HST := Lib.hid hst
          have S1 := Lib.hid p1
          have S3 := Lib.hid p3
          have hvi : (v : Int) < 2 := by omega
          clear cs co hx hth hst hml hsl hpl hat hq p1 p2 p3 hE1 hE2 HB
          go_wp2_with fail
          refine wp_region_phase 10 (Later wr) (by kernel_rfl) (by kernel_rfl) (⟨(Keeps.refl _ _).drew⟩) ?_
          simp only [List.take_succ_cons, List.take_zero, List.drop_succ_cons, List.drop_zero]
          refine class_value (by rfl) (.int .i64 (k : Int)) (fun V hV => by go_simp) ?_
          simp only [Act.put, List.setIfInBounds_toArray, List.set_cons_zero, List.set_cons_succ]
          refine class_value (by rfl) (.int .i64 (v : Int)) (fun V hV => by go_simp) ?_
          simp only [Act.put, List.setIfInBounds_toArray, List.set_cons_zero, List.set_cons_succ]
          refine class_load (by rfl) 23 (.tmp 2) (by rfl) w.heap.size (by rfl) _ X _ _ (fun V hV => HX.out V hV) Tryd.underlying23 rfl SX.out ?_
          simp only [Act.put, List.setIfInBounds_toArray, List.set_cons_zero, List.set_cons_succ]
          refine class_value (by rfl) (.int .i64 i) (fun V hV => by go_simp) ?_
          simp only [Act.put, List.setIfInBounds_toArray, List.set_cons_zero, List.set_cons_succ]
          refine class_value (by rfl) (.int .i64 (k : Int)) (fun V hV => by go_simp) ?_
          simp only [Act.put, List.setIfInBounds_toArray, List.set_cons_zero, List.set_cons_succ]
          refine class_value (by rfl) (.int .i64 (v : Int)) (fun V hV => by go_simp) ?_
          simp only [Act.put, List.setIfInBounds_toArray, List.set_cons_zero, List.set_cons_succ]
          refine class_call (by rfl) _ _ (.agg E1) (fun _ => by go_simp) (fun V hV => CS.out V hV) ?_
          simp only [Act.put, List.setIfInBounds_toArray, List.set_cons_zero, List.set_cons_succ]
          refine class_call (by rfl) _ _ (.agg E2) (fun _ => by go_simp) (fun V hV => CO.out V hV) ?_
          simp only [Act.put, List.setIfInBounds_toArray, List.set_cons_zero, List.set_cons_succ]
          refine class_value (by rfl) (.pointer (some ⟨B, k * 64, none⟩)) (fun V hV => by go_simp) ?_
          simp only [Act.put, List.setIfInBounds_toArray, List.set_cons_zero, List.set_cons_succ]
          refine class_value (by rfl) (.pointer (some ⟨B, k * 64 + v * 32, none⟩)) (fun V hV => by go_simp) ?_
          simp only [Act.put, List.setIfInBounds_toArray, List.set_cons_zero, List.set_cons_succ]
          refine wpQuiet_nil ?_
          intro w6 k6
          go_wp2_with (refine wpList_store_mid rfl 23 (.tmp 23) (.tmp 21) rfl B (k * 64 + v * 32) E2 rfl rfl (HTH.out w6 k6) S1.out S3.out ?_)
          have HB6 := Lib.hid (HST.out w6 k6)
          have HK6 : Hid (Keeps (fun q => q = B) W3 (w6.setCells B (k * 64 + v * 32) E2.toList)) := Lib.hid (Keeps.setCells B _ _ _ (HK.out.trans' k6.out (fun _ _ h => h.elim)) (fun _ => rfl))
          clear CS CO HX HTH HST S1 S3 HK k6
          go_roundw
          case rel => exact ⟨v + 1, by omega, by go_num, HB6, HK6⟩
          case measure => simp [intOf]; omega
        · obtain rfl : v = 2 := by omega
          rw [show 2 * k + 2 = 2 * (k + 1) by omega] at HB
          go_wp2
          go_roundw
          case rel => exact ⟨k + 1, by omega, by go_num, HB, HK⟩
          case measure => simp [intOf]; omega
    · obtain rfl : k = 64 := by omega
      rw [show 2 * 64 = 128 by rfl, Lm.mix_all, HLL.out] at HB
      obtain ⟨fL, hfl, hfL⟩ : ∃ fL : Nat → List UInt8, (∀ j, j < 128 → (fL j).length = 32) ∧ Lm.cat fL 128 = L := ⟨_, fun _ _ => Lm.pubs_length _ _ _, HLL.out⟩
      have hLl := HLE.out
      obtain ⟨R, hR⟩ : ∃ R, (bvs (Sh.sha L)).toArray = R := ⟨_, rfl⟩
      obtain ⟨b1, b2, b3⟩ := hash_arr (Sh.sha L) (Sh.sha_length _)
      rw [hR] at b1 b2 b3
      obtain ⟨s1, s2, s3⟩ := sig_arr L hLl
      obtain ⟨Y2, hY2⟩ : ∃ Y, (bvs L).toArray = Y := ⟨_, rfl⟩
      rw [hY2] at s1
      have RB2 : Hid (wr.heap[B]? = some (.cells Y2 29 (0, 0))) := Lib.hid (by rw [← hY2]; exact HB.out)
      have SY := Lib.hid s1
      have hj := joined_any fL wr (HT3.out.keeps HK.out (by have := h0; omega) (by have := h0; omega)) hfl
      rw [hfL, hR, hY2] at hj
      have HJ := Lib.hid hj
      have RC := Lib.hid ((HK.out.block _ (Array.getElem?_eq_some_iff.1 R23.out).1 (by omega)).trans R23.out)
      have HSZ := Lib.hid b1
      have HZR := Lib.hid (HZS.out.trans b2.symm)
      have HONE := Lib.hid b3
      have HRR := Lib.hid hR
      have K9 := Lib.hid (K3.out.trans' HK.out (fun i hi h => by omega))
      clear hR b1 b2 b3 s1 s2 s3 hY2 hj hfl hfL hLl HB HK
      go_wp2_with (refine wpList_load_row rfl 29 _ rfl B rfl 29 Y2 (0, 0) _ RB2.out Tryd.underlying29 rfl SY.out ?_)
      refine HJ.out.mono ?_
      rintro e w9 ⟨rfl, k9⟩
      have HO3 : Hid (w9.heap[c1]? = some (.cells Z 23 (0, 0))) := Lib.hid ((k9.block _ (Array.getElem?_eq_some_iff.1 RC.out).1 id).trans RC.out)
      clear RC HJ RB2 SY
      go_wp2_with (refine wpList_store_row rfl 23 _ _ rfl c1 R rfl rfl 23 Z HO3.out HSZ.out HZR.out HONE.out ?_)
      refine bodyPost_ret (results_cell_row rfl _ _ c1 23 R (0, 0) _ rfl (setRow_heap _ _ _ _ _ _ HO3.out) Tryd.underlying23 rfl HSZ.out) rfl ?_
      exact ⟨by rw [HL.out]; exact congrArg _ (congrArg _ HRR.out.symm), (K9.out.trans k9).trans' (Keeps.setRow c1 R) (fun i hi h => by omega)⟩
end Go.Proofs.YtgbajlmcoghofaaDoor
