/-
  lamport's public key of all open halves (joined).
-/
import Derived.Test.YtgbajlmcoghofaaDoorLaC
namespace Go.Proofs.YtgbajlmcoghofaaDoor
open Go.RowKit Go.BigFrame
set_option linter.unusedVariables false

/-- A new block is laid, and filled: what a Writer had put stays. -/
theorem Wr.filled {w w1 w2 : World} {b G : Nat} {r : Option Nat} {xs : List UInt8} {o : Obj} {R : Array Value} (h : Wr w b r xs) (hG : w.heap.size = G) (h1 : w.alloc o = w1) (h2 : w1.setRow G R = w2) : Wr w2 b r xs ∧ Keeps (fun _ => False) w w2 := by
  have k1 : Keeps (fun _ => False) w w1 := by rw [← h1]; exact (Keeps.refl _ _).alloc _
  have k2 : Keeps (fun k => k = G) w1 w2 := by rw [← h2]; exact Keeps.setRow _ _
  have k : Keeps (fun _ => False) w w2 := k1.trans' k2 (fun i hi e => by omega)
  exact ⟨h.keeps k id (fun _ _ => id), k⟩
set_option maxRecDepth 100000 in
set_option maxHeartbeats 2000000 in
theorem joined_any (h : Nat → List UInt8) (w : World) (hT : Tabs w) (hh : ∀ i, i < 128 → (h i).length = 32) :
    Calls Tryd.prog 25 #[.agg (bvs (Lm.cat h 128)).toArray] w fun e w' => e = .returned (.agg (bvs (Sh.sha (Lm.cat h 128))).toArray) ∧ Keeps (fun _ => False) w w' := by
  have h0 := hT.lt
  have hl128 := Lm.cat_length h 128 hh
  have hjs := index_sig h hh
  obtain ⟨Z, hZ⟩ : ∃ Z : Array Value, (bvs (List.replicate 32 0)).toArray = Z := ⟨_, rfl⟩
  have hz : ∀ w : World, (zeroValue 23).run Tryd.prog w = .ok (.agg Z) w := fun w => by rw [← hZ]; exact zero_hash w
  have hzs : Z.size = 32 := by subst hZ; rfl
  obtain ⟨Y, hY⟩ : ∃ Y : Array Value, (bvs (List.replicate 64 0)).toArray = Y := ⟨_, rfl⟩
  have hy : ∀ w : World, (zeroValue 27).run Tryd.prog w = .ok (.agg Y) w := fun w => by rw [← hY]; exact zero_pair w
  have hys : Y.size = 64 := by subst hY; rfl
  obtain ⟨a1, a2, a3⟩ := sig_arr (Lm.cat h 128) hl128
  obtain ⟨X, hX⟩ : ∃ X : Array Value, (bvs (Lm.cat h 128)).toArray = X := ⟨_, rfl⟩
  rw [hX] at hjs
  rw [hX]
  rw [hX] at a1 a2 a3
  obtain ⟨W1, hW1⟩ : ∃ W, w.alloc (.cells X 29) = W := ⟨_, rfl⟩
  obtain ⟨W2, hW2⟩ : ∃ W, W1.alloc (.cells Z 23) = W := ⟨_, rfl⟩
  obtain ⟨b, hb⟩ : ∃ b, W2.heap.size = b := ⟨_, rfl⟩
  obtain ⟨c1, hc1⟩ : ∃ c, W1.heap.size = c := ⟨_, rfl⟩
  obtain ⟨W3, hW3⟩ : ∃ W, W2.alloc (.cells #[.slice none 0 0] 75) = W := ⟨_, rfl⟩
  have k1 : Keeps (fun _ => False) w W1 := by rw [← hW1]; exact (Keeps.refl _ _).alloc _
  have k2 : Keeps (fun _ => False) W1 W2 := by rw [← hW2]; exact (Keeps.refl _ _).alloc _
  have k3 : Keeps (fun _ => False) W2 W3 := by rw [← hW3]; exact (Keeps.refl _ _).alloc _
  have r1 : W1.heap[w.heap.size]? = some (.cells X 29 (0, 0)) := by rw [← hW1]; exact heap_alloc_new w _
  have r2 : W2.heap[c1]? = some (.cells Z 23 (0, 0)) := by rw [← hW2, ← hc1]; exact heap_alloc_new W1 _
  have b1 : w.heap.size < c1 := by rw [← hc1, ← hW1]; simp
  have b2 : c1 < b := by rw [← hb, ← hW2, ← hc1]; simp
  have b3 : b < W3.heap.size := by rw [← hb, ← hW3]; simp
  have wr0 : Wr W3 b none [] := by rw [← hW3, ← hb]; exact newWriter_wr W2
  have r13 : W3.heap[w.heap.size]? = some (.cells X 29 (0, 0)) := (k3.block _ (by omega) id).trans ((k2.block _ (by omega) id).trans r1)
  have r23 : W3.heap[c1]? = some (.cells Z 23 (0, 0)) := (k3.block _ (by omega) id).trans r2
  have HT3 := Lib.hid (((hT.keeps k1 id id).keeps k2 id id).keeps k3 id id)
  have K3 := Lib.hid ((k1.trans k2).trans k3)
  have R13 := Lib.hid r13
  have R23 := Lib.hid r23
  have SX := Lib.hid a1
  have HZS := Lib.hid hzs
  have HYS := Lib.hid hys
  have HHL := Lib.hid hh
  have HJS := Lib.hid hjs
  have HL := Lib.hid hl128
  have HNW : Hid (Calls Tryd.prog 30 #[] W2 fun e w' => e = .returned (.pointer (some ⟨b, 0, none⟩)) ∧ W3 = w') := Lib.hid (by rw [← hb, ← hW3]; exact newWriter_any W2)
  have W0 := Lib.hid wr0
  clear r1 r2 r13 r23 a1 a2 a3 hX hZ hY hzs hys wr0 k1 k2 k3 hT hW3 hb hh hjs hl128
  go_enter Tryd.func25, Tryd.ntmps25
  go_wp2_with fail
  refine HNW.out.mono ?_
  rintro e w' ⟨rfl, rfl⟩
  go_wp2_with (refine wpList_load_row rfl 29 _ rfl w.heap.size rfl 29 X (0, 0) _ R13.out Tryd.underlying29 rfl SX.out ?_)
  go_loopw [10] (fun v wr => ∃ k : Nat, k ≤ 64 ∧ v = .int .i64 k ∧ Hid (∃ r, Wr wr b r (Lm.cat h (2 * k)) ∧ (r = none ∨ ∃ q, W3.heap.size ≤ q ∧ r = some q)) ∧ Keeps (fun q => q = b) W3 wr) (fun v _ => 64 - (intOf v).toNat)
  case atStart => exact ⟨0, by omega, rfl, Lib.hid ⟨none, W0.out, .inl rfl⟩, Keeps.refl _ _⟩
  case round =>
    clear W0
    obtain ⟨k, hk, rfl, HW, hkp⟩ := hrel
    by_cases hlt : k < 64
    · obtain ⟨r, hw, hr⟩ := HW.out
      clear HW
      obtain ⟨PL, hPL⟩ : ∃ L, h (2 * k) ++ h (2 * k + 1) = L := ⟨_, rfl⟩
      have hpl : PL.length = 64 := by rw [← hPL, List.length_append, HHL.out _ (by omega), HHL.out _ (by omega)]
      have hij := HJS.out k hlt
      have hip := fun (j : Nat) (hj : j < 2) (V : World) => index_pair (h (2 * k)) (h (2 * k + 1)) (HHL.out _ (by omega)) (HHL.out _ (by omega)) j hj V
      rw [hPL] at hij hip
      obtain ⟨p1, p2, p3⟩ := pair_arr PL hpl
      obtain ⟨P, hP⟩ : ∃ P, (bvs PL).toArray = P := ⟨_, rfl⟩
      rw [hP] at p1 p2 p3 hij hip
      obtain ⟨G, hG⟩ : ∃ G, wr.heap.size = G := ⟨_, rfl⟩
      obtain ⟨W4, hW4⟩ : ∃ W, wr.alloc (.cells Y 27) = W := ⟨_, rfl⟩
      obtain ⟨W5, hW5⟩ : ∃ W, W4.setRow G P = W := ⟨_, rfl⟩
      have r4 : W4.heap[G]? = some (.cells Y 27 (0, 0)) := by rw [← hW4, ← hG]; exact heap_alloc_new wr _
      have r5 : W5.heap[G]? = some (.cells P 27 (0, 0)) := by rw [← hW5]; exact setRow_heap _ _ _ _ _ _ r4
      obtain ⟨hw5, k5⟩ := hw.filled hG hW4 hW5
      have R4 := Lib.hid r4
      have R5 := Lib.hid r5
      have S1 := Lib.hid p1
      have S2 := Lib.hid (HYS.out.trans p2.symm)
      have S3 := Lib.hid p3
      have HIJ := Lib.hid hij
      have HIP := Lib.hid hip
      have HW5 := Lib.hid hw5
      have K5 := Lib.hid (hkp.trans' k5 (fun _ _ e => e.elim))
      have HR := Lib.hid hr
      clear hw hr hPL hpl hij hip p1 p2 p3 hP r4 r5 hw5 k5 hkp
      go_wp2_with (first
        | (refine wpList_index_run (by rfl) 29 (.tmp 9) (.tmp 10) (by rfl) (.agg X) (.int .i64 (k : Int)) (.agg P) (by rfl) (by rfl) (HIJ.out _) ?_)
        | (refine wpList_store_row rfl 27 _ _ rfl G P rfl rfl 27 Y R4.out S1.out S2.out S3.out ?_; rw [hW5])
        | (refine wpList_load_row rfl 27 _ rfl G rfl 27 P (0, 0) _ R5.out Tryd.underlying27 rfl S1.out ?_))
      clear R4 R5 S1 S2 S3 HIJ hW4 hW5
      go_loopw [14] (fun v wr => ∃ j : Nat, j ≤ 2 ∧ v = .int .i64 j ∧ Hid (∃ r, Wr wr b r (Lm.cat h (2 * k + j)) ∧ (r = none ∨ ∃ q, W3.heap.size ≤ q ∧ r = some q)) ∧ Keeps (fun q => q = b) W3 wr) (fun v _ => 2 - (intOf v).toNat)
      case atStart => exact ⟨0, by omega, rfl, Lib.hid ⟨r, HW5.out, HR.out⟩, K5.out⟩
      case round =>
        clear HW5 HR K5
        obtain ⟨j, hj, rfl, HW, hkp⟩ := hrel
        by_cases hlj : j < 2
        · obtain ⟨r, hw, hr⟩ := HW.out
          clear HW
          have hip := HIP.out j hlj
          have ej : (if j = 0 then h (2 * k) else h (2 * k + 1)) = h (2 * k + j) := by
            have h01 : j = 0 ∨ j = 1 := by omega
            rcases h01 with rfl | rfl
            · rfl
            · rfl
          rw [ej] at hip
          have hql : (h (2 * k + j)).length = 32 := HHL.out _ (by omega)
          have hnext : Lm.cat h (2 * k + (j + 1)) = Lm.cat h (2 * k + j) ++ h (2 * k + j) := by rw [← Nat.add_assoc]; exact Lm.cat_succ _ _
          have hcl : (Lm.cat h (2 * k + j)).length ≤ 5000 := by rw [Lm.cat_length _ _ (fun i hi => HHL.out i (by omega))]; omega
          obtain ⟨q, hq⟩ : ∃ q, h (2 * k + j) = q := ⟨_, rfl⟩
          rw [hq] at hip hql hnext
          obtain ⟨p1, p2, p3⟩ := hash_arr q hql
          obtain ⟨R, hR⟩ : ∃ R, (bvs q).toArray = R := ⟨_, rfl⟩
          rw [hR] at p1 p2 p3 hip
          obtain ⟨F, hF⟩ : ∃ G, wr.heap.size = G := ⟨_, rfl⟩
          obtain ⟨W6, hW6⟩ : ∃ W, wr.alloc (.cells Z 23) = W := ⟨_, rfl⟩
          obtain ⟨W7, hW7⟩ : ∃ W, W6.setRow F R = W := ⟨_, rfl⟩
          have r6 : W6.heap[F]? = some (.cells Z 23 (0, 0)) := by rw [← hW6, ← hF]; exact heap_alloc_new wr _
          have r7 : W7.heap[F]? = some (.cells R 23 (0, 0)) := by rw [← hW7]; exact setRow_heap _ _ _ _ _ _ r6
          obtain ⟨hw7, k7⟩ := hw.filled hF hW6 hW7
          have hh := wrHash_any b r (Lm.cat h (2 * k + j)) q W7 hw7 hql (by omega)
          rw [hR] at hh
          have R6 := Lib.hid r6
          have R7 := Lib.hid r7
          have S1 := Lib.hid p1
          have S2 := Lib.hid (HZS.out.trans p2.symm)
          have S3 := Lib.hid p3
          have HIP2 := Lib.hid hip
          have HH := Lib.hid hh
          have K7 := Lib.hid (hkp.trans' k7 (fun _ _ e => e.elim))
          have HR := Lib.hid hr
          have HN := Lib.hid hnext
          clear hw hr hql hip p1 p2 p3 hR r6 r7 hw7 k7 hkp hh hcl ej hq hnext
          go_wp2_with (first
            | (refine wpList_index_run (by rfl) 27 (.tmp 13) (.tmp 14) (by rfl) (.agg P) (.int .i64 (j : Int)) (.agg R) (by rfl) (by rfl) (HIP2.out _) ?_)
            | (refine wpList_store_row rfl 23 _ _ rfl F R rfl rfl 23 Z R6.out S1.out S2.out S3.out ?_; rw [hW7])
            | (refine wpList_load_row rfl 23 _ rfl F rfl 23 R (0, 0) _ R7.out Tryd.underlying23 rfl S1.out ?_))
          refine HH.out.mono ?_
          rintro e w8 ⟨rfl, q1, hw8, hq8, kk8⟩
          have h8 : Hid (∃ r, Wr w8 b r (Lm.cat h (2 * k + (j + 1))) ∧ (r = none ∨ ∃ q, W3.heap.size ≤ q ∧ r = some q)) := Lib.hid ⟨q1, by rw [HN.out]; exact hw8, by
            rcases hq8 with e | ⟨q, hq, e⟩
            · rw [e]; exact HR.out
            · exact .inr ⟨q, Nat.le_trans K7.out.size hq, e⟩⟩
          have k8 : Hid (Keeps (fun q => q = b) W3 w8) := Lib.hid (K7.out.trans' kk8 (fun i hi e => by
            rcases e with e | e
            · exact e
            · rcases HR.out with hn | ⟨q, hq, hn⟩
              · rw [hn] at e; cases e
              · rw [hn] at e; injection e with e; omega))
          clear hw8 hq8 kk8 HH HR K7 R6 R7 S1 S2 S3 HIP2 HN hW6 hW7
          go_wp2
          go_roundw
          case rel => exact ⟨j + 1, by omega, by go_num, h8, k8.out⟩
          case measure => simp [intOf]; omega
        · obtain rfl : j = 2 := by omega
          rw [show 2 * k + 2 = 2 * (k + 1) by omega] at HW
          go_wp2
          go_roundw
          case rel => exact ⟨k + 1, by omega, by go_num, HW, hkp⟩
          case measure => simp [intOf]; omega
    · obtain rfl : k = 64 := by omega
      obtain ⟨r, hw, hr⟩ := HW.out
      rw [show 2 * 64 = 128 by rfl] at hw
      obtain ⟨ys, hys⟩ : ∃ ys, Lm.cat h 128 = ys := ⟨_, rfl⟩
      have hyl : ys.length = 4096 := by rw [← hys, HL.out]
      rw [hys] at hw
      have HYS' := Lib.hid hys
      have H4 := Lib.hid hw
      have KP := Lib.hid hkp
      clear hw hys HW hkp hr
      go_wp2_with fail
      refine (wrOut_any b r ys _ H4.out (by omega)).mono ?_
      rintro e w8 ⟨A, c, rfl, hown, k8⟩
      rw [hyl] at hown
      rw [hyl]
      obtain ⟨g9, hg9⟩ : ∃ g, w8.heap.size = g := ⟨_, rfl⟩
      obtain ⟨W9, hW9⟩ : ∃ W, w8.alloc (.cells #[.slice A 4096 c] 24) = W := ⟨_, rfl⟩
      have k9 : Keeps (fun _ => False) w8 W9 := by rw [← hW9]; exact (Keeps.refl _ _).alloc _
      have r9 : Row W9 g9 24 [.slice A 4096 c] := by rw [← hW9, ← hg9]; exact heap_alloc_new w8 _
      have k39 : Keeps (fun q => q = b) W3 W9 := (KP.out.trans' k8 (fun _ _ h => h.elim)).trans' k9 (fun _ _ h => h.elim)
      obtain ⟨A', c', hA', hc', hcm, hrow⟩ := RowIn.of_own hown
      obtain ⟨rfl, rfl⟩ : A = A' ∧ c = c' := by injection hA' with e1 _ e2 <;> exact ⟨e1, e2⟩
      have hrows : RowsAt W9 (some ⟨g9, 0, none⟩) [(A, c, ys)] :=
        rowsAt_only (by rw [add_plain]; show _ = some (Value.slice A ys.length c); rw [hyl]; exact r9.cell 0) ((Src.of_own hown).keeps k9 (fun _ _ _ => id)) ⟨by show ys.length ≤ c; rw [hyl]; exact hc', by show c ≤ _; simp only [maxLen] at hcm; omega⟩
      have e : bytesOf [(A, c, ys)] = ys := by simp [bytesOf]
      have hof := of_any _ 1 _ W9 (HT3.out.keeps k39 (by have := h0; omega) (by have := h0; omega)) hrows (by simp) (by rw [e]; omega)
      rw [e] at hof
      have HOF : Hid (Calls Tryd.prog 16 #[.slice (some ⟨g9, 0, none⟩) 1 1] W9 fun e w' => e = .returned (.agg (bvs (Sh.sha ys)).toArray) ∧ Keeps (fun _ => False) W9 w') := hof
      have R29 := Lib.hid ((k39.block _ (Array.getElem?_eq_some_iff.1 R23.out).1 (by omega)).trans R23.out)
      have K9 := Lib.hid (K3.out.trans' k39 (fun i hi h => by omega))
      clear hof e hrows hrow hA' hc' hcm hown k8 k9 r9 k39 H4 R13 R23 hyl KP
      go_wp2_with fail
      refine HOF.out.mono ?_
      rintro e w10 ⟨rfl, k10⟩
      obtain ⟨R, hR⟩ : ∃ R, (bvs (Sh.sha ys)).toArray = R := ⟨_, rfl⟩
      obtain ⟨a1, a2, a3⟩ := hash_arr (Sh.sha ys) (Sh.sha_length _)
      rw [hR] at a1 a2 a3
      rw [hR]
      have HSZ := Lib.hid a1
      have HZR := Lib.hid (HZS.out.trans a2.symm)
      have HONE := Lib.hid a3
      have HO3 : Hid (w10.heap[c1]? = some (.cells Z 23 (0, 0))) := (k10.block _ (Array.getElem?_eq_some_iff.1 R29.out).1 id).trans R29.out
      have HRR := Lib.hid hR
      clear a1 a2 a3 R29 HOF hR
      go_wp2_with (refine wpList_store_row rfl 23 _ _ rfl c1 R rfl rfl 23 Z HO3.out HSZ.out HZR.out HONE.out ?_)
      refine bodyPost_ret (results_cell_row rfl _ _ c1 23 R (0, 0) _ rfl (setRow_heap _ _ _ _ _ _ HO3.out) Tryd.underlying23 rfl HSZ.out) rfl ?_
      exact ⟨by rw [HYS'.out, HRR.out], (K9.out.trans k10).trans' (Keeps.setRow c1 R) (fun i hi h => by omega)⟩
end Go.Proofs.YtgbajlmcoghofaaDoor
