/-
  What a signature comes to, by the document (assayerref07.From). WRITTEN BY wip/gen/mklbb.py.
-/
import Derived.Test.YtgbajlmcoghofaaDoorLbC
import Derived.Test.YtgbajlmcoghofaaDoorLaG
namespace Go.Proofs.YtgbajlmcoghofaaDoor
open Go.RowKit Go.BigFrame
set_option linter.unusedVariables false

theorem range_keeps {w w' : World} {g o : Nat} {cs : List Value} (h : w.rangeAt g o cs) (hk : Keeps (fun _ => False) w w') : w'.rangeAt g o cs := fun j v hv => by
  have h1 := h j v hv
  exact (hk.cell (World.block_lt_of_cell? w _ h1) id).trans h1
set_option maxRecDepth 100000 in
set_option maxHeartbeats 3000000 in
theorem rfrom_any (h : Nat → List UInt8) (gl c : Nat) (xs : List UInt8) (w : World) (hh : ∀ i, i < 128 → (h i).length = 32) (hxs : xs.length ≤ 5000) (hl : ∀ i, i < 128 → w.rangeAt gl (i * 32) (bvs (h i))) :
    Calls Tryd.prog 15 #[.string (strOf xs), .slice (some ⟨gl, 0, none⟩) 128 c] w fun e w' => e = .returned (.agg (bvs (Sh.sha (Lm.cat (Lm.opens (Sh.sha xs) h) 128))).toArray) ∧ Keeps (fun _ => False) w w' := by
  obtain ⟨Z, hZ⟩ : ∃ Z : Array Value, (bvs (List.replicate 32 0)).toArray = Z := ⟨_, rfl⟩
  have hz : ∀ w : World, (zeroValue 23).run Tryd.prog w = .ok (.agg Z) w := fun w => by rw [← hZ]; exact zero_hash w
  have hzs : Z.size = 32 := by subst hZ; rfl
  obtain ⟨g, hg⟩ : ∃ g, Sh.sha xs = g := ⟨_, rfl⟩
  have hgl : g.length = 32 := by rw [← hg]; exact Sh.sha_length _
  obtain ⟨f, hf⟩ : ∃ f, Lm.opens g h = f := ⟨_, rfl⟩
  have hfl : ∀ j, j < 128 → (f j).length = 32 := fun j hj => by rw [← hf]; exact Lm.opens_length _ _ _ (hh j hj)
  have hown : ∀ k v, v < 2 → Lm.bit g k = v → f (2 * k + v) = Lm.opn (h (2 * k + v)) := fun k v hv hb => by rw [← hf]; exact opens_own g h k v hv hb
  have hoth : ∀ k u, u < 2 → u ≠ Lm.bit g k → f (2 * k + u) = h (2 * k + u) := fun k u hu hb => by rw [← hf]; exact opens_other g h k u hu hb
  have hof0 := fun V => rof_any xs V hxs
  rw [hg] at hof0
  rw [hg, hf]
  obtain ⟨g1, g2, g3⟩ := hash_arr g hgl
  have hval := fun (k : Nat) (V : World) (hk : k < 64) => rvalue_any g k V hgl hk
  obtain ⟨GA, hGA⟩ : ∃ X : Array Value, (bvs g).toArray = X := ⟨_, rfl⟩
  rw [hGA] at hof0 g1 g2 g3 hval
  obtain ⟨st, hst⟩ : ∃ s, strOf xs = s := ⟨_, rfl⟩
  rw [hst] at hof0
  rw [hst]
  have hof : ∀ V, Calls Tryd.prog 21 #[.string (strOf (Lm.cat f 128))] V fun e w' => e = .returned (.agg (bvs (Sh.sha (Lm.cat f 128))).toArray) ∧ Keeps (fun _ => False) V w' := fun V => rof_any _ V (by rw [Lm.cat_length _ _ hfl]; omega)
  obtain ⟨b1, b2, b3⟩ := hash_arr (Sh.sha (Lm.cat f 128)) (Sh.sha_length _)
  obtain ⟨R, hR⟩ : ∃ X : Array Value, (bvs (Sh.sha (Lm.cat f 128))).toArray = X := ⟨_, rfl⟩
  rw [hR] at b1 b2 b3 hof
  rw [hR]
  obtain ⟨c1, hc1⟩ : ∃ c, w.heap.size = c := ⟨_, rfl⟩
  obtain ⟨W1, hW1⟩ : ∃ V, w.alloc (.cells Z 23) = V := ⟨_, rfl⟩
  have k1 : Keeps (fun _ => False) w W1 := by rw [← hW1]; exact (Keeps.refl _ _).alloc _
  have r1 : W1.heap[c1]? = some (.cells Z 23 (0, 0)) := by rw [← hW1, ← hc1]; exact heap_alloc_new w _
  have K1 := Lib.hid k1
  have R1 := Lib.hid r1
  have HOF := Lib.hid (hof0 W1)
  have HO := Lib.hid hof
  have S1 := Lib.hid b1
  have S2 := Lib.hid (hzs.trans b2.symm)
  have S3 := Lib.hid b3
  have G1 := Lib.hid g1
  have G2 := Lib.hid (hzs.trans g2.symm)
  have G3 := Lib.hid g3
  have HZS := Lib.hid hzs
  have HVAL := Lib.hid hval
  have HFL := Lib.hid hfl
  have HHL := Lib.hid hh
  have HOWN := Lib.hid hown
  have HOTH := Lib.hid hoth
  have HL := Lib.hid hl
  obtain ⟨e0, he0⟩ : ∃ s, strOf (Lm.cat f (2 * 0)) = s := ⟨_, rfl⟩
  have he00 : Value.string (ByteArray.mk #[]) = .string e0 := by rw [← he0]; rfl
  have HE0 := Lib.hid he0
  have HE00 := Lib.hid he00
  have hcw : w.heap.size ≤ c1 := by omega
  clear b1 b2 b3 g1 g2 g3 hGA hR hZ hzs k1 r1 hval hfl hown hoth hf hg hgl hof hof0 hst hxs hl hh he0 he00
  go_enter Tryd.func15, Tryd.ntmps15
  go_wp2_with fail
  refine HOF.out.mono ?_
  rintro e w2 ⟨rfl, k2⟩
  obtain ⟨gh, hgh⟩ : ∃ g, w2.heap.size = g := ⟨_, rfl⟩
  obtain ⟨Wa, hWa⟩ : ∃ V, w2.alloc (.cells Z 23) = V := ⟨_, rfl⟩
  obtain ⟨Wb, hWb⟩ : ∃ V, Wa.setRow gh GA = V := ⟨_, rfl⟩
  have ra : Wa.heap[gh]? = some (.cells Z 23 (0, 0)) := by rw [← hWa, ← hgh]; exact heap_alloc_new w2 _
  have rb : Wb.heap[gh]? = some (.cells GA 23 (0, 0)) := by rw [← hWb]; exact setRow_heap _ _ _ _ _ _ ra
  have kab : Keeps (fun _ => False) w2 Wb := by
    have ka : Keeps (fun _ => False) w2 Wa := by rw [← hWa]; exact (Keeps.refl _ _).alloc _
    have kb : Keeps (fun q => q = gh) Wa Wb := by rw [← hWb]; exact Keeps.setRow _ _
    exact ka.trans' kb (fun i hi e => by omega)
  have RB := Lib.hid rb
  have RA := Lib.hid ra
  have KB := Lib.hid ((K1.out.trans k2).trans kab)
  have RC1 := Lib.hid (((k2.trans kab).block _ (Array.getElem?_eq_some_iff.1 R1.out).1 id).trans R1.out)
  clear ra rb kab k2 K1 R1 HOF
  go_wp2_with (refine wpList_store_row rfl 23 _ _ rfl gh GA rfl rfl 23 Z RA.out G1.out G2.out G3.out ?_; rw [hWb])
  clear RA G2 G3 hWa hWb hgh
  go_loopw [6, 7] (fun sv kv wr => ∃ (k : Nat) (s : ByteArray), k ≤ 64 ∧ kv = .int .i64 k ∧ sv = .string s ∧ Hid (strOf (Lm.cat f (2 * k)) = s) ∧ Hid (Keeps (fun _ => False) Wb wr)) (fun _ kv _ => 64 - (intOf kv).toNat)
  case atStart => exact ⟨0, e0, by omega, rfl, HE00.out, HE0, Lib.hid (Keeps.refl _ _)⟩
  case round =>
    obtain ⟨k, sp, hk, rfl, rfl, HS, HK⟩ := hrel
    by_cases hlt : k < 64
    · have hki : (k : Int) < 64 := by omega
      obtain ⟨v, hbv⟩ : ∃ v, Lm.bit g k = v := ⟨_, rfl⟩
      have hlv : v < 2 := by rw [← hbv]; exact Lm.bit_lt _ _
      have hv := HVAL.out k wr hlt
      rw [hbv] at hv
      have HV := Lib.hid hv
      have HBV := Lib.hid hbv
      have RH : Hid (wr.heap[gh]? = some (.cells GA 23 (0, 0))) := Lib.hid ((HK.out.block _ (Array.getElem?_eq_some_iff.1 RB.out).1 id).trans RB.out)
      clear hv hbv
      go_wp2_with (refine wpList_load_row rfl 23 _ rfl gh rfl 23 GA (0, 0) _ RH.out Tryd.underlying23 rfl G1.out ?_)
      refine HV.out.mono ?_
      rintro e w4 ⟨rfl, k4⟩
      have HK4 : Hid (Keeps (fun _ => False) Wb w4) := Lib.hid (HK.out.trans k4)
      clear k4 HK HV RH
      go_wp2_with fail
      go_loopw [6, 9] (fun sv tv wr => ∃ (t j : Nat) (s : ByteArray), t ≤ 2 ∧ Hid (j = 2 * k + t) ∧ tv = .int .i64 t ∧ sv = .string s ∧ Hid (strOf (Lm.cat f j) = s) ∧ Hid (Keeps (fun _ => False) Wb wr)) (fun _ tv _ => 2 - (intOf tv).toNat)
      case atStart => exact ⟨0, 2 * k, sp, by omega, Lib.hid rfl, rfl, rfl, HS, HK4⟩
      case round =>
        clear HS HK4
        obtain ⟨t, j, sj, ht, HJ, rfl, rfl, HSJ, HK⟩ := hrel
        by_cases hlt2 : t < 2
        · have hti : (t : Int) < 2 := by omega
          have hj128 : j ≤ 127 := by have := HJ.out; omega
          have hfj : j = 2 * k + t := HJ.out
          have hnx : Lm.cat f (j + 1) = Lm.cat f j ++ f j := Lm.cat_succ _ _
          obtain ⟨e1, he1⟩ : ∃ e, h (2 * k + t) = e := ⟨_, rfl⟩
          have he1l : e1.length = 32 := by rw [← he1]; exact HHL.out _ (by omega)
          have hm : wr.rangeAt gl ((2 * k + t) * 32) (bvs e1) := by rw [← he1]; exact range_keeps (HL.out _ (by omega)) (KB.out.trans HK.out)
          obtain ⟨x1, x2, x3⟩ := hash_arr e1 he1l
          obtain ⟨ED, hED⟩ : ∃ L, bvs e1 = L := ⟨_, rfl⟩
          rw [hED] at hm x1 x2 x3
          have HM := Lib.hid hm
          have XM : Hid ((Tryd.prog.info? 23).map (·.size) = some ED.length) := Lib.hid (by rw [x1, List.size_toArray])
          have X1 := Lib.hid x1
          have X2 := Lib.hid (HZS.out.trans x2.symm)
          have X3 := Lib.hid x3
          have HE1 := Lib.hid he1
          have HE1L := Lib.hid he1l
          have HED := Lib.hid hED
          have HFJ := Lib.hid hfj
          have HNX' := Lib.hid hnx
          obtain ⟨gx, hgx⟩ : ∃ g, wr.heap.size = g := ⟨_, rfl⟩
          obtain ⟨Wc, hWc⟩ : ∃ V, wr.alloc (.cells Z 23) = V := ⟨_, rfl⟩
          obtain ⟨Wd, hWd⟩ : ∃ V, Wc.setRow gx ED.toArray = V := ⟨_, rfl⟩
          have rc : Wc.heap[gx]? = some (.cells Z 23 (0, 0)) := by rw [← hWc, ← hgx]; exact heap_alloc_new wr _
          have rd : Wd.heap[gx]? = some (.cells ED.toArray 23 (0, 0)) := by rw [← hWd]; exact setRow_heap _ _ _ _ _ _ rc
          have kc : Keeps (fun _ => False) wr Wc := by rw [← hWc]; exact (Keeps.refl _ _).alloc _
          have kd : Keeps (fun q => q = gx) Wc Wd := by rw [← hWd]; exact Keeps.setRow _ _
          have kwd : Keeps (fun _ => False) wr Wd := kc.trans' kd (fun i hi e => by omega)
          have hgxw : wr.heap.size ≤ gx := by omega
          have RC := Lib.hid rc
          have RD := Lib.hid rd
          have KWD := Lib.hid kwd
          clear rc rd kc kd kwd hm x1 x2 x3 he1 he1l hED hfj hnx
          by_cases htv : t = v
          · subst htv
            have hff : f j = Lm.opn e1 := by rw [HFJ.out, HOWN.out k t hlv HBV.out, HE1.out]
            have hop := ropen_any e1 Wd HE1L.out
            have hol := Lm.opn_length e1
            obtain ⟨ef, he2⟩ : ∃ e, Lm.opn e1 = e := ⟨_, rfl⟩
            rw [he2] at hop hff hol
            obtain ⟨y1, y2, y3⟩ := hash_arr ef hol
            obtain ⟨EF, hEF⟩ : ∃ L, bvs ef = L := ⟨_, rfl⟩
            rw [hEF] at y1 y2 y3 hop
            rw [HED.out] at hop
            have HNX : Hid (Lm.cat f (j + 1) = Lm.cat f j ++ ef) := Lib.hid (by rw [HNX'.out, hff])
            have SEF := Lib.hid y1
            have Y2 := Lib.hid ((HZS.out.trans y2.symm))
            have Y3 := Lib.hid y3
            have XY : Hid (ED.toArray.size = EF.toArray.size) := Lib.hid (X2.out.symm.trans Y2.out)
            have HEFE := Lib.hid hEF
            have HEFL := Lib.hid hol
            have HOP := Lib.hid hop
            clear hop hol y1 y2 y3 hEF he2 hff HED
            go_wp2_with (first
              | (refine wpList_load_mid (by rfl) 23 (.tmp 29) (by rfl) gl ((2 * k + t) * 32) (by rfl) ED _ HM.out Tryd.underlying23 rfl XM.out ?_)
              | (refine wpList_store_row rfl 23 _ _ rfl gx ED.toArray rfl rfl 23 Z RC.out X1.out X2.out X3.out ?_; rw [hWd])
              | (refine wpList_load_row rfl 23 _ rfl gx rfl 23 ED.toArray (0, 0) _ RD.out Tryd.underlying23 rfl X1.out ?_))
            refine HOP.out.mono ?_
            rintro e w8' ⟨rfl, k8'⟩
            obtain ⟨w7, hw7⟩ : ∃ V, w8'.setRow gx EF.toArray = V := ⟨_, rfl⟩
            have rd8 : w8'.heap[gx]? = some (.cells ED.toArray 23 (0, 0)) := (k8'.block _ (Array.getElem?_eq_some_iff.1 RD.out).1 id).trans RD.out
            have rx7 : w7.heap[gx]? = some (.cells EF.toArray 23 (0, 0)) := by rw [← hw7]; exact setRow_heap _ _ _ _ _ _ rd8
            have kf7 : Keeps (fun _ => False) wr w7 := by
              have ks : Keeps (fun q => q = gx) w8' w7 := by rw [← hw7]; exact Keeps.setRow _ _
              exact (KWD.out.trans k8').trans' ks (fun i hi e => by omega)
            have RD8 := Lib.hid rd8
            clear k8' rd8 HOP RD RC KWD HOWN HOTH HFJ X1 X2 X3 HM XM
            have hraw := raw_any ef w7 HEFL.out
            have hjoin := fun V => str_join Tryd.prog (Lm.cat f j) ef (by rw [Lm.cat_length _ _ (fun q hq => HFL.out q (by omega))]; omega) (by rw [HEFL.out]; omega) V
            rw [HSJ.out, ← HNX.out] at hjoin
            rw [HEFE.out] at hraw
            obtain ⟨sr, hsr⟩ : ∃ s, strOf ef = s := ⟨_, rfl⟩
            obtain ⟨sn, hsn⟩ : ∃ s, strOf (Lm.cat f (j + 1)) = s := ⟨_, rfl⟩
            rw [hsr] at hraw hjoin
            rw [hsn] at hjoin
            have HRAW := Lib.hid hraw
            have HSN := Lib.hid hsn
            have HK7 : Hid (Keeps (fun _ => False) Wb w7) := Lib.hid (HK.out.trans kf7)
            have RX7 := Lib.hid rx7
            clear hraw hsr hsn kf7 rx7 HK HSJ HNX HEFE HEFL
            go_wp2_with (first
              | (refine wpList_store_row rfl 23 _ _ rfl gx EF.toArray rfl rfl 23 ED.toArray RD8.out SEF.out XY.out Y3.out ?_; rw [hw7])
              | (refine wpList_load_row rfl 23 _ rfl gx rfl 23 EF.toArray (0, 0) _ RX7.out Tryd.underlying23 rfl SEF.out ?_))
            refine HRAW.out.mono ?_
            rintro e w9 ⟨rfl, k9⟩
            have HK9 := Lib.hid (HK7.out.trans k9)
            clear k9 HK7 HRAW RX7 SEF
            go_wp2_with fail
            clear hjoin
            go_roundw
            case rel => exact ⟨t + 1, j + 1, sn, by omega, Lib.hid (by have := HJ.out; omega), by go_num, rfl, HSN, HK9⟩
            case measure => simp [intOf]; omega
          · have htn : ¬ (t : Int) = (v : Int) := by omega
            have htb : ((t : Int) == (v : Int)) = false := by simp; omega
            have hff : f j = e1 := by rw [HFJ.out, HOTH.out k t hlt2 (by rw [HBV.out]; exact htv), HE1.out]
            obtain ⟨ef, he2⟩ : ∃ e, e1 = e := ⟨_, rfl⟩
            rw [he2] at hff HE1L HED
            have HNX : Hid (Lm.cat f (j + 1) = Lm.cat f j ++ ef) := Lib.hid (by rw [HNX'.out, hff])
            have HEFL := HE1L
            obtain ⟨EF, hEF⟩ : ∃ E, ED = E := ⟨_, rfl⟩
            obtain ⟨w7, hw7⟩ : ∃ V, Wd = V := ⟨_, rfl⟩
            have kf7 : Keeps (fun _ => False) wr w7 := by rw [← hw7]; exact KWD.out
            have rx7 : w7.heap[gx]? = some (.cells EF.toArray 23 (0, 0)) := by rw [← hw7, ← hEF]; exact RD.out
            have HEFE : Hid (bvs ef = EF) := Lib.hid (by rw [← hEF]; exact HED.out)
            rw [hEF] at X1 X2 X3 HM XM
            rw [hw7, hEF] at hWd
            have SEF := X1
            clear RD KWD hw7 hEF HED HOWN HOTH HFJ hff he2 HE1
            have hraw := raw_any ef w7 HEFL.out
            have hjoin := fun V => str_join Tryd.prog (Lm.cat f j) ef (by rw [Lm.cat_length _ _ (fun q hq => HFL.out q (by omega))]; omega) (by rw [HEFL.out]; omega) V
            rw [HSJ.out, ← HNX.out] at hjoin
            rw [HEFE.out] at hraw
            obtain ⟨sr, hsr⟩ : ∃ s, strOf ef = s := ⟨_, rfl⟩
            obtain ⟨sn, hsn⟩ : ∃ s, strOf (Lm.cat f (j + 1)) = s := ⟨_, rfl⟩
            rw [hsr] at hraw hjoin
            rw [hsn] at hjoin
            have HRAW := Lib.hid hraw
            have HSN := Lib.hid hsn
            have HK7 : Hid (Keeps (fun _ => False) Wb w7) := Lib.hid (HK.out.trans kf7)
            have RX7 := Lib.hid rx7
            clear hraw hsr hsn kf7 rx7 HK HSJ HNX HEFE HEFL
            go_wp2_with (first
              | (refine wpList_load_mid (by rfl) 23 (.tmp 29) (by rfl) gl ((2 * k + t) * 32) (by rfl) EF _ HM.out Tryd.underlying23 rfl XM.out ?_)
              | (refine wpList_store_row rfl 23 _ _ rfl gx EF.toArray rfl rfl 23 Z RC.out X1.out X2.out X3.out ?_; rw [hWd])
              | (refine wpList_load_row rfl 23 _ rfl gx rfl 23 EF.toArray (0, 0) _ RX7.out Tryd.underlying23 rfl SEF.out ?_))
            refine HRAW.out.mono ?_
            rintro e w9 ⟨rfl, k9⟩
            have HK9 := Lib.hid (HK7.out.trans k9)
            clear k9 HK7 HRAW RX7 SEF
            go_wp2_with fail
            clear hjoin
            go_roundw
            case rel => exact ⟨t + 1, j + 1, sn, by omega, Lib.hid (by have := HJ.out; omega), by go_num, rfl, HSN, HK9⟩
            case measure => simp [intOf]; omega
        · obtain rfl : t = 2 := by omega
          go_wp2
          go_roundw
          case rel => exact ⟨k + 1, sj, by omega, by go_num, rfl, Lib.hid (by have h1 := HSJ.out; rw [HJ.out] at h1; exact h1), HK⟩
          case measure => simp [intOf]; omega
    · obtain rfl : k = 64 := by omega
      have ho := HO.out wr
      have e2 := HS.out
      rw [show 2 * 64 = 128 by rfl] at e2
      rw [e2] at ho
      have HO2 := Lib.hid ho
      have R7 := Lib.hid ((HK.out.block _ (Array.getElem?_eq_some_iff.1 RC1.out).1 id).trans RC1.out)
      have K7 := Lib.hid (KB.out.trans HK.out)
      clear ho e2 HS HK RC1 HO
      go_wp2_with fail
      refine HO2.out.mono ?_
      rintro e w8 ⟨rfl, k8⟩
      have R8 := Lib.hid ((k8.block _ (Array.getElem?_eq_some_iff.1 R7.out).1 id).trans R7.out)
      have K8 := Lib.hid (K7.out.trans k8)
      clear k8 R7 K7 HO2
      go_wp2_with (refine wpList_store_row rfl 23 _ _ rfl c1 R rfl rfl 23 Z R8.out S1.out S2.out S3.out ?_)
      refine bodyPost_ret (results_cell_row rfl _ _ c1 23 R (0, 0) _ rfl (setRow_heap _ _ _ _ _ _ R8.out) Tryd.underlying23 rfl S1.out) rfl ?_
      exact ⟨rfl, K8.out.trans' (Keeps.setRow c1 R) (fun i hi h => by omega)⟩
end Go.Proofs.YtgbajlmcoghofaaDoor
