/-
  The law LamportOther walked: whatever halves are exchanged, what a signature comes to is the hash of its halves. WRITTEN BY wip/gen/mklaot.py.
-/
import Derived.Test.YtgbajlmcoghofaaDoorLaTl
import Derived.Test.YtgbajlmcoghofaaDoorLaPr
namespace Go.Proofs.YtgbajlmcoghofaaDoor
open Go.RowKit Go.BigFrame
set_option linter.unusedVariables false

/-- Half v of a pair lies where it should. -/
theorem pair_at {w : World} {g v : Nat} {t : TypeId} {x y : List UInt8} (h : Row w g t (bvs (x ++ y))) (hx : x.length = 32) (hy : y.length = 32) (hv : v < 2) : w.rangeAt g (v * 32) (bvs (if v = 0 then x else y)) := fun j u hu => by
  have h01 : v = 0 ∨ v = 1 := by omega
  rcases h01 with rfl | rfl
  · rw [if_pos rfl] at hu
    rw [Nat.zero_mul, Nat.zero_add, h.cell, ← bvs_append, List.getElem?_append_left (List.getElem?_eq_some_iff.1 hu).1]
    exact hu
  · rw [if_neg (by omega)] at hu
    rw [h.cell, ← bvs_append, List.getElem?_append_right (by rw [bvs_length, hx]; omega), bvs_length, hx, Nat.one_mul, Nat.add_sub_cancel_left]
    exact hu
set_option maxRecDepth 100000 in
set_option maxHeartbeats 1000000 in
theorem lother_long (A : Option Addr) (n c : Nat) (B : Option Addr) (m d : Nat) (k : Int) (W : World) (hT : Tabs W) (hnm : 100 < n ∨ 130 < m) (hmax : n ≤ 9223372036854775807) (hmax2 : m ≤ 9223372036854775807) :
    Calls Tryd.prog 7 #[.slice A n c, .slice B m d, .int .u8 k] W fun e W' => e = .returned (.bool true) ∧ Below W.heap.size W W' := by
  have HAW := Lib.hid (awake7_any W hT)
  clear hT
  by_cases hn : 100 < n
  · clear hnm
    go_enter Tryd.func7, Tryd.ntmps7
    go_wp2_with fail
    refine HAW.out.mono ?_
    rintro e w2 ⟨rfl, k2⟩
    have K2 := Lib.hid k2
    clear k2 HAW
    go_wp2
    go_ret
    exact ⟨rfl, (K2.out).below (Nat.le_refl _) (fun _ _ => id)⟩
  · have hm : 130 < m := by omega
    have hni : ¬ (100 : Int) < n := by omega
    clear hnm
    go_enter Tryd.func7, Tryd.ntmps7
    go_wp2_with fail
    refine HAW.out.mono ?_
    rintro e w2 ⟨rfl, k2⟩
    have K2 := Lib.hid k2
    clear k2 HAW
    go_wp2
    go_ret
    exact ⟨rfl, (K2.out).below (Nat.le_refl _) (fun _ _ => id)⟩
set_option maxRecDepth 100000 in
set_option maxHeartbeats 4000000 in
theorem lother_short (A : Option Addr) (c : Nat) (xs : List UInt8) (B : Option Addr) (m d : Nat) (hs : List (List UInt8)) (kk : Nat) (W : World) (hT : Tabs W) (hsrc : Src W A (bvs xs)) (hn : xs.length ≤ 100) (hc : xs.length ≤ c) (hcm : c ≤ 9223372036854775807) (hH : IsHashes W B m d hs) (hm : m ≤ 130) (hkk : kk ≤ 255) :
    Calls Tryd.prog 7 #[.slice A xs.length c, .slice B m d, .int .u8 (kk : Int)] W fun e W' => e = .returned (.bool true) ∧ Below W.heap.size W W' := by
  have HAW := Lib.hid (awake7_any W hT)
  obtain ⟨g, hg⟩ : ∃ g, Sh.sha xs = g := ⟨_, rfl⟩
  have hgl : g.length = 32 := by rw [← hg]; exact Sh.sha_length _
  obtain ⟨Y, hY⟩ : ∃ Y : Array Value, (bvs (List.replicate 4096 0)).toArray = Y := ⟨_, rfl⟩
  have hy : ∀ w : World, (zeroValue 29).run Tryd.prog w = .ok (.agg Y) w := fun w => by rw [← hY]; exact zero_sig w
  have hys : Y.size = 4096 := by rw [← hY, List.size_toArray, bvs_length, List.length_replicate]
  obtain ⟨YP, hYP⟩ : ∃ Y : Array Value, (bvs (List.replicate 64 0)).toArray = Y := ⟨_, rfl⟩
  have hyp : ∀ w : World, (zeroValue 27).run Tryd.prog w = .ok (.agg YP) w := fun w => by rw [← hYP]; exact zero_pair w
  have hyps : YP.size = 64 := by rw [← hYP, List.size_toArray, bvs_length, List.length_replicate]
  obtain ⟨Z, hZ⟩ : ∃ Z : Array Value, (bvs (List.replicate 32 0)).toArray = Z := ⟨_, rfl⟩
  have hz : ∀ w : World, (zeroValue 23).run Tryd.prog w = .ok (.agg Z) w := fun w => by rw [← hZ]; exact zero_hash w
  have hzs : Z.size = 32 := by subst hZ; rfl
  obtain ⟨hf, hhf⟩ : ∃ f : Nat → List UInt8, (fun j => hs.getD j (List.replicate 32 0)) = f := ⟨_, rfl⟩
  have hfl : ∀ j, (hf j).length = 32 := fun j => by
    rw [← hhf]
    show (hs.getD j (List.replicate 32 0)).length = 32
    rw [List.getD_eq_getElem?_getD]
    cases hq : hs[j]? with
    | none => rfl
    | some x => exact hH.2.2.2.1 x (List.mem_of_getElem? hq)
  have hin : ∀ i, i < m → ∃ b o, B = some ⟨b, o, none⟩ ∧ W.rangeAt b (o + i * 32) (bvs (hf i)) := fun i hi => by
    obtain ⟨b, o, ha, hc⟩ := hH.2.2.2.2 i (by rw [hH.1]; exact hi)
    have e : hf i = hs[i]'(by rw [hH.1]; exact hi) := by
      rw [← hhf]
      show hs.getD i (List.replicate 32 0) = _
      rw [List.getD_eq_getElem?_getD, List.getElem?_eq_getElem (by rw [hH.1]; exact hi)]
      rfl
    refine ⟨b, o, ha, fun j v hv => ?_⟩
    rw [e, bvs_get] at hv
    obtain ⟨c, hc1, rfl⟩ := Option.map_eq_some_iff.1 hv
    have := hc j c hc1
    rwa [← Nat.add_assoc] at this
  have hmd : m ≤ d ∧ d ≤ 9223372036854775807 := ⟨hH.2.1, hH.2.2.1⟩
  obtain ⟨st, hst⟩ : ∃ s, strOf xs = s := ⟨_, rfl⟩
  have cf := fun (h : Nat → List UInt8) V (hh : ∀ j, j < 128 → (h j).length = 32) (hV : Keeps (fun _ => False) W V) => from_at h A c xs V (hT.keeps hV id id) hh (hsrc.keeps hV (fun _ _ _ => id)) hc hcm (by omega)
  have cg := fun V V1 (hV : Keeps (fun _ => False) W V) (hW : V.alloc (.cells #[.slice A xs.length c] 24) = V1) => of_new (hT.keeps hV id id) hW (hsrc.keeps hV (fun _ _ _ => id)) rfl hc hcm (by omega)
  have cv := fun V (hV : Keeps (fun _ => False) W V) => run_string_src (P := Tryd.prog) V 24 9 5 Tryd.underlying24 Tryd.underlying5 Tryd.underlying9 A xs c (hsrc.keeps hV (fun _ _ _ => id))
  have crf := fun (h : Nat → List UInt8) gv cv V (hh : ∀ j, j < 128 → (h j).length = 32) (hV : ∀ i, i < 128 → World.rangeAt V gv (i * 32) (bvs (h i))) => rfrom_any h gv cv xs V hh (by omega) hV
  rw [hg] at cf cg crf
  rw [hst] at cv crf
  obtain ⟨g1, g2, g3⟩ := hash_arr g hgl
  obtain ⟨LG, hLG⟩ : ∃ L, bvs g = L := ⟨_, rfl⟩
  obtain ⟨n, hnn⟩ : ∃ n, xs.length = n := ⟨_, rfl⟩
  rw [hLG] at cg g1 g2 g3
  rw [hnn] at cf cg cv hn hc
  rw [hnn]
  have CFW := Lib.hid cf
  have CGW := Lib.hid cg
  have CVW := Lib.hid cv
  have CRFW := Lib.hid crf
  have HT := Lib.hid hT
  have HFL := Lib.hid hfl
  have HIN := Lib.hid hin
  have HMD := Lib.hid hmd
  have G1 := Lib.hid g1
  have G2 := Lib.hid (hzs.trans g2.symm)
  have G3 := Lib.hid g3
  have HLG := Lib.hid hLG
  have HGL := Lib.hid hgl
  have HYS := Lib.hid hys
  have HYPS := Lib.hid hyps
  have HZS := Lib.hid hzs
  have HYE := Lib.hid hY
  clear cf cg cv crf hT hsrc hH hfl hin hmd g1 g2 g3 hLG hgl hys hyps hzs hY hYP hZ hhf hg hst hnn hc hcm
  go_enter Tryd.func7, Tryd.ntmps7
  go_wp2_with fail
  refine HAW.out.mono ?_
  rintro e w3 ⟨rfl, k3⟩
  obtain ⟨gg, hgg⟩ : ∃ g, w3.heap.size = g := ⟨_, rfl⟩
  obtain ⟨W4, hW4⟩ : ∃ V, w3.alloc (.cells Y 29) = V := ⟨_, rfl⟩
  have hggW : W.heap.size ≤ gg := by rw [← hgg]; exact k3.size
  have r4 : Row W4 gg 29 (bvs (Lm.cat (Lm.mix hf nought 0) 128)) := by rw [Lm.mix_zero, nought_cat, ← hW4, ← hgg]; show _ = some (Obj.cells (bvs _).toArray _ _); rw [HYE.out]; exact heap_alloc_new w3 _
  have k4 : Keeps (fun _ => False) W W4 := k3.trans (by rw [← hW4]; exact (Keeps.refl _ _).alloc _)
  have K4 := Lib.hid k4
  have R4 := Lib.hid r4
  clear k3 k4 r4 HAW HYE
  go_wp2_with fail
  go_loopw [9] (fun x wr => ∃ i : Nat, i ≤ m ∧ i ≤ 128 ∧ x = .int .i64 i ∧ Hid (Row wr gg 29 (bvs (Lm.cat (Lm.mix hf nought i) 128))) ∧ Hid (Keeps (fun _ => False) W wr)) (fun x _ => 128 - (intOf x).toNat)
  case atStart => exact ⟨0, by omega, by omega, rfl, R4, K4⟩
  case round =>
    clear R4 K4
    obtain ⟨i, hi1, hi2, rfl, HB, HK⟩ := hrel
    by_cases hlt : i < m ∧ i < 128
    · obtain ⟨hlm, hl8⟩ := hlt
      have hmi : (i : Int) < m := by omega
      have h8i : (i : Int) < 128 := by omega
      obtain ⟨bs, os, hBe, hm0⟩ := HIN.out i hlm
      subst hBe
      obtain ⟨q, hq⟩ : ∃ q, i / 2 = q := ⟨_, rfl⟩
      obtain ⟨r, hr⟩ : ∃ r, i % 2 = r := ⟨_, rfl⟩
      have hq64 : q < 64 := by omega
      have hr2 : r < 2 := by omega
      have hqi : (q : Int) < 64 := by omega
      have hri : (r : Int) < 2 := by omega
      have e1 : (i : Int) / 2 = (q : Int) := by omega
      have e1' : (i : Int).tdiv 2 = (q : Int) := by rw [Int.tdiv_eq_ediv_of_nonneg (by omega)]; exact e1
      have wq : IntKind.i64.wrap (q : Int) = (q : Int) := IntWalk.i64_in _ (by omega)
      have e2 : (i : Int) % 2 = (r : Int) := by omega
      have e2' : (i : Int).tmod 2 = (r : Int) := by rw [Int.tmod_eq_emod_of_nonneg (by omega)]; exact e2
      have hel := HFL.out i
      have hml : ∀ j, j < 128 → (Lm.mix hf nought i j).length = 32 := Lm.mix_length (fun j _ => HFL.out j) (fun _ _ => nought_length _)
      have hm1 : ∀ V, Later wr V → V.rangeAt bs (os + i * 32) (bvs (hf i)) := fun V hV => range_keeps hm0 (HK.out.trans hV.out)
      obtain ⟨p1, p2, p3⟩ := hash_arr (hf i) hel
      have se : (Tryd.prog.info? 23).map (·.size) = some (bvs (hf i)).length := by rw [bvs_length, hel]; exact size_hash'
      have hoff : q * 64 + r * 32 = 32 * i := by omega
      have hth : ∀ V, Later wr V → V.there gg (q * 64 + r * 32) (bvs (hf i)).toArray.size := fun V hV => by
        rw [p2, hoff]
        exact sig_there ((HB.out : Row _ _ _ _).keeps hV.out id) hml (by omega)
      have hst : ∀ V, Later wr V → Row (V.setCells gg (q * 64 + r * 32) (bvs (hf i)).toArray.toList) gg 29 (bvs (Lm.cat (Lm.mix hf nought (i + 1)) 128)) := fun V hV => by
        have h1 := sig_set ((HB.out : Row _ _ _ _).keeps hV.out id) hml hel (show i < 128 by omega)
        rw [Lm.mix_succ] at h1
        rw [hoff]
        exact h1
      obtain ⟨EL, hEL⟩ : ∃ L, bvs (hf i) = L := ⟨_, rfl⟩
      rw [hEL] at hm1 p1 p3 se hth hst
      have HM := Lib.hid hm1
      have SE := Lib.hid se
      have P1 := Lib.hid p1
      have P3 := Lib.hid p3
      have HTH := Lib.hid hth
      have HST := Lib.hid hst
      clear hm0 hm1 se p1 p2 p3 hth hst hml hel hEL hq hr hoff HB
      go_wp2_with fail
      refine wp_region_phase 10 (Later wr) (by kernel_rfl) (by kernel_rfl) (⟨(Keeps.refl _ _).drew⟩) ?_
      simp only [List.take_succ_cons, List.take_zero, List.drop_succ_cons, List.drop_zero]
      refine class_value (by rfl) (.int .i64 (i : Int)) (fun V hV => by go_simp) ?_
      simp only [Act.put, List.setIfInBounds_toArray, List.set_cons_zero, List.set_cons_succ]
      refine class_value (by rfl) (.int .i64 (q : Int)) (fun V hV => by go_simp) ?_
      simp only [Act.put, List.setIfInBounds_toArray, List.set_cons_zero, List.set_cons_succ]
      refine class_value (by rfl) (.int .i64 (i : Int)) (fun V hV => by go_simp) ?_
      simp only [Act.put, List.setIfInBounds_toArray, List.set_cons_zero, List.set_cons_succ]
      refine class_value (by rfl) (.int .i64 (r : Int)) (fun V hV => by go_simp) ?_
      simp only [Act.put, List.setIfInBounds_toArray, List.set_cons_zero, List.set_cons_succ]
      refine class_value (by rfl) (.slice (some ⟨bs, os, none⟩) m d) (fun V hV => by go_simp) ?_
      simp only [Act.put, List.setIfInBounds_toArray, List.set_cons_zero, List.set_cons_succ]
      refine class_value (by rfl) (.int .i64 (i : Int)) (fun V hV => by go_simp) ?_
      simp only [Act.put, List.setIfInBounds_toArray, List.set_cons_zero, List.set_cons_succ]
      refine class_value (by rfl) (.pointer (some ⟨bs, os + i * 32, none⟩)) (fun V hV => by go_simp) ?_
      simp only [Act.put, List.setIfInBounds_toArray, List.set_cons_zero, List.set_cons_succ]
      refine class_mid (by rfl) 23 (.tmp 44) (by rfl) bs (os + i * 32) (by rfl) EL _ (fun V hV => HM.out V hV) Tryd.underlying23 rfl SE.out ?_
      simp only [Act.put, List.setIfInBounds_toArray, List.set_cons_zero, List.set_cons_succ]
      refine class_value (by rfl) (.pointer (some ⟨gg, q * 64, none⟩)) (fun V hV => by go_simp) ?_
      simp only [Act.put, List.setIfInBounds_toArray, List.set_cons_zero, List.set_cons_succ]
      refine class_value (by rfl) (.pointer (some ⟨gg, q * 64 + r * 32, none⟩)) (fun V hV => by go_simp) ?_
      simp only [Act.put, List.setIfInBounds_toArray, List.set_cons_zero, List.set_cons_succ]
      refine wpQuiet_nil ?_
      intro w6 k6
      go_wp2_with (refine wpList_store_mid rfl 23 (.tmp 47) (.tmp 45) rfl gg (q * 64 + r * 32) EL.toArray rfl rfl (HTH.out w6 k6) P1.out P3.out ?_)
      have HB8 := Lib.hid (HST.out w6 k6)
      have HK8 : Hid (Keeps (fun _ => False) W (w6.setCells gg (q * 64 + r * 32) EL.toArray.toList)) := Lib.hid (Keeps.setCells gg _ _ _ (HK.out.trans k6.out) (fun h => by omega))
      clear HM SE P1 P3 HTH HST HK k6 e1 e1' e2 e2' wq
      go_roundw
      case rel => exact ⟨i + 1, by omega, by omega, by go_num, HB8, HK8⟩
      case measure => simp [intOf]; omega
    · obtain ⟨h0, hh0⟩ : ∃ h, Lm.mix hf nought i = h := ⟨_, rfl⟩
      have h0l : ∀ j, j < 128 → (h0 j).length = 32 := by rw [← hh0]; exact Lm.mix_length (fun j _ => HFL.out j) (fun _ _ => nought_length _)
      rw [hh0] at HB
      by_cases hlm : i < m
      · have h8e : ¬ (i : Int) < 128 := by omega
        have hme : (i : Int) < m := by omega
        obtain ⟨fr1, hfr1⟩ : ∃ p, Sh.sha (Lm.cat (Lm.opens g h0) 128) = p := ⟨_, rfl⟩
        have hfr1l : fr1.length = 32 := by rw [← hfr1]; exact Sh.sha_length _
        obtain ⟨q, hq⟩ : ∃ q, kk % 64 = q := ⟨_, rfl⟩
        have hq64 : q < 64 := by omega
        obtain ⟨v, hbv⟩ : ∃ v, Lm.bit g q = v := ⟨_, rfl⟩
        have hlv : v < 2 := by rw [← hbv]; exact Lm.bit_lt _ _
        obtain ⟨u, hu⟩ : ∃ u, 1 - v = u := ⟨_, rfl⟩
        have hlu : u < 2 := by omega
        obtain ⟨wn, hwn⟩ : ∃ p, Sh.sha (h0 (2 * q + v)) = p := ⟨_, rfl⟩
        have hwnl : wn.length = 32 := by rw [← hwn]; exact Sh.sha_length _
        obtain ⟨h2, hh2⟩ : ∃ h, Lm.ups h0 (2 * q + u) wn = h := ⟨_, rfl⟩
        have h2l : ∀ j, j < 128 → (h2 j).length = 32 := by rw [← hh2]; exact Lm.ups_length h0l hwnl
        obtain ⟨fr2, hfr2⟩ : ∃ p, Sh.sha (Lm.cat (Lm.opens g h2) 128) = p := ⟨_, rfl⟩
        have hfr2l : fr2.length = 32 := by rw [← hfr2]; exact Sh.sha_length _
        have ef1 := fun V => eq_hash fr1 fr1 hfr1l hfr1l V
        have ef2 := fun V => eq_hash fr2 fr2 hfr2l hfr2l V
        simp only [beq_self_eq_true] at ef1 ef2
        have hpl : (h0 (2 * q) ++ h0 (2 * q + 1)).length = 64 := by rw [List.length_append, h0l _ (by omega), h0l _ (by omega)]
        have hol : (h0 (2 * q + v)).length = 32 := h0l _ (by omega)
        have hc0 : (Lm.cat h0 128).length = 4096 := Lm.cat_length _ _ h0l
        have hc2 : (Lm.cat h2 128).length = 4096 := Lm.cat_length _ _ h2l
        have cf1 := CFW.out h0 wr h0l HK.out
        rw [hfr1] at cf1
        obtain ⟨f1, f2, f3⟩ := hash_arr fr1 hfr1l
        obtain ⟨o1, o2, o3⟩ := hash_arr (h0 (2 * q + v)) hol
        obtain ⟨w1, w2, w3'⟩ := hash_arr wn hwnl
        obtain ⟨l1, l2, l3⟩ := sig_arr (Lm.cat h0 128) hc0
        obtain ⟨p1, p2, p3⟩ := pair_arr (h0 (2 * q) ++ h0 (2 * q + 1)) hpl
        have sp0 : (Tryd.prog.info? 27).map (·.size) = some (bvs (h0 (2 * q) ++ h0 (2 * q + 1))).length := by rw [p1, List.size_toArray]
        have so0 : (Tryd.prog.info? 23).map (·.size) = some (bvs (h0 (2 * q + v))).length := by rw [o1, List.size_toArray]
        have sf0 : (Tryd.prog.info? 23).map (·.size) = some (bvs fr1).length := by rw [f1, List.size_toArray]
        have sl0 : (Tryd.prog.info? 29).map (·.size) = some (bvs (Lm.cat h0 128)).length := by rw [l1, List.size_toArray]
        have sl2 : (Tryd.prog.info? 29).map (·.size) = some (bvs (Lm.cat h2 128)).length := by rw [bvs_length, hc2]; exact size_sig
        have mpair : ∀ V, Keeps (fun _ => False) wr V → V.rangeAt gg (q * 64) (bvs (h0 (2 * q) ++ h0 (2 * q + 1))) := fun V hV => by
          have h := sig_two ((HB.out : Row _ _ _ _).keeps hV id) h0l hq64
          rw [show 64 * q = q * 64 by omega] at h
          exact h
        have mopen : ∀ V gp, Row V gp 27 (bvs (h0 (2 * q) ++ h0 (2 * q + 1))) → V.rangeAt gp (v * 32) (bvs (h0 (2 * q + v))) := fun V gp hV => by
          have h := pair_at hV (h0l _ (by omega)) (h0l _ (by omega)) hlv
          have e : (if v = 0 then h0 (2 * q) else h0 (2 * q + 1)) = h0 (2 * q + v) := by
            have h01 : v = 0 ∨ v = 1 := by omega
            rcases h01 with h | h
            · rw [h, if_pos rfl]
              rfl
            · rw [h, if_neg (by omega)]
          rw [e] at h
          exact h
        obtain ⟨F1, hF1⟩ : ∃ L, bvs fr1 = L := ⟨_, rfl⟩
        obtain ⟨OL, hOL⟩ : ∃ L, bvs (h0 (2 * q + v)) = L := ⟨_, rfl⟩
        obtain ⟨WL, hWL⟩ : ∃ L, bvs wn = L := ⟨_, rfl⟩
        obtain ⟨PL, hPL⟩ : ∃ L, bvs (h0 (2 * q) ++ h0 (2 * q + 1)) = L := ⟨_, rfl⟩
        obtain ⟨L0, hL0⟩ : ∃ L, bvs (Lm.cat h0 128) = L := ⟨_, rfl⟩
        obtain ⟨L2, hL2⟩ : ∃ L, bvs (Lm.cat h2 128) = L := ⟨_, rfl⟩
        obtain ⟨F2, hF2⟩ : ∃ L, (bvs fr2).toArray = L := ⟨_, rfl⟩
        rw [hF1] at cf1 ef1 f1 f2 f3 sf0
        rw [hF2] at ef2
        rw [hOL] at o1 o2 o3 so0 mopen
        rw [hWL] at w1 w2 w3'
        rw [hPL] at p1 p2 p3 sp0 mpair mopen
        rw [hL0] at cf1 l1 l2 l3 sl0
        rw [hL2] at sl2
        -- the worlds
        obtain ⟨x, hx⟩ : ∃ x, g[q / 8]? = some x := ⟨_, List.getElem?_eq_getElem (by rw [HGL.out]; omega)⟩
        have bv1 := bit_i64 g q x hx
        rw [hbv] at bv1
        obtain ⟨r8, hr8⟩ : ∃ r, q / 8 = r := ⟨_, rfl⟩
        obtain ⟨s8, hs8⟩ : ∃ r, q % 8 = r := ⟨_, rfl⟩
        rw [hr8] at hx
        rw [hs8] at bv1
        have hr8i : (r8 : Int) < 32 := by omega
        have a1 : (kk : Int) / 8 % 8 = (r8 : Int) := by omega
        have a2 : (kk : Int) % 8 = (s8 : Int) := by omega
        have a3 : (kk : Int) % 64 = (q : Int) := by omega
        have a3' : (kk : Int).tmod 64 = (q : Int) := by rw [Int.tmod_eq_emod_of_nonneg (by omega)]; exact a3
        have s7 : IntKind.u8.wrap (7 - (s8 : Int)) = 7 - (s8 : Int) := by
          simp only [IntKind.wrap, IntKind.signed, IntKind.bits]
          exact Int.emod_eq_of_lt (by omega) (by omega)
        have u7 : IntKind.u64.wrap (7 - (s8 : Int)) = 7 - (s8 : Int) := by
          simp only [IntKind.wrap, IntKind.signed, IntKind.bits]
          exact Int.emod_eq_of_lt (by omega) (by omega)
        have t7 : (7 - (s8 : Int)).toNat = 7 - s8 := by omega
        have l7 : (0 : Int) ≤ 7 - (s8 : Int) := by omega
        have wx : wrap64 ((x.toNat : Int) / 2 ^ (7 - s8)) = (x.toNat : Int) / 2 ^ (7 - s8) := wrap64_byte x _
        have cx0 : (x.toNat : Int) < 256 := by have := x.toNat_lt; omega
        have hvi : (v : Int) < 2 := by omega
        have hui : (u : Int) < 2 := by omega
        have hqi : (q : Int) < 64 := by omega
        have e1 : IntKind.i64.wrap (1 - (v : Int)) = (u : Int) := by rw [IntWalk.i64_in _ (by omega)]; omega
        have HX := Lib.hid hx
        have CF1A := Lib.hid cf1
        have RG := Lib.hid (show wr.heap[gg]? = some (.cells L0.toArray 29 (0, 0)) by rw [← hL0]; exact HB.out)
        have SL := Lib.hid l1
        have FS1 := Lib.hid f1
        have FS2 := Lib.hid (HZS.out.trans f2.symm)
        have FS3 := Lib.hid f3
        have OS1 := Lib.hid o1
        have OS2 := Lib.hid (HZS.out.trans o2.symm)
        have OS3 := Lib.hid o3
        have WS1 := Lib.hid w1
        have WS2 := Lib.hid (HZS.out.trans w2.symm)
        have WS3 := Lib.hid w3'
        have PS1 := Lib.hid p1
        have PS2 := Lib.hid (HYPS.out.trans p2.symm)
        have PS3 := Lib.hid p3
        have LS2 := Lib.hid (HYS.out.trans l2.symm)
        have LS3 := Lib.hid l3
        have SP0 := Lib.hid sp0
        have SO0 := Lib.hid so0
        have SF1 := Lib.hid sf0
        have SL0 := Lib.hid sl0
        have SL2 := Lib.hid sl2
        have EF1 := Lib.hid ef1
        have EF2 := Lib.hid ef2
        have MPAIR := Lib.hid mpair
        have MOPEN := Lib.hid mopen
        have HFR1 := Lib.hid (And.intro hfr1 hF1)
        have HFR2 := Lib.hid (And.intro hfr2 hF2)
        have HWN := Lib.hid (And.intro hwn hwnl)
        have HOLE := Lib.hid (And.intro hOL hol)
        have HWLE := Lib.hid hWL
        have HL0E := Lib.hid hL0
        have HL2E := Lib.hid hL2
        have H0L := Lib.hid h0l
        have H2L := Lib.hid h2l
        have HH2 := Lib.hid hh2
        have HQE := Lib.hid (And.intro hq (And.intro hr8 (And.intro hs8 hu)))
        clear cf1 ef1 ef2 f1 f2 f3 o1 o2 o3 w1 w2 w3' p1 p2 p3 l1 l2 l3 sp0 so0 sf0 sl0 sl2 mpair mopen hfr1 hF1 hfr2 hF2 hwn hwnl hOL hol hWL hL0 hL2 h0l h2l hh2 hpl hc0 hc2 hfr1l hfr2l hPL hx hq hr8 hs8 hu hbv hh0 HB
        go_wp2_with (refine wpList_load_row rfl 29 _ rfl gg rfl 29 L0.toArray (0, 0) _ RG.out Tryd.underlying29 rfl SL.out ?_)
        refine CF1A.out.mono ?_
        rintro e w5 ⟨rfl, k5⟩
        obtain ⟨gx, hgx⟩ : ∃ g, w5.heap.size = g := ⟨_, rfl⟩
        obtain ⟨W6, hW6⟩ : ∃ V, w5.alloc (.cells Z 23) = V := ⟨_, rfl⟩
        obtain ⟨W7, hW7⟩ : ∃ V, W6.setRow gx F1.toArray = V := ⟨_, rfl⟩
        obtain ⟨r6, rx7, k57⟩ := filled hgx hW6 hW7
        obtain ⟨W8, hW8⟩ : ∃ V, W7.alloc (.cells #[.slice A n c] 24) = V := ⟨_, rfl⟩
        have k78 : Keeps (fun _ => False) W7 W8 := by rw [← hW8]; exact (Keeps.refl _ _).alloc _
        have kr7 := k5.trans k57
        have CG8 := Lib.hid (CGW.out W7 W8 (HK.out.trans kr7) hW8)
        have KR8 := Lib.hid (kr7.trans k78)
        have RX8 := Lib.hid ((k78.block _ (Array.getElem?_eq_some_iff.1 rx7).1 id).trans rx7)
        have R6 := Lib.hid r6
        clear r6 rx7 k57 k78 kr7 k5 CF1A
        go_wp2_with (refine wpList_store_row rfl 23 _ _ rfl gx F1.toArray rfl rfl 23 Z R6.out FS1.out FS2.out FS3.out ?_; rw [hW7])
        refine CG8.out.mono ?_
        rintro e w9 ⟨rfl, k9⟩
        obtain ⟨gh, hgh⟩ : ∃ g, w9.heap.size = g := ⟨_, rfl⟩
        obtain ⟨W10, hW10⟩ : ∃ V, w9.alloc (.cells Z 23) = V := ⟨_, rfl⟩
        obtain ⟨W11, hW11⟩ : ∃ V, W10.setRow gh LG.toArray = V := ⟨_, rfl⟩
        obtain ⟨r10, rh11, k911⟩ := filled hgh hW10 hW11
        obtain ⟨gp, hgp⟩ : ∃ g, W11.heap.size = g := ⟨_, rfl⟩
        obtain ⟨W12, hW12⟩ : ∃ V, W11.alloc (.cells YP 27) = V := ⟨_, rfl⟩
        obtain ⟨W13, hW13⟩ : ∃ V, W12.setRow gp PL.toArray = V := ⟨_, rfl⟩
        obtain ⟨r12, rp13, k1113⟩ := filled hgp hW12 hW13
        obtain ⟨go, hgo⟩ : ∃ g, W13.heap.size = g := ⟨_, rfl⟩
        obtain ⟨W14, hW14⟩ : ∃ V, W13.alloc (.cells Z 23) = V := ⟨_, rfl⟩
        obtain ⟨W15, hW15⟩ : ∃ V, W14.setRow go OL.toArray = V := ⟨_, rfl⟩
        obtain ⟨r14, ro15, k1315⟩ := filled hgo hW14 hW15
        obtain ⟨W16, hW16⟩ : ∃ V, W15.alloc (.cells #[.slice (some ⟨go, 0, none⟩) 32 32] 24) = V := ⟨_, rfl⟩
        have k1516 : Keeps (fun _ => False) W15 W16 := by rw [← hW16]; exact (Keeps.refl _ _).alloc _
        have kr11 := (KR8.out.trans k9).trans k911
        have kr15 := (kr11.trans k1113).trans k1315
        have hcell : W11.cell? ⟨gh, r8, none⟩ = some (.int .u8 (x.toNat : Int)) := by rw [cell_of_row W11 gh _ _ _ _ rh11, ← HLG.out, List.getElem?_toArray, bvs_get, HX.out]; rfl
        have CW16 := Lib.hid (of_new (xs := h0 (2 * q + v)) (HT.out.keeps (HK.out.trans kr15) id id) hW16 (by rw [HOLE.out.1]; exact src_block ro15) HOLE.out.2 (Nat.le_refl _) (by omega) (by omega))
        rw [HWN.out.1, HWLE.out] at CW16
        have R10 := Lib.hid r10
        have R12 := Lib.hid r12
        have R14 := Lib.hid r14
        have MP11 := Lib.hid (MPAIR.out W11 kr11)
        have MO13 := Lib.hid (MOPEN.out W13 gp rp13)
        have KR16 := Lib.hid (kr15.trans k1516)
        have RX16 := Lib.hid ((((k9.trans k911).trans (k1113.trans (k1315.trans k1516))).block _ (Array.getElem?_eq_some_iff.1 RX8.out).1 id).trans RX8.out)
        clear r10 rh11 k911 r12 rp13 k1113 r14 ro15 k1315 k1516 kr11 kr15 k9 CG8 KR8 RX8 R6 hW6 hW7 hW8 hgx
        go_wp2_with (first
          | (refine wpList_store_row rfl 23 _ _ rfl gh LG.toArray rfl rfl 23 Z R10.out G1.out G2.out G3.out ?_; rw [hW11])
          | (refine wpList_load_mid (by rfl) 27 (.tmp 68) (by rfl) gg (q * 64) (by rfl) PL _ MP11.out Tryd.underlying27 rfl SP0.out ?_)
          | (refine wpList_store_row rfl 27 _ _ rfl gp PL.toArray rfl rfl 27 YP R12.out PS1.out PS2.out PS3.out ?_; rw [hW13])
          | (refine wpList_load_mid (by rfl) 23 (.tmp 71) (by rfl) gp (v * 32) (by rfl) OL _ MO13.out Tryd.underlying23 rfl SO0.out ?_)
          | (refine wpList_store_row rfl 23 _ _ rfl go OL.toArray rfl rfl 23 Z R14.out OS1.out OS2.out OS3.out ?_; rw [hW15]))
        refine CW16.out.mono ?_
        rintro e w17 ⟨rfl, k17⟩
        obtain ⟨gw, hgw⟩ : ∃ g, w17.heap.size = g := ⟨_, rfl⟩
        obtain ⟨W18, hW18⟩ : ∃ V, w17.alloc (.cells Z 23) = V := ⟨_, rfl⟩
        obtain ⟨W19, hW19⟩ : ∃ V, W18.setRow gw WL.toArray = V := ⟨_, rfl⟩
        obtain ⟨r18, rw19, k1719⟩ := filled hgw hW18 hW19
        obtain ⟨gq, hgq⟩ : ∃ g, W19.heap.size = g := ⟨_, rfl⟩
        obtain ⟨W20, hW20⟩ : ∃ V, W19.alloc (.cells Y 29) = V := ⟨_, rfl⟩
        obtain ⟨Wk, hWk⟩ : ∃ V, W20.setRow gq L0.toArray = V := ⟨_, rfl⟩
        obtain ⟨r20, rqk, k19k⟩ := filled hgq hW20 hWk
        have kr19 := (KR16.out.trans k17).trans k1719
        have krk := kr19.trans k19k
        have RG19 := Lib.hid ((kr19.block _ (Array.getElem?_eq_some_iff.1 RG.out).1 id).trans RG.out)
        have R18 := Lib.hid r18
        have R20 := Lib.hid r20
        have KRK := Lib.hid krk
        have rqk' : Row Wk gq 29 (bvs (Lm.cat h0 128)) := by show Wk.heap[gq]? = _; rw [HL0E.out]; exact rqk
        have hwa : ∀ V, Later Wk V → V.heap[gw]? = some (.cells WL.toArray 23 (0, 0)) := fun V hV => by
          have h1 := (k19k.block _ (Array.getElem?_eq_some_iff.1 rw19).1 id).trans rw19
          exact (hV.out.block _ (Array.getElem?_eq_some_iff.1 h1).1 id).trans h1
        have hoff : q * 64 + u * 32 = 32 * (2 * q + u) := by omega
        have hth : ∀ V, Later Wk V → V.there gq (q * 64 + u * 32) WL.toArray.size := fun V hV => by
          rw [show WL.toArray.size = 32 by rw [List.size_toArray, ← HWLE.out, bvs_length, HWN.out.2], hoff]
          exact sig_there (rqk'.keeps hV.out id) H0L.out (by omega)
        have hst : ∀ V, Later Wk V → Row (V.setCells gq (q * 64 + u * 32) WL.toArray.toList) gq 29 L2 := fun V hV => by
          have h1 := sig_set (x := wn) (rqk'.keeps hV.out id) H0L.out HWN.out.2 (show 2 * q + u < 128 by omega)
          rw [HH2.out, HL2E.out, HWLE.out] at h1
          rw [hoff]
          exact h1
        have rgk : Wk.heap[gg]? = some (.cells L0.toArray 29 (0, 0)) := (k19k.block _ (Array.getElem?_eq_some_iff.1 RG19.out).1 id).trans RG19.out
        have rxk : Wk.heap[gx]? = some (.cells F1.toArray 23 (0, 0)) := (((k17.trans k1719).trans k19k).block _ (Array.getElem?_eq_some_iff.1 RX16.out).1 id).trans RX16.out
        have hggq : gg ≠ gq := by
          have h1 := (Array.getElem?_eq_some_iff.1 RG19.out).1
          omega
        have hgxq : gx ≠ gq := by
          have h1 := (Array.getElem?_eq_some_iff.1 ((((k17.trans k1719)).block _ (Array.getElem?_eq_some_iff.1 RX16.out).1 id).trans RX16.out)).1
          omega
        have hgqr : wr.heap.size ≤ gq := by rw [← hgq]; exact kr19.size
        have HWA := Lib.hid hwa
        have SWA := WS1
        have HTH := Lib.hid hth
        have HST := Lib.hid hst
        have RGK := Lib.hid rgk
        have RXK := Lib.hid rxk
        clear r18 rw19 k1719 r20 rqk k19k kr19 krk k17 rqk' hwa hth hst rgk rxk CW16 KR16 RX16 R10 R12 R14 MP11 MO13 hW10 hW11 hW12 hW13 hW14 hW15 hW16 hgh hgp hgo hcell bv1 wx s7 u7 t7 l7 cx0 a1 a2
        go_wp2_with (first
          | (refine wpList_store_row rfl 23 _ _ rfl gw WL.toArray rfl rfl 23 Z R18.out WS1.out WS2.out WS3.out ?_; rw [hW19])
          | (refine wpList_load_row rfl 29 _ rfl gg rfl 29 L0.toArray (0, 0) _ RG19.out Tryd.underlying29 rfl SL.out ?_)
          | (refine wpList_store_row rfl 29 _ _ rfl gq L0.toArray rfl rfl 29 Y R20.out SL.out LS2.out LS3.out ?_; rw [hWk]))
        refine wp_region_phase 7 (Later Wk) (by kernel_rfl) (by kernel_rfl) (⟨(Keeps.refl _ _).drew⟩) ?_
        simp only [List.take_succ_cons, List.take_zero, List.drop_succ_cons, List.drop_zero]
        refine class_value (by rfl) (.int .u8 (kk : Int)) (fun V hV => by go_simp) ?_
        simp only [Act.put, List.setIfInBounds_toArray, List.set_cons_zero, List.set_cons_succ]
        refine class_value (by rfl) (.int .u8 (q : Int)) (fun V hV => by go_simp) ?_
        simp only [Act.put, List.setIfInBounds_toArray, List.set_cons_zero, List.set_cons_succ]
        refine class_value (by rfl) (.int .i64 (v : Int)) (fun V hV => by go_simp) ?_
        simp only [Act.put, List.setIfInBounds_toArray, List.set_cons_zero, List.set_cons_succ]
        refine class_value (by rfl) (.int .i64 (u : Int)) (fun V hV => by go_simp) ?_
        simp only [Act.put, List.setIfInBounds_toArray, List.set_cons_zero, List.set_cons_succ]
        refine class_load (by rfl) 23 (.tmp 15) (by rfl) gw (by rfl) _ WL.toArray _ _ (fun V hV => HWA.out V hV) Tryd.underlying23 rfl SWA.out ?_
        simp only [Act.put, List.setIfInBounds_toArray, List.set_cons_zero, List.set_cons_succ]
        refine class_value (by rfl) (.pointer (some ⟨gq, q * 64, none⟩)) (fun V hV => by go_simp) ?_
        simp only [Act.put, List.setIfInBounds_toArray, List.set_cons_zero, List.set_cons_succ]
        refine class_value (by rfl) (.pointer (some ⟨gq, q * 64 + u * 32, none⟩)) (fun V hV => by go_simp) ?_
        simp only [Act.put, List.setIfInBounds_toArray, List.set_cons_zero, List.set_cons_succ]
        refine wpQuiet_nil ?_
        intro w6 k6
        obtain ⟨w9, hw9⟩ : ∃ V, w6.setCells gq (q * 64 + u * 32) WL.toArray.toList = V := ⟨_, rfl⟩
        have HTH6 := Lib.hid (HTH.out w6 k6)
        have rl9 : Row w9 gq 29 L2 := by rw [← hw9]; exact HST.out w6 k6
        have kg9 : Keeps (fun b => b = gq) Wk w9 := by rw [← hw9]; exact Keeps.setCells gq _ _ _ (k6.out.mono (fun _ _ h => h.elim)) (fun _ => rfl)
        have rg9 : w9.heap[gg]? = some (.cells L0.toArray 29 (0, 0)) := (kg9.block _ (Array.getElem?_eq_some_iff.1 RGK.out).1 hggq).trans RGK.out
        have rx9 : w9.heap[gx]? = some (.cells F1.toArray 23 (0, 0)) := (kg9.block _ (Array.getElem?_eq_some_iff.1 RXK.out).1 hgxq).trans RXK.out
        have kW9 : Keeps (fun _ => False) W w9 := (HK.out.trans KRK.out).trans' kg9 (fun i hi e => by have := HK.out.size; omega)
        have K9 := Lib.hid kW9
        have HF1 : Hid (∀ V, Keeps (fun _ => False) w9 V → V.rangeAt gx 0 F1) := Lib.hid fun V hV => rangeAt_row ((hV.block _ (Array.getElem?_eq_some_iff.1 rx9).1 id).trans rx9)
        have HL0 : Hid (∀ V, Keeps (fun _ => False) w9 V → V.rangeAt gg 0 L0) := Lib.hid fun V hV => rangeAt_row ((hV.block _ (Array.getElem?_eq_some_iff.1 rg9).1 id).trans rg9)
        have HL2 : Hid (∀ V, Keeps (fun _ => False) w9 V → V.rangeAt gq 0 L2) := Lib.hid fun V hV => rangeAt_row (rl9.keeps hV id)
        have CF2 : Hid (∀ V, Keeps (fun _ => False) w9 V → Calls Tryd.prog 14 #[.slice A n c, .agg L2.toArray] V fun e w' => e = .returned (.agg F2) ∧ Keeps (fun _ => False) V w') := Lib.hid fun V hV => by
          have h := CFW.out h2 V H2L.out (kW9.trans hV)
          rw [HFR2.out.1, HFR2.out.2, HL2E.out] at h
          exact h
        have CV : Hid (∀ V, Keeps (fun _ => False) w9 V → (convert 24 9 (.slice A n c)).run Tryd.prog V = .ok (.string st) V) := Lib.hid fun V hV => CVW.out V (kW9.trans hV)
        have CH1 : Hid (∀ V, Keeps (fun _ => False) w9 V → Calls Tryd.prog 11 #[.agg L0.toArray] V fun e w' => ∃ x : Nat × Nat, e = .returned (.slice (some ⟨x.1, 0, none⟩) 128 x.2) ∧ Keeps (fun _ => False) w9 w' ∧ ∀ i, i < 128 → w'.rangeAt x.1 (i * 32) (bvs (h0 i))) := Lib.hid fun V hV => by
          have h := halves_lie h0 V H0L.out
          rw [HL0E.out] at h
          exact h.mono fun e w' ⟨x, h1, h2, h3⟩ => ⟨x, h1, hV.trans h2, h3⟩
        have CH2 : Hid (∀ V, Keeps (fun _ => False) w9 V → Calls Tryd.prog 11 #[.agg L2.toArray] V fun e w' => ∃ x : Nat × Nat, e = .returned (.slice (some ⟨x.1, 0, none⟩) 128 x.2) ∧ Keeps (fun _ => False) w9 w' ∧ ∀ i, i < 128 → w'.rangeAt x.1 (i * 32) (bvs (h2 i))) := Lib.hid fun V hV => by
          have h := halves_lie h2 V H2L.out
          rw [HL2E.out] at h
          exact h.mono fun e w' ⟨x, h1, h2, h3⟩ => ⟨x, h1, hV.trans h2, h3⟩
        have CRF1 : Hid (∀ gv cv V, Keeps (fun _ => False) w9 V → (∀ i, i < 128 → World.rangeAt V gv (i * 32) (bvs (h0 i))) → Calls Tryd.prog 15 #[.string st, .slice (some ⟨gv, 0, none⟩) 128 cv] V fun e w' => e = .returned (.agg F1.toArray) ∧ Keeps (fun _ => False) w9 w' ∧ True) := Lib.hid fun gv cv V hV hl => by
          have h := CRFW.out h0 gv cv V H0L.out hl
          rw [HFR1.out.1, HFR1.out.2] at h
          exact h.mono fun e w' h => ⟨h.1, hV.trans h.2, trivial⟩
        have CRF2 : Hid (∀ gv cv V, Keeps (fun _ => False) w9 V → (∀ i, i < 128 → World.rangeAt V gv (i * 32) (bvs (h2 i))) → Calls Tryd.prog 15 #[.string st, .slice (some ⟨gv, 0, none⟩) 128 cv] V fun e w' => e = .returned (.agg F2) ∧ Keeps (fun _ => False) w9 w' ∧ True) := Lib.hid fun gv cv V hV hl => by
          have h := CRFW.out h2 gv cv V H2L.out hl
          rw [HFR2.out.1, HFR2.out.2] at h
          exact h.mono fun e w' h => ⟨h.1, hV.trans h.2, trivial⟩
        clear k6 rl9 kg9 rg9 rx9 kW9 HTH HST RGK RXK HK KRK hggq hgxq hgqr hoff HWA a3 a3' e1
        go_wp2_with (refine wpList_store_mid rfl 23 (.tmp 83) (.tmp 81) rfl gq (q * 64 + u * 32) WL.toArray rfl rfl HTH6.out WS1.out WS3.out ?_; rw [hw9])
        refine wp_region_stores 19 [4, 5, 14, 15] [0, 1, 2, 3, 4, 5, 6, 7, 8, 9, 10, 11, 12, 13, 14, 15, 16, 17, 18] (fun V => Keeps (fun _ => False) w9 V) (fun _ => True) (by kernel_rfl) (by kernel_rfl) (fun _ _ h k => h.trans k) (Lasts.true) (((Keeps.refl _ _).drew)) (trivial) ?_
        refine T_load (get_op rfl) (by rfl) (by rfl) 23 (.tmp 10) (by rfl) gx 0 (by rfl) F1 _ (fun V hV => HF1.out V hV) Tryd.underlying23 rfl SF1.out ?_
        simp only [Act.put, List.setIfInBounds_toArray, List.set_cons_zero, List.set_cons_succ]
        refine T_value (get_op rfl) (by rfl) (by rfl) (.slice A n c) (fun _ _ => by go_simp) ?_
        simp only [Act.put, List.setIfInBounds_toArray, List.set_cons_zero, List.set_cons_succ]
        refine T_conv (get_op rfl) (by rfl) (by rfl) 24 9 (.tmp 85) (by rfl) (.slice A n c) (by rfl) (.string st) (fun V hV => CV.out V hV) ?_
        simp only [Act.put, List.setIfInBounds_toArray, List.set_cons_zero, List.set_cons_succ]
        refine T_load (get_op rfl) (by rfl) (by rfl) 29 (.tmp 8) (by rfl) gg 0 (by rfl) L0 _ (fun V hV => HL0.out V hV) Tryd.underlying29 rfl SL0.out ?_
        simp only [Act.put, List.setIfInBounds_toArray, List.set_cons_zero, List.set_cons_succ]
        refine T_enterR (get_op rfl) (by rfl) (by rfl) _ _ (fun x : Nat × Nat => .slice (some ⟨x.1, 0, none⟩) 128 x.2) halfslice_inj (fun _ => by go_simp) (fun x V => ∀ i, i < 128 → V.rangeAt x.1 (i * 32) (bvs (h0 i))) (fun x => lies_lasts h0 x.1) (fun V hb hf => CH1.out V hb) ?_
        rintro ⟨gv, cv⟩
        simp only [Act.put, List.setIfInBounds_toArray, List.set_cons_zero, List.set_cons_succ]
        refine T_enter (get_op rfl) (by rfl) (by rfl) _ _ (.agg F1.toArray) (fun _ => by go_simp) (fun _ => True) Lasts.true (fun V hb hf => CRF1.out gv cv V hb hf) ?_
        simp only [Act.put, List.setIfInBounds_toArray, List.set_cons_zero, List.set_cons_succ]
        refine T_eq (get_op rfl) (by rfl) (by rfl) .eql 23 _ (.tmp 84) (.tmp 89) (by rfl) F1.toArray F1.toArray (by rfl) (by rfl) (by kernel_rfl) (.bool true) (EF1.out) ?_
        simp only [Act.put, List.setIfInBounds_toArray, List.set_cons_zero, List.set_cons_succ]
        refine T_value (get_op rfl) (by rfl) (by rfl) (.bool true) (fun _ _ => by go_simp) ?_
        simp only [Act.put, List.setIfInBounds_toArray, List.set_cons_zero, List.set_cons_succ]
        refine T_value (get_op rfl) (by rfl) (by rfl) (.slice A n c) (fun _ _ => by go_simp) ?_
        simp only [Act.put, List.setIfInBounds_toArray, List.set_cons_zero, List.set_cons_succ]
        refine T_load (get_op rfl) (by rfl) (by rfl) 29 (.tmp 16) (by rfl) gq 0 (by rfl) L2 _ (fun V hV => HL2.out V hV) Tryd.underlying29 rfl SL2.out ?_
        simp only [Act.put, List.setIfInBounds_toArray, List.set_cons_zero, List.set_cons_succ]
        refine T_call (get_op rfl) (by rfl) (by rfl) _ _ (.agg F2) (fun _ => by go_simp) (fun V hV => CF2.out V hV) ?_
        simp only [Act.put, List.setIfInBounds_toArray, List.set_cons_zero, List.set_cons_succ]
        refine T_value (get_op rfl) (by rfl) (by rfl) (.slice A n c) (fun _ _ => by go_simp) ?_
        simp only [Act.put, List.setIfInBounds_toArray, List.set_cons_zero, List.set_cons_succ]
        refine T_conv (get_op rfl) (by rfl) (by rfl) 24 9 (.tmp 95) (by rfl) (.slice A n c) (by rfl) (.string st) (fun V hV => CV.out V hV) ?_
        simp only [Act.put, List.setIfInBounds_toArray, List.set_cons_zero, List.set_cons_succ]
        refine T_load (get_op rfl) (by rfl) (by rfl) 29 (.tmp 16) (by rfl) gq 0 (by rfl) L2 _ (fun V hV => HL2.out V hV) Tryd.underlying29 rfl SL2.out ?_
        simp only [Act.put, List.setIfInBounds_toArray, List.set_cons_zero, List.set_cons_succ]
        refine T_enterR (get_op rfl) (by rfl) (by rfl) _ _ (fun x : Nat × Nat => .slice (some ⟨x.1, 0, none⟩) 128 x.2) halfslice_inj (fun _ => by go_simp) (fun x V => ∀ i, i < 128 → V.rangeAt x.1 (i * 32) (bvs (h2 i))) (fun x => lies_lasts h2 x.1) (fun V hb hf => CH2.out V hb) ?_
        rintro ⟨gu, cu⟩
        simp only [Act.put, List.setIfInBounds_toArray, List.set_cons_zero, List.set_cons_succ]
        refine T_enter (get_op rfl) (by rfl) (by rfl) _ _ (.agg F2) (fun _ => by go_simp) (fun _ => True) Lasts.true (fun V hb hf => CRF2.out gu cu V hb hf) ?_
        simp only [Act.put, List.setIfInBounds_toArray, List.set_cons_zero, List.set_cons_succ]
        refine T_eq (get_op rfl) (by rfl) (by rfl) .eql 23 _ (.tmp 94) (.tmp 99) (by rfl) F2 F2 (by rfl) (by rfl) (by kernel_rfl) (.bool true) (EF2.out) ?_
        simp only [Act.put, List.setIfInBounds_toArray, List.set_cons_zero, List.set_cons_succ]
        refine T_value (get_op rfl) (by rfl) (by rfl) (.bool true) (fun _ _ => by go_simp) ?_
        simp only [Act.put, List.setIfInBounds_toArray, List.set_cons_zero, List.set_cons_succ]
        refine T_value (get_op rfl) (by rfl) (by rfl) (.bool true) (fun _ _ => by go_simp) ?_
        simp only [Act.put, List.setIfInBounds_toArray, List.set_cons_zero, List.set_cons_succ]
        refine T_nil ?_
        intro w10 hb10 _
        have KF := Lib.hid (K9.out.trans hb10)
        clear hb10 K9 HF1 HL0 HL2 CF2 CV CH1 CH2 CRF1 CRF2
        simp only [List.drop_succ_cons, List.drop_zero]
        go_wp2
        go_ret
        exact ⟨rfl, (KF.out).below (Nat.le_refl _) (fun _ _ => id)⟩
      · have hme : ¬ (i : Int) < m := by omega
        obtain ⟨fr1, hfr1⟩ : ∃ p, Sh.sha (Lm.cat (Lm.opens g h0) 128) = p := ⟨_, rfl⟩
        have hfr1l : fr1.length = 32 := by rw [← hfr1]; exact Sh.sha_length _
        obtain ⟨q, hq⟩ : ∃ q, kk % 64 = q := ⟨_, rfl⟩
        have hq64 : q < 64 := by omega
        obtain ⟨v, hbv⟩ : ∃ v, Lm.bit g q = v := ⟨_, rfl⟩
        have hlv : v < 2 := by rw [← hbv]; exact Lm.bit_lt _ _
        obtain ⟨u, hu⟩ : ∃ u, 1 - v = u := ⟨_, rfl⟩
        have hlu : u < 2 := by omega
        obtain ⟨wn, hwn⟩ : ∃ p, Sh.sha (h0 (2 * q + v)) = p := ⟨_, rfl⟩
        have hwnl : wn.length = 32 := by rw [← hwn]; exact Sh.sha_length _
        obtain ⟨h2, hh2⟩ : ∃ h, Lm.ups h0 (2 * q + u) wn = h := ⟨_, rfl⟩
        have h2l : ∀ j, j < 128 → (h2 j).length = 32 := by rw [← hh2]; exact Lm.ups_length h0l hwnl
        obtain ⟨fr2, hfr2⟩ : ∃ p, Sh.sha (Lm.cat (Lm.opens g h2) 128) = p := ⟨_, rfl⟩
        have hfr2l : fr2.length = 32 := by rw [← hfr2]; exact Sh.sha_length _
        have ef1 := fun V => eq_hash fr1 fr1 hfr1l hfr1l V
        have ef2 := fun V => eq_hash fr2 fr2 hfr2l hfr2l V
        simp only [beq_self_eq_true] at ef1 ef2
        have hpl : (h0 (2 * q) ++ h0 (2 * q + 1)).length = 64 := by rw [List.length_append, h0l _ (by omega), h0l _ (by omega)]
        have hol : (h0 (2 * q + v)).length = 32 := h0l _ (by omega)
        have hc0 : (Lm.cat h0 128).length = 4096 := Lm.cat_length _ _ h0l
        have hc2 : (Lm.cat h2 128).length = 4096 := Lm.cat_length _ _ h2l
        have cf1 := CFW.out h0 wr h0l HK.out
        rw [hfr1] at cf1
        obtain ⟨f1, f2, f3⟩ := hash_arr fr1 hfr1l
        obtain ⟨o1, o2, o3⟩ := hash_arr (h0 (2 * q + v)) hol
        obtain ⟨w1, w2, w3'⟩ := hash_arr wn hwnl
        obtain ⟨l1, l2, l3⟩ := sig_arr (Lm.cat h0 128) hc0
        obtain ⟨p1, p2, p3⟩ := pair_arr (h0 (2 * q) ++ h0 (2 * q + 1)) hpl
        have sp0 : (Tryd.prog.info? 27).map (·.size) = some (bvs (h0 (2 * q) ++ h0 (2 * q + 1))).length := by rw [p1, List.size_toArray]
        have so0 : (Tryd.prog.info? 23).map (·.size) = some (bvs (h0 (2 * q + v))).length := by rw [o1, List.size_toArray]
        have sf0 : (Tryd.prog.info? 23).map (·.size) = some (bvs fr1).length := by rw [f1, List.size_toArray]
        have sl0 : (Tryd.prog.info? 29).map (·.size) = some (bvs (Lm.cat h0 128)).length := by rw [l1, List.size_toArray]
        have sl2 : (Tryd.prog.info? 29).map (·.size) = some (bvs (Lm.cat h2 128)).length := by rw [bvs_length, hc2]; exact size_sig
        have mpair : ∀ V, Keeps (fun _ => False) wr V → V.rangeAt gg (q * 64) (bvs (h0 (2 * q) ++ h0 (2 * q + 1))) := fun V hV => by
          have h := sig_two ((HB.out : Row _ _ _ _).keeps hV id) h0l hq64
          rw [show 64 * q = q * 64 by omega] at h
          exact h
        have mopen : ∀ V gp, Row V gp 27 (bvs (h0 (2 * q) ++ h0 (2 * q + 1))) → V.rangeAt gp (v * 32) (bvs (h0 (2 * q + v))) := fun V gp hV => by
          have h := pair_at hV (h0l _ (by omega)) (h0l _ (by omega)) hlv
          have e : (if v = 0 then h0 (2 * q) else h0 (2 * q + 1)) = h0 (2 * q + v) := by
            have h01 : v = 0 ∨ v = 1 := by omega
            rcases h01 with h | h
            · rw [h, if_pos rfl]
              rfl
            · rw [h, if_neg (by omega)]
          rw [e] at h
          exact h
        obtain ⟨F1, hF1⟩ : ∃ L, bvs fr1 = L := ⟨_, rfl⟩
        obtain ⟨OL, hOL⟩ : ∃ L, bvs (h0 (2 * q + v)) = L := ⟨_, rfl⟩
        obtain ⟨WL, hWL⟩ : ∃ L, bvs wn = L := ⟨_, rfl⟩
        obtain ⟨PL, hPL⟩ : ∃ L, bvs (h0 (2 * q) ++ h0 (2 * q + 1)) = L := ⟨_, rfl⟩
        obtain ⟨L0, hL0⟩ : ∃ L, bvs (Lm.cat h0 128) = L := ⟨_, rfl⟩
        obtain ⟨L2, hL2⟩ : ∃ L, bvs (Lm.cat h2 128) = L := ⟨_, rfl⟩
        obtain ⟨F2, hF2⟩ : ∃ L, (bvs fr2).toArray = L := ⟨_, rfl⟩
        rw [hF1] at cf1 ef1 f1 f2 f3 sf0
        rw [hF2] at ef2
        rw [hOL] at o1 o2 o3 so0 mopen
        rw [hWL] at w1 w2 w3'
        rw [hPL] at p1 p2 p3 sp0 mpair mopen
        rw [hL0] at cf1 l1 l2 l3 sl0
        rw [hL2] at sl2
        -- the worlds
        obtain ⟨x, hx⟩ : ∃ x, g[q / 8]? = some x := ⟨_, List.getElem?_eq_getElem (by rw [HGL.out]; omega)⟩
        have bv1 := bit_i64 g q x hx
        rw [hbv] at bv1
        obtain ⟨r8, hr8⟩ : ∃ r, q / 8 = r := ⟨_, rfl⟩
        obtain ⟨s8, hs8⟩ : ∃ r, q % 8 = r := ⟨_, rfl⟩
        rw [hr8] at hx
        rw [hs8] at bv1
        have hr8i : (r8 : Int) < 32 := by omega
        have a1 : (kk : Int) / 8 % 8 = (r8 : Int) := by omega
        have a2 : (kk : Int) % 8 = (s8 : Int) := by omega
        have a3 : (kk : Int) % 64 = (q : Int) := by omega
        have a3' : (kk : Int).tmod 64 = (q : Int) := by rw [Int.tmod_eq_emod_of_nonneg (by omega)]; exact a3
        have s7 : IntKind.u8.wrap (7 - (s8 : Int)) = 7 - (s8 : Int) := by
          simp only [IntKind.wrap, IntKind.signed, IntKind.bits]
          exact Int.emod_eq_of_lt (by omega) (by omega)
        have u7 : IntKind.u64.wrap (7 - (s8 : Int)) = 7 - (s8 : Int) := by
          simp only [IntKind.wrap, IntKind.signed, IntKind.bits]
          exact Int.emod_eq_of_lt (by omega) (by omega)
        have t7 : (7 - (s8 : Int)).toNat = 7 - s8 := by omega
        have l7 : (0 : Int) ≤ 7 - (s8 : Int) := by omega
        have wx : wrap64 ((x.toNat : Int) / 2 ^ (7 - s8)) = (x.toNat : Int) / 2 ^ (7 - s8) := wrap64_byte x _
        have cx0 : (x.toNat : Int) < 256 := by have := x.toNat_lt; omega
        have hvi : (v : Int) < 2 := by omega
        have hui : (u : Int) < 2 := by omega
        have hqi : (q : Int) < 64 := by omega
        have e1 : IntKind.i64.wrap (1 - (v : Int)) = (u : Int) := by rw [IntWalk.i64_in _ (by omega)]; omega
        have HX := Lib.hid hx
        have CF1A := Lib.hid cf1
        have RG := Lib.hid (show wr.heap[gg]? = some (.cells L0.toArray 29 (0, 0)) by rw [← hL0]; exact HB.out)
        have SL := Lib.hid l1
        have FS1 := Lib.hid f1
        have FS2 := Lib.hid (HZS.out.trans f2.symm)
        have FS3 := Lib.hid f3
        have OS1 := Lib.hid o1
        have OS2 := Lib.hid (HZS.out.trans o2.symm)
        have OS3 := Lib.hid o3
        have WS1 := Lib.hid w1
        have WS2 := Lib.hid (HZS.out.trans w2.symm)
        have WS3 := Lib.hid w3'
        have PS1 := Lib.hid p1
        have PS2 := Lib.hid (HYPS.out.trans p2.symm)
        have PS3 := Lib.hid p3
        have LS2 := Lib.hid (HYS.out.trans l2.symm)
        have LS3 := Lib.hid l3
        have SP0 := Lib.hid sp0
        have SO0 := Lib.hid so0
        have SF1 := Lib.hid sf0
        have SL0 := Lib.hid sl0
        have SL2 := Lib.hid sl2
        have EF1 := Lib.hid ef1
        have EF2 := Lib.hid ef2
        have MPAIR := Lib.hid mpair
        have MOPEN := Lib.hid mopen
        have HFR1 := Lib.hid (And.intro hfr1 hF1)
        have HFR2 := Lib.hid (And.intro hfr2 hF2)
        have HWN := Lib.hid (And.intro hwn hwnl)
        have HOLE := Lib.hid (And.intro hOL hol)
        have HWLE := Lib.hid hWL
        have HL0E := Lib.hid hL0
        have HL2E := Lib.hid hL2
        have H0L := Lib.hid h0l
        have H2L := Lib.hid h2l
        have HH2 := Lib.hid hh2
        have HQE := Lib.hid (And.intro hq (And.intro hr8 (And.intro hs8 hu)))
        clear cf1 ef1 ef2 f1 f2 f3 o1 o2 o3 w1 w2 w3' p1 p2 p3 l1 l2 l3 sp0 so0 sf0 sl0 sl2 mpair mopen hfr1 hF1 hfr2 hF2 hwn hwnl hOL hol hWL hL0 hL2 h0l h2l hh2 hpl hc0 hc2 hfr1l hfr2l hPL hx hq hr8 hs8 hu hbv hh0 HB
        go_wp2_with (refine wpList_load_row rfl 29 _ rfl gg rfl 29 L0.toArray (0, 0) _ RG.out Tryd.underlying29 rfl SL.out ?_)
        refine CF1A.out.mono ?_
        rintro e w5 ⟨rfl, k5⟩
        obtain ⟨gx, hgx⟩ : ∃ g, w5.heap.size = g := ⟨_, rfl⟩
        obtain ⟨W6, hW6⟩ : ∃ V, w5.alloc (.cells Z 23) = V := ⟨_, rfl⟩
        obtain ⟨W7, hW7⟩ : ∃ V, W6.setRow gx F1.toArray = V := ⟨_, rfl⟩
        obtain ⟨r6, rx7, k57⟩ := filled hgx hW6 hW7
        obtain ⟨W8, hW8⟩ : ∃ V, W7.alloc (.cells #[.slice A n c] 24) = V := ⟨_, rfl⟩
        have k78 : Keeps (fun _ => False) W7 W8 := by rw [← hW8]; exact (Keeps.refl _ _).alloc _
        have kr7 := k5.trans k57
        have CG8 := Lib.hid (CGW.out W7 W8 (HK.out.trans kr7) hW8)
        have KR8 := Lib.hid (kr7.trans k78)
        have RX8 := Lib.hid ((k78.block _ (Array.getElem?_eq_some_iff.1 rx7).1 id).trans rx7)
        have R6 := Lib.hid r6
        clear r6 rx7 k57 k78 kr7 k5 CF1A
        go_wp2_with (refine wpList_store_row rfl 23 _ _ rfl gx F1.toArray rfl rfl 23 Z R6.out FS1.out FS2.out FS3.out ?_; rw [hW7])
        refine CG8.out.mono ?_
        rintro e w9 ⟨rfl, k9⟩
        obtain ⟨gh, hgh⟩ : ∃ g, w9.heap.size = g := ⟨_, rfl⟩
        obtain ⟨W10, hW10⟩ : ∃ V, w9.alloc (.cells Z 23) = V := ⟨_, rfl⟩
        obtain ⟨W11, hW11⟩ : ∃ V, W10.setRow gh LG.toArray = V := ⟨_, rfl⟩
        obtain ⟨r10, rh11, k911⟩ := filled hgh hW10 hW11
        obtain ⟨gp, hgp⟩ : ∃ g, W11.heap.size = g := ⟨_, rfl⟩
        obtain ⟨W12, hW12⟩ : ∃ V, W11.alloc (.cells YP 27) = V := ⟨_, rfl⟩
        obtain ⟨W13, hW13⟩ : ∃ V, W12.setRow gp PL.toArray = V := ⟨_, rfl⟩
        obtain ⟨r12, rp13, k1113⟩ := filled hgp hW12 hW13
        obtain ⟨go, hgo⟩ : ∃ g, W13.heap.size = g := ⟨_, rfl⟩
        obtain ⟨W14, hW14⟩ : ∃ V, W13.alloc (.cells Z 23) = V := ⟨_, rfl⟩
        obtain ⟨W15, hW15⟩ : ∃ V, W14.setRow go OL.toArray = V := ⟨_, rfl⟩
        obtain ⟨r14, ro15, k1315⟩ := filled hgo hW14 hW15
        obtain ⟨W16, hW16⟩ : ∃ V, W15.alloc (.cells #[.slice (some ⟨go, 0, none⟩) 32 32] 24) = V := ⟨_, rfl⟩
        have k1516 : Keeps (fun _ => False) W15 W16 := by rw [← hW16]; exact (Keeps.refl _ _).alloc _
        have kr11 := (KR8.out.trans k9).trans k911
        have kr15 := (kr11.trans k1113).trans k1315
        have hcell : W11.cell? ⟨gh, r8, none⟩ = some (.int .u8 (x.toNat : Int)) := by rw [cell_of_row W11 gh _ _ _ _ rh11, ← HLG.out, List.getElem?_toArray, bvs_get, HX.out]; rfl
        have CW16 := Lib.hid (of_new (xs := h0 (2 * q + v)) (HT.out.keeps (HK.out.trans kr15) id id) hW16 (by rw [HOLE.out.1]; exact src_block ro15) HOLE.out.2 (Nat.le_refl _) (by omega) (by omega))
        rw [HWN.out.1, HWLE.out] at CW16
        have R10 := Lib.hid r10
        have R12 := Lib.hid r12
        have R14 := Lib.hid r14
        have MP11 := Lib.hid (MPAIR.out W11 kr11)
        have MO13 := Lib.hid (MOPEN.out W13 gp rp13)
        have KR16 := Lib.hid (kr15.trans k1516)
        have RX16 := Lib.hid ((((k9.trans k911).trans (k1113.trans (k1315.trans k1516))).block _ (Array.getElem?_eq_some_iff.1 RX8.out).1 id).trans RX8.out)
        clear r10 rh11 k911 r12 rp13 k1113 r14 ro15 k1315 k1516 kr11 kr15 k9 CG8 KR8 RX8 R6 hW6 hW7 hW8 hgx
        go_wp2_with (first
          | (refine wpList_store_row rfl 23 _ _ rfl gh LG.toArray rfl rfl 23 Z R10.out G1.out G2.out G3.out ?_; rw [hW11])
          | (refine wpList_load_mid (by rfl) 27 (.tmp 68) (by rfl) gg (q * 64) (by rfl) PL _ MP11.out Tryd.underlying27 rfl SP0.out ?_)
          | (refine wpList_store_row rfl 27 _ _ rfl gp PL.toArray rfl rfl 27 YP R12.out PS1.out PS2.out PS3.out ?_; rw [hW13])
          | (refine wpList_load_mid (by rfl) 23 (.tmp 71) (by rfl) gp (v * 32) (by rfl) OL _ MO13.out Tryd.underlying23 rfl SO0.out ?_)
          | (refine wpList_store_row rfl 23 _ _ rfl go OL.toArray rfl rfl 23 Z R14.out OS1.out OS2.out OS3.out ?_; rw [hW15]))
        refine CW16.out.mono ?_
        rintro e w17 ⟨rfl, k17⟩
        obtain ⟨gw, hgw⟩ : ∃ g, w17.heap.size = g := ⟨_, rfl⟩
        obtain ⟨W18, hW18⟩ : ∃ V, w17.alloc (.cells Z 23) = V := ⟨_, rfl⟩
        obtain ⟨W19, hW19⟩ : ∃ V, W18.setRow gw WL.toArray = V := ⟨_, rfl⟩
        obtain ⟨r18, rw19, k1719⟩ := filled hgw hW18 hW19
        obtain ⟨gq, hgq⟩ : ∃ g, W19.heap.size = g := ⟨_, rfl⟩
        obtain ⟨W20, hW20⟩ : ∃ V, W19.alloc (.cells Y 29) = V := ⟨_, rfl⟩
        obtain ⟨Wk, hWk⟩ : ∃ V, W20.setRow gq L0.toArray = V := ⟨_, rfl⟩
        obtain ⟨r20, rqk, k19k⟩ := filled hgq hW20 hWk
        have kr19 := (KR16.out.trans k17).trans k1719
        have krk := kr19.trans k19k
        have RG19 := Lib.hid ((kr19.block _ (Array.getElem?_eq_some_iff.1 RG.out).1 id).trans RG.out)
        have R18 := Lib.hid r18
        have R20 := Lib.hid r20
        have KRK := Lib.hid krk
        have rqk' : Row Wk gq 29 (bvs (Lm.cat h0 128)) := by show Wk.heap[gq]? = _; rw [HL0E.out]; exact rqk
        have hwa : ∀ V, Later Wk V → V.heap[gw]? = some (.cells WL.toArray 23 (0, 0)) := fun V hV => by
          have h1 := (k19k.block _ (Array.getElem?_eq_some_iff.1 rw19).1 id).trans rw19
          exact (hV.out.block _ (Array.getElem?_eq_some_iff.1 h1).1 id).trans h1
        have hoff : q * 64 + u * 32 = 32 * (2 * q + u) := by omega
        have hth : ∀ V, Later Wk V → V.there gq (q * 64 + u * 32) WL.toArray.size := fun V hV => by
          rw [show WL.toArray.size = 32 by rw [List.size_toArray, ← HWLE.out, bvs_length, HWN.out.2], hoff]
          exact sig_there (rqk'.keeps hV.out id) H0L.out (by omega)
        have hst : ∀ V, Later Wk V → Row (V.setCells gq (q * 64 + u * 32) WL.toArray.toList) gq 29 L2 := fun V hV => by
          have h1 := sig_set (x := wn) (rqk'.keeps hV.out id) H0L.out HWN.out.2 (show 2 * q + u < 128 by omega)
          rw [HH2.out, HL2E.out, HWLE.out] at h1
          rw [hoff]
          exact h1
        have rgk : Wk.heap[gg]? = some (.cells L0.toArray 29 (0, 0)) := (k19k.block _ (Array.getElem?_eq_some_iff.1 RG19.out).1 id).trans RG19.out
        have rxk : Wk.heap[gx]? = some (.cells F1.toArray 23 (0, 0)) := (((k17.trans k1719).trans k19k).block _ (Array.getElem?_eq_some_iff.1 RX16.out).1 id).trans RX16.out
        have hggq : gg ≠ gq := by
          have h1 := (Array.getElem?_eq_some_iff.1 RG19.out).1
          omega
        have hgxq : gx ≠ gq := by
          have h1 := (Array.getElem?_eq_some_iff.1 ((((k17.trans k1719)).block _ (Array.getElem?_eq_some_iff.1 RX16.out).1 id).trans RX16.out)).1
          omega
        have hgqr : wr.heap.size ≤ gq := by rw [← hgq]; exact kr19.size
        have HWA := Lib.hid hwa
        have SWA := WS1
        have HTH := Lib.hid hth
        have HST := Lib.hid hst
        have RGK := Lib.hid rgk
        have RXK := Lib.hid rxk
        clear r18 rw19 k1719 r20 rqk k19k kr19 krk k17 rqk' hwa hth hst rgk rxk CW16 KR16 RX16 R10 R12 R14 MP11 MO13 hW10 hW11 hW12 hW13 hW14 hW15 hW16 hgh hgp hgo hcell bv1 wx s7 u7 t7 l7 cx0 a1 a2
        go_wp2_with (first
          | (refine wpList_store_row rfl 23 _ _ rfl gw WL.toArray rfl rfl 23 Z R18.out WS1.out WS2.out WS3.out ?_; rw [hW19])
          | (refine wpList_load_row rfl 29 _ rfl gg rfl 29 L0.toArray (0, 0) _ RG19.out Tryd.underlying29 rfl SL.out ?_)
          | (refine wpList_store_row rfl 29 _ _ rfl gq L0.toArray rfl rfl 29 Y R20.out SL.out LS2.out LS3.out ?_; rw [hWk]))
        refine wp_region_phase 7 (Later Wk) (by kernel_rfl) (by kernel_rfl) (⟨(Keeps.refl _ _).drew⟩) ?_
        simp only [List.take_succ_cons, List.take_zero, List.drop_succ_cons, List.drop_zero]
        refine class_value (by rfl) (.int .u8 (kk : Int)) (fun V hV => by go_simp) ?_
        simp only [Act.put, List.setIfInBounds_toArray, List.set_cons_zero, List.set_cons_succ]
        refine class_value (by rfl) (.int .u8 (q : Int)) (fun V hV => by go_simp) ?_
        simp only [Act.put, List.setIfInBounds_toArray, List.set_cons_zero, List.set_cons_succ]
        refine class_value (by rfl) (.int .i64 (v : Int)) (fun V hV => by go_simp) ?_
        simp only [Act.put, List.setIfInBounds_toArray, List.set_cons_zero, List.set_cons_succ]
        refine class_value (by rfl) (.int .i64 (u : Int)) (fun V hV => by go_simp) ?_
        simp only [Act.put, List.setIfInBounds_toArray, List.set_cons_zero, List.set_cons_succ]
        refine class_load (by rfl) 23 (.tmp 15) (by rfl) gw (by rfl) _ WL.toArray _ _ (fun V hV => HWA.out V hV) Tryd.underlying23 rfl SWA.out ?_
        simp only [Act.put, List.setIfInBounds_toArray, List.set_cons_zero, List.set_cons_succ]
        refine class_value (by rfl) (.pointer (some ⟨gq, q * 64, none⟩)) (fun V hV => by go_simp) ?_
        simp only [Act.put, List.setIfInBounds_toArray, List.set_cons_zero, List.set_cons_succ]
        refine class_value (by rfl) (.pointer (some ⟨gq, q * 64 + u * 32, none⟩)) (fun V hV => by go_simp) ?_
        simp only [Act.put, List.setIfInBounds_toArray, List.set_cons_zero, List.set_cons_succ]
        refine wpQuiet_nil ?_
        intro w6 k6
        obtain ⟨w9, hw9⟩ : ∃ V, w6.setCells gq (q * 64 + u * 32) WL.toArray.toList = V := ⟨_, rfl⟩
        have HTH6 := Lib.hid (HTH.out w6 k6)
        have rl9 : Row w9 gq 29 L2 := by rw [← hw9]; exact HST.out w6 k6
        have kg9 : Keeps (fun b => b = gq) Wk w9 := by rw [← hw9]; exact Keeps.setCells gq _ _ _ (k6.out.mono (fun _ _ h => h.elim)) (fun _ => rfl)
        have rg9 : w9.heap[gg]? = some (.cells L0.toArray 29 (0, 0)) := (kg9.block _ (Array.getElem?_eq_some_iff.1 RGK.out).1 hggq).trans RGK.out
        have rx9 : w9.heap[gx]? = some (.cells F1.toArray 23 (0, 0)) := (kg9.block _ (Array.getElem?_eq_some_iff.1 RXK.out).1 hgxq).trans RXK.out
        have kW9 : Keeps (fun _ => False) W w9 := (HK.out.trans KRK.out).trans' kg9 (fun i hi e => by have := HK.out.size; omega)
        have K9 := Lib.hid kW9
        have HF1 : Hid (∀ V, Keeps (fun _ => False) w9 V → V.rangeAt gx 0 F1) := Lib.hid fun V hV => rangeAt_row ((hV.block _ (Array.getElem?_eq_some_iff.1 rx9).1 id).trans rx9)
        have HL0 : Hid (∀ V, Keeps (fun _ => False) w9 V → V.rangeAt gg 0 L0) := Lib.hid fun V hV => rangeAt_row ((hV.block _ (Array.getElem?_eq_some_iff.1 rg9).1 id).trans rg9)
        have HL2 : Hid (∀ V, Keeps (fun _ => False) w9 V → V.rangeAt gq 0 L2) := Lib.hid fun V hV => rangeAt_row (rl9.keeps hV id)
        have CF2 : Hid (∀ V, Keeps (fun _ => False) w9 V → Calls Tryd.prog 14 #[.slice A n c, .agg L2.toArray] V fun e w' => e = .returned (.agg F2) ∧ Keeps (fun _ => False) V w') := Lib.hid fun V hV => by
          have h := CFW.out h2 V H2L.out (kW9.trans hV)
          rw [HFR2.out.1, HFR2.out.2, HL2E.out] at h
          exact h
        have CV : Hid (∀ V, Keeps (fun _ => False) w9 V → (convert 24 9 (.slice A n c)).run Tryd.prog V = .ok (.string st) V) := Lib.hid fun V hV => CVW.out V (kW9.trans hV)
        have CH1 : Hid (∀ V, Keeps (fun _ => False) w9 V → Calls Tryd.prog 11 #[.agg L0.toArray] V fun e w' => ∃ x : Nat × Nat, e = .returned (.slice (some ⟨x.1, 0, none⟩) 128 x.2) ∧ Keeps (fun _ => False) w9 w' ∧ ∀ i, i < 128 → w'.rangeAt x.1 (i * 32) (bvs (h0 i))) := Lib.hid fun V hV => by
          have h := halves_lie h0 V H0L.out
          rw [HL0E.out] at h
          exact h.mono fun e w' ⟨x, h1, h2, h3⟩ => ⟨x, h1, hV.trans h2, h3⟩
        have CH2 : Hid (∀ V, Keeps (fun _ => False) w9 V → Calls Tryd.prog 11 #[.agg L2.toArray] V fun e w' => ∃ x : Nat × Nat, e = .returned (.slice (some ⟨x.1, 0, none⟩) 128 x.2) ∧ Keeps (fun _ => False) w9 w' ∧ ∀ i, i < 128 → w'.rangeAt x.1 (i * 32) (bvs (h2 i))) := Lib.hid fun V hV => by
          have h := halves_lie h2 V H2L.out
          rw [HL2E.out] at h
          exact h.mono fun e w' ⟨x, h1, h2, h3⟩ => ⟨x, h1, hV.trans h2, h3⟩
        have CRF1 : Hid (∀ gv cv V, Keeps (fun _ => False) w9 V → (∀ i, i < 128 → World.rangeAt V gv (i * 32) (bvs (h0 i))) → Calls Tryd.prog 15 #[.string st, .slice (some ⟨gv, 0, none⟩) 128 cv] V fun e w' => e = .returned (.agg F1.toArray) ∧ Keeps (fun _ => False) w9 w' ∧ True) := Lib.hid fun gv cv V hV hl => by
          have h := CRFW.out h0 gv cv V H0L.out hl
          rw [HFR1.out.1, HFR1.out.2] at h
          exact h.mono fun e w' h => ⟨h.1, hV.trans h.2, trivial⟩
        have CRF2 : Hid (∀ gv cv V, Keeps (fun _ => False) w9 V → (∀ i, i < 128 → World.rangeAt V gv (i * 32) (bvs (h2 i))) → Calls Tryd.prog 15 #[.string st, .slice (some ⟨gv, 0, none⟩) 128 cv] V fun e w' => e = .returned (.agg F2) ∧ Keeps (fun _ => False) w9 w' ∧ True) := Lib.hid fun gv cv V hV hl => by
          have h := CRFW.out h2 gv cv V H2L.out hl
          rw [HFR2.out.1, HFR2.out.2] at h
          exact h.mono fun e w' h => ⟨h.1, hV.trans h.2, trivial⟩
        clear k6 rl9 kg9 rg9 rx9 kW9 HTH HST RGK RXK HK KRK hggq hgxq hgqr hoff HWA a3 a3' e1
        go_wp2_with (refine wpList_store_mid rfl 23 (.tmp 83) (.tmp 81) rfl gq (q * 64 + u * 32) WL.toArray rfl rfl HTH6.out WS1.out WS3.out ?_; rw [hw9])
        refine wp_region_stores 19 [4, 5, 14, 15] [0, 1, 2, 3, 4, 5, 6, 7, 8, 9, 10, 11, 12, 13, 14, 15, 16, 17, 18] (fun V => Keeps (fun _ => False) w9 V) (fun _ => True) (by kernel_rfl) (by kernel_rfl) (fun _ _ h k => h.trans k) (Lasts.true) (((Keeps.refl _ _).drew)) (trivial) ?_
        refine T_load (get_op rfl) (by rfl) (by rfl) 23 (.tmp 10) (by rfl) gx 0 (by rfl) F1 _ (fun V hV => HF1.out V hV) Tryd.underlying23 rfl SF1.out ?_
        simp only [Act.put, List.setIfInBounds_toArray, List.set_cons_zero, List.set_cons_succ]
        refine T_value (get_op rfl) (by rfl) (by rfl) (.slice A n c) (fun _ _ => by go_simp) ?_
        simp only [Act.put, List.setIfInBounds_toArray, List.set_cons_zero, List.set_cons_succ]
        refine T_conv (get_op rfl) (by rfl) (by rfl) 24 9 (.tmp 85) (by rfl) (.slice A n c) (by rfl) (.string st) (fun V hV => CV.out V hV) ?_
        simp only [Act.put, List.setIfInBounds_toArray, List.set_cons_zero, List.set_cons_succ]
        refine T_load (get_op rfl) (by rfl) (by rfl) 29 (.tmp 8) (by rfl) gg 0 (by rfl) L0 _ (fun V hV => HL0.out V hV) Tryd.underlying29 rfl SL0.out ?_
        simp only [Act.put, List.setIfInBounds_toArray, List.set_cons_zero, List.set_cons_succ]
        refine T_enterR (get_op rfl) (by rfl) (by rfl) _ _ (fun x : Nat × Nat => .slice (some ⟨x.1, 0, none⟩) 128 x.2) halfslice_inj (fun _ => by go_simp) (fun x V => ∀ i, i < 128 → V.rangeAt x.1 (i * 32) (bvs (h0 i))) (fun x => lies_lasts h0 x.1) (fun V hb hf => CH1.out V hb) ?_
        rintro ⟨gv, cv⟩
        simp only [Act.put, List.setIfInBounds_toArray, List.set_cons_zero, List.set_cons_succ]
        refine T_enter (get_op rfl) (by rfl) (by rfl) _ _ (.agg F1.toArray) (fun _ => by go_simp) (fun _ => True) Lasts.true (fun V hb hf => CRF1.out gv cv V hb hf) ?_
        simp only [Act.put, List.setIfInBounds_toArray, List.set_cons_zero, List.set_cons_succ]
        refine T_eq (get_op rfl) (by rfl) (by rfl) .eql 23 _ (.tmp 84) (.tmp 89) (by rfl) F1.toArray F1.toArray (by rfl) (by rfl) (by kernel_rfl) (.bool true) (EF1.out) ?_
        simp only [Act.put, List.setIfInBounds_toArray, List.set_cons_zero, List.set_cons_succ]
        refine T_value (get_op rfl) (by rfl) (by rfl) (.bool true) (fun _ _ => by go_simp) ?_
        simp only [Act.put, List.setIfInBounds_toArray, List.set_cons_zero, List.set_cons_succ]
        refine T_value (get_op rfl) (by rfl) (by rfl) (.slice A n c) (fun _ _ => by go_simp) ?_
        simp only [Act.put, List.setIfInBounds_toArray, List.set_cons_zero, List.set_cons_succ]
        refine T_load (get_op rfl) (by rfl) (by rfl) 29 (.tmp 16) (by rfl) gq 0 (by rfl) L2 _ (fun V hV => HL2.out V hV) Tryd.underlying29 rfl SL2.out ?_
        simp only [Act.put, List.setIfInBounds_toArray, List.set_cons_zero, List.set_cons_succ]
        refine T_call (get_op rfl) (by rfl) (by rfl) _ _ (.agg F2) (fun _ => by go_simp) (fun V hV => CF2.out V hV) ?_
        simp only [Act.put, List.setIfInBounds_toArray, List.set_cons_zero, List.set_cons_succ]
        refine T_value (get_op rfl) (by rfl) (by rfl) (.slice A n c) (fun _ _ => by go_simp) ?_
        simp only [Act.put, List.setIfInBounds_toArray, List.set_cons_zero, List.set_cons_succ]
        refine T_conv (get_op rfl) (by rfl) (by rfl) 24 9 (.tmp 95) (by rfl) (.slice A n c) (by rfl) (.string st) (fun V hV => CV.out V hV) ?_
        simp only [Act.put, List.setIfInBounds_toArray, List.set_cons_zero, List.set_cons_succ]
        refine T_load (get_op rfl) (by rfl) (by rfl) 29 (.tmp 16) (by rfl) gq 0 (by rfl) L2 _ (fun V hV => HL2.out V hV) Tryd.underlying29 rfl SL2.out ?_
        simp only [Act.put, List.setIfInBounds_toArray, List.set_cons_zero, List.set_cons_succ]
        refine T_enterR (get_op rfl) (by rfl) (by rfl) _ _ (fun x : Nat × Nat => .slice (some ⟨x.1, 0, none⟩) 128 x.2) halfslice_inj (fun _ => by go_simp) (fun x V => ∀ i, i < 128 → V.rangeAt x.1 (i * 32) (bvs (h2 i))) (fun x => lies_lasts h2 x.1) (fun V hb hf => CH2.out V hb) ?_
        rintro ⟨gu, cu⟩
        simp only [Act.put, List.setIfInBounds_toArray, List.set_cons_zero, List.set_cons_succ]
        refine T_enter (get_op rfl) (by rfl) (by rfl) _ _ (.agg F2) (fun _ => by go_simp) (fun _ => True) Lasts.true (fun V hb hf => CRF2.out gu cu V hb hf) ?_
        simp only [Act.put, List.setIfInBounds_toArray, List.set_cons_zero, List.set_cons_succ]
        refine T_eq (get_op rfl) (by rfl) (by rfl) .eql 23 _ (.tmp 94) (.tmp 99) (by rfl) F2 F2 (by rfl) (by rfl) (by kernel_rfl) (.bool true) (EF2.out) ?_
        simp only [Act.put, List.setIfInBounds_toArray, List.set_cons_zero, List.set_cons_succ]
        refine T_value (get_op rfl) (by rfl) (by rfl) (.bool true) (fun _ _ => by go_simp) ?_
        simp only [Act.put, List.setIfInBounds_toArray, List.set_cons_zero, List.set_cons_succ]
        refine T_value (get_op rfl) (by rfl) (by rfl) (.bool true) (fun _ _ => by go_simp) ?_
        simp only [Act.put, List.setIfInBounds_toArray, List.set_cons_zero, List.set_cons_succ]
        refine T_nil ?_
        intro w10 hb10 _
        have KF := Lib.hid (K9.out.trans hb10)
        clear hb10 K9 HF1 HL0 HL2 CF2 CV CH1 CH2 CRF1 CRF2
        simp only [List.drop_succ_cons, List.drop_zero]
        go_wp2
        go_ret
        exact ⟨rfl, (KF.out).below (Nat.le_refl _) (fun _ _ => id)⟩
theorem lother_walk (A : Option Addr) (len c : Nat) (zs : List Int) (B : Option Addr) (m d : Nat) (hs : List (List UInt8)) (k : Int) (W : World) (hT : Tabs W) (h0 : IsRowU .u8 W A len c zs) (h1 : IsHashes W B m d hs) (hk : (Lit.int .u8 k).wf = true) :
    Calls Tryd.prog 7 #[.slice A len c, .slice B m d, .int .u8 k] W fun e W' => e = .returned (.bool true) ∧ Below W.heap.size W W' := by
  obtain ⟨xs, rfl, hsrc, hcap, hmax⟩ := h0.src
  obtain ⟨kk, rfl⟩ := Int.eq_ofNat_of_zero_le (bounds_u8 hk).1
  have hmd : m ≤ d ∧ d ≤ 9223372036854775807 := ⟨h1.2.1, h1.2.2.1⟩
  by_cases hlen : 100 < xs.length ∨ 130 < m
  · exact lother_long A xs.length c B m d _ W hT hlen (by omega) (by omega)
  · exact lother_short A c xs B m d hs kk W hT hsrc (by omega) hcap hmax h1 (by omega) (by have := (bounds_u8 hk).2; omega)
end Go.Proofs.YtgbajlmcoghofaaDoor
