/-
  The law LamportTells walked: keys, signatures and what they come to are the document's. WRITTEN BY wip/gen/mklate.py.
-/
import Derived.Test.YtgbajlmcoghofaaDoorLaTl
namespace Go.Proofs.YtgbajlmcoghofaaDoor
open Go.RowKit Go.BigFrame
set_option linter.unusedVariables false

set_option maxRecDepth 100000 in
set_option maxHeartbeats 1000000 in
theorem ltells_long (sd : List UInt8) (i : Int) (A : Option Addr) (n c : Nat) (a : Int) (zx : List UInt8) (W : World) (hT : Tabs W) (hs : sd.length = 32) (hn : 200 < n) (hmax : n ≤ 9223372036854775807) :
    Calls Tryd.prog 3 #[.agg (bvs sd).toArray, .int .i64 i, .slice A n c, .int .u8 a, .agg (bvs zx).toArray] W fun e W' => e = .returned (.bool true) ∧ Below W.heap.size W W' := by
  obtain ⟨X, hX⟩ : ∃ X : Array Value, (bvs sd).toArray = X := ⟨_, rfl⟩
  obtain ⟨XX, hXX⟩ : ∃ X : Array Value, (bvs zx).toArray = X := ⟨_, rfl⟩
  obtain ⟨W1, hW1⟩ : ∃ V, W.alloc (.cells X 23) = V := ⟨_, rfl⟩
  obtain ⟨W2, hW2⟩ : ∃ V, W1.alloc (.cells XX 23) = V := ⟨_, rfl⟩
  have k2 : Keeps (fun _ => False) W W2 := by rw [← hW2, ← hW1]; exact ((Keeps.refl _ _).alloc _).alloc _
  have HAW := Lib.hid (awake7_any W2 (hT.keeps k2 id id))
  have K2 := Lib.hid k2
  rw [hX, hXX]
  clear hT hX hXX hs k2
  go_enter Tryd.func3, Tryd.ntmps3
  go_wp2_with fail
  refine HAW.out.mono ?_
  rintro e w3 ⟨rfl, k3⟩
  have K3 := Lib.hid (K2.out.trans k3)
  clear k3 HAW
  go_wp2
  go_ret
  exact ⟨rfl, (K3.out).below (Nat.le_refl _) (fun _ _ => id)⟩
set_option maxRecDepth 100000 in
set_option maxHeartbeats 3000000 in
theorem ltells_short (sd : List UInt8) (i : Int) (A : Option Addr) (c : Nat) (xs : List UInt8) (a : Nat) (zx : List UInt8) (W : World) (hT : Tabs W) (hs : sd.length = 32) (hsrc : Src W A (bvs xs)) (hn : xs.length ≤ 200) (hc : xs.length ≤ c) (hmax : c ≤ 9223372036854775807) (ha : a ≤ 255) (hzx : zx.length = 32) :
    Calls Tryd.prog 3 #[.agg (bvs sd).toArray, .int .i64 i, .slice A xs.length c, .int .u8 (a : Int), .agg (bvs zx).toArray] W fun e W' => e = .returned (.bool true) ∧ Below W.heap.size W W' := by
  obtain ⟨Y, hY⟩ : ∃ Y : Array Value, (bvs (List.replicate 4096 0)).toArray = Y := ⟨_, rfl⟩
  have hy : ∀ w : World, (zeroValue 29).run Tryd.prog w = .ok (.agg Y) w := fun w => by rw [← hY]; exact zero_sig w
  have hys : Y.size = 4096 := by rw [← hY, List.size_toArray, bvs_length, List.length_replicate]
  obtain ⟨a1, a2, a3⟩ := hash_arr sd hs
  obtain ⟨x1, x2, x3⟩ := hash_arr zx hzx
  obtain ⟨g, hg⟩ : ∃ g, Sh.sha xs = g := ⟨_, rfl⟩
  obtain ⟨fs, hfs⟩ : ∃ f, Lm.sigs sd i g = f := ⟨_, rfl⟩
  have hfl : ∀ j, j < 128 → (fs j).length = 32 := fun j _ => by rw [← hfs]; exact Lm.sigs_length _ _ _ _
  have hsign : Lm.sign sd i xs = Lm.cat fs 128 := by unfold Lm.sign; rw [hg, hfs]
  obtain ⟨q, hq⟩ : ∃ q, a % 64 = q := ⟨_, rfl⟩
  obtain ⟨p, hp⟩ : ∃ p, a / 128 = p := ⟨_, rfl⟩
  have hq64 : q < 64 := by omega
  have hp2 : p < 2 := by omega
  have eq1 : (a : Int) % 64 = (q : Int) := by omega
  have ep1 : (a : Int) / 128 = (p : Int) := by omega
  have eq2 : (a : Int).tmod 64 = (q : Int) := by rw [Int.tmod_eq_emod_of_nonneg (by omega)]; exact eq1
  obtain ⟨h, hh⟩ : ∃ h, Lm.ups fs (2 * q + p) zx = h := ⟨_, rfl⟩
  have hhl : ∀ j, j < 128 → (h j).length = 32 := by rw [← hh]; exact Lm.ups_length hfl hzx
  obtain ⟨pk, hpk⟩ : ∃ p, Lm.pub sd i = p := ⟨_, rfl⟩
  have hpl : pk.length = 32 := by rw [← hpk]; exact Sh.sha_length _
  obtain ⟨fr, hfr⟩ : ∃ p, Sh.sha (Lm.cat (Lm.opens g h) 128) = p := ⟨_, rfl⟩
  have hfrl : fr.length = 32 := by rw [← hfr]; exact Sh.sha_length _
  have ep := fun V => eq_hash pk pk hpl hpl V
  have ef := fun V => eq_hash fr fr hfrl hfrl V
  simp only [beq_self_eq_true] at ep ef
  have cs := fun V (hV : Keeps (fun _ => False) W V) => sign_any sd i A c xs V (hT.keeps hV id id) hs (hsrc.keeps hV (fun _ _ _ => id)) hc hmax (by omega)
  have crs := fun V => rsign_lies sd i xs fs V hs (by omega) hsign hfl
  have cp := fun V (hV : Keeps (fun _ => False) W V) => public_any sd i V (hT.keeps hV id id) hs
  have crp := fun V => rpublic_any sd i V hs
  have ch := fun V => halves_lie h V hhl
  have ch0 := fun V => halves_lie fs V hfl
  have cf := fun V (hV : Keeps (fun _ => False) W V) => from_at h A c xs V (hT.keeps hV id id) hhl (hsrc.keeps hV (fun _ _ _ => id)) hc hmax (by omega)
  have crf := fun gv cv V (hV : ∀ i, i < 128 → World.rangeAt V gv (i * 32) (bvs (h i))) => rfrom_any h gv cv xs V hhl (by omega) hV
  have cv := fun V (hV : Keeps (fun _ => False) W V) => run_string_src (P := Tryd.prog) V 24 9 5 Tryd.underlying24 Tryd.underlying5 Tryd.underlying9 A xs c (hsrc.keeps hV (fun _ _ _ => id))
  rw [hsign] at cs
  rw [hpk] at cp crp
  rw [hg, hfr] at cf crf
  obtain ⟨st, hst⟩ : ∃ s, strOf xs = s := ⟨_, rfl⟩
  rw [hst] at crs crf cv
  obtain ⟨s1, s2, s3⟩ := sig_arr (Lm.cat fs 128) (Lm.cat_length _ _ hfl)
  have hlc : (Lm.cat h 128).length = 4096 := Lm.cat_length _ _ hhl
  obtain ⟨XC, hXC⟩ : ∃ X : List Value, bvs sd = X := ⟨_, rfl⟩
  obtain ⟨XX, hXX⟩ : ∃ X : Array Value, (bvs zx).toArray = X := ⟨_, rfl⟩
  obtain ⟨LS, hLS⟩ : ∃ L, (bvs (Lm.cat fs 128)).toArray = L := ⟨_, rfl⟩
  obtain ⟨LC, hLC⟩ : ∃ L, bvs (Lm.cat h 128) = L := ⟨_, rfl⟩
  obtain ⟨P, hP⟩ : ∃ L, (bvs pk).toArray = L := ⟨_, rfl⟩
  obtain ⟨FR, hFR⟩ : ∃ L, (bvs fr).toArray = L := ⟨_, rfl⟩
  obtain ⟨n, hnn⟩ : ∃ n, xs.length = n := ⟨_, rfl⟩
  have slc : (Tryd.prog.info? 29).map (·.size) = some LC.length := by rw [← hLC, bvs_length, hlc]; exact size_sig
  have sxc : (Tryd.prog.info? 23).map (·.size) = some XC.length := by rw [← hXC, bvs_length, hs]; exact size_hash'
  rw [hXC, hLS, hnn] at cs
  rw [hXC] at crs cp crp a1
  rw [hP] at cp crp ep
  rw [hLC] at ch
  rw [hLS] at ch0 s1 s2 s3
  rw [hLC, hFR, hnn] at cf
  rw [hFR] at crf ef
  rw [hnn] at cv hn hc
  rw [hXX] at x1 x2 x3
  rw [hXC, hXX, hnn]
  obtain ⟨g0, hg0⟩ : ∃ g, W.heap.size = g := ⟨_, rfl⟩
  obtain ⟨W1, hW1⟩ : ∃ V, W.alloc (.cells XC.toArray 23) = V := ⟨_, rfl⟩
  obtain ⟨g9, hg9⟩ : ∃ g, W1.heap.size = g := ⟨_, rfl⟩
  obtain ⟨W2, hW2⟩ : ∃ V, W1.alloc (.cells XX 23) = V := ⟨_, rfl⟩
  have k1 : Keeps (fun _ => False) W W1 := by rw [← hW1]; exact (Keeps.refl _ _).alloc _
  have k12 : Keeps (fun _ => False) W1 W2 := by rw [← hW2]; exact (Keeps.refl _ _).alloc _
  have r1 : W1.heap[g0]? = some (.cells XC.toArray 23 (0, 0)) := by rw [← hW1, ← hg0]; exact heap_alloc_new W _
  have r2 : W2.heap[g9]? = some (.cells XX 23 (0, 0)) := by rw [← hW2, ← hg9]; exact heap_alloc_new W1 _
  have r12 : W2.heap[g0]? = some (.cells XC.toArray 23 (0, 0)) := (k12.block _ (Array.getElem?_eq_some_iff.1 r1).1 id).trans r1
  have HAW := Lib.hid (awake7_any W2 (hT.keeps (k1.trans k12) id id))
  have K2 := Lib.hid (k1.trans k12)
  have R0 := Lib.hid r12
  have R9 := Lib.hid r2
  have CSW := Lib.hid cs
  have CRS := Lib.hid crs
  have CPW := Lib.hid cp
  have CRPW := Lib.hid crp
  have CHW := Lib.hid ch
  have CH0 := Lib.hid ch0
  have CFW := Lib.hid cf
  have CRFW := Lib.hid crf
  have CVW := Lib.hid cv
  have EP := Lib.hid ep
  have EF := Lib.hid ef
  have SX := Lib.hid sxc
  have SX0 : Hid ((Tryd.prog.info? 23).map (·.size) = some XC.toArray.size) := Lib.hid (by rw [sxc, List.size_toArray])
  have SXX := Lib.hid x1
  have SX3 := Lib.hid x3
  have SXZ := Lib.hid x2
  have S1 := Lib.hid s1
  have S2 := Lib.hid (hys.trans s2.symm)
  have S3 := Lib.hid s3
  have SLC := Lib.hid slc
  have HFL := Lib.hid hfl
  have HHL := Lib.hid hhl
  have HZX := Lib.hid hzx
  have HHE := Lib.hid hh
  have HLSE := Lib.hid hLS
  have HLCE := Lib.hid hLC
  have HXXE := Lib.hid hXX
  clear hT hs hsrc cs crs cp crp ch ch0 cf crf cv ep ef slc sxc x1 x2 x3 s1 s2 s3 a1 a2 a3 hfl hhl hh hLS hLC hXX hXC hP hFR hY hys hpk hpl hfr hfrl hsign hfs hg hst hzx k1 k12 r1 r2 r12 hnn hlc hmax hc hq hp ha
  go_enter Tryd.func3, Tryd.ntmps3
  go_wp2_with fail
  refine HAW.out.mono ?_
  rintro e w3 ⟨rfl, k3⟩
  have K3 := Lib.hid (K2.out.trans k3)
  have R03 := Lib.hid ((k3.block _ (Array.getElem?_eq_some_iff.1 R0.out).1 id).trans R0.out)
  have R93 := Lib.hid ((k3.block _ (Array.getElem?_eq_some_iff.1 R9.out).1 id).trans R9.out)
  have HS3 := Lib.hid (CSW.out w3 K3.out)
  clear k3 HAW K2 R0 R9 CSW
  go_wp2_with (refine wpList_load_row rfl 23 _ rfl g0 rfl 23 XC.toArray (0, 0) _ R03.out Tryd.underlying23 rfl SX0.out ?_)
  refine HS3.out.mono ?_
  rintro e w4 ⟨rfl, k4⟩
  obtain ⟨gs, hgs⟩ : ∃ g, w4.heap.size = g := ⟨_, rfl⟩
  have hgsW : W.heap.size ≤ gs := by rw [← hgs]; exact (K3.out.trans k4).size
  obtain ⟨W4, hW4⟩ : ∃ V, w4.alloc (.cells Y 29) = V := ⟨_, rfl⟩
  obtain ⟨W5, hW5⟩ : ∃ V, W4.setRow gs LS = V := ⟨_, rfl⟩
  have ra : W4.heap[gs]? = some (.cells Y 29 (0, 0)) := by rw [← hW4, ← hgs]; exact heap_alloc_new w4 _
  have rb : W5.heap[gs]? = some (.cells LS 29 (0, 0)) := by rw [← hW5]; exact setRow_heap _ _ _ _ _ _ ra
  have kab : Keeps (fun _ => False) w4 W5 := by
    have ka : Keeps (fun _ => False) w4 W4 := by rw [← hW4]; exact (Keeps.refl _ _).alloc _
    have kb : Keeps (fun q => q = gs) W4 W5 := by rw [← hW5]; exact Keeps.setRow _ _
    exact ka.trans' kb (fun i hi e => by omega)
  have k35 := k4.trans kab
  have K5 := Lib.hid (K3.out.trans k35)
  have R05 := Lib.hid ((k35.block _ (Array.getElem?_eq_some_iff.1 R03.out).1 id).trans R03.out)
  have R95 := Lib.hid ((k35.block _ (Array.getElem?_eq_some_iff.1 R93.out).1 id).trans R93.out)
  have RS5 := Lib.hid rb
  have RA := Lib.hid ra
  have hcv5 := CVW.out W5 K5.out
  have HRS := Lib.hid (CRS.out W5)
  clear ra rb kab k4 k35 HS3 K3 R03 R93 CRS
  go_wp2_with (first
    | (refine wpList_store_row rfl 29 _ _ rfl gs LS rfl rfl 29 Y RA.out S1.out S2.out S3.out ?_; rw [hW5])
    | (refine wpList_load_row rfl 23 _ rfl g0 rfl 23 XC.toArray (0, 0) _ R05.out Tryd.underlying23 rfl SX0.out ?_))
  refine HRS.out.mono ?_
  rintro e w6 ⟨⟨gl, cl⟩, rfl, k6, hl6⟩
  have RS6 := Lib.hid ((k6.block _ (Array.getElem?_eq_some_iff.1 RS5.out).1 id).trans RS5.out)
  have K56 := Lib.hid k6
  have HL6 := Lib.hid hl6
  have HC0 := Lib.hid (CH0.out w6)
  clear k6 hl6 hcv5 HRS RA hW4 hW5 hgs CH0
  go_wp2_with (refine wpList_load_row rfl 29 _ rfl gs rfl 29 LS (0, 0) _ RS6.out Tryd.underlying29 rfl S1.out ?_)
  refine HC0.out.mono ?_
  rintro e w7 ⟨⟨gm, cm⟩, rfl, k7, hl7⟩
  have HM7 := Lib.hid hl7
  have k57 := K56.out.trans k7
  have HL7 : Hid (∀ i, i < 128 → w7.rangeAt gl (i * 32) (bvs (fs i))) := Lib.hid fun i hi => range_keeps (HL6.out i hi) k7
  have K7 := Lib.hid (K5.out.trans k57)
  have R07 := Lib.hid ((k57.block _ (Array.getElem?_eq_some_iff.1 R05.out).1 id).trans R05.out)
  have R97 := Lib.hid ((k57.block _ (Array.getElem?_eq_some_iff.1 R95.out).1 id).trans R95.out)
  have RS7 := Lib.hid ((k57.block _ (Array.getElem?_eq_some_iff.1 RS5.out).1 id).trans RS5.out)
  clear k7 hl7 k57 HL6 K56 HC0 RS6 K5 R05 R95 RS5
  go_wp2_with fail
  go_loopw [15] (fun x wr => ∃ q : Nat, q ≤ 128 ∧ x = .int .i64 q ∧ Hid (Keeps (fun _ => False) w7 wr)) (fun x _ => 128 - (intOf x).toNat)
  case atStart => exact ⟨0, by omega, rfl, Lib.hid (Keeps.refl _ _)⟩
  case round =>
    obtain ⟨q0, hq0, rfl, HK⟩ := hrel
    by_cases hlt : q0 < 128
    · have hqi : (q0 : Int) < 128 := by omega
      have hel := HFL.out q0 hlt
      have ne := fun V => ne_hash (fs q0) (fs q0) hel hel V
      simp only [bne_self_eq_false] at ne
      have se : (Tryd.prog.info? 23).map (·.size) = some (bvs (fs q0)).length := by rw [bvs_length, hel]; exact size_hash'
      have hm : ∀ V, Later wr V → V.rangeAt gm (q0 * 32) (bvs (fs q0)) := fun V hV => range_keeps (HM7.out q0 hlt) (HK.out.trans hV.out)
      have hl : ∀ V, Later wr V → V.rangeAt gl (q0 * 32) (bvs (fs q0)) := fun V hV => range_keeps (HL7.out q0 hlt) (HK.out.trans hV.out)
      obtain ⟨EL, hEL⟩ : ∃ L, bvs (fs q0) = L := ⟨_, rfl⟩
      rw [hEL] at ne se hm hl
      have HM := Lib.hid hm
      have HL := Lib.hid hl
      have NE := Lib.hid ne
      have SE := Lib.hid se
      clear hm hl ne se hel hEL
      go_wp2_with fail
      refine wp_region_class (Later wr) (by kernel_rfl) (by kernel_rfl) (⟨(Keeps.refl _ _).drew⟩) ?_
      refine class_value (by rfl) (.slice (some ⟨gm, 0, none⟩) 128 cm) (fun V hV => by go_simp) ?_
      simp only [Act.put, List.setIfInBounds_toArray, List.set_cons_zero, List.set_cons_succ]
      refine class_value (by rfl) (.int .i64 (q0 : Int)) (fun V hV => by go_simp) ?_
      simp only [Act.put, List.setIfInBounds_toArray, List.set_cons_zero, List.set_cons_succ]
      refine class_value (by rfl) (.pointer (some ⟨gm, q0 * 32, none⟩)) (fun V hV => by go_simp) ?_
      simp only [Act.put, List.setIfInBounds_toArray, List.set_cons_zero, List.set_cons_succ]
      refine class_mid (by rfl) 23 (.tmp 39) (by rfl) gm (q0 * 32) (by rfl) EL _ (fun V hV => HM.out V hV) Tryd.underlying23 rfl SE.out ?_
      simp only [Act.put, List.setIfInBounds_toArray, List.set_cons_zero, List.set_cons_succ]
      refine class_value (by rfl) (.slice (some ⟨gl, 0, none⟩) 128 cl) (fun V hV => by go_simp) ?_
      simp only [Act.put, List.setIfInBounds_toArray, List.set_cons_zero, List.set_cons_succ]
      refine class_value (by rfl) (.int .i64 (q0 : Int)) (fun V hV => by go_simp) ?_
      simp only [Act.put, List.setIfInBounds_toArray, List.set_cons_zero, List.set_cons_succ]
      refine class_value (by rfl) (.pointer (some ⟨gl, q0 * 32, none⟩)) (fun V hV => by go_simp) ?_
      simp only [Act.put, List.setIfInBounds_toArray, List.set_cons_zero, List.set_cons_succ]
      refine class_mid (by rfl) 23 (.tmp 43) (by rfl) gl (q0 * 32) (by rfl) EL _ (fun V hV => HL.out V hV) Tryd.underlying23 rfl SE.out ?_
      simp only [Act.put, List.setIfInBounds_toArray, List.set_cons_zero, List.set_cons_succ]
      refine class_eq (by rfl) .neq 23 _ (.tmp 40) (.tmp 44) (by rfl) EL.toArray EL.toArray (by rfl) (by rfl) (by kernel_rfl) (.bool false) (NE.out) ?_
      simp only [Act.put, List.setIfInBounds_toArray, List.set_cons_zero, List.set_cons_succ]
      refine wpQuiet_nil ?_
      intro w8 k8
      have HK8 : Hid (Keeps (fun _ => False) w7 w8) := Lib.hid (HK.out.trans k8.out)
      clear k8 HK HM HL NE SE
      go_wp2
      go_roundw
      case rel => exact ⟨q0 + 1, by omega, by go_num, HK8⟩
      case measure => simp [intOf]; omega
    · obtain rfl : q0 = 128 := by omega
      have R98 := Lib.hid ((HK.out.block _ (Array.getElem?_eq_some_iff.1 R97.out).1 id).trans R97.out)
      have R08 := Lib.hid ((HK.out.block _ (Array.getElem?_eq_some_iff.1 R07.out).1 id).trans R07.out)
      have RS8 : Hid (Row wr gs 29 (bvs (Lm.cat fs 128))) := Lib.hid (by show wr.heap[gs]? = _; rw [HLSE.out]; exact (HK.out.block _ (Array.getElem?_eq_some_iff.1 RS7.out).1 id).trans RS7.out)
      have K8 := Lib.hid (K7.out.trans HK.out)
      have hx9 : ∀ V, Later wr V → V.heap[g9]? = some (.cells XX 23 (0, 0)) := fun V hV => (hV.out.block _ (Array.getElem?_eq_some_iff.1 R98.out).1 id).trans R98.out
      have hth : ∀ V, Later wr V → V.there gs (q * 64 + p * 32) XX.size := fun V hV => by
        rw [SXZ.out, show q * 64 + p * 32 = 32 * (2 * q + p) by omega]
        exact sig_there ((RS8.out : Row _ _ _ _).keeps hV.out id) HFL.out (by omega)
      have hst : ∀ V, Later wr V → Row (V.setCells gs (q * 64 + p * 32) XX.toList) gs 29 LC := fun V hV => by
        have h1 := sig_set (x := zx) ((RS8.out : Row _ _ _ _).keeps hV.out id) HFL.out HZX.out (show 2 * q + p < 128 by omega)
        rw [HHE.out, HLCE.out] at h1
        rw [← HXXE.out, show q * 64 + p * 32 = 32 * (2 * q + p) by omega]
        exact h1
      have gne : g0 ≠ gs := fun e => by
        have h1 := R08.out
        have h2 := RS8.out
        rw [e] at h1
        unfold Row at h2
        rw [h2] at h1
        injection h1 with h1
        injection h1 with _ h1
        exact absurd h1 (by decide)
      have HX9 := Lib.hid hx9
      have HTH := Lib.hid hth
      have HST := Lib.hid hst
      have hqi : (q : Int) < 64 := by omega
      have hpi : (p : Int) < 2 := by omega
      clear hx9 hth hst HK R98 R97 R07 RS7 K7 HM7 HL7
      go_wp2_with fail
      refine wp_region_phase 7 (Later wr) (by kernel_rfl) (by kernel_rfl) (⟨(Keeps.refl _ _).drew⟩) ?_
      simp only [List.take_succ_cons, List.take_zero, List.drop_succ_cons, List.drop_zero]
      refine class_value (by rfl) (.int .u8 (a : Int)) (fun V hV => by go_simp) ?_
      simp only [Act.put, List.setIfInBounds_toArray, List.set_cons_zero, List.set_cons_succ]
      refine class_value (by rfl) (.int .u8 (q : Int)) (fun V hV => by go_simp) ?_
      simp only [Act.put, List.setIfInBounds_toArray, List.set_cons_zero, List.set_cons_succ]
      refine class_value (by rfl) (.int .u8 (a : Int)) (fun V hV => by go_simp) ?_
      simp only [Act.put, List.setIfInBounds_toArray, List.set_cons_zero, List.set_cons_succ]
      refine class_value (by rfl) (.int .u8 (p : Int)) (fun V hV => by go_simp) ?_
      simp only [Act.put, List.setIfInBounds_toArray, List.set_cons_zero, List.set_cons_succ]
      refine class_load (by rfl) 23 (.tmp 9) (by rfl) g9 (by rfl) _ XX _ _ (fun V hV => HX9.out V hV) Tryd.underlying23 rfl SXX.out ?_
      simp only [Act.put, List.setIfInBounds_toArray, List.set_cons_zero, List.set_cons_succ]
      refine class_value (by rfl) (.pointer (some ⟨gs, q * 64, none⟩)) (fun V hV => by go_simp) ?_
      simp only [Act.put, List.setIfInBounds_toArray, List.set_cons_zero, List.set_cons_succ]
      refine class_value (by rfl) (.pointer (some ⟨gs, q * 64 + p * 32, none⟩)) (fun V hV => by go_simp) ?_
      simp only [Act.put, List.setIfInBounds_toArray, List.set_cons_zero, List.set_cons_succ]
      refine wpQuiet_nil ?_
      intro w8 k8
      obtain ⟨w9, hw9⟩ : ∃ V, w8.setCells gs (q * 64 + p * 32) XX.toList = V := ⟨_, rfl⟩
      have HTH8 := Lib.hid (HTH.out w8 k8)
      have rl9 : Row w9 gs 29 LC := by rw [← hw9]; exact HST.out w8 k8
      have kg9 : Keeps (fun q => q = gs) wr w9 := by rw [← hw9]; exact Keeps.setCells gs _ _ _ (k8.out.mono (fun _ _ h => h.elim)) (fun _ => rfl)
      have r09 : w9.heap[g0]? = some (.cells XC.toArray 23 (0, 0)) := (kg9.block _ (Array.getElem?_eq_some_iff.1 R08.out).1 gne).trans R08.out
      have K9 : Hid (Keeps (fun _ => False) W w9) := Lib.hid (K8.out.trans' kg9 (fun i hi e => by omega))
      have HX0 : Hid (∀ V, Keeps (fun _ => False) w9 V → V.rangeAt g0 0 XC) := Lib.hid fun V hV => rangeAt_row ((hV.block _ (Array.getElem?_eq_some_iff.1 r09).1 id).trans r09)
      have HLC : Hid (∀ V, Keeps (fun _ => False) w9 V → V.rangeAt gs 0 LC) := Lib.hid fun V hV => rangeAt_row (rl9.keeps hV id)
      have CP : Hid (∀ V, Keeps (fun _ => False) w9 V → Calls Tryd.prog 12 #[.agg XC.toArray, .int .i64 i] V fun e w' => e = .returned (.agg P) ∧ Keeps (fun _ => False) V w') := Lib.hid fun V hV => CPW.out V (K9.out.trans hV)
      have CRP : Hid (∀ V, Keeps (fun _ => False) w9 V → Calls Tryd.prog 13 #[.agg XC.toArray, .int .i64 i] V fun e w' => e = .returned (.agg P) ∧ Keeps (fun _ => False) V w') := Lib.hid fun V hV => CRPW.out V
      have CF : Hid (∀ V, Keeps (fun _ => False) w9 V → Calls Tryd.prog 14 #[.slice A n c, .agg LC.toArray] V fun e w' => e = .returned (.agg FR) ∧ Keeps (fun _ => False) V w') := Lib.hid fun V hV => CFW.out V (K9.out.trans hV)
      have CV : Hid (∀ V, Keeps (fun _ => False) w9 V → (convert 24 9 (.slice A n c)).run Tryd.prog V = .ok (.string st) V) := Lib.hid fun V hV => CVW.out V (K9.out.trans hV)
      have CH : Hid (∀ V, Keeps (fun _ => False) w9 V → Calls Tryd.prog 11 #[.agg LC.toArray] V fun e w' => ∃ x : Nat × Nat, e = .returned (.slice (some ⟨x.1, 0, none⟩) 128 x.2) ∧ Keeps (fun _ => False) w9 w' ∧ ∀ i, i < 128 → w'.rangeAt x.1 (i * 32) (bvs (h i))) := Lib.hid fun V hV => (CHW.out V).mono fun e w' ⟨x, h1, h2, h3⟩ => ⟨x, h1, hV.trans h2, h3⟩
      have CRF : Hid (∀ gv cv V, Keeps (fun _ => False) w9 V → (∀ i, i < 128 → World.rangeAt V gv (i * 32) (bvs (h i))) → Calls Tryd.prog 15 #[.string st, .slice (some ⟨gv, 0, none⟩) 128 cv] V fun e w' => e = .returned (.agg FR) ∧ Keeps (fun _ => False) w9 w' ∧ True) := Lib.hid fun gv cv V hV hl => (CRFW.out gv cv V hl).mono fun e w' h => ⟨h.1, hV.trans h.2, trivial⟩
      clear rl9 kg9 r09 k8 HX9 HTH HST R08 RS8 K8 CPW CRPW CFW CVW CHW CRFW HFL HHL HZX HHE HLSE HLCE HXXE gne eq1 eq2 ep1
      go_wp2_with (refine wpList_store_mid rfl 23 (.tmp 52) (.tmp 50) rfl gs (q * 64 + p * 32) XX rfl rfl HTH8.out SXX.out SX3.out ?_; rw [hw9])
      refine wp_region_stores 19 [14, 15] [0, 1, 2, 3, 4, 5, 6, 7, 8, 9, 10, 11, 12, 13, 14, 15, 16, 17, 18] (fun V => Keeps (fun _ => False) w9 V) (fun _ => True) (by kernel_rfl) (by kernel_rfl) (fun _ _ h k => h.trans k) (Lasts.true) (((Keeps.refl _ _).drew)) (trivial) ?_
      refine T_load (get_op rfl) (by rfl) (by rfl) 23 (.tmp 5) (by rfl) g0 0 (by rfl) XC _ (fun V hV => HX0.out V hV) Tryd.underlying23 rfl SX.out ?_
      simp only [Act.put, List.setIfInBounds_toArray, List.set_cons_zero, List.set_cons_succ]
      refine T_value (get_op rfl) (by rfl) (by rfl) (.int .i64 i) (fun _ _ => by go_simp) ?_
      simp only [Act.put, List.setIfInBounds_toArray, List.set_cons_zero, List.set_cons_succ]
      refine T_call (get_op rfl) (by rfl) (by rfl) _ _ (.agg P) (fun _ => by go_simp) (fun V hV => CP.out V hV) ?_
      simp only [Act.put, List.setIfInBounds_toArray, List.set_cons_zero, List.set_cons_succ]
      refine T_load (get_op rfl) (by rfl) (by rfl) 23 (.tmp 5) (by rfl) g0 0 (by rfl) XC _ (fun V hV => HX0.out V hV) Tryd.underlying23 rfl SX.out ?_
      simp only [Act.put, List.setIfInBounds_toArray, List.set_cons_zero, List.set_cons_succ]
      refine T_value (get_op rfl) (by rfl) (by rfl) (.int .i64 i) (fun _ _ => by go_simp) ?_
      simp only [Act.put, List.setIfInBounds_toArray, List.set_cons_zero, List.set_cons_succ]
      refine T_call (get_op rfl) (by rfl) (by rfl) _ _ (.agg P) (fun _ => by go_simp) (fun V hV => CRP.out V hV) ?_
      simp only [Act.put, List.setIfInBounds_toArray, List.set_cons_zero, List.set_cons_succ]
      refine T_eq (get_op rfl) (by rfl) (by rfl) .eql 23 _ (.tmp 55) (.tmp 58) (by rfl) P P (by rfl) (by rfl) (by kernel_rfl) (.bool true) (EP.out) ?_
      simp only [Act.put, List.setIfInBounds_toArray, List.set_cons_zero, List.set_cons_succ]
      refine T_value (get_op rfl) (by rfl) (by rfl) (.bool true) (fun _ _ => by go_simp) ?_
      simp only [Act.put, List.setIfInBounds_toArray, List.set_cons_zero, List.set_cons_succ]
      refine T_value (get_op rfl) (by rfl) (by rfl) (.slice A n c) (fun _ _ => by go_simp) ?_
      simp only [Act.put, List.setIfInBounds_toArray, List.set_cons_zero, List.set_cons_succ]
      refine T_load (get_op rfl) (by rfl) (by rfl) 29 (.tmp 12) (by rfl) gs 0 (by rfl) LC _ (fun V hV => HLC.out V hV) Tryd.underlying29 rfl SLC.out ?_
      simp only [Act.put, List.setIfInBounds_toArray, List.set_cons_zero, List.set_cons_succ]
      refine T_call (get_op rfl) (by rfl) (by rfl) _ _ (.agg FR) (fun _ => by go_simp) (fun V hV => CF.out V hV) ?_
      simp only [Act.put, List.setIfInBounds_toArray, List.set_cons_zero, List.set_cons_succ]
      refine T_value (get_op rfl) (by rfl) (by rfl) (.slice A n c) (fun _ _ => by go_simp) ?_
      simp only [Act.put, List.setIfInBounds_toArray, List.set_cons_zero, List.set_cons_succ]
      refine T_conv (get_op rfl) (by rfl) (by rfl) 24 9 (.tmp 64) (by rfl) (.slice A n c) (by rfl) (.string st) (fun V hV => CV.out V hV) ?_
      simp only [Act.put, List.setIfInBounds_toArray, List.set_cons_zero, List.set_cons_succ]
      refine T_load (get_op rfl) (by rfl) (by rfl) 29 (.tmp 12) (by rfl) gs 0 (by rfl) LC _ (fun V hV => HLC.out V hV) Tryd.underlying29 rfl SLC.out ?_
      simp only [Act.put, List.setIfInBounds_toArray, List.set_cons_zero, List.set_cons_succ]
      refine T_enterR (get_op rfl) (by rfl) (by rfl) _ _ (fun x : Nat × Nat => .slice (some ⟨x.1, 0, none⟩) 128 x.2) halfslice_inj (fun _ => by go_simp) (fun x V => ∀ i, i < 128 → V.rangeAt x.1 (i * 32) (bvs (h i))) (fun x => lies_lasts h x.1) (fun V hb hf => CH.out V hb) ?_
      rintro ⟨gv, cv⟩
      simp only [Act.put, List.setIfInBounds_toArray, List.set_cons_zero, List.set_cons_succ]
      refine T_enter (get_op rfl) (by rfl) (by rfl) _ _ (.agg FR) (fun _ => by go_simp) (fun _ => True) Lasts.true (fun V hb hf => CRF.out gv cv V hb hf) ?_
      simp only [Act.put, List.setIfInBounds_toArray, List.set_cons_zero, List.set_cons_succ]
      refine T_eq (get_op rfl) (by rfl) (by rfl) .eql 23 _ (.tmp 63) (.tmp 68) (by rfl) FR FR (by rfl) (by rfl) (by kernel_rfl) (.bool true) (EF.out) ?_
      simp only [Act.put, List.setIfInBounds_toArray, List.set_cons_zero, List.set_cons_succ]
      refine T_value (get_op rfl) (by rfl) (by rfl) (.bool true) (fun _ _ => by go_simp) ?_
      simp only [Act.put, List.setIfInBounds_toArray, List.set_cons_zero, List.set_cons_succ]
      refine T_value (get_op rfl) (by rfl) (by rfl) (.bool true) (fun _ _ => by go_simp) ?_
      simp only [Act.put, List.setIfInBounds_toArray, List.set_cons_zero, List.set_cons_succ]
      refine T_nil ?_
      intro w10 hb10 _
      have KF := Lib.hid (K9.out.trans hb10)
      clear hb10 K9 HX0 HLC CP CRP CF CV CH CRF
      simp only [List.drop_succ_cons, List.drop_zero]
      go_wp2
      go_ret
      exact ⟨rfl, (KF.out).below (Nat.le_refl _) (fun _ _ => id)⟩
theorem ltells_walk (sd : List UInt8) (i : Int) (A : Option Addr) (len c : Nat) (zs : List Int) (a : Int) (zx : List UInt8) (W : World) (hT : Tabs W) (hs : sd.length = 32) (hi : (Lit.int .i64 i).wf = true) (h0 : IsRowU .u8 W A len c zs) (ha : (Lit.int .u8 a).wf = true) (hx : zx.length = 32) :
    Calls Tryd.prog 3 #[.agg (bvs sd).toArray, .int .i64 i, .slice A len c, .int .u8 a, .agg (bvs zx).toArray] W fun e W' => e = .returned (.bool true) ∧ Below W.heap.size W W' := by
  obtain ⟨xs, rfl, hsrc, hcap, hmax⟩ := h0.src
  obtain ⟨a, rfl⟩ := Int.eq_ofNat_of_zero_le (bounds_u8 ha).1
  by_cases hlen : 200 < xs.length
  · exact ltells_long sd i A xs.length c _ zx W hT hs hlen (by omega)
  · exact ltells_short sd i A c xs a zx W hT hs hsrc (by omega) hcap hmax (by have := (bounds_u8 ha).2; omega) hx
end Go.Proofs.YtgbajlmcoghofaaDoor
