/-
  WalTail's walk.
-/
import Derived.Test.YtkfpfjbabnfphaaWlTi
import Derived.Test.YtkfpfjbabnfphaaOpenL
namespace Go.Proofs.Ytkfpfjbabnfphaa
open Go.RowKit Go.BigFrame
set_option linter.unusedVariables false
set_option linter.unusedSimpArgs false
set_option maxRecDepth 100000 in
set_option maxHeartbeats 16000000 in
theorem tail_go (A : Option Addr) (ca : Nat) (ra : List RowOf) (B : Option Addr) (cb : Nat) (rb : List RowOf) (C : Option Addr) (cc : Nat) (rc : List RowOf) (Af : Option Addr) (cf : Nat) (f : List UInt8) (w : World)
    (hA : RowsAt w A ra) (hB : RowsAt w B rb) (hC : RowsAt w C rc) (fa : few12B ra = true) (fb : few12B rb = true) (fc : few12B rc = true) (hS : Src w Af (bvs f)) (hfl : f.length ≤ 60) :
    Calls Try.prog 5 #[.slice A ra.length ca, .slice B rb.length cb, .slice C rc.length cc, .slice Af f.length cf] w fun e w' => e = .returned (.bool true) ∧ Keeps (fun _ => False) w w' := by
  obtain ⟨a10, hsa⟩ := few12_all fa
  obtain ⟨b10, hsb⟩ := few12_all fb
  obtain ⟨c10, hsc⟩ := few12_all fc
  obtain ⟨na, hna⟩ : ∃ N, ra.length = N := ⟨_, rfl⟩
  obtain ⟨nb, hnb⟩ : ∃ N, rb.length = N := ⟨_, rfl⟩
  obtain ⟨nc, hnc⟩ : ∃ N, rc.length = N := ⟨_, rfl⟩
  obtain ⟨nf, hnf⟩ : ∃ N, f.length = N := ⟨_, rfl⟩
  obtain ⟨ih, zh, hih, hzh, hsh, hbh, hzsh⟩ := info_st12s
  have HII := Lib.hid (And.intro hih (And.intro hzh (And.intro hsh (And.intro hbh hzsh))))
  have haw := awake12_any w
  have HAW := Lib.hid haw
  have HFA : Hid (∀ V, Keeps (fun _ => False) w V → Calls Try.prog 12 #[.slice A na ca] V fun e w' => e = .returned (.bool true) ∧ w' = V) := Lib.hid (fun V hk => by
    have := few12_any A ca ra V (hA.keeps hk (fun _ _ => id)) (by omega)
    rw [fa, hna] at this
    exact this)
  have HFB : Hid (∀ V, Keeps (fun _ => False) w V → Calls Try.prog 12 #[.slice B nb cb] V fun e w' => e = .returned (.bool true) ∧ w' = V) := Lib.hid (fun V hk => by
    have := few12_any B cb rb V (hB.keeps hk (fun _ _ => id)) (by omega)
    rw [fb, hnb] at this
    exact this)
  have HFC : Hid (∀ V, Keeps (fun _ => False) w V → Calls Try.prog 12 #[.slice C nc cc] V fun e w' => e = .returned (.bool true) ∧ w' = V) := Lib.hid (fun V hk => by
    have := few12_any C cc rc V (hC.keeps hk (fun _ _ => id)) (by omega)
    rw [fc, hnc] at this
    exact this)
  have HTX : Hid (∀ V, Keeps (fun _ => False) w V → Calls Try.prog 16 #[.slice A na ca] V fun e w' => ∃ A' c', e = .returned (.slice A' na c') ∧ w'.ownsRow V.heap.size 9 1 (.slice A' na c') na (svals12 (bsOf ra)) ∧ Keeps (fun _ => False) V w') := Lib.hid (fun V hk => by
    have := texts12_any A ca ra V (hA.keeps hk (fun _ _ => id)) (by omega)
    rw [hna] at this
    exact this)
  have HSF : Hid (∀ a, Af = some a → 0 < nf → a.block < w.heap.size) := Lib.hid (fun a ha h0 => by
    obtain ⟨b, hb, hc⟩ := hS.pos (by simp [bvs]; omega)
    rw [ha] at hb
    injection hb with hb
    subst hb
    have h1 : ∃ u, (bvs f)[0]? = some u := ⟨_, List.getElem?_eq_getElem (by simp [bvs]; omega)⟩
    obtain ⟨u, hu⟩ := h1
    exact World.block_lt_of_cell? w _ (hc 0 u hu))
  have HRA := Lib.hid hA
  have HRB := Lib.hid hB
  have HRC := Lib.hid hC
  have HSA := Lib.hid hsa
  have HSB := Lib.hid hsb
  have HSC := Lib.hid hsc
  have HNA := Lib.hid hna
  have HNB := Lib.hid hnb
  have HNC := Lib.hid hnc
  have HNF := Lib.hid (And.intro hnf hS)
  rw [hna] at a10 ⊢
  rw [hnb] at b10 ⊢
  rw [hnc] at c10 ⊢
  rw [hnf] at hfl ⊢
  have HBD : Hid (na ≤ 10 ∧ nb ≤ 10 ∧ nc ≤ 10 ∧ nf ≤ 60) := Lib.hid ⟨a10, b10, c10, hfl⟩
  have h60 : ¬ (60 : Int) < (nf : Int) := by omega
  clear haw hA hB hC fa fb fc hsa hsb hsc hna hnb hnc hnf hS hih hzh hsh hbh hzsh hfl
  go_enter Try.func5, Try.ntmps5
  go_wp2_with fail
  refine HAW.out.mono ?_
  rintro e w0 ⟨rfl, k0⟩
  have HFA2 := Lib.hid (HFA.out w0 k0)
  have HFB2 := Lib.hid (HFB.out w0 k0)
  have HFC2 := Lib.hid (HFC.out w0 k0)
  obtain ⟨F, hF⟩ : ∃ F : Nat → Prop, (fun k => w0.heap.size ≤ k) = F := ⟨_, rfl⟩
  have HFK : Hid (∀ k, F k → w.heap.size ≤ k) := Lib.hid (fun k h => by rw [← hF] at h; have := k0.size; omega)
  have hnew := new_disk 200 w0 (by omega) (by omega)
  rw [show ((200 : Nat) : Int) = 200 from rfl, hF] at hnew
  have HNEW := Lib.hid hnew
  have K0 := Lib.hid k0
  clear hnew k0 HAW HFA HFB HFC
  go_wp2_with fail
  refine HFA2.out.mono ?_
  rintro e wx ⟨rfl, hx⟩
  obtain rfl : w0 = wx := hx.symm
  go_wp2_with fail
  refine HFB2.out.mono ?_
  rintro e wx ⟨rfl, hx⟩
  obtain rfl : w0 = wx := hx.symm
  go_wp2_with fail
  refine HFC2.out.mono ?_
  rintro e wx ⟨rfl, hx⟩
  obtain rfl : w0 = wx := hx.symm
  go_wp2_with fail
  refine HNEW.out.mono ?_
  rintro e w1 ⟨g, rfl, hg, d1, k1⟩
  have hT0 := TI.fresh 200 (by omega) (by omega)
  have hop := tl_open w1 F g _ _ _ 200 0 0 d1 (fun k hk => by rw [← hF]; have := k1.size; omega) hT0 rfl rfl (by omega)
  obtain ⟨l0, hl0⟩ : ∃ l, (⟨(200 - 2) / 2, 0, 0, [], 0, 0⟩ : Wl.St) = l := ⟨_, rfl⟩
  rw [hl0] at hT0 hop
  have HL0 : Hid (l0.rows = [] ∧ l0.sure = 0) := Lib.hid (by rw [← hl0]; exact ⟨rfl, rfl⟩)
  have HOP := Lib.hid hop
  have T2 : Hid (TI l0 (Dk.fresh 200) 99 200 (0 + 0) 0) := Lib.hid hT0
  have K1 := Lib.hid (K0.out.trans k1)
  clear hop HNEW k1 d1 hF K0 HFA2 HFB2 HFC2 hT0 hl0
  go_wp2_with fail
  refine HOP.out.mono ?_
  rintro e w2 ⟨p, rfl, x2, k2⟩
  have X2 := Lib.hid x2
  have K2 := Lib.hid (K1.out.trans k2)
  clear HOP x2 k2 K1
  go_wp2_with fail
  go_loopw [17] (fun iv ww => ∃ (i : Nat) (l : Wl.St) (s : Dk.St), i ≤ na ∧ iv = .int .i64 (i : Int) ∧ Hid (Wal ww F p g l s) ∧ Hid (TI l s 99 200 (0 + i) 0) ∧ Hid (l.rows = ([] : List Wl.Bs) ++ bsOf (ra.take i) ∧ l.sure = 0) ∧ Hid (Keeps (fun _ => False) w ww)) (fun iv _ => na - (intOf iv).toNat)
  case atStart => exact ⟨0, _, _, by omega, rfl, X2, T2, Lib.hid (by simpa [bsOf] using HL0.out), K2⟩
  case round =>
    obtain ⟨i, l, s, hi, rfl, X, T, L, K⟩ := hrel
    by_cases hlt : i < na
    · have hii : (i : Int) < (na : Int) := by omega
      obtain ⟨r, hr⟩ : ∃ r, ra[i]? = some r := ⟨_, List.getElem?_eq_getElem (by rw [HNA.out]; exact hlt)⟩
      have hRw := HRA.out.keeps K.out (fun _ _ => id)
      obtain ⟨ad, e, hc⟩ := hRw.cell i r hr
      subst e
      have hmem := List.mem_of_getElem? hr
      have hap := tl_append wr F p g l s 99 200 _ 0 X.out T.out r.1 r.2.1 r.2.2 (hRw.src r hmem) (hRw.cap r hmem) (HSA.out r hmem) (by have := HBD.out; omega) (by have := HBD.out; omega)
      have hts := bsOf_take_succ ra i r hr
      obtain ⟨A1, c1, xs⟩ := r
      simp only at hc hap hts
      obtain ⟨m, hm⟩ : ∃ m, xs.length = m := ⟨_, rfl⟩
      rw [hm] at hc hap
      have HAP := Lib.hid hap
      have HTS := Lib.hid hts
      clear hRw hmem hap hts hm hr
      go_wp2_with fail
      refine HAP.out.mono ?_
      rintro e w5 ⟨l1, s1, rfl, hr1, hs1, x1, t1, k1⟩
      have X1 := Lib.hid x1
      have T1 := Lib.hid t1
      have L1 : Hid (l1.rows = ([] : List Wl.Bs) ++ bsOf (ra.take (i + 1)) ∧ l1.sure = 0) := Lib.hid ⟨by rw [hr1, L.out.1, HTS.out, List.append_assoc], hs1.trans L.out.2⟩
      have K1 : Hid (Keeps (fun _ => False) w w5) := Lib.hid (K.out.trans' k1 (fun i hi h => by have := HFK.out i h; omega))
      clear HAP x1 t1 k1 hr1 hs1 X T L K
      go_wp2_with fail
      go_roundw
      case rel => exact ⟨i + 1, l1, s1, by omega, by go_num, X1, T1, L1, K1⟩
      case measure => simp [intOf]; omega
    · have hii : ¬ (i : Int) < (na : Int) := by omega
      obtain rfl : i = na := by omega
      have HL : Hid (l.rows = ([] : List Wl.Bs) ++ bsOf ra ∧ l.sure = 0) := Lib.hid ⟨by rw [L.out.1, List.take_of_length_le (by rw [HNA.out]; exact Nat.le_refl _)], L.out.2⟩
      clear L
      clear HL0 T2 X2 K2
      have hsy := tl_sync wr F p g l s 99 200 _ 0 X.out T.out (by have := HBD.out; omega) (by omega)
      have HSY := Lib.hid hsy
      clear hsy X T
      go_wp2_with fail
      refine HSY.out.mono ?_
      rintro e w3 ⟨l1, s1, rfl, hr1, hs1, x1, t1, k1⟩
      have HL0 : Hid (l1.rows = bsOf ra ∧ l1.sure = i) := Lib.hid ⟨by rw [hr1, HL.out.1]; rfl, by rw [hs1, HL.out.1]; show (bsOf ra).length = i; unfold bsOf; rw [List.length_map]; exact HNA.out⟩
      have X2 := Lib.hid x1
      have T2 : Hid (TI l1 s1 99 200 (i + 0) 1) := Lib.hid (by rw [Nat.zero_add] at t1; exact t1)
      have K2 : Hid (Keeps (fun _ => False) w w3) := Lib.hid (K.out.trans' k1 (fun i hi h => by have := HFK.out i h; omega))
      clear HSY x1 t1 k1 hr1 hs1 HL K l s
      obtain ⟨na, rfl⟩ : ∃ n, n = i := ⟨_, rfl⟩
      clear hi hlt hii
      go_wp2_with fail
      go_loopw [18] (fun iv ww => ∃ (i : Nat) (l : Wl.St) (s : Dk.St), i ≤ nb ∧ iv = .int .i64 (i : Int) ∧ Hid (Wal ww F p g l s) ∧ Hid (TI l s 99 200 (na + i) 1) ∧ Hid (l.rows = bsOf ra ++ bsOf (rb.take i) ∧ l.sure = na) ∧ Hid (Keeps (fun _ => False) w ww)) (fun iv _ => nb - (intOf iv).toNat)
      case atStart => exact ⟨0, _, _, by omega, rfl, X2, T2, Lib.hid (by simpa [bsOf] using HL0.out), K2⟩
      case round =>
        obtain ⟨i, l, s, hi, rfl, X, T, L, K⟩ := hrel
        by_cases hlt : i < nb
        · have hii : (i : Int) < (nb : Int) := by omega
          obtain ⟨r, hr⟩ : ∃ r, rb[i]? = some r := ⟨_, List.getElem?_eq_getElem (by rw [HNB.out]; exact hlt)⟩
          have hRw := HRB.out.keeps K.out (fun _ _ => id)
          obtain ⟨ad, e, hc⟩ := hRw.cell i r hr
          subst e
          have hmem := List.mem_of_getElem? hr
          have hap := tl_append wr F p g l s 99 200 _ 1 X.out T.out r.1 r.2.1 r.2.2 (hRw.src r hmem) (hRw.cap r hmem) (HSB.out r hmem) (by have := HBD.out; omega) (by have := HBD.out; omega)
          have hts := bsOf_take_succ rb i r hr
          obtain ⟨A1, c1, xs⟩ := r
          simp only at hc hap hts
          obtain ⟨m, hm⟩ : ∃ m, xs.length = m := ⟨_, rfl⟩
          rw [hm] at hc hap
          have HAP := Lib.hid hap
          have HTS := Lib.hid hts
          clear hRw hmem hap hts hm hr
          go_wp2_with fail
          refine HAP.out.mono ?_
          rintro e w5 ⟨l1, s1, rfl, hr1, hs1, x1, t1, k1⟩
          have X1 := Lib.hid x1
          have T1 := Lib.hid t1
          have L1 : Hid (l1.rows = bsOf ra ++ bsOf (rb.take (i + 1)) ∧ l1.sure = na) := Lib.hid ⟨by rw [hr1, L.out.1, HTS.out, List.append_assoc], hs1.trans L.out.2⟩
          have K1 : Hid (Keeps (fun _ => False) w w5) := Lib.hid (K.out.trans' k1 (fun i hi h => by have := HFK.out i h; omega))
          clear HAP x1 t1 k1 hr1 hs1 X T L K
          go_wp2_with fail
          go_roundw
          case rel => exact ⟨i + 1, l1, s1, by omega, by go_num, X1, T1, L1, K1⟩
          case measure => simp [intOf]; omega
        · have hii : ¬ (i : Int) < (nb : Int) := by omega
          obtain rfl : i = nb := by omega
          have HL : Hid (l.rows = bsOf ra ++ bsOf rb ∧ l.sure = na) := Lib.hid ⟨by rw [L.out.1, List.take_of_length_le (by rw [HNB.out]; exact Nat.le_refl _)], L.out.2⟩
          clear L
          clear HL0 T2 X2 K2 hi hlt hii
          have hcr := tl_crash wr F p g l s 99 200 _ 1 na X.out T.out (by have := HBD.out; omega) (by rw [List.length_take, HL.out.2]; omega) Af cf f (HNF.out.2.keeps K.out (fun _ _ _ => id)) (fun a ha h0 hf => by have := HSF.out a ha (by have := HNF.out.1; omega); have := HFK.out _ hf; omega) (by have := HBD.out; have := HNF.out.1; omega)
          rw [HNF.out.1] at hcr
          have HCR := Lib.hid hcr
          clear hcr X T
          go_wp2_with fail
          refine HCR.out.mono ?_
          rintro e w6 ⟨l2, s2, rfl, hr2, hs2, d2, f2, t2, k2⟩
          have hbl : (bsOf ra).length = na := by unfold bsOf; rw [List.length_map]; exact HNA.out
          have hr : l2.rows = bsOf ra := by rw [hr2, HL.out.1, HL.out.2]; exact List.take_left' hbl
          have hop := tl_open w6 F g l2 s2 99 200 na 1 d2 f2 t2 hs2 rfl (by omega)
          have HOP := Lib.hid hop
          have T6 := Lib.hid t2
          have HR6 : Hid (l2.rows = bsOf ra ∧ l2.rows.length = na) := Lib.hid ⟨hr, by rw [hr]; exact hbl⟩
          have K6 : Hid (Keeps (fun _ => False) w w6) := Lib.hid (K.out.trans' k2 (fun i hi h => by have := HFK.out i h; omega))
          clear hop HCR hr2 hs2 d2 f2 t2 k2 hr hbl HL K
          go_wp2_with fail
          refine HOP.out.mono ?_
          rintro e w7 ⟨p2, rfl, x7, k7⟩
          have hre := tl_records w7 F p2 g l2 s2 x7 na HR6.out.2
          have HRE := Lib.hid hre
          have X7 := Lib.hid x7
          have K7 := Lib.hid (K6.out.trans k7)
          clear hre HOP x7 k7 K6
          go_wp2_with fail
          refine HRE.out.mono ?_
          rintro e w8 ⟨A8, c8, rs, rfl, hrl, hrb, hra, k8⟩
          have HTX8 := Lib.hid (HTX.out w8 (K7.out.trans k8))
          have RS8 := Lib.hid (And.intro hrl (And.intro (hrb.trans HR6.out.1) hra))
          have K8 := Lib.hid (K7.out.trans k8)
          have X8 := Lib.hid (X7.out.still k8)
          clear HRE hrl hrb hra k8 K7 X7
          go_wp2_with fail
          refine HTX8.out.mono ?_
          rintro e w9 ⟨A9, c9, rfl, o9, k9⟩
          have hsame := same12_eq A8 A9 c8 c9 _ rs w9 (RS8.out.2.2.keeps k9 (fun _ _ => id)) na RS8.out.1 (by rw [RS8.out.2.1]; exact o9) (by have := HBD.out; omega)
          have HSAME := Lib.hid hsame
          have K9 := Lib.hid (K8.out.trans k9)
          have X9 := Lib.hid (X8.out.still k9)
          clear HTX8 o9 k9 hsame K8 X8 RS8
          go_wp2_with fail
          refine HSAME.out.mono ?_
          rintro e w10 ⟨rfl, k10⟩
          have HTX10 := Lib.hid (HTX.out w10 (K9.out.trans k10))
          have K10 := Lib.hid (K9.out.trans k10)
          have X10 := Lib.hid (X9.out.still k10)
          clear HSAME k10 K9 X9
          go_wp2_with fail
          refine HTX10.out.mono ?_
          rintro e w11 ⟨A11, c11, rfl, o11, k11⟩
          have x11 := X10.out.later k11
          obtain ⟨F0, hF0⟩ : ∃ G, cutW F w10.heap.size w11.heap.size = G := ⟨_, rfl⟩
          have HF0 : Hid (∀ k, F0 k → w.heap.size ≤ k) := Lib.hid (fun k h => by rw [← hF0] at h; exact HFK.out k h.1)
          have HW0 : Hid (w11.ownsRow w.heap.size 9 1 (.slice A11 na c11) na (svals12 (bsOf ra))) := Lib.hid (own_base o11 K10.out.size)
          have HN0 : Hid (∀ k, (Value.slice A11 na c11).ownBlock = some k → ¬ F0 k) := Lib.hid (fun k hv hf => by
            have := o11.lt k hv
            rw [← hF0] at hf
            rcases hf.2 with h | h <;> omega)
          rw [hF0] at x11
          have X11 := Lib.hid x11
          have K11 := Lib.hid (K10.out.trans k11)
          have T11 : Hid (TI l2 s2 99 200 (na + 0) 1) := T6
          clear HTX10 o11 k11 x11 hF0 K10 X10 T6
          go_wp2_with fail
          go_loopw [19, 20] (fun lv iv ww => ∃ (i m : Nat) (A2 : Option Addr) (c2 : Nat) (F1 : Nat → Prop) (l : Wl.St) (s : Dk.St), i ≤ nc ∧ lv = .slice A2 m c2 ∧ iv = .int .i64 (i : Int) ∧ Hid (m = na + i) ∧ Hid (Wal ww F1 p2 g l s) ∧ Hid (∀ k, F1 k → w.heap.size ≤ k) ∧ Hid (ww.ownsRow w.heap.size 9 1 (.slice A2 m c2) m (svals12 (bsOf ra ++ bsOf (rc.take i)))) ∧ Hid (∀ k, (Value.slice A2 m c2).ownBlock = some k → ¬ F1 k) ∧ Hid (TI l s 99 200 (na + i) 1) ∧ Hid (l.rows = bsOf ra ++ bsOf (rc.take i)) ∧ Hid (Keeps (fun _ => False) w ww)) (fun _ iv _ => nc - (intOf iv).toNat)
          case atStart => exact ⟨0, na, A11, c11, F0, l2, s2, by omega, rfl, rfl, Lib.hid rfl, X11, HF0, Lib.hid (by simpa [bsOf] using HW0.out), HN0, T11, Lib.hid (by simpa [bsOf] using HR6.out.1), K11⟩
          case round =>
            clear HF0 HW0 HN0 X11 K11 T11
            obtain ⟨i, m, A2, c2, F1, l, s, hi, rfl, rfl, HM, X, HF1, HO, HN1, T, L, K⟩ := hrel
            by_cases hlt : i < nc
            · have hii : (i : Int) < (nc : Int) := by omega
              obtain ⟨r, hr⟩ : ∃ r, rc[i]? = some r := ⟨_, List.getElem?_eq_getElem (by rw [HNC.out]; exact hlt)⟩
              have hRw := HRC.out.keeps K.out (fun _ _ => id)
              obtain ⟨ad, e, hc⟩ := hRw.cell i r hr
              subst e
              have hmem := List.mem_of_getElem? hr
              have hap := tl_append wr F1 p2 g l s 99 200 _ 1 X.out T.out r.1 r.2.1 r.2.2 (hRw.src r hmem) (hRw.cap r hmem) (HSC.out r hmem) (by have := HBD.out; omega) (by have := HBD.out; omega)
              have hts := bsOf_take_succ rc i r hr
              have hsr0 := HRC.out.src r hmem
              have HC0 : Hid (∀ V, Keeps (fun _ => False) w V → V.cell? (ad.add i) = some (.slice r.1 r.2.2.length r.2.1)) := Lib.hid (fun V hV => by
                obtain ⟨ad2, e2, hc2⟩ := (HRC.out.keeps hV (fun _ _ => id)).cell i r hr
                injection e2 with e2
                subst e2
                exact hc2)
              obtain ⟨A1, c1, xs⟩ := r
              simp only at hc hap hts hsr0 HC0
              have hst := fun (V : World) (hV : Keeps (fun _ => False) w V) => run_string_src (P := Try.prog) (w := V) 33 9 5 Try.underlying33 Try.underlying5 Try.underlying9 A1 xs c1 (hsr0.keeps hV (fun _ _ _ => id))
              obtain ⟨mx, hm⟩ : ∃ m, xs.length = m := ⟨_, rfl⟩
              rw [hm] at hc hap hst HC0
              obtain ⟨sx, hsx⟩ : ∃ s, strOf xs = s := ⟨_, rfl⟩
              rw [hsx] at hst
              have HAP := Lib.hid hap
              have HTS := Lib.hid hts
              have HST := Lib.hid hst
              have HSX := Lib.hid hsx
              clear hRw hmem hap hts hm hr hst hsr0 hsx
              go_wp2_with fail
              refine HAP.out.mono ?_
              rintro e w5 ⟨l1, s1, rfl, hr1, hs1, x1, t1, k1⟩
              have X1 := Lib.hid x1
              have T1 := Lib.hid t1
              have L1 : Hid (l1.rows = bsOf ra ++ bsOf (rc.take (i + 1))) := Lib.hid (by rw [hr1, L.out, HTS.out, List.append_assoc])
              have K1 : Hid (Keeps (fun _ => False) w w5) := Lib.hid (K.out.trans' k1 (fun i hi h => by have := HF1.out i h; omega))
              have HO5 := Lib.hid (k1.owns HO.out (fun k hk hf => HN1.out k hk hf))
              have hc5 := HC0.out w5 K1.out
              have hst := HST.out w5 K1.out
              obtain ⟨V1, hV1⟩ : ∃ V, w5.alloc (.cells #[.string sx] 9) = V := ⟨_, rfl⟩
              have kv1 : Keeps (fun _ => False) w5 V1 := by rw [← hV1]; exact (Keeps.refl _ _).alloc _
              have rv1 : V1.heap[w5.heap.size]? = some (.cells [Value.string sx].toArray 9 (0, 0)) := by rw [← hV1]; exact heap_alloc_new w5 _
              have HBI := Lib.hid (build_str12 sx w5)
              rw [hV1] at HBI
              have KV1 := Lib.hid kv1
              have RV1 := Lib.hid rv1
              have HBV : w.heap.size ≤ V1.heap.size := by have := K1.out.size; have := KV1.out.size; omega
              have hmb : m ≤ 20 := by have := HM.out; have := HBD.out; omega
              clear HAP x1 t1 k1 hr1 hs1 X T L K HO HST kv1 rv1 hV1
              go_wp2_with (first
                | (refine wpList_buildSlice_run12 (by rfl) 32 1 0 (.tmp 123) (by rfl) _ _ (by rfl) HBI.out ?_)
                | (at_builtin; refine wpList_append_own_at _ (by rfl) _ _ 32 (by rfl) w.heap.size 9 ih zh 1 16 Try.underlying32 HII.out.1 HII.out.2.1 HII.out.2.2.1 HII.out.2.2.2.1 HII.out.2.2.2.2 (by decide) (.slice A2 m c2) m (svals12 (bsOf ra ++ bsOf (rc.take i))) (by rfl) (KV1.out.owns HO5.out (fun _ _ => id)) ⟨w5.heap.size, 0, none⟩ 1 1 [.string sx] (by rfl) (by rfl) (World.news_of_block RV1.out) (by intro u hu; cases hu with | head => rfl | tail _ h => cases h) (by unfold maxLen; omega) (by omega) HBV ?_; intro v3 V3 ho3 hg3 _ hob; have HO3 := Lib.hid ho3; have HG3 := Lib.hid hg3; obtain ⟨A3, c3, rfl⟩ := own_slice ho3; have HOB := Lib.hid hob; clear ho3 hg3 hob))
              have k53 : Keeps (fun k => (Value.slice A2 m c2).ownBlock = some k) w5 V3 := (KV1.out.mono (fun _ _ h => h.elim)).trans ((Keeps.refl _ _).grown HG3.out (fun _ _ h => h))
              have x3 := X1.out.aside k53 (fun k _ hf hv => HN1.out k hv hf)
              obtain ⟨F3, hF3⟩ : ∃ G, cutW F1 w5.heap.size V3.heap.size = G := ⟨_, rfl⟩
              have HF3 : Hid (∀ k, F3 k → w.heap.size ≤ k) := Lib.hid (fun k h => by rw [← hF3] at h; exact HF1.out k h.1)
              have HN3 : Hid (∀ k, (Value.slice A3 (m + 1) c3).ownBlock = some k → ¬ F3 k) := Lib.hid (fun k hv hf => by
                rw [← hF3] at hf
                rcases HOB.out with h | h
                · exact HN1.out k (h ▸ hv) hf.1
                · rw [h] at hv
                  injection hv with hv
                  have h1 := HO3.out.lt V1.heap.size h
                  have h2 := KV1.out.size
                  rcases hf.2 with h3 | h3 <;> omega)
              rw [hF3] at x3
              have X3 := Lib.hid x3
              have K3 : Hid (Keeps (fun _ => False) w V3) := Lib.hid (K1.out.trans' k53 (fun k hk hv => by
                have := HO5.out.lt k hv
                omega))
              have HO4 : Hid (V3.ownsRow w.heap.size 9 1 (.slice A3 (m + 1) c3) (m + 1) (svals12 (bsOf ra ++ bsOf (rc.take (i + 1))))) := Lib.hid (by rw [HTS.out, ← List.append_assoc, ← svals12_snoc, HSX.out]; exact HO3.out)
              clear k53 x3 hF3 HO3 HG3 HOB HO5 X1 K1
              go_wp2_with fail
              go_roundw
              case rel => exact ⟨i + 1, m + 1, A3, c3, F3, l1, s1, by omega, rfl, by go_num, Lib.hid (by have := HM.out; omega), X3, HF3, HO4, HN3, T1, L1, K3⟩
              case measure => simp [intOf]; omega
            · have hii : ¬ (i : Int) < (nc : Int) := by omega
              obtain rfl : i = nc := by omega
              have HL : Hid (l.rows = bsOf ra ++ bsOf rc) := Lib.hid (by rw [L.out, List.take_of_length_le (by rw [HNC.out]; exact Nat.le_refl _)])
              have HW : Hid (wr.ownsRow w.heap.size 9 1 (.slice A2 m c2) m (svals12 (bsOf ra ++ bsOf rc))) := Lib.hid (by have h := HO.out; rw [List.take_of_length_le (by rw [HNC.out]; exact Nat.le_refl _)] at h; exact h)
              have HLL : Hid (l.rows.length = m) := Lib.hid (by rw [HL.out, List.length_append]; unfold bsOf; rw [List.length_map, List.length_map, HNA.out, HNC.out, HM.out])
              have hsy := tl_sync wr F1 p2 g l s 99 200 _ 1 X.out T.out (by have := HBD.out; omega) (by omega)
              have HSY := Lib.hid hsy
              clear hsy X T L HO
              go_wp2_with fail
              refine HSY.out.mono ?_
              rintro e w12 ⟨l3, s3, rfl, hr3, hs3, x3, t3, k3⟩
              have hcr := tl_crash w12 F1 p2 g l3 s3 99 200 _ 2 m x3 t3 (by have := HBD.out; omega) (by rw [List.length_take, hs3, HLL.out]; omega) none 0 [] (Src.nil _ _) (fun a ha => by cases ha) (by simp)
              have HCR : Hid (Calls Try.prog 18 #[.pointer (some ⟨g, 0, none⟩), .slice none 0 0] w12 fun e w' => ∃ l' s', e = .returned (.tuple #[]) ∧ l'.rows = l3.rows.take l3.sure ∧ l'.sure = l'.rows.length ∧ DskAt w' F1 g s' ∧ (∀ k, w'.heap.size ≤ k → F1 k) ∧ TI l' s' 99 200 m 2 ∧ Keeps F1 w12 w') := Lib.hid hcr
              have HR3 : Hid (l3.rows.take l3.sure = bsOf ra ++ bsOf rc) := Lib.hid (by rw [hs3, ← hr3, List.take_length, hr3, HL.out])
              have HW3 := Lib.hid (k3.owns HW.out (fun k hk hf => HN1.out k hk hf))
              have K3 : Hid (Keeps (fun _ => False) w w12) := Lib.hid (K.out.trans' k3 (fun i hi h => by have := HF1.out i h; omega))
              have hml : (bsOf ra ++ bsOf rc).length = m := by rw [← HL.out]; exact HLL.out
              have HML := Lib.hid hml
              clear HSY hr3 hs3 x3 t3 k3 hcr HW K hml
              go_wp2_with fail
              refine HCR.out.mono ?_
              rintro e w13 ⟨l4, s4, rfl, hr4, hs4, d4, f4, t4, k4⟩
              have hop := tl_open w13 F1 g l4 s4 99 200 m 2 d4 f4 t4 hs4 rfl (by omega)
              have HOP := Lib.hid hop
              have hr5 : l4.rows = bsOf ra ++ bsOf rc := hr4.trans HR3.out
              have HR4 : Hid (l4.rows = bsOf ra ++ bsOf rc ∧ l4.rows.length = m ∧ l4.sure = m) := Lib.hid ⟨hr5, by rw [hr5]; exact HML.out, by rw [hs4, hr5]; exact HML.out⟩
              have HW4 := Lib.hid (k4.owns HW3.out (fun k hk hf => HN1.out k hk hf))
              have K4 : Hid (Keeps (fun _ => False) w w13) := Lib.hid (K3.out.trans' k4 (fun i hi h => by have := HF1.out i h; omega))
              clear HCR hr4 hs4 d4 f4 t4 k4 hop hr5 K3 HW3
              go_wp2_with fail
              refine HOP.out.mono ?_
              rintro e w14 ⟨p5, rfl, x5, k5⟩
              have hre := tl_records w14 F1 p5 g l4 s4 x5 m HR4.out.2.1
              have HRE := Lib.hid hre
              have X5 := Lib.hid x5
              have HW5 := Lib.hid (k5.owns HW4.out (fun _ _ => id))
              have K5 := Lib.hid (K4.out.trans k5)
              clear hre HOP x5 k5 K4 HW4
              go_wp2_with fail
              refine HRE.out.mono ?_
              rintro e w15 ⟨A6, c6, r6, rfl, hrl, hrb, hra, k6⟩
              have hsame := same12_eq A6 A2 c6 c2 _ r6 w15 hra m hrl (by rw [hrb, HR4.out.1]; exact k6.owns HW5.out (fun _ _ => id)) (by have := HBD.out; have := HM.out; omega)
              have HSAME := Lib.hid hsame
              have X6 := Lib.hid (X5.out.still k6)
              have K6 := Lib.hid (K5.out.trans k6)
              clear HRE hrl hrb hra k6 hsame X5 K5 HW5
              go_wp2_with fail
              refine HSAME.out.mono ?_
              rintro e w16 ⟨rfl, k7⟩
              have hsu := wsure_any w16 F1 p5 g l4 (X6.out.still k7).log
              rw [HR4.out.2.2] at hsu
              have HSU := Lib.hid hsu
              have K7 := Lib.hid (K6.out.trans k7)
              clear HSAME hsu k7 K6
              go_wp2_with fail
              refine HSU.out.mono ?_
              rintro e wx ⟨rfl, hx⟩
              obtain rfl : w16 = wx := hx.symm
              go_wp2
              go_ret
              exact ⟨rfl, K7.out⟩
end Go.Proofs.Ytkfpfjbabnfphaa
