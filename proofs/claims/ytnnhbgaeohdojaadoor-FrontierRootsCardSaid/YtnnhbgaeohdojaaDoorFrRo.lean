/-
  The law FrontierRoots walked: its root is that of all entries that came. WRITTEN BY wip/gen/mkfrro.py.
-/
import Derived.Test.YtnnhbgaeohdojaaDoorFrT
namespace Go.Proofs.YtnnhbgaeohdojaaDoor
open Go.RowKit Go.BigFrame
set_option linter.unusedVariables false

set_option maxRecDepth 100000 in
set_option maxHeartbeats 1500000 in
theorem froots_in (A : Option Addr) (c : Nat) (rs : List RowOf) (x : Nat) (W : World) (hT : Tabs W) (hR : RowsAt W A rs) (h20 : rs.length ≤ 20) (hc : rs.length ≤ c) (hmax : c ≤ 9223372036854775807) (h60 : ∀ r ∈ rs, r.2.2.length ≤ 60) (hx : x ≤ 255)
    (HFEW : Hid (∀ V, Keeps (fun _ => False) W V → Calls Tryd.prog 30 #[.slice A rs.length c] V fun e w' => e = .returned (.bool true) ∧ w' = V)) :
    Calls Tryd.prog 6 #[.slice A rs.length c, .int .u8 (x : Int)] W fun e W' => e = .returned (.bool true) ∧ Below W.heap.size W W' := by
  have HAW := Lib.hid (awake5_any W hT)
  obtain ⟨es, hes⟩ : ∃ es, ents rs = es := ⟨_, rfl⟩
  have hel : es.length = rs.length := by rw [← hes]; exact ents_length rs
  have hr1 := fun V (hk : Keeps (fun _ => False) W V) => root_any A c rs V (hT.keeps hk id id) (hR.keeps hk (fun _ _ => id)) hc hmax (fun r hr => by have := h60 r hr; omega)
  rw [hes] at hr1
  have hpre : ∀ i, i < rs.length → ∀ ad, A = some ad → ∀ V, Keeps (fun _ => False) W V → Calls Tryd.prog 16 #[.slice (some ad) (i + 1) c] V fun e w' => e = .returned (.agg (bvs (Tr.root (es.take (i + 1)))).toArray) ∧ Keeps (fun _ => False) V w' := fun i hi ad hA V hk => by
    have h := root_any A c (rs.take (i + 1)) V (hT.keeps hk id id) ((hR.keeps hk (fun _ _ => id)).take (i + 1)) (by rw [List.length_take]; omega) hmax (fun r hr => by have := h60 r (List.mem_of_mem_take hr); omega)
    rw [List.length_take, Nat.min_eq_left (by omega), show ents (rs.take (i + 1)) = es.take (i + 1) by rw [← hes]; simp [ents, List.map_take], hA] at h
    exact h
  have hent : ∀ (i : Nat) (r : RowOf), rs[i]? = some r → Tr.addP i (Tr.pk (es.take i)) (Tr.leaf r.2.2) = Tr.pk (es.take (i + 1)) := fun i r hr => by
    have h1 : es[i]? = some r.2.2 := by rw [← hes]; unfold ents; rw [List.getElem?_map, hr]; rfl
    have h2 := (List.getElem?_eq_some_iff.1 h1).1
    rw [List.take_add_one, h1]
    show _ = Tr.pk (es.take i ++ [r.2.2])
    rw [Tr.pk_snoc, List.length_take, Nat.min_eq_left (by omega)]
  have hpl : ∀ i, i ≤ rs.length → (Tr.pk (es.take i)).length = On.ones 64 i := fun i hi => by
    rw [Tr.pk_length _ (by rw [List.length_take]; omega), List.length_take, Nat.min_eq_left (by omega)]
  have hpr : ∀ i, Tr.peakRoot (Tr.pk (es.take i)) = Tr.root (es.take i) := fun i => Tr.peakRoot_pk _ (by rw [List.length_take]; omega)
  obtain ⟨n, hn⟩ : ∃ n, rs.length = n := ⟨_, rfl⟩
  have HN := Lib.hid hn
  rw [hn] at HFEW hr1 hpre hpl h20 hc hel ⊢
  have hall : es.take n = es := List.take_of_length_le (by omega)
  have HALL := Lib.hid hall
  have HT := Lib.hid hT
  have HR := Lib.hid hR
  have H60 := Lib.hid h60
  have HR1 := Lib.hid hr1
  have HPRE := Lib.hid hpre
  have HENT := Lib.hid hent
  have HPL := Lib.hid hpl
  have HPR := Lib.hid hpr
  obtain ⟨k, hk⟩ : ∃ k : Nat, x % 20 = k := ⟨_, rfl⟩
  have ht : Int.tmod (x : Int) 20 = (k : Int) := by rw [Int.tmod_eq_emod_of_nonneg (by omega)]; omega
  have hk0 : (0 : Int) ≤ k := by omega
  have hk1 : (k : Int) < 20 := by omega
  have hW2 : 2 ≤ W.heap.size := by have := hT.lt; omega
  clear hr1 hpre hent hpl hpr hn hes hel hT hR h60 hall
  go_enter Tryd.func6, Tryd.ntmps6
  go_wp2_with fail
  refine HAW.out.mono ?_
  rintro e1 w1 ⟨rfl, k1⟩
  go_wp2_with fail
  refine (HFEW.out w1 k1).mono ?_
  rintro e2 w2 ⟨rfl, h2⟩
  obtain rfl : w1 = w2 := h2.symm
  go_wp2_with fail
  refine (new_any w1).mono ?_
  rintro e3 w3 ⟨rfl, hf3, k3⟩
  have K3 := Lib.hid (k1.trans k3)
  obtain ⟨b, hb⟩ : ∃ q, w1.heap.size = q := ⟨_, rfl⟩
  rw [hb] at hf3 ⊢
  have HB : Hid (W.heap.size ≤ b) := Lib.hid (by rw [← hb]; exact k1.size)
  have HF3 := Lib.hid hf3
  clear HAW HFEW hf3 k3 k1 hb
  go_wp2_with fail
  go_loopw [7, 8, 9, 10] (fun fv iv gv ev wr => ∃ (i g : Nat), i ≤ n ∧ fv = .pointer (some ⟨g, 0, none⟩) ∧ iv = .int .i64 (i : Int) ∧ Hid (Fro wr b g i (Tr.pk (es.take i))) ∧ Hid (Keeps (fun _ => False) W wr)) (fun _ iv _ _ _ => n - (intOf iv).toNat)
  case atStart => exact ⟨0, b, by omega, rfl, rfl, HF3, K3⟩
  case round =>
    clear HF3 K3
    obtain ⟨i, g0, hi, rfl, rfl, HF0, HK0⟩ := hrel
    by_cases hlt : i < n
    · obtain ⟨r, hr⟩ : ∃ r, rs[i]? = some r := ⟨_, List.getElem?_eq_getElem (by rw [HN.out]; exact hlt)⟩
      obtain ⟨ad, e, hcell⟩ := HR.out.cell i r hr
      subst e
      have hcap := HR.out.cap r (List.mem_of_getElem? hr)
      have hsrc := HR.out.src r (List.mem_of_getElem? hr)
      have hl60 := H60.out r (List.mem_of_getElem? hr)
      obtain ⟨qs, hqs⟩ : ∃ qs, Tr.pk (es.take (i + 1)) = qs := ⟨_, rfl⟩
      have HQS := Lib.hid hqs
      have hadp := HENT.out i r hr
      have hql := HPL.out (i + 1) (by omega)
      have hqr := HPR.out (i + 1)
      rw [hqs] at hadp hql hqr
      obtain ⟨ps, hps⟩ : ∃ ps, Tr.pk (es.take i) = ps := ⟨_, rfl⟩
      have hplen := HPL.out i hi
      rw [hps] at hadp HF0 hplen
      obtain ⟨rA, rc, xs⟩ := r
      simp only at hcell hcap hsrc hl60 hadp
      have hrl : (Tr.root (es.take (i + 1))).length = 32 := Tr.root_length _
      obtain ⟨ro, hro⟩ : ∃ r, Tr.root (es.take (i + 1)) = r := ⟨_, rfl⟩
      have htr0 := HPRE.out i hlt ad rfl
      rw [hro] at hrl hqr htr0
      obtain ⟨u0, hu0, _⟩ := info_parts info_u8t
      have hne : ∀ V, (binOp .neq 34 (.agg (bvs ro).toArray) (.agg (bvs ro).toArray)).run Tryd.prog V = .ok (.bool false) V := fun V => by
        rw [run_neq_bytes (P := Tryd.prog) V 34 5 32 Tryd.underlying34 Tryd.underlying5 hu0 (by kernel_rfl) (by kernel_rfl) ro ro hrl hrl]
        simp
      have hfacts : ∀ (V0 : World) (g : Nat), Keeps (fun _ => False) W V0 → b ≤ g →
          Hid (∀ V, Keeps (fun k => k = g) V0 V → Fro V b g i ps → Calls Tryd.prog 39 #[.pointer (some ⟨g, 0, none⟩), .slice rA xs.length rc] V fun e w' => e = .returned (.int .i64 0) ∧ Keeps (fun k => k = g) V0 w' ∧ Fro w' b g (i + 1) qs) ∧
          Hid (∀ V, Keeps (fun k => k = g) V0 V → Fro V b g (i + 1) qs → Calls Tryd.prog 36 #[.pointer (some ⟨g, 0, none⟩)] V fun e w' => e = .returned (.agg (bvs ro).toArray) ∧ Keeps (fun k => k = g) V0 w' ∧ Fro w' b g (i + 1) qs) ∧
          Hid (∀ V, Keeps (fun k => k = g) V0 V → Fro V b g (i + 1) qs → Calls Tryd.prog 33 #[.pointer (some ⟨g, 0, none⟩)] V fun e w' => e = .returned (.int .u64 ((i : Int) + 1)) ∧ Keeps (fun k => k = g) V0 w' ∧ Fro w' b g (i + 1) qs) ∧
          Hid (∀ V, Keeps (fun k => k = g) V0 V → Calls Tryd.prog 16 #[.slice (some ad) (i + 1) c] V fun e w' => e = .returned (.agg (bvs ro).toArray) ∧ Keeps (fun _ => False) V w') ∧
          Hid (∀ V, Keeps (fun k => k = g) V0 V → V.cell? (ad.add i) = some (.slice rA xs.length rc)) := fun V0 g hk hg => by
        have hlow : ∀ k, k < W.heap.size → ¬ k = g := fun k hkk e => by have := HB.out; omega
        have hW : ∀ V, Keeps (fun k => k = g) V0 V → Keeps (fun _ => False) W V := fun V hV => hk.trans' hV (fun k hkk e => hlow k hkk e)
        refine ⟨Lib.hid (fun V hV hF => ?_), Lib.hid (fun V hV hF => ?_), Lib.hid (fun V hV hF => ?_), Lib.hid (fun V hV => htr0 V (hW V hV)), Lib.hid (fun V hV => ?_)⟩
        · refine (fadd_any b g i ps rA rc xs V (HT.out.keeps (hW V hV) id id) hF (hsrc.keeps (hW V hV) (fun _ _ _ => id)) hcap.1 hcap.2 (by omega) (by omega) hplen (by have := HB.out; omega)).mono ?_
          rintro e w' ⟨h1, h2, h3⟩
          rw [hadp] at h2
          exact ⟨h1, hV.trans h3, h2⟩
        · refine (froot_any b g (i + 1) qs V (HT.out.keeps (hW V hV) id id) hF (by omega) hql).mono ?_
          rintro e w' ⟨h1, h3⟩
          rw [hqr] at h1
          exact ⟨h1, hV.trans' h3 (fun _ _ h => h.elim), hF.later h3⟩
        · refine (size_any b g (i + 1) qs V hF).mono ?_
          rintro e w' ⟨h1, h3⟩
          subst h3
          exact ⟨h1, hV, hF⟩
        · exact (RowsAt.keeps (rs := rs) HR.out (hW V hV) (fun _ _ => id)).cell i ⟨rA, rc, xs⟩ hr |>.elim (fun a h => by obtain ⟨e, h⟩ := h; injection e with e; subst e; exact h)
      obtain ⟨m, hm⟩ : ∃ m, xs.length = m := ⟨_, rfl⟩
      obtain ⟨R, hRR⟩ : ∃ R, bvs ro = R := ⟨_, rfl⟩
      rw [hm, hRR] at hfacts
      rw [hRR] at hne
      have HNE := Lib.hid hne
      have HFACTS := Lib.hid hfacts
      have hi20 : (i : Int) < 20 := by omega
      have hin : (i : Int) < n := by omega
      have hnc : (n : Int) ≤ c := by omega
      have HPLEN := Lib.hid hplen
      clear hr hcell hcap hsrc hl60 hqs hadp hql hqr hrl hro htr0 hu0 hne hfacts hm hRR hps hplen
      by_cases hik : i = k
      · subst hik
        have hik' : ((i : Int) == (i : Int)) = true := by simp
        have hsz := fun V (hV : Keeps (fun _ => False) wr V) => size_any b g0 i ps V (HF0.out.later hV)
        have hpe := fun V (hV : Keeps (fun _ => False) wr V) => peaks_any b g0 i ps V (HF0.out.later hV) (by rw [HPLEN.out]; have := On.ones_le 64 i; omega)
        have HSZ := Lib.hid hsz
        have HPE := Lib.hid hpe
        have hpall := HF0.out.all
        have HPALL := Lib.hid hpall
        obtain ⟨pn, hpn⟩ : ∃ q, ps.length = q := ⟨_, rfl⟩
        have HPN := Lib.hid hpn
        rw [hpn] at HPE
        clear hsz hpe hpall hpn
        go_wp2_with fail
        refine (HSZ.out _ (Keeps.refl _ _)).mono ?_
        rintro e w5 ⟨rfl, h5⟩
        obtain rfl : wr = w5 := h5.symm
        go_wp2_with fail
        refine (HPE.out _ (Keeps.refl _ _)).mono ?_
        rintro e w6 ⟨v, rfl, ho6, k6⟩
        obtain ⟨A6, c6, rfl⟩ := own_slice ho6
        have hp6 := PathAt.of_own' ho6 HPALL.out
        have hfr := from_any i A6 c6 ps w6 (by omega) hp6 HPLEN.out
        rw [HPN.out] at hfr
        have HFR := Lib.hid hfr
        have K6 := Lib.hid (HK0.out.trans k6)
        have k6s := k6.size
        clear ho6 hp6 hfr k6
        go_wp2_with fail
        refine HFR.out.mono ?_
        rintro e w7 ⟨g, rfl, hf7, k7⟩
        have HF := Lib.hid (hf7.base (b2 := b) (Nat.le_trans (Nat.le_of_lt (Nat.lt_of_le_of_lt HF0.out.lo HF0.out.lt)) k6s))
        have HK := Lib.hid (K6.out.trans k7)
        clear hf7 k7 HFR K6 HSZ HPE HF0 HK0
        obtain ⟨HADD, HROOT, HSIZE, HTR, HCELL⟩ := HFACTS.out w7 g HK.out HF.out.lo
        have hbg : b ≤ g := HF.out.lo
        go_wp2_with fail
        refine wp_region_stores 25 [5, 9, 19] [0, 1, 2, 3, 4, 5, 6, 7, 8, 10, 11, 12, 13, 9, 14, 15, 16, 17, 18, 20, 21, 22, 19, 23, 24] (fun V => Keeps (fun k => k = g) w7 V) (fun V => Fro V b g i ps) (by kernel_rfl) (by kernel_rfl) (fun _ _ h k => h.trans' k (fun _ _ h => h.elim)) (fun _ _ h k => h.later k) (((Keeps.refl _ _).drew)) (HF.out.later ((Keeps.refl _ _).drew)) ?_
        refine T_value (get_op rfl) (by rfl) (by rfl) (.pointer (some ⟨g, 0, none⟩)) (fun _ _ => by go_simp) ?_
        simp only [Act.put, List.setIfInBounds_toArray, List.set_cons_zero, List.set_cons_succ]
        refine T_quiet (get_op rfl) (by rfl) (by rfl) (by rfl) ?_
        intro K hK
        go_big_quiet_op
        first | go_big_quiet_on | go_big_quiet_call ((intro _; rfl))
        refine T_quiet (get_op rfl) (by rfl) (by rfl) (by rfl) ?_
        intro K hK
        go_big_quiet_op
        first | go_big_quiet_on | go_big_quiet_call ((intro _; rfl))
        refine T_quiet (get_op rfl) (by rfl) (by rfl) (by rfl) ?_
        intro K hK
        go_big_quiet_op
        first | go_big_quiet_on | go_big_quiet_call ((intro _; rfl))
        refine T_cell (get_op rfl) (by rfl) (by rfl) 55 (.tmp 44) (by rfl) (ad.add i) (by rfl) (.slice rA m rc) _ (fun V hV => HCELL.out V hV) Tryd.underlying55 rfl ?_
        simp only [Act.put, List.setIfInBounds_toArray, List.set_cons_zero, List.set_cons_succ]
        refine T_enter (get_op rfl) (by rfl) (by rfl) _ _ (.int .i64 0) (fun _ => by go_simp) (fun V => Fro V b g (i + 1) qs) (fun _ _ h k => h.later k) (fun V hb hf => HADD.out V hb hf) ?_
        simp only [Act.put, List.setIfInBounds_toArray, List.set_cons_zero, List.set_cons_succ]
        refine T_value (get_op rfl) (by rfl) (by rfl) (.bool false) (fun _ _ => by go_simp) ?_
        simp only [Act.put, List.setIfInBounds_toArray, List.set_cons_zero, List.set_cons_succ]
        refine T_quiet (get_op rfl) (by rfl) (by rfl) (by rfl) ?_
        intro K hK
        go_big_quiet_op
        first | go_big_quiet_on | go_big_quiet_call ((intro _; rfl))
        refine T_quiet (get_op rfl) (by rfl) (by rfl) (by rfl) ?_
        intro K hK
        go_big_quiet_op
        first | go_big_quiet_on | go_big_quiet_call ((intro _; rfl))
        refine T_quiet (get_op rfl) (by rfl) (by rfl) (by rfl) ?_
        intro K hK
        go_big_quiet_op
        first | go_big_quiet_on | go_big_quiet_call ((intro _; rfl))
        refine T_quiet (get_op rfl) (by rfl) (by rfl) (by rfl) ?_
        intro K hK
        go_big_quiet_op
        first | go_big_quiet_on | go_big_quiet_call ((intro _; rfl))
        refine T_quiet (get_op rfl) (by rfl) (by rfl) (by rfl) ?_
        intro K hK
        go_big_quiet_op
        first | go_big_quiet_on | go_big_quiet_call ((intro _; rfl))
        refine T_value (get_op rfl) (by rfl) (by rfl) (.slice (some ad) (i + 1) c) (fun _ _ => by go_simp; intro h; exfalso; have := h (by omega); omega) ?_
        simp only [Act.put, List.setIfInBounds_toArray, List.set_cons_zero, List.set_cons_succ]
        refine T_enter (get_op rfl) (by rfl) (by rfl) _ _ (.agg R.toArray) (fun _ => by go_simp) (fun V => Fro V b g (i + 1) qs) (fun _ _ h k => h.later k) (fun V hb hf => HROOT.out V hb hf) ?_
        simp only [Act.put, List.setIfInBounds_toArray, List.set_cons_zero, List.set_cons_succ]
        refine T_call (get_op rfl) (by rfl) (by rfl) _ _ (.agg R.toArray) (fun _ => by go_simp) (fun V hV => HTR.out V hV) ?_
        simp only [Act.put, List.setIfInBounds_toArray, List.set_cons_zero, List.set_cons_succ]
        refine T_eq (get_op rfl) (by rfl) (by rfl) .neq 34 _ (.tmp 50) (.tmp 55) (by rfl) R.toArray R.toArray (by rfl) (by rfl) (by kernel_rfl) (.bool false) (HNE.out) ?_
        simp only [Act.put, List.setIfInBounds_toArray, List.set_cons_zero, List.set_cons_succ]
        refine T_value (get_op rfl) (by rfl) (by rfl) (.bool false) (fun _ _ => by go_simp) ?_
        simp only [Act.put, List.setIfInBounds_toArray, List.set_cons_zero, List.set_cons_succ]
        refine T_quiet (get_op rfl) (by rfl) (by rfl) (by rfl) ?_
        intro K hK
        go_big_quiet_op
        first | go_big_quiet_on | go_big_quiet_call ((intro _; rfl))
        refine T_quiet (get_op rfl) (by rfl) (by rfl) (by rfl) ?_
        intro K hK
        go_big_quiet_op
        first | go_big_quiet_on | go_big_quiet_call ((intro _; rfl))
        refine T_quiet (get_op rfl) (by rfl) (by rfl) (by rfl) ?_
        intro K hK
        go_big_quiet_op
        first | go_big_quiet_on | go_big_quiet_call ((intro _; rfl))
        refine T_quiet (get_op rfl) (by rfl) (by rfl) (by rfl) ?_
        intro K hK
        go_big_quiet_op
        first | go_big_quiet_on | go_big_quiet_call ((intro _; rfl))
        refine T_quiet (get_op rfl) (by rfl) (by rfl) (by rfl) ?_
        intro K hK
        go_big_quiet_op
        first | go_big_quiet_on | go_big_quiet_call ((intro _; rfl))
        refine T_enter (get_op rfl) (by rfl) (by rfl) _ _ (.int .u64 ((i : Int) + 1)) (fun _ => by go_simp) (fun V => Fro V b g (i + 1) qs) (fun _ _ h k => h.later k) (fun V hb hf => HSIZE.out V hb hf) ?_
        simp only [Act.put, List.setIfInBounds_toArray, List.set_cons_zero, List.set_cons_succ]
        refine T_quiet (get_op rfl) (by rfl) (by rfl) (by rfl) ?_
        intro K hK
        go_big_quiet_op
        first | go_big_quiet_on | go_big_quiet_call ((intro _; rfl))
        refine T_quiet (get_op rfl) (by rfl) (by rfl) (by rfl) ?_
        intro K hK
        go_big_quiet_op
        first | go_big_quiet_on | go_big_quiet_call ((intro _; rfl))
        refine T_nil ?_
        intro V7 h7 f7
        simp only [List.drop_succ_cons, List.drop_zero]
        have K7 := Lib.hid (HK.out.trans' h7 (fun k hk e => by have := HB.out; omega))
        have F7 := Lib.hid f7
        clear h7 f7 HADD HROOT HSIZE HTR HCELL HF HK
        go_wp2_with fail
        go_roundw
        case rel => exact ⟨i + 1, g, by omega, rfl, by go_num, by rw [HQS.out]; exact F7, K7⟩
        case measure => simp [intOf]; omega
      · have hik' : ((i : Int) == (k : Int)) = false := by simp; omega
        have hikd : decide ((i : Int) = (k : Int)) = false := by simp; omega
        clear hik
        have HF := HF0
        have HK := HK0
        have hg0 := HF0.out.lo
        obtain ⟨g, hg⟩ : ∃ g, g0 = g := ⟨_, rfl⟩
        subst hg
        obtain ⟨HADD, HROOT, HSIZE, HTR, HCELL⟩ := HFACTS.out wr g0 HK.out HF.out.lo
        have hbg : b ≤ g0 := HF.out.lo
        go_wp2_with fail
        refine wp_region_stores 25 [5, 9, 19] [0, 1, 2, 3, 4, 5, 6, 7, 8, 10, 11, 12, 13, 9, 14, 15, 16, 17, 18, 20, 21, 22, 19, 23, 24] (fun V => Keeps (fun k => k = g0) wr V) (fun V => Fro V b g0 i ps) (by kernel_rfl) (by kernel_rfl) (fun _ _ h k => h.trans' k (fun _ _ h => h.elim)) (fun _ _ h k => h.later k) (((Keeps.refl _ _).drew)) (HF.out.later ((Keeps.refl _ _).drew)) ?_
        refine T_value (get_op rfl) (by rfl) (by rfl) (.pointer (some ⟨g0, 0, none⟩)) (fun _ _ => by go_simp) ?_
        simp only [Act.put, List.setIfInBounds_toArray, List.set_cons_zero, List.set_cons_succ]
        refine T_quiet (get_op rfl) (by rfl) (by rfl) (by rfl) ?_
        intro K hK
        go_big_quiet_op
        first | go_big_quiet_on | go_big_quiet_call ((intro _; rfl))
        refine T_quiet (get_op rfl) (by rfl) (by rfl) (by rfl) ?_
        intro K hK
        go_big_quiet_op
        first | go_big_quiet_on | go_big_quiet_call ((intro _; rfl))
        refine T_quiet (get_op rfl) (by rfl) (by rfl) (by rfl) ?_
        intro K hK
        go_big_quiet_op
        first | go_big_quiet_on | go_big_quiet_call ((intro _; rfl))
        refine T_cell (get_op rfl) (by rfl) (by rfl) 55 (.tmp 44) (by rfl) (ad.add i) (by rfl) (.slice rA m rc) _ (fun V hV => HCELL.out V hV) Tryd.underlying55 rfl ?_
        simp only [Act.put, List.setIfInBounds_toArray, List.set_cons_zero, List.set_cons_succ]
        refine T_enter (get_op rfl) (by rfl) (by rfl) _ _ (.int .i64 0) (fun _ => by go_simp) (fun V => Fro V b g0 (i + 1) qs) (fun _ _ h k => h.later k) (fun V hb hf => HADD.out V hb hf) ?_
        simp only [Act.put, List.setIfInBounds_toArray, List.set_cons_zero, List.set_cons_succ]
        refine T_value (get_op rfl) (by rfl) (by rfl) (.bool false) (fun _ _ => by go_simp) ?_
        simp only [Act.put, List.setIfInBounds_toArray, List.set_cons_zero, List.set_cons_succ]
        refine T_quiet (get_op rfl) (by rfl) (by rfl) (by rfl) ?_
        intro K hK
        go_big_quiet_op
        first | go_big_quiet_on | go_big_quiet_call ((intro _; rfl))
        refine T_quiet (get_op rfl) (by rfl) (by rfl) (by rfl) ?_
        intro K hK
        go_big_quiet_op
        first | go_big_quiet_on | go_big_quiet_call ((intro _; rfl))
        refine T_quiet (get_op rfl) (by rfl) (by rfl) (by rfl) ?_
        intro K hK
        go_big_quiet_op
        first | go_big_quiet_on | go_big_quiet_call ((intro _; rfl))
        refine T_quiet (get_op rfl) (by rfl) (by rfl) (by rfl) ?_
        intro K hK
        go_big_quiet_op
        first | go_big_quiet_on | go_big_quiet_call ((intro _; rfl))
        refine T_quiet (get_op rfl) (by rfl) (by rfl) (by rfl) ?_
        intro K hK
        go_big_quiet_op
        first | go_big_quiet_on | go_big_quiet_call ((intro _; rfl))
        refine T_value (get_op rfl) (by rfl) (by rfl) (.slice (some ad) (i + 1) c) (fun _ _ => by go_simp; intro h; exfalso; have := h (by omega); omega) ?_
        simp only [Act.put, List.setIfInBounds_toArray, List.set_cons_zero, List.set_cons_succ]
        refine T_enter (get_op rfl) (by rfl) (by rfl) _ _ (.agg R.toArray) (fun _ => by go_simp) (fun V => Fro V b g0 (i + 1) qs) (fun _ _ h k => h.later k) (fun V hb hf => HROOT.out V hb hf) ?_
        simp only [Act.put, List.setIfInBounds_toArray, List.set_cons_zero, List.set_cons_succ]
        refine T_call (get_op rfl) (by rfl) (by rfl) _ _ (.agg R.toArray) (fun _ => by go_simp) (fun V hV => HTR.out V hV) ?_
        simp only [Act.put, List.setIfInBounds_toArray, List.set_cons_zero, List.set_cons_succ]
        refine T_eq (get_op rfl) (by rfl) (by rfl) .neq 34 _ (.tmp 50) (.tmp 55) (by rfl) R.toArray R.toArray (by rfl) (by rfl) (by kernel_rfl) (.bool false) (HNE.out) ?_
        simp only [Act.put, List.setIfInBounds_toArray, List.set_cons_zero, List.set_cons_succ]
        refine T_value (get_op rfl) (by rfl) (by rfl) (.bool false) (fun _ _ => by go_simp) ?_
        simp only [Act.put, List.setIfInBounds_toArray, List.set_cons_zero, List.set_cons_succ]
        refine T_quiet (get_op rfl) (by rfl) (by rfl) (by rfl) ?_
        intro K hK
        go_big_quiet_op
        first | go_big_quiet_on | go_big_quiet_call ((intro _; rfl))
        refine T_quiet (get_op rfl) (by rfl) (by rfl) (by rfl) ?_
        intro K hK
        go_big_quiet_op
        first | go_big_quiet_on | go_big_quiet_call ((intro _; rfl))
        refine T_quiet (get_op rfl) (by rfl) (by rfl) (by rfl) ?_
        intro K hK
        go_big_quiet_op
        first | go_big_quiet_on | go_big_quiet_call ((intro _; rfl))
        refine T_quiet (get_op rfl) (by rfl) (by rfl) (by rfl) ?_
        intro K hK
        go_big_quiet_op
        first | go_big_quiet_on | go_big_quiet_call ((intro _; rfl))
        refine T_quiet (get_op rfl) (by rfl) (by rfl) (by rfl) ?_
        intro K hK
        go_big_quiet_op
        first | go_big_quiet_on | go_big_quiet_call ((intro _; rfl))
        refine T_enter (get_op rfl) (by rfl) (by rfl) _ _ (.int .u64 ((i : Int) + 1)) (fun _ => by go_simp) (fun V => Fro V b g0 (i + 1) qs) (fun _ _ h k => h.later k) (fun V hb hf => HSIZE.out V hb hf) ?_
        simp only [Act.put, List.setIfInBounds_toArray, List.set_cons_zero, List.set_cons_succ]
        refine T_quiet (get_op rfl) (by rfl) (by rfl) (by rfl) ?_
        intro K hK
        go_big_quiet_op
        first | go_big_quiet_on | go_big_quiet_call ((intro _; rfl))
        refine T_quiet (get_op rfl) (by rfl) (by rfl) (by rfl) ?_
        intro K hK
        go_big_quiet_op
        first | go_big_quiet_on | go_big_quiet_call ((intro _; rfl))
        refine T_nil ?_
        intro V7 h7 f7
        simp only [List.drop_succ_cons, List.drop_zero]
        have K7 := Lib.hid (HK.out.trans' h7 (fun k hk e => by have := HB.out; omega))
        have F7 := Lib.hid f7
        clear h7 f7 HADD HROOT HSIZE HTR HCELL HF HK
        go_wp2_with fail
        go_roundw
        case rel => exact ⟨i + 1, g0, by omega, rfl, by go_num, by rw [HQS.out]; exact F7, K7⟩
        case measure => simp [intOf]; omega
    · obtain rfl : i = n := by omega
      have hfr := froot_any b g0 i (Tr.pk (es.take i)) wr (HT.out.keeps HK0.out id id) HF0.out (by omega) (HPL.out i hi)
      rw [HPR.out, HALL.out] at hfr
      have htr := fun V (hV : Keeps (fun _ => False) wr V) => HR1.out V (HK0.out.trans hV)
      have hrl : (Tr.root es).length = 32 := Tr.root_length _
      obtain ⟨ro, hro⟩ : ∃ r, Tr.root es = r := ⟨_, rfl⟩
      rw [hro] at hfr htr hrl
      obtain ⟨u0, hu0, _⟩ := info_parts info_u8t
      have heq : ∀ V, (binOp .eql 34 (.agg (bvs ro).toArray) (.agg (bvs ro).toArray)).run Tryd.prog V = .ok (.bool true) V := fun V => by
        rw [run_eql_bytes (P := Tryd.prog) V 34 5 32 Tryd.underlying34 Tryd.underlying5 hu0 (by kernel_rfl) (by kernel_rfl) ro ro hrl hrl]
        simp
      obtain ⟨R, hRR⟩ : ∃ R, (bvs ro).toArray = R := ⟨_, rfl⟩
      rw [hRR] at hfr htr heq
      have HFR := Lib.hid hfr
      have HTR := Lib.hid htr
      have HEQ := Lib.hid heq
      clear hfr htr heq hRR hro hrl hu0
      go_wp2_with fail
      refine HFR.out.mono ?_
      rintro e w8 ⟨rfl, k8⟩
      go_wp2_with fail
      refine (HTR.out w8 k8).mono ?_
      rintro e w9 ⟨rfl, k9⟩
      have K9 := Lib.hid (HK0.out.trans (k8.trans k9))
      clear k8 k9
      go_wp2_with (refine wpList_eq_agg_w (by rfl) .eql 34 _ (.tmp 67) (.tmp 69) (by rfl) R R (by rfl) (by rfl) (by kernel_rfl) _ (HEQ.out _) ?_)
      go_ret
      exact ⟨rfl, keeps_below3 K9.out⟩
set_option maxRecDepth 100000 in
set_option maxHeartbeats 1000000 in
theorem froots_out (A : Option Addr) (m c : Nat) (x : Int) (W : World) (hT : Tabs W) (HFEW : Hid (∀ V, Keeps (fun _ => False) W V → Calls Tryd.prog 30 #[.slice A m c] V fun e w' => e = .returned (.bool false) ∧ w' = V)) :
    Calls Tryd.prog 6 #[.slice A m c, .int .u8 x] W fun e W' => e = .returned (.bool true) ∧ Below W.heap.size W W' := by
  have HAW := Lib.hid (awake5_any W hT)
  clear hT
  go_enter Tryd.func6, Tryd.ntmps6
  go_wp2_with fail
  refine HAW.out.mono ?_
  rintro e1 w1 ⟨rfl, k1⟩
  go_wp2_with fail
  refine (HFEW.out w1 k1).mono ?_
  rintro e2 w2 ⟨rfl, rfl⟩
  go_wp2
  go_ret
  exact ⟨rfl, keeps_below3 k1⟩
theorem froots_walk (A : Option Addr) (len c : Nat) (rs : List RowOf) (x : Int) (W : World) (hT : Tabs W) (h0 : IsRows W A len c rs) (h1 : (Lit.int .u8 x).wf = true) :
    Calls Tryd.prog 6 #[.slice A len c, .int .u8 x] W fun e W' => e = .returned (.bool true) ∧ Below W.heap.size W W' := by
  obtain ⟨rfl, hc, hmax, hR⟩ := h0
  have b1 := bounds_u8 h1
  obtain ⟨x, rfl⟩ := Int.eq_ofNat_of_zero_le b1.1
  have hfew : ∀ V, Keeps (fun _ => False) W V → Calls Tryd.prog 30 #[.slice A rs.length c] V fun e w' => e = .returned (.bool (fewB rs)) ∧ w' = V := fun V hk => few5_any A c rs V (hR.keeps hk (fun _ _ => id)) (by omega)
  cases hq : fewB rs with
  | false => rw [hq] at hfew; exact froots_out A _ c x W hT (Lib.hid hfew)
  | true =>
    rw [hq] at hfew
    exact froots_in A c rs x W hT hR (few_short hq).1 hc hmax (few_sixty hq) (by omega) (Lib.hid hfew)
end Go.Proofs.YtnnhbgaeohdojaaDoor
