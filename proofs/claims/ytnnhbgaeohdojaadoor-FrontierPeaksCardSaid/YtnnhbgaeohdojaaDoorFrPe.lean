/-
  The law FrontierPeaks walked: there are as many peaks as bits of the size that are 1, each the root of its part. WRITTEN BY wip/gen/mkfrpe.py.
-/
import Derived.Test.YtnnhbgaeohdojaaDoorFrT
import Derived.Test.YtnnhbgaeohdojaaDoorFrQ
namespace Go.Proofs.YtnnhbgaeohdojaaDoor
open Go.RowKit Go.BigFrame
set_option linter.unusedVariables false

theorem mk_hashes : ∀ r : Nat, r ≤ 5 → ∀ w, (Instr.makeSlice 28 (.int .i64 (r : Int)) (.int .i64 (r : Int))).run Tryd.prog w = .ok (.slice (some ⟨w.heap.size, 0, none⟩) r r) (w.alloc (.cells (flat (List.replicate r (List.replicate 32 0))).toArray 34)) := fun r hr w => by
  have h0 : (Instr.makeSlice 28 (.int .i64 ((0 : Nat) : Int)) (.int .i64 ((0 : Nat) : Int))).run Tryd.prog w = .ok (.slice (some ⟨w.heap.size, 0, none⟩) 0 0) (w.alloc (.cells (flat (List.replicate 0 (List.replicate 32 0))).toArray 34)) := by kernel_rfl
  have h1 : (Instr.makeSlice 28 (.int .i64 ((1 : Nat) : Int)) (.int .i64 ((1 : Nat) : Int))).run Tryd.prog w = .ok (.slice (some ⟨w.heap.size, 0, none⟩) 1 1) (w.alloc (.cells (flat (List.replicate 1 (List.replicate 32 0))).toArray 34)) := by kernel_rfl
  have h2 : (Instr.makeSlice 28 (.int .i64 ((2 : Nat) : Int)) (.int .i64 ((2 : Nat) : Int))).run Tryd.prog w = .ok (.slice (some ⟨w.heap.size, 0, none⟩) 2 2) (w.alloc (.cells (flat (List.replicate 2 (List.replicate 32 0))).toArray 34)) := by kernel_rfl
  have h3 : (Instr.makeSlice 28 (.int .i64 ((3 : Nat) : Int)) (.int .i64 ((3 : Nat) : Int))).run Tryd.prog w = .ok (.slice (some ⟨w.heap.size, 0, none⟩) 3 3) (w.alloc (.cells (flat (List.replicate 3 (List.replicate 32 0))).toArray 34)) := by kernel_rfl
  have h4 : (Instr.makeSlice 28 (.int .i64 ((4 : Nat) : Int)) (.int .i64 ((4 : Nat) : Int))).run Tryd.prog w = .ok (.slice (some ⟨w.heap.size, 0, none⟩) 4 4) (w.alloc (.cells (flat (List.replicate 4 (List.replicate 32 0))).toArray 34)) := by kernel_rfl
  have h5 : (Instr.makeSlice 28 (.int .i64 ((5 : Nat) : Int)) (.int .i64 ((5 : Nat) : Int))).run Tryd.prog w = .ok (.slice (some ⟨w.heap.size, 0, none⟩) 5 5) (w.alloc (.cells (flat (List.replicate 5 (List.replicate 32 0))).toArray 34)) := by kernel_rfl
  have : r = 0 ∨ r = 1 ∨ r = 2 ∨ r = 3 ∨ r = 4 ∨ r = 5 := by omega
  rcases this with rfl | rfl | rfl | rfl | rfl | rfl
  · exact h0
  · exact h1
  · exact h2
  · exact h3
  · exact h4
  · exact h5
theorem made_path (r : Nat) (hr : r ≤ 5) (w : World) : PathAt (w.alloc (.cells (flat (List.replicate r (List.replicate 32 0))).toArray 34)) (some ⟨w.heap.size, 0, none⟩) (List.replicate r (List.replicate 32 0)) := by
  have hall : ∀ p ∈ List.replicate r (List.replicate 32 (0 : UInt8)), p.length = 32 := fun p hp => by rw [(List.mem_replicate.1 hp).2]; rfl
  have hl := flat_length _ hall
  rw [List.length_replicate] at hl
  refine PathAt.of_own' (base := w.heap.size) (n := r) (c := r) (l := r) (e := 34) ⟨hl, .inr ⟨_, r, _, rfl, Nat.le_refl _, heap_alloc_new w _, Nat.le_refl _, by unfold maxLen; omega, by rw [List.size_toArray]; exact hl, ?_⟩⟩ hall
  simp [← hl]
/-- Which part comes, by the bit. -/
theorem ones_step (n d e : Nat) (hd : d = 32 ∨ d = 16 ∨ d = 8 ∨ d = 4 ∨ d = 2 ∨ d = 1) (he : d / 2 = e) (he0 : e ≠ 0) (hn : n ≤ 20) :
    (e = 16 ∨ e = 8 ∨ e = 4 ∨ e = 2 ∨ e = 1) ∧ (n / e % 2 = 1 → n / e * e = n / d * d + e ∧ n / d * d + e ≤ n ∧ On.ones 64 (n / e) = On.ones 64 (n / d) + 1) ∧ (n / e % 2 = 0 → n / e * e = n / d * d ∧ On.ones 64 (n / e) = On.ones 64 (n / d)) := by
  have h2 : n / e / 2 = n / d := by
    rw [Nat.div_div_eq_div_mul]
    congr 1
    omega
  have h3 := Tr.ones_half (n / e) (Nat.lt_of_le_of_lt (Nat.div_le_self _ _) (by omega))
  rw [h2] at h3
  refine ⟨by omega, fun h => ⟨?_, ?_, by omega⟩, fun h => ⟨?_, by omega⟩⟩ <;>
    (rcases hd with rfl | rfl | rfl | rfl | rfl | rfl <;> (subst he; simp at he0 h ⊢; try omega))
theorem part_of (es : List (List UInt8)) (n d e : Nat) (hn : es.length = n) (h20 : n ≤ 20) (hd : d = 32 ∨ d = 16 ∨ d = 8 ∨ d = 4 ∨ d = 2 ∨ d = 1) (he : d / 2 = e) (he0 : e ≠ 0) (ho : n / e % 2 = 1) :
    (Tr.pk es)[On.ones 64 (n / d)]? = some (Tr.root ((es.drop (n / d * d)).take e)) := by
  subst hn
  subst he
  rcases hd with rfl | rfl | rfl | rfl | rfl | rfl
  · exact Tr.pk_part es 4 (by omega) (by omega) ho
  · exact Tr.pk_part es 3 (by omega) (by omega) ho
  · exact Tr.pk_part es 2 (by omega) (by omega) ho
  · exact Tr.pk_part es 1 (by omega) (by omega) ho
  · exact Tr.pk_part es 0 (by omega) (by omega) ho
  · exact absurd rfl he0
set_option maxRecDepth 100000 in
set_option maxHeartbeats 1500000 in
theorem fpeaks_in (A : Option Addr) (c : Nat) (rs : List RowOf) (x : Nat) (W : World) (hT : Tabs W) (hR : RowsAt W A rs) (h20 : rs.length ≤ 20) (hc : rs.length ≤ c) (hmax : c ≤ 9223372036854775807) (h60 : ∀ r ∈ rs, r.2.2.length ≤ 60) (hx : x ≤ 255)
    (HFEW : Hid (∀ V, Keeps (fun _ => False) W V → Calls Tryd.prog 30 #[.slice A rs.length c] V fun e w' => e = .returned (.bool true) ∧ w' = V)) :
    Calls Tryd.prog 7 #[.slice A rs.length c, .int .u8 (x : Int)] W fun e W' => e = .returned (.bool true) ∧ Below W.heap.size W W' := by
  have hpre : ∀ p1 e, 1 ≤ e → p1 + e ≤ rs.length → ∀ ad, A = some ad → ∀ V, Keeps (fun _ => False) W V → Calls Tryd.prog 16 #[.slice (some (ad.add p1)) e (c - p1)] V fun ex w' => ex = .returned (.agg (bvs (Tr.root (((ents rs).drop p1).take e))).toArray) ∧ Keeps (fun _ => False) V w' := fun p1 e he hi ad hA V hk => by
    subst hA
    have h := root_any (some (ad.add p1)) (c - p1) ((rs.drop p1).take e) V (hT.keeps hk id id) (((hR.keeps hk (fun _ _ => id)).drop p1).take e) (by rw [List.length_take, List.length_drop]; omega) (by omega) (fun r hr => by have := h60 r (List.mem_of_mem_drop (List.mem_of_mem_take hr)); omega)
    rw [List.length_take, List.length_drop, Nat.min_eq_left (by omega), show ents ((rs.drop p1).take e) = ((ents rs).drop p1).take e by simp [ents, List.map_take, List.map_drop]] at h
    exact h
  have HPRE := Lib.hid hpre
  clear hpre
  have HAW := Lib.hid (awake5_any W hT)
  obtain ⟨es, hes⟩ : ∃ es, ents rs = es := ⟨_, rfl⟩
  have hel : es.length = rs.length := by rw [← hes]; exact ents_length rs
  have hent : ∀ (i : Nat) (r : RowOf), rs[i]? = some r → Tr.addP i (Tr.pk (es.take i)) (Tr.leaf r.2.2) = Tr.pk (es.take (i + 1)) := fun i r hr => by
    have h1 : es[i]? = some r.2.2 := by rw [← hes]; unfold ents; rw [List.getElem?_map, hr]; rfl
    have h2 := (List.getElem?_eq_some_iff.1 h1).1
    rw [List.take_add_one, h1]
    show _ = Tr.pk (es.take i ++ [r.2.2])
    rw [Tr.pk_snoc, List.length_take, Nat.min_eq_left (by omega)]
  have hpl : ∀ i, i ≤ rs.length → (Tr.pk (es.take i)).length = On.ones 64 i := fun i hi => by
    rw [Tr.pk_length _ (by rw [List.length_take]; omega), List.length_take, Nat.min_eq_left (by omega)]
  have HESS := Lib.hid hes
  obtain ⟨n, hn⟩ : ∃ n, rs.length = n := ⟨_, rfl⟩
  have HN := Lib.hid hn
  rw [hn] at HFEW hpl h20 hc hel ⊢
  have HEL := Lib.hid hel
  have HT := Lib.hid hT
  have HR := Lib.hid hR
  have H60 := Lib.hid h60
  have HENT := Lib.hid hent
  have HPL := Lib.hid hpl
  have hW2 : 2 ≤ W.heap.size := by have := hT.lt; omega
  obtain ⟨r, hr⟩ : ∃ r : Nat, x % 6 = r := ⟨_, rfl⟩
  have hr5 : r ≤ 5 := by omega
  have ht : Int.tmod (x : Int) 6 = (r : Int) := by rw [Int.tmod_eq_emod_of_nonneg (by omega)]; omega
  have htt : (x : Int) % 6 = (r : Int) := by omega
  clear hx hr
  go_enter Tryd.func7, Tryd.ntmps7
  go_wp2_with fail
  refine HAW.out.mono ?_
  rintro e1 w1 ⟨rfl, k1⟩
  go_wp2_with fail
  refine (HFEW.out w1 k1).mono ?_
  rintro e2 w2 ⟨rfl, h2⟩
  obtain rfl : w1 = w2 := h2.symm
  go_wp2_with fail
  refine (new_any w1).mono ?_
  rintro e3 w3 ⟨rfl, hf3, k3⟩
  have K3 := Lib.hid (k1.trans k3)
  obtain ⟨b, hb⟩ : ∃ q, w1.heap.size = q := ⟨_, rfl⟩
  rw [hb] at hf3 ⊢
  have HB : Hid (W.heap.size ≤ b) := Lib.hid (by rw [← hb]; exact k1.size)
  have HF3 := Lib.hid hf3
  clear HAW HFEW hf3 k3 k1 hb
  go_wp2_with fail
  go_loopw [8] (fun iv wr => ∃ i : Nat, i ≤ n ∧ iv = .int .i64 (i : Int) ∧ Hid (Fro wr b b i (Tr.pk (es.take i))) ∧ Hid (Keeps (fun _ => False) W wr)) (fun iv _ => n - (intOf iv).toNat)
  case atStart => exact ⟨0, by omega, rfl, HF3, K3⟩
  case round =>
    clear HF3 K3
    obtain ⟨i, hi, rfl, HF0, HK0⟩ := hrel
    by_cases hlt : i < n
    · obtain ⟨r, hr⟩ : ∃ r, rs[i]? = some r := ⟨_, List.getElem?_eq_getElem (by rw [HN.out]; exact hlt)⟩
      obtain ⟨ad, e, hcell⟩ := HR.out.cell i r hr
      subst e
      have hcap := HR.out.cap r (List.mem_of_getElem? hr)
      have hsrc := HR.out.src r (List.mem_of_getElem? hr)
      have hl60 := H60.out r (List.mem_of_getElem? hr)
      have hadp := HENT.out i r hr
      obtain ⟨qs, hqs⟩ : ∃ qs, Tr.pk (es.take (i + 1)) = qs := ⟨_, rfl⟩
      have HQS := Lib.hid hqs
      have hplen := HPL.out i hi
      rw [hqs] at hadp
      obtain ⟨rA, rc, xs⟩ := r
      simp only at hcell hcap hsrc hl60 hadp
      have hadd := fadd_any b b i _ rA rc xs wr (HT.out.keeps HK0.out id id) HF0.out (hsrc.keeps HK0.out (fun _ _ _ => id)) hcap.1 hcap.2 (by omega) (by omega) hplen (by have := HB.out; omega)
      rw [hadp] at hadd
      have hcell2 : wr.cell? (ad.add i) = some (.slice rA xs.length rc) := by
        obtain ⟨a, e, h⟩ := (RowsAt.keeps (rs := rs) HR.out HK0.out (fun _ _ => id)).cell i ⟨rA, rc, xs⟩ hr
        injection e with e
        subst e
        exact h
      obtain ⟨m, hm⟩ : ∃ m, xs.length = m := ⟨_, rfl⟩
      rw [hm] at hadd hcell2
      have HADD := Lib.hid hadd
      have hin : (i : Int) < n := by omega
      clear hr hcell hcap hsrc hl60 hqs hadp hplen hadd hm
      go_wp2_with fail
      refine HADD.out.mono ?_
      rintro e w5 ⟨rfl, hf5, k5⟩
      have HF5 := Lib.hid hf5
      have K5 := Lib.hid (HK0.out.trans' k5 (fun k hk e => by have := HB.out; omega))
      clear hf5 k5 HADD
      go_wp2_with fail
      go_roundw
      case rel => exact ⟨i + 1, by omega, by go_num, by rw [HQS.out]; exact HF5, K5⟩
      case measure => simp [intOf]; omega
    · obtain rfl : i = n := by omega
      have hplen := HPL.out i hi
      rw [List.take_of_length_le (by rw [HEL.out]; omega)] at hplen HF0
      obtain ⟨ps, hps⟩ : ∃ ps, Tr.pk es = ps := ⟨_, rfl⟩
      have HPS := Lib.hid hps
      rw [hps] at hplen HF0
      have hpe := peaks_any b b i ps wr HF0.out (by rw [hplen]; have := On.ones_le 64 i; omega)
      obtain ⟨m, hm⟩ : ∃ m, ps.length = m := ⟨_, rfl⟩
      rw [hm] at hpe hplen
      have hm64 : m ≤ 64 := by rw [hplen]; exact On.ones_le 64 i
      have HM := Lib.hid hm
      have HPLN := Lib.hid hplen
      have HPE := Lib.hid hpe
      have HALL := Lib.hid HF0.out.all
      clear hpe hm hplen hps
      go_wp2_with fail
      refine HPE.out.mono ?_
      rintro e wp ⟨v, rfl, hop, kp⟩
      obtain ⟨A9, c9, rfl⟩ := own_slice hop
      have hpa := PathAt.of_own' hop HALL.out
      have HPA := Lib.hid hpa
      have HC9 : Hid (m ≤ c9) := Lib.hid (own_cap hop).2.1
      have KP := Lib.hid (HK0.out.trans kp)
      clear hop kp hpa HPE HF0 HK0 hlt
      go_wp2_with fail
      go_loopw [10, 11, 12] (fun av kv bv wr => ∃ p1 k e : Nat, av = .int .i64 (p1 : Int) ∧ kv = .int .i64 (k : Int) ∧ bv = .int .i64 (e : Int) ∧ p1 ≤ 20 ∧ k ≤ 64 ∧ e ≤ 16 ∧ Hid (∃ d, (d = 32 ∨ d = 16 ∨ d = 8 ∨ d = 4 ∨ d = 2 ∨ d = 1) ∧ d / 2 = e ∧ p1 = i / d * d ∧ k = On.ones 64 (i / d)) ∧ Hid (Keeps (fun _ => False) wp wr)) (fun _ _ bv _ => (intOf bv).toNat)
      case atStart => exact ⟨0, 0, 16, rfl, rfl, rfl, by omega, by omega, by omega, Lib.hid ⟨32, .inl rfl, rfl, by rw [Nat.div_eq_of_lt (by omega)], by rw [Nat.div_eq_of_lt (by omega)]; exact (Tr.ones_none 64).symm⟩, Lib.hid (Keeps.refl _ _)⟩
      case round =>
        obtain ⟨p1, k, e, rfl, rfl, rfl, hp20, hk64, he16, HD, HK⟩ := hrel
        by_cases he0 : e = 0
        · subst he0
          obtain ⟨rfl, rfl⟩ : p1 = i ∧ k = m := by
            obtain ⟨d, hd, h1, h2, h3⟩ := HD.out
            obtain rfl : d = 1 := by omega
            rw [Nat.div_one, Nat.mul_one] at h2
            rw [Nat.div_one] at h3
            exact ⟨h2, by rw [h3]; exact HPLN.out.symm⟩
          have hmk := mk_hashes r hr5
          have hmp := made_path r hr5
          obtain ⟨ZR, hZR⟩ : ∃ Z, (flat (List.replicate r (List.replicate 32 (0 : UInt8)))).toArray = Z := ⟨_, rfl⟩
          rw [hZR] at hmp
          simp only [hZR] at hmk
          have HMP := Lib.hid hmp
          clear hmp hZR HD hk64 he16
          by_cases hrm : r = k
          · subst hrm
            have hfr := fun w => from_any p1 (some ⟨w.heap.size, 0, none⟩) r (List.replicate r (List.replicate 32 0)) _ (by omega) (HMP.out w) (by rw [List.length_replicate]; exact HPLN.out)
            simp only [List.length_replicate] at hfr
            have HFR := Lib.hid hfr
            clear hfr
            go_wp2_with fail
            refine (HFR.out _).mono ?_
            rintro ex w12 ⟨gg, rfl, _, k12⟩
            have hfin := ((KP.out.trans HK.out).alloc (.cells ZR 34)).trans k12
            clear hmk
            go_wp2
            go_ret
            exact ⟨rfl, keeps_below3 hfin⟩
          · have hrk : ((r : Int) == (k : Int)) = false := by simp; omega
            have hrkd : decide ((r : Int) = (k : Int)) = false := by simp; omega
            have hfr := fun A w => from_not p1 A r r w (by omega) (by omega) (by rw [← HPLN.out]; exact hrm)
            have HFR := Lib.hid hfr
            clear hfr hrm
            go_wp2_with fail
            refine (HFR.out _ _).mono ?_
            rintro ex w12 ⟨rfl, k12⟩
            have hfin := (KP.out.trans HK.out).alloc (.cells ZR 34)
            rw [← k12] at hfin
            clear hmk k12
            go_wp2
            go_ret
            exact ⟨rfl, keeps_below3 hfin⟩
        · obtain ⟨d, hd, hde, hp1, hk1⟩ := HD.out
          obtain ⟨hes5, hyes, hno⟩ := ones_step i d e hd hde he0 h20
          have hpart := fun ho => part_of es i d e HEL.out h20 hd hde he0 ho
          have HES : Hid (∃ d', (d' = 32 ∨ d' = 16 ∨ d' = 8 ∨ d' = 4 ∨ d' = 2 ∨ d' = 1) ∧ d' = e) := Lib.hid ⟨e, by omega, rfl⟩
          rw [← hp1, ← hk1] at hyes hno hpart
          obtain ⟨q, hq⟩ : ∃ q, i / e = q := ⟨_, rfl⟩
          have hq20 : q ≤ 20 := by rw [← hq]; exact Nat.le_trans (Nat.div_le_self _ _) h20
          rw [hq] at hyes hno hpart
          have hqt : Int.tdiv (i : Int) (e : Int) = (q : Int) := by rw [Int.tdiv_eq_ediv_of_nonneg (by omega), ← hq]; rfl
          have hqd : (i : Int) / (e : Int) = (q : Int) := by rw [← hq]; rfl
          have he1 : ((e : Int) == 0) = false := by simp; omega
          have he2 : ¬ ((e : Int) = 0) := by omega
          have he3 : (0 : Int) < e := by omega
          obtain ⟨o, ho⟩ : ∃ o, q % 2 = o := ⟨_, rfl⟩
          have hot : Int.tmod (q : Int) 2 = (o : Int) := by rw [Int.tmod_eq_emod_of_nonneg (by omega)]; omega
          have hoe : (q : Int) % 2 = (o : Int) := by omega
          obtain ⟨e2, he22⟩ : ∃ e2, e / 2 = e2 := ⟨_, rfl⟩
          have het : Int.tdiv (e : Int) 2 = (e2 : Int) := by rw [Int.tdiv_eq_ediv_of_nonneg (by omega)]; omega
          have hee : (e : Int) / 2 = (e2 : Int) := by omega
          have HQ := Lib.hid hq
          have HE2 := Lib.hid he22
          have he2e : e2 < e := by omega
          have HP1 := Lib.hid hyes
          have HP2 := Lib.hid hno
          have HP3 := Lib.hid hpart
          rw [ho] at hyes hno hpart
          clear HD hd hde hp1 hk1 hes5 hq he22
          by_cases ho1 : o = 1
          · subst ho1
            obtain ⟨h41, h42, h43⟩ := hyes rfl
            have hpart := hpart rfl
            rw [HPS.out] at hpart
            have hkm : k < m := by rw [← HM.out]; exact (List.getElem?_eq_some_iff.1 hpart).1
            obtain ⟨b6, o6, e6, hlie⟩ := HPA.out.lie k _ hpart
            subst e6
            obtain ⟨ad, rfl⟩ : ∃ ad, A = some ad := by
              obtain ⟨ad, e, _⟩ := HR.out.cell 0 rs[0] (by rw [List.getElem?_eq_getElem (by have := HN.out; omega)])
              exact ⟨ad, e⟩
            have htr := HPRE.out p1 e (by omega) (by rw [HN.out]; omega) ad rfl
            rw [HESS.out] at htr
            obtain ⟨ro, hro⟩ : ∃ ro, Tr.root ((es.drop p1).take e) = ro := ⟨_, rfl⟩
            have hrl : (Tr.root ((es.drop p1).take e)).length = 32 := Tr.root_length _
            rw [hro] at htr hlie hrl
            obtain ⟨u0, hu0, _⟩ := info_parts info_u8t
            have hne : ∀ V, (binOp .neq 34 (.agg (bvs ro).toArray) (.agg (bvs ro).toArray)).run Tryd.prog V = .ok (.bool false) V := fun V => by
              rw [run_neq_bytes (P := Tryd.prog) V 34 5 32 Tryd.underlying34 Tryd.underlying5 hu0 (by kernel_rfl) (by kernel_rfl) ro ro hrl hrl]
              simp
            have sr : (Tryd.prog.info? 34).map (·.size) = some (bvs ro).length := by rw [bvs_length, hrl]; exact size_hash'
            obtain ⟨R, hRR⟩ : ∃ R, bvs ro = R := ⟨_, rfl⟩
            rw [hRR] at htr hlie hne sr
            have SR := Lib.hid sr
            have HNE := Lib.hid hne
            have HLD : Hid (∀ V, Later wr V → V.rangeAt b6 (o6 + k * 32) R) := Lib.hid (fun V hV => range_keeps hlie (HK.out.trans hV.out) (fun _ _ => id))
            have HTR := Lib.hid (fun V (hV : Later wr V) => htr V ((KP.out.trans HK.out).trans hV.out))
            obtain ⟨hh, hhh⟩ : ∃ hh, p1 + e = hh := ⟨_, rfl⟩
            have hsum : (p1 : Int) + (e : Int) = (hh : Int) := by omega
            have hh20 : hh ≤ 20 := by omega
            have hhc : hh ≤ c := by omega
            have hkm' : (k : Int) < m := by omega
            have hkm2 : ¬ ((m : Int) ≤ (k : Int)) := by omega
            have hkd : decide ((m : Int) ≤ (k : Int)) = false := by rw [decide_eq_false_iff_not]; exact hkm2
            have hk9 : (m : Int) ≤ c9 := by have := HC9.out; omega
            have hph : p1 ≤ hh := by omega
            have hcp : ¬ (c = p1) := by omega
            have hhe : hh - p1 = e := by omega
            have H41 : Hid (i / e * e = hh ∧ On.ones 64 (i / e) = k + 1) := Lib.hid (by rw [HQ.out]; exact ⟨by omega, h43⟩)
            clear hyes hno hpart hlie htr hro hrl hu0 hne sr hRR HP1 HP2 HP3 h41 h42 h43
            go_wp2_with fail
            refine wp_region_stores 18 [] [0, 1, 2, 3, 4, 5, 6, 7, 8, 9, 10, 11, 12, 13, 14, 15, 16, 17] (Later wr) (fun _ => True) (by kernel_rfl) (by kernel_rfl) (Lasts.later wr) (Lasts.true) (⟨(Keeps.refl _ _).drew⟩) (trivial) ?_
            refine T_value (get_op rfl) (by rfl) (by rfl) (.int .i64 (k : Int)) (fun _ _ => by go_simp) ?_
            simp only [Act.put, List.setIfInBounds_toArray, List.set_cons_zero, List.set_cons_succ]
            refine T_quiet (get_op rfl) (by rfl) (by rfl) (by rfl) ?_
            intro K hK
            go_big_quiet_op
            first | go_big_quiet_on | go_big_quiet_call ((intro _; rfl))
            refine T_value (get_op rfl) (by rfl) (by rfl) (.int .i64 (m : Int)) (fun _ _ => by go_simp) ?_
            simp only [Act.put, List.setIfInBounds_toArray, List.set_cons_zero, List.set_cons_succ]
            refine T_value (get_op rfl) (by rfl) (by rfl) (.bool false) (fun _ _ => by go_simp) ?_
            simp only [Act.put, List.setIfInBounds_toArray, List.set_cons_zero, List.set_cons_succ]
            refine T_quiet (get_op rfl) (by rfl) (by rfl) (by rfl) ?_
            intro K hK
            go_big_quiet_op
            first | go_big_quiet_on | go_big_quiet_call ((intro _; rfl))
            refine T_quiet (get_op rfl) (by rfl) (by rfl) (by rfl) ?_
            intro K hK
            go_big_quiet_op
            first | go_big_quiet_on | go_big_quiet_call ((intro _; rfl))
            refine T_quiet (get_op rfl) (by rfl) (by rfl) (by rfl) ?_
            intro K hK
            go_big_quiet_op
            first | go_big_quiet_on | go_big_quiet_call ((intro _; rfl))
            refine T_quiet (get_op rfl) (by rfl) (by rfl) (by rfl) ?_
            intro K hK
            go_big_quiet_op
            first | go_big_quiet_on | go_big_quiet_call ((intro _; rfl))
            refine T_load (get_op rfl) (by rfl) (by rfl) 34 (.tmp 55) (by rfl) b6 (o6 + k * 32) (by rfl) R _ (fun V hV => HLD.out V hV) Tryd.underlying34 rfl SR.out ?_
            simp only [Act.put, List.setIfInBounds_toArray, List.set_cons_zero, List.set_cons_succ]
            refine T_quiet (get_op rfl) (by rfl) (by rfl) (by rfl) ?_
            intro K hK
            go_big_quiet_op
            first | go_big_quiet_on | go_big_quiet_call ((intro _; rfl))
            refine T_value (get_op rfl) (by rfl) (by rfl) (.int .i64 (p1 : Int)) (fun _ _ => by go_simp) ?_
            simp only [Act.put, List.setIfInBounds_toArray, List.set_cons_zero, List.set_cons_succ]
            refine T_value (get_op rfl) (by rfl) (by rfl) (.int .i64 (p1 : Int)) (fun _ _ => by go_simp) ?_
            simp only [Act.put, List.setIfInBounds_toArray, List.set_cons_zero, List.set_cons_succ]
            refine T_value (get_op rfl) (by rfl) (by rfl) (.int .i64 (e : Int)) (fun _ _ => by go_simp) ?_
            simp only [Act.put, List.setIfInBounds_toArray, List.set_cons_zero, List.set_cons_succ]
            refine T_value (get_op rfl) (by rfl) (by rfl) (.int .i64 (hh : Int)) (fun _ _ => by go_simp; rw [IntKind.wrap_i64]; omega) ?_
            simp only [Act.put, List.setIfInBounds_toArray, List.set_cons_zero, List.set_cons_succ]
            refine T_value (get_op rfl) (by rfl) (by rfl) (.slice (some (ad.add p1)) e (c - p1)) (fun _ _ => by go_simp) ?_
            simp only [Act.put, List.setIfInBounds_toArray, List.set_cons_zero, List.set_cons_succ]
            refine T_call (get_op rfl) (by rfl) (by rfl) _ _ (.agg R.toArray) (fun _ => by go_simp) (fun V hV => HTR.out V hV) ?_
            simp only [Act.put, List.setIfInBounds_toArray, List.set_cons_zero, List.set_cons_succ]
            refine T_eq (get_op rfl) (by rfl) (by rfl) .neq 34 _ (.tmp 56) (.tmp 63) (by rfl) R.toArray R.toArray (by rfl) (by rfl) (by kernel_rfl) (.bool false) (HNE.out) ?_
            simp only [Act.put, List.setIfInBounds_toArray, List.set_cons_zero, List.set_cons_succ]
            refine T_value (get_op rfl) (by rfl) (by rfl) (.bool false) (fun _ _ => by go_simp) ?_
            simp only [Act.put, List.setIfInBounds_toArray, List.set_cons_zero, List.set_cons_succ]
            refine T_nil ?_
            intro w8 h8 _
            simp only [List.drop_succ_cons, List.drop_zero]
            have K8 := Lib.hid (HK.out.trans h8.out)
            clear h8 HLD HTR
            go_wp2_with fail
            go_roundw
            case rel => exact ⟨hh, k + 1, e2, by first | rfl | (rw [hsum]) | go_num, by go_num, by first | rfl | go_num, by omega, by omega, by omega, Lib.hid (HES.out.elim (fun d h => ⟨d, h.1, by rw [h.2]; exact HE2.out, by rw [h.2]; exact H41.out.1.symm, by rw [h.2]; exact H41.out.2.symm⟩)), K8⟩
            case measure => simp [intOf]; omega
          · obtain rfl : o = 0 := by omega
            obtain ⟨h41, h42⟩ := hno rfl
            have H41 : Hid (i / e * e = p1 ∧ On.ones 64 (i / e) = k) := Lib.hid (by rw [HQ.out]; exact ⟨h41, h42⟩)
            clear hyes hno hpart HP1 HP2 HP3 h41 h42 ho1
            go_wp2_with fail
            go_roundw
            case rel => exact ⟨p1, k, e2, rfl, rfl, by first | rfl | go_num, by omega, by omega, by omega, Lib.hid (HES.out.elim (fun d h => ⟨d, h.1, by rw [h.2]; exact HE2.out, by rw [h.2]; exact H41.out.1.symm, by rw [h.2]; exact H41.out.2.symm⟩)), HK⟩
            case measure => simp [intOf]; omega
set_option maxRecDepth 100000 in
set_option maxHeartbeats 1000000 in
theorem fpeaks_out (A : Option Addr) (m c : Nat) (x : Int) (W : World) (hT : Tabs W) (HFEW : Hid (∀ V, Keeps (fun _ => False) W V → Calls Tryd.prog 30 #[.slice A m c] V fun e w' => e = .returned (.bool false) ∧ w' = V)) :
    Calls Tryd.prog 7 #[.slice A m c, .int .u8 x] W fun e W' => e = .returned (.bool true) ∧ Below W.heap.size W W' := by
  have HAW := Lib.hid (awake5_any W hT)
  clear hT
  go_enter Tryd.func7, Tryd.ntmps7
  go_wp2_with fail
  refine HAW.out.mono ?_
  rintro e1 w1 ⟨rfl, k1⟩
  go_wp2_with fail
  refine (HFEW.out w1 k1).mono ?_
  rintro e2 w2 ⟨rfl, rfl⟩
  go_wp2
  go_ret
  exact ⟨rfl, keeps_below3 k1⟩
theorem fpeaks_walk (A : Option Addr) (len c : Nat) (rs : List RowOf) (x : Int) (W : World) (hT : Tabs W) (h0 : IsRows W A len c rs) (h1 : (Lit.int .u8 x).wf = true) :
    Calls Tryd.prog 7 #[.slice A len c, .int .u8 x] W fun e W' => e = .returned (.bool true) ∧ Below W.heap.size W W' := by
  obtain ⟨rfl, hc, hmax, hR⟩ := h0
  have b1 := bounds_u8 h1
  obtain ⟨x, rfl⟩ := Int.eq_ofNat_of_zero_le b1.1
  have hfew : ∀ V, Keeps (fun _ => False) W V → Calls Tryd.prog 30 #[.slice A rs.length c] V fun e w' => e = .returned (.bool (fewB rs)) ∧ w' = V := fun V hk => few5_any A c rs V (hR.keeps hk (fun _ _ => id)) (by omega)
  cases hq : fewB rs with
  | false => rw [hq] at hfew; exact fpeaks_out A _ c x W hT (Lib.hid hfew)
  | true =>
    rw [hq] at hfew
    exact fpeaks_in A c rs x W hT hR (few_short hq).1 hc hmax (few_sixty5 hq) (by omega) (Lib.hid hfew)
end Go.Proofs.YtnnhbgaeohdojaaDoor
