/-
  The law FrontierOwn walked: its peaks are other memory than what was handed in, or told. WRITTEN BY wip/gen/mkfrow.py.
-/
import Derived.Test.YtnnhbgaeohdojaaDoorFrT
namespace Go.Proofs.YtnnhbgaeohdojaaDoor
open Go.RowKit Go.BigFrame
set_option linter.unusedVariables false

section
variable {P : Program} {ops : Array Oper} {B : World → Prop} {ls : List Nat} {E : Act → World → Prop} {k : Nat} {o : Oper} {rest : List Nat} {a : Act} {F : World → Prop}
/-- A cell is loaded that the region itself will store to. -/
theorem T_lcell (h0 : ops[k]? = some o) (hw : Region.wanted o (yielded ops a.tmps) = true) (hk : ls.contains k = true) (ty : TypeId) (x : Operand) (ho : o.op = .load ty x) (p : Addr) (hx : a.eval x = .pointer (some p)) (v : Value) (d : TypeDesc) (hF : Lasts F)
    (hc : ∀ w, B w → F w → w.cell? p = some v) (hu : P.underlying ty = some d) (hd : d.isRow = false) (h : wpT P ops B ls E rest (a.put o.dst v) F) : wpT P ops B ls E (k :: rest) a F := by
  refine T_loose h0 hw hk (fun u => u = v) (fun u w => F w) ⟨fun v => hF, fun w hb hf => ?_⟩ ?_
  · unfold execOp
    simp only [ho, hx, Instr.loadAt, Instr.sureAddr, Sem.run_bind, Sem.run_pure, Result.andThen_ok, run_loadVar_one w p ty d v (hc w hb hf) hu hd]
    exact ⟨hb, rfl, hf⟩
  · intro u hu
    subst hu
    exact h
end
theorem fl_length (l : List (List UInt8)) (h : ∀ p ∈ l, p.length = 32) (h1 : 1 ≤ l.length) : ∃ u : UInt8, (flat l)[0]? = some (.int .u8 (u.toNat : Int)) := by
  cases l with
  | nil => simp at h1
  | cons p l =>
    have hp := h p (by simp)
    cases p with
    | nil => simp at hp
    | cons u q => exact ⟨u, by simp [flat, bvs, bv]⟩
theorem Tr.peakRoot_length' (ps : List (List UInt8)) (h : ∀ p ∈ ps, p.length = 32) : (Tr.peakRoot ps).length = 32 := by
  unfold Tr.peakRoot
  cases hr : ps.reverse with
  | nil => rfl
  | cons r rs =>
    show (rs.foldl (fun h p => Tr.node p h) r).length = 32
    have h0 : r.length = 32 := h r (by rw [← List.mem_reverse, hr]; simp)
    clear hr
    induction rs generalizing r with
    | nil => exact h0
    | cons x rs ih => exact ih _ (Tr.node_length _ _)
set_option maxRecDepth 100000 in
set_option maxHeartbeats 1500000 in
theorem fown_in (A : Option Addr) (c : Nat) (rs : List RowOf) (x : Nat) (W : World) (hT : Tabs W) (hR : RowsAt W A rs) (h1 : 1 ≤ rs.length) (h20 : rs.length ≤ 20) (hc : rs.length ≤ c) (hmax : c ≤ 9223372036854775807) (h60 : ∀ r ∈ rs, r.2.2.length ≤ 60) (hx : x ≤ 255) (hx0 : x ≠ 0)
    (HFEW : Hid (∀ V, Keeps (fun _ => False) W V → Calls Tryd.prog 30 #[.slice A rs.length c] V fun e w' => e = .returned (.bool true) ∧ w' = V)) :
    Calls Tryd.prog 9 #[.slice A rs.length c, .int .u8 (x : Int)] W fun e W' => e = .returned (.bool true) ∧ Below W.heap.size W W' := by
  have HAW := Lib.hid (awake5_any W hT)
  obtain ⟨es, hes⟩ : ∃ es, ents rs = es := ⟨_, rfl⟩
  have hel : es.length = rs.length := by rw [← hes]; exact ents_length rs
  have hent : ∀ (i : Nat) (r : RowOf), rs[i]? = some r → Tr.addP i (Tr.pk (es.take i)) (Tr.leaf r.2.2) = Tr.pk (es.take (i + 1)) := fun i r hr => by
    have h1 : es[i]? = some r.2.2 := by rw [← hes]; unfold ents; rw [List.getElem?_map, hr]; rfl
    have h2 := (List.getElem?_eq_some_iff.1 h1).1
    rw [List.take_add_one, h1]
    show _ = Tr.pk (es.take i ++ [r.2.2])
    rw [Tr.pk_snoc, List.length_take, Nat.min_eq_left (by omega)]
  have hpl : ∀ i, i ≤ rs.length → (Tr.pk (es.take i)).length = On.ones 64 i := fun i hi => by
    rw [Tr.pk_length _ (by rw [List.length_take]; omega), List.length_take, Nat.min_eq_left (by omega)]
  obtain ⟨n, hn⟩ : ∃ n, rs.length = n := ⟨_, rfl⟩
  have HN := Lib.hid hn
  rw [hn] at HFEW hpl h1 h20 hc hel ⊢
  have HT := Lib.hid hT
  have HR := Lib.hid hR
  have H60 := Lib.hid h60
  have HENT := Lib.hid hent
  have HPL := Lib.hid hpl
  have hW2 : 2 ≤ W.heap.size := by have := hT.lt; omega
  have hn0 : ((n : Int) == 0) = false := by simp; omega
  have hnd : decide ((n : Int) = 0) = false := by simp; omega
  have hxx : ((x : Int) == 0) = false := by simp; omega
  have hxd : decide ((x : Int) = 0) = false := by simp; omega
  clear hent hpl hn hes hel hT hR h60
  go_enter Tryd.func9, Tryd.ntmps9
  go_wp2_with fail
  refine HAW.out.mono ?_
  rintro e1 w1 ⟨rfl, k1⟩
  go_wp2_with fail
  refine (HFEW.out w1 k1).mono ?_
  rintro e2 w2 ⟨rfl, h2⟩
  obtain rfl : w1 = w2 := h2.symm
  go_wp2_with fail
  refine (new_any w1).mono ?_
  rintro e3 w3 ⟨rfl, hf3, k3⟩
  have K3 := Lib.hid (k1.trans k3)
  obtain ⟨b, hb⟩ : ∃ q, w1.heap.size = q := ⟨_, rfl⟩
  rw [hb] at hf3 ⊢
  have HB : Hid (W.heap.size ≤ b) := Lib.hid (by rw [← hb]; exact k1.size)
  have HF3 := Lib.hid hf3
  clear HAW HFEW hf3 k3 k1 hb hn0 hnd hxx hxd
  go_wp2_with fail
  go_loopw [8] (fun iv wr => ∃ i : Nat, i ≤ n ∧ iv = .int .i64 (i : Int) ∧ Hid (Fro wr b b i (Tr.pk (es.take i))) ∧ Hid (Keeps (fun _ => False) W wr)) (fun iv _ => n - (intOf iv).toNat)
  case atStart => exact ⟨0, by omega, rfl, HF3, K3⟩
  case round =>
    clear HF3 K3
    obtain ⟨i, hi, rfl, HF0, HK0⟩ := hrel
    by_cases hlt : i < n
    · obtain ⟨r, hr⟩ : ∃ r, rs[i]? = some r := ⟨_, List.getElem?_eq_getElem (by rw [HN.out]; exact hlt)⟩
      obtain ⟨ad, e, hcell⟩ := HR.out.cell i r hr
      subst e
      have hcap := HR.out.cap r (List.mem_of_getElem? hr)
      have hsrc := HR.out.src r (List.mem_of_getElem? hr)
      have hl60 := H60.out r (List.mem_of_getElem? hr)
      have hadp := HENT.out i r hr
      obtain ⟨qs, hqs⟩ : ∃ qs, Tr.pk (es.take (i + 1)) = qs := ⟨_, rfl⟩
      have HQS := Lib.hid hqs
      have hplen := HPL.out i hi
      rw [hqs] at hadp
      obtain ⟨rA, rc, xs⟩ := r
      simp only at hcell hcap hsrc hl60 hadp
      have hadd := fadd_any b b i _ rA rc xs wr (HT.out.keeps HK0.out id id) HF0.out (hsrc.keeps HK0.out (fun _ _ _ => id)) hcap.1 hcap.2 (by omega) (by omega) hplen (by have := HB.out; omega)
      rw [hadp] at hadd
      have hcell2 : wr.cell? (ad.add i) = some (.slice rA xs.length rc) := by
        obtain ⟨a, e, h⟩ := (RowsAt.keeps (rs := rs) HR.out HK0.out (fun _ _ => id)).cell i ⟨rA, rc, xs⟩ hr
        injection e with e
        subst e
        exact h
      obtain ⟨m, hm⟩ : ∃ m, xs.length = m := ⟨_, rfl⟩
      rw [hm] at hadd hcell2
      have HADD := Lib.hid hadd
      have hin : (i : Int) < n := by omega
      clear hr hcell hcap hsrc hl60 hqs hadp hplen hadd hm
      go_wp2_with fail
      refine HADD.out.mono ?_
      rintro e w5 ⟨rfl, hf5, k5⟩
      have HF5 := Lib.hid hf5
      have K5 := Lib.hid (HK0.out.trans' k5 (fun k hk e => by have := HB.out; omega))
      clear hf5 k5 HADD
      go_wp2_with fail
      go_roundw
      case rel => exact ⟨i + 1, by omega, by go_num, by rw [HQS.out]; exact HF5, K5⟩
      case measure => simp [intOf]; omega
    · obtain rfl : i = n := by omega
      have hplen := HPL.out i hi
      obtain ⟨ps, hps⟩ : ∃ ps, Tr.pk (es.take i) = ps := ⟨_, rfl⟩
      rw [hps] at hplen HF0
      have hm1 : 1 ≤ ps.length := by
        rcases Nat.eq_zero_or_pos ps.length with h | h
        · have := Tr.ones_eq_zero 64 i (by show i < 18446744073709551616; omega) (by omega)
          omega
        · exact h
      have hm64 : ps.length ≤ 64 := by rw [hplen]; exact On.ones_le 64 i
      have hall := HF0.out.all
      obtain ⟨u1, hu1⟩ := fl_length ps hall hm1
      have hu1b : u1.toNat < 256 := u1.toNat_lt
      obtain ⟨z0, hz0⟩ : ∃ z, u1.toNat = z := ⟨_, rfl⟩
      rw [hz0] at hu1 hu1b
      have hro := froot_any b b i ps wr (HT.out.keeps HK0.out id id) HF0.out (by omega) hplen
      have hrl : (Tr.peakRoot ps).length = 32 := Tr.peakRoot_length' ps hall
      obtain ⟨ro, hroo⟩ : ∃ r, Tr.peakRoot ps = r := ⟨_, rfl⟩
      have hroot : ∀ base g V, Keeps (fun _ => False) W V → Fro V base g i ps → Calls Tryd.prog 36 #[.pointer (some ⟨g, 0, none⟩)] V fun e w' => e = .returned (.agg (bvs ro).toArray) ∧ Keeps (fun _ => False) V w' := fun base g V hk hf => by
        have h := froot_any base g i ps V (HT.out.keeps hk id id) hf (by omega) hplen
        rw [hroo] at h
        exact h
      rw [hroo] at hro hrl
      obtain ⟨s1, z1, o1⟩ := arr_hash ro hrl
      obtain ⟨Z, hZ, hz, hzs⟩ := zero_hash
      obtain ⟨u0, hu0, _⟩ := info_parts info_u8t
      have heq : ∀ V, (binOp .eql 34 (.agg (bvs ro).toArray) (.agg (bvs ro).toArray)).run Tryd.prog V = .ok (.bool true) V := fun V => by
        rw [run_eql_bytes (P := Tryd.prog) V 34 5 32 Tryd.underlying34 Tryd.underlying5 hu0 (by kernel_rfl) (by kernel_rfl) ro ro hrl hrl]
        simp
      have sr : (Tryd.prog.info? 34).map (·.size) = some (bvs ro).length := by rw [bvs_length, hrl]; exact size_hash'
      obtain ⟨R, hRR⟩ : ∃ R, bvs ro = R := ⟨_, rfl⟩
      rw [hRR] at hro hroot s1 z1 o1 heq sr
      obtain ⟨m, hm⟩ : ∃ m, ps.length = m := ⟨_, rfl⟩
      rw [hm] at hm1 hm64
      have HM := Lib.hid hm
      have HPLN := Lib.hid hplen
      have HALL := Lib.hid hall
      have HU1 := Lib.hid hu1
      have HRO := Lib.hid hro
      have HROOT := Lib.hid hroot
      have HEQ := Lib.hid heq
      have SR := Lib.hid sr
      have S1 := Lib.hid s1
      have ZZ := Lib.hid (hzs.trans z1.symm)
      have O1 := Lib.hid o1
      clear hro hroot heq sr s1 z1 o1 hzs hrl hroo hRR hu0 hZ hm hplen hps hall hu1 hz0
      go_wp2_with fail
      refine HRO.out.mono ?_
      rintro e w7 ⟨rfl, k7⟩
      obtain ⟨W8, hW8⟩ : ∃ V, w7.alloc (.cells Z 34) = V := ⟨_, rfl⟩
      obtain ⟨B9, hB9⟩ : ∃ q, w7.heap.size = q := ⟨_, rfl⟩
      have k8 : Keeps (fun _ => False) w7 W8 := by rw [← hW8]; exact (Keeps.refl _ _).alloc _
      have r8 : W8.heap[B9]? = some (.cells Z 34 (0, 0)) := by rw [← hW8, ← hB9]; exact heap_alloc_new w7 _
      obtain ⟨w9, hw9⟩ : ∃ V, W8.setRow B9 R.toArray = V := ⟨_, rfl⟩
      have ks9 : Keeps (fun k => k = B9) W8 w9 := by rw [← hw9]; exact Keeps.setRow B9 R.toArray
      have k59 : Keeps (fun _ => False) wr w9 := (k7.trans k8).trans' ks9 (fun k hk e => by have := k7.size; omega)
      have r9 : w9.heap[B9]? = some (.cells R.toArray 34 (0, 0)) := by rw [← hw9]; exact setRow_heap _ _ _ _ _ _ r8
      have hf9 := HF0.out.later k59
      have hpe := peaks_any b b i ps w9 hf9 (by rw [HM.out]; omega)
      rw [HM.out] at hpe
      have HPE := Lib.hid hpe
      have HF9 := Lib.hid hf9
      have RB9 := Lib.hid r9
      have K9 := Lib.hid (HK0.out.trans k59)
      have R8 := Lib.hid r8
      have hb9 : B9 < w9.heap.size := (Array.getElem?_eq_some_iff.1 r9).1
      clear k8 r8 ks9 k59 r9 k7 HRO hf9 hpe
      go_wp2_with (first
        | (refine wpList_store_row rfl 34 _ _ rfl B9 R.toArray rfl rfl 34 Z R8.out S1.out ZZ.out O1.out ?_)
        | (rw [hW8, hB9])
        | (rw [hw9]))
      refine HPE.out.mono ?_
      rintro e wp ⟨v, rfl, hop, kp⟩
      clear hW8 hw9 R8
      obtain ⟨gp, cp, rfl⟩ := own_top hop (by omega)
      have hgp9 : w9.heap.size ≤ gp := (own_block hop gp rfl).elim (fun _ h => h.2)
      have hgpp : gp < wp.heap.size := (own_block hop gp rfl).elim (fun _ h => (Array.getElem?_eq_some_iff.1 h.1).1)
      have hsz := size_any b b i ps wp (HF9.out.later kp)
      have hpa := PathAt.of_own' hop HALL.out
      have hfr := from_any i (some ⟨gp, 0, none⟩) cp ps wp (by omega) hpa HPLN.out
      rw [HM.out] at hfr
      have HOP := Lib.hid hop
      have HSZ := Lib.hid hsz
      have HFR := Lib.hid hfr
      have KP := Lib.hid kp
      have hm0 : ((m : Int) == 0) = false := by simp; omega
      have hmd : decide ((m : Int) = 0) = false := by simp; omega
      clear hop hsz hpa hfr kp HPE
      go_wp2_with fail
      refine HSZ.out.mono ?_
      rintro e wq ⟨rfl, hq⟩
      obtain rfl : wp = wq := hq.symm
      go_wp2_with fail
      refine HFR.out.mono ?_
      rintro e w10 ⟨g, rfl, hf10, k10⟩
      have ho10 := k10.owns HOP.out (fun _ _ => id)
      obtain ⟨cs, hrp⟩ : ∃ cs, Row w10 gp 34 cs := (own_block ho10 gp rfl).elim (fun cur h => ⟨cur.toList, by unfold Row; rw [h.1]⟩)
      have hc0 : cs[0]? = some (.int .u8 (z0 : Int)) := by
        rw [← hrp.cell 0]
        exact ho10.cells (g := gp) rfl 0 _ HU1.out
      have RP := Lib.hid hrp
      have HC0 : Hid (∀ V, Row V gp 34 cs → V.cell? ⟨gp, 0, none⟩ = some (.int .u8 (z0 : Int))) := Lib.hid (fun V hV => (hV.cell 0).trans hc0)
      have HST : Hid (∀ V (u : Value), Keeps (fun k => k = gp) w10 V → Row V gp 34 cs → (∃ old, V.cell? ⟨gp, 0, none⟩ = some old) ∧ V.frozen? ⟨gp, 0, none⟩ = false ∧ Keeps (fun k => k = gp) w10 (V.setCell ⟨gp, 0, none⟩ u) ∧ True) := Lib.hid (fun V u hk hr =>
        ⟨⟨_, (hr.cell 0).trans hc0⟩, hr.frozen 0, hk.setCell (p := ⟨gp, 0, none⟩) (fun _ => rfl) _, trivial⟩)
      have HF10 := Lib.hid hf10
      have K10 := Lib.hid k10
      have hm1' : (0 : Int) < m := by omega
      have hmp : 0 < m := by omega
      have hmcp : (m : Int) ≤ cp := by have := (own_cap ho10).2.1; omega
      have hx255 : (x : Int) ≤ 255 := by omega
      have hz255 : (z0 : Int) ≤ 255 := by omega
      clear ho10 hrp hc0 hf10 k10 HFR HSZ HOP
      go_wp2_with fail
      refine wp_region_stores 9 [3, 8] [0, 1, 2, 4, 6, 3, 5, 7, 8] (fun V => Keeps (fun k => k = gp) w10 V) (fun V => Row V gp 34 cs) (by kernel_rfl) (by kernel_rfl) (fun _ _ h k => h.trans' k (fun _ _ h => h.elim)) (Lasts.block _ _) (((Keeps.refl _ _).drew)) (RP.out) ?_
      refine T_value (get_op rfl) (by rfl) (by rfl) (.slice (some ⟨gp, 0, none⟩) m cp) (fun _ _ => by go_simp) ?_
      simp only [Act.put, List.setIfInBounds_toArray, List.set_cons_zero, List.set_cons_succ]
      refine T_value (get_op rfl) (by rfl) (by rfl) (.pointer (some ⟨gp, 0, none⟩)) (fun _ _ => by go_simp) ?_
      simp only [Act.put, List.setIfInBounds_toArray, List.set_cons_zero, List.set_cons_succ]
      refine T_value (get_op rfl) (by rfl) (by rfl) (.pointer (some ⟨gp, 0, none⟩)) (fun _ _ => by go_simp) ?_
      simp only [Act.put, List.setIfInBounds_toArray, List.set_cons_zero, List.set_cons_succ]
      refine T_value (get_op rfl) (by rfl) (by rfl) (.int .u8 (x : Int)) (fun _ _ => by go_simp) ?_
      simp only [Act.put, List.setIfInBounds_toArray, List.set_cons_zero, List.set_cons_succ]
      refine T_value (get_op rfl) (by rfl) (by rfl) (.pointer (some ⟨gp, 0, none⟩)) (fun _ _ => by go_simp) ?_
      simp only [Act.put, List.setIfInBounds_toArray, List.set_cons_zero, List.set_cons_succ]
      refine T_lcell (get_op rfl) (by rfl) (by rfl) 5 (.tmp 62) (by rfl) ⟨gp, 0, none⟩ (by rfl) (.int .u8 (z0 : Int)) _ (Lasts.block _ _) (fun V hb hf => HC0.out V hf) Tryd.underlying5 rfl ?_
      simp only [Act.put, List.setIfInBounds_toArray, List.set_cons_zero, List.set_cons_succ]
      refine T_quiet (get_op rfl) (by rfl) (by rfl) (by rfl) ?_
      intro K hK
      go_big_quiet_op
      first | go_big_quiet_on | go_big_quiet_call ((intro _; rfl))
      refine T_value (get_op rfl) (by rfl) (by rfl) (.pointer (some ⟨gp, 0, none⟩)) (fun _ _ => by go_simp) ?_
      simp only [Act.put, List.setIfInBounds_toArray, List.set_cons_zero, List.set_cons_succ]
      refine T_cell_store (get_op rfl) (by rfl) (by rfl) 5 (.tmp 67) (.tmp 65) (by rfl) (by rfl) ⟨gp, 0, none⟩ (by rfl) _ (by rfl) rfl rfl (by kernel_rfl) (fun V => True) Lasts.true (fun V hb hf => HST.out V _ hb hf) ?_
      refine T_nil ?_
      intro w11 h11 _
      simp only [List.drop_succ_cons, List.drop_zero]
      have k911 : Keeps (fun k => k = gp) w9 w11 := ((KP.out.trans K10.out).mono (fun _ _ h => h.elim)).trans h11
      have hf11 : Fro w11 b b i ps := HF9.out.keeps k911 (fun k _ hk e => by omega)
      have hg11 : Fro w11 wp.heap.size g i ps := HF10.out.keeps h11 (fun k hk _ e => by omega)
      have hr11 : w11.heap[B9]? = some (.cells R.toArray 34 (0, 0)) := (k911.block _ hb9 (by omega)).trans RB9.out
      have kw11 : Keeps (fun _ => False) W w11 := K9.out.trans' k911 (fun k hk e => by have := K9.out.size; omega)
      have HLD : Hid (∀ V, Later w11 V → V.rangeAt B9 0 R) := Lib.hid (fun V hV => rangeAt_row ((hV.out.block _ (Array.getElem?_eq_some_iff.1 hr11).1 id).trans hr11))
      have HROOT1 := Lib.hid (fun V (hV : Later w11 V) => HROOT.out b b V (kw11.trans hV.out) (hf11.later hV.out))
      have HROOT2 := Lib.hid (fun V (hV : Later w11 V) => HROOT.out wp.heap.size g V (kw11.trans hV.out) (hg11.later hV.out))
      have HSIZE : Hid (∀ V, Later w11 V → Calls Tryd.prog 33 #[.pointer (some ⟨g, 0, none⟩)] V fun e w' => e = .returned (.int .u64 (i : Int)) ∧ Keeps (fun _ => False) V w') := Lib.hid (fun V hV => (size_any wp.heap.size g i ps V (hg11.later hV.out)).mono fun e w' h => ⟨h.1, by rw [h.2]; exact Keeps.refl _ _⟩)
      have FIN : Hid (∀ V, Later w11 V → Keeps (fun _ => False) W V) := Lib.hid (fun V hV => kw11.trans hV.out)
      clear k911 hf11 hg11 hr11 kw11 h11 RP HC0 HST
      go_wp2_with fail
      refine wp_region_stores 19 [] [0, 1, 2, 3, 4, 5, 6, 7, 8, 9, 10, 11, 12, 13, 14, 15, 16, 17, 18] (Later w11) (fun _ => True) (by kernel_rfl) (by kernel_rfl) (Lasts.later w11) (Lasts.true) (⟨(Keeps.refl _ _).drew⟩) (trivial) ?_
      refine T_value (get_op rfl) (by rfl) (by rfl) (.pointer (some ⟨b, 0, none⟩)) (fun _ _ => by go_simp) ?_
      simp only [Act.put, List.setIfInBounds_toArray, List.set_cons_zero, List.set_cons_succ]
      refine T_call (get_op rfl) (by rfl) (by rfl) _ _ (.agg R.toArray) (fun _ => by go_simp) (fun V hV => HROOT1.out V hV) ?_
      simp only [Act.put, List.setIfInBounds_toArray, List.set_cons_zero, List.set_cons_succ]
      refine T_load (get_op rfl) (by rfl) (by rfl) 34 (.tmp 9) (by rfl) B9 0 (by rfl) R _ (fun V hV => HLD.out V hV) Tryd.underlying34 rfl SR.out ?_
      simp only [Act.put, List.setIfInBounds_toArray, List.set_cons_zero, List.set_cons_succ]
      refine T_eq (get_op rfl) (by rfl) (by rfl) .eql 34 _ (.tmp 69) (.tmp 70) (by rfl) R.toArray R.toArray (by rfl) (by rfl) (by kernel_rfl) (.bool true) (HEQ.out) ?_
      simp only [Act.put, List.setIfInBounds_toArray, List.set_cons_zero, List.set_cons_succ]
      refine T_quiet (get_op rfl) (by rfl) (by rfl) (by rfl) ?_
      intro K hK
      go_big_quiet_op
      first | go_big_quiet_on | go_big_quiet_call ((intro _; rfl))
      refine T_value (get_op rfl) (by rfl) (by rfl) (.pointer (some ⟨g, 0, none⟩)) (fun _ _ => by go_simp) ?_
      simp only [Act.put, List.setIfInBounds_toArray, List.set_cons_zero, List.set_cons_succ]
      refine T_call (get_op rfl) (by rfl) (by rfl) _ _ (.agg R.toArray) (fun _ => by go_simp) (fun V hV => HROOT2.out V hV) ?_
      simp only [Act.put, List.setIfInBounds_toArray, List.set_cons_zero, List.set_cons_succ]
      refine T_load (get_op rfl) (by rfl) (by rfl) 34 (.tmp 9) (by rfl) B9 0 (by rfl) R _ (fun V hV => HLD.out V hV) Tryd.underlying34 rfl SR.out ?_
      simp only [Act.put, List.setIfInBounds_toArray, List.set_cons_zero, List.set_cons_succ]
      refine T_eq (get_op rfl) (by rfl) (by rfl) .eql 34 _ (.tmp 74) (.tmp 75) (by rfl) R.toArray R.toArray (by rfl) (by rfl) (by kernel_rfl) (.bool true) (HEQ.out) ?_
      simp only [Act.put, List.setIfInBounds_toArray, List.set_cons_zero, List.set_cons_succ]
      refine T_value (get_op rfl) (by rfl) (by rfl) (.bool true) (fun _ _ => by go_simp) ?_
      simp only [Act.put, List.setIfInBounds_toArray, List.set_cons_zero, List.set_cons_succ]
      refine T_quiet (get_op rfl) (by rfl) (by rfl) (by rfl) ?_
      intro K hK
      go_big_quiet_op
      first | go_big_quiet_on | go_big_quiet_call ((intro _; rfl))
      refine T_value (get_op rfl) (by rfl) (by rfl) (.pointer (some ⟨g, 0, none⟩)) (fun _ _ => by go_simp) ?_
      simp only [Act.put, List.setIfInBounds_toArray, List.set_cons_zero, List.set_cons_succ]
      refine T_call (get_op rfl) (by rfl) (by rfl) _ _ (.int .u64 (i : Int)) (fun _ => by go_simp) (fun V hV => HSIZE.out V hV) ?_
      simp only [Act.put, List.setIfInBounds_toArray, List.set_cons_zero, List.set_cons_succ]
      refine T_quiet (get_op rfl) (by rfl) (by rfl) (by rfl) ?_
      intro K hK
      go_big_quiet_op
      first | go_big_quiet_on | go_big_quiet_call ((intro _; rfl))
      refine T_value (get_op rfl) (by rfl) (by rfl) (.int .i64 (i : Int)) (fun _ _ => by go_simp) ?_
      simp only [Act.put, List.setIfInBounds_toArray, List.set_cons_zero, List.set_cons_succ]
      refine T_quiet (get_op rfl) (by rfl) (by rfl) (by rfl) ?_
      intro K hK
      go_big_quiet_op
      first | go_big_quiet_on | go_big_quiet_call ((intro _; rfl))
      refine T_quiet (get_op rfl) (by rfl) (by rfl) (by rfl) ?_
      intro K hK
      go_big_quiet_op
      first | go_big_quiet_on | go_big_quiet_call ((intro _; rfl))
      refine T_value (get_op rfl) (by rfl) (by rfl) (.bool true) (fun _ _ => by go_simp) ?_
      simp only [Act.put, List.setIfInBounds_toArray, List.set_cons_zero, List.set_cons_succ]
      refine T_quiet (get_op rfl) (by rfl) (by rfl) (by rfl) ?_
      intro K hK
      go_big_quiet_op
      first | go_big_quiet_on | go_big_quiet_call ((intro _; rfl))
      refine T_nil ?_
      intro w12 h12 _
      have hfin := FIN.out w12 h12
      simp only [List.drop_succ_cons, List.drop_zero]
      go_wp2
      go_ret
      exact ⟨rfl, keeps_below3 hfin⟩
set_option maxRecDepth 100000 in
set_option maxHeartbeats 1000000 in
theorem fown_out (A : Option Addr) (m c : Nat) (x : Int) (W : World) (hT : Tabs W) (HFEW : Hid (∀ V, Keeps (fun _ => False) W V → Calls Tryd.prog 30 #[.slice A m c] V fun e w' => e = .returned (.bool false) ∧ w' = V)) :
    Calls Tryd.prog 9 #[.slice A m c, .int .u8 x] W fun e W' => e = .returned (.bool true) ∧ Below W.heap.size W W' := by
  have HAW := Lib.hid (awake5_any W hT)
  clear hT
  go_enter Tryd.func9, Tryd.ntmps9
  go_wp2_with fail
  refine HAW.out.mono ?_
  rintro e1 w1 ⟨rfl, k1⟩
  go_wp2_with fail
  refine (HFEW.out w1 k1).mono ?_
  rintro e2 w2 ⟨rfl, rfl⟩
  go_wp2
  go_ret
  exact ⟨rfl, keeps_below3 k1⟩
set_option maxRecDepth 100000 in
set_option maxHeartbeats 1000000 in
theorem fown_none (A : Option Addr) (c : Nat) (x : Int) (W : World) (hT : Tabs W) (HFEW : Hid (∀ V, Keeps (fun _ => False) W V → Calls Tryd.prog 30 #[.slice A 0 c] V fun e w' => e = .returned (.bool true) ∧ w' = V)) :
    Calls Tryd.prog 9 #[.slice A 0 c, .int .u8 x] W fun e W' => e = .returned (.bool true) ∧ Below W.heap.size W W' := by
  have HAW := Lib.hid (awake5_any W hT)
  clear hT
  go_enter Tryd.func9, Tryd.ntmps9
  go_wp2_with fail
  refine HAW.out.mono ?_
  rintro e1 w1 ⟨rfl, k1⟩
  go_wp2_with fail
  refine (HFEW.out w1 k1).mono ?_
  rintro e2 w2 ⟨rfl, rfl⟩
  go_wp2
  go_ret
  exact ⟨rfl, keeps_below3 k1⟩
set_option maxRecDepth 100000 in
set_option maxHeartbeats 1000000 in
theorem fown_zero (A : Option Addr) (m c : Nat) (W : World) (hT : Tabs W) (hm : 1 ≤ m) (HFEW : Hid (∀ V, Keeps (fun _ => False) W V → Calls Tryd.prog 30 #[.slice A m c] V fun e w' => e = .returned (.bool true) ∧ w' = V)) :
    Calls Tryd.prog 9 #[.slice A m c, .int .u8 0] W fun e W' => e = .returned (.bool true) ∧ Below W.heap.size W W' := by
  have HAW := Lib.hid (awake5_any W hT)
  have hn0 : ((m : Int) == 0) = false := by simp; omega
  have hnd : decide ((m : Int) = 0) = false := by simp; omega
  clear hT hm
  go_enter Tryd.func9, Tryd.ntmps9
  go_wp2_with fail
  refine HAW.out.mono ?_
  rintro e1 w1 ⟨rfl, k1⟩
  go_wp2_with fail
  refine (HFEW.out w1 k1).mono ?_
  rintro e2 w2 ⟨rfl, rfl⟩
  go_wp2
  go_ret
  exact ⟨rfl, keeps_below3 k1⟩
theorem fown_walk (A : Option Addr) (len c : Nat) (rs : List RowOf) (x : Int) (W : World) (hT : Tabs W) (h0 : IsRows W A len c rs) (h1 : (Lit.int .u8 x).wf = true) :
    Calls Tryd.prog 9 #[.slice A len c, .int .u8 x] W fun e W' => e = .returned (.bool true) ∧ Below W.heap.size W W' := by
  obtain ⟨rfl, hc, hmax, hR⟩ := h0
  have b1 := bounds_u8 h1
  obtain ⟨x, rfl⟩ := Int.eq_ofNat_of_zero_le b1.1
  have hfew : ∀ V, Keeps (fun _ => False) W V → Calls Tryd.prog 30 #[.slice A rs.length c] V fun e w' => e = .returned (.bool (fewB rs)) ∧ w' = V := fun V hk => few5_any A c rs V (hR.keeps hk (fun _ _ => id)) (by omega)
  cases hq : fewB rs with
  | false => rw [hq] at hfew; exact fown_out A _ c x W hT (Lib.hid hfew)
  | true =>
    rw [hq] at hfew
    rcases Nat.eq_zero_or_pos rs.length with hn | hn
    · rw [hn] at hfew ⊢
      exact fown_none A c x W hT (Lib.hid hfew)
    · rcases Nat.eq_zero_or_pos x with hx | hx
      · subst hx
        exact fown_zero A _ c W hT hn (Lib.hid hfew)
      · exact fown_in A c rs x W hT hR hn (few_short hq).1 hc hmax (few_sixty hq) (by omega) (by omega) (Lib.hid hfew)
end Go.Proofs.YtnnhbgaeohdojaaDoor
