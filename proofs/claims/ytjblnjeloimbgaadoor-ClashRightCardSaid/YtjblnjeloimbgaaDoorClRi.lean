/-
  The law ClashRight walked: what is shown is right. WRITTEN BY wip/gen/mkright.py.
-/
import Derived.Test.YtjblnjeloimbgaaDoorClSh
import Derived.Test.YtjblnjeloimbgaaDoorFork
import Derived.Test.YtjblnjeloimbgaaDoorClO
namespace Go.Proofs.YtjblnjeloimbgaaDoor
open Go.RowKit Go.BigFrame
set_option linter.unusedVariables false

set_option maxRecDepth 100000 in
set_option maxHeartbeats 8000000 in
theorem right_in (w4 n i m : Nat) (x : Int) (Aa Ab A B : Option Addr) (ca cb c d : Nat) (xs ys : List UInt8) (ps qs : List (List UInt8)) (o1 o2 : List UInt8) (W : World) (hT : Tabs W) (tx : x.tmod 4 = (w4 : Int)) (h4 : w4 < 4) (hx0 : 0 ≤ x ∧ x ≤ 255) (hn : n ≤ 18446744073709551615) (hm : m ≤ 18446744073709551615)
    (hsa : Src W Aa (bvs xs)) (hxs : xs.length ≤ 60) (hca : xs.length ≤ ca) (hca1 : ca ≤ 9223372036854775807) (hsb : Src W Ab (bvs ys)) (hys : ys.length ≤ 60) (hcb : ys.length ≤ cb) (hcb1 : cb ≤ 9223372036854775807) (hP : PathAt W A ps) (hps : ps.length ≤ 66) (hc : ps.length ≤ c) (hc1 : c ≤ 9223372036854775807) (hQ : PathAt W B qs) (hqs : qs.length ≤ 66) (hd : qs.length ≤ d) (hd1 : d ≤ 9223372036854775807) (ho1 : o1.length = 32) (ho2 : o2.length = 32) :
    Calls Tryd.prog 3 #[.int .u8 x, .int .u64 (n : Int), .int .u64 (i : Int), .slice Aa xs.length ca, .slice Ab ys.length cb, .slice A ps.length c, .slice B qs.length d, .int .u64 (m : Int), .agg (bvs o1).toArray, .agg (bvs o2).toArray] W fun e W' => e = .returned (.bool true) ∧ Below W.heap.size W W' := by
  obtain ⟨gx, hgx⟩ : ∃ q, W.heap.size = q := ⟨_, rfl⟩
  obtain ⟨RX, hRX⟩ : ∃ R, bvs o1 = R := ⟨_, rfl⟩
  obtain ⟨RY, hRY⟩ : ∃ R, bvs o2 = R := ⟨_, rfl⟩
  obtain ⟨W1, hW1⟩ : ∃ V, W.alloc (.cells RX.toArray 26) = V := ⟨_, rfl⟩
  obtain ⟨gy, hgy⟩ : ∃ q, W1.heap.size = q := ⟨_, rfl⟩
  obtain ⟨W2, hW2⟩ : ∃ V, W1.alloc (.cells RY.toArray 26) = V := ⟨_, rfl⟩
  have k1 : Keeps (fun _ => False) W W1 := by rw [← hW1]; exact (Keeps.refl _ _).alloc _
  have k2 : Keeps (fun _ => False) W1 W2 := by rw [← hW2]; exact (Keeps.refl _ _).alloc _
  have r1 : Row W2 gx 26 RX := (by show W1.heap[gx]? = _; rw [← hW1, ← hgx]; exact heap_alloc_new W _ : Row W1 gx 26 RX).keeps k2 id
  have r2 : Row W2 gy 26 RY := by rw [← hW2, ← hgy]; exact heap_alloc_new W1 _
  have lc1 : (Cl.cut w4 o1).length = 32 := by rw [Cl.cut_length, ho1]
  have lc2 : (Cl.cut w4 o2).length = 32 := by rw [Cl.cut_length, ho2]
  have hw : Cl.wid (w4 : Int) = w4 := by unfold Cl.wid; omega
  have hpa := fun V (hV : Keeps (fun _ => False) W V) => paths_shown (w4 : Int) n i Aa Ab ca cb xs ys A B c d ps qs V (hT.keeps hV id id) (hsa.keeps hV (fun _ _ _ => id)) hca hca1 (by omega) (hsb.keeps hV (fun _ _ _ => id)) hcb hcb1 (by omega) (hP.keeps hV (fun _ _ => id)) (hQ.keeps hV (fun _ _ => id)) hn hc hc1 hd hd1
  have hch := fun V (hV : Keeps (fun _ => False) W V) => chains_shown (w4 : Int) m n (Cl.cut w4 o1) (Cl.cut w4 o2) A B c d ps qs V (hT.keeps hV id id) lc1 lc2 (hP.keeps hV (fun _ _ => id)) (hQ.keeps hV (fun _ _ => id)) hm hn hc hc1 hd hd1
  have hcut1 := fun V => cut_any (w4 : Int) o1 ho1 V
  have hcut2 := fun V => cut_any (w4 : Int) o2 ho2 V
  rw [hw] at hpa hch hcut1 hcut2
  have hg1 : ∀ p, Cl.paths w4 n i xs ys ps qs = some p → Cl.Good (Cl.wid (w4 : Int)) p ∧ Cl.Short p := fun p h => ⟨by rw [hw]; exact Cl.paths_good hn hP.all hQ.all h, Cl.paths_short hP.all hQ.all (by omega) (by omega) h⟩
  have hg2 : ∀ p, Cl.chains w4 m n (Cl.cut w4 o1) (Cl.cut w4 o2) ps qs = some p → Cl.Good (Cl.wid (w4 : Int)) p ∧ Cl.Short p := fun p h => ⟨by rw [hw]; exact Cl.chains_good hn lc1 lc2 hP.all hQ.all h, Cl.chains_short hn lc1 lc2 hP.all hQ.all h⟩
  have hba := ckey_build m (Cl.cut w4 o1) lc1
  have hbb := ckey_build m (Cl.cut w4 o2) lc2
  obtain ⟨c1, hC1⟩ : ∃ q, Cl.paths w4 n i xs ys ps qs = q := ⟨_, rfl⟩
  obtain ⟨c2, hC2⟩ : ∃ q, Cl.chains w4 m n (Cl.cut w4 o1) (Cl.cut w4 o2) ps qs = q := ⟨_, rfl⟩
  obtain ⟨b1, hb1⟩ : ∃ b, c1.isSome = b := ⟨_, rfl⟩
  obtain ⟨b2, hb2⟩ : ∃ b, c2.isSome = b := ⟨_, rfl⟩
  obtain ⟨KA, hKA⟩ : ∃ K, (keyCells m (Cl.cut w4 o1)).toArray = K := ⟨_, rfl⟩
  obtain ⟨KB, hKB⟩ : ∃ K, (keyCells m (Cl.cut w4 o2)).toArray = K := ⟨_, rfl⟩
  obtain ⟨RC1, hRC1⟩ : ∃ R, bvs (Cl.cut w4 o1) = R := ⟨_, rfl⟩
  obtain ⟨RC2, hRC2⟩ : ∃ R, bvs (Cl.cut w4 o2) = R := ⟨_, rfl⟩
  obtain ⟨q1, hq1⟩ : ∃ q, xs.length = q := ⟨_, rfl⟩
  obtain ⟨q2, hq2⟩ : ∃ q, ys.length = q := ⟨_, rfl⟩
  obtain ⟨q3, hq3⟩ : ∃ q, ps.length = q := ⟨_, rfl⟩
  obtain ⟨q4, hq4⟩ : ∃ q, qs.length = q := ⟨_, rfl⟩
  obtain ⟨CZ, hCZ, hczs, hczn, hal⟩ := zero_clash
  rw [hC1] at hpa hg1
  rw [hC2] at hch hg2
  rw [hb1] at hpa
  rw [hb2] at hch
  rw [hKA, hKB] at hch
  rw [hKA, hRC1] at hba
  rw [hKB, hRC2] at hbb
  rw [hRC1, hRX] at hcut1
  rw [hRC2, hRY] at hcut2
  rw [hq1, hq2, hq3, hq4] at hpa
  rw [hq3, hq4] at hch
  rw [hq1] at hxs
  rw [hq2] at hys
  rw [hq3] at hps
  rw [hq4] at hqs
  rw [hRX, hRY, hq1, hq2, hq3, hq4]
  have hsx : (Tryd.prog.info? 26).map (·.size) = some RX.length := by rw [← hRX, bvs_length, ho1]; exact size_hash'
  have hsy : (Tryd.prog.info? 26).map (·.size) = some RY.length := by rw [← hRY, bvs_length, ho2]; exact size_hash'
  have HAW := Lib.hid (awake6_any W2 (hT.keeps (k1.trans k2) id id))
  have HT : Hid (∀ V, Keeps (fun _ => False) W V → Tabs V) := Lib.hid (fun V hk => hT.keeps hk id id)
  have HPA := Lib.hid hpa
  have HCHV := Lib.hid hch
  have HCUT1 := Lib.hid hcut1
  have HCUT2 := Lib.hid hcut2
  have HG1 := Lib.hid hg1
  have HG2 := Lib.hid hg2
  have HBA := Lib.hid hba
  have HBB := Lib.hid hbb
  have SRX := Lib.hid hsx
  have SRY := Lib.hid hsy
  have HAL := Lib.hid hal
  have CZS : Hid (∀ y : ShV, CZ.size = y.row.size) := Lib.hid (fun y => by rw [hczs]; rfl)
  have CZN := Lib.hid hczn
  have K2 := Lib.hid (k1.trans k2)
  have R1 := Lib.hid r1
  have R2 := Lib.hid r2
  have e1 : ¬ (60 : Int) < (q1 : Int) := by omega
  have e2 : ¬ (60 : Int) < (q2 : Int) := by omega
  have e3 : ¬ (66 : Int) < (q3 : Int) := by omega
  have e4 : ¬ (66 : Int) < (q4 : Int) := by omega
  have e5 : (w4 : Int) ≤ 3 := by omega
  have hxa := hx0.1
  have hxb := hx0.2
  clear hpa hch hcut1 hcut2 hg1 hg2 hba hbb hsx hsy hal hczs hczn k1 k2 r1 r2 hC1 hC2 hKA hKB hRC1 hRC2 hRX hRY hq1 hq2 hq3 hq4 lc1 lc2 hw hT hsa hsb hP hQ ho1 ho2 hxs hys hps hqs hca hca1 hcb hcb1 hc hc1 hd hd1 hx0 hn hm
  go_enter Tryd.func3, Tryd.ntmps3
  go_wp2_with fail
  refine HAW.out.mono ?_
  rintro e w3 ⟨rfl, k3⟩
  have K3 := Lib.hid (K2.out.trans k3)
  have R13 := Lib.hid (R1.out.keeps k3 id)
  have R23 := Lib.hid (R2.out.keeps k3 id)
  clear k3 HAW K2 R1 R2
  go_wp2_with fail
  refine (HPA.out w3 K3.out).mono ?_
  rintro e4 w4' ⟨x1, h41, sh1, k4⟩
  rw [show x1.val b1 = .tuple #[.agg x1.row, .bool b1] from rfl] at h41
  subst h41
  obtain ⟨g23, hg23⟩ : ∃ q, w4'.heap.size = q := ⟨_, rfl⟩
  obtain ⟨W5, hW5⟩ : ∃ V, w4'.alloc (.cells CZ 29) = V := ⟨_, rfl⟩
  obtain ⟨wr, hwr⟩ : ∃ V, W5.setRow g23 x1.row = V := ⟨_, rfl⟩
  have k5 : Keeps (fun _ => False) w4' W5 := by rw [← hW5]; exact (Keeps.refl _ _).alloc _
  have r5 : W5.heap[g23]? = some (.cells CZ 29 (0, 0)) := by rw [← hW5, ← hg23]; exact heap_alloc_new w4' _
  have k6 : Keeps (fun k => k = g23) W5 wr := by rw [← hwr]; exact Keeps.setRow _ _
  have r6 : wr.heap[g23]? = some (.cells x1.row 29 (0, 0)) := by rw [← hwr]; exact setRow_heap _ _ _ _ _ _ r5
  have k46 : Keeps (fun _ => False) w4' wr := k5.trans' k6 (fun i hi e => by omega)
  have KR := Lib.hid ((K3.out.trans k4).trans k46)
  have RXR := Lib.hid ((R13.out.keeps k4 id).keeps k46 id)
  have RYR := Lib.hid ((R23.out.keeps k4 id).keeps k46 id)
  have SR1 := Lib.hid (sh1.later k46)
  have GR23 := Lib.hid r6
  have Q5 := Lib.hid r5
  have SX1 : Hid ((Tryd.prog.info? 29).map (·.size) = some x1.row.size) := Lib.hid (ShV.size x1)
  clear k4 k5 r5 k6 r6 k46 sh1 HPA K3 R13 R23
  go_wp2_with (refine wpList_store_row rfl 29 _ _ rfl g23 x1.row rfl rfl 29 CZ Q5.out SX1.out (CZS.out x1) (ShV.one x1) ?_; rw [hwr])
  have HRX : Hid (∀ V, Later wr V → V.rangeAt gx 0 RX) := Lib.hid (fun V hV => rangeAt_row (RXR.out.keeps hV.out id))
  have HRY : Hid (∀ V, Later wr V → V.rangeAt gy 0 RY) := Lib.hid (fun V hV => rangeAt_row (RYR.out.keeps hV.out id))
  have HCH : Hid (∀ V, Later wr V → Calls Tryd.prog 9 #[.int .i64 (w4 : Int), .agg KA, .agg KB, .int .u64 (n : Int), .slice A q3 c, .slice B q4 d] V fun e w' => ∃ x : ShV, e = .returned (x.val b2) ∧ Later wr w' ∧ Shown c2 w' x ∧ Keeps (fun _ => False) V w') := Lib.hid (fun V hV => (HCHV.out V (KR.out.trans hV.out)).mono fun e w' ⟨x, h1, h2, h3⟩ => ⟨x, h1, ⟨hV.out.trans h3⟩, h2, h3⟩)
  clear HCHV Q5 SX1 hW5 hwr RXR RYR
  go_wp2_with fail
  refine wp_region_fork [14, 18, 19] [0, 1, 2, 3, 4, 5, 6, 7, 8, 9, 10, 11, 12, 13] 14 18 [15, 16, 17, 18, 19, 20] [14, 15, 16, 17, 19, 20] (Later wr) (fun _ => True) (by kernel_rfl) (by kernel_rfl) (Lasts.later wr) Lasts.true ⟨(Keeps.refl _ _).drew⟩ trivial ?_
  refine T_value (get_op rfl) (by rfl) (by rfl) (.int .i64 (w4 : Int)) (fun _ _ => by go_simp) ?_
  simp only [Act.put, List.setIfInBounds_toArray, List.set_cons_zero, List.set_cons_succ]
  refine T_value (get_op rfl) (by rfl) (by rfl) (.int .u64 (m : Int)) (fun _ _ => by go_simp) ?_
  simp only [Act.put, List.setIfInBounds_toArray, List.set_cons_zero, List.set_cons_succ]
  refine T_value (get_op rfl) (by rfl) (by rfl) (.int .i64 (w4 : Int)) (fun _ _ => by go_simp) ?_
  simp only [Act.put, List.setIfInBounds_toArray, List.set_cons_zero, List.set_cons_succ]
  refine T_load (get_op rfl) (by rfl) (by rfl) 26 (.tmp 18) (by rfl) gx 0 (by rfl) RX _ (fun V hV => HRX.out V hV) Tryd.underlying26 rfl SRX.out ?_
  simp only [Act.put, List.setIfInBounds_toArray, List.set_cons_zero, List.set_cons_succ]
  refine T_call (get_op rfl) (by rfl) (by rfl) _ _ (.agg RC1.toArray) (fun _ => by go_simp) (fun V hV => HCUT1.out V) ?_
  simp only [Act.put, List.setIfInBounds_toArray, List.set_cons_zero, List.set_cons_succ]
  refine T_built (get_op rfl) (by rfl) (by rfl) 35 [(0, .tmp 64), (1, .tmp 67)] (by rfl) [(0, .int .u64 (m : Int)), (1, .agg RC1.toArray)] (by rfl) (.agg KA) HBA.out ?_
  simp only [Act.put, List.setIfInBounds_toArray, List.set_cons_zero, List.set_cons_succ]
  refine T_value (get_op rfl) (by rfl) (by rfl) (.int .u64 (m : Int)) (fun _ _ => by go_simp) ?_
  simp only [Act.put, List.setIfInBounds_toArray, List.set_cons_zero, List.set_cons_succ]
  refine T_value (get_op rfl) (by rfl) (by rfl) (.int .i64 (w4 : Int)) (fun _ _ => by go_simp) ?_
  simp only [Act.put, List.setIfInBounds_toArray, List.set_cons_zero, List.set_cons_succ]
  refine T_load (get_op rfl) (by rfl) (by rfl) 26 (.tmp 19) (by rfl) gy 0 (by rfl) RY _ (fun V hV => HRY.out V hV) Tryd.underlying26 rfl SRY.out ?_
  simp only [Act.put, List.setIfInBounds_toArray, List.set_cons_zero, List.set_cons_succ]
  refine T_call (get_op rfl) (by rfl) (by rfl) _ _ (.agg RC2.toArray) (fun _ => by go_simp) (fun V hV => HCUT2.out V) ?_
  simp only [Act.put, List.setIfInBounds_toArray, List.set_cons_zero, List.set_cons_succ]
  refine T_built (get_op rfl) (by rfl) (by rfl) 35 [(0, .tmp 69), (1, .tmp 72)] (by rfl) [(0, .int .u64 (m : Int)), (1, .agg RC2.toArray)] (by rfl) (.agg KB) HBB.out ?_
  simp only [Act.put, List.setIfInBounds_toArray, List.set_cons_zero, List.set_cons_succ]
  refine T_value (get_op rfl) (by rfl) (by rfl) (.int .u64 (n : Int)) (fun _ _ => by go_simp) ?_
  simp only [Act.put, List.setIfInBounds_toArray, List.set_cons_zero, List.set_cons_succ]
  refine T_value (get_op rfl) (by rfl) (by rfl) (.slice A q3 c) (fun _ _ => by go_simp) ?_
  simp only [Act.put, List.setIfInBounds_toArray, List.set_cons_zero, List.set_cons_succ]
  refine T_value (get_op rfl) (by rfl) (by rfl) (.slice B q4 d) (fun _ _ => by go_simp) ?_
  simp only [Act.put, List.setIfInBounds_toArray, List.set_cons_zero, List.set_cons_succ]
  refine T_nil ?_
  intro _ _ _
  refine ⟨?_, ?_⟩
  · skip
    refine T_enterR (get_op rfl) (by rfl) (by rfl) _ _ (fun x : ShV => x.val b2) (ShV.inj b2) (fun _ => by go_simp) (fun x w => Shown c2 w x) (fun x => Shown.lasts c2 x) (fun V hb hf => (HCH.out V hb).mono fun e w' ⟨x, h1, h2, h3, h4⟩ => ⟨x, h1, h2, h3⟩) ?_
    intro x2
    rw [show x2.val b2 = (.tuple #[.agg x2.row, .bool b2]) from rfl]
    simp only [Act.put, List.setIfInBounds_toArray, List.set_cons_zero, List.set_cons_succ]
    refine T_value (get_op rfl) (by rfl) (by rfl) (.tuple #[.agg x2.row, .bool b2]) (fun _ _ => by go_simp) ?_
    simp only [Act.put, List.setIfInBounds_toArray, List.set_cons_zero, List.set_cons_succ]
    refine T_value (get_op rfl) (by rfl) (by rfl) (.agg x2.row) (fun _ _ => by go_simp) ?_
    simp only [Act.put, List.setIfInBounds_toArray, List.set_cons_zero, List.set_cons_succ]
    refine T_value (get_op rfl) (by rfl) (by rfl) (.bool b2) (fun _ _ => by go_simp) ?_
    simp only [Act.put, List.setIfInBounds_toArray, List.set_cons_zero, List.set_cons_succ]
    refine T_alloc (get_op rfl) (by rfl) (by rfl) 29 CZ (by rfl) HAL.out (Lasts.later wr) (Shown.lasts c2 x2) wr.heap.size (fun V hV => hV.out.size) ?_
    intro g25 hge
    simp only [Act.put, List.setIfInBounds_toArray, List.set_cons_zero, List.set_cons_succ]
    refine T_store (get_op rfl) (by rfl) (by rfl) 29 (.tmp 25) (.tmp 78) (by rfl) (by rfl) g25 (by rfl) x2.row CZ (by rfl) 29 (ShV.size x2) (CZS.out x2) (ShV.one x2) (fun V => Shown c2 V x2 ∧ V.heap[g25]? = some (.cells x2.row 29 (0, 0))) ((Shown.lasts c2 x2).and (Lasts.block _ _)) (fun V hb hf => ⟨hf.2, ⟨hb.out.trans' (Keeps.setRow _ _) (fun i hi h => by omega)⟩, hf.1.setRow hf.2 CZN.out _, setRow_heap _ _ _ _ _ _ hf.2⟩) ?_
    refine T_value (get_op rfl) (by rfl) (by rfl) (.bool b2) (fun _ _ => by go_simp) ?_
    simp only [Act.put, List.setIfInBounds_toArray, List.set_cons_zero, List.set_cons_succ]
    refine T_nil ?_
    intro V8 h8 f8
    have KV := Lib.hid (KR.out.trans h8.out)
    have SH1 := Lib.hid (SR1.out.later h8.out)
    have SH2 := Lib.hid f8.1
    have G25 := Lib.hid f8.2
    have G23 := Lib.hid ((h8.out.block _ (Array.getElem?_eq_some_iff.1 GR23.out).1 id).trans GR23.out)
    clear h8 f8 SR1 GR23 KR
    cases c1 with
    | none =>
      obtain rfl : b1 = false := hb1.symm
      cases c2 with
      | none =>
        obtain rfl : b2 = false := hb2.symm
        have KE := KV
        go_wp2_with (first
            | (refine wpList_load_row_w (by rfl) 29 (.tmp 23) (by rfl) g23 (by rfl) 29 x1.row (0, 0) _ G23.out Tryd.underlying29 rfl (ShV.size x1) ?_)
            | (refine wpList_load_row_w (by rfl) 29 (.tmp 25) (by rfl) g25 (by rfl) 29 x2.row (0, 0) _ G25.out Tryd.underlying29 rfl (ShV.size x2) ?_))
        go_ret
        exact ⟨rfl, KE.out.below (Nat.le_refl _) (fun k hk => id)⟩
      | some p2 =>
        obtain rfl : b2 = true := hb2.symm
        have HGD2 := Lib.hid (HG2.out p2 rfl)
        go_wp2_with (first
            | (refine wpList_load_row_w (by rfl) 29 (.tmp 23) (by rfl) g23 (by rfl) 29 x1.row (0, 0) _ G23.out Tryd.underlying29 rfl (ShV.size x1) ?_)
            | (refine wpList_load_row_w (by rfl) 29 (.tmp 25) (by rfl) g25 (by rfl) 29 x2.row (0, 0) _ G25.out Tryd.underlying29 rfl (ShV.size x2) ?_))
        refine (check_shown (w4 : Int) p2 x2 V8 (HT.out V8 KV.out) SH2.out HGD2.out.1 HGD2.out.2).mono ?_
        rintro e10 w10 ⟨rfl, k10⟩
        have KE := Lib.hid (KV.out.trans k10)
        clear k10
        go_wp2_with fail
        go_ret
        exact ⟨rfl, KE.out.below (Nat.le_refl _) (fun k hk => id)⟩
    | some p1 =>
      obtain rfl : b1 = true := hb1.symm
      have HGD1 := Lib.hid (HG1.out p1 rfl)
      cases c2 with
      | none =>
        obtain rfl : b2 = false := hb2.symm
        go_wp2_with (first
            | (refine wpList_load_row_w (by rfl) 29 (.tmp 23) (by rfl) g23 (by rfl) 29 x1.row (0, 0) _ G23.out Tryd.underlying29 rfl (ShV.size x1) ?_)
            | (refine wpList_load_row_w (by rfl) 29 (.tmp 25) (by rfl) g25 (by rfl) 29 x2.row (0, 0) _ G25.out Tryd.underlying29 rfl (ShV.size x2) ?_))
        refine (check_shown (w4 : Int) p1 x1 V8 (HT.out V8 KV.out) SH1.out HGD1.out.1 HGD1.out.2).mono ?_
        rintro e9 w9 ⟨rfl, k9⟩
        have KE := Lib.hid (KV.out.trans k9)
        have G25 := Lib.hid ((k9.block _ (Array.getElem?_eq_some_iff.1 G25.out).1 id).trans G25.out)
        have SH2 := Lib.hid (SH2.out.later k9)
        clear k9
        go_wp2_with (first
            | (refine wpList_load_row_w (by rfl) 29 (.tmp 23) (by rfl) g23 (by rfl) 29 x1.row (0, 0) _ G23.out Tryd.underlying29 rfl (ShV.size x1) ?_)
            | (refine wpList_load_row_w (by rfl) 29 (.tmp 25) (by rfl) g25 (by rfl) 29 x2.row (0, 0) _ G25.out Tryd.underlying29 rfl (ShV.size x2) ?_))
        go_ret
        exact ⟨rfl, KE.out.below (Nat.le_refl _) (fun k hk => id)⟩
      | some p2 =>
        obtain rfl : b2 = true := hb2.symm
        have HGD2 := Lib.hid (HG2.out p2 rfl)
        go_wp2_with (first
            | (refine wpList_load_row_w (by rfl) 29 (.tmp 23) (by rfl) g23 (by rfl) 29 x1.row (0, 0) _ G23.out Tryd.underlying29 rfl (ShV.size x1) ?_)
            | (refine wpList_load_row_w (by rfl) 29 (.tmp 25) (by rfl) g25 (by rfl) 29 x2.row (0, 0) _ G25.out Tryd.underlying29 rfl (ShV.size x2) ?_))
        refine (check_shown (w4 : Int) p1 x1 V8 (HT.out V8 KV.out) SH1.out HGD1.out.1 HGD1.out.2).mono ?_
        rintro e9 w9 ⟨rfl, k9⟩
        have KE := Lib.hid (KV.out.trans k9)
        have G25 := Lib.hid ((k9.block _ (Array.getElem?_eq_some_iff.1 G25.out).1 id).trans G25.out)
        have SH2 := Lib.hid (SH2.out.later k9)
        clear k9
        go_wp2_with (first
            | (refine wpList_load_row_w (by rfl) 29 (.tmp 23) (by rfl) g23 (by rfl) 29 x1.row (0, 0) _ G23.out Tryd.underlying29 rfl (ShV.size x1) ?_)
            | (refine wpList_load_row_w (by rfl) 29 (.tmp 25) (by rfl) g25 (by rfl) 29 x2.row (0, 0) _ G25.out Tryd.underlying29 rfl (ShV.size x2) ?_))
        refine (check_shown (w4 : Int) p2 x2 w9 (HT.out w9 KE.out) SH2.out HGD2.out.1 HGD2.out.2).mono ?_
        rintro e10 w10 ⟨rfl, k10⟩
        have KE := Lib.hid (KE.out.trans k10)
        clear k10
        go_wp2_with fail
        go_ret
        exact ⟨rfl, KE.out.below (Nat.le_refl _) (fun k hk => id)⟩
  · skip
    refine T_alloc (get_op rfl) (by rfl) (by rfl) 29 CZ (by rfl) HAL.out (Lasts.later wr) (Lasts.true) wr.heap.size (fun V hV => hV.out.size) ?_
    intro g25 hge
    simp only [Act.put, List.setIfInBounds_toArray, List.set_cons_zero, List.set_cons_succ]
    refine T_enterR (get_op rfl) (by rfl) (by rfl) _ _ (fun x : ShV => x.val b2) (ShV.inj b2) (fun _ => by go_simp) (fun x w => Shown c2 w x ∧ w.heap[g25]? = some (.cells CZ 29 (0, 0))) (fun x => (Shown.lasts c2 x).and (Lasts.block _ _)) (fun V hb hf => (HCH.out V hb).mono fun e w' ⟨x, h1, h2, h3, h4⟩ => ⟨x, h1, h2, h3, Lasts.block _ _ _ _ hf.2 h4⟩) ?_
    intro x2
    rw [show x2.val b2 = (.tuple #[.agg x2.row, .bool b2]) from rfl]
    simp only [Act.put, List.setIfInBounds_toArray, List.set_cons_zero, List.set_cons_succ]
    refine T_value (get_op rfl) (by rfl) (by rfl) (.tuple #[.agg x2.row, .bool b2]) (fun _ _ => by go_simp) ?_
    simp only [Act.put, List.setIfInBounds_toArray, List.set_cons_zero, List.set_cons_succ]
    refine T_value (get_op rfl) (by rfl) (by rfl) (.agg x2.row) (fun _ _ => by go_simp) ?_
    simp only [Act.put, List.setIfInBounds_toArray, List.set_cons_zero, List.set_cons_succ]
    refine T_value (get_op rfl) (by rfl) (by rfl) (.bool b2) (fun _ _ => by go_simp) ?_
    simp only [Act.put, List.setIfInBounds_toArray, List.set_cons_zero, List.set_cons_succ]
    refine T_store (get_op rfl) (by rfl) (by rfl) 29 (.tmp 25) (.tmp 78) (by rfl) (by rfl) g25 (by rfl) x2.row CZ (by rfl) 29 (ShV.size x2) (CZS.out x2) (ShV.one x2) (fun V => Shown c2 V x2 ∧ V.heap[g25]? = some (.cells x2.row 29 (0, 0))) ((Shown.lasts c2 x2).and (Lasts.block _ _)) (fun V hb hf => ⟨hf.2, ⟨hb.out.trans' (Keeps.setRow _ _) (fun i hi h => by omega)⟩, hf.1.setRow hf.2 CZN.out _, setRow_heap _ _ _ _ _ _ hf.2⟩) ?_
    refine T_value (get_op rfl) (by rfl) (by rfl) (.bool b2) (fun _ _ => by go_simp) ?_
    simp only [Act.put, List.setIfInBounds_toArray, List.set_cons_zero, List.set_cons_succ]
    refine T_nil ?_
    intro V8 h8 f8
    have KV := Lib.hid (KR.out.trans h8.out)
    have SH1 := Lib.hid (SR1.out.later h8.out)
    have SH2 := Lib.hid f8.1
    have G25 := Lib.hid f8.2
    have G23 := Lib.hid ((h8.out.block _ (Array.getElem?_eq_some_iff.1 GR23.out).1 id).trans GR23.out)
    clear h8 f8 SR1 GR23 KR
    cases c1 with
    | none =>
      obtain rfl : b1 = false := hb1.symm
      cases c2 with
      | none =>
        obtain rfl : b2 = false := hb2.symm
        have KE := KV
        go_wp2_with (first
            | (refine wpList_load_row_w (by rfl) 29 (.tmp 23) (by rfl) g23 (by rfl) 29 x1.row (0, 0) _ G23.out Tryd.underlying29 rfl (ShV.size x1) ?_)
            | (refine wpList_load_row_w (by rfl) 29 (.tmp 25) (by rfl) g25 (by rfl) 29 x2.row (0, 0) _ G25.out Tryd.underlying29 rfl (ShV.size x2) ?_))
        go_ret
        exact ⟨rfl, KE.out.below (Nat.le_refl _) (fun k hk => id)⟩
      | some p2 =>
        obtain rfl : b2 = true := hb2.symm
        have HGD2 := Lib.hid (HG2.out p2 rfl)
        go_wp2_with (first
            | (refine wpList_load_row_w (by rfl) 29 (.tmp 23) (by rfl) g23 (by rfl) 29 x1.row (0, 0) _ G23.out Tryd.underlying29 rfl (ShV.size x1) ?_)
            | (refine wpList_load_row_w (by rfl) 29 (.tmp 25) (by rfl) g25 (by rfl) 29 x2.row (0, 0) _ G25.out Tryd.underlying29 rfl (ShV.size x2) ?_))
        refine (check_shown (w4 : Int) p2 x2 V8 (HT.out V8 KV.out) SH2.out HGD2.out.1 HGD2.out.2).mono ?_
        rintro e10 w10 ⟨rfl, k10⟩
        have KE := Lib.hid (KV.out.trans k10)
        clear k10
        go_wp2_with fail
        go_ret
        exact ⟨rfl, KE.out.below (Nat.le_refl _) (fun k hk => id)⟩
    | some p1 =>
      obtain rfl : b1 = true := hb1.symm
      have HGD1 := Lib.hid (HG1.out p1 rfl)
      cases c2 with
      | none =>
        obtain rfl : b2 = false := hb2.symm
        go_wp2_with (first
            | (refine wpList_load_row_w (by rfl) 29 (.tmp 23) (by rfl) g23 (by rfl) 29 x1.row (0, 0) _ G23.out Tryd.underlying29 rfl (ShV.size x1) ?_)
            | (refine wpList_load_row_w (by rfl) 29 (.tmp 25) (by rfl) g25 (by rfl) 29 x2.row (0, 0) _ G25.out Tryd.underlying29 rfl (ShV.size x2) ?_))
        refine (check_shown (w4 : Int) p1 x1 V8 (HT.out V8 KV.out) SH1.out HGD1.out.1 HGD1.out.2).mono ?_
        rintro e9 w9 ⟨rfl, k9⟩
        have KE := Lib.hid (KV.out.trans k9)
        have G25 := Lib.hid ((k9.block _ (Array.getElem?_eq_some_iff.1 G25.out).1 id).trans G25.out)
        have SH2 := Lib.hid (SH2.out.later k9)
        clear k9
        go_wp2_with (first
            | (refine wpList_load_row_w (by rfl) 29 (.tmp 23) (by rfl) g23 (by rfl) 29 x1.row (0, 0) _ G23.out Tryd.underlying29 rfl (ShV.size x1) ?_)
            | (refine wpList_load_row_w (by rfl) 29 (.tmp 25) (by rfl) g25 (by rfl) 29 x2.row (0, 0) _ G25.out Tryd.underlying29 rfl (ShV.size x2) ?_))
        go_ret
        exact ⟨rfl, KE.out.below (Nat.le_refl _) (fun k hk => id)⟩
      | some p2 =>
        obtain rfl : b2 = true := hb2.symm
        have HGD2 := Lib.hid (HG2.out p2 rfl)
        go_wp2_with (first
            | (refine wpList_load_row_w (by rfl) 29 (.tmp 23) (by rfl) g23 (by rfl) 29 x1.row (0, 0) _ G23.out Tryd.underlying29 rfl (ShV.size x1) ?_)
            | (refine wpList_load_row_w (by rfl) 29 (.tmp 25) (by rfl) g25 (by rfl) 29 x2.row (0, 0) _ G25.out Tryd.underlying29 rfl (ShV.size x2) ?_))
        refine (check_shown (w4 : Int) p1 x1 V8 (HT.out V8 KV.out) SH1.out HGD1.out.1 HGD1.out.2).mono ?_
        rintro e9 w9 ⟨rfl, k9⟩
        have KE := Lib.hid (KV.out.trans k9)
        have G25 := Lib.hid ((k9.block _ (Array.getElem?_eq_some_iff.1 G25.out).1 id).trans G25.out)
        have SH2 := Lib.hid (SH2.out.later k9)
        clear k9
        go_wp2_with (first
            | (refine wpList_load_row_w (by rfl) 29 (.tmp 23) (by rfl) g23 (by rfl) 29 x1.row (0, 0) _ G23.out Tryd.underlying29 rfl (ShV.size x1) ?_)
            | (refine wpList_load_row_w (by rfl) 29 (.tmp 25) (by rfl) g25 (by rfl) 29 x2.row (0, 0) _ G25.out Tryd.underlying29 rfl (ShV.size x2) ?_))
        refine (check_shown (w4 : Int) p2 x2 w9 (HT.out w9 KE.out) SH2.out HGD2.out.1 HGD2.out.2).mono ?_
        rintro e10 w10 ⟨rfl, k10⟩
        have KE := Lib.hid (KE.out.trans k10)
        clear k10
        go_wp2_with fail
        go_ret
        exact ⟨rfl, KE.out.below (Nat.le_refl _) (fun k hk => id)⟩
set_option maxRecDepth 100000 in
theorem right_long (x : Int) (n i m q1 q2 q3 q4 : Nat) (Aa Ab A B : Option Addr) (ca cb c d : Nat) (o1 o2 : List UInt8) (W : World) (hT : Tabs W) (h : 60 < q1 ∨ 60 < q2 ∨ 66 < q3 ∨ 66 < q4) :
    Calls Tryd.prog 3 #[.int .u8 x, .int .u64 (n : Int), .int .u64 (i : Int), .slice Aa q1 ca, .slice Ab q2 cb, .slice A q3 c, .slice B q4 d, .int .u64 (m : Int), .agg (bvs o1).toArray, .agg (bvs o2).toArray] W fun e W' => e = .returned (.bool true) ∧ Below W.heap.size W W' := by
  obtain ⟨RX, hRX⟩ : ∃ R, (bvs o1).toArray = R := ⟨_, rfl⟩
  obtain ⟨RY, hRY⟩ : ∃ R, (bvs o2).toArray = R := ⟨_, rfl⟩
  obtain ⟨W1, hW1⟩ : ∃ V, W.alloc (.cells RX 26) = V := ⟨_, rfl⟩
  obtain ⟨W2, hW2⟩ : ∃ V, W1.alloc (.cells RY 26) = V := ⟨_, rfl⟩
  have k1 : Keeps (fun _ => False) W W1 := by rw [← hW1]; exact (Keeps.refl _ _).alloc _
  have k2 : Keeps (fun _ => False) W1 W2 := by rw [← hW2]; exact (Keeps.refl _ _).alloc _
  have HAW := Lib.hid (awake6_any W2 (hT.keeps (k1.trans k2) id id))
  have K2 := Lib.hid (k1.trans k2)
  rw [hRX, hRY]
  clear k1 k2 hT hRX hRY
  go_enter Tryd.func3, Tryd.ntmps3
  go_wp2_with fail
  refine HAW.out.mono ?_
  rintro e w3 ⟨rfl, k3⟩
  have K3 := Lib.hid (K2.out.trans k3)
  clear k3 HAW K2
  by_cases h1 : 60 < q1
  · have e1 : (60 : Int) < (q1 : Int) := by omega
    clear h
    go_wp2_with fail
    go_ret
    exact ⟨rfl, K3.out.below (Nat.le_refl _) (fun k hk => id)⟩
  · have e1 : ¬ (60 : Int) < (q1 : Int) := by omega
    by_cases h2 : 60 < q2
    · have e2 : (60 : Int) < (q2 : Int) := by omega
      clear h
      go_wp2_with fail
      go_ret
      exact ⟨rfl, K3.out.below (Nat.le_refl _) (fun k hk => id)⟩
    · have e2 : ¬ (60 : Int) < (q2 : Int) := by omega
      by_cases h3 : 66 < q3
      · have e3 : (66 : Int) < (q3 : Int) := by omega
        clear h
        go_wp2_with fail
        go_ret
        exact ⟨rfl, K3.out.below (Nat.le_refl _) (fun k hk => id)⟩
      · have e3 : ¬ (66 : Int) < (q3 : Int) := by omega
        have e4 : (66 : Int) < (q4 : Int) := by omega
        clear h
        go_wp2_with fail
        go_ret
        exact ⟨rfl, K3.out.below (Nat.le_refl _) (fun k hk => id)⟩
theorem right_walk (x n i : Int) (Aa : Option Addr) (la ca : Nat) (za : List Int) (Ab : Option Addr) (lb cb : Nat) (zb : List Int) (A : Option Addr) (l c : Nat) (ps : List (List UInt8)) (B : Option Addr) (l2 d : Nat) (qs : List (List UInt8)) (m : Int) (o1 o2 : List UInt8) (W : World) (hT : Tabs W) (wx : (Lit.int .u8 x).wf = true) (wn : (Lit.int .u64 n).wf = true) (wi : (Lit.int .u64 i).wf = true)
    (ha : IsRowU .u8 W Aa la ca za) (hb : IsRowU .u8 W Ab lb cb zb) (hp : IsHashes W A l c ps) (hq : IsHashes W B l2 d qs) (wm : (Lit.int .u64 m).wf = true) (ho1 : o1.length = 32) (ho2 : o2.length = 32) :
    Calls Tryd.prog 3 #[.int .u8 x, .int .u64 n, .int .u64 i, .slice Aa la ca, .slice Ab lb cb, .slice A l c, .slice B l2 d, .int .u64 m, .agg (bvs o1).toArray, .agg (bvs o2).toArray] W fun e W' => e = .returned (.bool true) ∧ Below W.heap.size W W' := by
  have bx := bounds_u8 wx
  have bn := bounds_u64 wn
  have bi := bounds_u64 wi
  have bm := bounds_u64 wm
  obtain ⟨n, rfl⟩ := Int.eq_ofNat_of_zero_le bn.1
  obtain ⟨i, rfl⟩ := Int.eq_ofNat_of_zero_le bi.1
  obtain ⟨m, rfl⟩ := Int.eq_ofNat_of_zero_le bm.1
  have hP := PathAt.of_hs hp
  have hQ := PathAt.of_hs hq
  obtain ⟨xs, rfl, hsa, hca, hca1⟩ := ha.src
  obtain ⟨ys, rfl, hsb, hcb, hcb1⟩ := hb.src
  obtain ⟨rfl, hc, hc1, _, _⟩ := hp
  obtain ⟨rfl, hd, hd1, _, _⟩ := hq
  obtain ⟨w4, h4, tx⟩ := crem_in x 4 bx.1 (by omega)
  by_cases h : 60 < xs.length ∨ 60 < ys.length ∨ 66 < ps.length ∨ 66 < qs.length
  · exact right_long x n i m _ _ _ _ Aa Ab A B ca cb c d o1 o2 W hT h
  · exact right_in w4 n i m x Aa Ab A B ca cb c d xs ys ps qs o1 o2 W hT tx h4 bx (by omega) (by omega) hsa (by omega) hca hca1 hsb (by omega) hcb hcb1 hP (by omega) hc hc1 hQ (by omega) hd hd1 ho1 ho2
end Go.Proofs.YtjblnjeloimbgaaDoor
