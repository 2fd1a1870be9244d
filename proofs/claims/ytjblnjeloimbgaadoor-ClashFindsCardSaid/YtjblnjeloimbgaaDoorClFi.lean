/-
  The law ClashFinds walked: two entries of one narrow hash are shown. WRITTEN BY wip/gen/mkfinds.py.
-/
import Derived.Test.YtjblnjeloimbgaaDoorClN
import Derived.Test.YtjblnjeloimbgaaDoorFork
import Derived.Test.YtjblnjeloimbgaaDoorClO
namespace Go.Proofs.YtjblnjeloimbgaaDoor
open Go.RowKit Go.BigFrame
set_option linter.unusedVariables false

/-- What two orders end in is gone on with once. -/
theorem cont_fork {G : Prop} {K : ShV → Nat → World → Prop} {D : ShV → Nat → World → Prop} (hmain : (∀ x g V, D x g V → K x g V) → G) (hcont : ∀ x g V, D x g V → K x g V) : G := hmain hcont
set_option maxRecDepth 100000 in
set_option maxHeartbeats 16000000 in
theorem finds_in (n0 n k L : Nat) (x y s : Int) (fr : UInt8) (A : Option Addr) (c : Nat) (ps : List (List UInt8)) (W : World) (hT : Tabs W) (hP : PathAt W A ps) (hL : ps.length = L) (hL20 : L ≤ 20) (hc : L ≤ c) (hcm : c ≤ 9223372036854775807) (hx0 : 0 ≤ x ∧ x ≤ 255) (hy0 : 0 ≤ y ∧ y ≤ 255) (hs0 : 0 ≤ s ∧ s ≤ 255) (tx : x.tmod 20 = (n0 : Int)) (hn : n0 + 1 = n) (hn20 : n ≤ 20) (ty : y.tmod (n : Int) = (k : Int)) (hk : k < n) :
    Calls Tryd.prog 4 #[.int .u8 x, .int .u8 y, .slice A L c, .int .u8 (fr.toNat : Int), .int .u8 s] W fun e W' => e = .returned (.bool true) ∧ Below W.heap.size W W' := by
  obtain ⟨Z, hZ, hz, hzs⟩ := zero_hash
  obtain ⟨CZ, hCZ, hczs, hczn, hal⟩ := zero_clash
  have HAW := Lib.hid (awake6_any W hT)
  have HT : Hid (∀ V, Keeps (fun _ => False) W V → Tabs V) := Lib.hid (fun V hk => hT.keeps hk id id)
  have HPA : Hid (∀ V, Keeps (fun _ => False) W V → PathAt V A ps) := Lib.hid (fun V hk => hP.keeps hk (fun _ _ => id))
  have HAL := Lib.hid hal
  have CZS : Hid (∀ y : ShV, CZ.size = y.row.size) := Lib.hid (fun y => by rw [hczs]; rfl)
  have CZN := Lib.hid hczn
  have HZS := Lib.hid hzs
  have HPS := Lib.hid hL
  have HCM := Lib.hid hcm
  have e20 : ¬ (20 : Int) < (L : Int) := by omega
  have n1 : (n0 : Int) + 1 = (n : Int) := by omega
  have n29 : (n0 : Int) ≤ 19 := by omega
  have n30 : (n : Int) ≤ 20 := by omega
  have nz : ((n : Int) == 0) = false := by rw [beq_eq_false_iff_ne]; omega
  have nz' : ¬ (n : Int) = 0 := by omega
  have nz2 : ¬ n = 0 := by omega
  have hxa := hx0.1
  have hxb := hx0.2
  have hya := hy0.1
  have hyb := hy0.2
  have hsa0 := hs0.1
  have hsb0 := hs0.2
  clear hZ hzs hczs hczn hal hT hP hL hx0 hy0 hn
  go_enter Tryd.func4, Tryd.ntmps4
  go_wp2_with fail
  refine HAW.out.mono ?_
  rintro e w1 ⟨rfl, k1⟩
  have KW1 := Lib.hid k1
  clear k1 HAW
  go_wp2_with fail
  refine (pair_any fr w1 (HT.out w1 KW1.out)).mono ?_
  rintro e w2 ⟨ka, ib, PA, PB, hki, hib, hhv, _, rfl, sa, sb, k2⟩
  have KW2 := Lib.hid (KW1.out.trans k2)
  have HSA : Hid (∀ V, Keeps (fun _ => False) w2 V → Src V PA (bvs (Cl.pb fr ka))) := Lib.hid (fun V hV => sa.keeps hV (fun _ _ _ => id))
  have HSB : Hid (∀ V, Keeps (fun _ => False) w2 V → Src V PB (bvs (Cl.pb fr ib))) := Lib.hid (fun V hV => sb.keeps hV (fun _ _ _ => id))
  have HNE : Hid (Cl.pb fr ka ≠ Cl.pb fr ib) := Lib.hid (pb_ne fr hki hib)
  have HNS : Hid (Cl.nar 1 (Cl.leafRow (Cl.pb fr ka)) = Cl.nar 1 (Cl.leafRow (Cl.pb fr ib))) := Lib.hid (nar_same ka ib fr hhv)
  clear sa sb k2 hki hib hhv KW1
  go_wp2_with fail
  go_loopw [17] (fun v wr => ∃ j : Nat, j ≤ L + 1 ∧ v = .int .i64 (j : Int) ∧ Hid (Keeps (fun _ => False) w2 wr)) (fun v _ => L + 1 - (intOf v).toNat)
  case atStart => exact ⟨0, by omega, rfl, Lib.hid (Keeps.refl _ _)⟩
  case round =>
    rename_i wr
    obtain ⟨j, hj1, rfl, K2r⟩ := hrel
    by_cases hj : j ≤ L
    · have hjL : (j : Int) ≤ (L : Int) := by omega
      have hjc : (j : Int) ≤ (c : Int) := by omega
      have hjn : j ≤ c := by omega
      have HLJ : Hid ((ps.take j).length = j) := Lib.hid (by rw [List.length_take, HPS.out]; omega)
      have HPJ : Hid (∀ V, Keeps (fun _ => False) W V → PathAt V A (ps.take j)) := Lib.hid (fun V hV => (HPA.out V hV).take j)
      have hmade := fun V (hV : Keeps (fun _ => False) w2 V) => cmade_path 1 n k PA 3 (Cl.pb fr ka) A c (ps.take j) V (HT.out V (KW2.out.trans hV)) (HSA.out V hV) (Nat.le_refl 3) (by omega) (by show 3 ≤ 100; omega) (HPJ.out V (KW2.out.trans hV)) (by omega) (by rw [HLJ.out]; omega) HCM.out
      have lm := Cl.prow_length 1 n k (Cl.pb fr ka) (ps.take j)
      rw [wid_one, HLJ.out, show (Cl.pb fr ka).length = 3 from rfl] at hmade
      obtain ⟨s1, y1, i1⟩ := arr_hash _ lm
      obtain ⟨RM, hRM⟩ : ∃ R, bvs (Cl.prow 1 n k (Cl.pb fr ka) (ps.take j)).2.1 = R := ⟨_, rfl⟩
      rw [hRM] at hmade s1 y1 i1
      have SM := Lib.hid s1
      have ZM := Lib.hid (HZS.out.trans y1.symm)
      have OM := Lib.hid i1
      by_cases hst : j = Tr.steps n k
      · have her : (Cl.prow 1 n k (Cl.pb fr ka) (ps.take j)).2.2 = 0 := by rw [Cl.prow_in' hk (by rw [HLJ.out]; exact hst)]
        rw [her] at hmade
        have HMADE := Lib.hid hmade
        have hp1 := fun V (hV : Keeps (fun _ => False) w2 V) => paths_shown 1 n k PA PB 3 3 (Cl.pb fr ka) (Cl.pb fr ib) A A c c (ps.take j) (ps.take j) V (HT.out V (KW2.out.trans hV)) (HSA.out V hV) (Nat.le_refl 3) (by omega) (by show 3 ≤ 100; omega) (HSB.out V hV) (Nat.le_refl 3) (by omega) (by show 3 ≤ 100; omega) (HPJ.out V (KW2.out.trans hV)) (HPJ.out V (KW2.out.trans hV)) (by omega) (by rw [HLJ.out]; omega) HCM.out (by rw [HLJ.out]; omega) HCM.out
        have hp2 := fun V (hV : Keeps (fun _ => False) w2 V) => paths_shown 1 n k PA PA 3 3 (Cl.pb fr ka) (Cl.pb fr ka) A A c c (ps.take j) (ps.take j) V (HT.out V (KW2.out.trans hV)) (HSA.out V hV) (Nat.le_refl 3) (by omega) (by show 3 ≤ 100; omega) (HSA.out V hV) (Nat.le_refl 3) (by omega) (by show 3 ≤ 100; omega) (HPJ.out V (KW2.out.trans hV)) (HPJ.out V (KW2.out.trans hV)) (by omega) (by rw [HLJ.out]; omega) HCM.out (by rw [HLJ.out]; omega) HCM.out
        rw [wid_one, Cl.paths_two hk (by rw [HLJ.out]; exact hst) HNE.out HNS.out, HLJ.out, show (Cl.pb fr ka).length = 3 from rfl, show (Cl.pb fr ib).length = 3 from rfl] at hp1
        rw [wid_one, Cl.paths_same, HLJ.out, show (Cl.pb fr ka).length = 3 from rfl] at hp2
        have HPP := Lib.hid hp1
        have HPQ := Lib.hid hp2
        clear hmade s1 y1 i1 hRM lm her hp1 hp2 hst
        go_wp2_with fail
        refine (HMADE.out wr K2r.out).mono ?_
        rintro e3 w3 ⟨rfl, k3⟩
        obtain ⟨g18, hg18⟩ : ∃ g, w3.heap.size = g := ⟨_, rfl⟩
        obtain ⟨W4, hW4⟩ : ∃ V, w3.alloc (.cells Z 26) = V := ⟨_, rfl⟩
        obtain ⟨wq, hwq⟩ : ∃ V, W4.setRow g18 RM.toArray = V := ⟨_, rfl⟩
        have k4 : Keeps (fun _ => False) w3 W4 := by rw [← hW4]; exact (Keeps.refl _ _).alloc _
        have r4 : W4.heap[g18]? = some (.cells Z 26 (0, 0)) := by rw [← hW4, ← hg18]; exact heap_alloc_new w3 _
        have k5 : Keeps (fun k => k = g18) W4 wq := by rw [← hwq]; exact Keeps.setRow _ _
        have KQ2 := Lib.hid ((K2r.out.trans k3).trans (k4.trans' k5 (fun i hi e => by omega)))
        have R4 := Lib.hid r4
        clear k3 k4 r4 k5 HMADE K2r
        go_wp2_with (refine wpList_store_row rfl 26 _ _ rfl g18 RM.toArray rfl rfl 26 Z R4.out SM.out ZM.out OM.out ?_; rw [hwq])
        have HP1 : Hid (∀ V, Later wq V → Calls Tryd.prog 8 #[.int .i64 1, .int .u64 (n : Int), .int .u64 (k : Int), .slice PA 3 3, .slice PB 3 3, .slice A j c, .slice A j c] V fun e w' => ∃ x : ShV, e = .returned (x.val true) ∧ Later wq w' ∧ Shown (some (Cl.leafRow (Cl.pb fr ka), Cl.leafRow (Cl.pb fr ib))) w' x ∧ Keeps (fun _ => False) V w') := Lib.hid (fun V hV => (HPP.out V (KQ2.out.trans hV.out)).mono fun e w' ⟨x, h1, h2, h3⟩ => ⟨x, h1, ⟨hV.out.trans h3⟩, h2, h3⟩)
        clear HPP
        apply cont_fork (D := fun (x1 : ShV) (g20 : Nat) (V : World) => wq.heap.size ≤ g20 ∧ Later wq V ∧ Shown (some (Cl.leafRow (Cl.pb fr ka), Cl.leafRow (Cl.pb fr ib))) V x1 ∧ V.heap[g20]? = some (.cells x1.row 29 (0, 0)))
        case hmain =>
          intro HH
          refine wp_region_fork [10, 14, 15] [0, 1, 2, 3, 4, 5, 6, 7, 8, 9] 10 14 [11, 12, 13, 14, 15, 16] [10, 11, 12, 13, 15, 16] (Later wq) (fun _ => True) (by kernel_rfl) (by kernel_rfl) (Lasts.later wq) Lasts.true ⟨(Keeps.refl _ _).drew⟩ trivial ?_
          refine T_value (get_op rfl) (by rfl) (by rfl) (.int .u64 (n : Int)) (fun _ _ => by go_simp) ?_
          simp only [Act.put, List.setIfInBounds_toArray, List.set_cons_zero, List.set_cons_succ]
          refine T_value (get_op rfl) (by rfl) (by rfl) (.int .u64 (k : Int)) (fun _ _ => by go_simp) ?_
          simp only [Act.put, List.setIfInBounds_toArray, List.set_cons_zero, List.set_cons_succ]
          refine T_value (get_op rfl) (by rfl) (by rfl) (.slice PA 3 3) (fun _ _ => by go_simp) ?_
          simp only [Act.put, List.setIfInBounds_toArray, List.set_cons_zero, List.set_cons_succ]
          refine T_value (get_op rfl) (by rfl) (by rfl) (.slice PB 3 3) (fun _ _ => by go_simp) ?_
          simp only [Act.put, List.setIfInBounds_toArray, List.set_cons_zero, List.set_cons_succ]
          refine T_value (get_op rfl) (by rfl) (by rfl) (.slice A L c) (fun _ _ => by go_simp) ?_
          simp only [Act.put, List.setIfInBounds_toArray, List.set_cons_zero, List.set_cons_succ]
          refine T_value (get_op rfl) (by rfl) (by rfl) (.int .i64 (j : Int)) (fun _ _ => by go_simp) ?_
          simp only [Act.put, List.setIfInBounds_toArray, List.set_cons_zero, List.set_cons_succ]
          refine T_value (get_op rfl) (by rfl) (by rfl) (.slice A j c) (fun _ _ => by go_simp) ?_
          simp only [Act.put, List.setIfInBounds_toArray, List.set_cons_zero, List.set_cons_succ]
          refine T_value (get_op rfl) (by rfl) (by rfl) (.slice A L c) (fun _ _ => by go_simp) ?_
          simp only [Act.put, List.setIfInBounds_toArray, List.set_cons_zero, List.set_cons_succ]
          refine T_value (get_op rfl) (by rfl) (by rfl) (.int .i64 (j : Int)) (fun _ _ => by go_simp) ?_
          simp only [Act.put, List.setIfInBounds_toArray, List.set_cons_zero, List.set_cons_succ]
          refine T_value (get_op rfl) (by rfl) (by rfl) (.slice A j c) (fun _ _ => by go_simp) ?_
          simp only [Act.put, List.setIfInBounds_toArray, List.set_cons_zero, List.set_cons_succ]
          refine T_nil ?_
          intro _ _ _
          refine ⟨?_, ?_⟩
          · skip
            refine T_enterR (get_op rfl) (by rfl) (by rfl) _ _ (fun x : ShV => x.val true) (ShV.inj true) (fun _ => by go_simp) (fun x w => Shown (some (Cl.leafRow (Cl.pb fr ka), Cl.leafRow (Cl.pb fr ib))) w x) (fun x => Shown.lasts (some (Cl.leafRow (Cl.pb fr ka), Cl.leafRow (Cl.pb fr ib))) x) (fun V hb hf => (HP1.out V hb).mono fun e w' ⟨x, h1, h2, h3, h4⟩ => ⟨x, h1, h2, h3⟩) ?_
            intro x1
            rw [show x1.val true = (.tuple #[.agg x1.row, .bool true]) from rfl]
            simp only [Act.put, List.setIfInBounds_toArray, List.set_cons_zero, List.set_cons_succ]
            refine T_value (get_op rfl) (by rfl) (by rfl) (.tuple #[.agg x1.row, .bool true]) (fun _ _ => by go_simp) ?_
            simp only [Act.put, List.setIfInBounds_toArray, List.set_cons_zero, List.set_cons_succ]
            refine T_value (get_op rfl) (by rfl) (by rfl) (.agg x1.row) (fun _ _ => by go_simp) ?_
            simp only [Act.put, List.setIfInBounds_toArray, List.set_cons_zero, List.set_cons_succ]
            refine T_value (get_op rfl) (by rfl) (by rfl) (.bool true) (fun _ _ => by go_simp) ?_
            simp only [Act.put, List.setIfInBounds_toArray, List.set_cons_zero, List.set_cons_succ]
            refine T_alloc (get_op rfl) (by rfl) (by rfl) 29 CZ (by rfl) HAL.out (Lasts.later wq) (Shown.lasts (some (Cl.leafRow (Cl.pb fr ka), Cl.leafRow (Cl.pb fr ib))) x1) wq.heap.size (fun V hV => hV.out.size) ?_
            intro g20 hgeg20
            simp only [Act.put, List.setIfInBounds_toArray, List.set_cons_zero, List.set_cons_succ]
            refine T_store (get_op rfl) (by rfl) (by rfl) 29 (.tmp 20) (.tmp 80) (by rfl) (by rfl) g20 (by rfl) x1.row CZ (by rfl) 29 (ShV.size x1) (CZS.out x1) (ShV.one x1) (fun V => Shown (some (Cl.leafRow (Cl.pb fr ka), Cl.leafRow (Cl.pb fr ib))) V x1 ∧ V.heap[g20]? = some (.cells x1.row 29 (0, 0))) ((Shown.lasts (some (Cl.leafRow (Cl.pb fr ka), Cl.leafRow (Cl.pb fr ib))) x1).and (Lasts.block _ _)) (fun V hb hf => ⟨hf.2, ⟨hb.out.trans' (Keeps.setRow _ _) (fun i hi h => by omega)⟩, hf.1.setRow hf.2 CZN.out _, setRow_heap _ _ _ _ _ _ hf.2⟩) ?_
            refine T_value (get_op rfl) (by rfl) (by rfl) (.bool true) (fun _ _ => by go_simp) ?_
            simp only [Act.put, List.setIfInBounds_toArray, List.set_cons_zero, List.set_cons_succ]
            refine T_nil ?_
            intro VV hVV fVV
            exact HH x1 g20 VV ⟨hgeg20, hVV, fVV⟩
          · skip
            refine T_alloc (get_op rfl) (by rfl) (by rfl) 29 CZ (by rfl) HAL.out (Lasts.later wq) (Lasts.true) wq.heap.size (fun V hV => hV.out.size) ?_
            intro g20 hgeg20
            simp only [Act.put, List.setIfInBounds_toArray, List.set_cons_zero, List.set_cons_succ]
            refine T_enterR (get_op rfl) (by rfl) (by rfl) _ _ (fun x : ShV => x.val true) (ShV.inj true) (fun _ => by go_simp) (fun x w => Shown (some (Cl.leafRow (Cl.pb fr ka), Cl.leafRow (Cl.pb fr ib))) w x ∧ w.heap[g20]? = some (.cells CZ 29 (0, 0))) (fun x => (Shown.lasts (some (Cl.leafRow (Cl.pb fr ka), Cl.leafRow (Cl.pb fr ib))) x).and (Lasts.block _ _)) (fun V hb hf => (HP1.out V hb).mono fun e w' ⟨x, h1, h2, h3, h4⟩ => ⟨x, h1, h2, h3, Lasts.block _ _ _ _ hf.2 h4⟩) ?_
            intro x1
            rw [show x1.val true = (.tuple #[.agg x1.row, .bool true]) from rfl]
            simp only [Act.put, List.setIfInBounds_toArray, List.set_cons_zero, List.set_cons_succ]
            refine T_value (get_op rfl) (by rfl) (by rfl) (.tuple #[.agg x1.row, .bool true]) (fun _ _ => by go_simp) ?_
            simp only [Act.put, List.setIfInBounds_toArray, List.set_cons_zero, List.set_cons_succ]
            refine T_value (get_op rfl) (by rfl) (by rfl) (.agg x1.row) (fun _ _ => by go_simp) ?_
            simp only [Act.put, List.setIfInBounds_toArray, List.set_cons_zero, List.set_cons_succ]
            refine T_value (get_op rfl) (by rfl) (by rfl) (.bool true) (fun _ _ => by go_simp) ?_
            simp only [Act.put, List.setIfInBounds_toArray, List.set_cons_zero, List.set_cons_succ]
            refine T_store (get_op rfl) (by rfl) (by rfl) 29 (.tmp 20) (.tmp 80) (by rfl) (by rfl) g20 (by rfl) x1.row CZ (by rfl) 29 (ShV.size x1) (CZS.out x1) (ShV.one x1) (fun V => Shown (some (Cl.leafRow (Cl.pb fr ka), Cl.leafRow (Cl.pb fr ib))) V x1 ∧ V.heap[g20]? = some (.cells x1.row 29 (0, 0))) ((Shown.lasts (some (Cl.leafRow (Cl.pb fr ka), Cl.leafRow (Cl.pb fr ib))) x1).and (Lasts.block _ _)) (fun V hb hf => ⟨hf.2, ⟨hb.out.trans' (Keeps.setRow _ _) (fun i hi h => by omega)⟩, hf.1.setRow hf.2 CZN.out _, setRow_heap _ _ _ _ _ _ hf.2⟩) ?_
            refine T_value (get_op rfl) (by rfl) (by rfl) (.bool true) (fun _ _ => by go_simp) ?_
            simp only [Act.put, List.setIfInBounds_toArray, List.set_cons_zero, List.set_cons_succ]
            refine T_nil ?_
            intro VV hVV fVV
            exact HH x1 g20 VV ⟨hgeg20, hVV, fVV⟩
        case hcont =>
          rintro x1 g20 V5 ⟨hgeg20, h5, f5⟩
          have K52 := Lib.hid (KQ2.out.trans h5.out)
          obtain ⟨r, t', e1, e2, hr, ht⟩ := f5.1
          obtain ⟨A1, l1, c1, A2, l2, c2⟩ := x1
          simp only [ShV.row, rowSl, Array.mk.injEq, List.cons.injEq, Value.slice.injEq, and_true] at e1
          obtain ⟨⟨rfl, rfl, rfl⟩, rfl, rfl, rfl⟩ := e1
          have e2 : (r.2.2, t'.2.2) = (Cl.leafRow (Cl.pb fr ka), Cl.leafRow (Cl.pb fr ib)) := e2
          injection e2 with e2 e3
          have hcA := run_string_src (P := Tryd.prog) V5 23 9 5 Tryd.underlying23 Tryd.underlying5 Tryd.underlying9 r.1 r.2.2 r.2.1 hr.src
          have hcB := run_string_src (P := Tryd.prog) V5 23 9 5 Tryd.underlying23 Tryd.underlying5 Tryd.underlying9 t'.1 t'.2.2 t'.2.1 ht.src
          rw [e2] at hcA
          rw [e3] at hcB
          have hca : (convert 23 9 (.slice PA 3 3)).run Tryd.prog V5 = .ok (.string (strOf (Cl.pb fr ka))) V5 := run_string_src (P := Tryd.prog) V5 23 9 5 Tryd.underlying23 Tryd.underlying5 Tryd.underlying9 PA (Cl.pb fr ka) 3 (HSA.out V5 K52.out)
          have hcb : (convert 23 9 (.slice PB 3 3)).run Tryd.prog V5 = .ok (.string (strOf (Cl.pb fr ib))) V5 := run_string_src (P := Tryd.prog) V5 23 9 5 Tryd.underlying23 Tryd.underlying5 Tryd.underlying9 PB (Cl.pb fr ib) 3 (HSB.out V5 K52.out)
          have haa := fun V => add_leaf (Cl.pb fr ka) (by show 3 ≤ 100; omega) V
          have hab := fun V => add_leaf (Cl.pb fr ib) (by show 3 ≤ 100; omega) V
          have q0 : V5.cell? ⟨g20, 0, none⟩ = some (.slice r.1 r.2.2.length r.2.1) := by rw [cell_of_row V5 g20 0 _ _ _ f5.2]; rfl
          have q1 : V5.cell? ⟨g20, 1, none⟩ = some (.slice t'.1 t'.2.2.length t'.2.1) := by rw [cell_of_row V5 g20 1 _ _ _ f5.2]; rfl
          rw [e2] at q0
          rw [e3] at q1
          obtain ⟨sA, hsA⟩ : ∃ s, strOf (Cl.leafRow (Cl.pb fr ka)) = s := ⟨_, rfl⟩
          obtain ⟨sB, hsB⟩ : ∃ s, strOf (Cl.leafRow (Cl.pb fr ib)) = s := ⟨_, rfl⟩
          obtain ⟨sa', hsa'⟩ : ∃ s, strOf (Cl.pb fr ka) = s := ⟨_, rfl⟩
          obtain ⟨sb', hsb'⟩ : ∃ s, strOf (Cl.pb fr ib) = s := ⟨_, rfl⟩
          obtain ⟨lA, hlA⟩ : ∃ s, (Cl.leafRow (Cl.pb fr ka)).length = s := ⟨_, rfl⟩
          obtain ⟨lB, hlB⟩ : ∃ s, (Cl.leafRow (Cl.pb fr ib)).length = s := ⟨_, rfl⟩
          rw [hsA, hlA] at hcA
          rw [hsB, hlB] at hcB
          rw [hsa'] at hca
          rw [hsb'] at hcb
          rw [hsa', hsA] at haa
          rw [hsb', hsB] at hab
          rw [hlA] at q0
          rw [hlB] at q1
          have HP2 : Hid (∀ V, Later V5 V → Calls Tryd.prog 8 #[.int .i64 1, .int .u64 (n : Int), .int .u64 (k : Int), .slice PA 3 3, .slice PA 3 3, .slice A j c, .slice A j c] V fun e w' => ∃ x : ShV, e = .returned (x.val false) ∧ Later V5 w' ∧ Shown none w' x ∧ Keeps (fun _ => False) V w') := Lib.hid (fun V hV => (HPQ.out V (K52.out.trans hV.out)).mono fun e w' ⟨x, h1, h2, h3⟩ => ⟨x, h1, ⟨hV.out.trans h3⟩, h2, h3⟩)
          clear f5 h5 hr ht e2 e3 hsA hsB hsa' hsb' hlA hlB HP1 KQ2 HPQ
          go_wp2_with fail
          apply cont_fork (D := fun (x2 : ShV) (g22 : Nat) (V : World) => V5.heap.size ≤ g22 ∧ Later V5 V ∧ Shown none V x2 ∧ V.heap[g22]? = some (.cells x2.row 29 (0, 0)))
          case hmain =>
            intro HH
            refine wp_region_fork [10, 14, 15] [0, 1, 2, 3, 4, 5, 6, 7, 8, 9] 10 14 [11, 12, 13, 14, 15, 16] [10, 11, 12, 13, 15, 16] (Later V5) (fun _ => True) (by kernel_rfl) (by kernel_rfl) (Lasts.later V5) Lasts.true ⟨(Keeps.refl _ _).drew⟩ trivial ?_
            refine T_value (get_op rfl) (by rfl) (by rfl) (.int .u64 (n : Int)) (fun _ _ => by go_simp) ?_
            simp only [Act.put, List.setIfInBounds_toArray, List.set_cons_zero, List.set_cons_succ]
            refine T_value (get_op rfl) (by rfl) (by rfl) (.int .u64 (k : Int)) (fun _ _ => by go_simp) ?_
            simp only [Act.put, List.setIfInBounds_toArray, List.set_cons_zero, List.set_cons_succ]
            refine T_value (get_op rfl) (by rfl) (by rfl) (.slice PA 3 3) (fun _ _ => by go_simp) ?_
            simp only [Act.put, List.setIfInBounds_toArray, List.set_cons_zero, List.set_cons_succ]
            refine T_value (get_op rfl) (by rfl) (by rfl) (.slice PA 3 3) (fun _ _ => by go_simp) ?_
            simp only [Act.put, List.setIfInBounds_toArray, List.set_cons_zero, List.set_cons_succ]
            refine T_value (get_op rfl) (by rfl) (by rfl) (.slice A L c) (fun _ _ => by go_simp) ?_
            simp only [Act.put, List.setIfInBounds_toArray, List.set_cons_zero, List.set_cons_succ]
            refine T_value (get_op rfl) (by rfl) (by rfl) (.int .i64 (j : Int)) (fun _ _ => by go_simp) ?_
            simp only [Act.put, List.setIfInBounds_toArray, List.set_cons_zero, List.set_cons_succ]
            refine T_value (get_op rfl) (by rfl) (by rfl) (.slice A j c) (fun _ _ => by go_simp) ?_
            simp only [Act.put, List.setIfInBounds_toArray, List.set_cons_zero, List.set_cons_succ]
            refine T_value (get_op rfl) (by rfl) (by rfl) (.slice A L c) (fun _ _ => by go_simp) ?_
            simp only [Act.put, List.setIfInBounds_toArray, List.set_cons_zero, List.set_cons_succ]
            refine T_value (get_op rfl) (by rfl) (by rfl) (.int .i64 (j : Int)) (fun _ _ => by go_simp) ?_
            simp only [Act.put, List.setIfInBounds_toArray, List.set_cons_zero, List.set_cons_succ]
            refine T_value (get_op rfl) (by rfl) (by rfl) (.slice A j c) (fun _ _ => by go_simp) ?_
            simp only [Act.put, List.setIfInBounds_toArray, List.set_cons_zero, List.set_cons_succ]
            refine T_nil ?_
            intro _ _ _
            refine ⟨?_, ?_⟩
            · skip
              refine T_enterR (get_op rfl) (by rfl) (by rfl) _ _ (fun x : ShV => x.val false) (ShV.inj false) (fun _ => by go_simp) (fun x w => Shown none w x) (fun x => Shown.lasts none x) (fun V hb hf => (HP2.out V hb).mono fun e w' ⟨x, h1, h2, h3, h4⟩ => ⟨x, h1, h2, h3⟩) ?_
              intro x2
              rw [show x2.val false = (.tuple #[.agg x2.row, .bool false]) from rfl]
              simp only [Act.put, List.setIfInBounds_toArray, List.set_cons_zero, List.set_cons_succ]
              refine T_value (get_op rfl) (by rfl) (by rfl) (.tuple #[.agg x2.row, .bool false]) (fun _ _ => by go_simp) ?_
              simp only [Act.put, List.setIfInBounds_toArray, List.set_cons_zero, List.set_cons_succ]
              refine T_value (get_op rfl) (by rfl) (by rfl) (.agg x2.row) (fun _ _ => by go_simp) ?_
              simp only [Act.put, List.setIfInBounds_toArray, List.set_cons_zero, List.set_cons_succ]
              refine T_value (get_op rfl) (by rfl) (by rfl) (.bool false) (fun _ _ => by go_simp) ?_
              simp only [Act.put, List.setIfInBounds_toArray, List.set_cons_zero, List.set_cons_succ]
              refine T_alloc (get_op rfl) (by rfl) (by rfl) 29 CZ (by rfl) HAL.out (Lasts.later V5) (Shown.lasts none x2) V5.heap.size (fun V hV => hV.out.size) ?_
              intro g22 hgeg22
              simp only [Act.put, List.setIfInBounds_toArray, List.set_cons_zero, List.set_cons_succ]
              refine T_store (get_op rfl) (by rfl) (by rfl) 29 (.tmp 22) (.tmp 114) (by rfl) (by rfl) g22 (by rfl) x2.row CZ (by rfl) 29 (ShV.size x2) (CZS.out x2) (ShV.one x2) (fun V => Shown none V x2 ∧ V.heap[g22]? = some (.cells x2.row 29 (0, 0))) ((Shown.lasts none x2).and (Lasts.block _ _)) (fun V hb hf => ⟨hf.2, ⟨hb.out.trans' (Keeps.setRow _ _) (fun i hi h => by omega)⟩, hf.1.setRow hf.2 CZN.out _, setRow_heap _ _ _ _ _ _ hf.2⟩) ?_
              refine T_value (get_op rfl) (by rfl) (by rfl) (.bool false) (fun _ _ => by go_simp) ?_
              simp only [Act.put, List.setIfInBounds_toArray, List.set_cons_zero, List.set_cons_succ]
              refine T_nil ?_
              intro VV hVV fVV
              exact HH x2 g22 VV ⟨hgeg22, hVV, fVV⟩
            · skip
              refine T_alloc (get_op rfl) (by rfl) (by rfl) 29 CZ (by rfl) HAL.out (Lasts.later V5) (Lasts.true) V5.heap.size (fun V hV => hV.out.size) ?_
              intro g22 hgeg22
              simp only [Act.put, List.setIfInBounds_toArray, List.set_cons_zero, List.set_cons_succ]
              refine T_enterR (get_op rfl) (by rfl) (by rfl) _ _ (fun x : ShV => x.val false) (ShV.inj false) (fun _ => by go_simp) (fun x w => Shown none w x ∧ w.heap[g22]? = some (.cells CZ 29 (0, 0))) (fun x => (Shown.lasts none x).and (Lasts.block _ _)) (fun V hb hf => (HP2.out V hb).mono fun e w' ⟨x, h1, h2, h3, h4⟩ => ⟨x, h1, h2, h3, Lasts.block _ _ _ _ hf.2 h4⟩) ?_
              intro x2
              rw [show x2.val false = (.tuple #[.agg x2.row, .bool false]) from rfl]
              simp only [Act.put, List.setIfInBounds_toArray, List.set_cons_zero, List.set_cons_succ]
              refine T_value (get_op rfl) (by rfl) (by rfl) (.tuple #[.agg x2.row, .bool false]) (fun _ _ => by go_simp) ?_
              simp only [Act.put, List.setIfInBounds_toArray, List.set_cons_zero, List.set_cons_succ]
              refine T_value (get_op rfl) (by rfl) (by rfl) (.agg x2.row) (fun _ _ => by go_simp) ?_
              simp only [Act.put, List.setIfInBounds_toArray, List.set_cons_zero, List.set_cons_succ]
              refine T_value (get_op rfl) (by rfl) (by rfl) (.bool false) (fun _ _ => by go_simp) ?_
              simp only [Act.put, List.setIfInBounds_toArray, List.set_cons_zero, List.set_cons_succ]
              refine T_store (get_op rfl) (by rfl) (by rfl) 29 (.tmp 22) (.tmp 114) (by rfl) (by rfl) g22 (by rfl) x2.row CZ (by rfl) 29 (ShV.size x2) (CZS.out x2) (ShV.one x2) (fun V => Shown none V x2 ∧ V.heap[g22]? = some (.cells x2.row 29 (0, 0))) ((Shown.lasts none x2).and (Lasts.block _ _)) (fun V hb hf => ⟨hf.2, ⟨hb.out.trans' (Keeps.setRow _ _) (fun i hi h => by omega)⟩, hf.1.setRow hf.2 CZN.out _, setRow_heap _ _ _ _ _ _ hf.2⟩) ?_
              refine T_value (get_op rfl) (by rfl) (by rfl) (.bool false) (fun _ _ => by go_simp) ?_
              simp only [Act.put, List.setIfInBounds_toArray, List.set_cons_zero, List.set_cons_succ]
              refine T_nil ?_
              intro VV hVV fVV
              exact HH x2 g22 VV ⟨hgeg22, hVV, fVV⟩
          case hcont =>
            rintro x2 g22 V8 ⟨hgeg22, h8, f8⟩
            have K82 := Lib.hid (K52.out.trans h8.out)
            obtain ⟨v6, w6, hr6, ho6, k6⟩ := app_path V8 A c j (ps.take j) (HPJ.out V8 (KW2.out.trans K82.out)) HLJ.out (by omega)
            obtain ⟨Ao, co, rfl⟩ := own_slice ho6
            have XL6 : Hid ((ps.take j).flatten.length = j * 32) := Lib.hid (by rw [flatten_length _ (HPJ.out V8 (KW2.out.trans K82.out)).all, HLJ.out])
            obtain ⟨bo, hbo⟩ : ∃ b, V8.heap.size = b := ⟨_, rfl⟩
            rw [hbo] at ho6
            have OWN6 := Lib.hid ho6
            have HBO : Hid (w2.heap.size ≤ bo) := Lib.hid (by rw [← hbo]; exact K82.out.size)
            have K62 := Lib.hid (K82.out.trans k6)
            have HAPP := Lib.hid hr6
            clear h8 f8 K82 ho6 hr6 k6 hbo K52
            go_wp2_with (refine wpList_append_run rfl (.tmp 116) (.tmp 119) 24 24 rfl _ _ _ w6 rfl rfl HAPP.out ?_)
            go_loopw [25] (fun v wr => ∃ q : Nat, ∃ xs : List UInt8, q ≤ j ∧ v = .int .i64 (q : Int) ∧ Hid (xs.length = j * 32) ∧ Hid (wr.ownsRow bo 26 32 (.slice Ao j co) j (bvs xs)) ∧ Hid (Keeps (fun k => bo ≤ k) w6 wr)) (fun v _ => j - (intOf v).toNat)
            case atStart => exact ⟨0, _, by omega, rfl, XL6, OWN6, Lib.hid (Keeps.refl _ _)⟩
            case round =>
              clear OWN6 XL6
              obtain ⟨q, xs, hq, rfl, XL, OWN, KI⟩ := hrel
              by_cases hqj : q < j
              · have hqj' : (q : Int) < (j : Int) := by omega
                have jz : ¬ (j : Int) = 0 := by omega
                have jz1 : ((j : Int) == 0) = false := by rw [beq_eq_false_iff_ne]; exact jz
                have jz2 : ¬ j = 0 := by omega
                obtain ⟨sj, hsj, ts⟩ := crem_in s j hs0.1 (by omega)
                by_cases hqs : q = sj
                · have hqs' : (q : Int) = (sj : Int) := by omega
                  have hqb : ((q : Int) == (sj : Int)) = true := by rw [beq_iff_eq]; exact hqs'
                  obtain ⟨go, hgo⟩ : ∃ go, Ao = some ⟨go, 0, none⟩ := by
                    rcases OWN.out.2 with ⟨_, h0⟩ | ⟨g, cap, cur, hv, _⟩
                    · omega
                    · injection hv with h1 _ _; exact ⟨g, h1⟩
                  subst hgo
                  obtain ⟨cb, hcb⟩ : ∃ b, xs[q * 32 + 31]? = some b := ⟨_, List.getElem?_eq_getElem (by rw [XL.out]; omega)⟩
                  obtain ⟨cx, hcx⟩ : ∃ b, cb ^^^ 1 = b := ⟨_, rfl⟩
                  have hxo : bits .xor .u8 (cb.toNat : Int) 1 = (cx.toNat : Int) := by rw [← hcx]; exact xor_byte cb
                  have HCELL : Hid (∀ V : World, V.ownsRow bo 26 32 (.slice (some ⟨go, 0, none⟩) j co) j (bvs xs) → V.cell? ⟨go, q * 32 + 31, none⟩ = some (.int .u8 (cb.toNat : Int))) := Lib.hid (fun V hf => by rw [hf.cellAt (q * 32 + 31) (by omega), bvs_get, hcb]; rfl)
                  have HST : Hid (∀ V : World, Keeps (fun k => bo ≤ k) wr V → V.ownsRow bo 26 32 (.slice (some ⟨go, 0, none⟩) j co) j (bvs xs) → (∃ old, V.cell? ⟨go, q * 32 + 31, none⟩ = some old) ∧ V.frozen? ⟨go, q * 32 + 31, none⟩ = false ∧ Keeps (fun k => bo ≤ k) wr (V.setCell ⟨go, q * 32 + 31, none⟩ (.int .u8 (cx.toNat : Int))) ∧ (V.setCell ⟨go, q * 32 + 31, none⟩ (.int .u8 (cx.toNat : Int))).ownsRow bo 26 32 (.slice (some ⟨go, 0, none⟩) j co) j (bvs (xs.set (q * 32 + 31) cx))) := Lib.hid (fun V hb hf => by
                    refine ⟨⟨_, HCELL.out V hf⟩, hf.frozenAt _, hb.setCell (fun _ => (hf.lt go rfl).1) _, ?_⟩
                    have h := (hf.stored (q * 32 + 31) (bv cx)).1
                    rw [bvs_set] at h
                    exact h)
                  clear hcb hcx
                  go_wp2_with fail
                  refine wp_region_stores 9 [4, 8] [0, 1, 2, 3, 6, 4, 5, 7, 8] (fun V => Keeps (fun k => bo ≤ k) wr V) (fun V => V.ownsRow bo 26 32 (.slice (some ⟨go, 0, none⟩) j co) j (bvs xs)) (by kernel_rfl) (by kernel_rfl) (fun _ _ h k => h.trans' k (fun _ _ h => h.elim)) (fun _ _ h k => k.owns h (fun _ _ => id)) (((Keeps.refl _ _).drew)) (OWN.out) ?_
                  refine T_value (get_op rfl) (by rfl) (by rfl) (.slice (some ⟨go, 0, none⟩) j co) (fun _ _ => by go_simp) ?_
                  simp only [Act.put, List.setIfInBounds_toArray, List.set_cons_zero, List.set_cons_succ]
                  refine T_value (get_op rfl) (by rfl) (by rfl) (.int .i64 (q : Int)) (fun _ _ => by go_simp) ?_
                  simp only [Act.put, List.setIfInBounds_toArray, List.set_cons_zero, List.set_cons_succ]
                  refine T_value (get_op rfl) (by rfl) (by rfl) (.pointer (some ⟨go, q * 32, none⟩)) (fun _ _ => by go_simp) ?_
                  simp only [Act.put, List.setIfInBounds_toArray, List.set_cons_zero, List.set_cons_succ]
                  refine T_value (get_op rfl) (by rfl) (by rfl) (.pointer (some ⟨go, q * 32 + 31, none⟩)) (fun _ _ => by go_simp) ?_
                  simp only [Act.put, List.setIfInBounds_toArray, List.set_cons_zero, List.set_cons_succ]
                  refine T_value (get_op rfl) (by rfl) (by rfl) (.pointer (some ⟨go, q * 32, none⟩)) (fun _ _ => by go_simp) ?_
                  simp only [Act.put, List.setIfInBounds_toArray, List.set_cons_zero, List.set_cons_succ]
                  refine T_lcell (get_op rfl) (by rfl) (by rfl) 5 (.tmp 135) (by rfl) ⟨go, q * 32 + 31, none⟩ (by rfl) (.int .u8 (cb.toNat : Int)) _ (fun _ _ h k => k.owns h (fun _ _ => id)) (fun V hb hf => HCELL.out V hf) Tryd.underlying5 rfl ?_
                  simp only [Act.put, List.setIfInBounds_toArray, List.set_cons_zero, List.set_cons_succ]
                  refine T_value (get_op rfl) (by rfl) (by rfl) (.int .u8 (cx.toNat : Int)) (fun _ _ => by go_simp) ?_
                  simp only [Act.put, List.setIfInBounds_toArray, List.set_cons_zero, List.set_cons_succ]
                  refine T_value (get_op rfl) (by rfl) (by rfl) (.pointer (some ⟨go, q * 32 + 31, none⟩)) (fun _ _ => by go_simp) ?_
                  simp only [Act.put, List.setIfInBounds_toArray, List.set_cons_zero, List.set_cons_succ]
                  refine T_cell_store (get_op rfl) (by rfl) (by rfl) 5 (.tmp 139) (.tmp 137) (by rfl) (by rfl) ⟨go, q * 32 + 31, none⟩ (by rfl) (.int .u8 (cx.toNat : Int)) (by rfl) rfl rfl (by kernel_rfl) (fun V => V.ownsRow bo 26 32 (.slice (some ⟨go, 0, none⟩) j co) j (bvs (xs.set (q * 32 + 31) cx))) (fun _ _ h k => k.owns h (fun _ _ => id)) (fun V hb hf => HST.out V hb hf) ?_
                  refine T_nil ?_
                  intro w9 h9 f9
                  simp only [List.drop_succ_cons, List.drop_nil]
                  have K9 := Lib.hid (KI.out.trans h9)
                  have OWN9 := Lib.hid f9
                  have XL9 : Hid ((xs.set (q * 32 + 31) cx).length = j * 32) := Lib.hid (by rw [List.length_set]; exact XL.out)
                  clear h9 f9 OWN HCELL HST KI
                  go_wp2_with fail
                  go_roundw
                  case rel => exact ⟨q + 1, _, by omega, by go_num, XL9, OWN9, K9⟩
                  case measure => simp [intOf]; omega
                · have hqs' : ¬ (q : Int) = (sj : Int) := by omega
                  have hqb : ((q : Int) == (sj : Int)) = false := by rw [beq_eq_false_iff_ne]; exact hqs'
                  go_wp2_with fail
                  go_roundw
                  case rel => exact ⟨q + 1, xs, by omega, by go_num, XL, OWN, KI⟩
                  case measure => simp [intOf]; omega
              · obtain rfl : q = j := by omega
                have KQ : Hid (Keeps (fun _ => False) w2 wr) := Lib.hid (K62.out.trans' KI.out (fun i hi e => by have := HBO.out; omega))
                obtain ⟨qs, hQ, hql⟩ := own_path OWN.out XL.out
                have hcq := own_cap OWN.out
                have hp3 := paths_shown 1 n k PA PB 3 3 (Cl.pb fr ka) (Cl.pb fr ib) A Ao c co (ps.take q) qs wr (HT.out wr (KW2.out.trans KQ.out)) (HSA.out wr KQ.out) (Nat.le_refl 3) (by omega) (by show 3 ≤ 100; omega) (HSB.out wr KQ.out) (Nat.le_refl 3) (by omega) (by show 3 ≤ 100; omega) (HPJ.out wr (KW2.out.trans KQ.out)) hQ (by omega) (by rw [HLJ.out]; omega) HCM.out (by omega) hcq.2.2
                rw [wid_one, HLJ.out, hql, show (Cl.pb fr ka).length = 3 from rfl, show (Cl.pb fr ib).length = 3 from rfl] at hp3
                have hg3 : ∀ p, Cl.paths 1 n k (Cl.pb fr ka) (Cl.pb fr ib) (ps.take q) qs = some p → Cl.Good (Cl.wid 1) p ∧ Cl.Short p := fun p h => ⟨by rw [wid_one]; exact Cl.paths_good (by omega) (HPJ.out wr (KW2.out.trans KQ.out)).all hQ.all h, Cl.paths_short (HPJ.out wr (KW2.out.trans KQ.out)).all hQ.all (by show 3 ≤ 100; omega) (by show 3 ≤ 100; omega) h⟩
                obtain ⟨c3, hc3⟩ : ∃ p, Cl.paths 1 n k (Cl.pb fr ka) (Cl.pb fr ib) (ps.take q) qs = p := ⟨_, rfl⟩
                obtain ⟨b3, hb3⟩ : ∃ b, c3.isSome = b := ⟨_, rfl⟩
                rw [hc3] at hp3 hg3
                rw [hb3] at hp3
                have HP3 := Lib.hid hp3
                have HG3 := Lib.hid hg3
                clear hp3 hg3 hc3 hQ hql hcq XL OWN KI
                go_wp2_with fail
                refine HP3.out.mono ?_
                rintro e wj ⟨x3, h3e, sh3, kj⟩
                rw [show x3.val b3 = .tuple #[.agg x3.row, .bool b3] from rfl] at h3e
                subst h3e
                obtain ⟨g26, hg26⟩ : ∃ g, wj.heap.size = g := ⟨_, rfl⟩
                obtain ⟨X1, hX1⟩ : ∃ V, wj.alloc (.cells CZ 29) = V := ⟨_, rfl⟩
                obtain ⟨X2, hX2⟩ : ∃ V, X1.setRow g26 x3.row = V := ⟨_, rfl⟩
                have j1 : Keeps (fun _ => False) wj X1 := by rw [← hX1]; exact (Keeps.refl _ _).alloc _
                have p1 : X1.heap[g26]? = some (.cells CZ 29 (0, 0)) := by rw [← hX1, ← hg26]; exact heap_alloc_new wj _
                have j2 : Keeps (fun k => k = g26) X1 X2 := by rw [← hX2]; exact Keeps.setRow _ _
                have p2 : X2.heap[g26]? = some (.cells x3.row 29 (0, 0)) := by rw [← hX2]; exact setRow_heap _ _ _ _ _ _ p1
                have j12 : Keeps (fun _ => False) wj X2 := j1.trans' j2 (fun i hi e => by omega)
                have P1 := Lib.hid p1
                have P2 := Lib.hid p2
                have SH3 := Lib.hid (sh3.later j12)
                have KX := Lib.hid ((KW2.out.trans KQ.out).trans (kj.trans j12))
                clear j1 p1 j2 p2 j12 sh3 kj KQ HP3
                cases c3 with
                | none =>
                  obtain rfl : b3 = false := hb3.symm
                  go_wp2_with (refine wpList_store_row rfl 29 _ _ rfl g26 x3.row rfl rfl 29 CZ P1.out (ShV.size x3) (CZS.out x3) (ShV.one x3) ?_; rw [hX2])
                  go_ret
                  exact ⟨rfl, KX.out.below (Nat.le_refl _) (fun k hk => id)⟩
                | some p3 =>
                  obtain rfl : b3 = true := hb3.symm
                  have HGD := Lib.hid (HG3.out p3 rfl)
                  go_wp2_with (first
                    | (refine wpList_store_row rfl 29 _ _ rfl g26 x3.row rfl rfl 29 CZ P1.out (ShV.size x3) (CZS.out x3) (ShV.one x3) ?_; rw [hX2])
                    | (refine wpList_load_row_w (by rfl) 29 (.tmp 26) (by rfl) g26 (by rfl) 29 x3.row (0, 0) _ P2.out Tryd.underlying29 rfl (ShV.size x3) ?_))
                  refine (check_shown 1 p3 x3 X2 (HT.out X2 KX.out) SH3.out HGD.out.1 HGD.out.2).mono ?_
                  rintro e9 w99 ⟨rfl, k99⟩
                  have KE := Lib.hid (KX.out.trans k99)
                  clear k99
                  go_wp2_with fail
                  go_ret
                  exact ⟨rfl, KE.out.below (Nat.le_refl _) (fun k hk => id)⟩
      · have her : (Cl.prow 1 n k (Cl.pb fr ka) (ps.take j)).2.2 = 20 := by rw [Cl.prow_not hk (by rw [HLJ.out]; exact hst)]
        rw [her] at hmade
        have HMADE := Lib.hid hmade
        clear hmade s1 y1 i1 hRM lm her hst
        go_wp2_with fail
        refine (HMADE.out wr K2r.out).mono ?_
        rintro e3 w3 ⟨rfl, k3⟩
        obtain ⟨g18, hg18⟩ : ∃ g, w3.heap.size = g := ⟨_, rfl⟩
        obtain ⟨W4, hW4⟩ : ∃ V, w3.alloc (.cells Z 26) = V := ⟨_, rfl⟩
        obtain ⟨wq, hwq⟩ : ∃ V, W4.setRow g18 RM.toArray = V := ⟨_, rfl⟩
        have k4 : Keeps (fun _ => False) w3 W4 := by rw [← hW4]; exact (Keeps.refl _ _).alloc _
        have r4 : W4.heap[g18]? = some (.cells Z 26 (0, 0)) := by rw [← hW4, ← hg18]; exact heap_alloc_new w3 _
        have k5 : Keeps (fun k => k = g18) W4 wq := by rw [← hwq]; exact Keeps.setRow _ _
        have KQ2 := Lib.hid ((K2r.out.trans k3).trans (k4.trans' k5 (fun i hi e => by omega)))
        have R4 := Lib.hid r4
        clear k3 k4 r4 k5 HMADE K2r
        go_wp2_with (refine wpList_store_row rfl 26 _ _ rfl g18 RM.toArray rfl rfl 26 Z R4.out SM.out ZM.out OM.out ?_; rw [hwq])
        go_roundw
        case rel => exact ⟨j + 1, by omega, by go_num, KQ2⟩
        case measure => simp [intOf]; omega
    · have hjL : ¬ (j : Int) ≤ (L : Int) := by omega
      go_wp2_with fail
      go_ret
      exact ⟨rfl, (KW2.out.trans K2r.out).below (Nat.le_refl _) (fun k hk => id)⟩
set_option maxRecDepth 100000 in
theorem finds_long (n0 n k L : Nat) (x y s f : Int) (A : Option Addr) (c : Nat) (W : World) (hT : Tabs W) (hL20 : 20 < L) (hx0 : 0 ≤ x ∧ x ≤ 255) (hy0 : 0 ≤ y ∧ y ≤ 255) (tx : x.tmod 20 = (n0 : Int)) (hn : n0 + 1 = n) (hn20 : n ≤ 20) (ty : y.tmod (n : Int) = (k : Int)) (hk : k < n) :
    Calls Tryd.prog 4 #[.int .u8 x, .int .u8 y, .slice A L c, .int .u8 f, .int .u8 s] W fun e W' => e = .returned (.bool true) ∧ Below W.heap.size W W' := by
  have HAW := Lib.hid (awake6_any W hT)
  have e20 : (20 : Int) < (L : Int) := by omega
  have n1 : (n0 : Int) + 1 = (n : Int) := by omega
  have n29 : (n0 : Int) ≤ 19 := by omega
  have n30 : (n : Int) ≤ 20 := by omega
  have nz : ((n : Int) == 0) = false := by rw [beq_eq_false_iff_ne]; omega
  have nz' : ¬ (n : Int) = 0 := by omega
  have nz2 : ¬ n = 0 := by omega
  have hxa := hx0.1
  have hxb := hx0.2
  have hya := hy0.1
  have hyb := hy0.2
  clear hT hx0 hy0 hn
  go_enter Tryd.func4, Tryd.ntmps4
  go_wp2_with fail
  refine HAW.out.mono ?_
  rintro e w1 ⟨rfl, k1⟩
  have KW1 := Lib.hid k1
  clear k1 HAW
  go_wp2_with fail
  go_ret
  exact ⟨rfl, KW1.out.below (Nat.le_refl _) (fun k hk => id)⟩
theorem finds_walk (x y : Int) (A : Option Addr) (l c : Nat) (ps : List (List UInt8)) (f s : Int) (W : World) (hT : Tabs W) (wx : (Lit.int .u8 x).wf = true) (wy : (Lit.int .u8 y).wf = true) (hp : IsHashes W A l c ps) (wf : (Lit.int .u8 f).wf = true) (ws : (Lit.int .u8 s).wf = true) :
    Calls Tryd.prog 4 #[.int .u8 x, .int .u8 y, .slice A l c, .int .u8 f, .int .u8 s] W fun e W' => e = .returned (.bool true) ∧ Below W.heap.size W W' := by
  have bx := bounds_u8 wx
  have by' := bounds_u8 wy
  have bf := bounds_u8 wf
  have bs := bounds_u8 ws
  have hP := PathAt.of_hs hp
  obtain ⟨rfl, hc, hc1, _, _⟩ := hp
  obtain ⟨n0, hn0, tx⟩ := crem_in x 20 bx.1 (by omega)
  obtain ⟨k, hk, ty⟩ := crem_in y (n0 + 1) by'.1 (by omega)
  obtain ⟨fr, hfr⟩ : ∃ fr : UInt8, (fr.toNat : Int) = f := ⟨UInt8.ofNat f.toNat, by rw [UInt8.toNat_ofNat']; omega⟩
  by_cases h : 20 < ps.length
  · exact finds_long n0 _ k _ x y s f A c W hT h bx by' tx rfl (by omega) ty hk
  · rw [← hfr]
    exact finds_in n0 _ k _ x y s fr A c ps W hT hP rfl (by omega) hc hc1 bx by' bs tx rfl (by omega) ty hk
end Go.Proofs.YtjblnjeloimbgaaDoor
