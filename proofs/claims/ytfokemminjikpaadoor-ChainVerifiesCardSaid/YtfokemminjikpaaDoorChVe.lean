/-
  The law ChainVerifies walked: whether a proof shows that a tree goes on is the document's. WRITTEN BY wip/gen/mkchve.py.
-/
import Derived.Test.YtfokemminjikpaaDoorRgB
import Derived.Test.YtfokemminjikpaaDoorKeyS
namespace Go.Proofs.YtfokemminjikpaaDoor
open Go.RowKit Go.BigFrame
set_option linter.unusedVariables false

theorem rcm_length (m n : Nat) (o : List UInt8) (ps : List (List UInt8)) (hm1 : 1 ≤ m) (hmn : m ≤ n) (hn : n ≤ 18446744073709551615) (ho : o.length = 32) (hall : ∀ x ∈ ps, x.length = 32) : (rcm m n o ps).1.length = 32 ∧ (rcm m n o ps).2.length = 32 := by
  unfold rcm
  by_cases h : ps.length = Tr.lng m n true
  · rw [if_pos h]
    exact Tr.cmd_length 64 m n true o ps (Tr.deep_le (by omega)) hm1 hmn (by omega) ho hall h
  · rw [if_neg h]
    exact ⟨rfl, rfl⟩
set_option maxRecDepth 100000 in
set_option maxHeartbeats 1000000 in
theorem rcver_out (m n : Nat) (o r : List UInt8) (v : Value) (w : World) (hi : m < 1 ∨ n < m) :
    Calls Tryd.prog 45 #[.agg (keyCells m o).toArray, .agg (keyCells n r).toArray, v] w fun e w' => e = .returned (.int .i64 15) ∧ Keeps (fun _ => False) w w' := by
  obtain ⟨KO, hKO⟩ : ∃ K, keyCells m o = K := ⟨_, rfl⟩
  obtain ⟨KN, hKN⟩ : ∃ K, keyCells n r = K := ⟨_, rfl⟩
  rw [hKO, hKN]
  obtain ⟨W1, hW1⟩ : ∃ W, w.alloc (.cells KO.toArray 55) = W := ⟨_, rfl⟩
  obtain ⟨W2, hW2⟩ : ∃ W, W1.alloc (.cells KN.toArray 55) = W := ⟨_, rfl⟩
  have k1 : Keeps (fun _ => False) w W1 := by rw [← hW1]; exact (Keeps.refl _ _).alloc _
  have k2 : Keeps (fun _ => False) W1 W2 := by rw [← hW2]; exact (Keeps.refl _ _).alloc _
  have r1 : Row W1 w.heap.size 55 (keyCells m o) := by rw [← hW1, hKO]; exact heap_alloc_new w _
  have r2 : Row W2 W1.heap.size 55 (keyCells n r) := by rw [← hW2, hKN]; exact heap_alloc_new W1 _
  have c1 := (key_row (r1.keeps k2 id)).1
  have c2 := (key_row r2).1
  have KK := Lib.hid (k1.trans k2)
  by_cases h1 : m < 1
  · have h1' : (m : Int) < 1 := by omega
    clear k1 k2 r1 r2 hKO hKN hi h1
    go_enter Tryd.func45, Tryd.ntmps45
    go_wp2_with fail
    go_ret
    exact ⟨rfl, KK.out⟩
  · have h1' : ¬ (m : Int) < 1 := by omega
    have h2' : (n : Int) < m := by omega
    clear k1 k2 r1 r2 hKO hKN hi h1
    go_enter Tryd.func45, Tryd.ntmps45
    go_wp2_with fail
    go_ret
    exact ⟨rfl, KK.out⟩
set_option maxRecDepth 100000 in
set_option maxHeartbeats 2000000 in
theorem rcver_in (m n : Nat) (o r : List UInt8) (A : Option Addr) (ps : List (List UInt8)) (c : Nat) (w : World) (ho : o.length = 32) (hr : r.length = 32) (hP : PathAt w A ps) (hc : ps.length ≤ c) (hlp : ps.length ≤ 100) (hm1 : 1 ≤ m) (hmn : m ≤ n) (hn : n ≤ 18446744073709551615) :
    Calls Tryd.prog 45 #[.agg (keyCells m o).toArray, .agg (keyCells n r).toArray, .slice A ps.length c] w fun e w' => e = .returned (.int .i64 (if ps.length = Tr.lng m n true then (if (Tr.cmd m n true o ps).1 = o ∧ (Tr.cmd m n true o ps).2 = r then 0 else 20) else 20)) ∧ Keeps (fun _ => False) w w' := by
  obtain ⟨KO, hKO⟩ : ∃ K, keyCells m o = K := ⟨_, rfl⟩
  obtain ⟨KN, hKN⟩ : ∃ K, keyCells n r = K := ⟨_, rfl⟩
  rw [hKO, hKN]
  obtain ⟨Z, hZ, hz, hzs⟩ := zero_hash
  obtain ⟨W1, hW1⟩ : ∃ W, w.alloc (.cells KO.toArray 55) = W := ⟨_, rfl⟩
  obtain ⟨W2, hW2⟩ : ∃ W, W1.alloc (.cells KN.toArray 55) = W := ⟨_, rfl⟩
  have k1 : Keeps (fun _ => False) w W1 := by rw [← hW1]; exact (Keeps.refl _ _).alloc _
  have k2 : Keeps (fun _ => False) W1 W2 := by rw [← hW2]; exact (Keeps.refl _ _).alloc _
  have b1 : w.heap.size < W1.heap.size := by rw [← hW1]; simp
  have b2 : W1.heap.size < W2.heap.size := by rw [← hW2]; simp
  have r1 : Row W2 w.heap.size 55 (keyCells m o) := Row.keeps (by rw [← hW1, hKO]; exact heap_alloc_new w _) k2 id
  have r2 : Row W2 W1.heap.size 55 (keyCells n r) := by rw [← hW2, hKN]; exact heap_alloc_new W1 _
  have k04 := k1.trans k2
  have c1 := (key_row r1).1
  have c2 := (key_row r2).1
  have hcall := rcm_any o ho m n A c ps W2 hm1 hmn hn (hP.keeps k04 (fun _ _ => id)) hlp hc
  obtain ⟨hL1, hL2⟩ := rcm_length m n o ps hm1 hmn hn ho hP.all
  have hif : (if ps.length = Tr.lng m n true then (if (Tr.cmd m n true o ps).1 = o ∧ (Tr.cmd m n true o ps).2 = r then (0 : Int) else 20) else 20) = if decide (ps.length = Tr.lng m n true) then (if ((rcm m n o ps).1 != o) then 20 else if ((rcm m n o ps).2 != r) then 20 else 0) else 20 := by
    unfold rcm
    by_cases h : ps.length = Tr.lng m n true
    · rw [decide_eq_true h, if_pos h, if_pos h, if_pos rfl]
      by_cases h1 : (Tr.cmd m n true o ps).1 = o
      · by_cases h2 : (Tr.cmd m n true o ps).2 = r
        · rw [if_pos ⟨h1, h2⟩, h1, h2]; simp
        · rw [if_neg (fun h => h2 h.2), if_neg (by rw [h1]; simp), if_pos (bne_iff_ne.2 h2)]
      · rw [if_neg (fun h => h1 h.1), if_pos (bne_iff_ne.2 h1)]
    · rw [decide_eq_false h, if_neg h, if_neg (by decide)]
  rw [hif]
  obtain ⟨L1, hl1⟩ : ∃ L, (rcm m n o ps).1 = L := ⟨_, rfl⟩
  obtain ⟨L2, hl2⟩ : ∃ L, (rcm m n o ps).2 = L := ⟨_, rfl⟩
  rw [hl1] at hL1
  rw [hl2] at hL2
  rw [hl1, hl2] at hcall ⊢
  have hro : ∀ V, Keeps (fun _ => False) W2 V → V.rangeAt w.heap.size 1 (bvs o) := fun V hV => (key_row (r1.keeps hV id)).2
  have hrn : ∀ V, Keeps (fun _ => False) W2 V → V.rangeAt W1.heap.size 1 (bvs r) := fun V hV => (key_row (r2.keeps hV id)).2
  have hro2 := (key_row r1).2
  have hpo : (Tryd.prog.info? 24).map (·.size) = some (bvs o).length := by rw [bvs_length, ho]; exact size_hash'
  have hpr : (Tryd.prog.info? 24).map (·.size) = some (bvs r).length := by rw [bvs_length, hr]; exact size_hash'
  obtain ⟨u0, hu0, _⟩ := info_parts info_u8t
  have hneq : ∀ (x y : List UInt8), x.length = 32 → y.length = 32 → ∀ V, (binOp .neq 24 (.agg (bvs x).toArray) (.agg (bvs y).toArray)).run Tryd.prog V = .ok (.bool (x != y)) V := fun x y hx hy V =>
    run_neq_bytes (P := Tryd.prog) V 24 5 32 Tryd.underlying24 Tryd.underlying5 hu0 (by kernel_rfl) (by kernel_rfl) x y hx hy
  have hn1 := hneq L1 o hL1 ho
  have hn2 := hneq L2 r hL2 hr
  obtain ⟨a1, a2, a3⟩ := arr_hash L1 hL1
  obtain ⟨e1, e2, e3⟩ := arr_hash L2 hL2
  obtain ⟨q0, hq0⟩ : ∃ q, decide (ps.length = Tr.lng m n true) = q := ⟨_, rfl⟩
  obtain ⟨q1, hq1⟩ : ∃ q, (L1 != o) = q := ⟨_, rfl⟩
  obtain ⟨q2, hq2⟩ : ∃ q, (L2 != r) = q := ⟨_, rfl⟩
  obtain ⟨F1, hF1⟩ : ∃ R, (bvs L1).toArray = R := ⟨_, rfl⟩
  obtain ⟨F2, hF2⟩ : ∃ R, (bvs L2).toArray = R := ⟨_, rfl⟩
  obtain ⟨OC, hOC⟩ : ∃ O, bvs o = O := ⟨_, rfl⟩
  obtain ⟨RC, hRC⟩ : ∃ O, bvs r = O := ⟨_, rfl⟩
  rw [hq1, hF1, hOC] at hn1
  rw [hq2, hF2, hRC] at hn2
  rw [hF1, hF2, hOC, hq0] at hcall
  rw [hF1] at a1 a2 a3
  rw [hF2] at e1 e2 e3
  rw [hOC] at hro hpo hro2
  rw [hRC] at hrn hpr
  rw [hq0, hq1, hq2]
  obtain ⟨l, hlm⟩ : ∃ l, ps.length = l := ⟨_, rfl⟩
  rw [hlm] at hcall ⊢
  have g1 : ¬ (m : Int) < 1 := by omega
  have g2 : ¬ (n : Int) < m := by omega
  have HCALL := Lib.hid hcall
  have KK := Lib.hid k04
  have N1 := Lib.hid hn1
  have N2 := Lib.hid hn2
  have HRO := Lib.hid hro
  have HRO2 := Lib.hid hro2
  have HRN := Lib.hid hrn
  have HPO := Lib.hid hpo
  have HPR := Lib.hid hpr
  have S1 := Lib.hid a1
  have Z1 := Lib.hid (hzs.trans a2.symm)
  have O1 := Lib.hid a3
  have S2 := Lib.hid e1
  have Z2 := Lib.hid (hzs.trans e2.symm)
  have O2 := Lib.hid e3
  clear hcall k04 k2 k1 b1 b2 r1 r2 hn1 hn2 hneq hro hro2 hrn hpo hpr a1 a2 a3 e1 e2 e3 hL1 hL2 hl1 hl2 hF1 hF2 hOC hRC hq0 hq1 hq2 hif hlm hKO hKN hP hZ hu0 hc hlp hm1 hmn ho hr
  go_enter Tryd.func45, Tryd.ntmps45
  go_wp2_with (refine wpList_load_mid_w (by rfl) 24 (.tmp 25) (by rfl) w.heap.size 1 (by rfl) OC _ HRO2.out Tryd.underlying24 rfl HPO.out ?_)
  refine HCALL.out.mono ?_
  rintro e w5 ⟨rfl, k5⟩
  obtain ⟨W6, hW6⟩ : ∃ V, w5.alloc (.cells Z 24) = V := ⟨_, rfl⟩
  obtain ⟨W7, hW7⟩ : ∃ V, W6.alloc (.cells Z 24) = V := ⟨_, rfl⟩
  have k6 : Keeps (fun _ => False) w5 W6 := by rw [← hW6]; exact (Keeps.refl _ _).alloc _
  have k7 : Keeps (fun _ => False) W6 W7 := by rw [← hW7]; exact (Keeps.refl _ _).alloc _
  have b6 : w5.heap.size < W6.heap.size := by rw [← hW6]; simp
  have ra : W7.heap[w5.heap.size]? = some (.cells Z 24 (0, 0)) := (k7.block _ b6 id).trans (by rw [← hW6]; exact heap_alloc_new w5 _)
  have rb : W7.heap[W6.heap.size]? = some (.cells Z 24 (0, 0)) := by rw [← hW7]; exact heap_alloc_new W6 _
  have hh := two_rows (R1 := F1) (R2 := F2) (show w5.heap.size ≠ W6.heap.size by omega) ra rb
  have HA := Lib.hid ra
  have HB := Lib.hid hh.1
  have HC := Lib.hid hh.2.1
  have HD := Lib.hid hh.2.2
  have kk : Keeps (fun _ => False) w5 ((W7.setRow w5.heap.size F1).setRow W6.heap.size F2) := ((k6.trans k7).trans' (Keeps.setRow w5.heap.size F1) (fun i hi h => by omega)).trans' (Keeps.setRow W6.heap.size F2) (fun i hi h => by omega)
  have HRO8 := Lib.hid (HRO.out _ (k5.trans kk))
  have HRN8 := Lib.hid (HRN.out _ (k5.trans kk))
  have K8 := Lib.hid (KK.out.trans (k5.trans kk))
  clear hh ra rb k6 k7 kk k5 b6 HCALL HRO HRN KK HRO2
  cases q0
  · go_wp2_with (first
        | (refine wpList_store_row rfl 24 _ _ rfl w5.heap.size F1 rfl rfl 24 Z HA.out S1.out Z1.out O1.out ?_)
        | (refine wpList_store_row rfl 24 _ _ rfl W6.heap.size F2 rfl rfl 24 Z HB.out S2.out Z2.out O2.out ?_))
    go_ret
    exact ⟨rfl, K8.out⟩
  cases q1
  · cases q2
    all_goals
      go_wp2_with (first
        | (refine wpList_store_row rfl 24 _ _ rfl w5.heap.size F1 rfl rfl 24 Z HA.out S1.out Z1.out O1.out ?_)
        | (refine wpList_store_row rfl 24 _ _ rfl W6.heap.size F2 rfl rfl 24 Z HB.out S2.out Z2.out O2.out ?_)
        | (refine wpList_load_row_w (by rfl) 24 (.tmp 7) (by rfl) w5.heap.size (by rfl) 24 F1 (0, 0) _ HC.out Tryd.underlying24 rfl S1.out ?_)
        | (refine wpList_load_mid_w (by rfl) 24 (.tmp 36) (by rfl) w.heap.size 1 (by rfl) OC _ HRO8.out Tryd.underlying24 rfl HPO.out ?_)
        | (refine wpList_eq_agg_w (by rfl) .neq 24 _ (.tmp 35) (.tmp 37) (by rfl) F1 OC.toArray (by rfl) (by rfl) (by kernel_rfl) _ (N1.out _) ?_)
        | (refine wpList_load_row_w (by rfl) 24 (.tmp 8) (by rfl) W6.heap.size (by rfl) 24 F2 (0, 0) _ HD.out Tryd.underlying24 rfl S2.out ?_)
        | (refine wpList_load_mid_w (by rfl) 24 (.tmp 42) (by rfl) W1.heap.size 1 (by rfl) RC _ HRN8.out Tryd.underlying24 rfl HPR.out ?_)
        | (refine wpList_eq_agg_w (by rfl) .neq 24 _ (.tmp 41) (.tmp 43) (by rfl) F2 RC.toArray (by rfl) (by rfl) (by kernel_rfl) _ (N2.out _) ?_))
      go_ret
      exact ⟨rfl, K8.out⟩
  · go_wp2_with (first
        | (refine wpList_store_row rfl 24 _ _ rfl w5.heap.size F1 rfl rfl 24 Z HA.out S1.out Z1.out O1.out ?_)
        | (refine wpList_store_row rfl 24 _ _ rfl W6.heap.size F2 rfl rfl 24 Z HB.out S2.out Z2.out O2.out ?_)
        | (refine wpList_load_row_w (by rfl) 24 (.tmp 7) (by rfl) w5.heap.size (by rfl) 24 F1 (0, 0) _ HC.out Tryd.underlying24 rfl S1.out ?_)
        | (refine wpList_load_mid_w (by rfl) 24 (.tmp 36) (by rfl) w.heap.size 1 (by rfl) OC _ HRO8.out Tryd.underlying24 rfl HPO.out ?_)
        | (refine wpList_eq_agg_w (by rfl) .neq 24 _ (.tmp 35) (.tmp 37) (by rfl) F1 OC.toArray (by rfl) (by rfl) (by kernel_rfl) _ (N1.out _) ?_))
    go_ret
    exact ⟨rfl, K8.out⟩
theorem rcverify_any (m n : Nat) (o r : List UInt8) (A : Option Addr) (ps : List (List UInt8)) (c : Nat) (w : World) (ho : o.length = 32) (hr : r.length = 32) (hP : PathAt w A ps) (hc : ps.length ≤ c) (hlp : ps.length ≤ 100) (hn : n ≤ 18446744073709551615) :
    Calls Tryd.prog 45 #[.agg (keyCells m o).toArray, .agg (keyCells n r).toArray, .slice A ps.length c] w fun e w' => e = .returned (.int .i64 (Tr.cverify m o n r ps)) ∧ Keeps (fun _ => False) w w' := by
  unfold Tr.cverify
  by_cases h1 : m < 1 ∨ n < m
  · rw [if_pos h1]
    exact rcver_out m n o r _ w h1
  rw [if_neg h1]
  exact rcver_in m n o r A ps c w ho hr hP hc hlp (by omega) (by omega) hn
set_option maxRecDepth 100000 in
set_option maxHeartbeats 1000000 in
theorem cvf_long (m n : Nat) (o r : List UInt8) (A : Option Addr) (l c : Nat) (x : Int) (W : World) (hT : Tabs W) (hl : 70 < l) :
    Calls Tryd.prog 7 #[.agg (keyCells m o).toArray, .agg (keyCells n r).toArray, .slice A l c, .int .u8 x] W fun e W' => e = .returned (.bool true) ∧ Below W.heap.size W W' := by
  obtain ⟨KO, hKO⟩ : ∃ K, keyCells m o = K := ⟨_, rfl⟩
  obtain ⟨KN, hKN⟩ : ∃ K, keyCells n r = K := ⟨_, rfl⟩
  obtain ⟨W1, hW1⟩ : ∃ V, W.alloc (.cells KO.toArray 55) = V := ⟨_, rfl⟩
  obtain ⟨W2, hW2⟩ : ∃ V, W1.alloc (.cells KN.toArray 55) = V := ⟨_, rfl⟩
  have k1 : Keeps (fun _ => False) W W1 := by rw [← hW1]; exact (Keeps.refl _ _).alloc _
  have k2 : Keeps (fun _ => False) W1 W2 := by rw [← hW2]; exact (Keeps.refl _ _).alloc _
  have b1 : W.heap.size < W1.heap.size := by rw [← hW1]; simp
  have b2 : W1.heap.size < W2.heap.size := by rw [← hW2]; simp
  have r4 : Row W2 W.heap.size 55 (keyCells m o) := Row.keeps (by rw [← hW1, hKO]; exact heap_alloc_new W _) k2 id
  have r5 : Row W2 W1.heap.size 55 (keyCells n r) := by rw [← hW2, hKN]; exact heap_alloc_new W1 _
  have HAW := Lib.hid (awake4_any W2 (hT.keeps (k1.trans k2) id id))
  have K2 := Lib.hid (k1.trans k2)
  have HKO := Lib.hid hKO
  have HKN := Lib.hid hKN
  have hl' : (70 : Int) < l := by omega
  rw [hKO, hKN]
  clear hT hl r4 r5 k1 k2 b1 b2 hKO hKN
  go_enter Tryd.func7, Tryd.ntmps7
  go_wp2_with fail
  refine HAW.out.mono ?_
  rintro e3 w3 ⟨rfl, k3⟩
  go_wp2
  go_ret
  exact ⟨rfl, keeps_below3 (K2.out.trans k3)⟩
set_option maxRecDepth 100000 in
set_option maxHeartbeats 4000000 in
theorem cvf_off (m n : Nat) (o r : List UInt8) (A : Option Addr) (ps : List (List UInt8)) (c : Nat) (x : Int) (W : World) (hT : Tabs W) (ho : o.length = 32) (hr : r.length = 32) (hP : PathAt W A ps) (hc : ps.length ≤ c) (hmax : c ≤ 9223372036854775807) (hlp : ps.length ≤ 70) (hm : m ≤ 18446744073709551615) (hn : n ≤ 18446744073709551615) (hoff : ¬ 0 < x ∨ m < 1 ∨ n < m) :
    Calls Tryd.prog 7 #[.agg (keyCells m o).toArray, .agg (keyCells n r).toArray, .slice A ps.length c, .int .u8 x] W fun e W' => e = .returned (.bool true) ∧ Below W.heap.size W W' := by
  have hver := fun (a b : List UInt8) (ha : a.length = 32) (hb : b.length = 32) V (hk : Keeps (fun _ => False) W V) => cverify_any m n a b A ps c V (hT.keeps hk id id) ha hb (hP.keeps hk (fun _ _ => id)) hc hmax (by omega) (by omega)
  have href := fun (a b : List UInt8) (ha : a.length = 32) (hb : b.length = 32) V (hk : Keeps (fun _ => False) W V) => rcverify_any m n a b A ps c V ha hb (hP.keeps hk (fun _ _ => id)) hc (by omega) (by omega)
  obtain ⟨KO, hKO⟩ : ∃ K, keyCells m o = K := ⟨_, rfl⟩
  obtain ⟨KN, hKN⟩ : ∃ K, keyCells n r = K := ⟨_, rfl⟩
  obtain ⟨W1, hW1⟩ : ∃ V, W.alloc (.cells KO.toArray 55) = V := ⟨_, rfl⟩
  obtain ⟨W2, hW2⟩ : ∃ V, W1.alloc (.cells KN.toArray 55) = V := ⟨_, rfl⟩
  have k1 : Keeps (fun _ => False) W W1 := by rw [← hW1]; exact (Keeps.refl _ _).alloc _
  have k2 : Keeps (fun _ => False) W1 W2 := by rw [← hW2]; exact (Keeps.refl _ _).alloc _
  have b1 : W.heap.size < W1.heap.size := by rw [← hW1]; simp
  have b2 : W1.heap.size < W2.heap.size := by rw [← hW2]; simp
  have r4 : Row W2 W.heap.size 55 (keyCells m o) := Row.keeps (by rw [← hW1, hKO]; exact heap_alloc_new W _) k2 id
  have r5 : Row W2 W1.heap.size 55 (keyCells n r) := by rw [← hW2, hKN]; exact heap_alloc_new W1 _
  have HAW := Lib.hid (awake4_any W2 (hT.keeps (k1.trans k2) id id))
  have K2 := Lib.hid (k1.trans k2)
  have HKO := Lib.hid hKO
  have HKN := Lib.hid hKN
  have hv0 := hver o r ho hr
  have hr0 := href o r ho hr
  obtain ⟨V0, hV0⟩ : ∃ v, Tr.cverify m o n r ps = v := ⟨_, rfl⟩
  have sKO : (Tryd.prog.info? 55).map (·.size) = some KO.length := by rw [← hKO, keyCells_length m o ho]; exact size_key
  have sKN : (Tryd.prog.info? 55).map (·.size) = some KN.length := by rw [← hKN, keyCells_length n r hr]; exact size_key
  rw [hV0, hKO, hKN] at hv0 hr0
  obtain ⟨l, hlm⟩ : ∃ l, ps.length = l := ⟨_, rfl⟩
  rw [hlm] at hv0 hr0 hlp ⊢
  rw [hKO, hKN]
  have TV0 := Lib.hid hv0
  have RV0 := Lib.hid hr0
  have SKO := Lib.hid sKO
  have SKN := Lib.hid sKN
  have R4 := Lib.hid r4
  have R5 := Lib.hid r5
  have hl' : ¬ (70 : Int) < l := by omega
  have hq : ¬ (0 : Int) < x ∨ (0 < x ∧ ¬ (1 : Int) ≤ m) ∨ (0 < x ∧ (1 : Int) ≤ m ∧ ¬ (m : Int) ≤ n) := by omega
  clear hoff hT hP hc hmax hlp hm hn ho hr r4 r5 k1 k2 b1 b2 hKO hKN hver href hv0 hr0 sKO sKN hV0 hlm
  rcases hq with h1 | ⟨h1, h2⟩ | ⟨h1, h2, h3⟩
  all_goals
    go_enter Tryd.func7, Tryd.ntmps7
    go_wp2_with fail
    refine HAW.out.mono ?_
    rintro e3 w3 ⟨rfl, k3⟩
    have K3 := Lib.hid (K2.out.trans k3)
    have R43 := Lib.hid (Row.keeps R4.out k3 id)
    have R53 := Lib.hid (Row.keeps R5.out k3 id)
    have c4 := (key_row R43.out).1
    have c5 := (key_row R53.out).1
    clear HAW K2 R4 R5
    have Q4 : Hid (Row w3 W.heap.size 55 KO) := Lib.hid (by rw [← HKO.out]; exact R43.out : Row w3 W.heap.size 55 KO)
    have Q5 : Hid (Row w3 W1.heap.size 55 KN) := Lib.hid (by rw [← HKN.out]; exact R53.out : Row w3 W1.heap.size 55 KN)
    clear k3 R43 R53
    go_wp2_with fail
    clear c4 c5
    have CVL : Hid (∀ V, Later w3 V → Calls Tryd.prog 44 #[.agg KO.toArray, .agg KN.toArray, .slice A l c] V fun e w' => e = .returned (.int .i64 V0) ∧ Keeps (fun _ => False) V w') := fun V hV => TV0.out V (K3.out.trans hV.out)
    have RVL : Hid (∀ V, Later w3 V → Calls Tryd.prog 45 #[.agg KO.toArray, .agg KN.toArray, .slice A l c] V fun e w' => e = .returned (.int .i64 V0) ∧ Keeps (fun _ => False) V w') := fun V hV => RV0.out V (K3.out.trans hV.out)
    have G4 : Hid (∀ V, Later w3 V → V.rangeAt W.heap.size 0 KO) := fun V hV => row_range (Row.keeps Q4.out hV.out id)
    have G5 : Hid (∀ V, Later w3 V → V.rangeAt W1.heap.size 0 KN) := fun V hV => row_range (Row.keeps Q5.out hV.out id)
    have FIN : Hid (∀ V, Later w3 V → Below W.heap.size W V) := fun V hV => keeps_below3 (K3.out.trans hV.out)
    refine wp_region_loose [] [0, 1, 2, 3, 4, 5, 6, 7, 8, 9] (by kernel_rfl) (by kernel_rfl) ?_
    refine R_load (get_op rfl) (by rfl) (by rfl) 55 (.tmp 4) (by rfl) W.heap.size 0 (by rfl) KO _ (fun V hV => G4.out V hV) Tryd.underlying55 rfl SKO.out ?_
    simp only [Act.put, List.setIfInBounds_toArray, List.set_cons_zero, List.set_cons_succ]
    refine R_load (get_op rfl) (by rfl) (by rfl) 55 (.tmp 5) (by rfl) W1.heap.size 0 (by rfl) KN _ (fun V hV => G5.out V hV) Tryd.underlying55 rfl SKN.out ?_
    simp only [Act.put, List.setIfInBounds_toArray, List.set_cons_zero, List.set_cons_succ]
    refine R_value (get_op rfl) (by rfl) (by rfl) (.slice A l c) (fun _ _ => by go_simp) ?_
    simp only [Act.put, List.setIfInBounds_toArray, List.set_cons_zero, List.set_cons_succ]
    refine R_call (get_op rfl) (by rfl) (by rfl) _ _ (.int .i64 V0) (fun _ => by go_simp) (fun V hV => CVL.out V hV) ?_
    simp only [Act.put, List.setIfInBounds_toArray, List.set_cons_zero, List.set_cons_succ]
    refine R_load (get_op rfl) (by rfl) (by rfl) 55 (.tmp 4) (by rfl) W.heap.size 0 (by rfl) KO _ (fun V hV => G4.out V hV) Tryd.underlying55 rfl SKO.out ?_
    simp only [Act.put, List.setIfInBounds_toArray, List.set_cons_zero, List.set_cons_succ]
    refine R_load (get_op rfl) (by rfl) (by rfl) 55 (.tmp 5) (by rfl) W1.heap.size 0 (by rfl) KN _ (fun V hV => G5.out V hV) Tryd.underlying55 rfl SKN.out ?_
    simp only [Act.put, List.setIfInBounds_toArray, List.set_cons_zero, List.set_cons_succ]
    refine R_value (get_op rfl) (by rfl) (by rfl) (.slice A l c) (fun _ _ => by go_simp) ?_
    simp only [Act.put, List.setIfInBounds_toArray, List.set_cons_zero, List.set_cons_succ]
    refine R_call (get_op rfl) (by rfl) (by rfl) _ _ (.int .i64 V0) (fun _ => by go_simp) (fun V hV => RVL.out V hV) ?_
    simp only [Act.put, List.setIfInBounds_toArray, List.set_cons_zero, List.set_cons_succ]
    refine R_value (get_op rfl) (by rfl) (by rfl) (.bool true) (fun _ _ => by go_simp) ?_
    simp only [Act.put, List.setIfInBounds_toArray, List.set_cons_zero, List.set_cons_succ]
    refine R_value (get_op rfl) (by rfl) (by rfl) (.bool true) (fun _ _ => by go_simp) ?_
    simp only [Act.put, List.setIfInBounds_toArray, List.set_cons_zero, List.set_cons_succ]
    refine R_nil ?_
    intro wf hwf
    have hfin := FIN.out wf hwf
    go_wp2
    go_ret
    exact ⟨rfl, hfin⟩
set_option maxRecDepth 100000 in
set_option maxHeartbeats 4000000 in
theorem cvf_one (m n : Nat) (o r : List UInt8) (A : Option Addr) (ps : List (List UInt8)) (c : Nat) (x : Int) (W : World) (hT : Tabs W) (ho : o.length = 32) (hr : r.length = 32) (hP : PathAt W A ps) (hc : ps.length ≤ c) (hmax : c ≤ 9223372036854775807) (hlp : ps.length ≤ 70) (hm : m ≤ 18446744073709551615) (hn : n ≤ 18446744073709551615) (hm1 : 1 ≤ m) (hmn : m ≤ n) (hx0 : 0 < x) (hx1 : ¬ 1 < x) :
    Calls Tryd.prog 7 #[.agg (keyCells m o).toArray, .agg (keyCells n r).toArray, .slice A ps.length c, .int .u8 x] W fun e W' => e = .returned (.bool true) ∧ Below W.heap.size W W' := by
  have hver := fun (a b : List UInt8) (ha : a.length = 32) (hb : b.length = 32) V (hk : Keeps (fun _ => False) W V) => cverify_any m n a b A ps c V (hT.keeps hk id id) ha hb (hP.keeps hk (fun _ _ => id)) hc hmax (by omega) (by omega)
  have href := fun (a b : List UInt8) (ha : a.length = 32) (hb : b.length = 32) V (hk : Keeps (fun _ => False) W V) => rcverify_any m n a b A ps c V ha hb (hP.keeps hk (fun _ _ => id)) hc (by omega) (by omega)
  have hmade := fun (a : List UInt8) (ha : a.length = 32) V (hk : Keeps (fun _ => False) W V) => rcm_any a ha m n A c ps V hm1 hmn hn (hP.keeps hk (fun _ _ => id)) (by omega) hc
  have hlen := fun (a : List UInt8) (ha : a.length = 32) => rcm_length m n a ps hm1 hmn hn ha hP.all
  obtain ⟨Z, hZ, hz, hzs⟩ := zero_hash
  obtain ⟨L1, hL1⟩ : ∃ L, (rcm m n o ps).1 = L := ⟨_, rfl⟩
  obtain ⟨L2, hL2⟩ : ∃ L, (rcm m n o ps).2 = L := ⟨_, rfl⟩
  have hl1 : L1.length = 32 := by rw [← hL1]; exact (hlen o ho).1
  have hl2 : L2.length = 32 := by rw [← hL2]; exact (hlen o ho).2
  obtain ⟨L3, hL3⟩ : ∃ L, (rcm m n o ps).1 = L := ⟨_, rfl⟩
  obtain ⟨L4, hL4⟩ : ∃ L, (rcm m n o ps).2 = L := ⟨_, rfl⟩
  have hl3 : L3.length = 32 := by rw [← hL3]; exact (hlen o ho).1
  have hl4 : L4.length = 32 := by rw [← hL4]; exact (hlen o ho).2
  have hma := hmade o ho
  have hmb := hmade o ho
  rw [hL1, hL2] at hma
  rw [hL3, hL4] at hmb
  obtain ⟨OC, hOC⟩ : ∃ C, bvs o = C := ⟨_, rfl⟩
  have hpo : (Tryd.prog.info? 24).map (·.size) = some OC.length := by rw [← hOC, bvs_length, ho]; exact size_hash'
  obtain ⟨s1, z1, o1⟩ := arr_hash L1 hl1
  obtain ⟨C1, hC1⟩ : ∃ C, bvs L1 = C := ⟨_, rfl⟩
  rw [hC1] at s1 z1 o1
  have HC1 := Lib.hid hC1
  have HL1 := Lib.hid hl1
  have S1 := Lib.hid s1
  have Z1 := Lib.hid (hzs.trans z1.symm)
  have N1 := Lib.hid z1
  have O1 := Lib.hid o1
  obtain ⟨s2, z2, o2⟩ := arr_hash L2 hl2
  obtain ⟨C2, hC2⟩ : ∃ C, bvs L2 = C := ⟨_, rfl⟩
  rw [hC2] at s2 z2 o2
  have HC2 := Lib.hid hC2
  have HL2 := Lib.hid hl2
  have S2 := Lib.hid s2
  have Z2 := Lib.hid (hzs.trans z2.symm)
  have N2 := Lib.hid z2
  have O2 := Lib.hid o2
  obtain ⟨s3, z3, o3⟩ := arr_hash L3 hl3
  obtain ⟨C3, hC3⟩ : ∃ C, bvs L3 = C := ⟨_, rfl⟩
  rw [hC3] at s3 z3 o3
  have HC3 := Lib.hid hC3
  have HL3 := Lib.hid hl3
  have S3 := Lib.hid s3
  have Z3 := Lib.hid (hzs.trans z3.symm)
  have N3 := Lib.hid z3
  have O3 := Lib.hid o3
  obtain ⟨s4, z4, o4⟩ := arr_hash L4 hl4
  obtain ⟨C4, hC4⟩ : ∃ C, bvs L4 = C := ⟨_, rfl⟩
  rw [hC4] at s4 z4 o4
  have HC4 := Lib.hid hC4
  have HL4 := Lib.hid hl4
  have S4 := Lib.hid s4
  have Z4 := Lib.hid (hzs.trans z4.symm)
  have N4 := Lib.hid z4
  have O4 := Lib.hid o4
  have hp1 : (Tryd.prog.info? 24).map (·.size) = some C1.length := by rw [← hC1, bvs_length, hl1]; exact size_hash'
  obtain ⟨KA, hKA⟩ : ∃ K, keyCells m L3 = K := ⟨_, rfl⟩
  obtain ⟨KB, hKB⟩ : ∃ K, keyCells n L4 = K := ⟨_, rfl⟩
  obtain ⟨KO, hKO⟩ : ∃ K, keyCells m o = K := ⟨_, rfl⟩
  obtain ⟨KN, hKN⟩ : ∃ K, keyCells n r = K := ⟨_, rfl⟩
  obtain ⟨W1, hW1⟩ : ∃ V, W.alloc (.cells KO.toArray 55) = V := ⟨_, rfl⟩
  obtain ⟨W2, hW2⟩ : ∃ V, W1.alloc (.cells KN.toArray 55) = V := ⟨_, rfl⟩
  have k1 : Keeps (fun _ => False) W W1 := by rw [← hW1]; exact (Keeps.refl _ _).alloc _
  have k2 : Keeps (fun _ => False) W1 W2 := by rw [← hW2]; exact (Keeps.refl _ _).alloc _
  have b1 : W.heap.size < W1.heap.size := by rw [← hW1]; simp
  have b2 : W1.heap.size < W2.heap.size := by rw [← hW2]; simp
  have r4 : Row W2 W.heap.size 55 (keyCells m o) := Row.keeps (by rw [← hW1, hKO]; exact heap_alloc_new W _) k2 id
  have r5 : Row W2 W1.heap.size 55 (keyCells n r) := by rw [← hW2, hKN]; exact heap_alloc_new W1 _
  have HAW := Lib.hid (awake4_any W2 (hT.keeps (k1.trans k2) id id))
  have K2 := Lib.hid (k1.trans k2)
  have HKO := Lib.hid hKO
  have HKN := Lib.hid hKN
  have hv0 := hver o r ho hr
  have hr0 := href o r ho hr
  obtain ⟨V0, hV0⟩ : ∃ v, Tr.cverify m o n r ps = v := ⟨_, rfl⟩
  have sKO : (Tryd.prog.info? 55).map (·.size) = some KO.length := by rw [← hKO, keyCells_length m o ho]; exact size_key
  have sKN : (Tryd.prog.info? 55).map (·.size) = some KN.length := by rw [← hKN, keyCells_length n r hr]; exact size_key
  rw [hV0, hKO, hKN] at hv0 hr0
  have hv1 := hver L3 L4 hl3 hl4
  have hr1 := href L3 L4 hl3 hl4
  obtain ⟨V1, hV1⟩ : ∃ v, Tr.cverify m L3 n L4 ps = v := ⟨_, rfl⟩
  have sKA : (Tryd.prog.info? 55).map (·.size) = some KA.length := by rw [← hKA, keyCells_length m L3 hl3]; exact size_key
  have sKB : (Tryd.prog.info? 55).map (·.size) = some KB.length := by rw [← hKB, keyCells_length n L4 hl4]; exact size_key
  rw [hV1, hKA, hKB] at hv1 hr1
  rw [hC1, hC2, hOC] at hma
  rw [hC3, hC4, hOC] at hmb
  obtain ⟨q, hq⟩ : ∃ q, decide (ps.length = Tr.lng m n true) = q := ⟨_, rfl⟩
  rw [hq] at hma hmb
  obtain ⟨l, hlm⟩ : ∃ l, ps.length = l := ⟨_, rfl⟩
  rw [hlm] at hv0 hr0 hv1 hr1 hma hmb hlp ⊢
  rw [hKO, hKN]
  have HKA := Lib.hid hKA
  have HKB := Lib.hid hKB
  have HOC := Lib.hid hOC
  have HO := Lib.hid ho
  have HR := Lib.hid hr
  have TV0 := Lib.hid hv0
  have RV0 := Lib.hid hr0
  have TV1 := Lib.hid hv1
  have RV1 := Lib.hid hr1
  have SKO := Lib.hid sKO
  have SKN := Lib.hid sKN
  have SKA := Lib.hid sKA
  have SKB := Lib.hid sKB
  have SOC := Lib.hid hpo
  have SM1 := Lib.hid hp1
  have N24 := Lib.hid (z2.trans z4.symm)
  have HMA := Lib.hid hma
  have HMB := Lib.hid hmb
  have R4 := Lib.hid r4
  have R5 := Lib.hid r5
  have B12 := Lib.hid (show W.heap.size < W1.heap.size ∧ W1.heap.size < W2.heap.size from ⟨b1, b2⟩)
  have hl' : ¬ (70 : Int) < l := by omega
  have h2 : (1 : Int) ≤ m := by omega
  have h3 : (m : Int) ≤ n := by omega
  clear hT hP hc hmax hlp hm hn ho hr r4 r5 k1 k2 b1 b2 hKO hKN hKA hKB hver href hmade hlen hv0 hr0 hv1 hr1 sKO sKN sKA sKB hpo hp1 hma hmb hV0 hV1 hlm hq hOC hC1 hC2 hC3 hC4 s1 z1 o1 s2 z2 o2 s3 z3 o3 s4 z4 o4 hl1 hl2 hl3 hl4 hL1 hL2 hL3 hL4 hm1 hmn hZ hzs
  go_enter Tryd.func7, Tryd.ntmps7
  go_wp2_with fail
  refine HAW.out.mono ?_
  rintro e3 w3 ⟨rfl, k3⟩
  have K3 := Lib.hid (K2.out.trans k3)
  have R43 := Lib.hid (Row.keeps R4.out k3 id)
  have R53 := Lib.hid (Row.keeps R5.out k3 id)
  have c4 := (key_row R43.out).1
  have c5 := (key_row R53.out).1
  clear HAW K2 R4 R5
  have LT3 := Lib.hid (show W1.heap.size < w3.heap.size from R53.out.lt)
  have G41 : Hid (w3.rangeAt W.heap.size 1 OC) := Lib.hid (by rw [← HOC.out]; exact (key_row R43.out).2)
  clear k3
  go_wp2_with (first
    | (refine wpList_load_mid_w (by rfl) 24 (.tmp 41) (by rfl) W.heap.size 1 (by rfl) OC _ G41.out Tryd.underlying24 rfl SOC.out ?_))
  refine (HMA.out w3 K3.out).mono ?_
  rintro e5 w5 ⟨rfl, k5⟩
  have LT5 : w3.heap.size ≤ w5.heap.size := k5.size
  obtain ⟨W6, hW6⟩ : ∃ V, w5.alloc (.cells Z 24) = V := ⟨_, rfl⟩
  obtain ⟨W7, hW7⟩ : ∃ V, W6.alloc (.cells Z 24) = V := ⟨_, rfl⟩
  have kW6 : Keeps (fun _ => False) w5 W6 := by rw [← hW6]; exact (Keeps.refl _ _).alloc _
  have kW7 : Keeps (fun _ => False) W6 W7 := by rw [← hW7]; exact (Keeps.refl _ _).alloc _
  have bW6 : w5.heap.size < W6.heap.size := by rw [← hW6]; simp
  have ra : W7.heap[w5.heap.size]? = some (.cells Z 24 (0, 0)) := (kW7.block _ bW6 id).trans (by rw [← hW6]; exact heap_alloc_new w5 _)
  have rb : W7.heap[W6.heap.size]? = some (.cells Z 24 (0, 0)) := by rw [← hW7]; exact heap_alloc_new W6 _
  have hh := two_rows (R1 := C1.toArray) (R2 := C2.toArray) (show w5.heap.size ≠ W6.heap.size by omega) ra rb
  have kkw8 : Keeps (fun _ => False) w5 ((W7.setRow w5.heap.size C1.toArray).setRow W6.heap.size C2.toArray) := ((kW6.trans kW7).trans' (Keeps.setRow w5.heap.size C1.toArray) (fun i hi h => by omega)).trans' (Keeps.setRow W6.heap.size C2.toArray) (fun i hi h => by omega)
  obtain ⟨w8, hw8⟩ : ∃ V, (W7.setRow w5.heap.size C1.toArray).setRow W6.heap.size C2.toArray = V := ⟨_, rfl⟩
  rw [hw8] at hh kkw8
  have HAw8 := Lib.hid ra
  have HBw8 := Lib.hid hh.1
  have HXw8 := Lib.hid hh.2.1
  have HYw8 := Lib.hid hh.2.2
  have K8 := Lib.hid (K3.out.trans (k5.trans kkw8))
  have R48 := Lib.hid (Row.keeps R43.out (k5.trans kkw8) id)
  have R58 := Lib.hid (Row.keeps R53.out (k5.trans kkw8) id)
  have BO := Lib.hid (show W.heap.size < W1.heap.size ∧ W1.heap.size < w5.heap.size ∧ w5.heap.size < W6.heap.size by have := B12.out; have := LT3.out; omega)
  clear hh ra rb kW6 kW7 bW6 kkw8 k5 LT5 c4 c5 HMA G41 K3 R43 R53
  cases q
  · go_wp2_with (first
      | (refine wpList_store_row rfl 24 _ _ rfl w5.heap.size C1.toArray rfl rfl 24 Z HAw8.out S1.out Z1.out O1.out ?_)
      | (refine wpList_store_row rfl 24 _ _ rfl W6.heap.size C2.toArray rfl rfl 24 Z HBw8.out S2.out Z2.out O2.out ?_; rw [hw8]))
    have Q4 : Hid (Row w8 W.heap.size 55 KO) := Lib.hid (by rw [← HKO.out]; exact R48.out : Row w8 W.heap.size 55 KO)
    have Q5 : Hid (Row w8 W1.heap.size 55 KN) := Lib.hid (by rw [← HKN.out]; exact R58.out : Row w8 W1.heap.size 55 KN)
    clear hw8
    have CVL : Hid (∀ V, Later w8 V → Calls Tryd.prog 44 #[.agg KO.toArray, .agg KN.toArray, .slice A l c] V fun e w' => e = .returned (.int .i64 V0) ∧ Keeps (fun _ => False) V w') := fun V hV => TV0.out V (K8.out.trans hV.out)
    have RVL : Hid (∀ V, Later w8 V → Calls Tryd.prog 45 #[.agg KO.toArray, .agg KN.toArray, .slice A l c] V fun e w' => e = .returned (.int .i64 V0) ∧ Keeps (fun _ => False) V w') := fun V hV => RV0.out V (K8.out.trans hV.out)
    have G4 : Hid (∀ V, Later w8 V → V.rangeAt W.heap.size 0 KO) := fun V hV => row_range (Row.keeps Q4.out hV.out id)
    have G5 : Hid (∀ V, Later w8 V → V.rangeAt W1.heap.size 0 KN) := fun V hV => row_range (Row.keeps Q5.out hV.out id)
    have FIN : Hid (∀ V, Later w8 V → Below W.heap.size W V) := fun V hV => keeps_below3 (K8.out.trans hV.out)
    refine wp_region_loose [] [0, 1, 2, 3, 4, 5, 6, 7, 8, 9] (by kernel_rfl) (by kernel_rfl) ?_
    refine R_load (get_op rfl) (by rfl) (by rfl) 55 (.tmp 4) (by rfl) W.heap.size 0 (by rfl) KO _ (fun V hV => G4.out V hV) Tryd.underlying55 rfl SKO.out ?_
    simp only [Act.put, List.setIfInBounds_toArray, List.set_cons_zero, List.set_cons_succ]
    refine R_load (get_op rfl) (by rfl) (by rfl) 55 (.tmp 5) (by rfl) W1.heap.size 0 (by rfl) KN _ (fun V hV => G5.out V hV) Tryd.underlying55 rfl SKN.out ?_
    simp only [Act.put, List.setIfInBounds_toArray, List.set_cons_zero, List.set_cons_succ]
    refine R_value (get_op rfl) (by rfl) (by rfl) (.slice A l c) (fun _ _ => by go_simp) ?_
    simp only [Act.put, List.setIfInBounds_toArray, List.set_cons_zero, List.set_cons_succ]
    refine R_call (get_op rfl) (by rfl) (by rfl) _ _ (.int .i64 V0) (fun _ => by go_simp) (fun V hV => CVL.out V hV) ?_
    simp only [Act.put, List.setIfInBounds_toArray, List.set_cons_zero, List.set_cons_succ]
    refine R_load (get_op rfl) (by rfl) (by rfl) 55 (.tmp 4) (by rfl) W.heap.size 0 (by rfl) KO _ (fun V hV => G4.out V hV) Tryd.underlying55 rfl SKO.out ?_
    simp only [Act.put, List.setIfInBounds_toArray, List.set_cons_zero, List.set_cons_succ]
    refine R_load (get_op rfl) (by rfl) (by rfl) 55 (.tmp 5) (by rfl) W1.heap.size 0 (by rfl) KN _ (fun V hV => G5.out V hV) Tryd.underlying55 rfl SKN.out ?_
    simp only [Act.put, List.setIfInBounds_toArray, List.set_cons_zero, List.set_cons_succ]
    refine R_value (get_op rfl) (by rfl) (by rfl) (.slice A l c) (fun _ _ => by go_simp) ?_
    simp only [Act.put, List.setIfInBounds_toArray, List.set_cons_zero, List.set_cons_succ]
    refine R_call (get_op rfl) (by rfl) (by rfl) _ _ (.int .i64 V0) (fun _ => by go_simp) (fun V hV => RVL.out V hV) ?_
    simp only [Act.put, List.setIfInBounds_toArray, List.set_cons_zero, List.set_cons_succ]
    refine R_value (get_op rfl) (by rfl) (by rfl) (.bool true) (fun _ _ => by go_simp) ?_
    simp only [Act.put, List.setIfInBounds_toArray, List.set_cons_zero, List.set_cons_succ]
    refine R_value (get_op rfl) (by rfl) (by rfl) (.bool true) (fun _ _ => by go_simp) ?_
    simp only [Act.put, List.setIfInBounds_toArray, List.set_cons_zero, List.set_cons_succ]
    refine R_nil ?_
    intro wf hwf
    have hfin := FIN.out wf hwf
    go_wp2
    go_ret
    exact ⟨rfl, hfin⟩
  · have R4y := R48
    have R5y := R58
    have Ky := K8
    have H11y := HYw8
    have cy4 := (key_row R4y.out).1
    have cy5 := (key_row R5y.out).1
    have Gy : Hid (w8.rangeAt W.heap.size 1 OC) := Lib.hid (by rw [← HOC.out]; exact (key_row R4y.out).2)
    go_wp2_with (first
      | (refine wpList_store_row rfl 24 _ _ rfl w5.heap.size C1.toArray rfl rfl 24 Z HAw8.out S1.out Z1.out O1.out ?_)
      | (refine wpList_store_row rfl 24 _ _ rfl W6.heap.size C2.toArray rfl rfl 24 Z HBw8.out S2.out Z2.out O2.out ?_; rw [hw8])
      | (refine wpList_load_mid_w (by rfl) 24 (.tmp 61) (by rfl) W.heap.size 1 (by rfl) OC _ Gy.out Tryd.underlying24 rfl SOC.out ?_))
    refine (HMB.out w8 Ky.out).mono ?_
    rintro e9 w9 ⟨rfl, k9⟩
    have LT9 : W6.heap.size < w9.heap.size := Nat.lt_of_lt_of_le (Array.getElem?_eq_some_iff.1 H11y.out).1 k9.size
    obtain ⟨W10, hW10⟩ : ∃ V, w9.alloc (.cells Z 24) = V := ⟨_, rfl⟩
    obtain ⟨W11, hW11⟩ : ∃ V, W10.alloc (.cells Z 24) = V := ⟨_, rfl⟩
    have kW10 : Keeps (fun _ => False) w9 W10 := by rw [← hW10]; exact (Keeps.refl _ _).alloc _
    have kW11 : Keeps (fun _ => False) W10 W11 := by rw [← hW11]; exact (Keeps.refl _ _).alloc _
    have bW10 : w9.heap.size < W10.heap.size := by rw [← hW10]; simp
    have ra : W11.heap[w9.heap.size]? = some (.cells Z 24 (0, 0)) := (kW11.block _ bW10 id).trans (by rw [← hW10]; exact heap_alloc_new w9 _)
    have rb : W11.heap[W10.heap.size]? = some (.cells Z 24 (0, 0)) := by rw [← hW11]; exact heap_alloc_new W10 _
    have hh := two_rows (R1 := C3.toArray) (R2 := C4.toArray) (show w9.heap.size ≠ W10.heap.size by omega) ra rb
    have kkw12 : Keeps (fun _ => False) w9 ((W11.setRow w9.heap.size C3.toArray).setRow W10.heap.size C4.toArray) := ((kW10.trans kW11).trans' (Keeps.setRow w9.heap.size C3.toArray) (fun i hi h => by omega)).trans' (Keeps.setRow W10.heap.size C4.toArray) (fun i hi h => by omega)
    obtain ⟨w12, hw12⟩ : ∃ V, (W11.setRow w9.heap.size C3.toArray).setRow W10.heap.size C4.toArray = V := ⟨_, rfl⟩
    rw [hw12] at hh kkw12
    have HAw12 := Lib.hid ra
    have HBw12 := Lib.hid hh.1
    have HXw12 := Lib.hid hh.2.1
    have HYw12 := Lib.hid hh.2.2
    have BN := Lib.hid (show W.heap.size < W1.heap.size ∧ W1.heap.size < w5.heap.size ∧ w5.heap.size < W6.heap.size ∧ W6.heap.size < w9.heap.size ∧ w9.heap.size < W10.heap.size by have := BO.out; omega)
    have k12 := k9.trans kkw12
    have r4 := Row.keeps R4y.out k12 id
    have r5 := Row.keeps R5y.out k12 id
    have h11 := (k12.block _ (Array.getElem?_eq_some_iff.1 H11y.out).1 id).trans H11y.out
    have K12 := Ky.out.trans k12
    have T4 : Hid (w12.there W.heap.size 1 C3.toArray.size) := Lib.hid (by have h := key_there r4 32 HO.out; rw [N3.out]; exact h)
    obtain ⟨w13, hw13⟩ : ∃ V, w12.setCells W.heap.size 1 C3.toArray.toList = V := ⟨_, rfl⟩
    have k13 : Keeps (fun k => k = W.heap.size) w12 w13 := by rw [← hw13]; exact keeps_setCells (S := fun k => k = W.heap.size) W.heap.size (fun _ => rfl) _ _ _ (Keeps.refl _ _)
    have r4a : Row w13 W.heap.size 55 (keyCells m L3) := by
      have h := key_set r4 HO.out HL3.out
      rw [HC3.out] at h
      rw [← hw13]
      exact h
    have r5a := Row.keeps r5 k13 (by have := BN.out; omega)
    have h11a := (k13.block _ (Array.getElem?_eq_some_iff.1 h11).1 (by have := BN.out; omega)).trans h11
    have h14a := (k13.block _ (Array.getElem?_eq_some_iff.1 hh.2.2).1 (by have := BN.out; omega)).trans hh.2.2
    have K13 := K12.trans' k13 (fun i hi h => by omega)
    obtain ⟨w14, hw14⟩ : ∃ V, w13.setRow W6.heap.size C4.toArray = V := ⟨_, rfl⟩
    have k14 : Keeps (fun k => k = W6.heap.size) w13 w14 := by rw [← hw14]; exact Keeps.setRow W6.heap.size C4.toArray
    have h11b : w14.heap[W6.heap.size]? = some (.cells C4.toArray 24 (0, 0)) := by rw [← hw14]; exact setRow_heap _ _ _ _ _ _ h11a
    have r4b := Row.keeps r4a k14 (by have := BN.out; omega)
    have r5b := Row.keeps r5a k14 (by have := BN.out; omega)
    have K14 := K13.trans' k14 (fun i hi h => by have := BN.out; omega)
    have T5 : Hid (w14.there W1.heap.size 1 C4.toArray.size) := Lib.hid (by have h := key_there r5b 32 HR.out; rw [N4.out]; exact h)
    obtain ⟨w15, hw15⟩ : ∃ V, w14.setCells W1.heap.size 1 C4.toArray.toList = V := ⟨_, rfl⟩
    have k15 : Keeps (fun k => k = W1.heap.size) w14 w15 := by rw [← hw15]; exact keeps_setCells (S := fun k => k = W1.heap.size) W1.heap.size (fun _ => rfl) _ _ _ (Keeps.refl _ _)
    have r5c : Row w15 W1.heap.size 55 (keyCells n L4) := by
      have h := key_set r5b HR.out HL4.out
      rw [HC4.out] at h
      rw [← hw15]
      exact h
    have r4c := Row.keeps r4b k15 (by have := BN.out; omega)
    have KZ := Lib.hid (K14.trans' k15 (fun i hi h => by have := BN.out; omega))
    have Q4 : Hid (Row w15 W.heap.size 55 KA) := Lib.hid (by rw [← HKA.out]; exact r4c)
    have Q5 : Hid (Row w15 W1.heap.size 55 KB) := Lib.hid (by rw [← HKB.out]; exact r5c)
    have H11a := Lib.hid h11a
    have H14a := Lib.hid h14a
    have H11b := Lib.hid h11b
    clear hh ra rb kW10 kW11 bW10 kkw12 k9 LT9 cy4 cy5 k12 r4 r5 h11 K12 k13 r4a r5a h11a h14a K13 k14 h11b r4b r5b K14 k15 r5c r4c HMB Gy
    go_wp2_with (first
      | (refine wpList_store_row rfl 24 _ _ rfl w9.heap.size C3.toArray rfl rfl 24 Z HAw12.out S3.out Z3.out O3.out ?_)
      | (refine wpList_store_row rfl 24 _ _ rfl W10.heap.size C4.toArray rfl rfl 24 Z HBw12.out S4.out Z4.out O4.out ?_; rw [hw12])
      | (refine wpList_load_row_w (by rfl) 24 (.tmp 13) (by rfl) w9.heap.size (by rfl) 24 C3.toArray (0, 0) _ HXw12.out Tryd.underlying24 rfl S3.out ?_)
      | (refine wpList_store_mid rfl 24 (.tmp 69) (.tmp 68) rfl W.heap.size 1 C3.toArray rfl rfl T4.out S3.out O3.out ?_; rw [hw13])
      | (refine wpList_load_row_w (by rfl) 24 (.tmp 14) (by rfl) W10.heap.size (by rfl) 24 C4.toArray (0, 0) _ H14a.out Tryd.underlying24 rfl S4.out ?_)
      | (refine wpList_store_row rfl 24 _ _ rfl W6.heap.size C4.toArray rfl rfl 24 C2.toArray H11a.out S4.out N24.out O4.out ?_; rw [hw14])
      | (refine wpList_load_row_w (by rfl) 24 (.tmp 11) (by rfl) W6.heap.size (by rfl) 24 C4.toArray (0, 0) _ H11b.out Tryd.underlying24 rfl S4.out ?_)
      | (refine wpList_store_mid rfl 24 (.tmp 72) (.tmp 71) rfl W1.heap.size 1 C4.toArray rfl rfl T5.out S4.out O4.out ?_; rw [hw15]))
    have CVL : Hid (∀ V, Later w15 V → Calls Tryd.prog 44 #[.agg KA.toArray, .agg KB.toArray, .slice A l c] V fun e w' => e = .returned (.int .i64 V1) ∧ Keeps (fun _ => False) V w') := fun V hV => TV1.out V (KZ.out.trans hV.out)
    have RVL : Hid (∀ V, Later w15 V → Calls Tryd.prog 45 #[.agg KA.toArray, .agg KB.toArray, .slice A l c] V fun e w' => e = .returned (.int .i64 V1) ∧ Keeps (fun _ => False) V w') := fun V hV => RV1.out V (KZ.out.trans hV.out)
    have G4 : Hid (∀ V, Later w15 V → V.rangeAt W.heap.size 0 KA) := fun V hV => row_range (Row.keeps Q4.out hV.out id)
    have G5 : Hid (∀ V, Later w15 V → V.rangeAt W1.heap.size 0 KB) := fun V hV => row_range (Row.keeps Q5.out hV.out id)
    have FIN : Hid (∀ V, Later w15 V → Below W.heap.size W V) := fun V hV => keeps_below3 (KZ.out.trans hV.out)
    refine wp_region_loose [] [0, 1, 2, 3, 4, 5, 6, 7, 8, 9] (by kernel_rfl) (by kernel_rfl) ?_
    refine R_load (get_op rfl) (by rfl) (by rfl) 55 (.tmp 4) (by rfl) W.heap.size 0 (by rfl) KA _ (fun V hV => G4.out V hV) Tryd.underlying55 rfl SKA.out ?_
    simp only [Act.put, List.setIfInBounds_toArray, List.set_cons_zero, List.set_cons_succ]
    refine R_load (get_op rfl) (by rfl) (by rfl) 55 (.tmp 5) (by rfl) W1.heap.size 0 (by rfl) KB _ (fun V hV => G5.out V hV) Tryd.underlying55 rfl SKB.out ?_
    simp only [Act.put, List.setIfInBounds_toArray, List.set_cons_zero, List.set_cons_succ]
    refine R_value (get_op rfl) (by rfl) (by rfl) (.slice A l c) (fun _ _ => by go_simp) ?_
    simp only [Act.put, List.setIfInBounds_toArray, List.set_cons_zero, List.set_cons_succ]
    refine R_call (get_op rfl) (by rfl) (by rfl) _ _ (.int .i64 V1) (fun _ => by go_simp) (fun V hV => CVL.out V hV) ?_
    simp only [Act.put, List.setIfInBounds_toArray, List.set_cons_zero, List.set_cons_succ]
    refine R_load (get_op rfl) (by rfl) (by rfl) 55 (.tmp 4) (by rfl) W.heap.size 0 (by rfl) KA _ (fun V hV => G4.out V hV) Tryd.underlying55 rfl SKA.out ?_
    simp only [Act.put, List.setIfInBounds_toArray, List.set_cons_zero, List.set_cons_succ]
    refine R_load (get_op rfl) (by rfl) (by rfl) 55 (.tmp 5) (by rfl) W1.heap.size 0 (by rfl) KB _ (fun V hV => G5.out V hV) Tryd.underlying55 rfl SKB.out ?_
    simp only [Act.put, List.setIfInBounds_toArray, List.set_cons_zero, List.set_cons_succ]
    refine R_value (get_op rfl) (by rfl) (by rfl) (.slice A l c) (fun _ _ => by go_simp) ?_
    simp only [Act.put, List.setIfInBounds_toArray, List.set_cons_zero, List.set_cons_succ]
    refine R_call (get_op rfl) (by rfl) (by rfl) _ _ (.int .i64 V1) (fun _ => by go_simp) (fun V hV => RVL.out V hV) ?_
    simp only [Act.put, List.setIfInBounds_toArray, List.set_cons_zero, List.set_cons_succ]
    refine R_value (get_op rfl) (by rfl) (by rfl) (.bool true) (fun _ _ => by go_simp) ?_
    simp only [Act.put, List.setIfInBounds_toArray, List.set_cons_zero, List.set_cons_succ]
    refine R_value (get_op rfl) (by rfl) (by rfl) (.bool true) (fun _ _ => by go_simp) ?_
    simp only [Act.put, List.setIfInBounds_toArray, List.set_cons_zero, List.set_cons_succ]
    refine R_nil ?_
    intro wf hwf
    have hfin := FIN.out wf hwf
    go_wp2
    go_ret
    exact ⟨rfl, hfin⟩
set_option maxRecDepth 100000 in
set_option maxHeartbeats 4000000 in
theorem cvf_more (m n : Nat) (o r : List UInt8) (A : Option Addr) (ps : List (List UInt8)) (c : Nat) (x : Int) (W : World) (hT : Tabs W) (ho : o.length = 32) (hr : r.length = 32) (hP : PathAt W A ps) (hc : ps.length ≤ c) (hmax : c ≤ 9223372036854775807) (hlp : ps.length ≤ 70) (hm : m ≤ 18446744073709551615) (hn : n ≤ 18446744073709551615) (hm1 : 1 ≤ m) (hmn : m ≤ n) (hx0 : 0 < x) (hx1 : 1 < x) :
    Calls Tryd.prog 7 #[.agg (keyCells m o).toArray, .agg (keyCells n r).toArray, .slice A ps.length c, .int .u8 x] W fun e W' => e = .returned (.bool true) ∧ Below W.heap.size W W' := by
  have hver := fun (a b : List UInt8) (ha : a.length = 32) (hb : b.length = 32) V (hk : Keeps (fun _ => False) W V) => cverify_any m n a b A ps c V (hT.keeps hk id id) ha hb (hP.keeps hk (fun _ _ => id)) hc hmax (by omega) (by omega)
  have href := fun (a b : List UInt8) (ha : a.length = 32) (hb : b.length = 32) V (hk : Keeps (fun _ => False) W V) => rcverify_any m n a b A ps c V ha hb (hP.keeps hk (fun _ _ => id)) hc (by omega) (by omega)
  have hmade := fun (a : List UInt8) (ha : a.length = 32) V (hk : Keeps (fun _ => False) W V) => rcm_any a ha m n A c ps V hm1 hmn hn (hP.keeps hk (fun _ _ => id)) (by omega) hc
  have hlen := fun (a : List UInt8) (ha : a.length = 32) => rcm_length m n a ps hm1 hmn hn ha hP.all
  obtain ⟨Z, hZ, hz, hzs⟩ := zero_hash
  obtain ⟨L1, hL1⟩ : ∃ L, (rcm m n o ps).1 = L := ⟨_, rfl⟩
  obtain ⟨L2, hL2⟩ : ∃ L, (rcm m n o ps).2 = L := ⟨_, rfl⟩
  have hl1 : L1.length = 32 := by rw [← hL1]; exact (hlen o ho).1
  have hl2 : L2.length = 32 := by rw [← hL2]; exact (hlen o ho).2
  obtain ⟨L3, hL3⟩ : ∃ L, (rcm m n L1 ps).1 = L := ⟨_, rfl⟩
  obtain ⟨L4, hL4⟩ : ∃ L, (rcm m n L1 ps).2 = L := ⟨_, rfl⟩
  have hl3 : L3.length = 32 := by rw [← hL3]; exact (hlen L1 hl1).1
  have hl4 : L4.length = 32 := by rw [← hL4]; exact (hlen L1 hl1).2
  have hma := hmade o ho
  have hmb := hmade L1 hl1
  rw [hL1, hL2] at hma
  rw [hL3, hL4] at hmb
  obtain ⟨OC, hOC⟩ : ∃ C, bvs o = C := ⟨_, rfl⟩
  have hpo : (Tryd.prog.info? 24).map (·.size) = some OC.length := by rw [← hOC, bvs_length, ho]; exact size_hash'
  obtain ⟨s1, z1, o1⟩ := arr_hash L1 hl1
  obtain ⟨C1, hC1⟩ : ∃ C, bvs L1 = C := ⟨_, rfl⟩
  rw [hC1] at s1 z1 o1
  have HC1 := Lib.hid hC1
  have HL1 := Lib.hid hl1
  have S1 := Lib.hid s1
  have Z1 := Lib.hid (hzs.trans z1.symm)
  have N1 := Lib.hid z1
  have O1 := Lib.hid o1
  obtain ⟨s2, z2, o2⟩ := arr_hash L2 hl2
  obtain ⟨C2, hC2⟩ : ∃ C, bvs L2 = C := ⟨_, rfl⟩
  rw [hC2] at s2 z2 o2
  have HC2 := Lib.hid hC2
  have HL2 := Lib.hid hl2
  have S2 := Lib.hid s2
  have Z2 := Lib.hid (hzs.trans z2.symm)
  have N2 := Lib.hid z2
  have O2 := Lib.hid o2
  obtain ⟨s3, z3, o3⟩ := arr_hash L3 hl3
  obtain ⟨C3, hC3⟩ : ∃ C, bvs L3 = C := ⟨_, rfl⟩
  rw [hC3] at s3 z3 o3
  have HC3 := Lib.hid hC3
  have HL3 := Lib.hid hl3
  have S3 := Lib.hid s3
  have Z3 := Lib.hid (hzs.trans z3.symm)
  have N3 := Lib.hid z3
  have O3 := Lib.hid o3
  obtain ⟨s4, z4, o4⟩ := arr_hash L4 hl4
  obtain ⟨C4, hC4⟩ : ∃ C, bvs L4 = C := ⟨_, rfl⟩
  rw [hC4] at s4 z4 o4
  have HC4 := Lib.hid hC4
  have HL4 := Lib.hid hl4
  have S4 := Lib.hid s4
  have Z4 := Lib.hid (hzs.trans z4.symm)
  have N4 := Lib.hid z4
  have O4 := Lib.hid o4
  have hp1 : (Tryd.prog.info? 24).map (·.size) = some C1.length := by rw [← hC1, bvs_length, hl1]; exact size_hash'
  obtain ⟨KA, hKA⟩ : ∃ K, keyCells m L3 = K := ⟨_, rfl⟩
  obtain ⟨KB, hKB⟩ : ∃ K, keyCells n L4 = K := ⟨_, rfl⟩
  obtain ⟨KO, hKO⟩ : ∃ K, keyCells m o = K := ⟨_, rfl⟩
  obtain ⟨KN, hKN⟩ : ∃ K, keyCells n r = K := ⟨_, rfl⟩
  obtain ⟨W1, hW1⟩ : ∃ V, W.alloc (.cells KO.toArray 55) = V := ⟨_, rfl⟩
  obtain ⟨W2, hW2⟩ : ∃ V, W1.alloc (.cells KN.toArray 55) = V := ⟨_, rfl⟩
  have k1 : Keeps (fun _ => False) W W1 := by rw [← hW1]; exact (Keeps.refl _ _).alloc _
  have k2 : Keeps (fun _ => False) W1 W2 := by rw [← hW2]; exact (Keeps.refl _ _).alloc _
  have b1 : W.heap.size < W1.heap.size := by rw [← hW1]; simp
  have b2 : W1.heap.size < W2.heap.size := by rw [← hW2]; simp
  have r4 : Row W2 W.heap.size 55 (keyCells m o) := Row.keeps (by rw [← hW1, hKO]; exact heap_alloc_new W _) k2 id
  have r5 : Row W2 W1.heap.size 55 (keyCells n r) := by rw [← hW2, hKN]; exact heap_alloc_new W1 _
  have HAW := Lib.hid (awake4_any W2 (hT.keeps (k1.trans k2) id id))
  have K2 := Lib.hid (k1.trans k2)
  have HKO := Lib.hid hKO
  have HKN := Lib.hid hKN
  have hv0 := hver o r ho hr
  have hr0 := href o r ho hr
  obtain ⟨V0, hV0⟩ : ∃ v, Tr.cverify m o n r ps = v := ⟨_, rfl⟩
  have sKO : (Tryd.prog.info? 55).map (·.size) = some KO.length := by rw [← hKO, keyCells_length m o ho]; exact size_key
  have sKN : (Tryd.prog.info? 55).map (·.size) = some KN.length := by rw [← hKN, keyCells_length n r hr]; exact size_key
  rw [hV0, hKO, hKN] at hv0 hr0
  have hv1 := hver L3 L4 hl3 hl4
  have hr1 := href L3 L4 hl3 hl4
  obtain ⟨V1, hV1⟩ : ∃ v, Tr.cverify m L3 n L4 ps = v := ⟨_, rfl⟩
  have sKA : (Tryd.prog.info? 55).map (·.size) = some KA.length := by rw [← hKA, keyCells_length m L3 hl3]; exact size_key
  have sKB : (Tryd.prog.info? 55).map (·.size) = some KB.length := by rw [← hKB, keyCells_length n L4 hl4]; exact size_key
  rw [hV1, hKA, hKB] at hv1 hr1
  rw [hC1, hC2, hOC] at hma
  rw [hC3, hC4, hC1] at hmb
  obtain ⟨q, hq⟩ : ∃ q, decide (ps.length = Tr.lng m n true) = q := ⟨_, rfl⟩
  rw [hq] at hma hmb
  obtain ⟨l, hlm⟩ : ∃ l, ps.length = l := ⟨_, rfl⟩
  rw [hlm] at hv0 hr0 hv1 hr1 hma hmb hlp ⊢
  rw [hKO, hKN]
  have HKA := Lib.hid hKA
  have HKB := Lib.hid hKB
  have HOC := Lib.hid hOC
  have HO := Lib.hid ho
  have HR := Lib.hid hr
  have TV0 := Lib.hid hv0
  have RV0 := Lib.hid hr0
  have TV1 := Lib.hid hv1
  have RV1 := Lib.hid hr1
  have SKO := Lib.hid sKO
  have SKN := Lib.hid sKN
  have SKA := Lib.hid sKA
  have SKB := Lib.hid sKB
  have SOC := Lib.hid hpo
  have SM1 := Lib.hid hp1
  have N24 := Lib.hid (z2.trans z4.symm)
  have HMA := Lib.hid hma
  have HMB := Lib.hid hmb
  have R4 := Lib.hid r4
  have R5 := Lib.hid r5
  have B12 := Lib.hid (show W.heap.size < W1.heap.size ∧ W1.heap.size < W2.heap.size from ⟨b1, b2⟩)
  have hl' : ¬ (70 : Int) < l := by omega
  have h2 : (1 : Int) ≤ m := by omega
  have h3 : (m : Int) ≤ n := by omega
  clear hT hP hc hmax hlp hm hn ho hr r4 r5 k1 k2 b1 b2 hKO hKN hKA hKB hver href hmade hlen hv0 hr0 hv1 hr1 sKO sKN sKA sKB hpo hp1 hma hmb hV0 hV1 hlm hq hOC hC1 hC2 hC3 hC4 s1 z1 o1 s2 z2 o2 s3 z3 o3 s4 z4 o4 hl1 hl2 hl3 hl4 hL1 hL2 hL3 hL4 hm1 hmn hZ hzs
  go_enter Tryd.func7, Tryd.ntmps7
  go_wp2_with fail
  refine HAW.out.mono ?_
  rintro e3 w3 ⟨rfl, k3⟩
  have K3 := Lib.hid (K2.out.trans k3)
  have R43 := Lib.hid (Row.keeps R4.out k3 id)
  have R53 := Lib.hid (Row.keeps R5.out k3 id)
  have c4 := (key_row R43.out).1
  have c5 := (key_row R53.out).1
  clear HAW K2 R4 R5
  have LT3 := Lib.hid (show W1.heap.size < w3.heap.size from R53.out.lt)
  have G41 : Hid (w3.rangeAt W.heap.size 1 OC) := Lib.hid (by rw [← HOC.out]; exact (key_row R43.out).2)
  clear k3
  go_wp2_with (first
    | (refine wpList_load_mid_w (by rfl) 24 (.tmp 41) (by rfl) W.heap.size 1 (by rfl) OC _ G41.out Tryd.underlying24 rfl SOC.out ?_))
  refine (HMA.out w3 K3.out).mono ?_
  rintro e5 w5 ⟨rfl, k5⟩
  have LT5 : w3.heap.size ≤ w5.heap.size := k5.size
  obtain ⟨W6, hW6⟩ : ∃ V, w5.alloc (.cells Z 24) = V := ⟨_, rfl⟩
  obtain ⟨W7, hW7⟩ : ∃ V, W6.alloc (.cells Z 24) = V := ⟨_, rfl⟩
  have kW6 : Keeps (fun _ => False) w5 W6 := by rw [← hW6]; exact (Keeps.refl _ _).alloc _
  have kW7 : Keeps (fun _ => False) W6 W7 := by rw [← hW7]; exact (Keeps.refl _ _).alloc _
  have bW6 : w5.heap.size < W6.heap.size := by rw [← hW6]; simp
  have ra : W7.heap[w5.heap.size]? = some (.cells Z 24 (0, 0)) := (kW7.block _ bW6 id).trans (by rw [← hW6]; exact heap_alloc_new w5 _)
  have rb : W7.heap[W6.heap.size]? = some (.cells Z 24 (0, 0)) := by rw [← hW7]; exact heap_alloc_new W6 _
  have hh := two_rows (R1 := C1.toArray) (R2 := C2.toArray) (show w5.heap.size ≠ W6.heap.size by omega) ra rb
  have kkw8 : Keeps (fun _ => False) w5 ((W7.setRow w5.heap.size C1.toArray).setRow W6.heap.size C2.toArray) := ((kW6.trans kW7).trans' (Keeps.setRow w5.heap.size C1.toArray) (fun i hi h => by omega)).trans' (Keeps.setRow W6.heap.size C2.toArray) (fun i hi h => by omega)
  obtain ⟨w8, hw8⟩ : ∃ V, (W7.setRow w5.heap.size C1.toArray).setRow W6.heap.size C2.toArray = V := ⟨_, rfl⟩
  rw [hw8] at hh kkw8
  have HAw8 := Lib.hid ra
  have HBw8 := Lib.hid hh.1
  have HXw8 := Lib.hid hh.2.1
  have HYw8 := Lib.hid hh.2.2
  have K8 := Lib.hid (K3.out.trans (k5.trans kkw8))
  have R48 := Lib.hid (Row.keeps R43.out (k5.trans kkw8) id)
  have R58 := Lib.hid (Row.keeps R53.out (k5.trans kkw8) id)
  have BO := Lib.hid (show W.heap.size < W1.heap.size ∧ W1.heap.size < w5.heap.size ∧ w5.heap.size < W6.heap.size by have := B12.out; have := LT3.out; omega)
  clear hh ra rb kW6 kW7 bW6 kkw8 k5 LT5 c4 c5 HMA G41 K3 R43 R53
  cases q
  · go_wp2_with (first
      | (refine wpList_store_row rfl 24 _ _ rfl w5.heap.size C1.toArray rfl rfl 24 Z HAw8.out S1.out Z1.out O1.out ?_)
      | (refine wpList_store_row rfl 24 _ _ rfl W6.heap.size C2.toArray rfl rfl 24 Z HBw8.out S2.out Z2.out O2.out ?_; rw [hw8]))
    have Q4 : Hid (Row w8 W.heap.size 55 KO) := Lib.hid (by rw [← HKO.out]; exact R48.out : Row w8 W.heap.size 55 KO)
    have Q5 : Hid (Row w8 W1.heap.size 55 KN) := Lib.hid (by rw [← HKN.out]; exact R58.out : Row w8 W1.heap.size 55 KN)
    clear hw8
    have CVL : Hid (∀ V, Later w8 V → Calls Tryd.prog 44 #[.agg KO.toArray, .agg KN.toArray, .slice A l c] V fun e w' => e = .returned (.int .i64 V0) ∧ Keeps (fun _ => False) V w') := fun V hV => TV0.out V (K8.out.trans hV.out)
    have RVL : Hid (∀ V, Later w8 V → Calls Tryd.prog 45 #[.agg KO.toArray, .agg KN.toArray, .slice A l c] V fun e w' => e = .returned (.int .i64 V0) ∧ Keeps (fun _ => False) V w') := fun V hV => RV0.out V (K8.out.trans hV.out)
    have G4 : Hid (∀ V, Later w8 V → V.rangeAt W.heap.size 0 KO) := fun V hV => row_range (Row.keeps Q4.out hV.out id)
    have G5 : Hid (∀ V, Later w8 V → V.rangeAt W1.heap.size 0 KN) := fun V hV => row_range (Row.keeps Q5.out hV.out id)
    have FIN : Hid (∀ V, Later w8 V → Below W.heap.size W V) := fun V hV => keeps_below3 (K8.out.trans hV.out)
    refine wp_region_loose [] [0, 1, 2, 3, 4, 5, 6, 7, 8, 9] (by kernel_rfl) (by kernel_rfl) ?_
    refine R_load (get_op rfl) (by rfl) (by rfl) 55 (.tmp 4) (by rfl) W.heap.size 0 (by rfl) KO _ (fun V hV => G4.out V hV) Tryd.underlying55 rfl SKO.out ?_
    simp only [Act.put, List.setIfInBounds_toArray, List.set_cons_zero, List.set_cons_succ]
    refine R_load (get_op rfl) (by rfl) (by rfl) 55 (.tmp 5) (by rfl) W1.heap.size 0 (by rfl) KN _ (fun V hV => G5.out V hV) Tryd.underlying55 rfl SKN.out ?_
    simp only [Act.put, List.setIfInBounds_toArray, List.set_cons_zero, List.set_cons_succ]
    refine R_value (get_op rfl) (by rfl) (by rfl) (.slice A l c) (fun _ _ => by go_simp) ?_
    simp only [Act.put, List.setIfInBounds_toArray, List.set_cons_zero, List.set_cons_succ]
    refine R_call (get_op rfl) (by rfl) (by rfl) _ _ (.int .i64 V0) (fun _ => by go_simp) (fun V hV => CVL.out V hV) ?_
    simp only [Act.put, List.setIfInBounds_toArray, List.set_cons_zero, List.set_cons_succ]
    refine R_load (get_op rfl) (by rfl) (by rfl) 55 (.tmp 4) (by rfl) W.heap.size 0 (by rfl) KO _ (fun V hV => G4.out V hV) Tryd.underlying55 rfl SKO.out ?_
    simp only [Act.put, List.setIfInBounds_toArray, List.set_cons_zero, List.set_cons_succ]
    refine R_load (get_op rfl) (by rfl) (by rfl) 55 (.tmp 5) (by rfl) W1.heap.size 0 (by rfl) KN _ (fun V hV => G5.out V hV) Tryd.underlying55 rfl SKN.out ?_
    simp only [Act.put, List.setIfInBounds_toArray, List.set_cons_zero, List.set_cons_succ]
    refine R_value (get_op rfl) (by rfl) (by rfl) (.slice A l c) (fun _ _ => by go_simp) ?_
    simp only [Act.put, List.setIfInBounds_toArray, List.set_cons_zero, List.set_cons_succ]
    refine R_call (get_op rfl) (by rfl) (by rfl) _ _ (.int .i64 V0) (fun _ => by go_simp) (fun V hV => RVL.out V hV) ?_
    simp only [Act.put, List.setIfInBounds_toArray, List.set_cons_zero, List.set_cons_succ]
    refine R_value (get_op rfl) (by rfl) (by rfl) (.bool true) (fun _ _ => by go_simp) ?_
    simp only [Act.put, List.setIfInBounds_toArray, List.set_cons_zero, List.set_cons_succ]
    refine R_value (get_op rfl) (by rfl) (by rfl) (.bool true) (fun _ _ => by go_simp) ?_
    simp only [Act.put, List.setIfInBounds_toArray, List.set_cons_zero, List.set_cons_succ]
    refine R_nil ?_
    intro wf hwf
    have hfin := FIN.out wf hwf
    go_wp2
    go_ret
    exact ⟨rfl, hfin⟩
  · have T48 : Hid (w8.there W.heap.size 1 C1.toArray.size) := Lib.hid (by have h := key_there R48.out 32 HO.out; rw [N1.out]; exact h)
    obtain ⟨wy, hwy⟩ : ∃ V, w8.setCells W.heap.size 1 C1.toArray.toList = V := ⟨_, rfl⟩
    have ky : Keeps (fun k => k = W.heap.size) w8 wy := by rw [← hwy]; exact keeps_setCells (S := fun k => k = W.heap.size) W.heap.size (fun _ => rfl) _ _ _ (Keeps.refl _ _)
    have R4y : Hid (Row wy W.heap.size 55 (keyCells m L1)) := Lib.hid (by
      have h := key_set R48.out HO.out HL1.out
      rw [HC1.out] at h
      rw [← hwy]
      exact h)
    have R5y := Lib.hid (Row.keeps R58.out ky (by have := BO.out; omega))
    have Ky := Lib.hid (K8.out.trans' ky (fun i hi h => by omega))
    have H11y := Lib.hid ((ky.block _ (Array.getElem?_eq_some_iff.1 HYw8.out).1 (by have := BO.out; omega)).trans HYw8.out)
    clear ky
    have cy4 := (key_row R4y.out).1
    have cy5 := (key_row R5y.out).1
    have Gy : Hid (wy.rangeAt W.heap.size 1 C1) := Lib.hid (by rw [← HC1.out]; exact (key_row R4y.out).2)
    go_wp2_with (first
      | (refine wpList_store_row rfl 24 _ _ rfl w5.heap.size C1.toArray rfl rfl 24 Z HAw8.out S1.out Z1.out O1.out ?_)
      | (refine wpList_store_row rfl 24 _ _ rfl W6.heap.size C2.toArray rfl rfl 24 Z HBw8.out S2.out Z2.out O2.out ?_; rw [hw8])
      | (refine wpList_load_row_w (by rfl) 24 (.tmp 10) (by rfl) w5.heap.size (by rfl) 24 C1.toArray (0, 0) _ HXw8.out Tryd.underlying24 rfl S1.out ?_)
      | (refine wpList_store_mid rfl 24 (.tmp 54) (.tmp 53) rfl W.heap.size 1 C1.toArray rfl rfl T48.out S1.out O1.out ?_; rw [hwy])
      | (refine wpList_load_mid_w (by rfl) 24 (.tmp 61) (by rfl) W.heap.size 1 (by rfl) C1 _ Gy.out Tryd.underlying24 rfl SM1.out ?_))
    refine (HMB.out wy Ky.out).mono ?_
    rintro e9 w9 ⟨rfl, k9⟩
    have LT9 : W6.heap.size < w9.heap.size := Nat.lt_of_lt_of_le (Array.getElem?_eq_some_iff.1 H11y.out).1 k9.size
    obtain ⟨W10, hW10⟩ : ∃ V, w9.alloc (.cells Z 24) = V := ⟨_, rfl⟩
    obtain ⟨W11, hW11⟩ : ∃ V, W10.alloc (.cells Z 24) = V := ⟨_, rfl⟩
    have kW10 : Keeps (fun _ => False) w9 W10 := by rw [← hW10]; exact (Keeps.refl _ _).alloc _
    have kW11 : Keeps (fun _ => False) W10 W11 := by rw [← hW11]; exact (Keeps.refl _ _).alloc _
    have bW10 : w9.heap.size < W10.heap.size := by rw [← hW10]; simp
    have ra : W11.heap[w9.heap.size]? = some (.cells Z 24 (0, 0)) := (kW11.block _ bW10 id).trans (by rw [← hW10]; exact heap_alloc_new w9 _)
    have rb : W11.heap[W10.heap.size]? = some (.cells Z 24 (0, 0)) := by rw [← hW11]; exact heap_alloc_new W10 _
    have hh := two_rows (R1 := C3.toArray) (R2 := C4.toArray) (show w9.heap.size ≠ W10.heap.size by omega) ra rb
    have kkw12 : Keeps (fun _ => False) w9 ((W11.setRow w9.heap.size C3.toArray).setRow W10.heap.size C4.toArray) := ((kW10.trans kW11).trans' (Keeps.setRow w9.heap.size C3.toArray) (fun i hi h => by omega)).trans' (Keeps.setRow W10.heap.size C4.toArray) (fun i hi h => by omega)
    obtain ⟨w12, hw12⟩ : ∃ V, (W11.setRow w9.heap.size C3.toArray).setRow W10.heap.size C4.toArray = V := ⟨_, rfl⟩
    rw [hw12] at hh kkw12
    have HAw12 := Lib.hid ra
    have HBw12 := Lib.hid hh.1
    have HXw12 := Lib.hid hh.2.1
    have HYw12 := Lib.hid hh.2.2
    have BN := Lib.hid (show W.heap.size < W1.heap.size ∧ W1.heap.size < w5.heap.size ∧ w5.heap.size < W6.heap.size ∧ W6.heap.size < w9.heap.size ∧ w9.heap.size < W10.heap.size by have := BO.out; omega)
    have k12 := k9.trans kkw12
    have r4 := Row.keeps R4y.out k12 id
    have r5 := Row.keeps R5y.out k12 id
    have h11 := (k12.block _ (Array.getElem?_eq_some_iff.1 H11y.out).1 id).trans H11y.out
    have K12 := Ky.out.trans k12
    have T4 : Hid (w12.there W.heap.size 1 C3.toArray.size) := Lib.hid (by have h := key_there r4 32 HL1.out; rw [N3.out]; exact h)
    obtain ⟨w13, hw13⟩ : ∃ V, w12.setCells W.heap.size 1 C3.toArray.toList = V := ⟨_, rfl⟩
    have k13 : Keeps (fun k => k = W.heap.size) w12 w13 := by rw [← hw13]; exact keeps_setCells (S := fun k => k = W.heap.size) W.heap.size (fun _ => rfl) _ _ _ (Keeps.refl _ _)
    have r4a : Row w13 W.heap.size 55 (keyCells m L3) := by
      have h := key_set r4 HL1.out HL3.out
      rw [HC3.out] at h
      rw [← hw13]
      exact h
    have r5a := Row.keeps r5 k13 (by have := BN.out; omega)
    have h11a := (k13.block _ (Array.getElem?_eq_some_iff.1 h11).1 (by have := BN.out; omega)).trans h11
    have h14a := (k13.block _ (Array.getElem?_eq_some_iff.1 hh.2.2).1 (by have := BN.out; omega)).trans hh.2.2
    have K13 := K12.trans' k13 (fun i hi h => by omega)
    obtain ⟨w14, hw14⟩ : ∃ V, w13.setRow W6.heap.size C4.toArray = V := ⟨_, rfl⟩
    have k14 : Keeps (fun k => k = W6.heap.size) w13 w14 := by rw [← hw14]; exact Keeps.setRow W6.heap.size C4.toArray
    have h11b : w14.heap[W6.heap.size]? = some (.cells C4.toArray 24 (0, 0)) := by rw [← hw14]; exact setRow_heap _ _ _ _ _ _ h11a
    have r4b := Row.keeps r4a k14 (by have := BN.out; omega)
    have r5b := Row.keeps r5a k14 (by have := BN.out; omega)
    have K14 := K13.trans' k14 (fun i hi h => by have := BN.out; omega)
    have T5 : Hid (w14.there W1.heap.size 1 C4.toArray.size) := Lib.hid (by have h := key_there r5b 32 HR.out; rw [N4.out]; exact h)
    obtain ⟨w15, hw15⟩ : ∃ V, w14.setCells W1.heap.size 1 C4.toArray.toList = V := ⟨_, rfl⟩
    have k15 : Keeps (fun k => k = W1.heap.size) w14 w15 := by rw [← hw15]; exact keeps_setCells (S := fun k => k = W1.heap.size) W1.heap.size (fun _ => rfl) _ _ _ (Keeps.refl _ _)
    have r5c : Row w15 W1.heap.size 55 (keyCells n L4) := by
      have h := key_set r5b HR.out HL4.out
      rw [HC4.out] at h
      rw [← hw15]
      exact h
    have r4c := Row.keeps r4b k15 (by have := BN.out; omega)
    have KZ := Lib.hid (K14.trans' k15 (fun i hi h => by have := BN.out; omega))
    have Q4 : Hid (Row w15 W.heap.size 55 KA) := Lib.hid (by rw [← HKA.out]; exact r4c)
    have Q5 : Hid (Row w15 W1.heap.size 55 KB) := Lib.hid (by rw [← HKB.out]; exact r5c)
    have H11a := Lib.hid h11a
    have H14a := Lib.hid h14a
    have H11b := Lib.hid h11b
    clear hh ra rb kW10 kW11 bW10 kkw12 k9 LT9 cy4 cy5 k12 r4 r5 h11 K12 k13 r4a r5a h11a h14a K13 k14 h11b r4b r5b K14 k15 r5c r4c HMB Gy
    go_wp2_with (first
      | (refine wpList_store_row rfl 24 _ _ rfl w9.heap.size C3.toArray rfl rfl 24 Z HAw12.out S3.out Z3.out O3.out ?_)
      | (refine wpList_store_row rfl 24 _ _ rfl W10.heap.size C4.toArray rfl rfl 24 Z HBw12.out S4.out Z4.out O4.out ?_; rw [hw12])
      | (refine wpList_load_row_w (by rfl) 24 (.tmp 13) (by rfl) w9.heap.size (by rfl) 24 C3.toArray (0, 0) _ HXw12.out Tryd.underlying24 rfl S3.out ?_)
      | (refine wpList_store_mid rfl 24 (.tmp 69) (.tmp 68) rfl W.heap.size 1 C3.toArray rfl rfl T4.out S3.out O3.out ?_; rw [hw13])
      | (refine wpList_load_row_w (by rfl) 24 (.tmp 14) (by rfl) W10.heap.size (by rfl) 24 C4.toArray (0, 0) _ H14a.out Tryd.underlying24 rfl S4.out ?_)
      | (refine wpList_store_row rfl 24 _ _ rfl W6.heap.size C4.toArray rfl rfl 24 C2.toArray H11a.out S4.out N24.out O4.out ?_; rw [hw14])
      | (refine wpList_load_row_w (by rfl) 24 (.tmp 11) (by rfl) W6.heap.size (by rfl) 24 C4.toArray (0, 0) _ H11b.out Tryd.underlying24 rfl S4.out ?_)
      | (refine wpList_store_mid rfl 24 (.tmp 72) (.tmp 71) rfl W1.heap.size 1 C4.toArray rfl rfl T5.out S4.out O4.out ?_; rw [hw15]))
    have CVL : Hid (∀ V, Later w15 V → Calls Tryd.prog 44 #[.agg KA.toArray, .agg KB.toArray, .slice A l c] V fun e w' => e = .returned (.int .i64 V1) ∧ Keeps (fun _ => False) V w') := fun V hV => TV1.out V (KZ.out.trans hV.out)
    have RVL : Hid (∀ V, Later w15 V → Calls Tryd.prog 45 #[.agg KA.toArray, .agg KB.toArray, .slice A l c] V fun e w' => e = .returned (.int .i64 V1) ∧ Keeps (fun _ => False) V w') := fun V hV => RV1.out V (KZ.out.trans hV.out)
    have G4 : Hid (∀ V, Later w15 V → V.rangeAt W.heap.size 0 KA) := fun V hV => row_range (Row.keeps Q4.out hV.out id)
    have G5 : Hid (∀ V, Later w15 V → V.rangeAt W1.heap.size 0 KB) := fun V hV => row_range (Row.keeps Q5.out hV.out id)
    have FIN : Hid (∀ V, Later w15 V → Below W.heap.size W V) := fun V hV => keeps_below3 (KZ.out.trans hV.out)
    refine wp_region_loose [] [0, 1, 2, 3, 4, 5, 6, 7, 8, 9] (by kernel_rfl) (by kernel_rfl) ?_
    refine R_load (get_op rfl) (by rfl) (by rfl) 55 (.tmp 4) (by rfl) W.heap.size 0 (by rfl) KA _ (fun V hV => G4.out V hV) Tryd.underlying55 rfl SKA.out ?_
    simp only [Act.put, List.setIfInBounds_toArray, List.set_cons_zero, List.set_cons_succ]
    refine R_load (get_op rfl) (by rfl) (by rfl) 55 (.tmp 5) (by rfl) W1.heap.size 0 (by rfl) KB _ (fun V hV => G5.out V hV) Tryd.underlying55 rfl SKB.out ?_
    simp only [Act.put, List.setIfInBounds_toArray, List.set_cons_zero, List.set_cons_succ]
    refine R_value (get_op rfl) (by rfl) (by rfl) (.slice A l c) (fun _ _ => by go_simp) ?_
    simp only [Act.put, List.setIfInBounds_toArray, List.set_cons_zero, List.set_cons_succ]
    refine R_call (get_op rfl) (by rfl) (by rfl) _ _ (.int .i64 V1) (fun _ => by go_simp) (fun V hV => CVL.out V hV) ?_
    simp only [Act.put, List.setIfInBounds_toArray, List.set_cons_zero, List.set_cons_succ]
    refine R_load (get_op rfl) (by rfl) (by rfl) 55 (.tmp 4) (by rfl) W.heap.size 0 (by rfl) KA _ (fun V hV => G4.out V hV) Tryd.underlying55 rfl SKA.out ?_
    simp only [Act.put, List.setIfInBounds_toArray, List.set_cons_zero, List.set_cons_succ]
    refine R_load (get_op rfl) (by rfl) (by rfl) 55 (.tmp 5) (by rfl) W1.heap.size 0 (by rfl) KB _ (fun V hV => G5.out V hV) Tryd.underlying55 rfl SKB.out ?_
    simp only [Act.put, List.setIfInBounds_toArray, List.set_cons_zero, List.set_cons_succ]
    refine R_value (get_op rfl) (by rfl) (by rfl) (.slice A l c) (fun _ _ => by go_simp) ?_
    simp only [Act.put, List.setIfInBounds_toArray, List.set_cons_zero, List.set_cons_succ]
    refine R_call (get_op rfl) (by rfl) (by rfl) _ _ (.int .i64 V1) (fun _ => by go_simp) (fun V hV => RVL.out V hV) ?_
    simp only [Act.put, List.setIfInBounds_toArray, List.set_cons_zero, List.set_cons_succ]
    refine R_value (get_op rfl) (by rfl) (by rfl) (.bool true) (fun _ _ => by go_simp) ?_
    simp only [Act.put, List.setIfInBounds_toArray, List.set_cons_zero, List.set_cons_succ]
    refine R_value (get_op rfl) (by rfl) (by rfl) (.bool true) (fun _ _ => by go_simp) ?_
    simp only [Act.put, List.setIfInBounds_toArray, List.set_cons_zero, List.set_cons_succ]
    refine R_nil ?_
    intro wf hwf
    have hfin := FIN.out wf hwf
    go_wp2
    go_ret
    exact ⟨rfl, hfin⟩
theorem cver_walk (k1 k2 : Nat × List UInt8) (A : Option Addr) (len c : Nat) (hs : List (List UInt8)) (x : Int) (W : World) (hT : Tabs W) (h0 : k1.1 ≤ 18446744073709551615 ∧ k1.2.length = 32) (h1 : k2.1 ≤ 18446744073709551615 ∧ k2.2.length = 32) (h2 : IsHashes W A len c hs) (h3 : (Lit.int .u8 x).wf = true) :
    Calls Tryd.prog 7 #[.agg (keyCells k1.1 k1.2).toArray, .agg (keyCells k2.1 k2.2).toArray, .slice A len c, .int .u8 x] W fun e W' => e = .returned (.bool true) ∧ Below W.heap.size W W' := by
  have hP := PathAt.of_hashes h2
  obtain ⟨hl, hc, hm, _, _⟩ := h2
  obtain ⟨m, o⟩ := k1
  obtain ⟨n, r⟩ := k2
  subst hl
  by_cases hlen : 70 < hs.length
  · exact cvf_long m n o r A _ c x W hT hlen
  · by_cases hoff : ¬ 0 < x ∨ m < 1 ∨ n < m
    · exact cvf_off m n o r A hs c x W hT h0.2 h1.2 hP hc hm (by omega) h0.1 h1.1 hoff
    · by_cases hx : 1 < x
      · exact cvf_more m n o r A hs c x W hT h0.2 h1.2 hP hc hm (by omega) h0.1 h1.1 (by omega) (by omega) (by omega) hx
      · exact cvf_one m n o r A hs c x W hT h0.2 h1.2 hP hc hm (by omega) h0.1 h1.1 (by omega) (by omega) (by omega) hx
end Go.Proofs.YtfokemminjikpaaDoor
