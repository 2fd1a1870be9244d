/-
  A proof that a tree goes on is checked (chain.Verify).
-/
import Derived.Test.YtjblnjeloimbgaaDoorChD
import Derived.Test.YtjblnjeloimbgaaDoorShaT
namespace Go.Proofs.YtjblnjeloimbgaaDoor
open Go.RowKit Go.BigFrame
set_option linter.unusedVariables false

theorem wpList_load_mid_w {P : Program} {ops : Array Oper} {rest : List Oper} {o : Oper} {a : Act} {w : World} {Q : Exit → Act → World → Prop} (hw : Region.wanted o (yielded ops a.tmps) = true) (ty : TypeId) (x : Operand) (ho : o.op = .load ty x)
    (b off : Nat) (hx : a.eval x = .pointer (some ⟨b, off, none⟩)) (cs : List Value) (d : TypeDesc) (hc : w.rangeAt b off cs) (hu : P.underlying ty = some d) (hd : d.isRow = true) (hi : (P.info? ty).map (·.size) = some cs.length)
    (h : wpList P ops Q rest (a.put o.dst (.agg cs.toArray)) w) : wpList P ops Q (o :: rest) a w := by
  refine wpList_wanted hw fun K hK => ?_
  unfold Oper.wp execOp
  simp only [ho, hx, Sem.run_bind, Sem.run_pure, Result.andThen_ok, run_loadAt_mid w b off ty cs d hc hu hd hi]
  exact hK _ _ h
/-- A key's cells: its size, and its root. -/
def keyCells (s : Nat) (r : List UInt8) : List Value := .int .u64 (s : Int) :: bvs r
theorem key_row {w : World} {b s : Nat} {r : List UInt8} (h : Row w b 35 (keyCells s r)) : w.cell? ⟨b, 0, none⟩ = some (.int .u64 (s : Int)) ∧ w.rangeAt b 1 (bvs r) := by
  refine ⟨h.cell 0, fun j v hv => ?_⟩
  rw [h.cell, Nat.add_comm]
  unfold keyCells
  rw [List.getElem?_cons_succ]
  exact hv
set_option maxRecDepth 100000 in
set_option maxHeartbeats 1000000 in
theorem cver_out (m n : Nat) (o r : List UInt8) (v : Value) (w : World) (hi : m < 1 ∨ n < m) (hm : m ≤ 18446744073709551615) (hn : n ≤ 18446744073709551615) :
    Calls Tryd.prog 16 #[.agg (keyCells m o).toArray, .agg (keyCells n r).toArray, v] w fun e w' => e = .returned (.int .i64 15) ∧ Keeps (fun _ => False) w w' := by
  obtain ⟨KO, hKO⟩ : ∃ K, keyCells m o = K := ⟨_, rfl⟩
  obtain ⟨KN, hKN⟩ : ∃ K, keyCells n r = K := ⟨_, rfl⟩
  rw [hKO, hKN]
  obtain ⟨W1, hW1⟩ : ∃ W, w.alloc (.cells KO.toArray 35) = W := ⟨_, rfl⟩
  obtain ⟨W2, hW2⟩ : ∃ W, W1.alloc (.cells KN.toArray 35) = W := ⟨_, rfl⟩
  have k1 : Keeps (fun _ => False) w W1 := by rw [← hW1]; exact (Keeps.refl _ _).alloc _
  have k2 : Keeps (fun _ => False) W1 W2 := by rw [← hW2]; exact (Keeps.refl _ _).alloc _
  have r1 : Row W1 w.heap.size 35 (keyCells m o) := by rw [← hW1, hKO]; exact heap_alloc_new w _
  have r2 : Row W2 W1.heap.size 35 (keyCells n r) := by rw [← hW2, hKN]; exact heap_alloc_new W1 _
  have c1 := (key_row (r1.keeps k2 id)).1
  have c2 := (key_row r2).1
  have hg := goes_any m n W2 hm hn
  rw [decide_eq_true hi] at hg
  have HG := Lib.hid hg
  have KK := Lib.hid (k1.trans k2)
  clear hg k1 k2 r1 r2 hKO hKN hi
  go_enter Tryd.func16, Tryd.ntmps16
  go_wp2_with (go_at_call 27; refine HG.out.mono ?_; rintro e w' ⟨rfl, rfl⟩)
  go_ret
  exact ⟨rfl, KK.out⟩
set_option maxRecDepth 100000 in
set_option maxHeartbeats 1000000 in
theorem cver_len (m n : Nat) (o r : List UInt8) (A : Option Addr) (l c : Nat) (w : World) (hm1 : 1 ≤ m) (hmn : m ≤ n) (hn : n ≤ 18446744073709551615) (hl : l ≠ Tr.lng m n true) :
    Calls Tryd.prog 16 #[.agg (keyCells m o).toArray, .agg (keyCells n r).toArray, .slice A l c] w fun e w' => e = .returned (.int .i64 20) ∧ Keeps (fun _ => False) w w' := by
  obtain ⟨KO, hKO⟩ : ∃ K, keyCells m o = K := ⟨_, rfl⟩
  obtain ⟨KN, hKN⟩ : ∃ K, keyCells n r = K := ⟨_, rfl⟩
  rw [hKO, hKN]
  obtain ⟨W1, hW1⟩ : ∃ W, w.alloc (.cells KO.toArray 35) = W := ⟨_, rfl⟩
  obtain ⟨W2, hW2⟩ : ∃ W, W1.alloc (.cells KN.toArray 35) = W := ⟨_, rfl⟩
  have k1 : Keeps (fun _ => False) w W1 := by rw [← hW1]; exact (Keeps.refl _ _).alloc _
  have k2 : Keeps (fun _ => False) W1 W2 := by rw [← hW2]; exact (Keeps.refl _ _).alloc _
  have r1 : Row W1 w.heap.size 35 (keyCells m o) := by rw [← hW1, hKO]; exact heap_alloc_new w _
  have r2 : Row W2 W1.heap.size 35 (keyCells n r) := by rw [← hW2, hKN]; exact heap_alloc_new W1 _
  have c1 := (key_row (r1.keeps k2 id)).1
  have c2 := (key_row r2).1
  have hg := goes_any m n W2 (by omega) hn
  rw [decide_eq_false (by omega)] at hg
  have hlo := long_in m n W2 hm1 hmn hn
  obtain ⟨S, hS⟩ : ∃ S, Tr.lng m n true = S := ⟨_, rfl⟩
  rw [hS] at hlo hl
  have hne : ((l : Int) != (S : Int)) = true := by rw [bne_iff_ne]; omega
  have HG := Lib.hid hg
  have HLO := Lib.hid hlo
  have KK := Lib.hid (k1.trans k2)
  clear hg hlo k1 k2 r1 r2 hKO hKN hS hl hm1 hmn
  go_enter Tryd.func16, Tryd.ntmps16
  go_wp2_with fail
  refine HG.out.mono ?_
  rintro e w' ⟨rfl, rfl⟩
  go_wp2_with fail
  refine HLO.out.mono ?_
  rintro e w'' ⟨rfl, rfl⟩
  go_wp2_with fail
  go_ret
  exact ⟨rfl, KK.out⟩
set_option maxRecDepth 100000 in
set_option maxHeartbeats 2000000 in
theorem cver_in (m n : Nat) (o r : List UInt8) (A : Option Addr) (ps : List (List UInt8)) (c : Nat) (w : World) (hT : Tabs w) (ho : o.length = 32) (hr : r.length = 32) (hP : PathAt w A ps) (hc : ps.length ≤ c) (hmax : c ≤ 9223372036854775807) (hm1 : 1 ≤ m) (hmn : m ≤ n) (hn : n ≤ 18446744073709551615) (hl : ps.length = Tr.lng m n true) :
    Calls Tryd.prog 16 #[.agg (keyCells m o).toArray, .agg (keyCells n r).toArray, .slice A ps.length c] w fun e w' => e = .returned (.int .i64 (if (Tr.cmd m n true o ps).1 = o ∧ (Tr.cmd m n true o ps).2 = r then 0 else 20)) ∧ Keeps (fun _ => False) w w' := by
  obtain ⟨KO, hKO⟩ : ∃ K, keyCells m o = K := ⟨_, rfl⟩
  obtain ⟨KN, hKN⟩ : ∃ K, keyCells n r = K := ⟨_, rfl⟩
  rw [hKO, hKN]
  obtain ⟨Z, hZ, hz, hzs⟩ := zero_hash
  obtain ⟨W1, hW1⟩ : ∃ W, w.alloc (.cells KO.toArray 35) = W := ⟨_, rfl⟩
  obtain ⟨W2, hW2⟩ : ∃ W, W1.alloc (.cells KN.toArray 35) = W := ⟨_, rfl⟩
  obtain ⟨W3, hW3⟩ : ∃ W, W2.alloc (.cells #[.nilFunc] 66) = W := ⟨_, rfl⟩
  have k1 : Keeps (fun _ => False) w W1 := by rw [← hW1]; exact (Keeps.refl _ _).alloc _
  have k2 : Keeps (fun _ => False) W1 W2 := by rw [← hW2]; exact (Keeps.refl _ _).alloc _
  have k3 : Keeps (fun _ => False) W2 W3 := by rw [← hW3]; exact (Keeps.refl _ _).alloc _
  have b1 : w.heap.size < W1.heap.size := by rw [← hW1]; simp
  have b2 : W1.heap.size < W2.heap.size := by rw [← hW2]; simp
  have r1 : Row W1 w.heap.size 35 (keyCells m o) := by rw [← hW1, hKO]; exact heap_alloc_new w _
  have r2 : Row W2 W1.heap.size 35 (keyCells n r) := by rw [← hW2, hKN]; exact heap_alloc_new W1 _
  have r3 : Row W3 W2.heap.size 66 [.nilFunc] := by rw [← hW3]; exact heap_alloc_new W2 _
  have c1 := (key_row (r1.keeps k2 id)).1
  have c2 := (key_row r2).1
  have hg := goes_any m n W2 (by omega) hn
  rw [decide_eq_false (by omega)] at hg
  have hlo := long_in m n W2 hm1 hmn hn
  rw [← hl] at hlo
  have hc3 : W3.cell? ⟨W2.heap.size, 0, none⟩ = some .nilFunc := r3.cell 0
  have hf3 : W3.frozen? ⟨W2.heap.size, 0, none⟩ = false := r3.frozen 0
  have hst : (store ⟨W2.heap.size, 0, none⟩ (.func (.func 29) #[] #[.pointer (some ⟨w.heap.size, 0, none⟩), .pointer (some ⟨W2.heap.size, 0, none⟩)])).run Tryd.prog W3 = .ok () (W3.setCell ⟨W2.heap.size, 0, none⟩ (.func (.func 29) #[] #[.pointer (some ⟨w.heap.size, 0, none⟩), .pointer (some ⟨W2.heap.size, 0, none⟩)])) := by
    rw [run_store _ _ _ _ _ rfl, hc3]
    simp [hf3]
  obtain ⟨W4, hW4⟩ : ∃ W, W3.setCell ⟨W2.heap.size, 0, none⟩ (.func (.func 29) #[] #[.pointer (some ⟨w.heap.size, 0, none⟩), .pointer (some ⟨W2.heap.size, 0, none⟩)]) = W := ⟨_, rfl⟩
  have r4 : Row W4 W2.heap.size 66 [cmFn w.heap.size W2.heap.size] := by rw [← hW4]; exact r3.set 0 _
  have k4 : Keeps (fun k => k = W2.heap.size) W2 W4 := by rw [← hW4]; exact Keeps.setCell (p := ⟨W2.heap.size, 0, none⟩) (S := fun k => k = W2.heap.size) (k3.mono (fun _ _ h => h.elim)) (fun _ => rfl) _
  have k04 : Keeps (fun _ => False) w W4 := (k1.trans k2).trans' k4 (fun i hi h => by omega)
  have ro4 : Row W4 w.heap.size 35 (keyCells m o) := (r1.keeps k2 id).keeps k4 (by omega)
  have rn4 : Row W4 W1.heap.size 35 (keyCells n r) := r2.keeps k4 (by omega)
  have hS : CSees W4 w.heap.size W2.heap.size o := ⟨⟨_, ro4⟩, r4⟩
  have hcall := cmade_any w.heap.size W2.heap.size o ho 64 A c ps m n true W4 (hT.keeps k04 id id) (hP.keeps k04 (fun _ _ => id)) hS hm1 hmn hn (Tr.deep_le (by omega)) hl hc hmax
  obtain ⟨hL1, hL2⟩ := Tr.cmd_length 64 m n true o ps (Tr.deep_le (by omega)) hm1 hmn (by omega) ho hP.all hl
  obtain ⟨L1, hl1⟩ : ∃ L, (Tr.cmd m n true o ps).1 = L := ⟨_, rfl⟩
  obtain ⟨L2, hl2⟩ : ∃ L, (Tr.cmd m n true o ps).2 = L := ⟨_, rfl⟩
  rw [hl1] at hL1
  rw [hl2] at hL2
  rw [hl1, hl2] at hcall ⊢
  have d1 := (key_row ro4).1
  have d2 := (key_row rn4).1
  have d3 : W4.cell? ⟨W2.heap.size, 0, none⟩ = some (.func (.func 29) #[] #[.pointer (some ⟨w.heap.size, 0, none⟩), .pointer (some ⟨W2.heap.size, 0, none⟩)]) := r4.cell 0
  have hro : ∀ V, Keeps (fun _ => False) W4 V → V.rangeAt w.heap.size 1 (bvs o) := fun V hV => (key_row (ro4.keeps hV id)).2
  have hrn : ∀ V, Keeps (fun _ => False) W4 V → V.rangeAt W1.heap.size 1 (bvs r) := fun V hV => (key_row (rn4.keeps hV id)).2
  have hpo : (Tryd.prog.info? 26).map (·.size) = some (bvs o).length := by rw [bvs_length, ho]; exact size_hash'
  have hpr : (Tryd.prog.info? 26).map (·.size) = some (bvs r).length := by rw [bvs_length, hr]; exact size_hash'
  obtain ⟨u0, hu0, _⟩ := info_parts info_u8t
  have hneq : ∀ (x y : List UInt8), x.length = 32 → y.length = 32 → ∀ V, (binOp .neq 26 (.agg (bvs x).toArray) (.agg (bvs y).toArray)).run Tryd.prog V = .ok (.bool (x != y)) V := fun x y hx hy V =>
    run_neq_bytes (P := Tryd.prog) V 26 5 32 Tryd.underlying26 Tryd.underlying5 hu0 (by kernel_rfl) (by kernel_rfl) x y hx hy
  have hn1 := hneq L1 o hL1 ho
  have hn2 := hneq L2 r hL2 hr
  obtain ⟨a1, a2, a3⟩ := arr_hash L1 hL1
  obtain ⟨e1, e2, e3⟩ := arr_hash L2 hL2
  have hif : (if L1 = o ∧ L2 = r then (0 : Int) else 20) = if (L1 != o) then 20 else if (L2 != r) then 20 else 0 := by
    by_cases h1 : L1 = o
    · by_cases h2 : L2 = r
      · rw [if_pos ⟨h1, h2⟩, h1, h2]; simp
      · rw [if_neg (fun h => h2 h.2), if_neg (by rw [h1]; simp), if_pos (bne_iff_ne.2 h2)]
    · rw [if_neg (fun h => h1 h.1), if_pos (bne_iff_ne.2 h1)]
  rw [hif]
  obtain ⟨q1, hq1⟩ : ∃ q, (L1 != o) = q := ⟨_, rfl⟩
  obtain ⟨q2, hq2⟩ : ∃ q, (L2 != r) = q := ⟨_, rfl⟩
  obtain ⟨F1, hF1⟩ : ∃ R, (bvs L1).toArray = R := ⟨_, rfl⟩
  obtain ⟨F2, hF2⟩ : ∃ R, (bvs L2).toArray = R := ⟨_, rfl⟩
  obtain ⟨OC, hOC⟩ : ∃ O, bvs o = O := ⟨_, rfl⟩
  obtain ⟨RC, hRC⟩ : ∃ O, bvs r = O := ⟨_, rfl⟩
  rw [hq1, hF1, hOC] at hn1
  rw [hq2, hF2, hRC] at hn2
  rw [hF1, hF2] at hcall
  rw [hF1] at a1 a2 a3
  rw [hF2] at e1 e2 e3
  rw [hOC] at hro hpo
  rw [hRC] at hrn hpr
  rw [hq1, hq2]
  obtain ⟨l, hlm⟩ : ∃ l, ps.length = l := ⟨_, rfl⟩
  rw [hlm] at hcall hlo ⊢
  have hne : ((l : Int) != (l : Int)) = false := by simp
  have HG := Lib.hid hg
  have HLO := Lib.hid hlo
  have HCALL := Lib.hid hcall
  have KK := Lib.hid k04
  have N1 := Lib.hid hn1
  have N2 := Lib.hid hn2
  have HRO := Lib.hid hro
  have HRN := Lib.hid hrn
  have HPO := Lib.hid hpo
  have HPR := Lib.hid hpr
  have S1 := Lib.hid a1
  have Z1 := Lib.hid (hzs.trans a2.symm)
  have O1 := Lib.hid a3
  have S2 := Lib.hid e1
  have Z2 := Lib.hid (hzs.trans e2.symm)
  have O2 := Lib.hid e3
  clear hg hlo hcall k04 k4 k3 k2 k1 b1 b2 r1 r2 r3 r4 ro4 rn4 hS hc3 hf3 hn1 hn2 hneq hro hrn hpo hpr a1 a2 a3 e1 e2 e3 hL1 hL2 hl1 hl2 hF1 hF2 hOC hRC hq1 hq2 hif hlm hl hKO hKN hT hP hZ hu0 hc hm1 hmn ho hr
  go_enter Tryd.func16, Tryd.ntmps16
  go_wp2_with fail
  refine HG.out.mono ?_
  rintro e w' ⟨rfl, rfl⟩
  go_wp2_with fail
  refine HLO.out.mono ?_
  rintro e w'' ⟨rfl, rfl⟩
  clear HG HLO c1 c2
  go_wp2_with fail
  refine HCALL.out.mono ?_
  rintro e w5 ⟨rfl, k5⟩
  obtain ⟨W6, hW6⟩ : ∃ V, w5.alloc (.cells Z 26) = V := ⟨_, rfl⟩
  obtain ⟨W7, hW7⟩ : ∃ V, W6.alloc (.cells Z 26) = V := ⟨_, rfl⟩
  have k6 : Keeps (fun _ => False) w5 W6 := by rw [← hW6]; exact (Keeps.refl _ _).alloc _
  have k7 : Keeps (fun _ => False) W6 W7 := by rw [← hW7]; exact (Keeps.refl _ _).alloc _
  have b6 : w5.heap.size < W6.heap.size := by rw [← hW6]; simp
  have ra : W7.heap[w5.heap.size]? = some (.cells Z 26 (0, 0)) := (k7.block _ b6 id).trans (by rw [← hW6]; exact heap_alloc_new w5 _)
  have rb : W7.heap[W6.heap.size]? = some (.cells Z 26 (0, 0)) := by rw [← hW7]; exact heap_alloc_new W6 _
  have hh := two_rows (R1 := F1) (R2 := F2) (show w5.heap.size ≠ W6.heap.size by omega) ra rb
  have HA := Lib.hid ra
  have HB := Lib.hid hh.1
  have HC := Lib.hid hh.2.1
  have HD := Lib.hid hh.2.2
  have kk : Keeps (fun _ => False) w5 ((W7.setRow w5.heap.size F1).setRow W6.heap.size F2) := ((k6.trans k7).trans' (Keeps.setRow w5.heap.size F1) (fun i hi h => by omega)).trans' (Keeps.setRow W6.heap.size F2) (fun i hi h => by omega)
  have HRO8 := Lib.hid (HRO.out _ (k5.trans kk))
  have HRN8 := Lib.hid (HRN.out _ (k5.trans kk))
  have K8 := Lib.hid (KK.out.trans (k5.trans kk))
  clear hh ra rb k6 k7 kk k5 b6 HCALL HRO HRN KK d1 d2 d3
  cases q1
  · cases q2
    all_goals
      go_wp2_with (first
        | (refine wpList_store_row rfl 26 _ _ rfl w5.heap.size F1 rfl rfl 26 Z HA.out S1.out Z1.out O1.out ?_)
        | (refine wpList_store_row rfl 26 _ _ rfl W6.heap.size F2 rfl rfl 26 Z HB.out S2.out Z2.out O2.out ?_)
        | (refine wpList_load_row_w (by rfl) 26 (.tmp 8) (by rfl) w5.heap.size (by rfl) 26 F1 (0, 0) _ HC.out Tryd.underlying26 rfl S1.out ?_)
        | (refine wpList_load_mid_w (by rfl) 26 (.tmp 36) (by rfl) w.heap.size 1 (by rfl) OC _ HRO8.out Tryd.underlying26 rfl HPO.out ?_)
        | (refine wpList_eq_agg_w (by rfl) .neq 26 _ (.tmp 35) (.tmp 37) (by rfl) F1 OC.toArray (by rfl) (by rfl) (by kernel_rfl) _ (N1.out _) ?_)
        | (refine wpList_load_row_w (by rfl) 26 (.tmp 9) (by rfl) W6.heap.size (by rfl) 26 F2 (0, 0) _ HD.out Tryd.underlying26 rfl S2.out ?_)
        | (refine wpList_load_mid_w (by rfl) 26 (.tmp 41) (by rfl) W1.heap.size 1 (by rfl) RC _ HRN8.out Tryd.underlying26 rfl HPR.out ?_)
        | (refine wpList_eq_agg_w (by rfl) .neq 26 _ (.tmp 40) (.tmp 42) (by rfl) F2 RC.toArray (by rfl) (by rfl) (by kernel_rfl) _ (N2.out _) ?_))
      go_ret
      exact ⟨rfl, K8.out⟩
  · go_wp2_with (first
        | (refine wpList_store_row rfl 26 _ _ rfl w5.heap.size F1 rfl rfl 26 Z HA.out S1.out Z1.out O1.out ?_)
        | (refine wpList_store_row rfl 26 _ _ rfl W6.heap.size F2 rfl rfl 26 Z HB.out S2.out Z2.out O2.out ?_)
        | (refine wpList_load_row_w (by rfl) 26 (.tmp 8) (by rfl) w5.heap.size (by rfl) 26 F1 (0, 0) _ HC.out Tryd.underlying26 rfl S1.out ?_)
        | (refine wpList_load_mid_w (by rfl) 26 (.tmp 36) (by rfl) w.heap.size 1 (by rfl) OC _ HRO8.out Tryd.underlying26 rfl HPO.out ?_)
        | (refine wpList_eq_agg_w (by rfl) .neq 26 _ (.tmp 35) (.tmp 37) (by rfl) F1 OC.toArray (by rfl) (by rfl) (by kernel_rfl) _ (N1.out _) ?_))
    go_ret
    exact ⟨rfl, K8.out⟩
/-- What Verify answers. -/
theorem cverify_any (m n : Nat) (o r : List UInt8) (A : Option Addr) (ps : List (List UInt8)) (c : Nat) (w : World) (hT : Tabs w) (ho : o.length = 32) (hr : r.length = 32) (hP : PathAt w A ps) (hc : ps.length ≤ c) (hmax : c ≤ 9223372036854775807) (hm : m ≤ 18446744073709551615) (hn : n ≤ 18446744073709551615) :
    Calls Tryd.prog 16 #[.agg (keyCells m o).toArray, .agg (keyCells n r).toArray, .slice A ps.length c] w fun e w' => e = .returned (.int .i64 (Tr.cverify m o n r ps)) ∧ Keeps (fun _ => False) w w' := by
  unfold Tr.cverify
  by_cases h1 : m < 1 ∨ n < m
  · rw [if_pos h1]
    exact cver_out m n o r _ w h1 hm hn
  rw [if_neg h1]
  by_cases h2 : ps.length = Tr.lng m n true
  · rw [if_pos h2]
    exact cver_in m n o r A ps c w hT ho hr hP hc hmax (by omega) (by omega) hn h2
  · rw [if_neg h2]
    exact cver_len m n o r A _ c w (by omega) (by omega) hn h2
end Go.Proofs.YtjblnjeloimbgaaDoor
