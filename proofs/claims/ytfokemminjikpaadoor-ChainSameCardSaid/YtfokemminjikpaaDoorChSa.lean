/-
  The law ChainSame walked: of one size just the same root goes on, without a hash. WRITTEN BY wip/gen/mkchsa.py.
-/
import Derived.Test.YtfokemminjikpaaDoorChW
import Derived.Test.YtfokemminjikpaaDoorOpens
namespace Go.Proofs.YtfokemminjikpaaDoor
open Go.RowKit Go.BigFrame
set_option linter.unusedVariables false

theorem cver_same (n : Nat) (a b : List UInt8) (ps : List (List UInt8)) : Tr.cverify n a n b ps = if n < 1 then 15 else if ps.length = 0 then (if a = b then 0 else 20) else 20 := by
  unfold Tr.cverify
  by_cases h : n < 1
  · rw [if_pos (.inl h), if_pos h]
  · rw [if_neg (by omega), if_neg h, Tr.lng_eq, if_pos rfl, Tr.cmd_eq, if_pos rfl]
    by_cases hp : ps.length = 0
    · rw [if_pos hp, if_pos hp]
      by_cases hab : a = b
      · rw [if_pos ⟨rfl, hab⟩, if_pos hab]
      · rw [if_neg (fun h => hab h.2), if_neg hab]
    · rw [if_neg hp, if_neg hp]
set_option maxRecDepth 100000 in
set_option maxHeartbeats 1000000 in
theorem csame_long (n : Int) (za zb : List UInt8) (A : Option Addr) (l c : Nat) (s : Bool) (W : World) (hT : Tabs W) (hl : 20 < l) (hmax : l ≤ 9223372036854775807) :
    Calls Tryd.prog 10 #[.int .u64 n, .agg (bvs za).toArray, .agg (bvs zb).toArray, .slice A l c, .bool s] W fun e W' => e = .returned (.bool true) ∧ Below W.heap.size W W' := by
  obtain ⟨X, hX⟩ : ∃ X : Array Value, (bvs za).toArray = X := ⟨_, rfl⟩
  obtain ⟨Y, hY⟩ : ∃ Y : Array Value, (bvs zb).toArray = Y := ⟨_, rfl⟩
  rw [hX, hY]
  obtain ⟨W1, hW1⟩ : ∃ V, W.alloc (.cells X 24) = V := ⟨_, rfl⟩
  obtain ⟨W2, hW2⟩ : ∃ V, W1.alloc (.cells Y 24) = V := ⟨_, rfl⟩
  have k2 : Keeps (fun _ => False) W W2 := by rw [← hW2, ← hW1]; exact ((Keeps.refl _ _).alloc _).alloc _
  have HAW := Lib.hid (awake4_any W2 (hT.keeps k2 id id))
  have hl' : (20 : Int) < l := by omega
  clear hT hX hY hl
  go_enter Tryd.func10, Tryd.ntmps10
  go_wp2_with fail
  refine HAW.out.mono ?_
  rintro e w3 ⟨rfl, k3⟩
  go_wp2
  go_ret
  exact ⟨rfl, keeps_below3 (k2.trans k3)⟩
set_option maxRecDepth 100000 in
set_option maxHeartbeats 2000000 in
theorem csame_off (n : Nat) (za zb : List UInt8) (A : Option Addr) (ps : List (List UInt8)) (c : Nat) (W : World) (hT : Tabs W) (hn : n ≤ 18446744073709551615) (ha : za.length = 32) (hb : zb.length = 32) (hP : PathAt W A ps) (hl : ps.length ≤ 20) (hc : ps.length ≤ c) (hmax : c ≤ 9223372036854775807) :
    Calls Tryd.prog 10 #[.int .u64 (n : Int), .agg (bvs za).toArray, .agg (bvs zb).toArray, .slice A ps.length c, .bool false] W fun e W' => e = .returned (.bool true) ∧ Below W.heap.size W W' := by
  obtain ⟨X, hX⟩ : ∃ X : Array Value, (bvs za).toArray = X := ⟨_, rfl⟩
  obtain ⟨Y, hY⟩ : ∃ Y : Array Value, (bvs zb).toArray = Y := ⟨_, rfl⟩
  obtain ⟨W1, hW1⟩ : ∃ V, W.alloc (.cells X 24) = V := ⟨_, rfl⟩
  obtain ⟨W2, hW2⟩ : ∃ V, W1.alloc (.cells Y 24) = V := ⟨_, rfl⟩
  have k1 : Keeps (fun _ => False) W W1 := by rw [← hW1]; exact (Keeps.refl _ _).alloc _
  have k12 : Keeps (fun _ => False) W1 W2 := by rw [← hW2]; exact (Keeps.refl _ _).alloc _
  have k2 := k1.trans k12
  have b1 : W.heap.size < W1.heap.size := by rw [← hW1]; simp
  have b2 : W1.heap.size < W2.heap.size := by rw [← hW2]; simp
  have r6 : W2.heap[W.heap.size]? = some (.cells X 24 (0, 0)) := (k12.block _ b1 id).trans (by rw [← hW1]; exact heap_alloc_new W _)
  have r7 : W2.heap[W1.heap.size]? = some (.cells Y 24 (0, 0)) := by rw [← hW2]; exact heap_alloc_new W1 _
  have HAW := Lib.hid (awake4_any W2 (hT.keeps k2 id id))
  obtain ⟨x1, x2, x3⟩ := arr_hash za ha
  obtain ⟨y1, y2, y3⟩ := arr_hash zb hb
  have hba := build_key n za ha
  have hbb := build_key n zb hb
  obtain ⟨u0, hu0, _⟩ := info_parts info_u8t
  have heq : ∀ V, (binOp .eql 24 (.agg (bvs za).toArray) (.agg (bvs zb).toArray)).run Tryd.prog V = .ok (.bool (za == zb)) V := fun V =>
    run_eql_bytes (P := Tryd.prog) V 24 5 32 Tryd.underlying24 Tryd.underlying5 hu0 (by kernel_rfl) (by kernel_rfl) za zb ha hb
  have hv := fun V (hk : Keeps (fun _ => False) W V) => cverify_any n n za zb A ps c V (hT.keeps hk id id) ha hb (hP.keeps hk (fun _ _ => id)) hc hmax hn hn
  rw [cver_same] at hv
  have hif : (if n < 1 then (15 : Int) else if ps.length = 0 then (if za = zb then 0 else 20) else 20) = if n < 1 then 15 else if ps.length = 0 then (if (za == zb) then 0 else 20) else 20 := by
    by_cases h : za = zb
    · rw [if_pos h, if_pos (beq_iff_eq.2 h)]
    · rw [if_neg h, if_neg (fun e => h (beq_iff_eq.1 e))]
  rw [hif] at hv
  obtain ⟨q, hq⟩ : ∃ q, (za == zb) = q := ⟨_, rfl⟩
  obtain ⟨KA, hKA⟩ : ∃ R, keyCells n za = R := ⟨_, rfl⟩
  obtain ⟨KB, hKB⟩ : ∃ R, keyCells n zb = R := ⟨_, rfl⟩
  obtain ⟨l, hlm⟩ : ∃ l, ps.length = l := ⟨_, rfl⟩
  rw [hX, hY, hq] at heq
  rw [hq, hlm, hKA, hKB] at hv
  rw [hX, hKA] at hba
  rw [hY, hKB] at hbb
  rw [hX] at x1 x2 x3
  rw [hY] at y1 y2 y3
  rw [hlm] at hl hc ⊢
  rw [hX, hY]
  have SX := Lib.hid x1
  have SY := Lib.hid y1
  have OX := Lib.hid x3
  have ZYX := Lib.hid (y2.trans x2.symm)
  have HBA := Lib.hid hba
  have HBB := Lib.hid hbb
  have HEQ := Lib.hid heq
  have HV := Lib.hid hv
  have R6 := Lib.hid r6
  have R7 := Lib.hid r7
  have K2 := Lib.hid k2
  have HB1 := Lib.hid b1
  have hl' : (l : Int) ≤ 20 := by omega
  clear x1 x2 x3 y1 y2 y3 hba hbb heq hv r6 r7 k2 k1 k12 hX hY hT hP hl hc ha hb hq hKA hKB hlm hif hu0 b1 b2
  rcases Nat.lt_or_ge n 1 with hn0 | hn0
  · have hn1 : (n : Int) < 1 := by omega
    rw [if_pos hn0] at HV
    go_enter Tryd.func10, Tryd.ntmps10
    go_wp2_with fail
    refine HAW.out.mono ?_
    rintro e w3 ⟨rfl, k3⟩
    have r6 := (k3.block _ (Array.getElem?_eq_some_iff.1 R6.out).1 id).trans R6.out
    have r7 := (k3.block _ (Array.getElem?_eq_some_iff.1 R7.out).1 id).trans R7.out
    have H6 := Lib.hid r6
    have H7 := Lib.hid r7
    have KV := Lib.hid (K2.out.trans k3)
    have HCALL := Lib.hid (HV.out _ KV.out)
    clear r6 r7 k3 HAW
    go_wp2_with (first
      | (refine wpList_load_row_w (by rfl) 24 (.tmp 6) (by rfl) W.heap.size (by rfl) 24 X (0, 0) _ H6.out Tryd.underlying24 rfl SX.out ?_)
      | (refine wpList_load_row_w (by rfl) 24 (.tmp 7) (by rfl) W1.heap.size (by rfl) 24 Y (0, 0) _ H7.out Tryd.underlying24 rfl SY.out ?_)
      | (refine wpList_build_runs (by rfl) 55 _ (by rfl) [(0, .int .u64 (n : Int)), (1, .agg X)] (by rfl) (.agg KA.toArray) (HBA.out _) ?_)
      | (refine wpList_build_runs (by rfl) 55 _ (by rfl) [(0, .int .u64 (n : Int)), (1, .agg Y)] (by rfl) (.agg KB.toArray) (HBB.out _) ?_))
    refine HCALL.out.mono ?_
    rintro e w5 ⟨rfl, k5⟩
    go_wp2
    go_ret
    exact ⟨rfl, keeps_below3 (KV.out.trans k5)⟩
  · have hn1 : ¬ (n : Int) < 1 := by omega
    rw [if_neg (by omega)] at HV
    rcases Nat.eq_zero_or_pos l with hl0 | hl0
    · subst hl0
      rw [if_pos rfl] at HV
      cases q
      · rw [if_neg (by decide)] at HV
        go_enter Tryd.func10, Tryd.ntmps10
        go_wp2_with fail
        refine HAW.out.mono ?_
        rintro e w3 ⟨rfl, k3⟩
        have r6 := (k3.block _ (Array.getElem?_eq_some_iff.1 R6.out).1 id).trans R6.out
        have r7 := (k3.block _ (Array.getElem?_eq_some_iff.1 R7.out).1 id).trans R7.out
        have H6 := Lib.hid r6
        have H7 := Lib.hid r7
        have KV := Lib.hid (K2.out.trans k3)
        have HCALL := Lib.hid (HV.out _ KV.out)
        clear r6 r7 k3 HAW
        go_wp2_with (first
          | (refine wpList_load_row_w (by rfl) 24 (.tmp 6) (by rfl) W.heap.size (by rfl) 24 X (0, 0) _ H6.out Tryd.underlying24 rfl SX.out ?_)
          | (refine wpList_load_row_w (by rfl) 24 (.tmp 7) (by rfl) W1.heap.size (by rfl) 24 Y (0, 0) _ H7.out Tryd.underlying24 rfl SY.out ?_)
          | (refine wpList_build_runs (by rfl) 55 _ (by rfl) [(0, .int .u64 (n : Int)), (1, .agg X)] (by rfl) (.agg KA.toArray) (HBA.out _) ?_)
          | (refine wpList_build_runs (by rfl) 55 _ (by rfl) [(0, .int .u64 (n : Int)), (1, .agg Y)] (by rfl) (.agg KB.toArray) (HBB.out _) ?_))
        refine HCALL.out.mono ?_
        rintro e w5 ⟨rfl, k5⟩
        have h6 := (k5.block _ (Array.getElem?_eq_some_iff.1 H6.out).1 id).trans H6.out
        have h7 := (k5.block _ (Array.getElem?_eq_some_iff.1 H7.out).1 id).trans H7.out
        have G6 := Lib.hid h6
        have G7 := Lib.hid h7
        clear h6 h7 H6 H7
        go_wp2_with (first
          | (refine wpList_load_row_w (by rfl) 24 (.tmp 6) (by rfl) W.heap.size (by rfl) 24 X (0, 0) _ G6.out Tryd.underlying24 rfl SX.out ?_)
          | (refine wpList_load_row_w (by rfl) 24 (.tmp 7) (by rfl) W1.heap.size (by rfl) 24 Y (0, 0) _ G7.out Tryd.underlying24 rfl SY.out ?_)
          | (refine wpList_eq_agg_w (by rfl) .eql 24 _ (.tmp 35) (.tmp 36) (by rfl) X Y (by rfl) (by rfl) (by kernel_rfl) _ (HEQ.out _) ?_))
        go_ret
        exact ⟨rfl, keeps_below3 (KV.out.trans k5)⟩
      · rw [if_pos rfl] at HV
        go_enter Tryd.func10, Tryd.ntmps10
        go_wp2_with fail
        refine HAW.out.mono ?_
        rintro e w3 ⟨rfl, k3⟩
        have r6 := (k3.block _ (Array.getElem?_eq_some_iff.1 R6.out).1 id).trans R6.out
        have r7 := (k3.block _ (Array.getElem?_eq_some_iff.1 R7.out).1 id).trans R7.out
        have H6 := Lib.hid r6
        have H7 := Lib.hid r7
        have KV := Lib.hid (K2.out.trans k3)
        have HCALL := Lib.hid (HV.out _ KV.out)
        clear r6 r7 k3 HAW
        go_wp2_with (first
          | (refine wpList_load_row_w (by rfl) 24 (.tmp 6) (by rfl) W.heap.size (by rfl) 24 X (0, 0) _ H6.out Tryd.underlying24 rfl SX.out ?_)
          | (refine wpList_load_row_w (by rfl) 24 (.tmp 7) (by rfl) W1.heap.size (by rfl) 24 Y (0, 0) _ H7.out Tryd.underlying24 rfl SY.out ?_)
          | (refine wpList_build_runs (by rfl) 55 _ (by rfl) [(0, .int .u64 (n : Int)), (1, .agg X)] (by rfl) (.agg KA.toArray) (HBA.out _) ?_)
          | (refine wpList_build_runs (by rfl) 55 _ (by rfl) [(0, .int .u64 (n : Int)), (1, .agg Y)] (by rfl) (.agg KB.toArray) (HBB.out _) ?_))
        refine HCALL.out.mono ?_
        rintro e w5 ⟨rfl, k5⟩
        have h6 := (k5.block _ (Array.getElem?_eq_some_iff.1 H6.out).1 id).trans H6.out
        have h7 := (k5.block _ (Array.getElem?_eq_some_iff.1 H7.out).1 id).trans H7.out
        have G6 := Lib.hid h6
        have G7 := Lib.hid h7
        clear h6 h7 H6 H7
        go_wp2_with (first
          | (refine wpList_load_row_w (by rfl) 24 (.tmp 6) (by rfl) W.heap.size (by rfl) 24 X (0, 0) _ G6.out Tryd.underlying24 rfl SX.out ?_)
          | (refine wpList_load_row_w (by rfl) 24 (.tmp 7) (by rfl) W1.heap.size (by rfl) 24 Y (0, 0) _ G7.out Tryd.underlying24 rfl SY.out ?_)
          | (refine wpList_eq_agg_w (by rfl) .eql 24 _ (.tmp 35) (.tmp 36) (by rfl) X Y (by rfl) (by rfl) (by kernel_rfl) _ (HEQ.out _) ?_))
        go_ret
        exact ⟨rfl, keeps_below3 (KV.out.trans k5)⟩
    · rw [if_neg (by omega)] at HV
      have hl1 : ((l : Int) == 0) = false := by rw [beq_eq_false_iff_ne]; omega
      cases q
      all_goals
        go_enter Tryd.func10, Tryd.ntmps10
        go_wp2_with fail
        refine HAW.out.mono ?_
        rintro e w3 ⟨rfl, k3⟩
        have r6 := (k3.block _ (Array.getElem?_eq_some_iff.1 R6.out).1 id).trans R6.out
        have r7 := (k3.block _ (Array.getElem?_eq_some_iff.1 R7.out).1 id).trans R7.out
        have H6 := Lib.hid r6
        have H7 := Lib.hid r7
        have KV := Lib.hid (K2.out.trans k3)
        have HCALL := Lib.hid (HV.out _ KV.out)
        clear r6 r7 k3 HAW
        go_wp2_with (first
          | (refine wpList_load_row_w (by rfl) 24 (.tmp 6) (by rfl) W.heap.size (by rfl) 24 X (0, 0) _ H6.out Tryd.underlying24 rfl SX.out ?_)
          | (refine wpList_load_row_w (by rfl) 24 (.tmp 7) (by rfl) W1.heap.size (by rfl) 24 Y (0, 0) _ H7.out Tryd.underlying24 rfl SY.out ?_)
          | (refine wpList_build_runs (by rfl) 55 _ (by rfl) [(0, .int .u64 (n : Int)), (1, .agg X)] (by rfl) (.agg KA.toArray) (HBA.out _) ?_)
          | (refine wpList_build_runs (by rfl) 55 _ (by rfl) [(0, .int .u64 (n : Int)), (1, .agg Y)] (by rfl) (.agg KB.toArray) (HBB.out _) ?_))
        refine HCALL.out.mono ?_
        rintro e w5 ⟨rfl, k5⟩
        have h6 := (k5.block _ (Array.getElem?_eq_some_iff.1 H6.out).1 id).trans H6.out
        have h7 := (k5.block _ (Array.getElem?_eq_some_iff.1 H7.out).1 id).trans H7.out
        have G6 := Lib.hid h6
        have G7 := Lib.hid h7
        clear h6 h7 H6 H7
        go_wp2_with (first
          | (refine wpList_load_row_w (by rfl) 24 (.tmp 6) (by rfl) W.heap.size (by rfl) 24 X (0, 0) _ G6.out Tryd.underlying24 rfl SX.out ?_)
          | (refine wpList_load_row_w (by rfl) 24 (.tmp 7) (by rfl) W1.heap.size (by rfl) 24 Y (0, 0) _ G7.out Tryd.underlying24 rfl SY.out ?_)
          | (refine wpList_eq_agg_w (by rfl) .eql 24 _ (.tmp 35) (.tmp 36) (by rfl) X Y (by rfl) (by rfl) (by kernel_rfl) _ (HEQ.out _) ?_))
        go_ret
        exact ⟨rfl, keeps_below3 (KV.out.trans k5)⟩
set_option maxRecDepth 100000 in
set_option maxHeartbeats 2000000 in
theorem csame_on (n : Nat) (za zb : List UInt8) (A : Option Addr) (ps : List (List UInt8)) (c : Nat) (W : World) (hT : Tabs W) (hn : n ≤ 18446744073709551615) (ha : za.length = 32) (hb : zb.length = 32) (hP : PathAt W A ps) (hl : ps.length ≤ 20) (hc : ps.length ≤ c) (hmax : c ≤ 9223372036854775807) :
    Calls Tryd.prog 10 #[.int .u64 (n : Int), .agg (bvs za).toArray, .agg (bvs zb).toArray, .slice A ps.length c, .bool true] W fun e W' => e = .returned (.bool true) ∧ Below W.heap.size W W' := by
  obtain ⟨X, hX⟩ : ∃ X : Array Value, (bvs za).toArray = X := ⟨_, rfl⟩
  obtain ⟨Y, hY⟩ : ∃ Y : Array Value, (bvs zb).toArray = Y := ⟨_, rfl⟩
  obtain ⟨W1, hW1⟩ : ∃ V, W.alloc (.cells X 24) = V := ⟨_, rfl⟩
  obtain ⟨W2, hW2⟩ : ∃ V, W1.alloc (.cells Y 24) = V := ⟨_, rfl⟩
  have k1 : Keeps (fun _ => False) W W1 := by rw [← hW1]; exact (Keeps.refl _ _).alloc _
  have k12 : Keeps (fun _ => False) W1 W2 := by rw [← hW2]; exact (Keeps.refl _ _).alloc _
  have k2 := k1.trans k12
  have b1 : W.heap.size < W1.heap.size := by rw [← hW1]; simp
  have b2 : W1.heap.size < W2.heap.size := by rw [← hW2]; simp
  have r6 : W2.heap[W.heap.size]? = some (.cells X 24 (0, 0)) := (k12.block _ b1 id).trans (by rw [← hW1]; exact heap_alloc_new W _)
  have r7 : W2.heap[W1.heap.size]? = some (.cells Y 24 (0, 0)) := by rw [← hW2]; exact heap_alloc_new W1 _
  have HAW := Lib.hid (awake4_any W2 (hT.keeps k2 id id))
  obtain ⟨x1, x2, x3⟩ := arr_hash za ha
  obtain ⟨y1, y2, y3⟩ := arr_hash zb hb
  have hba := build_key n za ha
  have hbb := build_key n zb hb
  obtain ⟨u0, hu0, _⟩ := info_parts info_u8t
  have heq : ∀ V, (binOp .eql 24 (.agg (bvs za).toArray) (.agg (bvs za).toArray)).run Tryd.prog V = .ok (.bool (za == za)) V := fun V =>
    run_eql_bytes (P := Tryd.prog) V 24 5 32 Tryd.underlying24 Tryd.underlying5 hu0 (by kernel_rfl) (by kernel_rfl) za za ha ha
  have hv := fun V (hk : Keeps (fun _ => False) W V) => cverify_any n n za za A ps c V (hT.keeps hk id id) ha ha (hP.keeps hk (fun _ _ => id)) hc hmax hn hn
  rw [cver_same] at hv
  have hif : (if n < 1 then (15 : Int) else if ps.length = 0 then (if za = za then 0 else 20) else 20) = if n < 1 then 15 else if ps.length = 0 then (if (za == za) then 0 else 20) else 20 := by
    by_cases h : za = za
    · rw [if_pos h, if_pos (beq_iff_eq.2 h)]
    · rw [if_neg h, if_neg (fun e => h (beq_iff_eq.1 e))]
  rw [hif] at hv
  obtain ⟨q, hq⟩ : ∃ q, (za == za) = q := ⟨_, rfl⟩
  obtain ⟨KA, hKA⟩ : ∃ R, keyCells n za = R := ⟨_, rfl⟩
  obtain ⟨KB, hKB⟩ : ∃ R, keyCells n zb = R := ⟨_, rfl⟩
  obtain ⟨l, hlm⟩ : ∃ l, ps.length = l := ⟨_, rfl⟩
  rw [hX, hq] at heq
  rw [hq, hlm, hKA] at hv
  rw [hX, hKA] at hba
  rw [hY, hKB] at hbb
  rw [hX] at x1 x2 x3
  rw [hY] at y1 y2 y3
  rw [hlm] at hl hc ⊢
  rw [hX, hY]
  have SX := Lib.hid x1
  have SY := Lib.hid y1
  have OX := Lib.hid x3
  have ZYX := Lib.hid (y2.trans x2.symm)
  have HBA := Lib.hid hba
  have HBB := Lib.hid hbb
  have HEQ := Lib.hid heq
  have HV := Lib.hid hv
  have R6 := Lib.hid r6
  have R7 := Lib.hid r7
  have K2 := Lib.hid k2
  have HB1 := Lib.hid b1
  have hl' : (l : Int) ≤ 20 := by omega
  clear x1 x2 x3 y1 y2 y3 hba hbb heq hv r6 r7 k2 k1 k12 hX hY hT hP hl hc ha hb hq hKA hKB hlm hif hu0 b1 b2
  rcases Nat.lt_or_ge n 1 with hn0 | hn0
  · have hn1 : (n : Int) < 1 := by omega
    rw [if_pos hn0] at HV
    go_enter Tryd.func10, Tryd.ntmps10
    go_wp2_with fail
    refine HAW.out.mono ?_
    rintro e w3 ⟨rfl, k3⟩
    have r6 := (k3.block _ (Array.getElem?_eq_some_iff.1 R6.out).1 id).trans R6.out
    have r7 := (k3.block _ (Array.getElem?_eq_some_iff.1 R7.out).1 id).trans R7.out
    have hh := two_rows (R1 := X) (R2 := X) (show W1.heap.size ≠ W.heap.size by have := HB1.out; omega) r7 r6
    have H7o := Lib.hid r7
    have H6 : Hid ((w3.setRow W1.heap.size X).heap[W.heap.size]? = some (.cells X 24 (0, 0))) := hh.1
    have H7 : Hid ((w3.setRow W1.heap.size X).heap[W1.heap.size]? = some (.cells X 24 (0, 0))) := setRow_heap _ _ _ _ _ _ r7
    have H6o := Lib.hid r6
    have KV := Lib.hid ((K2.out.trans k3).trans' (Keeps.setRow W1.heap.size X) (fun i hi h => by have := HB1.out; omega))
    have HCALL := Lib.hid (HV.out _ KV.out)
    clear hh r6 r7 k3 HAW
    go_wp2_with (first
      | (refine wpList_load_row_w (by rfl) 24 (.tmp 6) (by rfl) W.heap.size (by rfl) 24 X (0, 0) _ H6o.out Tryd.underlying24 rfl SX.out ?_)
      | (refine wpList_store_row rfl 24 _ _ rfl W1.heap.size X rfl rfl 24 Y H7o.out SX.out ZYX.out OX.out ?_)
      | (refine wpList_load_row_w (by rfl) 24 (.tmp 6) (by rfl) W.heap.size (by rfl) 24 X (0, 0) _ H6.out Tryd.underlying24 rfl SX.out ?_)
      | (refine wpList_load_row_w (by rfl) 24 (.tmp 7) (by rfl) W1.heap.size (by rfl) 24 X (0, 0) _ H7.out Tryd.underlying24 rfl SX.out ?_)
      | (refine wpList_build_runs (by rfl) 55 _ (by rfl) [(0, .int .u64 (n : Int)), (1, .agg X)] (by rfl) (.agg KA.toArray) (HBA.out _) ?_)
      | (refine wpList_build_runs (by rfl) 55 _ (by rfl) [(0, .int .u64 (n : Int)), (1, .agg X)] (by rfl) (.agg KA.toArray) (HBA.out _) ?_))
    refine HCALL.out.mono ?_
    rintro e w5 ⟨rfl, k5⟩
    go_wp2
    go_ret
    exact ⟨rfl, keeps_below3 (KV.out.trans k5)⟩
  · have hn1 : ¬ (n : Int) < 1 := by omega
    rw [if_neg (by omega)] at HV
    rcases Nat.eq_zero_or_pos l with hl0 | hl0
    · subst hl0
      rw [if_pos rfl] at HV
      cases q
      · rw [if_neg (by decide)] at HV
        go_enter Tryd.func10, Tryd.ntmps10
        go_wp2_with fail
        refine HAW.out.mono ?_
        rintro e w3 ⟨rfl, k3⟩
        have r6 := (k3.block _ (Array.getElem?_eq_some_iff.1 R6.out).1 id).trans R6.out
        have r7 := (k3.block _ (Array.getElem?_eq_some_iff.1 R7.out).1 id).trans R7.out
        have hh := two_rows (R1 := X) (R2 := X) (show W1.heap.size ≠ W.heap.size by have := HB1.out; omega) r7 r6
        have H7o := Lib.hid r7
        have H6 : Hid ((w3.setRow W1.heap.size X).heap[W.heap.size]? = some (.cells X 24 (0, 0))) := hh.1
        have H7 : Hid ((w3.setRow W1.heap.size X).heap[W1.heap.size]? = some (.cells X 24 (0, 0))) := setRow_heap _ _ _ _ _ _ r7
        have H6o := Lib.hid r6
        have KV := Lib.hid ((K2.out.trans k3).trans' (Keeps.setRow W1.heap.size X) (fun i hi h => by have := HB1.out; omega))
        have HCALL := Lib.hid (HV.out _ KV.out)
        clear hh r6 r7 k3 HAW
        go_wp2_with (first
          | (refine wpList_load_row_w (by rfl) 24 (.tmp 6) (by rfl) W.heap.size (by rfl) 24 X (0, 0) _ H6o.out Tryd.underlying24 rfl SX.out ?_)
          | (refine wpList_store_row rfl 24 _ _ rfl W1.heap.size X rfl rfl 24 Y H7o.out SX.out ZYX.out OX.out ?_)
          | (refine wpList_load_row_w (by rfl) 24 (.tmp 6) (by rfl) W.heap.size (by rfl) 24 X (0, 0) _ H6.out Tryd.underlying24 rfl SX.out ?_)
          | (refine wpList_load_row_w (by rfl) 24 (.tmp 7) (by rfl) W1.heap.size (by rfl) 24 X (0, 0) _ H7.out Tryd.underlying24 rfl SX.out ?_)
          | (refine wpList_build_runs (by rfl) 55 _ (by rfl) [(0, .int .u64 (n : Int)), (1, .agg X)] (by rfl) (.agg KA.toArray) (HBA.out _) ?_)
          | (refine wpList_build_runs (by rfl) 55 _ (by rfl) [(0, .int .u64 (n : Int)), (1, .agg X)] (by rfl) (.agg KA.toArray) (HBA.out _) ?_))
        refine HCALL.out.mono ?_
        rintro e w5 ⟨rfl, k5⟩
        have h6 := (k5.block _ (Array.getElem?_eq_some_iff.1 H6.out).1 id).trans H6.out
        have h7 := (k5.block _ (Array.getElem?_eq_some_iff.1 H7.out).1 id).trans H7.out
        have G6 := Lib.hid h6
        have G7 := Lib.hid h7
        clear h6 h7 H6 H7
        go_wp2_with (first
          | (refine wpList_load_row_w (by rfl) 24 (.tmp 6) (by rfl) W.heap.size (by rfl) 24 X (0, 0) _ G6.out Tryd.underlying24 rfl SX.out ?_)
          | (refine wpList_load_row_w (by rfl) 24 (.tmp 7) (by rfl) W1.heap.size (by rfl) 24 X (0, 0) _ G7.out Tryd.underlying24 rfl SX.out ?_)
          | (refine wpList_eq_agg_w (by rfl) .eql 24 _ (.tmp 35) (.tmp 36) (by rfl) X X (by rfl) (by rfl) (by kernel_rfl) _ (HEQ.out _) ?_))
        go_ret
        exact ⟨rfl, keeps_below3 (KV.out.trans k5)⟩
      · rw [if_pos rfl] at HV
        go_enter Tryd.func10, Tryd.ntmps10
        go_wp2_with fail
        refine HAW.out.mono ?_
        rintro e w3 ⟨rfl, k3⟩
        have r6 := (k3.block _ (Array.getElem?_eq_some_iff.1 R6.out).1 id).trans R6.out
        have r7 := (k3.block _ (Array.getElem?_eq_some_iff.1 R7.out).1 id).trans R7.out
        have hh := two_rows (R1 := X) (R2 := X) (show W1.heap.size ≠ W.heap.size by have := HB1.out; omega) r7 r6
        have H7o := Lib.hid r7
        have H6 : Hid ((w3.setRow W1.heap.size X).heap[W.heap.size]? = some (.cells X 24 (0, 0))) := hh.1
        have H7 : Hid ((w3.setRow W1.heap.size X).heap[W1.heap.size]? = some (.cells X 24 (0, 0))) := setRow_heap _ _ _ _ _ _ r7
        have H6o := Lib.hid r6
        have KV := Lib.hid ((K2.out.trans k3).trans' (Keeps.setRow W1.heap.size X) (fun i hi h => by have := HB1.out; omega))
        have HCALL := Lib.hid (HV.out _ KV.out)
        clear hh r6 r7 k3 HAW
        go_wp2_with (first
          | (refine wpList_load_row_w (by rfl) 24 (.tmp 6) (by rfl) W.heap.size (by rfl) 24 X (0, 0) _ H6o.out Tryd.underlying24 rfl SX.out ?_)
          | (refine wpList_store_row rfl 24 _ _ rfl W1.heap.size X rfl rfl 24 Y H7o.out SX.out ZYX.out OX.out ?_)
          | (refine wpList_load_row_w (by rfl) 24 (.tmp 6) (by rfl) W.heap.size (by rfl) 24 X (0, 0) _ H6.out Tryd.underlying24 rfl SX.out ?_)
          | (refine wpList_load_row_w (by rfl) 24 (.tmp 7) (by rfl) W1.heap.size (by rfl) 24 X (0, 0) _ H7.out Tryd.underlying24 rfl SX.out ?_)
          | (refine wpList_build_runs (by rfl) 55 _ (by rfl) [(0, .int .u64 (n : Int)), (1, .agg X)] (by rfl) (.agg KA.toArray) (HBA.out _) ?_)
          | (refine wpList_build_runs (by rfl) 55 _ (by rfl) [(0, .int .u64 (n : Int)), (1, .agg X)] (by rfl) (.agg KA.toArray) (HBA.out _) ?_))
        refine HCALL.out.mono ?_
        rintro e w5 ⟨rfl, k5⟩
        have h6 := (k5.block _ (Array.getElem?_eq_some_iff.1 H6.out).1 id).trans H6.out
        have h7 := (k5.block _ (Array.getElem?_eq_some_iff.1 H7.out).1 id).trans H7.out
        have G6 := Lib.hid h6
        have G7 := Lib.hid h7
        clear h6 h7 H6 H7
        go_wp2_with (first
          | (refine wpList_load_row_w (by rfl) 24 (.tmp 6) (by rfl) W.heap.size (by rfl) 24 X (0, 0) _ G6.out Tryd.underlying24 rfl SX.out ?_)
          | (refine wpList_load_row_w (by rfl) 24 (.tmp 7) (by rfl) W1.heap.size (by rfl) 24 X (0, 0) _ G7.out Tryd.underlying24 rfl SX.out ?_)
          | (refine wpList_eq_agg_w (by rfl) .eql 24 _ (.tmp 35) (.tmp 36) (by rfl) X X (by rfl) (by rfl) (by kernel_rfl) _ (HEQ.out _) ?_))
        go_ret
        exact ⟨rfl, keeps_below3 (KV.out.trans k5)⟩
    · rw [if_neg (by omega)] at HV
      have hl1 : ((l : Int) == 0) = false := by rw [beq_eq_false_iff_ne]; omega
      cases q
      all_goals
        go_enter Tryd.func10, Tryd.ntmps10
        go_wp2_with fail
        refine HAW.out.mono ?_
        rintro e w3 ⟨rfl, k3⟩
        have r6 := (k3.block _ (Array.getElem?_eq_some_iff.1 R6.out).1 id).trans R6.out
        have r7 := (k3.block _ (Array.getElem?_eq_some_iff.1 R7.out).1 id).trans R7.out
        have hh := two_rows (R1 := X) (R2 := X) (show W1.heap.size ≠ W.heap.size by have := HB1.out; omega) r7 r6
        have H7o := Lib.hid r7
        have H6 : Hid ((w3.setRow W1.heap.size X).heap[W.heap.size]? = some (.cells X 24 (0, 0))) := hh.1
        have H7 : Hid ((w3.setRow W1.heap.size X).heap[W1.heap.size]? = some (.cells X 24 (0, 0))) := setRow_heap _ _ _ _ _ _ r7
        have H6o := Lib.hid r6
        have KV := Lib.hid ((K2.out.trans k3).trans' (Keeps.setRow W1.heap.size X) (fun i hi h => by have := HB1.out; omega))
        have HCALL := Lib.hid (HV.out _ KV.out)
        clear hh r6 r7 k3 HAW
        go_wp2_with (first
          | (refine wpList_load_row_w (by rfl) 24 (.tmp 6) (by rfl) W.heap.size (by rfl) 24 X (0, 0) _ H6o.out Tryd.underlying24 rfl SX.out ?_)
          | (refine wpList_store_row rfl 24 _ _ rfl W1.heap.size X rfl rfl 24 Y H7o.out SX.out ZYX.out OX.out ?_)
          | (refine wpList_load_row_w (by rfl) 24 (.tmp 6) (by rfl) W.heap.size (by rfl) 24 X (0, 0) _ H6.out Tryd.underlying24 rfl SX.out ?_)
          | (refine wpList_load_row_w (by rfl) 24 (.tmp 7) (by rfl) W1.heap.size (by rfl) 24 X (0, 0) _ H7.out Tryd.underlying24 rfl SX.out ?_)
          | (refine wpList_build_runs (by rfl) 55 _ (by rfl) [(0, .int .u64 (n : Int)), (1, .agg X)] (by rfl) (.agg KA.toArray) (HBA.out _) ?_)
          | (refine wpList_build_runs (by rfl) 55 _ (by rfl) [(0, .int .u64 (n : Int)), (1, .agg X)] (by rfl) (.agg KA.toArray) (HBA.out _) ?_))
        refine HCALL.out.mono ?_
        rintro e w5 ⟨rfl, k5⟩
        have h6 := (k5.block _ (Array.getElem?_eq_some_iff.1 H6.out).1 id).trans H6.out
        have h7 := (k5.block _ (Array.getElem?_eq_some_iff.1 H7.out).1 id).trans H7.out
        have G6 := Lib.hid h6
        have G7 := Lib.hid h7
        clear h6 h7 H6 H7
        go_wp2_with (first
          | (refine wpList_load_row_w (by rfl) 24 (.tmp 6) (by rfl) W.heap.size (by rfl) 24 X (0, 0) _ G6.out Tryd.underlying24 rfl SX.out ?_)
          | (refine wpList_load_row_w (by rfl) 24 (.tmp 7) (by rfl) W1.heap.size (by rfl) 24 X (0, 0) _ G7.out Tryd.underlying24 rfl SX.out ?_)
          | (refine wpList_eq_agg_w (by rfl) .eql 24 _ (.tmp 35) (.tmp 36) (by rfl) X X (by rfl) (by rfl) (by kernel_rfl) _ (HEQ.out _) ?_))
        go_ret
        exact ⟨rfl, keeps_below3 (KV.out.trans k5)⟩
theorem csame_walk (n : Int) (za zb : List UInt8) (A : Option Addr) (len c : Nat) (hs : List (List UInt8)) (s : Bool) (W : World) (hT : Tabs W) (h0 : (Lit.int .u64 n).wf = true) (ha : za.length = 32) (hb : zb.length = 32) (h3 : IsHashes W A len c hs) :
    Calls Tryd.prog 10 #[.int .u64 n, .agg (bvs za).toArray, .agg (bvs zb).toArray, .slice A len c, .bool s] W fun e W' => e = .returned (.bool true) ∧ Below W.heap.size W W' := by
  have bn := bounds_u64 h0
  have hP := PathAt.of_hashes h3
  obtain ⟨hl, hc, hm, _, _⟩ := h3
  obtain ⟨n, rfl⟩ := Int.eq_ofNat_of_zero_le bn.1
  subst hl
  by_cases hlen : 20 < hs.length
  · exact csame_long _ za zb A _ c s W hT hlen (by omega)
  · cases s
    · exact csame_off n za zb A hs c W hT (by omega) ha hb hP (by omega) hc hm
    · exact csame_on n za zb A hs c W hT (by omega) ha hb hP (by omega) hc hm
end Go.Proofs.YtfokemminjikpaaDoor
