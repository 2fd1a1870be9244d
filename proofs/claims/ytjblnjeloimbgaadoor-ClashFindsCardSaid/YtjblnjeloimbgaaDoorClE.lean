/-
  The rows of a proof, and the two roots that it makes (clash.chainRows). WRITTEN BY wip/gen/mkcle.py.
-/
import Derived.Test.YtjblnjeloimbgaaDoorClP
import Derived.Test.YtjblnjeloimbgaaDoorClS
import Derived.Test.YtjblnjeloimbgaaDoorChE
namespace Go.Proofs.YtjblnjeloimbgaaDoor
open Go.RowKit Go.BigFrame
set_option linter.unusedVariables false

/-- The rows, as they are told, lie in blocks of these types alone. -/
def RowsF (w : World) (A : Option Addr) (c : Nat) (rs : List RowOf) : Prop := ∀ (S : Nat → Prop) (V : World), Keeps S w V → (∀ k cs t fr, w.heap[k]? = some (.cells cs t fr) → t = 23 ∨ t = 5 → ¬ S k) → RowsOk V A c rs
theorem RowsF.ok {w : World} {A : Option Addr} {c : Nat} {rs : List RowOf} (h : RowsF w A c rs) : RowsOk w A c rs := h _ w (Keeps.refl (fun _ => False) _) (fun _ _ _ _ _ _ => id)
set_option maxRecDepth 100000 in
set_option maxHeartbeats 1000000 in
theorem crow_low (wide : Int) (m n : Nat) (o : List UInt8) (A : Option Addr) (lp cp : Nat) (w : World) (hi : m < 1) :
    Calls Tryd.prog 20 #[.int .i64 wide, .agg (keyCells m o).toArray, .int .u64 (n : Int), .slice A lp cp] w fun e w' => e = .returned (.tuple #[.slice none 0 0, .agg (bvs (List.replicate 32 0)).toArray, .agg (bvs (List.replicate 32 0)).toArray, .int .i64 15]) ∧ Keeps (fun _ => False) w w' := by
  obtain ⟨Z, hZ, hz, hzs⟩ := zero_hash
  obtain ⟨KO, hKO⟩ : ∃ K, (keyCells m o).toArray = K := ⟨_, rfl⟩
  obtain ⟨bk, hbk⟩ : ∃ q, w.heap.size = q := ⟨_, rfl⟩
  obtain ⟨W1, hW1⟩ : ∃ V, w.alloc (.cells KO 35) = V := ⟨_, rfl⟩
  obtain ⟨W2, hW2⟩ : ∃ V, W1.alloc (.cells Z 26) = V := ⟨_, rfl⟩
  obtain ⟨W3, hW3⟩ : ∃ V, W2.alloc (.cells Z 26) = V := ⟨_, rfl⟩
  obtain ⟨g9, hg9⟩ : ∃ q, W1.heap.size = q := ⟨_, rfl⟩
  obtain ⟨g10, hg10⟩ : ∃ q, W2.heap.size = q := ⟨_, rfl⟩
  have k1 : Keeps (fun _ => False) w W1 := by rw [← hW1]; exact (Keeps.refl _ _).alloc _
  have k2 : Keeps (fun _ => False) W1 W2 := by rw [← hW2]; exact (Keeps.refl _ _).alloc _
  have k3 : Keeps (fun _ => False) W2 W3 := by rw [← hW3]; exact (Keeps.refl _ _).alloc _
  have z1 : g9 = bk + 1 := by rw [← hg9, ← hW1, World.size_alloc, hbk]
  have z2 : g10 = bk + 2 := by rw [← hg10, ← hW2, World.size_alloc, hg9, z1]
  have z3 : W3.heap.size = bk + 3 := by rw [← hW3, World.size_alloc, hg10, z2]
  have r1 : Row W3 bk 35 (keyCells m o) := ((by show W1.heap[bk]? = _; rw [← hW1, hKO, ← hbk]; exact heap_alloc_new w _ : Row W1 bk 35 (keyCells m o)).keeps k2 id).keeps k3 id
  have r9 : W3.heap[g9]? = some (.cells Z 26 (0, 0)) := (k3.block _ (by omega) id).trans (by rw [← hW2, ← hg9]; exact heap_alloc_new W1 _)
  have r10 : W3.heap[g10]? = some (.cells Z 26 (0, 0)) := by rw [← hW3, ← hg10]; exact heap_alloc_new W2 _
  have k03 : Keeps (fun _ => False) w W3 := (k1.trans k2).trans k3
  have c1 := (key_row r1).1
  obtain ⟨sz, zz, oz⟩ := arr_hash (List.replicate 32 0) (by simp)
  have hbld : ∀ W : World, (Instr.build 26 #[]).run Tryd.prog W = .ok (.agg Z) W := fun _ => by subst hZ; kernel_rfl
  rw [hZ] at sz zz oz ⊢
  rw [hKO]
  have h1 : (m : Int) < 1 := by omega
  clear hi
  have K3 := Lib.hid k03
  have R9 := Lib.hid r9
  have R10 := Lib.hid r10
  have S1 := Lib.hid sz
  have O1 := Lib.hid oz
  have HZ12 := Lib.hid (And.intro z1 (And.intro z2 hbk))
  clear sz zz oz hZ hzs k1 k2 k3 k03 r1 r9 r10 hKO z1 z2 z3
  go_enter Tryd.func20, Tryd.ntmps20
  go_wp2_with (first
    | (refine wpList_store_row rfl 26 _ _ rfl g9 Z rfl rfl 26 Z R9.out S1.out rfl O1.out ?_)
    | (refine wpList_store_row rfl 26 _ _ rfl g10 Z rfl rfl 26 Z ((setRow_other _ _ _ _ (by have := HZ12.out; omega)).trans R10.out) S1.out rfl O1.out ?_))
  have q9 := setRow_heap _ g9 _ Z _ _ R9.out
  have q10 := (setRow_other _ g9 g10 Z (by have := HZ12.out; omega)).trans R10.out
  refine bodyPost_ret (results_tcct rfl _ _ g9 26 Z (0, 0) _ g10 26 Z (0, 0) _ (.slice none 0 0) (.int .i64 15) rfl rfl ((setRow_other _ g10 g9 Z (by have := HZ12.out; omega)).trans q9) Tryd.underlying26 rfl S1.out rfl (setRow_heap _ _ _ _ _ _ q10) Tryd.underlying26 rfl S1.out rfl) rfl ?_
  exact ⟨rfl, (K3.out.trans' (Keeps.setRow g9 Z) (fun i hi h => by have := HZ12.out; omega)).trans' (Keeps.setRow g10 Z) (fun i hi h => by have := HZ12.out; omega)⟩
set_option maxRecDepth 100000 in
set_option maxHeartbeats 1000000 in
theorem crow_high (wide : Int) (m n : Nat) (o : List UInt8) (A : Option Addr) (lp cp : Nat) (w : World) (hi : 1 ≤ m) (hi2 : n < m) (hm : m ≤ 18446744073709551615) :
    Calls Tryd.prog 20 #[.int .i64 wide, .agg (keyCells m o).toArray, .int .u64 (n : Int), .slice A lp cp] w fun e w' => e = .returned (.tuple #[.slice none 0 0, .agg (bvs (List.replicate 32 0)).toArray, .agg (bvs (List.replicate 32 0)).toArray, .int .i64 15]) ∧ Keeps (fun _ => False) w w' := by
  obtain ⟨Z, hZ, hz, hzs⟩ := zero_hash
  obtain ⟨KO, hKO⟩ : ∃ K, (keyCells m o).toArray = K := ⟨_, rfl⟩
  obtain ⟨bk, hbk⟩ : ∃ q, w.heap.size = q := ⟨_, rfl⟩
  obtain ⟨W1, hW1⟩ : ∃ V, w.alloc (.cells KO 35) = V := ⟨_, rfl⟩
  obtain ⟨W2, hW2⟩ : ∃ V, W1.alloc (.cells Z 26) = V := ⟨_, rfl⟩
  obtain ⟨W3, hW3⟩ : ∃ V, W2.alloc (.cells Z 26) = V := ⟨_, rfl⟩
  obtain ⟨g9, hg9⟩ : ∃ q, W1.heap.size = q := ⟨_, rfl⟩
  obtain ⟨g10, hg10⟩ : ∃ q, W2.heap.size = q := ⟨_, rfl⟩
  have k1 : Keeps (fun _ => False) w W1 := by rw [← hW1]; exact (Keeps.refl _ _).alloc _
  have k2 : Keeps (fun _ => False) W1 W2 := by rw [← hW2]; exact (Keeps.refl _ _).alloc _
  have k3 : Keeps (fun _ => False) W2 W3 := by rw [← hW3]; exact (Keeps.refl _ _).alloc _
  have z1 : g9 = bk + 1 := by rw [← hg9, ← hW1, World.size_alloc, hbk]
  have z2 : g10 = bk + 2 := by rw [← hg10, ← hW2, World.size_alloc, hg9, z1]
  have z3 : W3.heap.size = bk + 3 := by rw [← hW3, World.size_alloc, hg10, z2]
  have r1 : Row W3 bk 35 (keyCells m o) := ((by show W1.heap[bk]? = _; rw [← hW1, hKO, ← hbk]; exact heap_alloc_new w _ : Row W1 bk 35 (keyCells m o)).keeps k2 id).keeps k3 id
  have r9 : W3.heap[g9]? = some (.cells Z 26 (0, 0)) := (k3.block _ (by omega) id).trans (by rw [← hW2, ← hg9]; exact heap_alloc_new W1 _)
  have r10 : W3.heap[g10]? = some (.cells Z 26 (0, 0)) := by rw [← hW3, ← hg10]; exact heap_alloc_new W2 _
  have k03 : Keeps (fun _ => False) w W3 := (k1.trans k2).trans k3
  have c1 := (key_row r1).1
  obtain ⟨sz, zz, oz⟩ := arr_hash (List.replicate 32 0) (by simp)
  have hbld : ∀ W : World, (Instr.build 26 #[]).run Tryd.prog W = .ok (.agg Z) W := fun _ => by subst hZ; kernel_rfl
  rw [hZ] at sz zz oz ⊢
  rw [hKO]
  have h1 : ¬ (m : Int) < 1 := by omega
  have h2 : (n : Int) < m := by omega
  clear hi hi2 hm
  have K3 := Lib.hid k03
  have R9 := Lib.hid r9
  have R10 := Lib.hid r10
  have S1 := Lib.hid sz
  have O1 := Lib.hid oz
  have HZ12 := Lib.hid (And.intro z1 (And.intro z2 hbk))
  clear sz zz oz hZ hzs k1 k2 k3 k03 r1 r9 r10 hKO z1 z2 z3
  go_enter Tryd.func20, Tryd.ntmps20
  go_wp2_with (first
    | (refine wpList_store_row rfl 26 _ _ rfl g9 Z rfl rfl 26 Z R9.out S1.out rfl O1.out ?_)
    | (refine wpList_store_row rfl 26 _ _ rfl g10 Z rfl rfl 26 Z ((setRow_other _ _ _ _ (by have := HZ12.out; omega)).trans R10.out) S1.out rfl O1.out ?_))
  have q9 := setRow_heap _ g9 _ Z _ _ R9.out
  have q10 := (setRow_other _ g9 g10 Z (by have := HZ12.out; omega)).trans R10.out
  refine bodyPost_ret (results_tcct rfl _ _ g9 26 Z (0, 0) _ g10 26 Z (0, 0) _ (.slice none 0 0) (.int .i64 15) rfl rfl ((setRow_other _ g10 g9 Z (by have := HZ12.out; omega)).trans q9) Tryd.underlying26 rfl S1.out rfl (setRow_heap _ _ _ _ _ _ q10) Tryd.underlying26 rfl S1.out rfl) rfl ?_
  exact ⟨rfl, (K3.out.trans' (Keeps.setRow g9 Z) (fun i hi h => by have := HZ12.out; omega)).trans' (Keeps.setRow g10 Z) (fun i hi h => by have := HZ12.out; omega)⟩
set_option maxRecDepth 100000 in
set_option maxHeartbeats 1000000 in
theorem crow_len (wide : Int) (m n : Nat) (o : List UInt8) (A : Option Addr) (lp cp : Nat) (w : World) (hi : 1 ≤ m) (hi2 : m ≤ n) (hn : n ≤ 18446744073709551615) (hl : lp ≠ Tr.lng m n true) :
    Calls Tryd.prog 20 #[.int .i64 wide, .agg (keyCells m o).toArray, .int .u64 (n : Int), .slice A lp cp] w fun e w' => e = .returned (.tuple #[.slice none 0 0, .agg (bvs (List.replicate 32 0)).toArray, .agg (bvs (List.replicate 32 0)).toArray, .int .i64 20]) ∧ Keeps (fun _ => False) w w' := by
  obtain ⟨Z, hZ, hz, hzs⟩ := zero_hash
  obtain ⟨KO, hKO⟩ : ∃ K, (keyCells m o).toArray = K := ⟨_, rfl⟩
  obtain ⟨bk, hbk⟩ : ∃ q, w.heap.size = q := ⟨_, rfl⟩
  obtain ⟨W1, hW1⟩ : ∃ V, w.alloc (.cells KO 35) = V := ⟨_, rfl⟩
  obtain ⟨W2, hW2⟩ : ∃ V, W1.alloc (.cells Z 26) = V := ⟨_, rfl⟩
  obtain ⟨W3, hW3⟩ : ∃ V, W2.alloc (.cells Z 26) = V := ⟨_, rfl⟩
  obtain ⟨g9, hg9⟩ : ∃ q, W1.heap.size = q := ⟨_, rfl⟩
  obtain ⟨g10, hg10⟩ : ∃ q, W2.heap.size = q := ⟨_, rfl⟩
  have k1 : Keeps (fun _ => False) w W1 := by rw [← hW1]; exact (Keeps.refl _ _).alloc _
  have k2 : Keeps (fun _ => False) W1 W2 := by rw [← hW2]; exact (Keeps.refl _ _).alloc _
  have k3 : Keeps (fun _ => False) W2 W3 := by rw [← hW3]; exact (Keeps.refl _ _).alloc _
  have z1 : g9 = bk + 1 := by rw [← hg9, ← hW1, World.size_alloc, hbk]
  have z2 : g10 = bk + 2 := by rw [← hg10, ← hW2, World.size_alloc, hg9, z1]
  have z3 : W3.heap.size = bk + 3 := by rw [← hW3, World.size_alloc, hg10, z2]
  have r1 : Row W3 bk 35 (keyCells m o) := ((by show W1.heap[bk]? = _; rw [← hW1, hKO, ← hbk]; exact heap_alloc_new w _ : Row W1 bk 35 (keyCells m o)).keeps k2 id).keeps k3 id
  have r9 : W3.heap[g9]? = some (.cells Z 26 (0, 0)) := (k3.block _ (by omega) id).trans (by rw [← hW2, ← hg9]; exact heap_alloc_new W1 _)
  have r10 : W3.heap[g10]? = some (.cells Z 26 (0, 0)) := by rw [← hW3, ← hg10]; exact heap_alloc_new W2 _
  have k03 : Keeps (fun _ => False) w W3 := (k1.trans k2).trans k3
  have c1 := (key_row r1).1
  obtain ⟨sz, zz, oz⟩ := arr_hash (List.replicate 32 0) (by simp)
  have hbld : ∀ W : World, (Instr.build 26 #[]).run Tryd.prog W = .ok (.agg Z) W := fun _ => by subst hZ; kernel_rfl
  rw [hZ] at sz zz oz ⊢
  rw [hKO]
  have h1 : ¬ (m : Int) < 1 := by omega
  have h2 : ¬ (n : Int) < m := by omega
  have hlong := long_in m n W3 hi hi2 hn
  obtain ⟨lq, hlq⟩ : ∃ q, Tr.lng m n true = q := ⟨_, rfl⟩
  rw [hlq] at hlong hl
  have hne : ((lp : Int) != (lq : Int)) = true := by rw [bne_iff_ne]; omega
  have HLONG := Lib.hid hlong
  clear hi hi2 hn hl hlq hlong
  have K3 := Lib.hid k03
  have R9 := Lib.hid r9
  have R10 := Lib.hid r10
  have S1 := Lib.hid sz
  have O1 := Lib.hid oz
  have HZ12 := Lib.hid (And.intro z1 (And.intro z2 hbk))
  clear sz zz oz hZ hzs k1 k2 k3 k03 r1 r9 r10 hKO z1 z2 z3
  go_enter Tryd.func20, Tryd.ntmps20
  go_wp2_with fail
  refine HLONG.out.mono ?_
  rintro e wl ⟨rfl, hwl⟩
  obtain rfl : W3 = wl := hwl.symm
  go_wp2_with (first
    | (refine wpList_store_row rfl 26 _ _ rfl g9 Z rfl rfl 26 Z R9.out S1.out rfl O1.out ?_)
    | (refine wpList_store_row rfl 26 _ _ rfl g10 Z rfl rfl 26 Z ((setRow_other _ _ _ _ (by have := HZ12.out; omega)).trans R10.out) S1.out rfl O1.out ?_))
  have q9 := setRow_heap _ g9 _ Z _ _ R9.out
  have q10 := (setRow_other _ g9 g10 Z (by have := HZ12.out; omega)).trans R10.out
  refine bodyPost_ret (results_tcct rfl _ _ g9 26 Z (0, 0) _ g10 26 Z (0, 0) _ (.slice none 0 0) (.int .i64 20) rfl rfl ((setRow_other _ g10 g9 Z (by have := HZ12.out; omega)).trans q9) Tryd.underlying26 rfl S1.out rfl (setRow_heap _ _ _ _ _ _ q10) Tryd.underlying26 rfl S1.out rfl) rfl ?_
  exact ⟨rfl, (K3.out.trans' (Keeps.setRow g9 Z) (fun i hi h => by have := HZ12.out; omega)).trans' (Keeps.setRow g10 Z) (fun i hi h => by have := HZ12.out; omega)⟩
set_option maxRecDepth 100000 in
set_option maxHeartbeats 8000000 in
theorem crow_whole (wide : Int) (m n : Nat) (o : List UInt8) (A : Option Addr) (c : Nat) (ps : List (List UInt8)) (w : World) (hT : Tabs w) (ho : o.length = 32) (hP : PathAt w A ps) (hm1 : 1 ≤ m) (hmn : m ≤ n) (hn : n ≤ 18446744073709551615) (hl : ps.length = Tr.lng m n true) (hc : ps.length ≤ c) (hmax : c ≤ 9223372036854775807) (hq : (Tr.stp m n true).2 = true) :
    Calls Tryd.prog 20 #[.int .i64 wide, .agg (keyCells m o).toArray, .int .u64 (n : Int), .slice A ps.length c] w fun e w' => ∃ A' c' rs, e = .returned (.tuple #[.slice A' rs.length c', .agg (bvs (Cl.oldOf (Cl.wid wide) (Tr.begun o ps (Tr.stp m n true).2) ((Tr.rest ps (Tr.stp m n true).2).zip (Tr.stp m n true).1.reverse))).toArray, .agg (bvs (Cl.rootOf (Cl.wid wide) (Tr.begun o ps (Tr.stp m n true).2) ((Tr.rest ps (Tr.stp m n true).2).zip (Tr.stp m n true).1.reverse))).toArray, .int .i64 0]) ∧
      RowsF w' A' c' rs ∧ ents rs = Cl.rowsOf (Cl.wid wide) (Tr.begun o ps (Tr.stp m n true).2) ((Tr.rest ps (Tr.stp m n true).2).zip (Tr.stp m n true).1.reverse) ∧ Keeps (fun _ => False) w w' := by
  obtain ⟨Z, hZ, hz, hzs⟩ := zero_hash
  obtain ⟨KO, hKO⟩ : ∃ K, (keyCells m o).toArray = K := ⟨_, rfl⟩
  obtain ⟨bk, hbk⟩ : ∃ q, w.heap.size = q := ⟨_, rfl⟩
  obtain ⟨W1, hW1⟩ : ∃ V, w.alloc (.cells KO 35) = V := ⟨_, rfl⟩
  obtain ⟨W2, hW2⟩ : ∃ V, W1.alloc (.cells Z 26) = V := ⟨_, rfl⟩
  obtain ⟨W3, hW3⟩ : ∃ V, W2.alloc (.cells Z 26) = V := ⟨_, rfl⟩
  obtain ⟨g9, hg9⟩ : ∃ q, W1.heap.size = q := ⟨_, rfl⟩
  obtain ⟨g10, hg10⟩ : ∃ q, W2.heap.size = q := ⟨_, rfl⟩
  have k1 : Keeps (fun _ => False) w W1 := by rw [← hW1]; exact (Keeps.refl _ _).alloc _
  have k2 : Keeps (fun _ => False) W1 W2 := by rw [← hW2]; exact (Keeps.refl _ _).alloc _
  have k3 : Keeps (fun _ => False) W2 W3 := by rw [← hW3]; exact (Keeps.refl _ _).alloc _
  have z1 : g9 = bk + 1 := by rw [← hg9, ← hW1, World.size_alloc, hbk]
  have z2 : g10 = bk + 2 := by rw [← hg10, ← hW2, World.size_alloc, hg9, z1]
  have z3 : W3.heap.size = bk + 3 := by rw [← hW3, World.size_alloc, hg10, z2]
  have r1 : Row W3 bk 35 (keyCells m o) := ((by show W1.heap[bk]? = _; rw [← hW1, hKO, ← hbk]; exact heap_alloc_new w _ : Row W1 bk 35 (keyCells m o)).keeps k2 id).keeps k3 id
  have r9 : W3.heap[g9]? = some (.cells Z 26 (0, 0)) := (k3.block _ (by omega) id).trans (by rw [← hW2, ← hg9]; exact heap_alloc_new W1 _)
  have r10 : W3.heap[g10]? = some (.cells Z 26 (0, 0)) := by rw [← hW3, ← hg10]; exact heap_alloc_new W2 _
  have k03 : Keeps (fun _ => False) w W3 := (k1.trans k2).trans k3
  have c1 := (key_row r1).1
  have hbeg : Tr.begun o ps (Tr.stp m n true).2 = o := by rw [hq]; rfl
  have hrest : Tr.rest ps (Tr.stp m n true).2 = ps := by rw [hq]; rfl
  rw [hbeg, hrest]
  obtain ⟨hsl1, hsl2⟩ := Tr.stp_length 64 m n true (Tr.deep_le (by omega)) hm1 hmn (by omega)
  rw [hq] at hsl2
  have hdl := Cl.down_last _ m n true (Nat.le_refl _) hm1 hmn hn
  have hst0 := fun V (hV : Keeps (fun _ => False) w V) => steps_last n (m - 1) V (by have := hT.lt; have := hV.size; omega) (by omega) hn
  rw [hdl] at hst0
  obtain ⟨mm, hmm⟩ : ∃ mm, (Tr.stp m n true).1.length = mm := ⟨_, rfl⟩
  obtain ⟨L, hL⟩ : ∃ L, (Tr.stp m n true).1.reverse = L := ⟨_, rfl⟩
  have hLl : L.length = mm := by rw [← hL, List.length_reverse]; exact hmm
  rw [hmm] at hst0 hsl1 hsl2
  rw [hL] at hst0 ⊢
  rw [show ((m - 1 : Nat) : Int) = (m : Int) - 1 by omega] at hst0
  have hlp : ps.length = mm := by rw [hl, hsl2]; rfl
  obtain ⟨h, hh⟩ : ∃ h, o = h := ⟨_, rfl⟩
  obtain ⟨rest, hre⟩ : ∃ r, ps = r := ⟨_, rfl⟩
  have hh32 : h.length = 32 := by rw [← hh]; exact ho
  have hPr : PathAt w A rest := by rw [← hre]; exact hP
  have hrl : rest.length = mm := by rw [← hre]; exact hlp
  obtain ⟨z, hzz⟩ : ∃ z, rest.zip L = z := ⟨_, rfl⟩
  have hzl : z.length = mm := by rw [← hzz, List.length_zip, hrl, hLl, Nat.min_self]
  have hz0 : z.take mm = z := List.take_of_length_le (by omega)
  obtain ⟨k, hk⟩ : ∃ k, Cl.wid wide = k := ⟨_, rfl⟩
  rw [show ps.zip L = z by rw [hre]; exact hzz, hk]
  have hlong := long_in m n W3 hm1 hmn hn
  rw [← hl] at hlong
  have hstp := hst0 W3 k03
  have hroot : W3.rangeAt bk 1 (bvs o) := (key_row r1).2
  have hso : (Tryd.prog.info? 26).map (·.size) = some (bvs o).length := by rw [bvs_length, ho]; exact size_hash'
  obtain ⟨so, zo, oo⟩ := arr_hash o ho
  obtain ⟨RB, hRB⟩ : ∃ R, bvs o = R := ⟨_, rfl⟩
  rw [hRB] at so zo oo hroot hso
  rw [hlp] at hlong hc ⊢
  rw [hKO]
  have h1 : ¬ (m : Int) < 1 := by omega
  have h2 : ¬ (n : Int) < m := by omega
  have h3 : (1 : Int) ≤ m := by omega
  have h5 : (m : Int) ≤ 18446744073709551615 := by omega
  have HROOT := Lib.hid hroot
  have HSO := Lib.hid hso
  have SO := Lib.hid so
  have ZO := Lib.hid (hzs.trans zo.symm)
  have OO := Lib.hid oo
  have HLONG := Lib.hid hlong
  have HSTP := Lib.hid hstp
  have R1 := Lib.hid r1
  have R9a := Lib.hid r9
  have R10a := Lib.hid r10
  have K03 := Lib.hid k03
  have HZ12 := Lib.hid (And.intro z1 (And.intro z2 z3))
  have HT := Lib.hid hT
  have HT0 : Hid (2 < bk) := Lib.hid (by rw [← hbk]; exact hT.lt)
  have HPR := Lib.hid hPr
  have HRL := Lib.hid hrl
  have HLL := Lib.hid hLl
  have HZZ := Lib.hid hzz
  have HZ0 := Lib.hid hz0
  have HK := Lib.hid hk
  have H32 := Lib.hid hh32
  have HZS := Lib.hid hzs
  have HBK := Lib.hid hbk
  have HRBH : Hid (RB = bvs h) := Lib.hid (by rw [← hh, hRB])
  have HHO := Lib.hid hh
  clear hroot hso so zo oo hlong hstp hst0 r1 r9 r10 k1 k2 k3 k03 z1 z2 z3 hT hPr hrl hLl hzz hzl hz0 hk hh32 hzs hbeg hrest hsl2 hdl hmm hL hlp hh hre hP hZ ho hl hRB hKO hq
  go_enter Tryd.func20, Tryd.ntmps20
  go_wp2_with fail
  refine HLONG.out.mono ?_
  rintro e wl ⟨rfl, hwl⟩
  obtain rfl : W3 = wl := hwl.symm
  go_wp2_with fail
  refine HSTP.out.mono ?_
  rintro e w2 ⟨AL, cL, rfl, hsL, hcL, hcL2, k2⟩
  obtain ⟨C, hC⟩ : ∃ q, w2.heap.size = q := ⟨_, rfl⟩
  have hCb : bk + 3 ≤ C := by have := k2.size; have := HZ12.out; omega
  have HSLB : Hid (∀ (V : World), Keeps (fun k => C ≤ k) w2 V → Src V AL (bls L)) := Lib.hid (fun V hV => hsL.keeps hV (fun a _ hlt => by omega))
  have K2 := Lib.hid (K03.out.trans k2)
  have R9 := Lib.hid ((k2.block _ (Array.getElem?_eq_some_iff.1 R9a.out).1 id).trans R9a.out)
  have R10 := Lib.hid ((k2.block _ (Array.getElem?_eq_some_iff.1 R10a.out).1 id).trans R10a.out)
  have HRO2 := Lib.hid (range_keeps HROOT.out k2 (fun _ _ => id))
  obtain ⟨g13, hg13⟩ : ∃ q, w2.heap.size = q := ⟨_, rfl⟩
  obtain ⟨W4, hW4⟩ : ∃ V, w2.alloc (.cells Z 26) = V := ⟨_, rfl⟩
  obtain ⟨W5, hW5⟩ : ∃ V, W4.setRow g13 RB.toArray = V := ⟨_, rfl⟩
  have e13 : g13 = C := by omega
  subst e13
  have k4 : Keeps (fun _ => False) w2 W4 := by rw [← hW4]; exact (Keeps.refl _ _).alloc _
  have r4 : W4.heap[g13]? = some (.cells Z 26 (0, 0)) := by rw [← hW4, ← hg13]; exact heap_alloc_new w2 _
  have z4 : W4.heap.size = g13 + 1 := by rw [← hW4, World.size_alloc, hg13]
  have k5 : Keeps (fun q => q = g13) W4 W5 := by rw [← hW5]; exact Keeps.setRow _ _
  have r5 : W5.heap[g13]? = some (.cells RB.toArray 26 (0, 0)) := by rw [← hW5]; exact setRow_heap _ _ _ _ _ _ r4
  have z5 : W5.heap.size = g13 + 1 := by rw [← hW5]; simp [World.setRow, z4]
  have k25 : Keeps (fun _ => False) w2 W5 := k4.trans' k5 (fun i hi e => by omega)
  have R4 := Lib.hid r4
  have R5 := Lib.hid r5
  have K25 := Lib.hid k25
  have Z5 := Lib.hid z5
  have HC3 := Lib.hid hCb
  clear hsL k2 k4 r4 z4 k5 r5 z5 k25 HSTP HLONG R9a R10a K03 hC hCb
  have W6h : ∃ V, W5 = V := ⟨_, rfl⟩
  obtain ⟨W6, hW6⟩ := W6h
  have k56 : Keeps (fun q => q = g13) W5 W6 := by rw [← hW6]; exact Keeps.refl _ _
  have r6 : W6.heap[g13]? = some (.cells RB.toArray 26 (0, 0)) := by rw [← hW6]; exact R5.out
  have hpl : ¬ (mm : Int) > mm := by omega
  have z6 : g13 + 1 ≤ W6.heap.size := by have := k56.size; have := Z5.out; omega
  obtain ⟨g14, hg14⟩ : ∃ q, W6.heap.size = q := ⟨_, rfl⟩
  obtain ⟨W7, hW7⟩ : ∃ V, W6.alloc (.cells Z 26) = V := ⟨_, rfl⟩
  obtain ⟨W8, hW8⟩ : ∃ V, W7.setRow g14 RB.toArray = V := ⟨_, rfl⟩
  have k7 : Keeps (fun _ => False) W6 W7 := by rw [← hW7]; exact (Keeps.refl _ _).alloc _
  have r7 : W7.heap[g14]? = some (.cells Z 26 (0, 0)) := by rw [← hW7, ← hg14]; exact heap_alloc_new W6 _
  have z7 : W7.heap.size = g14 + 1 := by rw [← hW7, World.size_alloc, hg14]
  have k8 : Keeps (fun q => q = g14) W7 W8 := by rw [← hW8]; exact Keeps.setRow _ _
  have r8 : W8.heap[g14]? = some (.cells RB.toArray 26 (0, 0)) := by rw [← hW8]; exact setRow_heap _ _ _ _ _ _ r7
  have z8 : W8.heap.size = g14 + 1 := by rw [← hW8]; simp [World.setRow, z7]
  have k68 : Keeps (fun _ => False) W6 W8 := k7.trans' k8 (fun i hi e => by omega)
  have r138 : W8.heap[g13]? = some (.cells RB.toArray 26 (0, 0)) := (k68.block _ (Array.getElem?_eq_some_iff.1 r6).1 id).trans r6
  obtain ⟨B, hB⟩ : ∃ q, W8.heap.size = q := ⟨_, rfl⟩
  have hBB : B = g14 + 1 := by omega
  obtain ⟨W9, hW9⟩ : ∃ V, W8.alloc (.cells #[.slice none 0 0] 51) = V := ⟨_, rfl⟩
  have k9 : Keeps (fun _ => False) W8 W9 := by rw [← hW9]; exact (Keeps.refl _ _).alloc _
  have rb : Row W9 B 51 [.slice none 0 0] := by rw [← hW9, ← hB]; exact heap_alloc_new W8 _
  have HC : Hid (bk + 3 ≤ g13 ∧ g13 < g14 ∧ g14 < B) := Lib.hid ⟨HC3.out, by omega, by omega⟩
  have kk9 : Keeps (fun k => g13 ≤ k) w2 W9 := ((((K25.out.mono (fun _ _ h => h.elim)).trans (k56.mono (fun i _ e => by omega))).trans (k68.mono (fun _ _ h => h.elim))).trans (k9.mono (fun _ _ h => h.elim)))
  have K9 : Hid (Keeps (fun k => g13 ≤ k) w2 W9) := Lib.hid kk9
  have KW9 : Hid (Keeps (fun k => bk ≤ k) w W9) := Lib.hid ((K2.out.mono (fun _ _ h => h.elim)).trans (kk9.mono (fun i _ e => by have := HC3.out; omega)))
  have R7 := Lib.hid r7
  have R13 : Hid (W9.heap[g13]? = some (.cells (bvs h).toArray 26 (0, 0))) := Lib.hid (by rw [← HRBH.out]; exact (k9.block _ (Array.getElem?_eq_some_iff.1 r138).1 id).trans r138)
  have R14 : Hid (W9.heap[g14]? = some (.cells (bvs h).toArray 26 (0, 0))) := Lib.hid (by rw [← HRBH.out]; exact (k9.block _ (Array.getElem?_eq_some_iff.1 r8).1 id).trans r8)
  have RBX := Lib.hid rb
  clear z6 k7 r7 z7 k8 r8 z8 k68 r138 k9 rb kk9 k56 hBB
  subst hW6
  go_wp2_with (first
    | (refine wpList_load_mid_w (by rfl) 26 (.tmp 44) (by rfl) bk 1 (by rfl) RB _ HRO2.out Tryd.underlying26 rfl HSO.out ?_)
    | (refine wpList_load_row rfl 26 _ rfl g13 rfl 26 RB.toArray (0, 0) _ R5.out Tryd.underlying26 rfl SO.out ?_)
    | (refine wpList_store_row rfl 26 _ _ rfl g13 RB.toArray rfl rfl 26 Z R4.out SO.out ZO.out OO.out ?_; rw [hW5])
    | (refine wpList_store_row rfl 26 _ _ rfl g14 RB.toArray rfl rfl 26 Z R7.out SO.out ZO.out OO.out ?_; rw [hW8]))
  refine (gathering_any wide B W9).mono ?_
  rintro e w4 ⟨Bp, Bw, rfl, hG, hbp, hbw, k10⟩
  have P4 := Lib.hid (PSt.new (Nat.le_refl _) hG (RBX.out.keeps k10 id) : PSt w4 B B Bp Bw wide [])
  have K10 := Lib.hid (K9.out.trans (k10.mono (fun _ _ h => h.elim)))
  have KW10 := Lib.hid (KW9.out.trans (k10.mono (fun _ _ h => h.elim)))
  have R13w := Lib.hid ((k10.block _ (Array.getElem?_eq_some_iff.1 R13.out).1 id).trans R13.out)
  have R14w := Lib.hid ((k10.block _ (Array.getElem?_eq_some_iff.1 R14.out).1 id).trans R14.out)
  clear hG hbp hbw k10 K9 KW9 R13 R14 RBX R7
  go_wp2_with fail
  go_loopw [61] (fun v wr => ∃ j : Nat, j ≤ mm ∧ v = .int .i64 (j : Int) ∧ Hid (PSt wr B B Bp Bw wide (Cl.rowsOf k h (z.take j))) ∧ Hid (wr.heap[g13]? = some (.cells (bvs (Cl.oldOf k h (z.take j))).toArray 26 (0, 0))) ∧ Hid (wr.heap[g14]? = some (.cells (bvs (Cl.rootOf k h (z.take j))).toArray 26 (0, 0))) ∧ Hid (Keeps (fun k => g13 ≤ k) w2 wr) ∧ Hid (Keeps (fun k => bk ≤ k) w wr)) (fun v _ => mm - (intOf v).toNat)
  case atStart => exact ⟨0, by omega, rfl, P4, R13w, R14w, K10, KW10⟩
  case round =>
    clear P4 R13w R14w K10 KW10
    obtain ⟨j, hj, rfl, HPJ0, RJ13, RJ14, KBJ, KJ⟩ := hrel
    by_cases hlt : j < mm
    · obtain ⟨p, hp⟩ : ∃ p, rest[j]? = some p := ⟨_, List.getElem?_eq_getElem (by rw [HRL.out]; exact hlt)⟩
      obtain ⟨bj, hbj⟩ : ∃ b, L[j]? = some b := ⟨_, List.getElem?_eq_getElem (by rw [HLL.out]; exact hlt)⟩
      have hp32 : p.length = 32 := HPR.out.all p (List.mem_of_getElem? hp)
      obtain ⟨b, off, hA, hrg0⟩ := HPR.out.lie j p hp
      subst hA
      have hrg := range_keeps hrg0 KJ.out (fun k hk h => by have := HBK.out; omega)
      have hsl := HSLB.out wr KBJ.out
      obtain ⟨aL, haL, hlj⟩ := hsl.pos (by rw [bls_length, HLL.out]; omega)
      subst haL
      have hlj := hlj j (.bool bj) (by rw [bls_get, hbj]; rfl)
      cases bj with
      | true =>
        have htk := Cl.take_zip rest L j p true hp hbj
        rw [HZZ.out] at htk
        have hrows : Cl.rowsOf k h (z.take (j + 1)) = Cl.rowsOf k h (z.take j) ++ [Cl.nodeRow true (Cl.rootOf k h (z.take j)) p] := by rw [htk, Cl.rowsOf_snoc]
        have hroot : Cl.rootOf k h (z.take (j + 1)) = Cl.nar k (Cl.nodeRow true (Cl.rootOf k h (z.take j)) p) := by rw [htk, Cl.rootOf_snoc]; rfl
        have hold : Cl.oldOf k h (z.take (j + 1)) = Cl.oldOf k h (z.take j) := by rw [htk, Cl.oldOf_snoc]; rfl
        have hh := Cl.rootOf_length k h (z.take j) H32.out
        have hh1 := Cl.rootOf_length k h (z.take (j + 1)) H32.out
        have ho0 := Cl.oldOf_length k h (z.take j) H32.out
        have ho1 := Cl.oldOf_length k h (z.take (j + 1)) H32.out
        have hdl : (Cl.rowsOf k h (z.take j)).length ≤ 1000 := by rw [Cl.rowsOf_length, List.length_take]; omega
        obtain ⟨ht, hhe⟩ : ∃ h', Cl.rootOf k h (z.take j) = h' := ⟨_, rfl⟩
        obtain ⟨h', hhe'⟩ : ∃ h', Cl.rootOf k h (z.take (j + 1)) = h' := ⟨_, rfl⟩
        obtain ⟨ot, hoe⟩ : ∃ h', Cl.oldOf k h (z.take j) = h' := ⟨_, rfl⟩
        obtain ⟨o', hoe'⟩ : ∃ h', Cl.oldOf k h (z.take (j + 1)) = h' := ⟨_, rfl⟩
        obtain ⟨row, hrow⟩ : ∃ r, Cl.nodeRow true ht p = r := ⟨_, rfl⟩
        rw [hhe] at hrows hroot hh
        rw [hhe'] at hroot hh1
        rw [hoe] at hold ho0
        rw [hoe'] at hold ho1
        rw [hrow] at hrows hroot
        obtain ⟨done, hdone⟩ : ∃ d, Cl.rowsOf k h (z.take j) = d := ⟨_, rfl⟩
        rw [hdone] at hrows hdl HPJ0
        have hrl : row.length = 65 := by rw [← hrow]; exact Cl.nodeRow_length _ _ _ hh hp32
        obtain ⟨RH, hRH⟩ : ∃ R, bvs ht = R := ⟨_, rfl⟩
        obtain ⟨RP, hRP⟩ : ∃ R, bvs p = R := ⟨_, rfl⟩
        obtain ⟨RN, hRN⟩ : ∃ R, (bvs h').toArray = R := ⟨_, rfl⟩
        obtain ⟨RT, hRT⟩ : ∃ R, (bvs ot).toArray = R := ⟨_, rfl⟩
        obtain ⟨RU, hRU⟩ : ∃ R, (bvs o').toArray = R := ⟨_, rfl⟩
        obtain ⟨s1, z1, o1⟩ := arr_hash ht hh
        obtain ⟨s2, z2, o2⟩ := arr_hash p hp32
        obtain ⟨s3, z3, o3⟩ := arr_hash h' hh1
        obtain ⟨s4, z4, o4⟩ := arr_hash ot ho0
        obtain ⟨s5, z5, o5⟩ := arr_hash o' ho1
        have r14 := RJ14.out
        have r13 := RJ13.out
        rw [hhe, hRH] at r14
        rw [hoe, hRT] at r13
        rw [hRH] at s1 z1 o1
        rw [hRP] at s2 z2 o2 hrg
        rw [hRN] at s3 z3 o3
        rw [hRT] at s4 z4 o4
        rw [hRU] at s5 z5 o5
        -- the world behind the storing of what is beside
        obtain ⟨gb, hgb⟩ : ∃ g, wr.heap.size = g := ⟨_, rfl⟩
        obtain ⟨Wi, hWi⟩ : ∃ V, wr.alloc (.cells Z 26) = V := ⟨_, rfl⟩
        obtain ⟨Wj, hWj⟩ : ∃ V, Wi.setRow gb RP.toArray = V := ⟨_, rfl⟩
        have ki : Keeps (fun _ => False) wr Wi := by rw [← hWi]; exact (Keeps.refl _ _).alloc _
        have ri : Wi.heap[gb]? = some (.cells Z 26 (0, 0)) := by rw [← hWi, ← hgb]; exact heap_alloc_new wr _
        have kj' : Keeps (fun k => k = gb) Wi Wj := by rw [← hWj]; exact Keeps.setRow _ _
        have rjb : Wj.heap[gb]? = some (.cells RP.toArray 26 (0, 0)) := by rw [← hWj]; exact setRow_heap _ _ _ _ _ _ ri
        have kj : Keeps (fun _ => False) wr Wj := ki.trans' kj' (fun i hi e => by omega)
        have hgbl := HPJ0.out.var
        have hBlt : B < gb := by obtain ⟨_, _, hh, _⟩ := hgbl; have := hh.lt; omega
        have r14j : Wj.heap[g14]? = some (.cells RH.toArray 26 (0, 0)) := (kj.block _ (Array.getElem?_eq_some_iff.1 r14).1 id).trans r14
        have r13j : Wj.heap[g13]? = some (.cells RT 26 (0, 0)) := (kj.block _ (Array.getElem?_eq_some_iff.1 r13).1 id).trans r13
        have HPJ : Hid (PSt Wj B B Bp Bw wide done) := Lib.hid (HPJ0.out.later kj)
        have hTj : Tabs Wj := (HT.out.keeps KJ.out (by have := HT0.out; omega) (by have := HT0.out; omega)).keeps kj id id
        have h2 := HSLB.out w2 (Keeps.refl _ _)
        obtain ⟨a2, e2, h3⟩ := h2 j (.bool true) (by rw [bls_get, hbj]; rfl)
        injection e2 with e2
        subst e2
        have h4 := World.block_lt_of_cell? w2 _ h3
        have hCC := HC.out
        have hlt' := World.block_lt_of_cell? wr _ hlj
        have cJ : Wj.cell? (aL.add j) = some (.bool true) := (kj.cell hlt' id).trans hlj
        obtain ⟨Wk, hWk⟩ : ∃ V, V = Wj := ⟨_, rfl⟩
        have kk : Keeps (fun q => q = g13) Wj Wk := by rw [hWk]; exact Keeps.refl _ _
        have r13k : Wk.heap[g13]? = some (.cells (bvs o').toArray 26 (0, 0)) := by rw [hold, hRT, hWk]; exact r13j
        have HPK : Hid (PSt Wk B B Bp Bw wide done) := Lib.hid (by rw [hWk]; exact HPJ.out)
        have kpk : Keeps (fun q => q = g13) wr Wk := (kj.mono (fun _ _ h => h.elim)).trans kk
        have rkb : Wk.heap[gb]? = some (.cells RP.toArray 26 (0, 0)) := by rw [hWk]; exact rjb
        have rk14 : Wk.heap[g14]? = some (.cells RH.toArray 26 (0, 0)) := by rw [hWk]; exact r14j
        have hTk : Tabs Wk := by rw [hWk]; exact hTj
        have cK : Wk.cell? (aL.add j) = some (.bool true) := by rw [hWk]; exact cJ
        have ngb : ¬ GS Wk B B gb := GS.not_type rkb (by decide) (by omega)
        have HNR : Hid (∀ V, Keeps (GS Wk B B) Wk V → PSt V B B Bp Bw wide done → Calls Tryd.prog 34 #[.bool true, .agg RH.toArray, .agg RP.toArray] V fun e w' => ∃ x : Option Addr × Nat, e = .returned (.slice x.1 65 x.2) ∧ Keeps (GS Wk B B) Wk w' ∧ (PSt w' B B Bp Bw wide done ∧ RowOk w' (x.1, x.2, row))) := Lib.hid (fun V hV hP => by
          have := noderow_any true ht p V hh hp32
          rw [hRH, hRP, hrow] at this
          refine this.mono ?_
          rintro e w' ⟨A', d, rfl, q1, q2, q3, q4, q5⟩
          exact ⟨(A', d), rfl, hV.trans' q5 (fun _ _ h => h.elim), hP.later q5, ⟨q1, by rw [hrl]; exact ⟨q2, q3⟩, q4⟩⟩)
        have HCL : Hid (∀ V (x : Option Addr × Nat), Keeps (GS Wk B B) Wk V → PSt V B B Bp Bw wide done → RowOk V (x.1, x.2, row) → Calls Tryd.prog 41 #[.slice x.1 65 x.2, .pointer (some ⟨Bp, 0, none⟩), .pointer (some ⟨Bw, 0, none⟩)] V fun e w' => e = .returned (.agg RN) ∧ Keeps (GS Wk B B) Wk w' ∧ PSt w' B B Bp Bw wide (done ++ [row])) := Lib.hid (fun V x hV hP hr => by
          have := hP.step (hTk.keeps hV (GS.not_low (by have := HT0.out; have := HC.out; omega) (Nat.le_refl _)) (GS.not_low (by have := HT0.out; have := HC.out; omega) (Nat.le_refl _))) (by have := HT0.out; have := HC.out; omega) hdl x.1 x.2 row hr (by omega)
          rw [hrl, HK.out, ← hroot, hRN] at this
          refine this.mono ?_
          rintro e w' ⟨rfl, q1, q2⟩
          exact ⟨rfl, GS.trans hV q2, q1⟩)
        have HRH : Hid (∀ V, Keeps (GS Wk B B) Wk V → V.rangeAt g14 0 RH) := Lib.hid (fun V hV => rangeAt_row ((hV.block _ (Array.getElem?_eq_some_iff.1 rk14).1 (GS.not_low (by have := HC.out; omega) (Nat.le_refl _))).trans rk14))
        have HRP : Hid (∀ V, Keeps (GS Wk B B) Wk V → V.rangeAt gb 0 RP) := Lib.hid (fun V hV => rangeAt_row ((hV.block _ (Array.getElem?_eq_some_iff.1 rkb).1 ngb).trans rkb))
        have HLK : Hid (∀ V, Keeps (GS Wk B B) Wk V → V.cell? (aL.add j) = some (.bool true)) := Lib.hid (fun V hV => (hV.cell (World.block_lt_of_cell? _ _ cK) (GS.not_low (by have := HC.out; omega) (Nat.le_refl _))).trans cK)
        have hSR : (Tryd.prog.info? 26).map (·.size) = some RH.length := by rw [← hRH, bvs_length, hh]; exact size_hash'
        have hSP : (Tryd.prog.info? 26).map (·.size) = some RP.length := by rw [← hRP, bvs_length, hp32]; exact size_hash'
        have SRH := Lib.hid hSR
        have SRP := Lib.hid hSP
        have SP := Lib.hid s2
        have ZP := Lib.hid (HZS.out.trans z2.symm)
        have OP := Lib.hid o2
        have SN := Lib.hid s3
        have ZN := Lib.hid (z1.trans z3.symm)
        have ON := Lib.hid o3
        have HAFT : Hid (∀ V, Keeps (GS Wk B B) Wk V → Keeps (fun k => g13 ≤ k) w2 (V.setRow g14 RN) ∧ Keeps (fun k => bk ≤ k) w (V.setRow g14 RN) ∧ (V.setRow g14 RN).heap[g13]? = some (.cells (bvs o').toArray 26 (0, 0)) ∧ V.heap[g14]? = some (.cells RH.toArray 26 (0, 0))) := Lib.hid (fun V hV => by
          have hcc := HC.out
          have gsB : ∀ {V : World} (i : Nat), GS V B B i → B ≤ i := fun i e => by rcases e with e | e; omega; exact e.1
          refine ⟨((KBJ.out.trans (kpk.mono (fun i _ e => by omega))).trans (hV.mono (fun i _ e => by have := gsB i e; omega))).trans ((Keeps.setRow _ _).mono (fun i _ e => by omega)), ((KJ.out.trans (kpk.mono (fun i _ e => by omega))).trans (hV.mono (fun i _ e => by have := gsB i e; omega))).trans ((Keeps.setRow _ _).mono (fun i _ e => by omega)), ?_, (hV.block _ (Array.getElem?_eq_some_iff.1 rk14).1 (GS.not_low (by omega) (Nat.le_refl _))).trans rk14⟩
          rw [setRow_other _ _ _ _ (by omega)]
          exact (hV.block _ (Array.getElem?_eq_some_iff.1 r13k).1 (GS.not_low (by omega) (Nat.le_refl _))).trans r13k)
        have HDONE := Lib.hid (hrows.trans (by rfl))
        have HHE := Lib.hid hhe'
        have HOE := Lib.hid hoe'
        have HRN := Lib.hid hRN
        have hjm : (j : Int) < mm := by omega
        have RI := Lib.hid ri
        have HRG := Lib.hid hrg
        have CJ := Lib.hid cJ
        have hcj := CJ.out
        subst hWk
        clear hrg hrg0 hsl hlj htk hrows hroot hold hh hh1 ho0 ho1 hdl hhe hhe' hoe hoe' hrow hdone hrl hRH hRP hRN hRT s1 z1 o1 s2 z2 o2 s3 z3 o3 s4 z4 o4 s5 z5 o5 r14 r13 ki kj' rjb kj hgbl r14j r13j hTj h2 h3 h4 hCC hlt' cJ hp hbj hp32 ri hRU kk r13k kpk rkb rk14 hTk cK ngb hSR hSP HPJ0 RJ13 RJ14 KBJ KJ
        go_wp2_with (first
          | (refine wpList_load_mid_w (by rfl) 26 (.tmp 64) (by rfl) b (off + j * 32) (by rfl) RP _ HRG.out Tryd.underlying26 rfl SRP.out ?_)
          | (refine wpList_store_row rfl 26 _ _ rfl gb RP.toArray rfl rfl 26 Z RI.out SP.out ZP.out OP.out ?_; rw [hWj]))
        clear HRG RI
        refine wp_region_stores 9 [7, 8] [0, 1, 2, 3, 4, 5, 6, 7, 8] (fun V => Keeps (GS Wk B B) Wk V) (fun V => PSt V B B Bp Bw wide done) (by kernel_rfl) (by kernel_rfl) (fun _ _ h k => h.trans' k (fun _ _ h => h.elim)) (fun _ _ h k => h.later k) (((Keeps.refl _ _).drew)) (HPK.out.later ((Keeps.refl _ _).drew)) ?_
        refine T_value (get_op rfl) (by rfl) (by rfl) (.func (.func 41) #[] #[.pointer (some ⟨Bp, 0, none⟩), .pointer (some ⟨Bw, 0, none⟩)]) (fun _ _ => by go_simp) ?_
        simp only [Act.put, List.setIfInBounds_toArray, List.set_cons_zero, List.set_cons_succ]
        refine T_value (get_op rfl) (by rfl) (by rfl) (.slice (some aL) mm cL) (fun _ _ => by go_simp) ?_
        simp only [Act.put, List.setIfInBounds_toArray, List.set_cons_zero, List.set_cons_succ]
        refine T_value (get_op rfl) (by rfl) (by rfl) (.int .i64 (j : Int)) (fun _ _ => by go_simp) ?_
        simp only [Act.put, List.setIfInBounds_toArray, List.set_cons_zero, List.set_cons_succ]
        refine T_value (get_op rfl) (by rfl) (by rfl) (.pointer (some (aL.add j))) (fun _ _ => by go_simp) ?_
        simp only [Act.put, List.setIfInBounds_toArray, List.set_cons_zero, List.set_cons_succ]
        refine T_cell (get_op rfl) (by rfl) (by rfl) 4 (.tmp 79) (by rfl) (aL.add j) (by rfl) (.bool true) _ (fun V hV => HLK.out V hV) Tryd.underlying4 rfl ?_
        simp only [Act.put, List.setIfInBounds_toArray, List.set_cons_zero, List.set_cons_succ]
        refine T_load (get_op rfl) (by rfl) (by rfl) 26 (.tmp 14) (by rfl) g14 0 (by rfl) RH _ (fun V hV => HRH.out V hV) Tryd.underlying26 rfl SRH.out ?_
        simp only [Act.put, List.setIfInBounds_toArray, List.set_cons_zero, List.set_cons_succ]
        refine T_load (get_op rfl) (by rfl) (by rfl) 26 (.tmp 18) (by rfl) gb 0 (by rfl) RP _ (fun V hV => HRP.out V hV) Tryd.underlying26 rfl SRP.out ?_
        simp only [Act.put, List.setIfInBounds_toArray, List.set_cons_zero, List.set_cons_succ]
        refine T_enterR (get_op rfl) (by rfl) (by rfl) _ _ (fun x : Option Addr × Nat => .slice x.1 65 x.2) (fun x y h => by cases x; cases y; simp at h; simp [h]) (fun _ => by go_simp) (fun x V => PSt V B B Bp Bw wide done ∧ RowOk V (x.1, x.2, row)) (fun x w w' h hk => ⟨h.1.later hk, h.2.later hk⟩) (fun V hb hf => HNR.out V hb hf) ?_
        intro x7
        simp only [Act.put, List.setIfInBounds_toArray, List.set_cons_zero, List.set_cons_succ]
        refine T_enter (get_op rfl) (by rfl) (by rfl) _ _ (.agg RN) (fun _ => by go_simp) (fun V => PSt V B B Bp Bw wide (done ++ [row])) (fun _ _ h k => h.later k) (fun V hb hf => HCL.out V x7 hb hf.1 hf.2) ?_
        simp only [Act.put, List.setIfInBounds_toArray, List.set_cons_zero, List.set_cons_succ]
        refine T_nil ?_
        intro V9 h9 f9
        simp only [List.drop_succ_cons, List.drop_zero]
        obtain ⟨a1, a2, a3, a4⟩ := HAFT.out V9 h9
        have R9 := Lib.hid a4
        have A1 := Lib.hid a1
        have A2 := Lib.hid a2
        have A3 := Lib.hid a3
        have P10 : Hid (PSt (V9.setRow g14 RN) B B Bp Bw wide (done ++ [row])) := Lib.hid (f9.keeps (Keeps.setRow g14 RN) (fun k cs t fr hc ht e => by
          subst e
          rw [R9.out] at hc
          injection hc with hc
          injection hc with _ hc
          subst hc
          rcases ht with h | h | h | h | h <;> exact absurd h (by decide)))
        clear a1 a2 a3 a4 h9 f9 HAFT HNR HCL HRH HRP HLK
        go_wp2_with (refine wpList_store_row rfl 26 _ _ rfl g14 RN rfl rfl 26 RH.toArray R9.out SN.out ZN.out ON.out ?_)
        go_roundw
        case rel =>
          refine ⟨j + 1, by omega, by go_num, by rw [HDONE.out]; exact P10, by rw [HOE.out]; exact A3, Lib.hid ?_, A1, A2⟩
          rw [HHE.out, HRN.out]
          exact setRow_heap _ _ _ _ _ _ R9.out
        case measure => simp [intOf]; omega
      | false =>
        have htk := Cl.take_zip rest L j p false hp hbj
        rw [HZZ.out] at htk
        have hrows : Cl.rowsOf k h (z.take (j + 1)) = Cl.rowsOf k h (z.take j) ++ [Cl.nodeRow false (Cl.rootOf k h (z.take j)) p] := by rw [htk, Cl.rowsOf_snoc]
        have hroot : Cl.rootOf k h (z.take (j + 1)) = Cl.nar k (Cl.nodeRow false (Cl.rootOf k h (z.take j)) p) := by rw [htk, Cl.rootOf_snoc]; rfl
        have hold : Cl.oldOf k h (z.take (j + 1)) = Cl.nar k (Cl.nodeRow false (Cl.oldOf k h (z.take j)) p) := by rw [htk, Cl.oldOf_snoc]; rfl
        have hh := Cl.rootOf_length k h (z.take j) H32.out
        have hh1 := Cl.rootOf_length k h (z.take (j + 1)) H32.out
        have ho0 := Cl.oldOf_length k h (z.take j) H32.out
        have ho1 := Cl.oldOf_length k h (z.take (j + 1)) H32.out
        have hdl : (Cl.rowsOf k h (z.take j)).length ≤ 1000 := by rw [Cl.rowsOf_length, List.length_take]; omega
        obtain ⟨ht, hhe⟩ : ∃ h', Cl.rootOf k h (z.take j) = h' := ⟨_, rfl⟩
        obtain ⟨h', hhe'⟩ : ∃ h', Cl.rootOf k h (z.take (j + 1)) = h' := ⟨_, rfl⟩
        obtain ⟨ot, hoe⟩ : ∃ h', Cl.oldOf k h (z.take j) = h' := ⟨_, rfl⟩
        obtain ⟨o', hoe'⟩ : ∃ h', Cl.oldOf k h (z.take (j + 1)) = h' := ⟨_, rfl⟩
        obtain ⟨row, hrow⟩ : ∃ r, Cl.nodeRow false ht p = r := ⟨_, rfl⟩
        rw [hhe] at hrows hroot hh
        rw [hhe'] at hroot hh1
        rw [hoe] at hold ho0
        rw [hoe'] at hold ho1
        rw [hrow] at hrows hroot
        obtain ⟨done, hdone⟩ : ∃ d, Cl.rowsOf k h (z.take j) = d := ⟨_, rfl⟩
        rw [hdone] at hrows hdl HPJ0
        have hrl : row.length = 65 := by rw [← hrow]; exact Cl.nodeRow_length _ _ _ hh hp32
        obtain ⟨RH, hRH⟩ : ∃ R, bvs ht = R := ⟨_, rfl⟩
        obtain ⟨RP, hRP⟩ : ∃ R, bvs p = R := ⟨_, rfl⟩
        obtain ⟨RN, hRN⟩ : ∃ R, (bvs h').toArray = R := ⟨_, rfl⟩
        obtain ⟨RT, hRT⟩ : ∃ R, (bvs ot).toArray = R := ⟨_, rfl⟩
        obtain ⟨RU, hRU⟩ : ∃ R, (bvs o').toArray = R := ⟨_, rfl⟩
        obtain ⟨s1, z1, o1⟩ := arr_hash ht hh
        obtain ⟨s2, z2, o2⟩ := arr_hash p hp32
        obtain ⟨s3, z3, o3⟩ := arr_hash h' hh1
        obtain ⟨s4, z4, o4⟩ := arr_hash ot ho0
        obtain ⟨s5, z5, o5⟩ := arr_hash o' ho1
        have r14 := RJ14.out
        have r13 := RJ13.out
        rw [hhe, hRH] at r14
        rw [hoe, hRT] at r13
        rw [hRH] at s1 z1 o1
        rw [hRP] at s2 z2 o2 hrg
        rw [hRN] at s3 z3 o3
        rw [hRT] at s4 z4 o4
        rw [hRU] at s5 z5 o5
        -- the world behind the storing of what is beside
        obtain ⟨gb, hgb⟩ : ∃ g, wr.heap.size = g := ⟨_, rfl⟩
        obtain ⟨Wi, hWi⟩ : ∃ V, wr.alloc (.cells Z 26) = V := ⟨_, rfl⟩
        obtain ⟨Wj, hWj⟩ : ∃ V, Wi.setRow gb RP.toArray = V := ⟨_, rfl⟩
        have ki : Keeps (fun _ => False) wr Wi := by rw [← hWi]; exact (Keeps.refl _ _).alloc _
        have ri : Wi.heap[gb]? = some (.cells Z 26 (0, 0)) := by rw [← hWi, ← hgb]; exact heap_alloc_new wr _
        have kj' : Keeps (fun k => k = gb) Wi Wj := by rw [← hWj]; exact Keeps.setRow _ _
        have rjb : Wj.heap[gb]? = some (.cells RP.toArray 26 (0, 0)) := by rw [← hWj]; exact setRow_heap _ _ _ _ _ _ ri
        have kj : Keeps (fun _ => False) wr Wj := ki.trans' kj' (fun i hi e => by omega)
        have hgbl := HPJ0.out.var
        have hBlt : B < gb := by obtain ⟨_, _, hh, _⟩ := hgbl; have := hh.lt; omega
        have r14j : Wj.heap[g14]? = some (.cells RH.toArray 26 (0, 0)) := (kj.block _ (Array.getElem?_eq_some_iff.1 r14).1 id).trans r14
        have r13j : Wj.heap[g13]? = some (.cells RT 26 (0, 0)) := (kj.block _ (Array.getElem?_eq_some_iff.1 r13).1 id).trans r13
        have HPJ : Hid (PSt Wj B B Bp Bw wide done) := Lib.hid (HPJ0.out.later kj)
        have hTj : Tabs Wj := (HT.out.keeps KJ.out (by have := HT0.out; omega) (by have := HT0.out; omega)).keeps kj id id
        have h2 := HSLB.out w2 (Keeps.refl _ _)
        obtain ⟨a2, e2, h3⟩ := h2 j (.bool false) (by rw [bls_get, hbj]; rfl)
        injection e2 with e2
        subst e2
        have h4 := World.block_lt_of_cell? w2 _ h3
        have hCC := HC.out
        have hlt' := World.block_lt_of_cell? wr _ hlj
        have cJ : Wj.cell? (aL.add j) = some (.bool false) := (kj.cell hlt' id).trans hlj
        -- the old root goes along
        have hnr0 := noderow_any false ot p Wj ho0 hp32
        rw [hRT, hRP] at hnr0
        have HNR0 : Hid (Calls Tryd.prog 34 #[.bool false, .agg RT, .agg RP.toArray] Wj fun e w' => ∃ A d, e = .returned (.slice A 65 d) ∧ Src w' A (bvs (Cl.nodeRow false ot p)) ∧ 65 ≤ d ∧ d ≤ 9223372036854775807 ∧ T8 w' A ∧ Keeps (fun _ => False) Wj w') := Lib.hid hnr0
        have hnrl := Cl.nodeRow_length false ot p ho0 hp32
        have HNW : Hid (∀ (V : World) (Aq : Option Addr) (dq : Nat), Keeps (fun _ => False) Wj V → Src V Aq (bvs (Cl.nodeRow false ot p)) → 65 ≤ dq → dq ≤ 9223372036854775807 → Calls Tryd.prog 21 #[.int .i64 wide, .slice Aq 65 dq] V fun e w' => e = .returned (.agg RU) ∧ Keeps (fun _ => False) V w') := Lib.hid (fun V Aq dq hV hs h1 h2 => by
          have := narrow_any wide Aq dq _ V (hTj.keeps hV id id) hs (by rw [hnrl]; exact h1) h2 (by rw [hnrl]; omega)
          rw [hnrl, HK.out, ← hold, hRU] at this
          exact this)
        have SU := Lib.hid s5
        have ZU := Lib.hid (z4.trans z5.symm)
        have OU := Lib.hid o5
        have ST4 := Lib.hid s4
        have RJB := Lib.hid rjb
        have R13J := Lib.hid r13j
        have R14J := Lib.hid r14j
        have KJ0 := Lib.hid kj
        have HTJ := Lib.hid hTj
        have CJ := Lib.hid cJ
        have HRU := Lib.hid hRU
        have SRP0 : Hid ((Tryd.prog.info? 26).map (·.size) = some RP.length) := Lib.hid (by rw [← hRP, bvs_length, hp32]; exact size_hash')
        have SP0 := Lib.hid s2
        have ZP0 := Lib.hid (HZS.out.trans z2.symm)
        have OP0 := Lib.hid o2
        have RI := Lib.hid ri
        have HRG := Lib.hid hrg
        have hcj := CJ.out
        have hjm : (j : Int) < mm := by omega
        have hBG := hBlt
        have HFACT := Lib.hid (And.intro hh (And.intro hh1 (And.intro hp32 (And.intro ho1 (And.intro hdl (And.intro hrl (And.intro hroot (And.intro hrow (And.intro hRH (And.intro hRP (And.intro hRN (And.intro hrows (And.intro hhe' hoe')))))))))))))
        have HARR := Lib.hid (And.intro (And.intro s1 (And.intro z1 o1)) (And.intro (And.intro s2 (And.intro z2 o2)) (And.intro s3 (And.intro z3 o3))))
        have HLOW := Lib.hid h4
        clear hrg hrg0 hsl hlj htk hrows hroot hold hh hh1 ho0 ho1 hdl hhe hhe' hoe hoe' hrow hdone hrl hRH hRP hRN hRT s1 z1 o1 s2 z2 o2 s3 z3 o3 s4 z4 o4 s5 z5 o5 r14 r13 ki kj' rjb kj hgbl r14j r13j hTj h2 h3 h4 hCC hlt' cJ hp hbj hp32 ri hRU hnr0 hnrl HPJ0 RJ13 RJ14
        go_wp2_with (first
          | (refine wpList_load_mid_w (by rfl) 26 (.tmp 64) (by rfl) b (off + j * 32) (by rfl) RP _ HRG.out Tryd.underlying26 rfl SRP0.out ?_)
          | (refine wpList_store_row rfl 26 _ _ rfl gb RP.toArray rfl rfl 26 Z RI.out SP0.out ZP0.out OP0.out ?_; rw [hWj])
          | (refine wpList_load_row rfl 26 _ rfl g13 rfl 26 RT (0, 0) _ R13J.out Tryd.underlying26 rfl ST4.out ?_)
          | (refine wpList_load_mid_w (by rfl) 26 (.tmp 18) (by rfl) gb 0 (by rfl) RP _ (rangeAt_row RJB.out) Tryd.underlying26 rfl SRP0.out ?_))
        refine HNR0.out.mono ?_
        rintro e w16 ⟨A16, d16, rfl, hs16, hd1, hd2, _, k16⟩
        have HS16 := Lib.hid hs16
        have K16 := Lib.hid k16
        clear hs16 k16 HNR0
        go_wp2_with fail
        refine (HNW.out w16 A16 d16 K16.out HS16.out hd1 hd2).mono ?_
        rintro e w18 ⟨rfl, k18⟩
        obtain ⟨Wk, hWk⟩ : ∃ V, w18.setRow g13 RU = V := ⟨_, rfl⟩
        have kj18 : Keeps (fun _ => False) Wj w18 := K16.out.trans k18
        have r13w := (kj18.block _ (Array.getElem?_eq_some_iff.1 R13J.out).1 id).trans R13J.out
        have kk0 : Keeps (fun q => q = g13) w18 Wk := by rw [← hWk]; exact Keeps.setRow _ _
        have kk : Keeps (fun q => q = g13) Wj Wk := (kj18.mono (fun _ _ h => h.elim)).trans kk0
        have r13k : Wk.heap[g13]? = some (.cells (bvs o').toArray 26 (0, 0)) := by rw [HRU.out, ← hWk]; exact setRow_heap _ _ _ _ _ _ r13w
        have hcc := HC.out
        have HPK : Hid (PSt Wk B B Bp Bw wide done) := Lib.hid ((HPJ.out.later kj18).keeps kk0 (fun k cs t fr hc ht e => by
          subst e
          rw [r13w] at hc
          injection hc with hc
          injection hc with _ hc
          subst hc
          rcases ht with h | h | h | h | h <;> exact absurd h (by decide)))
        have kpk : Keeps (fun q => q = g13) wr Wk := (KJ0.out.mono (fun _ _ h => h.elim)).trans kk
        have rkb : Wk.heap[gb]? = some (.cells RP.toArray 26 (0, 0)) := (kk.block _ (Array.getElem?_eq_some_iff.1 RJB.out).1 (by omega)).trans RJB.out
        have rk14 : Wk.heap[g14]? = some (.cells RH.toArray 26 (0, 0)) := (kk.block _ (Array.getElem?_eq_some_iff.1 R14J.out).1 (by omega)).trans R14J.out
        have hTk : Tabs Wk := HTJ.out.keeps kk (by have := HT0.out; omega) (by have := HT0.out; omega)
        have h4 := HLOW.out
        have cK : Wk.cell? (aL.add j) = some (.bool false) := (kk.cell (World.block_lt_of_cell? _ _ CJ.out) (by omega)).trans CJ.out
        obtain ⟨hh, hh1, hp32, ho1, hdl, hrl, hroot, hrow, hRH, hRP, hRN, hrows, hhe', hoe'⟩ := HFACT.out
        obtain ⟨⟨s1, z1, o1⟩, ⟨s2, z2, o2⟩, s3, z3, o3⟩ := HARR.out
        have R13W := Lib.hid r13w
        have ngb : ¬ GS Wk B B gb := GS.not_type rkb (by decide) (by omega)
        have HNR : Hid (∀ V, Keeps (GS Wk B B) Wk V → PSt V B B Bp Bw wide done → Calls Tryd.prog 34 #[.bool false, .agg RH.toArray, .agg RP.toArray] V fun e w' => ∃ x : Option Addr × Nat, e = .returned (.slice x.1 65 x.2) ∧ Keeps (GS Wk B B) Wk w' ∧ (PSt w' B B Bp Bw wide done ∧ RowOk w' (x.1, x.2, row))) := Lib.hid (fun V hV hP => by
          have := noderow_any false ht p V hh hp32
          rw [hRH, hRP, hrow] at this
          refine this.mono ?_
          rintro e w' ⟨A', d, rfl, q1, q2, q3, q4, q5⟩
          exact ⟨(A', d), rfl, hV.trans' q5 (fun _ _ h => h.elim), hP.later q5, ⟨q1, by rw [hrl]; exact ⟨q2, q3⟩, q4⟩⟩)
        have HCL : Hid (∀ V (x : Option Addr × Nat), Keeps (GS Wk B B) Wk V → PSt V B B Bp Bw wide done → RowOk V (x.1, x.2, row) → Calls Tryd.prog 41 #[.slice x.1 65 x.2, .pointer (some ⟨Bp, 0, none⟩), .pointer (some ⟨Bw, 0, none⟩)] V fun e w' => e = .returned (.agg RN) ∧ Keeps (GS Wk B B) Wk w' ∧ PSt w' B B Bp Bw wide (done ++ [row])) := Lib.hid (fun V x hV hP hr => by
          have := hP.step (hTk.keeps hV (GS.not_low (by have := HT0.out; have := HC.out; omega) (Nat.le_refl _)) (GS.not_low (by have := HT0.out; have := HC.out; omega) (Nat.le_refl _))) (by have := HT0.out; have := HC.out; omega) hdl x.1 x.2 row hr (by omega)
          rw [hrl, HK.out, ← hroot, hRN] at this
          refine this.mono ?_
          rintro e w' ⟨rfl, q1, q2⟩
          exact ⟨rfl, GS.trans hV q2, q1⟩)
        have HRH : Hid (∀ V, Keeps (GS Wk B B) Wk V → V.rangeAt g14 0 RH) := Lib.hid (fun V hV => rangeAt_row ((hV.block _ (Array.getElem?_eq_some_iff.1 rk14).1 (GS.not_low (by have := HC.out; omega) (Nat.le_refl _))).trans rk14))
        have HRP : Hid (∀ V, Keeps (GS Wk B B) Wk V → V.rangeAt gb 0 RP) := Lib.hid (fun V hV => rangeAt_row ((hV.block _ (Array.getElem?_eq_some_iff.1 rkb).1 ngb).trans rkb))
        have HLK : Hid (∀ V, Keeps (GS Wk B B) Wk V → V.cell? (aL.add j) = some (.bool false)) := Lib.hid (fun V hV => (hV.cell (World.block_lt_of_cell? _ _ cK) (GS.not_low (by have := HC.out; omega) (Nat.le_refl _))).trans cK)
        have hSR : (Tryd.prog.info? 26).map (·.size) = some RH.length := by rw [← hRH, bvs_length, hh]; exact size_hash'
        have hSP : (Tryd.prog.info? 26).map (·.size) = some RP.length := by rw [← hRP, bvs_length, hp32]; exact size_hash'
        have SRH := Lib.hid hSR
        have SRP := Lib.hid hSP
        have SP := Lib.hid s2
        have ZP := Lib.hid (HZS.out.trans z2.symm)
        have OP := Lib.hid o2
        have SN := Lib.hid s3
        have ZN := Lib.hid (z1.trans z3.symm)
        have ON := Lib.hid o3
        have HAFT : Hid (∀ V, Keeps (GS Wk B B) Wk V → Keeps (fun k => g13 ≤ k) w2 (V.setRow g14 RN) ∧ Keeps (fun k => bk ≤ k) w (V.setRow g14 RN) ∧ (V.setRow g14 RN).heap[g13]? = some (.cells (bvs o').toArray 26 (0, 0)) ∧ V.heap[g14]? = some (.cells RH.toArray 26 (0, 0))) := Lib.hid (fun V hV => by
          have hcc := HC.out
          have gsB : ∀ {V : World} (i : Nat), GS V B B i → B ≤ i := fun i e => by rcases e with e | e; omega; exact e.1
          refine ⟨((KBJ.out.trans (kpk.mono (fun i _ e => by omega))).trans (hV.mono (fun i _ e => by have := gsB i e; omega))).trans ((Keeps.setRow _ _).mono (fun i _ e => by omega)), ((KJ.out.trans (kpk.mono (fun i _ e => by omega))).trans (hV.mono (fun i _ e => by have := gsB i e; omega))).trans ((Keeps.setRow _ _).mono (fun i _ e => by omega)), ?_, (hV.block _ (Array.getElem?_eq_some_iff.1 rk14).1 (GS.not_low (by omega) (Nat.le_refl _))).trans rk14⟩
          rw [setRow_other _ _ _ _ (by omega)]
          exact (hV.block _ (Array.getElem?_eq_some_iff.1 r13k).1 (GS.not_low (by omega) (Nat.le_refl _))).trans r13k)
        have HDONE := Lib.hid (hrows.trans (by rfl))
        have HHE := Lib.hid hhe'
        have HOE := Lib.hid hoe'
        have HRN := Lib.hid hRN
        clear k18 kj18 r13w kk0 kk r13k hcc kpk rkb rk14 hTk h4 cK hh hh1 hp32 ho1 hdl hrl hroot hrow hRH hRP hRN hrows hhe' hoe' s1 z1 o1 s2 z2 o2 s3 z3 o3 ngb hSR hSP KBJ KJ HFACT HARR RJB R13J R14J KJ0 HTJ HNW
        go_wp2_with (refine wpList_store_row rfl 26 _ _ rfl g13 RU rfl rfl 26 RT R13W.out SU.out ZU.out OU.out ?_; rw [hWk])
        refine wp_region_stores 9 [7, 8] [0, 1, 2, 3, 4, 5, 6, 7, 8] (fun V => Keeps (GS Wk B B) Wk V) (fun V => PSt V B B Bp Bw wide done) (by kernel_rfl) (by kernel_rfl) (fun _ _ h k => h.trans' k (fun _ _ h => h.elim)) (fun _ _ h k => h.later k) (((Keeps.refl _ _).drew)) (HPK.out.later ((Keeps.refl _ _).drew)) ?_
        refine T_value (get_op rfl) (by rfl) (by rfl) (.func (.func 41) #[] #[.pointer (some ⟨Bp, 0, none⟩), .pointer (some ⟨Bw, 0, none⟩)]) (fun _ _ => by go_simp) ?_
        simp only [Act.put, List.setIfInBounds_toArray, List.set_cons_zero, List.set_cons_succ]
        refine T_value (get_op rfl) (by rfl) (by rfl) (.slice (some aL) mm cL) (fun _ _ => by go_simp) ?_
        simp only [Act.put, List.setIfInBounds_toArray, List.set_cons_zero, List.set_cons_succ]
        refine T_value (get_op rfl) (by rfl) (by rfl) (.int .i64 (j : Int)) (fun _ _ => by go_simp) ?_
        simp only [Act.put, List.setIfInBounds_toArray, List.set_cons_zero, List.set_cons_succ]
        refine T_value (get_op rfl) (by rfl) (by rfl) (.pointer (some (aL.add j))) (fun _ _ => by go_simp) ?_
        simp only [Act.put, List.setIfInBounds_toArray, List.set_cons_zero, List.set_cons_succ]
        refine T_cell (get_op rfl) (by rfl) (by rfl) 4 (.tmp 79) (by rfl) (aL.add j) (by rfl) (.bool false) _ (fun V hV => HLK.out V hV) Tryd.underlying4 rfl ?_
        simp only [Act.put, List.setIfInBounds_toArray, List.set_cons_zero, List.set_cons_succ]
        refine T_load (get_op rfl) (by rfl) (by rfl) 26 (.tmp 14) (by rfl) g14 0 (by rfl) RH _ (fun V hV => HRH.out V hV) Tryd.underlying26 rfl SRH.out ?_
        simp only [Act.put, List.setIfInBounds_toArray, List.set_cons_zero, List.set_cons_succ]
        refine T_load (get_op rfl) (by rfl) (by rfl) 26 (.tmp 18) (by rfl) gb 0 (by rfl) RP _ (fun V hV => HRP.out V hV) Tryd.underlying26 rfl SRP.out ?_
        simp only [Act.put, List.setIfInBounds_toArray, List.set_cons_zero, List.set_cons_succ]
        refine T_enterR (get_op rfl) (by rfl) (by rfl) _ _ (fun x : Option Addr × Nat => .slice x.1 65 x.2) (fun x y h => by cases x; cases y; simp at h; simp [h]) (fun _ => by go_simp) (fun x V => PSt V B B Bp Bw wide done ∧ RowOk V (x.1, x.2, row)) (fun x w w' h hk => ⟨h.1.later hk, h.2.later hk⟩) (fun V hb hf => HNR.out V hb hf) ?_
        intro x7
        simp only [Act.put, List.setIfInBounds_toArray, List.set_cons_zero, List.set_cons_succ]
        refine T_enter (get_op rfl) (by rfl) (by rfl) _ _ (.agg RN) (fun _ => by go_simp) (fun V => PSt V B B Bp Bw wide (done ++ [row])) (fun _ _ h k => h.later k) (fun V hb hf => HCL.out V x7 hb hf.1 hf.2) ?_
        simp only [Act.put, List.setIfInBounds_toArray, List.set_cons_zero, List.set_cons_succ]
        refine T_nil ?_
        intro V9 h9 f9
        simp only [List.drop_succ_cons, List.drop_zero]
        obtain ⟨a1, a2, a3, a4⟩ := HAFT.out V9 h9
        have R9 := Lib.hid a4
        have A1 := Lib.hid a1
        have A2 := Lib.hid a2
        have A3 := Lib.hid a3
        have P10 : Hid (PSt (V9.setRow g14 RN) B B Bp Bw wide (done ++ [row])) := Lib.hid (f9.keeps (Keeps.setRow g14 RN) (fun k cs t fr hc ht e => by
          subst e
          rw [R9.out] at hc
          injection hc with hc
          injection hc with _ hc
          subst hc
          rcases ht with h | h | h | h | h <;> exact absurd h (by decide)))
        clear a1 a2 a3 a4 h9 f9 HAFT HNR HCL HRH HRP HLK
        go_wp2_with (refine wpList_store_row rfl 26 _ _ rfl g14 RN rfl rfl 26 RH.toArray R9.out SN.out ZN.out ON.out ?_)
        go_roundw
        case rel =>
          refine ⟨j + 1, by omega, by go_num, by rw [HDONE.out]; exact P10, by rw [HOE.out]; exact A3, Lib.hid ?_, A1, A2⟩
          rw [HHE.out, HRN.out]
          exact setRow_heap _ _ _ _ _ _ R9.out
        case measure => simp [intOf]; omega
    · obtain rfl : j = mm := by omega
      rw [HZ0.out] at HPJ0 RJ13 RJ14
      obtain ⟨A', c', rs, q1, q2, q3⟩ := HPJ0.out.told
      have hfl := Cl.oldOf_length k h z H32.out
      have hsl := Cl.rootOf_length k h z H32.out
      obtain ⟨RF, hRF⟩ : ∃ R, bvs (Cl.oldOf k h z) = R := ⟨_, rfl⟩
      obtain ⟨RS, hRS⟩ : ∃ R, bvs (Cl.rootOf k h z) = R := ⟨_, rfl⟩
      obtain ⟨s1, z1, o1⟩ := arr_hash _ hfl
      obtain ⟨s2, z2, o2⟩ := arr_hash _ hsl
      have r13 := RJ13.out
      have r14 := RJ14.out
      rw [hRF] at s1 z1 o1 r13
      rw [hRS] at s2 z2 o2 r14
      have hcc := HC.out
      have hzz := HZ12.out
      have r9 := (KBJ.out.block g9 (Array.getElem?_eq_some_iff.1 R9.out).1 (by omega)).trans R9.out
      have r10 := (KBJ.out.block g10 (Array.getElem?_eq_some_iff.1 R10.out).1 (by omega)).trans R10.out
      have RZ9 : Hid (wr.drew.heap[g9]? = some (.cells Z 26 (0, 0))) := Lib.hid r9
      have RZ10 : Hid (wr.drew.heap[g10]? = some (.cells Z 26 (0, 0))) := Lib.hid r10
      have HTB : Hid (∀ V, Keeps (fun k => k = g9 ∨ k = g10) wr V → V.cell? ⟨B, 0, none⟩ = some (.slice A' rs.length c')) := Lib.hid (fun V hV => (q1.keeps hV (by omega)).cell 0)
      have HRF : Hid (∀ V, Keeps (fun k => k = g9 ∨ k = g10) wr V → V.rangeAt g13 0 RF) := Lib.hid (fun V hV => rangeAt_row ((hV.block _ (Array.getElem?_eq_some_iff.1 r13).1 (by omega)).trans r13))
      have HRS : Hid (∀ V, Keeps (fun k => k = g9 ∨ k = g10) wr V → V.rangeAt g14 0 RS) := Lib.hid (fun V hV => rangeAt_row ((hV.block _ (Array.getElem?_eq_some_iff.1 r14).1 (by omega)).trans r14))
      have SRF : Hid ((Tryd.prog.info? 26).map (·.size) = some RF.length) := Lib.hid (by rw [← hRF, bvs_length, hfl]; exact size_hash')
      have SRS : Hid ((Tryd.prog.info? 26).map (·.size) = some RS.length) := Lib.hid (by rw [← hRS, bvs_length, hsl]; exact size_hash')
      have SF2 := Lib.hid s1
      have ZF := Lib.hid (HZS.out.trans z1.symm)
      have OF := Lib.hid o1
      have SS2 := Lib.hid s2
      have ZS := Lib.hid (HZS.out.trans z2.symm)
      have OS := Lib.hid o2
      have G910 : Hid (g9 ≠ g10) := Lib.hid (by omega)
      have HRFE := Lib.hid hRF
      have HRSE := Lib.hid hRS
      have HQ3 := Lib.hid q3
      have hgs : ∀ k cs t fr, wr.heap[k]? = some (.cells cs t fr) → t = 23 ∨ t = 5 → ¬ (k = g9 ∨ k = g10) := fun k cs t fr hc ht e => by
        rcases e with e | e
        · subst e
          rw [r9] at hc
          injection hc with hc
          injection hc with _ hc
          subst hc
          rcases ht with h | h <;> exact absurd h (by decide)
        · subst e
          rw [r10] at hc
          injection hc with hc
          injection hc with _ hc
          subst hc
          rcases ht with h | h <;> exact absurd h (by decide)
      have HFIN : Hid (∀ V, Keeps (fun k => k = g9 ∨ k = g10) wr V → RowsF V A' c' rs ∧ Keeps (fun _ => False) w V) := Lib.hid (fun V hV => ⟨fun S2 V2 hk2 hs2 => q2 (fun k => (k = g9 ∨ k = g10) ∨ S2 k) V2 ((hV.mono (fun _ _ e => .inl e)).trans (hk2.mono (fun _ _ e => .inr e))) (fun k cs t fr hc ht e => by
        rcases e with e | e
        · exact hgs k cs t fr hc ht e
        · exact hs2 k cs t fr ((hV.block k (Array.getElem?_eq_some_iff.1 hc).1 (hgs k cs t fr hc ht)).trans hc) ht e), (KJ.out.trans (hV.mono (fun i _ e => by omega))).mono (fun i hi e => by have := HBK.out; omega)⟩)
      clear hgs q1 q2 q3 hfl hsl hRF hRS s1 z1 o1 s2 z2 o2 r13 r14 hcc hzz r9 r10 HPJ0 RJ13 RJ14 KBJ KJ
      go_wp2_with fail
      refine wp_region_stores 7 [4, 5] [0, 1, 2, 3, 4, 5, 6] (fun V => Keeps (fun k => k = g9 ∨ k = g10) wr V) (fun V => V.heap[g9]? = some (.cells Z 26 (0, 0)) ∧ V.heap[g10]? = some (.cells Z 26 (0, 0))) (by kernel_rfl) (by kernel_rfl) (fun _ _ h k => h.trans' k (fun _ _ h => h.elim)) ((Lasts.block _ _).and (Lasts.block _ _)) (((Keeps.refl _ _).drew)) (⟨RZ9.out, RZ10.out⟩) ?_
      refine T_cell (get_op rfl) (by rfl) (by rfl) 51 (.tmp 15) (by rfl) ⟨B, 0, none⟩ (by rfl) (.slice A' rs.length c') _ (fun V hV => HTB.out V hV) Tryd.underlying51 rfl ?_
      simp only [Act.put, List.setIfInBounds_toArray, List.set_cons_zero, List.set_cons_succ]
      refine T_load (get_op rfl) (by rfl) (by rfl) 26 (.tmp 13) (by rfl) g13 0 (by rfl) RF _ (fun V hV => HRF.out V hV) Tryd.underlying26 rfl SRF.out ?_
      simp only [Act.put, List.setIfInBounds_toArray, List.set_cons_zero, List.set_cons_succ]
      refine T_load (get_op rfl) (by rfl) (by rfl) 26 (.tmp 14) (by rfl) g14 0 (by rfl) RS _ (fun V hV => HRS.out V hV) Tryd.underlying26 rfl SRS.out ?_
      simp only [Act.put, List.setIfInBounds_toArray, List.set_cons_zero, List.set_cons_succ]
      refine T_value (get_op rfl) (by rfl) (by rfl) (.slice A' rs.length c') (fun _ _ => by go_simp) ?_
      simp only [Act.put, List.setIfInBounds_toArray, List.set_cons_zero, List.set_cons_succ]
      refine T_store (get_op rfl) (by rfl) (by rfl) 26 (.tmp 9) (.tmp 87) (by rfl) (by rfl) g9 (by rfl) RF.toArray Z (by rfl) 26 SF2.out ZF.out OF.out (fun V => V.heap[g9]? = some (.cells RF.toArray 26 (0, 0)) ∧ V.heap[g10]? = some (.cells Z 26 (0, 0))) ((Lasts.block _ _).and (Lasts.block _ _)) (fun V hb hf => ⟨hf.1, hb.trans ((Keeps.setRow _ _).mono (fun _ _ e => .inl e)), setRow_heap _ _ _ _ _ _ hf.1, (setRow_other _ _ _ _ (by have := G910.out; omega)).trans hf.2⟩) ?_
      refine T_store (get_op rfl) (by rfl) (by rfl) 26 (.tmp 10) (.tmp 88) (by rfl) (by rfl) g10 (by rfl) RS.toArray Z (by rfl) 26 SS2.out ZS.out OS.out (fun V => V.heap[g9]? = some (.cells RF.toArray 26 (0, 0)) ∧ V.heap[g10]? = some (.cells RS.toArray 26 (0, 0))) ((Lasts.block _ _).and (Lasts.block _ _)) (fun V hb hf => ⟨hf.2, hb.trans ((Keeps.setRow _ _).mono (fun _ _ e => .inr e)), (setRow_other _ _ _ _ (by have := G910.out; omega)).trans hf.1, setRow_heap _ _ _ _ _ _ hf.2⟩) ?_
      refine T_value (get_op rfl) (by rfl) (by rfl) (.int .i64 0) (fun _ _ => by go_simp) ?_
      simp only [Act.put, List.setIfInBounds_toArray, List.set_cons_zero, List.set_cons_succ]
      refine T_nil ?_
      intro V9 h9 f9
      simp only [List.drop_succ_cons, List.drop_nil]
      have F9 := Lib.hid f9
      have H9 := Lib.hid (HFIN.out V9 h9)
      clear h9 f9 HFIN HTB HRF HRS
      go_wp2_with fail
      refine bodyPost_ret (results_tcct rfl _ _ g9 26 RF.toArray (0, 0) _ g10 26 RS.toArray (0, 0) _ (.slice A' rs.length c') (.int .i64 0) rfl rfl F9.out.1 Tryd.underlying26 rfl SF2.out rfl F9.out.2 Tryd.underlying26 rfl SS2.out rfl) rfl ?_
      exact ⟨A', c', rs, by rw [HHO.out, HRFE.out, HRSE.out], H9.out.1, by rw [HHO.out]; exact HQ3.out, H9.out.2⟩
set_option maxRecDepth 100000 in
set_option maxHeartbeats 8000000 in
theorem crow_part (wide : Int) (m n : Nat) (o : List UInt8) (A : Option Addr) (c : Nat) (ps : List (List UInt8)) (w : World) (hT : Tabs w) (ho : o.length = 32) (hP : PathAt w A ps) (hm1 : 1 ≤ m) (hmn : m ≤ n) (hn : n ≤ 18446744073709551615) (hl : ps.length = Tr.lng m n true) (hc : ps.length ≤ c) (hmax : c ≤ 9223372036854775807) (hq : (Tr.stp m n true).2 = false) :
    Calls Tryd.prog 20 #[.int .i64 wide, .agg (keyCells m o).toArray, .int .u64 (n : Int), .slice A ps.length c] w fun e w' => ∃ A' c' rs, e = .returned (.tuple #[.slice A' rs.length c', .agg (bvs (Cl.oldOf (Cl.wid wide) (Tr.begun o ps (Tr.stp m n true).2) ((Tr.rest ps (Tr.stp m n true).2).zip (Tr.stp m n true).1.reverse))).toArray, .agg (bvs (Cl.rootOf (Cl.wid wide) (Tr.begun o ps (Tr.stp m n true).2) ((Tr.rest ps (Tr.stp m n true).2).zip (Tr.stp m n true).1.reverse))).toArray, .int .i64 0]) ∧
      RowsF w' A' c' rs ∧ ents rs = Cl.rowsOf (Cl.wid wide) (Tr.begun o ps (Tr.stp m n true).2) ((Tr.rest ps (Tr.stp m n true).2).zip (Tr.stp m n true).1.reverse) ∧ Keeps (fun _ => False) w w' := by
  obtain ⟨Z, hZ, hz, hzs⟩ := zero_hash
  obtain ⟨KO, hKO⟩ : ∃ K, (keyCells m o).toArray = K := ⟨_, rfl⟩
  obtain ⟨bk, hbk⟩ : ∃ q, w.heap.size = q := ⟨_, rfl⟩
  obtain ⟨W1, hW1⟩ : ∃ V, w.alloc (.cells KO 35) = V := ⟨_, rfl⟩
  obtain ⟨W2, hW2⟩ : ∃ V, W1.alloc (.cells Z 26) = V := ⟨_, rfl⟩
  obtain ⟨W3, hW3⟩ : ∃ V, W2.alloc (.cells Z 26) = V := ⟨_, rfl⟩
  obtain ⟨g9, hg9⟩ : ∃ q, W1.heap.size = q := ⟨_, rfl⟩
  obtain ⟨g10, hg10⟩ : ∃ q, W2.heap.size = q := ⟨_, rfl⟩
  have k1 : Keeps (fun _ => False) w W1 := by rw [← hW1]; exact (Keeps.refl _ _).alloc _
  have k2 : Keeps (fun _ => False) W1 W2 := by rw [← hW2]; exact (Keeps.refl _ _).alloc _
  have k3 : Keeps (fun _ => False) W2 W3 := by rw [← hW3]; exact (Keeps.refl _ _).alloc _
  have z1 : g9 = bk + 1 := by rw [← hg9, ← hW1, World.size_alloc, hbk]
  have z2 : g10 = bk + 2 := by rw [← hg10, ← hW2, World.size_alloc, hg9, z1]
  have z3 : W3.heap.size = bk + 3 := by rw [← hW3, World.size_alloc, hg10, z2]
  have r1 : Row W3 bk 35 (keyCells m o) := ((by show W1.heap[bk]? = _; rw [← hW1, hKO, ← hbk]; exact heap_alloc_new w _ : Row W1 bk 35 (keyCells m o)).keeps k2 id).keeps k3 id
  have r9 : W3.heap[g9]? = some (.cells Z 26 (0, 0)) := (k3.block _ (by omega) id).trans (by rw [← hW2, ← hg9]; exact heap_alloc_new W1 _)
  have r10 : W3.heap[g10]? = some (.cells Z 26 (0, 0)) := by rw [← hW3, ← hg10]; exact heap_alloc_new W2 _
  have k03 : Keeps (fun _ => False) w W3 := (k1.trans k2).trans k3
  have c1 := (key_row r1).1
  have hbeg : Tr.begun o ps (Tr.stp m n true).2 = ps.getD 0 [] := by rw [hq]; rfl
  have hrest : Tr.rest ps (Tr.stp m n true).2 = ps.drop 1 := by rw [hq]; rfl
  rw [hbeg, hrest]
  obtain ⟨hsl1, hsl2⟩ := Tr.stp_length 64 m n true (Tr.deep_le (by omega)) hm1 hmn (by omega)
  rw [hq] at hsl2
  have hdl := Cl.down_last _ m n true (Nat.le_refl _) hm1 hmn hn
  have hst0 := fun V (hV : Keeps (fun _ => False) w V) => steps_last n (m - 1) V (by have := hT.lt; have := hV.size; omega) (by omega) hn
  rw [hdl] at hst0
  obtain ⟨mm, hmm⟩ : ∃ mm, (Tr.stp m n true).1.length = mm := ⟨_, rfl⟩
  obtain ⟨L, hL⟩ : ∃ L, (Tr.stp m n true).1.reverse = L := ⟨_, rfl⟩
  have hLl : L.length = mm := by rw [← hL, List.length_reverse]; exact hmm
  rw [hmm] at hst0 hsl1 hsl2
  rw [hL] at hst0 ⊢
  rw [show ((m - 1 : Nat) : Int) = (m : Int) - 1 by omega] at hst0
  have hlp : ps.length = mm + 1 := by rw [hl, hsl2]; rfl
  obtain ⟨h, rest, hps⟩ : ∃ p r, ps = p :: r := by
    cases ps with
    | nil => simp at hlp
    | cons p r => exact ⟨p, r, rfl⟩
  subst hps
  have hh32 : h.length = 32 := hP.all _ (by simp)
  have hrl : rest.length = mm := by simpa using hlp
  obtain ⟨b0, o0, hA0, hrg00⟩ := hP.lie 0 h (by simp)
  subst hA0
  rw [Nat.zero_mul, Nat.add_zero] at hrg00
  obtain ⟨Ar, hAr⟩ : ∃ a, (if c = 1 then some (⟨b0, o0, none⟩ : Addr) else some ((⟨b0, o0, none⟩ : Addr).add 32)) = a := ⟨_, rfl⟩
  have hPr : PathAt w Ar rest := by
    rcases Nat.eq_zero_or_pos mm with h0 | h0
    · have : rest = [] := List.eq_nil_of_length_eq_zero (by omega)
      rw [this]
      exact PathAt.nil _ _
    · rw [← hAr, if_neg (by omega), add_plain]
      refine ⟨fun q hq => hP.all q (List.mem_cons_of_mem _ hq), fun i q hq => ?_⟩
      obtain ⟨b', o', e, hr⟩ := hP.lie (i + 1) q (by simpa using hq)
      injection e with e
      injection e with e1 e2 _
      subst e1
      subst e2
      exact ⟨b0, o0 + 32, rfl, by rw [show o0 + 32 + i * 32 = o0 + (i + 1) * 32 by omega]; exact hr⟩
  rw [show (h :: rest).getD 0 [] = h from rfl, show (h :: rest).drop 1 = rest from rfl]
  obtain ⟨z, hzz⟩ : ∃ z, rest.zip L = z := ⟨_, rfl⟩
  have hzl : z.length = mm := by rw [← hzz, List.length_zip, hrl, hLl, Nat.min_self]
  have hz0 : z.take mm = z := List.take_of_length_le (by omega)
  obtain ⟨k, hk⟩ : ∃ k, Cl.wid wide = k := ⟨_, rfl⟩
  rw [hzz, hk]
  have hlong := long_in m n W3 hm1 hmn hn
  rw [← hl] at hlong
  have hstp := hst0 W3 k03
  have hroot : W3.rangeAt bk 1 (bvs o) := (key_row r1).2
  have hso : (Tryd.prog.info? 26).map (·.size) = some (bvs o).length := by rw [bvs_length, ho]; exact size_hash'
  obtain ⟨so, zo, oo⟩ := arr_hash o ho
  obtain ⟨RB, hRB⟩ : ∃ R, bvs o = R := ⟨_, rfl⟩
  rw [hRB] at so zo oo hroot hso
  rw [hlp] at hlong hc ⊢
  rw [hKO]
  have h1 : ¬ (m : Int) < 1 := by omega
  have h2 : ¬ (n : Int) < m := by omega
  have h3 : (1 : Int) ≤ m := by omega
  have h5 : (m : Int) ≤ 18446744073709551615 := by omega
  have HROOT := Lib.hid hroot
  have HSO := Lib.hid hso
  have SO := Lib.hid so
  have ZO := Lib.hid (hzs.trans zo.symm)
  have OO := Lib.hid oo
  have HLONG := Lib.hid hlong
  have HSTP := Lib.hid hstp
  have R1 := Lib.hid r1
  have R9a := Lib.hid r9
  have R10a := Lib.hid r10
  have K03 := Lib.hid k03
  have HZ12 := Lib.hid (And.intro z1 (And.intro z2 z3))
  have HT := Lib.hid hT
  have HT0 : Hid (2 < bk) := Lib.hid (by rw [← hbk]; exact hT.lt)
  have HPR := Lib.hid hPr
  have HRL := Lib.hid hrl
  have HLL := Lib.hid hLl
  have HZZ := Lib.hid hzz
  have HZ0 := Lib.hid hz0
  have HK := Lib.hid hk
  have H32 := Lib.hid hh32
  have HZS := Lib.hid hzs
  have HBK := Lib.hid hbk
  have hrg0 : w.rangeAt b0 o0 (bvs h) := hrg00
  obtain ⟨sp0, zp0, op0⟩ := arr_hash h hh32
  have hsp00 : (Tryd.prog.info? 26).map (·.size) = some (bvs h).length := by rw [bvs_length, hh32]; exact size_hash'
  obtain ⟨RP0, hRP0⟩ : ∃ R, bvs h = R := ⟨_, rfl⟩
  rw [hRP0] at hrg0 sp0 zp0 op0 hsp00
  have HRG00 := Lib.hid hrg0
  have SRP0 := Lib.hid hsp00
  have SP0 := Lib.hid sp0
  have ZP0 := Lib.hid (zo.trans zp0.symm)
  have OP0 := Lib.hid op0
  have HRBH : Hid (RP0 = bvs h) := Lib.hid hRP0.symm
  have HAR : Hid ((if c = 1 then some (⟨b0, o0, none⟩ : Addr) else some ⟨b0, o0 + 32, none⟩) = Ar) := Lib.hid (by rw [← hAr, add_plain])
  have ZP32 := Lib.hid zp0
  clear hroot hso so zo oo hlong hstp hst0 r1 r9 r10 k1 k2 k3 k03 z1 z2 z3 hT hPr hrl hLl hzz hzl hz0 hk hh32 hzs hbeg hrest hsl2 hdl hmm hL hlp hP hZ ho hl hRB hKO hq hrg0 hrg00 sp0 zp0 op0 hsp00 hRP0 hAr
  go_enter Tryd.func20, Tryd.ntmps20
  go_wp2_with fail
  refine HLONG.out.mono ?_
  rintro e wl ⟨rfl, hwl⟩
  obtain rfl : W3 = wl := hwl.symm
  go_wp2_with fail
  refine HSTP.out.mono ?_
  rintro e w2 ⟨AL, cL, rfl, hsL, hcL, hcL2, k2⟩
  obtain ⟨C, hC⟩ : ∃ q, w2.heap.size = q := ⟨_, rfl⟩
  have hCb : bk + 3 ≤ C := by have := k2.size; have := HZ12.out; omega
  have HSLB : Hid (∀ (V : World), Keeps (fun k => C ≤ k) w2 V → Src V AL (bls L)) := Lib.hid (fun V hV => hsL.keeps hV (fun a _ hlt => by omega))
  have K2 := Lib.hid (K03.out.trans k2)
  have R9 := Lib.hid ((k2.block _ (Array.getElem?_eq_some_iff.1 R9a.out).1 id).trans R9a.out)
  have R10 := Lib.hid ((k2.block _ (Array.getElem?_eq_some_iff.1 R10a.out).1 id).trans R10a.out)
  have HRO2 := Lib.hid (range_keeps HROOT.out k2 (fun _ _ => id))
  obtain ⟨g13, hg13⟩ : ∃ q, w2.heap.size = q := ⟨_, rfl⟩
  obtain ⟨W4, hW4⟩ : ∃ V, w2.alloc (.cells Z 26) = V := ⟨_, rfl⟩
  obtain ⟨W5, hW5⟩ : ∃ V, W4.setRow g13 RB.toArray = V := ⟨_, rfl⟩
  have e13 : g13 = C := by omega
  subst e13
  have k4 : Keeps (fun _ => False) w2 W4 := by rw [← hW4]; exact (Keeps.refl _ _).alloc _
  have r4 : W4.heap[g13]? = some (.cells Z 26 (0, 0)) := by rw [← hW4, ← hg13]; exact heap_alloc_new w2 _
  have z4 : W4.heap.size = g13 + 1 := by rw [← hW4, World.size_alloc, hg13]
  have k5 : Keeps (fun q => q = g13) W4 W5 := by rw [← hW5]; exact Keeps.setRow _ _
  have r5 : W5.heap[g13]? = some (.cells RB.toArray 26 (0, 0)) := by rw [← hW5]; exact setRow_heap _ _ _ _ _ _ r4
  have z5 : W5.heap.size = g13 + 1 := by rw [← hW5]; simp [World.setRow, z4]
  have k25 : Keeps (fun _ => False) w2 W5 := k4.trans' k5 (fun i hi e => by omega)
  have R4 := Lib.hid r4
  have R5 := Lib.hid r5
  have K25 := Lib.hid k25
  have Z5 := Lib.hid z5
  have HC3 := Lib.hid hCb
  clear hsL k2 k4 r4 z4 k5 r5 z5 k25 HSTP HLONG R9a R10a K03 hC hCb
  go_wp2_with (first
    | (refine wpList_load_mid_w (by rfl) 26 (.tmp 44) (by rfl) bk 1 (by rfl) RB _ HRO2.out Tryd.underlying26 rfl HSO.out ?_)
    | (refine wpList_store_row rfl 26 _ _ rfl g13 RB.toArray rfl rfl 26 Z R4.out SO.out ZO.out OO.out ?_; rw [hW5]))
  have HRP0 : Hid (∀ V, Keeps (fun k => k = g13) W5 V → V.rangeAt b0 o0 RP0) := Lib.hid (fun V hV => by
    have hk5 : Keeps (fun k => bk ≤ k) w V := ((K2.out.trans K25.out).mono (fun _ _ h => h.elim) : Keeps (fun k => bk ≤ k) w W5).trans (hV.mono (fun i _ e => by have := HC3.out; omega))
    exact range_keeps HRG00.out hk5 (fun k hk e => by have := HBK.out; omega))
  have RO' : ∃ RO, RB.toArray = RO := ⟨_, rfl⟩
  obtain ⟨RO, hRO⟩ := RO'
  have RG13 : Hid (W5.drew.heap[g13]? = some (.cells RO 26 (0, 0))) := Lib.hid (by rw [← hRO]; exact R5.out)
  rw [hRO] at ZP0
  refine wp_region_stores 7 [5] [0, 1, 2, 3, 4, 5, 6] (fun V => Keeps (fun k => k = g13) W5 V) (fun V => V.heap[g13]? = some (.cells RO 26 (0, 0))) (by kernel_rfl) (by kernel_rfl) (fun _ _ h k => h.trans' k (fun _ _ h => h.elim)) (Lasts.block _ _) (((Keeps.refl _ _).drew)) (RG13.out) ?_
  refine T_value (get_op rfl) (by rfl) (by rfl) (.slice (some ⟨b0, o0, none⟩) (mm + 1) c) (fun _ _ => by go_simp) ?_
  simp only [Act.put, List.setIfInBounds_toArray, List.set_cons_zero, List.set_cons_succ]
  refine T_value (get_op rfl) (by rfl) (by rfl) (.pointer (some ⟨b0, o0, none⟩)) (fun _ _ => by go_simp) ?_
  simp only [Act.put, List.setIfInBounds_toArray, List.set_cons_zero, List.set_cons_succ]
  refine T_load (get_op rfl) (by rfl) (by rfl) 26 (.tmp 52) (by rfl) b0 o0 (by rfl) RP0 _ (fun V hV => HRP0.out V hV) Tryd.underlying26 rfl SRP0.out ?_
  simp only [Act.put, List.setIfInBounds_toArray, List.set_cons_zero, List.set_cons_succ]
  refine T_value (get_op rfl) (by rfl) (by rfl) (.slice (some ⟨b0, o0, none⟩) (mm + 1) c) (fun _ _ => by go_simp) ?_
  simp only [Act.put, List.setIfInBounds_toArray, List.set_cons_zero, List.set_cons_succ]
  refine T_value (get_op rfl) (by rfl) (by rfl) (.slice Ar mm (c - 1)) (fun _ _ => by go_simp; rw [if_pos (by omega), HAR.out]) ?_
  simp only [Act.put, List.setIfInBounds_toArray, List.set_cons_zero, List.set_cons_succ]
  refine T_store (get_op rfl) (by rfl) (by rfl) 26 (.tmp 13) (.tmp 53) (by rfl) (by rfl) g13 (by rfl) RP0.toArray RO (by rfl) 26 SP0.out ZP0.out OP0.out (fun V => V.heap[g13]? = some (.cells RP0.toArray 26 (0, 0))) (Lasts.block _ _) (fun V hb hf => ⟨hf, hb.trans (Keeps.setRow _ _), setRow_heap _ _ _ _ _ _ hf⟩) ?_
  refine T_value (get_op rfl) (by rfl) (by rfl) (.slice Ar mm (c - 1)) (fun _ _ => by go_simp) ?_
  simp only [Act.put, List.setIfInBounds_toArray, List.set_cons_zero, List.set_cons_succ]
  refine T_nil ?_
  intro W6 k56 r6
  simp only [List.drop_succ_cons, List.drop_nil]
  have hW6 : True := trivial
  have z6 : g13 + 1 ≤ W6.heap.size := by have := k56.size; have := Z5.out; omega
  obtain ⟨g14, hg14⟩ : ∃ q, W6.heap.size = q := ⟨_, rfl⟩
  obtain ⟨W7, hW7⟩ : ∃ V, W6.alloc (.cells Z 26) = V := ⟨_, rfl⟩
  obtain ⟨W8, hW8⟩ : ∃ V, W7.setRow g14 RP0.toArray = V := ⟨_, rfl⟩
  have k7 : Keeps (fun _ => False) W6 W7 := by rw [← hW7]; exact (Keeps.refl _ _).alloc _
  have r7 : W7.heap[g14]? = some (.cells Z 26 (0, 0)) := by rw [← hW7, ← hg14]; exact heap_alloc_new W6 _
  have z7 : W7.heap.size = g14 + 1 := by rw [← hW7, World.size_alloc, hg14]
  have k8 : Keeps (fun q => q = g14) W7 W8 := by rw [← hW8]; exact Keeps.setRow _ _
  have r8 : W8.heap[g14]? = some (.cells RP0.toArray 26 (0, 0)) := by rw [← hW8]; exact setRow_heap _ _ _ _ _ _ r7
  have z8 : W8.heap.size = g14 + 1 := by rw [← hW8]; simp [World.setRow, z7]
  have k68 : Keeps (fun _ => False) W6 W8 := k7.trans' k8 (fun i hi e => by omega)
  have r138 : W8.heap[g13]? = some (.cells RP0.toArray 26 (0, 0)) := (k68.block _ (Array.getElem?_eq_some_iff.1 r6).1 id).trans r6
  obtain ⟨B, hB⟩ : ∃ q, W8.heap.size = q := ⟨_, rfl⟩
  have hBB : B = g14 + 1 := by omega
  obtain ⟨W9, hW9⟩ : ∃ V, W8.alloc (.cells #[.slice none 0 0] 51) = V := ⟨_, rfl⟩
  have k9 : Keeps (fun _ => False) W8 W9 := by rw [← hW9]; exact (Keeps.refl _ _).alloc _
  have rb : Row W9 B 51 [.slice none 0 0] := by rw [← hW9, ← hB]; exact heap_alloc_new W8 _
  have HC : Hid (bk + 3 ≤ g13 ∧ g13 < g14 ∧ g14 < B) := Lib.hid ⟨HC3.out, by omega, by omega⟩
  have kk9 : Keeps (fun k => g13 ≤ k) w2 W9 := ((((K25.out.mono (fun _ _ h => h.elim)).trans (k56.mono (fun i _ e => by omega))).trans (k68.mono (fun _ _ h => h.elim))).trans (k9.mono (fun _ _ h => h.elim)))
  have K9 : Hid (Keeps (fun k => g13 ≤ k) w2 W9) := Lib.hid kk9
  have KW9 : Hid (Keeps (fun k => bk ≤ k) w W9) := Lib.hid ((K2.out.mono (fun _ _ h => h.elim)).trans (kk9.mono (fun i _ e => by have := HC3.out; omega)))
  have R7 := Lib.hid r7
  have R13 : Hid (W9.heap[g13]? = some (.cells (bvs h).toArray 26 (0, 0))) := Lib.hid (by rw [← HRBH.out]; exact (k9.block _ (Array.getElem?_eq_some_iff.1 r138).1 id).trans r138)
  have R14 : Hid (W9.heap[g14]? = some (.cells (bvs h).toArray 26 (0, 0))) := Lib.hid (by rw [← HRBH.out]; exact (k9.block _ (Array.getElem?_eq_some_iff.1 r8).1 id).trans r8)
  have RBX := Lib.hid rb
  clear z6 k7 r7 z7 k8 r8 z8 k68 r138 k9 rb kk9 k56 hBB
  have R6 := Lib.hid r6
  have SR6 : Hid ((Tryd.prog.info? 26).map (·.size) = some RP0.toArray.size) := SP0
  clear r6
  go_wp2_with (first
    | (refine wpList_load_row rfl 26 _ rfl g13 rfl 26 RP0.toArray (0, 0) _ R6.out Tryd.underlying26 rfl SR6.out ?_)
    | (refine wpList_store_row rfl 26 _ _ rfl g14 RP0.toArray rfl rfl 26 Z R7.out SR6.out (HZS.out.trans ZP32.out.symm) OP0.out ?_; rw [hW8]))
  refine (gathering_any wide B W9).mono ?_
  rintro e w4 ⟨Bp, Bw, rfl, hG, hbp, hbw, k10⟩
  have P4 := Lib.hid (PSt.new (Nat.le_refl _) hG (RBX.out.keeps k10 id) : PSt w4 B B Bp Bw wide [])
  have K10 := Lib.hid (K9.out.trans (k10.mono (fun _ _ h => h.elim)))
  have KW10 := Lib.hid (KW9.out.trans (k10.mono (fun _ _ h => h.elim)))
  have R13w := Lib.hid ((k10.block _ (Array.getElem?_eq_some_iff.1 R13.out).1 id).trans R13.out)
  have R14w := Lib.hid ((k10.block _ (Array.getElem?_eq_some_iff.1 R14.out).1 id).trans R14.out)
  clear hG hbp hbw k10 K9 KW9 R13 R14 RBX R7
  go_wp2_with fail
  go_loopw [61] (fun v wr => ∃ j : Nat, j ≤ mm ∧ v = .int .i64 (j : Int) ∧ Hid (PSt wr B B Bp Bw wide (Cl.rowsOf k h (z.take j))) ∧ Hid (wr.heap[g13]? = some (.cells (bvs (Cl.oldOf k h (z.take j))).toArray 26 (0, 0))) ∧ Hid (wr.heap[g14]? = some (.cells (bvs (Cl.rootOf k h (z.take j))).toArray 26 (0, 0))) ∧ Hid (Keeps (fun k => g13 ≤ k) w2 wr) ∧ Hid (Keeps (fun k => bk ≤ k) w wr)) (fun v _ => mm - (intOf v).toNat)
  case atStart => exact ⟨0, by omega, rfl, P4, R13w, R14w, K10, KW10⟩
  case round =>
    clear P4 R13w R14w K10 KW10
    obtain ⟨j, hj, rfl, HPJ0, RJ13, RJ14, KBJ, KJ⟩ := hrel
    by_cases hlt : j < mm
    · obtain ⟨p, hp⟩ : ∃ p, rest[j]? = some p := ⟨_, List.getElem?_eq_getElem (by rw [HRL.out]; exact hlt)⟩
      obtain ⟨bj, hbj⟩ : ∃ b, L[j]? = some b := ⟨_, List.getElem?_eq_getElem (by rw [HLL.out]; exact hlt)⟩
      have hp32 : p.length = 32 := HPR.out.all p (List.mem_of_getElem? hp)
      obtain ⟨b, off, hA, hrg0⟩ := HPR.out.lie j p hp
      subst hA
      have hrg := range_keeps hrg0 KJ.out (fun k hk h => by have := HBK.out; omega)
      have hsl := HSLB.out wr KBJ.out
      obtain ⟨aL, haL, hlj⟩ := hsl.pos (by rw [bls_length, HLL.out]; omega)
      subst haL
      have hlj := hlj j (.bool bj) (by rw [bls_get, hbj]; rfl)
      cases bj with
      | true =>
        have htk := Cl.take_zip rest L j p true hp hbj
        rw [HZZ.out] at htk
        have hrows : Cl.rowsOf k h (z.take (j + 1)) = Cl.rowsOf k h (z.take j) ++ [Cl.nodeRow true (Cl.rootOf k h (z.take j)) p] := by rw [htk, Cl.rowsOf_snoc]
        have hroot : Cl.rootOf k h (z.take (j + 1)) = Cl.nar k (Cl.nodeRow true (Cl.rootOf k h (z.take j)) p) := by rw [htk, Cl.rootOf_snoc]; rfl
        have hold : Cl.oldOf k h (z.take (j + 1)) = Cl.oldOf k h (z.take j) := by rw [htk, Cl.oldOf_snoc]; rfl
        have hh := Cl.rootOf_length k h (z.take j) H32.out
        have hh1 := Cl.rootOf_length k h (z.take (j + 1)) H32.out
        have ho0 := Cl.oldOf_length k h (z.take j) H32.out
        have ho1 := Cl.oldOf_length k h (z.take (j + 1)) H32.out
        have hdl : (Cl.rowsOf k h (z.take j)).length ≤ 1000 := by rw [Cl.rowsOf_length, List.length_take]; omega
        obtain ⟨ht, hhe⟩ : ∃ h', Cl.rootOf k h (z.take j) = h' := ⟨_, rfl⟩
        obtain ⟨h', hhe'⟩ : ∃ h', Cl.rootOf k h (z.take (j + 1)) = h' := ⟨_, rfl⟩
        obtain ⟨ot, hoe⟩ : ∃ h', Cl.oldOf k h (z.take j) = h' := ⟨_, rfl⟩
        obtain ⟨o', hoe'⟩ : ∃ h', Cl.oldOf k h (z.take (j + 1)) = h' := ⟨_, rfl⟩
        obtain ⟨row, hrow⟩ : ∃ r, Cl.nodeRow true ht p = r := ⟨_, rfl⟩
        rw [hhe] at hrows hroot hh
        rw [hhe'] at hroot hh1
        rw [hoe] at hold ho0
        rw [hoe'] at hold ho1
        rw [hrow] at hrows hroot
        obtain ⟨done, hdone⟩ : ∃ d, Cl.rowsOf k h (z.take j) = d := ⟨_, rfl⟩
        rw [hdone] at hrows hdl HPJ0
        have hrl : row.length = 65 := by rw [← hrow]; exact Cl.nodeRow_length _ _ _ hh hp32
        obtain ⟨RH, hRH⟩ : ∃ R, bvs ht = R := ⟨_, rfl⟩
        obtain ⟨RP, hRP⟩ : ∃ R, bvs p = R := ⟨_, rfl⟩
        obtain ⟨RN, hRN⟩ : ∃ R, (bvs h').toArray = R := ⟨_, rfl⟩
        obtain ⟨RT, hRT⟩ : ∃ R, (bvs ot).toArray = R := ⟨_, rfl⟩
        obtain ⟨RU, hRU⟩ : ∃ R, (bvs o').toArray = R := ⟨_, rfl⟩
        obtain ⟨s1, z1, o1⟩ := arr_hash ht hh
        obtain ⟨s2, z2, o2⟩ := arr_hash p hp32
        obtain ⟨s3, z3, o3⟩ := arr_hash h' hh1
        obtain ⟨s4, z4, o4⟩ := arr_hash ot ho0
        obtain ⟨s5, z5, o5⟩ := arr_hash o' ho1
        have r14 := RJ14.out
        have r13 := RJ13.out
        rw [hhe, hRH] at r14
        rw [hoe, hRT] at r13
        rw [hRH] at s1 z1 o1
        rw [hRP] at s2 z2 o2 hrg
        rw [hRN] at s3 z3 o3
        rw [hRT] at s4 z4 o4
        rw [hRU] at s5 z5 o5
        -- the world behind the storing of what is beside
        obtain ⟨gb, hgb⟩ : ∃ g, wr.heap.size = g := ⟨_, rfl⟩
        obtain ⟨Wi, hWi⟩ : ∃ V, wr.alloc (.cells Z 26) = V := ⟨_, rfl⟩
        obtain ⟨Wj, hWj⟩ : ∃ V, Wi.setRow gb RP.toArray = V := ⟨_, rfl⟩
        have ki : Keeps (fun _ => False) wr Wi := by rw [← hWi]; exact (Keeps.refl _ _).alloc _
        have ri : Wi.heap[gb]? = some (.cells Z 26 (0, 0)) := by rw [← hWi, ← hgb]; exact heap_alloc_new wr _
        have kj' : Keeps (fun k => k = gb) Wi Wj := by rw [← hWj]; exact Keeps.setRow _ _
        have rjb : Wj.heap[gb]? = some (.cells RP.toArray 26 (0, 0)) := by rw [← hWj]; exact setRow_heap _ _ _ _ _ _ ri
        have kj : Keeps (fun _ => False) wr Wj := ki.trans' kj' (fun i hi e => by omega)
        have hgbl := HPJ0.out.var
        have hBlt : B < gb := by obtain ⟨_, _, hh, _⟩ := hgbl; have := hh.lt; omega
        have r14j : Wj.heap[g14]? = some (.cells RH.toArray 26 (0, 0)) := (kj.block _ (Array.getElem?_eq_some_iff.1 r14).1 id).trans r14
        have r13j : Wj.heap[g13]? = some (.cells RT 26 (0, 0)) := (kj.block _ (Array.getElem?_eq_some_iff.1 r13).1 id).trans r13
        have HPJ : Hid (PSt Wj B B Bp Bw wide done) := Lib.hid (HPJ0.out.later kj)
        have hTj : Tabs Wj := (HT.out.keeps KJ.out (by have := HT0.out; omega) (by have := HT0.out; omega)).keeps kj id id
        have h2 := HSLB.out w2 (Keeps.refl _ _)
        obtain ⟨a2, e2, h3⟩ := h2 j (.bool true) (by rw [bls_get, hbj]; rfl)
        injection e2 with e2
        subst e2
        have h4 := World.block_lt_of_cell? w2 _ h3
        have hCC := HC.out
        have hlt' := World.block_lt_of_cell? wr _ hlj
        have cJ : Wj.cell? (aL.add j) = some (.bool true) := (kj.cell hlt' id).trans hlj
        obtain ⟨Wk, hWk⟩ : ∃ V, V = Wj := ⟨_, rfl⟩
        have kk : Keeps (fun q => q = g13) Wj Wk := by rw [hWk]; exact Keeps.refl _ _
        have r13k : Wk.heap[g13]? = some (.cells (bvs o').toArray 26 (0, 0)) := by rw [hold, hRT, hWk]; exact r13j
        have HPK : Hid (PSt Wk B B Bp Bw wide done) := Lib.hid (by rw [hWk]; exact HPJ.out)
        have kpk : Keeps (fun q => q = g13) wr Wk := (kj.mono (fun _ _ h => h.elim)).trans kk
        have rkb : Wk.heap[gb]? = some (.cells RP.toArray 26 (0, 0)) := by rw [hWk]; exact rjb
        have rk14 : Wk.heap[g14]? = some (.cells RH.toArray 26 (0, 0)) := by rw [hWk]; exact r14j
        have hTk : Tabs Wk := by rw [hWk]; exact hTj
        have cK : Wk.cell? (aL.add j) = some (.bool true) := by rw [hWk]; exact cJ
        have ngb : ¬ GS Wk B B gb := GS.not_type rkb (by decide) (by omega)
        have HNR : Hid (∀ V, Keeps (GS Wk B B) Wk V → PSt V B B Bp Bw wide done → Calls Tryd.prog 34 #[.bool true, .agg RH.toArray, .agg RP.toArray] V fun e w' => ∃ x : Option Addr × Nat, e = .returned (.slice x.1 65 x.2) ∧ Keeps (GS Wk B B) Wk w' ∧ (PSt w' B B Bp Bw wide done ∧ RowOk w' (x.1, x.2, row))) := Lib.hid (fun V hV hP => by
          have := noderow_any true ht p V hh hp32
          rw [hRH, hRP, hrow] at this
          refine this.mono ?_
          rintro e w' ⟨A', d, rfl, q1, q2, q3, q4, q5⟩
          exact ⟨(A', d), rfl, hV.trans' q5 (fun _ _ h => h.elim), hP.later q5, ⟨q1, by rw [hrl]; exact ⟨q2, q3⟩, q4⟩⟩)
        have HCL : Hid (∀ V (x : Option Addr × Nat), Keeps (GS Wk B B) Wk V → PSt V B B Bp Bw wide done → RowOk V (x.1, x.2, row) → Calls Tryd.prog 41 #[.slice x.1 65 x.2, .pointer (some ⟨Bp, 0, none⟩), .pointer (some ⟨Bw, 0, none⟩)] V fun e w' => e = .returned (.agg RN) ∧ Keeps (GS Wk B B) Wk w' ∧ PSt w' B B Bp Bw wide (done ++ [row])) := Lib.hid (fun V x hV hP hr => by
          have := hP.step (hTk.keeps hV (GS.not_low (by have := HT0.out; have := HC.out; omega) (Nat.le_refl _)) (GS.not_low (by have := HT0.out; have := HC.out; omega) (Nat.le_refl _))) (by have := HT0.out; have := HC.out; omega) hdl x.1 x.2 row hr (by omega)
          rw [hrl, HK.out, ← hroot, hRN] at this
          refine this.mono ?_
          rintro e w' ⟨rfl, q1, q2⟩
          exact ⟨rfl, GS.trans hV q2, q1⟩)
        have HRH : Hid (∀ V, Keeps (GS Wk B B) Wk V → V.rangeAt g14 0 RH) := Lib.hid (fun V hV => rangeAt_row ((hV.block _ (Array.getElem?_eq_some_iff.1 rk14).1 (GS.not_low (by have := HC.out; omega) (Nat.le_refl _))).trans rk14))
        have HRP : Hid (∀ V, Keeps (GS Wk B B) Wk V → V.rangeAt gb 0 RP) := Lib.hid (fun V hV => rangeAt_row ((hV.block _ (Array.getElem?_eq_some_iff.1 rkb).1 ngb).trans rkb))
        have HLK : Hid (∀ V, Keeps (GS Wk B B) Wk V → V.cell? (aL.add j) = some (.bool true)) := Lib.hid (fun V hV => (hV.cell (World.block_lt_of_cell? _ _ cK) (GS.not_low (by have := HC.out; omega) (Nat.le_refl _))).trans cK)
        have hSR : (Tryd.prog.info? 26).map (·.size) = some RH.length := by rw [← hRH, bvs_length, hh]; exact size_hash'
        have hSP : (Tryd.prog.info? 26).map (·.size) = some RP.length := by rw [← hRP, bvs_length, hp32]; exact size_hash'
        have SRH := Lib.hid hSR
        have SRP := Lib.hid hSP
        have SP := Lib.hid s2
        have ZP := Lib.hid (HZS.out.trans z2.symm)
        have OP := Lib.hid o2
        have SN := Lib.hid s3
        have ZN := Lib.hid (z1.trans z3.symm)
        have ON := Lib.hid o3
        have HAFT : Hid (∀ V, Keeps (GS Wk B B) Wk V → Keeps (fun k => g13 ≤ k) w2 (V.setRow g14 RN) ∧ Keeps (fun k => bk ≤ k) w (V.setRow g14 RN) ∧ (V.setRow g14 RN).heap[g13]? = some (.cells (bvs o').toArray 26 (0, 0)) ∧ V.heap[g14]? = some (.cells RH.toArray 26 (0, 0))) := Lib.hid (fun V hV => by
          have hcc := HC.out
          have gsB : ∀ {V : World} (i : Nat), GS V B B i → B ≤ i := fun i e => by rcases e with e | e; omega; exact e.1
          refine ⟨((KBJ.out.trans (kpk.mono (fun i _ e => by omega))).trans (hV.mono (fun i _ e => by have := gsB i e; omega))).trans ((Keeps.setRow _ _).mono (fun i _ e => by omega)), ((KJ.out.trans (kpk.mono (fun i _ e => by omega))).trans (hV.mono (fun i _ e => by have := gsB i e; omega))).trans ((Keeps.setRow _ _).mono (fun i _ e => by omega)), ?_, (hV.block _ (Array.getElem?_eq_some_iff.1 rk14).1 (GS.not_low (by omega) (Nat.le_refl _))).trans rk14⟩
          rw [setRow_other _ _ _ _ (by omega)]
          exact (hV.block _ (Array.getElem?_eq_some_iff.1 r13k).1 (GS.not_low (by omega) (Nat.le_refl _))).trans r13k)
        have HDONE := Lib.hid (hrows.trans (by rfl))
        have HHE := Lib.hid hhe'
        have HOE := Lib.hid hoe'
        have HRN := Lib.hid hRN
        have hjm : (j : Int) < mm := by omega
        have RI := Lib.hid ri
        have HRG := Lib.hid hrg
        have CJ := Lib.hid cJ
        have hcj := CJ.out
        subst hWk
        clear hrg hrg0 hsl hlj htk hrows hroot hold hh hh1 ho0 ho1 hdl hhe hhe' hoe hoe' hrow hdone hrl hRH hRP hRN hRT s1 z1 o1 s2 z2 o2 s3 z3 o3 s4 z4 o4 s5 z5 o5 r14 r13 ki kj' rjb kj hgbl r14j r13j hTj h2 h3 h4 hCC hlt' cJ hp hbj hp32 ri hRU kk r13k kpk rkb rk14 hTk cK ngb hSR hSP HPJ0 RJ13 RJ14 KBJ KJ
        go_wp2_with (first
          | (refine wpList_load_mid_w (by rfl) 26 (.tmp 64) (by rfl) b (off + j * 32) (by rfl) RP _ HRG.out Tryd.underlying26 rfl SRP.out ?_)
          | (refine wpList_store_row rfl 26 _ _ rfl gb RP.toArray rfl rfl 26 Z RI.out SP.out ZP.out OP.out ?_; rw [hWj]))
        clear HRG RI
        refine wp_region_stores 9 [7, 8] [0, 1, 2, 3, 4, 5, 6, 7, 8] (fun V => Keeps (GS Wk B B) Wk V) (fun V => PSt V B B Bp Bw wide done) (by kernel_rfl) (by kernel_rfl) (fun _ _ h k => h.trans' k (fun _ _ h => h.elim)) (fun _ _ h k => h.later k) (((Keeps.refl _ _).drew)) (HPK.out.later ((Keeps.refl _ _).drew)) ?_
        refine T_value (get_op rfl) (by rfl) (by rfl) (.func (.func 41) #[] #[.pointer (some ⟨Bp, 0, none⟩), .pointer (some ⟨Bw, 0, none⟩)]) (fun _ _ => by go_simp) ?_
        simp only [Act.put, List.setIfInBounds_toArray, List.set_cons_zero, List.set_cons_succ]
        refine T_value (get_op rfl) (by rfl) (by rfl) (.slice (some aL) mm cL) (fun _ _ => by go_simp) ?_
        simp only [Act.put, List.setIfInBounds_toArray, List.set_cons_zero, List.set_cons_succ]
        refine T_value (get_op rfl) (by rfl) (by rfl) (.int .i64 (j : Int)) (fun _ _ => by go_simp) ?_
        simp only [Act.put, List.setIfInBounds_toArray, List.set_cons_zero, List.set_cons_succ]
        refine T_value (get_op rfl) (by rfl) (by rfl) (.pointer (some (aL.add j))) (fun _ _ => by go_simp) ?_
        simp only [Act.put, List.setIfInBounds_toArray, List.set_cons_zero, List.set_cons_succ]
        refine T_cell (get_op rfl) (by rfl) (by rfl) 4 (.tmp 79) (by rfl) (aL.add j) (by rfl) (.bool true) _ (fun V hV => HLK.out V hV) Tryd.underlying4 rfl ?_
        simp only [Act.put, List.setIfInBounds_toArray, List.set_cons_zero, List.set_cons_succ]
        refine T_load (get_op rfl) (by rfl) (by rfl) 26 (.tmp 14) (by rfl) g14 0 (by rfl) RH _ (fun V hV => HRH.out V hV) Tryd.underlying26 rfl SRH.out ?_
        simp only [Act.put, List.setIfInBounds_toArray, List.set_cons_zero, List.set_cons_succ]
        refine T_load (get_op rfl) (by rfl) (by rfl) 26 (.tmp 18) (by rfl) gb 0 (by rfl) RP _ (fun V hV => HRP.out V hV) Tryd.underlying26 rfl SRP.out ?_
        simp only [Act.put, List.setIfInBounds_toArray, List.set_cons_zero, List.set_cons_succ]
        refine T_enterR (get_op rfl) (by rfl) (by rfl) _ _ (fun x : Option Addr × Nat => .slice x.1 65 x.2) (fun x y h => by cases x; cases y; simp at h; simp [h]) (fun _ => by go_simp) (fun x V => PSt V B B Bp Bw wide done ∧ RowOk V (x.1, x.2, row)) (fun x w w' h hk => ⟨h.1.later hk, h.2.later hk⟩) (fun V hb hf => HNR.out V hb hf) ?_
        intro x7
        simp only [Act.put, List.setIfInBounds_toArray, List.set_cons_zero, List.set_cons_succ]
        refine T_enter (get_op rfl) (by rfl) (by rfl) _ _ (.agg RN) (fun _ => by go_simp) (fun V => PSt V B B Bp Bw wide (done ++ [row])) (fun _ _ h k => h.later k) (fun V hb hf => HCL.out V x7 hb hf.1 hf.2) ?_
        simp only [Act.put, List.setIfInBounds_toArray, List.set_cons_zero, List.set_cons_succ]
        refine T_nil ?_
        intro V9 h9 f9
        simp only [List.drop_succ_cons, List.drop_zero]
        obtain ⟨a1, a2, a3, a4⟩ := HAFT.out V9 h9
        have R9 := Lib.hid a4
        have A1 := Lib.hid a1
        have A2 := Lib.hid a2
        have A3 := Lib.hid a3
        have P10 : Hid (PSt (V9.setRow g14 RN) B B Bp Bw wide (done ++ [row])) := Lib.hid (f9.keeps (Keeps.setRow g14 RN) (fun k cs t fr hc ht e => by
          subst e
          rw [R9.out] at hc
          injection hc with hc
          injection hc with _ hc
          subst hc
          rcases ht with h | h | h | h | h <;> exact absurd h (by decide)))
        clear a1 a2 a3 a4 h9 f9 HAFT HNR HCL HRH HRP HLK
        go_wp2_with (refine wpList_store_row rfl 26 _ _ rfl g14 RN rfl rfl 26 RH.toArray R9.out SN.out ZN.out ON.out ?_)
        go_roundw
        case rel =>
          refine ⟨j + 1, by omega, by go_num, by rw [HDONE.out]; exact P10, by rw [HOE.out]; exact A3, Lib.hid ?_, A1, A2⟩
          rw [HHE.out, HRN.out]
          exact setRow_heap _ _ _ _ _ _ R9.out
        case measure => simp [intOf]; omega
      | false =>
        have htk := Cl.take_zip rest L j p false hp hbj
        rw [HZZ.out] at htk
        have hrows : Cl.rowsOf k h (z.take (j + 1)) = Cl.rowsOf k h (z.take j) ++ [Cl.nodeRow false (Cl.rootOf k h (z.take j)) p] := by rw [htk, Cl.rowsOf_snoc]
        have hroot : Cl.rootOf k h (z.take (j + 1)) = Cl.nar k (Cl.nodeRow false (Cl.rootOf k h (z.take j)) p) := by rw [htk, Cl.rootOf_snoc]; rfl
        have hold : Cl.oldOf k h (z.take (j + 1)) = Cl.nar k (Cl.nodeRow false (Cl.oldOf k h (z.take j)) p) := by rw [htk, Cl.oldOf_snoc]; rfl
        have hh := Cl.rootOf_length k h (z.take j) H32.out
        have hh1 := Cl.rootOf_length k h (z.take (j + 1)) H32.out
        have ho0 := Cl.oldOf_length k h (z.take j) H32.out
        have ho1 := Cl.oldOf_length k h (z.take (j + 1)) H32.out
        have hdl : (Cl.rowsOf k h (z.take j)).length ≤ 1000 := by rw [Cl.rowsOf_length, List.length_take]; omega
        obtain ⟨ht, hhe⟩ : ∃ h', Cl.rootOf k h (z.take j) = h' := ⟨_, rfl⟩
        obtain ⟨h', hhe'⟩ : ∃ h', Cl.rootOf k h (z.take (j + 1)) = h' := ⟨_, rfl⟩
        obtain ⟨ot, hoe⟩ : ∃ h', Cl.oldOf k h (z.take j) = h' := ⟨_, rfl⟩
        obtain ⟨o', hoe'⟩ : ∃ h', Cl.oldOf k h (z.take (j + 1)) = h' := ⟨_, rfl⟩
        obtain ⟨row, hrow⟩ : ∃ r, Cl.nodeRow false ht p = r := ⟨_, rfl⟩
        rw [hhe] at hrows hroot hh
        rw [hhe'] at hroot hh1
        rw [hoe] at hold ho0
        rw [hoe'] at hold ho1
        rw [hrow] at hrows hroot
        obtain ⟨done, hdone⟩ : ∃ d, Cl.rowsOf k h (z.take j) = d := ⟨_, rfl⟩
        rw [hdone] at hrows hdl HPJ0
        have hrl : row.length = 65 := by rw [← hrow]; exact Cl.nodeRow_length _ _ _ hh hp32
        obtain ⟨RH, hRH⟩ : ∃ R, bvs ht = R := ⟨_, rfl⟩
        obtain ⟨RP, hRP⟩ : ∃ R, bvs p = R := ⟨_, rfl⟩
        obtain ⟨RN, hRN⟩ : ∃ R, (bvs h').toArray = R := ⟨_, rfl⟩
        obtain ⟨RT, hRT⟩ : ∃ R, (bvs ot).toArray = R := ⟨_, rfl⟩
        obtain ⟨RU, hRU⟩ : ∃ R, (bvs o').toArray = R := ⟨_, rfl⟩
        obtain ⟨s1, z1, o1⟩ := arr_hash ht hh
        obtain ⟨s2, z2, o2⟩ := arr_hash p hp32
        obtain ⟨s3, z3, o3⟩ := arr_hash h' hh1
        obtain ⟨s4, z4, o4⟩ := arr_hash ot ho0
        obtain ⟨s5, z5, o5⟩ := arr_hash o' ho1
        have r14 := RJ14.out
        have r13 := RJ13.out
        rw [hhe, hRH] at r14
        rw [hoe, hRT] at r13
        rw [hRH] at s1 z1 o1
        rw [hRP] at s2 z2 o2 hrg
        rw [hRN] at s3 z3 o3
        rw [hRT] at s4 z4 o4
        rw [hRU] at s5 z5 o5
        -- the world behind the storing of what is beside
        obtain ⟨gb, hgb⟩ : ∃ g, wr.heap.size = g := ⟨_, rfl⟩
        obtain ⟨Wi, hWi⟩ : ∃ V, wr.alloc (.cells Z 26) = V := ⟨_, rfl⟩
        obtain ⟨Wj, hWj⟩ : ∃ V, Wi.setRow gb RP.toArray = V := ⟨_, rfl⟩
        have ki : Keeps (fun _ => False) wr Wi := by rw [← hWi]; exact (Keeps.refl _ _).alloc _
        have ri : Wi.heap[gb]? = some (.cells Z 26 (0, 0)) := by rw [← hWi, ← hgb]; exact heap_alloc_new wr _
        have kj' : Keeps (fun k => k = gb) Wi Wj := by rw [← hWj]; exact Keeps.setRow _ _
        have rjb : Wj.heap[gb]? = some (.cells RP.toArray 26 (0, 0)) := by rw [← hWj]; exact setRow_heap _ _ _ _ _ _ ri
        have kj : Keeps (fun _ => False) wr Wj := ki.trans' kj' (fun i hi e => by omega)
        have hgbl := HPJ0.out.var
        have hBlt : B < gb := by obtain ⟨_, _, hh, _⟩ := hgbl; have := hh.lt; omega
        have r14j : Wj.heap[g14]? = some (.cells RH.toArray 26 (0, 0)) := (kj.block _ (Array.getElem?_eq_some_iff.1 r14).1 id).trans r14
        have r13j : Wj.heap[g13]? = some (.cells RT 26 (0, 0)) := (kj.block _ (Array.getElem?_eq_some_iff.1 r13).1 id).trans r13
        have HPJ : Hid (PSt Wj B B Bp Bw wide done) := Lib.hid (HPJ0.out.later kj)
        have hTj : Tabs Wj := (HT.out.keeps KJ.out (by have := HT0.out; omega) (by have := HT0.out; omega)).keeps kj id id
        have h2 := HSLB.out w2 (Keeps.refl _ _)
        obtain ⟨a2, e2, h3⟩ := h2 j (.bool false) (by rw [bls_get, hbj]; rfl)
        injection e2 with e2
        subst e2
        have h4 := World.block_lt_of_cell? w2 _ h3
        have hCC := HC.out
        have hlt' := World.block_lt_of_cell? wr _ hlj
        have cJ : Wj.cell? (aL.add j) = some (.bool false) := (kj.cell hlt' id).trans hlj
        -- the old root goes along
        have hnr0 := noderow_any false ot p Wj ho0 hp32
        rw [hRT, hRP] at hnr0
        have HNR0 : Hid (Calls Tryd.prog 34 #[.bool false, .agg RT, .agg RP.toArray] Wj fun e w' => ∃ A d, e = .returned (.slice A 65 d) ∧ Src w' A (bvs (Cl.nodeRow false ot p)) ∧ 65 ≤ d ∧ d ≤ 9223372036854775807 ∧ T8 w' A ∧ Keeps (fun _ => False) Wj w') := Lib.hid hnr0
        have hnrl := Cl.nodeRow_length false ot p ho0 hp32
        have HNW : Hid (∀ (V : World) (Aq : Option Addr) (dq : Nat), Keeps (fun _ => False) Wj V → Src V Aq (bvs (Cl.nodeRow false ot p)) → 65 ≤ dq → dq ≤ 9223372036854775807 → Calls Tryd.prog 21 #[.int .i64 wide, .slice Aq 65 dq] V fun e w' => e = .returned (.agg RU) ∧ Keeps (fun _ => False) V w') := Lib.hid (fun V Aq dq hV hs h1 h2 => by
          have := narrow_any wide Aq dq _ V (hTj.keeps hV id id) hs (by rw [hnrl]; exact h1) h2 (by rw [hnrl]; omega)
          rw [hnrl, HK.out, ← hold, hRU] at this
          exact this)
        have SU := Lib.hid s5
        have ZU := Lib.hid (z4.trans z5.symm)
        have OU := Lib.hid o5
        have ST4 := Lib.hid s4
        have RJB := Lib.hid rjb
        have R13J := Lib.hid r13j
        have R14J := Lib.hid r14j
        have KJ0 := Lib.hid kj
        have HTJ := Lib.hid hTj
        have CJ := Lib.hid cJ
        have HRU := Lib.hid hRU
        have SRP0 : Hid ((Tryd.prog.info? 26).map (·.size) = some RP.length) := Lib.hid (by rw [← hRP, bvs_length, hp32]; exact size_hash')
        have SP0 := Lib.hid s2
        have ZP0 := Lib.hid (HZS.out.trans z2.symm)
        have OP0 := Lib.hid o2
        have RI := Lib.hid ri
        have HRG := Lib.hid hrg
        have hcj := CJ.out
        have hjm : (j : Int) < mm := by omega
        have hBG := hBlt
        have HFACT := Lib.hid (And.intro hh (And.intro hh1 (And.intro hp32 (And.intro ho1 (And.intro hdl (And.intro hrl (And.intro hroot (And.intro hrow (And.intro hRH (And.intro hRP (And.intro hRN (And.intro hrows (And.intro hhe' hoe')))))))))))))
        have HARR := Lib.hid (And.intro (And.intro s1 (And.intro z1 o1)) (And.intro (And.intro s2 (And.intro z2 o2)) (And.intro s3 (And.intro z3 o3))))
        have HLOW := Lib.hid h4
        clear hrg hrg0 hsl hlj htk hrows hroot hold hh hh1 ho0 ho1 hdl hhe hhe' hoe hoe' hrow hdone hrl hRH hRP hRN hRT s1 z1 o1 s2 z2 o2 s3 z3 o3 s4 z4 o4 s5 z5 o5 r14 r13 ki kj' rjb kj hgbl r14j r13j hTj h2 h3 h4 hCC hlt' cJ hp hbj hp32 ri hRU hnr0 hnrl HPJ0 RJ13 RJ14
        go_wp2_with (first
          | (refine wpList_load_mid_w (by rfl) 26 (.tmp 64) (by rfl) b (off + j * 32) (by rfl) RP _ HRG.out Tryd.underlying26 rfl SRP0.out ?_)
          | (refine wpList_store_row rfl 26 _ _ rfl gb RP.toArray rfl rfl 26 Z RI.out SP0.out ZP0.out OP0.out ?_; rw [hWj])
          | (refine wpList_load_row rfl 26 _ rfl g13 rfl 26 RT (0, 0) _ R13J.out Tryd.underlying26 rfl ST4.out ?_)
          | (refine wpList_load_mid_w (by rfl) 26 (.tmp 18) (by rfl) gb 0 (by rfl) RP _ (rangeAt_row RJB.out) Tryd.underlying26 rfl SRP0.out ?_))
        refine HNR0.out.mono ?_
        rintro e w16 ⟨A16, d16, rfl, hs16, hd1, hd2, _, k16⟩
        have HS16 := Lib.hid hs16
        have K16 := Lib.hid k16
        clear hs16 k16 HNR0
        go_wp2_with fail
        refine (HNW.out w16 A16 d16 K16.out HS16.out hd1 hd2).mono ?_
        rintro e w18 ⟨rfl, k18⟩
        obtain ⟨Wk, hWk⟩ : ∃ V, w18.setRow g13 RU = V := ⟨_, rfl⟩
        have kj18 : Keeps (fun _ => False) Wj w18 := K16.out.trans k18
        have r13w := (kj18.block _ (Array.getElem?_eq_some_iff.1 R13J.out).1 id).trans R13J.out
        have kk0 : Keeps (fun q => q = g13) w18 Wk := by rw [← hWk]; exact Keeps.setRow _ _
        have kk : Keeps (fun q => q = g13) Wj Wk := (kj18.mono (fun _ _ h => h.elim)).trans kk0
        have r13k : Wk.heap[g13]? = some (.cells (bvs o').toArray 26 (0, 0)) := by rw [HRU.out, ← hWk]; exact setRow_heap _ _ _ _ _ _ r13w
        have hcc := HC.out
        have HPK : Hid (PSt Wk B B Bp Bw wide done) := Lib.hid ((HPJ.out.later kj18).keeps kk0 (fun k cs t fr hc ht e => by
          subst e
          rw [r13w] at hc
          injection hc with hc
          injection hc with _ hc
          subst hc
          rcases ht with h | h | h | h | h <;> exact absurd h (by decide)))
        have kpk : Keeps (fun q => q = g13) wr Wk := (KJ0.out.mono (fun _ _ h => h.elim)).trans kk
        have rkb : Wk.heap[gb]? = some (.cells RP.toArray 26 (0, 0)) := (kk.block _ (Array.getElem?_eq_some_iff.1 RJB.out).1 (by omega)).trans RJB.out
        have rk14 : Wk.heap[g14]? = some (.cells RH.toArray 26 (0, 0)) := (kk.block _ (Array.getElem?_eq_some_iff.1 R14J.out).1 (by omega)).trans R14J.out
        have hTk : Tabs Wk := HTJ.out.keeps kk (by have := HT0.out; omega) (by have := HT0.out; omega)
        have h4 := HLOW.out
        have cK : Wk.cell? (aL.add j) = some (.bool false) := (kk.cell (World.block_lt_of_cell? _ _ CJ.out) (by omega)).trans CJ.out
        obtain ⟨hh, hh1, hp32, ho1, hdl, hrl, hroot, hrow, hRH, hRP, hRN, hrows, hhe', hoe'⟩ := HFACT.out
        obtain ⟨⟨s1, z1, o1⟩, ⟨s2, z2, o2⟩, s3, z3, o3⟩ := HARR.out
        have R13W := Lib.hid r13w
        have ngb : ¬ GS Wk B B gb := GS.not_type rkb (by decide) (by omega)
        have HNR : Hid (∀ V, Keeps (GS Wk B B) Wk V → PSt V B B Bp Bw wide done → Calls Tryd.prog 34 #[.bool false, .agg RH.toArray, .agg RP.toArray] V fun e w' => ∃ x : Option Addr × Nat, e = .returned (.slice x.1 65 x.2) ∧ Keeps (GS Wk B B) Wk w' ∧ (PSt w' B B Bp Bw wide done ∧ RowOk w' (x.1, x.2, row))) := Lib.hid (fun V hV hP => by
          have := noderow_any false ht p V hh hp32
          rw [hRH, hRP, hrow] at this
          refine this.mono ?_
          rintro e w' ⟨A', d, rfl, q1, q2, q3, q4, q5⟩
          exact ⟨(A', d), rfl, hV.trans' q5 (fun _ _ h => h.elim), hP.later q5, ⟨q1, by rw [hrl]; exact ⟨q2, q3⟩, q4⟩⟩)
        have HCL : Hid (∀ V (x : Option Addr × Nat), Keeps (GS Wk B B) Wk V → PSt V B B Bp Bw wide done → RowOk V (x.1, x.2, row) → Calls Tryd.prog 41 #[.slice x.1 65 x.2, .pointer (some ⟨Bp, 0, none⟩), .pointer (some ⟨Bw, 0, none⟩)] V fun e w' => e = .returned (.agg RN) ∧ Keeps (GS Wk B B) Wk w' ∧ PSt w' B B Bp Bw wide (done ++ [row])) := Lib.hid (fun V x hV hP hr => by
          have := hP.step (hTk.keeps hV (GS.not_low (by have := HT0.out; have := HC.out; omega) (Nat.le_refl _)) (GS.not_low (by have := HT0.out; have := HC.out; omega) (Nat.le_refl _))) (by have := HT0.out; have := HC.out; omega) hdl x.1 x.2 row hr (by omega)
          rw [hrl, HK.out, ← hroot, hRN] at this
          refine this.mono ?_
          rintro e w' ⟨rfl, q1, q2⟩
          exact ⟨rfl, GS.trans hV q2, q1⟩)
        have HRH : Hid (∀ V, Keeps (GS Wk B B) Wk V → V.rangeAt g14 0 RH) := Lib.hid (fun V hV => rangeAt_row ((hV.block _ (Array.getElem?_eq_some_iff.1 rk14).1 (GS.not_low (by have := HC.out; omega) (Nat.le_refl _))).trans rk14))
        have HRP : Hid (∀ V, Keeps (GS Wk B B) Wk V → V.rangeAt gb 0 RP) := Lib.hid (fun V hV => rangeAt_row ((hV.block _ (Array.getElem?_eq_some_iff.1 rkb).1 ngb).trans rkb))
        have HLK : Hid (∀ V, Keeps (GS Wk B B) Wk V → V.cell? (aL.add j) = some (.bool false)) := Lib.hid (fun V hV => (hV.cell (World.block_lt_of_cell? _ _ cK) (GS.not_low (by have := HC.out; omega) (Nat.le_refl _))).trans cK)
        have hSR : (Tryd.prog.info? 26).map (·.size) = some RH.length := by rw [← hRH, bvs_length, hh]; exact size_hash'
        have hSP : (Tryd.prog.info? 26).map (·.size) = some RP.length := by rw [← hRP, bvs_length, hp32]; exact size_hash'
        have SRH := Lib.hid hSR
        have SRP := Lib.hid hSP
        have SP := Lib.hid s2
        have ZP := Lib.hid (HZS.out.trans z2.symm)
        have OP := Lib.hid o2
        have SN := Lib.hid s3
        have ZN := Lib.hid (z1.trans z3.symm)
        have ON := Lib.hid o3
        have HAFT : Hid (∀ V, Keeps (GS Wk B B) Wk V → Keeps (fun k => g13 ≤ k) w2 (V.setRow g14 RN) ∧ Keeps (fun k => bk ≤ k) w (V.setRow g14 RN) ∧ (V.setRow g14 RN).heap[g13]? = some (.cells (bvs o').toArray 26 (0, 0)) ∧ V.heap[g14]? = some (.cells RH.toArray 26 (0, 0))) := Lib.hid (fun V hV => by
          have hcc := HC.out
          have gsB : ∀ {V : World} (i : Nat), GS V B B i → B ≤ i := fun i e => by rcases e with e | e; omega; exact e.1
          refine ⟨((KBJ.out.trans (kpk.mono (fun i _ e => by omega))).trans (hV.mono (fun i _ e => by have := gsB i e; omega))).trans ((Keeps.setRow _ _).mono (fun i _ e => by omega)), ((KJ.out.trans (kpk.mono (fun i _ e => by omega))).trans (hV.mono (fun i _ e => by have := gsB i e; omega))).trans ((Keeps.setRow _ _).mono (fun i _ e => by omega)), ?_, (hV.block _ (Array.getElem?_eq_some_iff.1 rk14).1 (GS.not_low (by omega) (Nat.le_refl _))).trans rk14⟩
          rw [setRow_other _ _ _ _ (by omega)]
          exact (hV.block _ (Array.getElem?_eq_some_iff.1 r13k).1 (GS.not_low (by omega) (Nat.le_refl _))).trans r13k)
        have HDONE := Lib.hid (hrows.trans (by rfl))
        have HHE := Lib.hid hhe'
        have HOE := Lib.hid hoe'
        have HRN := Lib.hid hRN
        clear k18 kj18 r13w kk0 kk r13k hcc kpk rkb rk14 hTk h4 cK hh hh1 hp32 ho1 hdl hrl hroot hrow hRH hRP hRN hrows hhe' hoe' s1 z1 o1 s2 z2 o2 s3 z3 o3 ngb hSR hSP KBJ KJ HFACT HARR RJB R13J R14J KJ0 HTJ HNW
        go_wp2_with (refine wpList_store_row rfl 26 _ _ rfl g13 RU rfl rfl 26 RT R13W.out SU.out ZU.out OU.out ?_; rw [hWk])
        refine wp_region_stores 9 [7, 8] [0, 1, 2, 3, 4, 5, 6, 7, 8] (fun V => Keeps (GS Wk B B) Wk V) (fun V => PSt V B B Bp Bw wide done) (by kernel_rfl) (by kernel_rfl) (fun _ _ h k => h.trans' k (fun _ _ h => h.elim)) (fun _ _ h k => h.later k) (((Keeps.refl _ _).drew)) (HPK.out.later ((Keeps.refl _ _).drew)) ?_
        refine T_value (get_op rfl) (by rfl) (by rfl) (.func (.func 41) #[] #[.pointer (some ⟨Bp, 0, none⟩), .pointer (some ⟨Bw, 0, none⟩)]) (fun _ _ => by go_simp) ?_
        simp only [Act.put, List.setIfInBounds_toArray, List.set_cons_zero, List.set_cons_succ]
        refine T_value (get_op rfl) (by rfl) (by rfl) (.slice (some aL) mm cL) (fun _ _ => by go_simp) ?_
        simp only [Act.put, List.setIfInBounds_toArray, List.set_cons_zero, List.set_cons_succ]
        refine T_value (get_op rfl) (by rfl) (by rfl) (.int .i64 (j : Int)) (fun _ _ => by go_simp) ?_
        simp only [Act.put, List.setIfInBounds_toArray, List.set_cons_zero, List.set_cons_succ]
        refine T_value (get_op rfl) (by rfl) (by rfl) (.pointer (some (aL.add j))) (fun _ _ => by go_simp) ?_
        simp only [Act.put, List.setIfInBounds_toArray, List.set_cons_zero, List.set_cons_succ]
        refine T_cell (get_op rfl) (by rfl) (by rfl) 4 (.tmp 79) (by rfl) (aL.add j) (by rfl) (.bool false) _ (fun V hV => HLK.out V hV) Tryd.underlying4 rfl ?_
        simp only [Act.put, List.setIfInBounds_toArray, List.set_cons_zero, List.set_cons_succ]
        refine T_load (get_op rfl) (by rfl) (by rfl) 26 (.tmp 14) (by rfl) g14 0 (by rfl) RH _ (fun V hV => HRH.out V hV) Tryd.underlying26 rfl SRH.out ?_
        simp only [Act.put, List.setIfInBounds_toArray, List.set_cons_zero, List.set_cons_succ]
        refine T_load (get_op rfl) (by rfl) (by rfl) 26 (.tmp 18) (by rfl) gb 0 (by rfl) RP _ (fun V hV => HRP.out V hV) Tryd.underlying26 rfl SRP.out ?_
        simp only [Act.put, List.setIfInBounds_toArray, List.set_cons_zero, List.set_cons_succ]
        refine T_enterR (get_op rfl) (by rfl) (by rfl) _ _ (fun x : Option Addr × Nat => .slice x.1 65 x.2) (fun x y h => by cases x; cases y; simp at h; simp [h]) (fun _ => by go_simp) (fun x V => PSt V B B Bp Bw wide done ∧ RowOk V (x.1, x.2, row)) (fun x w w' h hk => ⟨h.1.later hk, h.2.later hk⟩) (fun V hb hf => HNR.out V hb hf) ?_
        intro x7
        simp only [Act.put, List.setIfInBounds_toArray, List.set_cons_zero, List.set_cons_succ]
        refine T_enter (get_op rfl) (by rfl) (by rfl) _ _ (.agg RN) (fun _ => by go_simp) (fun V => PSt V B B Bp Bw wide (done ++ [row])) (fun _ _ h k => h.later k) (fun V hb hf => HCL.out V x7 hb hf.1 hf.2) ?_
        simp only [Act.put, List.setIfInBounds_toArray, List.set_cons_zero, List.set_cons_succ]
        refine T_nil ?_
        intro V9 h9 f9
        simp only [List.drop_succ_cons, List.drop_zero]
        obtain ⟨a1, a2, a3, a4⟩ := HAFT.out V9 h9
        have R9 := Lib.hid a4
        have A1 := Lib.hid a1
        have A2 := Lib.hid a2
        have A3 := Lib.hid a3
        have P10 : Hid (PSt (V9.setRow g14 RN) B B Bp Bw wide (done ++ [row])) := Lib.hid (f9.keeps (Keeps.setRow g14 RN) (fun k cs t fr hc ht e => by
          subst e
          rw [R9.out] at hc
          injection hc with hc
          injection hc with _ hc
          subst hc
          rcases ht with h | h | h | h | h <;> exact absurd h (by decide)))
        clear a1 a2 a3 a4 h9 f9 HAFT HNR HCL HRH HRP HLK
        go_wp2_with (refine wpList_store_row rfl 26 _ _ rfl g14 RN rfl rfl 26 RH.toArray R9.out SN.out ZN.out ON.out ?_)
        go_roundw
        case rel =>
          refine ⟨j + 1, by omega, by go_num, by rw [HDONE.out]; exact P10, by rw [HOE.out]; exact A3, Lib.hid ?_, A1, A2⟩
          rw [HHE.out, HRN.out]
          exact setRow_heap _ _ _ _ _ _ R9.out
        case measure => simp [intOf]; omega
    · obtain rfl : j = mm := by omega
      rw [HZ0.out] at HPJ0 RJ13 RJ14
      obtain ⟨A', c', rs, q1, q2, q3⟩ := HPJ0.out.told
      have hfl := Cl.oldOf_length k h z H32.out
      have hsl := Cl.rootOf_length k h z H32.out
      obtain ⟨RF, hRF⟩ : ∃ R, bvs (Cl.oldOf k h z) = R := ⟨_, rfl⟩
      obtain ⟨RS, hRS⟩ : ∃ R, bvs (Cl.rootOf k h z) = R := ⟨_, rfl⟩
      obtain ⟨s1, z1, o1⟩ := arr_hash _ hfl
      obtain ⟨s2, z2, o2⟩ := arr_hash _ hsl
      have r13 := RJ13.out
      have r14 := RJ14.out
      rw [hRF] at s1 z1 o1 r13
      rw [hRS] at s2 z2 o2 r14
      have hcc := HC.out
      have hzz := HZ12.out
      have r9 := (KBJ.out.block g9 (Array.getElem?_eq_some_iff.1 R9.out).1 (by omega)).trans R9.out
      have r10 := (KBJ.out.block g10 (Array.getElem?_eq_some_iff.1 R10.out).1 (by omega)).trans R10.out
      have RZ9 : Hid (wr.drew.heap[g9]? = some (.cells Z 26 (0, 0))) := Lib.hid r9
      have RZ10 : Hid (wr.drew.heap[g10]? = some (.cells Z 26 (0, 0))) := Lib.hid r10
      have HTB : Hid (∀ V, Keeps (fun k => k = g9 ∨ k = g10) wr V → V.cell? ⟨B, 0, none⟩ = some (.slice A' rs.length c')) := Lib.hid (fun V hV => (q1.keeps hV (by omega)).cell 0)
      have HRF : Hid (∀ V, Keeps (fun k => k = g9 ∨ k = g10) wr V → V.rangeAt g13 0 RF) := Lib.hid (fun V hV => rangeAt_row ((hV.block _ (Array.getElem?_eq_some_iff.1 r13).1 (by omega)).trans r13))
      have HRS : Hid (∀ V, Keeps (fun k => k = g9 ∨ k = g10) wr V → V.rangeAt g14 0 RS) := Lib.hid (fun V hV => rangeAt_row ((hV.block _ (Array.getElem?_eq_some_iff.1 r14).1 (by omega)).trans r14))
      have SRF : Hid ((Tryd.prog.info? 26).map (·.size) = some RF.length) := Lib.hid (by rw [← hRF, bvs_length, hfl]; exact size_hash')
      have SRS : Hid ((Tryd.prog.info? 26).map (·.size) = some RS.length) := Lib.hid (by rw [← hRS, bvs_length, hsl]; exact size_hash')
      have SF2 := Lib.hid s1
      have ZF := Lib.hid (HZS.out.trans z1.symm)
      have OF := Lib.hid o1
      have SS2 := Lib.hid s2
      have ZS := Lib.hid (HZS.out.trans z2.symm)
      have OS := Lib.hid o2
      have G910 : Hid (g9 ≠ g10) := Lib.hid (by omega)
      have HRFE := Lib.hid hRF
      have HRSE := Lib.hid hRS
      have HQ3 := Lib.hid q3
      have hgs : ∀ k cs t fr, wr.heap[k]? = some (.cells cs t fr) → t = 23 ∨ t = 5 → ¬ (k = g9 ∨ k = g10) := fun k cs t fr hc ht e => by
        rcases e with e | e
        · subst e
          rw [r9] at hc
          injection hc with hc
          injection hc with _ hc
          subst hc
          rcases ht with h | h <;> exact absurd h (by decide)
        · subst e
          rw [r10] at hc
          injection hc with hc
          injection hc with _ hc
          subst hc
          rcases ht with h | h <;> exact absurd h (by decide)
      have HFIN : Hid (∀ V, Keeps (fun k => k = g9 ∨ k = g10) wr V → RowsF V A' c' rs ∧ Keeps (fun _ => False) w V) := Lib.hid (fun V hV => ⟨fun S2 V2 hk2 hs2 => q2 (fun k => (k = g9 ∨ k = g10) ∨ S2 k) V2 ((hV.mono (fun _ _ e => .inl e)).trans (hk2.mono (fun _ _ e => .inr e))) (fun k cs t fr hc ht e => by
        rcases e with e | e
        · exact hgs k cs t fr hc ht e
        · exact hs2 k cs t fr ((hV.block k (Array.getElem?_eq_some_iff.1 hc).1 (hgs k cs t fr hc ht)).trans hc) ht e), (KJ.out.trans (hV.mono (fun i _ e => by omega))).mono (fun i hi e => by have := HBK.out; omega)⟩)
      clear hgs q1 q2 q3 hfl hsl hRF hRS s1 z1 o1 s2 z2 o2 r13 r14 hcc hzz r9 r10 HPJ0 RJ13 RJ14 KBJ KJ
      go_wp2_with fail
      refine wp_region_stores 7 [4, 5] [0, 1, 2, 3, 4, 5, 6] (fun V => Keeps (fun k => k = g9 ∨ k = g10) wr V) (fun V => V.heap[g9]? = some (.cells Z 26 (0, 0)) ∧ V.heap[g10]? = some (.cells Z 26 (0, 0))) (by kernel_rfl) (by kernel_rfl) (fun _ _ h k => h.trans' k (fun _ _ h => h.elim)) ((Lasts.block _ _).and (Lasts.block _ _)) (((Keeps.refl _ _).drew)) (⟨RZ9.out, RZ10.out⟩) ?_
      refine T_cell (get_op rfl) (by rfl) (by rfl) 51 (.tmp 15) (by rfl) ⟨B, 0, none⟩ (by rfl) (.slice A' rs.length c') _ (fun V hV => HTB.out V hV) Tryd.underlying51 rfl ?_
      simp only [Act.put, List.setIfInBounds_toArray, List.set_cons_zero, List.set_cons_succ]
      refine T_load (get_op rfl) (by rfl) (by rfl) 26 (.tmp 13) (by rfl) g13 0 (by rfl) RF _ (fun V hV => HRF.out V hV) Tryd.underlying26 rfl SRF.out ?_
      simp only [Act.put, List.setIfInBounds_toArray, List.set_cons_zero, List.set_cons_succ]
      refine T_load (get_op rfl) (by rfl) (by rfl) 26 (.tmp 14) (by rfl) g14 0 (by rfl) RS _ (fun V hV => HRS.out V hV) Tryd.underlying26 rfl SRS.out ?_
      simp only [Act.put, List.setIfInBounds_toArray, List.set_cons_zero, List.set_cons_succ]
      refine T_value (get_op rfl) (by rfl) (by rfl) (.slice A' rs.length c') (fun _ _ => by go_simp) ?_
      simp only [Act.put, List.setIfInBounds_toArray, List.set_cons_zero, List.set_cons_succ]
      refine T_store (get_op rfl) (by rfl) (by rfl) 26 (.tmp 9) (.tmp 87) (by rfl) (by rfl) g9 (by rfl) RF.toArray Z (by rfl) 26 SF2.out ZF.out OF.out (fun V => V.heap[g9]? = some (.cells RF.toArray 26 (0, 0)) ∧ V.heap[g10]? = some (.cells Z 26 (0, 0))) ((Lasts.block _ _).and (Lasts.block _ _)) (fun V hb hf => ⟨hf.1, hb.trans ((Keeps.setRow _ _).mono (fun _ _ e => .inl e)), setRow_heap _ _ _ _ _ _ hf.1, (setRow_other _ _ _ _ (by have := G910.out; omega)).trans hf.2⟩) ?_
      refine T_store (get_op rfl) (by rfl) (by rfl) 26 (.tmp 10) (.tmp 88) (by rfl) (by rfl) g10 (by rfl) RS.toArray Z (by rfl) 26 SS2.out ZS.out OS.out (fun V => V.heap[g9]? = some (.cells RF.toArray 26 (0, 0)) ∧ V.heap[g10]? = some (.cells RS.toArray 26 (0, 0))) ((Lasts.block _ _).and (Lasts.block _ _)) (fun V hb hf => ⟨hf.2, hb.trans ((Keeps.setRow _ _).mono (fun _ _ e => .inr e)), (setRow_other _ _ _ _ (by have := G910.out; omega)).trans hf.1, setRow_heap _ _ _ _ _ _ hf.2⟩) ?_
      refine T_value (get_op rfl) (by rfl) (by rfl) (.int .i64 0) (fun _ _ => by go_simp) ?_
      simp only [Act.put, List.setIfInBounds_toArray, List.set_cons_zero, List.set_cons_succ]
      refine T_nil ?_
      intro V9 h9 f9
      simp only [List.drop_succ_cons, List.drop_nil]
      have F9 := Lib.hid f9
      have H9 := Lib.hid (HFIN.out V9 h9)
      clear h9 f9 HFIN HTB HRF HRS
      go_wp2_with fail
      refine bodyPost_ret (results_tcct rfl _ _ g9 26 RF.toArray (0, 0) _ g10 26 RS.toArray (0, 0) _ (.slice A' rs.length c') (.int .i64 0) rfl rfl F9.out.1 Tryd.underlying26 rfl SF2.out rfl F9.out.2 Tryd.underlying26 rfl SS2.out rfl) rfl ?_
      exact ⟨A', c', rs, by rw [HRFE.out, HRSE.out], H9.out.1, HQ3.out, H9.out.2⟩
end Go.Proofs.YtjblnjeloimbgaaDoor
