/-
  What chain.Verify's closure makes: two roots. WRITTEN BY wip/gen/mkchd.py.
-/
import Derived.Test.YtjblnjeloimbgaaDoorTrG
import Derived.Test.YtjblnjeloimbgaaDoorChA
import Derived.Test.YtjblnjeloimbgaaDoorWalkT
namespace Go.Proofs.YtjblnjeloimbgaaDoor
open Go.RowKit Go.BigFrame
set_option linter.unusedVariables false

def cmFn (Bo Bm : Nat) : Value := .func (.func 29) #[] #[.pointer (some ⟨Bo, 0, none⟩), .pointer (some ⟨Bm, 0, none⟩)]
/-- What the closure sees: the old key, and itself. -/
structure CSees (w : World) (Bo Bm : Nat) (o : List UInt8) : Prop where
  box : ∃ s : Int, Row w Bo 35 (.int .u64 s :: bvs o)
  fn : Row w Bm 66 [cmFn Bo Bm]
theorem CSees.later {w w' : World} {Bo Bm : Nat} {o : List UInt8} (h : CSees w Bo Bm o) (hk : Keeps (fun _ => False) w w') : CSees w' Bo Bm o := by
  obtain ⟨s, hs⟩ := h.box
  exact ⟨⟨s, hs.keeps hk id⟩, h.fn.keeps hk id⟩
theorem CSees.root {w : World} {Bo Bm : Nat} {o : List UInt8} (h : CSees w Bo Bm o) : w.rangeAt Bo 1 (bvs o) := fun j v hv => by
  obtain ⟨s, hs⟩ := h.box
  rw [hs.cell, Nat.add_comm, List.getElem?_cons_succ]
  exact hv
theorem two_rows {V : World} {g1 g2 : Nat} {Z1 Z2 R1 R2 : Array Value} {t t2 : TypeId} (hne : g1 ≠ g2) (h1 : V.heap[g1]? = some (.cells Z1 t (0, 0))) (h2 : V.heap[g2]? = some (.cells Z2 t2 (0, 0))) :
    (V.setRow g1 R1).heap[g2]? = some (.cells Z2 t2 (0, 0)) ∧ ((V.setRow g1 R1).setRow g2 R2).heap[g1]? = some (.cells R1 t (0, 0)) ∧ ((V.setRow g1 R1).setRow g2 R2).heap[g2]? = some (.cells R2 t2 (0, 0)) := by
  have a : (V.setRow g1 R1).heap[g2]? = some (.cells Z2 t2 (0, 0)) := (setRow_other V g1 g2 R1 (fun e => hne e.symm)).trans h2
  exact ⟨a, (setRow_other _ g2 g1 R2 hne).trans (setRow_heap _ _ _ _ _ _ h1), setRow_heap _ _ _ _ _ _ a⟩
theorem zero_hash : ∃ Z : Array Value, (bvs (List.replicate 32 0)).toArray = Z ∧ (∀ w : World, (zeroValue 26).run Tryd.prog w = .ok (.agg Z) w) ∧ Z.size = 32 := ⟨_, rfl, fun _ => by kernel_rfl, rfl⟩
theorem arr_hash (L : List UInt8) (hL : L.length = 32) : (Tryd.prog.info? 26).map (·.size) = some (bvs L).toArray.size ∧ (bvs L).toArray.size = 32 ∧ (bvs L).toArray.all (·.oneCell') = true :=
  ⟨by rw [List.size_toArray, bvs_length, hL]; exact size_hash', by rw [List.size_toArray, bvs_length, hL], bvs_all _⟩
set_option maxRecDepth 100000 in
set_option maxHeartbeats 1000000 in
theorem cm_whole (Bo Bm : Nat) (o : List UInt8) (ho : o.length = 32) (v : Value) (n : Int) (w : World) (hS : CSees w Bo Bm o) :
    Calls Tryd.prog 29 #[.int .u64 n, .int .u64 n, .bool true, v, .pointer (some ⟨Bo, 0, none⟩), .pointer (some ⟨Bm, 0, none⟩)] w fun e w' => e = .returned (.tuple #[.agg (bvs o).toArray, .agg (bvs o).toArray]) ∧ Keeps (fun _ => False) w w' := by
  obtain ⟨Z, hZ, hz, hzs⟩ := zero_hash
  obtain ⟨W1, hW1⟩ : ∃ W, w.alloc (.cells Z 26) = W := ⟨_, rfl⟩
  obtain ⟨W2, hW2⟩ : ∃ W, W1.alloc (.cells Z 26) = W := ⟨_, rfl⟩
  have k1 : Keeps (fun _ => False) w W1 := by rw [← hW1]; exact (Keeps.refl _ _).alloc _
  have k2 : Keeps (fun _ => False) W1 W2 := by rw [← hW2]; exact (Keeps.refl _ _).alloc _
  have b1 : w.heap.size < W1.heap.size := by rw [← hW1]; simp
  have b2 : W1.heap.size < W2.heap.size := by rw [← hW2]; simp
  have r10 : W2.heap[w.heap.size]? = some (.cells Z 26 (0, 0)) := (k2.block _ b1 id).trans (by rw [← hW1]; exact heap_alloc_new w _)
  have r11 : W2.heap[W1.heap.size]? = some (.cells Z 26 (0, 0)) := by rw [← hW2]; exact heap_alloc_new W1 _
  have k0 := k1.trans k2
  have HNE := Lib.hid (show w.heap.size ≠ W1.heap.size by omega)
  have HNL := Lib.hid b1
  clear hZ
  have hrg : ∀ V, Later w V → V.rangeAt Bo 1 (bvs o) := fun V hV => (hS.later hV.out).root
  have hnn : (n == n) = true := by simp
  obtain ⟨a1, a2, a3⟩ := arr_hash o ho
  have hpi : (Tryd.prog.info? 26).map (·.size) = some (bvs o).length := by rw [bvs_length, ho]; exact size_hash'
  obtain ⟨O, hO⟩ : ∃ O, bvs o = O := ⟨_, rfl⟩
  rw [hO] at hrg hpi a1 a2 a3 ⊢
  have R10 := Lib.hid r10
  have R11 := Lib.hid r11
  have HSZ := Lib.hid a1
  have HZR := Lib.hid (hzs.trans a2.symm)
  have HONE := Lib.hid a3
  have HRG := Lib.hid hrg
  have HPI := Lib.hid hpi
  clear a1 a2 a3 hrg hpi hO r10 r11 k1 k2 b1 b2 hS hzs ho
  go_enter Tryd.func29, Tryd.ntmps29
  go_wp2_with fail
  refine wp_region_stores 6 [4, 5] [0, 1, 2, 3, 4, 5] (Later w) (fun V => V.heap[w.heap.size]? = some (.cells Z 26 (0, 0)) ∧ V.heap[W1.heap.size]? = some (.cells Z 26 (0, 0))) (by kernel_rfl) (by kernel_rfl) (Lasts.later _) ((Lasts.and (Lasts.block _ _) (Lasts.block _ _))) (⟨k0.drew⟩) (⟨R10.out, R11.out⟩) ?_
  refine T_quiet (get_op rfl) (by rfl) (by rfl) (by rfl) ?_
  intro K hK
  go_big_quiet_op
  first | go_big_quiet_on | go_big_quiet_call ((intro _; rfl))
  refine T_load (get_op rfl) (by rfl) (by rfl) 26 (.tmp 24) (by rfl) Bo 1 (by rfl) O _ (fun V hV => HRG.out V hV) Tryd.underlying26 rfl HPI.out ?_
  simp only [Act.put, List.setIfInBounds_toArray, List.set_cons_zero, List.set_cons_succ]
  refine T_quiet (get_op rfl) (by rfl) (by rfl) (by rfl) ?_
  intro K hK
  go_big_quiet_op
  first | go_big_quiet_on | go_big_quiet_call ((intro _; rfl))
  refine T_load (get_op rfl) (by rfl) (by rfl) 26 (.tmp 26) (by rfl) Bo 1 (by rfl) O _ (fun V hV => HRG.out V hV) Tryd.underlying26 rfl HPI.out ?_
  simp only [Act.put, List.setIfInBounds_toArray, List.set_cons_zero, List.set_cons_succ]
  refine T_store (get_op rfl) (by rfl) (by rfl) 26 (.tmp 10) (.tmp 25) (by rfl) (by rfl) w.heap.size (by rfl) O.toArray Z (by rfl) 26 HSZ.out HZR.out HONE.out (fun V => V.heap[w.heap.size]? = some (.cells O.toArray 26 (0, 0)) ∧ V.heap[W1.heap.size]? = some (.cells Z 26 (0, 0))) (Lasts.and (Lasts.block _ _) (Lasts.block _ _)) (fun V hb hf => ⟨hf.1, ⟨hb.out.trans' (Keeps.setRow _ _) (fun i hi h => by omega)⟩, setRow_heap _ _ _ _ _ _ hf.1, (setRow_other V w.heap.size W1.heap.size O.toArray (fun e => HNE.out e.symm)).trans hf.2⟩) ?_
  refine T_store (get_op rfl) (by rfl) (by rfl) 26 (.tmp 11) (.tmp 27) (by rfl) (by rfl) W1.heap.size (by rfl) O.toArray Z (by rfl) 26 HSZ.out HZR.out HONE.out (fun V => V.heap[w.heap.size]? = some (.cells O.toArray 26 (0, 0)) ∧ V.heap[W1.heap.size]? = some (.cells O.toArray 26 (0, 0))) (Lasts.and (Lasts.block _ _) (Lasts.block _ _)) (fun V hb hf => ⟨hf.2, ⟨hb.out.trans' (Keeps.setRow _ _) (fun i hi h => by have := HNL.out; omega)⟩, (setRow_other V W1.heap.size w.heap.size O.toArray HNE.out).trans hf.1, setRow_heap _ _ _ _ _ _ hf.2⟩) ?_
  refine T_nil ?_
  intro w9 hb9 hf9
  simp only [List.drop_succ_cons, List.drop_zero]
  have HC := Lib.hid hf9.1
  have HD := Lib.hid hf9.2
  have KF := Lib.hid hb9.out
  clear hf9 hb9
  go_wp2
  refine bodyPost_ret (results_cell_cell rfl _ _ w.heap.size 26 O.toArray (0, 0) _ W1.heap.size 26 O.toArray (0, 0) _ rfl HC.out Tryd.underlying26 rfl HSZ.out rfl HD.out Tryd.underlying26 rfl HSZ.out) rfl ?_
  exact ⟨rfl, KF.out⟩

set_option maxRecDepth 100000 in
set_option maxHeartbeats 1000000 in
theorem cm_part (Bo Bm b off c : Nat) (p : List UInt8) (hp : p.length = 32) (n : Int) (w : World) (hr : w.rangeAt b off (bvs p)) :
    Calls Tryd.prog 29 #[.int .u64 n, .int .u64 n, .bool false, .slice (some ⟨b, off, none⟩) 1 c, .pointer (some ⟨Bo, 0, none⟩), .pointer (some ⟨Bm, 0, none⟩)] w fun e w' => e = .returned (.tuple #[.agg (bvs p).toArray, .agg (bvs p).toArray]) ∧ Keeps (fun _ => False) w w' := by
  obtain ⟨Z, hZ, hz, hzs⟩ := zero_hash
  obtain ⟨W1, hW1⟩ : ∃ W, w.alloc (.cells Z 26) = W := ⟨_, rfl⟩
  obtain ⟨W2, hW2⟩ : ∃ W, W1.alloc (.cells Z 26) = W := ⟨_, rfl⟩
  have k1 : Keeps (fun _ => False) w W1 := by rw [← hW1]; exact (Keeps.refl _ _).alloc _
  have k2 : Keeps (fun _ => False) W1 W2 := by rw [← hW2]; exact (Keeps.refl _ _).alloc _
  have b1 : w.heap.size < W1.heap.size := by rw [← hW1]; simp
  have b2 : W1.heap.size < W2.heap.size := by rw [← hW2]; simp
  have r10 : W2.heap[w.heap.size]? = some (.cells Z 26 (0, 0)) := (k2.block _ b1 id).trans (by rw [← hW1]; exact heap_alloc_new w _)
  have r11 : W2.heap[W1.heap.size]? = some (.cells Z 26 (0, 0)) := by rw [← hW2]; exact heap_alloc_new W1 _
  have k0 := k1.trans k2
  have HNE := Lib.hid (show w.heap.size ≠ W1.heap.size by omega)
  have HNL := Lib.hid b1
  clear hZ
  have hrg : ∀ V, Later w V → V.rangeAt b off (bvs p) := fun V hV => range_keeps hr hV.out (fun _ _ => id)
  have hnn : (n == n) = true := by simp
  obtain ⟨a1, a2, a3⟩ := arr_hash p hp
  have hpi : (Tryd.prog.info? 26).map (·.size) = some (bvs p).length := by rw [bvs_length, hp]; exact size_hash'
  obtain ⟨O, hO⟩ : ∃ O, bvs p = O := ⟨_, rfl⟩
  rw [hO] at hrg hpi a1 a2 a3 ⊢
  have R10 := Lib.hid r10
  have R11 := Lib.hid r11
  have HSZ := Lib.hid a1
  have HZR := Lib.hid (hzs.trans a2.symm)
  have HONE := Lib.hid a3
  have HRG := Lib.hid hrg
  have HPI := Lib.hid hpi
  clear a1 a2 a3 hrg hpi hO r10 r11 k1 k2 b1 b2 hr hzs hp
  go_enter Tryd.func29, Tryd.ntmps29
  go_wp2_with fail
  refine wp_region_stores 8 [6, 7] [0, 1, 2, 3, 4, 5, 6, 7] (Later w) (fun V => V.heap[w.heap.size]? = some (.cells Z 26 (0, 0)) ∧ V.heap[W1.heap.size]? = some (.cells Z 26 (0, 0))) (by kernel_rfl) (by kernel_rfl) (Lasts.later _) ((Lasts.and (Lasts.block _ _) (Lasts.block _ _))) (⟨k0.drew⟩) (⟨R10.out, R11.out⟩) ?_
  refine T_quiet (get_op rfl) (by rfl) (by rfl) (by rfl) ?_
  intro K hK
  go_big_quiet_op
  first | go_big_quiet_on | go_big_quiet_call ((intro _; rfl))
  refine T_quiet (get_op rfl) (by rfl) (by rfl) (by rfl) ?_
  intro K hK
  go_big_quiet_op
  first | go_big_quiet_on | go_big_quiet_call ((intro _; rfl))
  refine T_load (get_op rfl) (by rfl) (by rfl) 26 (.tmp 29) (by rfl) b off (by rfl) O _ (fun V hV => HRG.out V hV) Tryd.underlying26 rfl HPI.out ?_
  simp only [Act.put, List.setIfInBounds_toArray, List.set_cons_zero, List.set_cons_succ]
  refine T_quiet (get_op rfl) (by rfl) (by rfl) (by rfl) ?_
  intro K hK
  go_big_quiet_op
  first | go_big_quiet_on | go_big_quiet_call ((intro _; rfl))
  refine T_quiet (get_op rfl) (by rfl) (by rfl) (by rfl) ?_
  intro K hK
  go_big_quiet_op
  first | go_big_quiet_on | go_big_quiet_call ((intro _; rfl))
  refine T_load (get_op rfl) (by rfl) (by rfl) 26 (.tmp 32) (by rfl) b off (by rfl) O _ (fun V hV => HRG.out V hV) Tryd.underlying26 rfl HPI.out ?_
  simp only [Act.put, List.setIfInBounds_toArray, List.set_cons_zero, List.set_cons_succ]
  refine T_store (get_op rfl) (by rfl) (by rfl) 26 (.tmp 10) (.tmp 30) (by rfl) (by rfl) w.heap.size (by rfl) O.toArray Z (by rfl) 26 HSZ.out HZR.out HONE.out (fun V => V.heap[w.heap.size]? = some (.cells O.toArray 26 (0, 0)) ∧ V.heap[W1.heap.size]? = some (.cells Z 26 (0, 0))) (Lasts.and (Lasts.block _ _) (Lasts.block _ _)) (fun V hb hf => ⟨hf.1, ⟨hb.out.trans' (Keeps.setRow _ _) (fun i hi h => by omega)⟩, setRow_heap _ _ _ _ _ _ hf.1, (setRow_other V w.heap.size W1.heap.size O.toArray (fun e => HNE.out e.symm)).trans hf.2⟩) ?_
  refine T_store (get_op rfl) (by rfl) (by rfl) 26 (.tmp 11) (.tmp 33) (by rfl) (by rfl) W1.heap.size (by rfl) O.toArray Z (by rfl) 26 HSZ.out HZR.out HONE.out (fun V => V.heap[w.heap.size]? = some (.cells O.toArray 26 (0, 0)) ∧ V.heap[W1.heap.size]? = some (.cells O.toArray 26 (0, 0))) (Lasts.and (Lasts.block _ _) (Lasts.block _ _)) (fun V hb hf => ⟨hf.2, ⟨hb.out.trans' (Keeps.setRow _ _) (fun i hi h => by have := HNL.out; omega)⟩, (setRow_other V W1.heap.size w.heap.size O.toArray HNE.out).trans hf.1, setRow_heap _ _ _ _ _ _ hf.2⟩) ?_
  refine T_nil ?_
  intro w9 hb9 hf9
  simp only [List.drop_succ_cons, List.drop_zero]
  have HC := Lib.hid hf9.1
  have HD := Lib.hid hf9.2
  have KF := Lib.hid hb9.out
  clear hf9 hb9
  go_wp2
  refine bodyPost_ret (results_cell_cell rfl _ _ w.heap.size 26 O.toArray (0, 0) _ W1.heap.size 26 O.toArray (0, 0) _ rfl HC.out Tryd.underlying26 rfl HSZ.out rfl HD.out Tryd.underlying26 rfl HSZ.out) rfl ?_
  exact ⟨rfl, KF.out⟩
set_option maxRecDepth 100000 in
set_option maxHeartbeats 4000000 in
theorem cmade_any (Bo Bm : Nat) (o : List UInt8) (ho : o.length = 32) : ∀ (f : Nat) (A : Option Addr) (c : Nat) (ps : List (List UInt8)) (m n : Nat) (q : Bool) (w : World), Tabs w → PathAt w A ps → CSees w Bo Bm o → 1 ≤ m → m ≤ n → n ≤ 18446744073709551615 → Tr.deep n ≤ f → ps.length = Tr.lng m n q → ps.length ≤ c → c ≤ 9223372036854775807 →
    Calls Tryd.prog 29 #[.int .u64 (m : Int), .int .u64 (n : Int), .bool q, .slice A ps.length c, .pointer (some ⟨Bo, 0, none⟩), .pointer (some ⟨Bm, 0, none⟩)] w fun e w' => e = .returned (.tuple #[.agg (bvs (Tr.cmd m n q o ps).1).toArray, .agg (bvs (Tr.cmd m n q o ps).2).toArray]) ∧ Keeps (fun _ => False) w w' := by
  have same : ∀ (A : Option Addr) (c : Nat) (ps : List (List UInt8)) (m : Nat) (q : Bool) (w : World), PathAt w A ps → CSees w Bo Bm o → ps.length = Tr.lng m m q →
      Calls Tryd.prog 29 #[.int .u64 (m : Int), .int .u64 (m : Int), .bool q, .slice A ps.length c, .pointer (some ⟨Bo, 0, none⟩), .pointer (some ⟨Bm, 0, none⟩)] w fun e w' => e = .returned (.tuple #[.agg (bvs (Tr.cmd m m q o ps).1).toArray, .agg (bvs (Tr.cmd m m q o ps).2).toArray]) ∧ Keeps (fun _ => False) w w' := by
    intro A c ps m q w hP hS hl
    rw [Tr.lng_eq] at hl
    rw [Tr.cmd_eq]
    cases q with
    | true => exact cm_whole Bo Bm o ho _ _ w hS
    | false =>
      match ps, hl, hP with
      | [p], _, hP =>
        obtain ⟨b, off, rfl, hr⟩ := hP.lie 0 p rfl
        rw [Nat.zero_mul, Nat.add_zero] at hr
        exact cm_part Bo Bm b off c p (hP.all p (by simp)) _ w hr
  intro f
  induction f with
  | zero =>
    intro A c ps m n q w hT hP hS hm1 hmn hn hf hl hc hmax
    have h2 : n < 2 := by
      rcases Nat.lt_or_ge n 2 with h | h
      · exact h
      · have := (Tr.deep_split h).2; omega
    obtain rfl : m = n := by omega
    exact same A c ps m q w hP hS hl
  | succ f ih =>
    intro A c ps m n q w hT hP hS hm1 hmn hn hf hl hc hmax
    rcases Nat.eq_or_lt_of_le hmn with rfl | hlt
    · exact same A c ps m q w hP hS hl
    have h2 : 2 ≤ n := by omega
    have hmore := Tr.cmd_more q o ps hm1 hlt (by omega)
    have hst := Tr.lng_more q hm1 hlt (by omega)
    have a1 := Tr.split_pos h2
    have a2 := Tr.split_lt h2
    have hd1 := Tr.deep_left h2
    have hd2 := Tr.deep_right h2
    have hd64 : Tr.deep n ≤ 64 := Tr.deep_le (by omega)
    have hsp := fun W => split_any n W (by omega)
    obtain ⟨k, hk⟩ : ∃ k, Tr.split n = k := ⟨_, rfl⟩
    rw [hk] at hmore hst a1 a2 hd1 hd2 hsp
    rw [← hl] at hst
    have hpos : 0 < ps.length := by rw [hst]; split <;> omega
    obtain ⟨l, hlm⟩ : ∃ l, ps.length = l + 1 := ⟨ps.length - 1, by omega⟩
    obtain ⟨p, hp⟩ : ∃ p, ps[l]? = some p := ⟨_, List.getElem?_eq_getElem (by omega)⟩
    have hpd : ps.getD (ps.length - 1) [] = p := by rw [List.getD_eq_getElem?_getD, take_pred ps l hlm, hp]; rfl
    have hp32 : p.length = 32 := hP.all p (List.mem_of_getElem? hp)
    obtain ⟨b, off, rfl, hrg⟩ := hP.lie l p hp
    rw [hpd, take_pred ps l hlm] at hmore
    have hqs := hP.take l
    obtain ⟨qs, hqq⟩ : ∃ qs, ps.take l = qs := ⟨_, rfl⟩
    have hql : qs.length = l := by rw [← hqq, List.length_take]; omega
    rw [hqq] at hmore hqs
    rw [hlm] at hc hst ⊢
    obtain ⟨Z, hZ, hz, hzs⟩ := zero_hash
    obtain ⟨W1, hW1⟩ : ∃ W, w.alloc (.cells Z 26) = W := ⟨_, rfl⟩
    obtain ⟨W2, hW2⟩ : ∃ W, W1.alloc (.cells Z 26) = W := ⟨_, rfl⟩
    have k1 : Keeps (fun _ => False) w W1 := by rw [← hW1]; exact (Keeps.refl _ _).alloc _
    have k2 : Keeps (fun _ => False) W1 W2 := by rw [← hW2]; exact (Keeps.refl _ _).alloc _
    have b1 : w.heap.size < W1.heap.size := by rw [← hW1]; simp
    have b2 : W1.heap.size < W2.heap.size := by rw [← hW2]; simp
    have r10 : W2.heap[w.heap.size]? = some (.cells Z 26 (0, 0)) := (k2.block _ b1 id).trans (by rw [← hW1]; exact heap_alloc_new w _)
    have r11 : W2.heap[W1.heap.size]? = some (.cells Z 26 (0, 0)) := by rw [← hW2]; exact heap_alloc_new W1 _
    have k0 := k1.trans k2
    have HNE := Lib.hid (show w.heap.size ≠ W1.heap.size by omega)
    have HNL := Lib.hid b1
    clear hZ
    have HSP := Lib.hid hsp
    have R10 := Lib.hid r10
    have R11 := Lib.hid r11
    have K0 := Lib.hid k0
    have hv : ∀ V, Keeps (fun _ => False) W2 V → V.cell? ⟨Bm, 0, none⟩ = some (.func (.func 29) #[] #[.pointer (some ⟨Bo, 0, none⟩), .pointer (some ⟨Bm, 0, none⟩)]) := fun V hV => by
      rw [(hS.later (k0.trans hV)).fn.cell]; rfl
    have HV := Lib.hid hv
    have hr : ∀ V, Later W2 V → V.rangeAt b (off + l * 32) (bvs p) := fun V hV => range_keeps hrg (k0.trans hV.out) (fun _ _ => id)
    have hpi : (Tryd.prog.info? 26).map (·.size) = some (bvs p).length := by rw [bvs_length, hp32]; exact size_hash'
    obtain ⟨p1, p2, p3⟩ := arr_hash p hp32
    obtain ⟨O, hO⟩ : ∃ O, bvs p = O := ⟨_, rfl⟩
    rw [hO] at hr hpi p1 p2 p3
    have HRG := Lib.hid hr
    have HPI := Lib.hid hpi
    have SP := Lib.hid p1
    have ZP := Lib.hid (hzs.trans p2.symm)
    have OP := Lib.hid p3
    have hal : ∀ V : World, (Instr.alloc 26 true (.tuple #[])).run Tryd.prog V = .ok (.pointer (some ⟨V.heap.size, 0, none⟩)) (V.alloc (.cells Z 26)) := fun V => by go_simp
    have HAL := Lib.hid hal
    have hnode : ∀ (x y : List UInt8), x.length = 32 → y.length = 32 → ∀ V, Keeps (fun _ => False) w V → Calls Tryd.prog 26 #[.agg (bvs x).toArray, .agg (bvs y).toArray] V fun e w' => e = .returned (.agg (bvs (Tr.node x y)).toArray) ∧ Keeps (fun _ => False) V w' := fun x y hx hy V hV =>
      node_any x y V (hT.keeps hV id id) hx hy
    have hs1 : (l : Int) ≤ c := by omega
    have hs2 : (l : Int) + 1 ≤ c := by omega
    have hs3 : (l : Int) ≤ 9223372036854775806 := by omega
    have hn1 : ((m : Int) == (n : Int)) = false := by rw [beq_eq_false_iff_ne]; omega
    clear hsp hv hr hpi p1 p2 p3 hal r10 r11 k1 k2 k0 b1 b2 hlm hpos same
    by_cases hik : m ≤ k
    · rw [if_pos hik] at hmore hst
      have hst' : l = Tr.lng m k q := by omega
      have c1 : ∀ V, Keeps (fun _ => False) w V → Calls Tryd.prog 29 #[.int .u64 (m : Int), .int .u64 (k : Int), .bool q, .slice (some ⟨b, off, none⟩) l l, .pointer (some ⟨Bo, 0, none⟩), .pointer (some ⟨Bm, 0, none⟩)] V fun e w' => e = .returned (.tuple #[.agg (bvs (Tr.cmd m k q o qs).1).toArray, .agg (bvs (Tr.cmd m k q o qs).2).toArray]) ∧ Keeps (fun _ => False) V w' := fun V hV => by
          have h := ih (some ⟨b, off, none⟩) l qs m k q V (hT.keeps hV id id) (hqs.keeps hV (fun _ _ => id)) (hS.later hV) hm1 hik (by omega) (by omega) (by rw [hql]; exact hst') (by omega) (by omega)
          rw [hql] at h
          exact h
      obtain ⟨hL1, hL2⟩ := Tr.cmd_length 64 m k q o qs (by omega) hm1 hik (by omega) ho (fun x hx => hP.all x (List.mem_of_mem_take (hqq ▸ hx))) (by rw [hql]; exact hst')
      obtain ⟨L1, hl1⟩ : ∃ L, (Tr.cmd m k q o qs).1 = L := ⟨_, rfl⟩
      obtain ⟨L2, hl2⟩ : ∃ L, (Tr.cmd m k q o qs).2 = L := ⟨_, rfl⟩
      rw [hl1] at hL1
      rw [hl2] at hL2
      rw [hl1, hl2] at c1 hmore
      have cn := hnode L2 p hL2 hp32
      obtain ⟨N2, hN2⟩ : ∃ R, (bvs (Tr.node L2 p)).toArray = R := ⟨_, rfl⟩
      rw [hN2] at cn
      have CN := Lib.hid cn
      obtain ⟨x1, x2, x3⟩ := arr_hash (Tr.node L2 p) (Tr.node_length _ _)
      rw [hN2] at x1 x2 x3
      have S3 := Lib.hid x1
      have Z3 := Lib.hid (hzs.trans x2.symm)
      have O3 := Lib.hid x3
      rw [hmore]
      obtain ⟨a1, a2, a3⟩ := arr_hash L1 hL1
      obtain ⟨d1, d2, d3⟩ := arr_hash L2 hL2
      obtain ⟨F1, hF1⟩ : ∃ R, (bvs L1).toArray = R := ⟨_, rfl⟩
      obtain ⟨F2, hF2⟩ : ∃ R, (bvs L2).toArray = R := ⟨_, rfl⟩
      rw [hF1] at a1 a2 a3
      rw [hF2] at d1 d2 d3
      rw [hF1, hF2] at c1
      have S1 := Lib.hid a1
      have Z1 := Lib.hid (hzs.trans a2.symm)
      have O1 := Lib.hid a3
      have S2 := Lib.hid d1
      have Z2 := Lib.hid (hzs.trans d2.symm)
      have O2 := Lib.hid d3
      have C1 := Lib.hid c1
      simp only
      rw [hF1, hN2]
      rw [hF2, hO] at CN
      have hik1 : (m : Int) ≤ k := by omega
      clear c1 x1 x2 x3 cn a1 a2 a3 d1 d2 d3 hF1 hF2 hl1 hl2 hL1 hL2 hst hst' hmore ih hT hP hS hqs hnode hql hqq hl hp32 hpd hrg hf hd1 hd2 hk hO hp hm1 hN2 ho
      go_enter Tryd.func29, Tryd.ntmps29
      go_wp2_with (go_at_call 25; refine (HSP.out _).mono ?_; rintro e w' ⟨rfl, rfl⟩)
      refine wp_region_stores 11 [8, 9] [0, 1, 2, 3, 4, 5, 6, 7, 8, 9, 10] (Later w') (fun _ => True) (by kernel_rfl) (by kernel_rfl) (Lasts.later _) (Lasts.true) (⟨(Keeps.refl _ _).drew⟩) (trivial) ?_
      refine T_quiet (get_op rfl) (by rfl) (by rfl) (by rfl) ?_
      intro K hK
      go_big_quiet_op
      first | go_big_quiet_on | go_big_quiet_call ((intro _; rfl))
      refine T_quiet (get_op rfl) (by rfl) (by rfl) (by rfl) ?_
      intro K hK
      go_big_quiet_op
      first | go_big_quiet_on | go_big_quiet_call ((intro _; rfl))
      refine T_quiet (get_op rfl) (by rfl) (by rfl) (by rfl) ?_
      intro K hK
      go_big_quiet_op
      first | go_big_quiet_on | go_big_quiet_call ((intro _; rfl))
      refine T_load (get_op rfl) (by rfl) (by rfl) 26 (.tmp 41) (by rfl) b (off + l * 32) (by rfl) O _ (fun V hV => HRG.out V hV) Tryd.underlying26 rfl HPI.out ?_
      simp only [Act.put, List.setIfInBounds_toArray, List.set_cons_zero, List.set_cons_succ]
      refine T_quiet (get_op rfl) (by rfl) (by rfl) (by rfl) ?_
      intro K hK
      go_big_quiet_op
      first | go_big_quiet_on | go_big_quiet_call ((intro _; rfl))
      refine T_quiet (get_op rfl) (by rfl) (by rfl) (by rfl) ?_
      intro K hK
      go_big_quiet_op
      first | go_big_quiet_on | go_big_quiet_call ((intro _; rfl))
      refine T_quiet (get_op rfl) (by rfl) (by rfl) (by rfl) ?_
      intro K hK
      go_big_quiet_op
      first | go_big_quiet_on | go_big_quiet_call ((intro _; rfl))
      refine T_quiet (get_op rfl) (by rfl) (by rfl) (by rfl) ?_
      intro K hK
      go_big_quiet_op
      first | go_big_quiet_on | go_big_quiet_call ((intro _; rfl))
      refine T_alloc (get_op rfl) (by rfl) (by rfl) 26 Z (by rfl) HAL.out (Lasts.later _) Lasts.true w'.heap.size (fun V hV => hV.out.size) ?_
      intro g14 hge
      simp only [Act.put, List.setIfInBounds_toArray, List.set_cons_zero, List.set_cons_succ]
      refine T_store (get_op rfl) (by rfl) (by rfl) 26 (.tmp 14) (.tmp 42) (by rfl) (by rfl) g14 (by rfl) O.toArray Z (by rfl) 26 SP.out ZP.out OP.out (fun V => V.heap[g14]? = some (.cells O.toArray 26 (0, 0))) (Lasts.block _ _) (fun V hb hf => ⟨hf.2, ⟨hb.out.trans' (Keeps.setRow _ _) (fun i hi h => by omega)⟩, setRow_heap _ _ _ _ _ _ hf.2⟩) ?_
      refine T_quiet (get_op rfl) (by rfl) (by rfl) (by rfl) ?_
      intro K hK
      go_big_quiet_op
      first | go_big_quiet_on | go_big_quiet_call ((intro _; rfl))
      refine T_nil ?_
      intro V6 h6 r14
      simp only [List.drop_succ_cons, List.drop_zero]
      have k6 := h6.out
      have hv6 := HV.out V6 k6
      have K6 := Lib.hid k6
      have R14 := Lib.hid r14
      clear hge h6 r14 k6
      go_wp2_with fail
      refine (C1.out V6 (K0.out.trans K6.out)).mono ?_
      rintro e w7 ⟨rfl, k7⟩
      obtain ⟨W8, hW8⟩ : ∃ V, w7.alloc (.cells Z 26) = V := ⟨_, rfl⟩
      obtain ⟨W8', hW8'⟩ : ∃ V, W8.alloc (.cells Z 26) = V := ⟨_, rfl⟩
      have k8 : Keeps (fun _ => False) w7 W8 := by rw [← hW8]; exact (Keeps.refl _ _).alloc _
      have k8' : Keeps (fun _ => False) W8 W8' := by rw [← hW8']; exact (Keeps.refl _ _).alloc _
      have b8 : w7.heap.size < W8.heap.size := by rw [← hW8]; simp
      have b8' : W8.heap.size < W8'.heap.size := by rw [← hW8']; simp
      have ra : W8'.heap[w7.heap.size]? = some (.cells Z 26 (0, 0)) := (k8'.block _ b8 id).trans (by rw [← hW8]; exact heap_alloc_new w7 _)
      have rb : W8'.heap[W8.heap.size]? = some (.cells Z 26 (0, 0)) := by rw [← hW8']; exact heap_alloc_new W8 _
      have hh := two_rows (R1 := F1) (R2 := F2) (show w7.heap.size ≠ W8.heap.size by omega) ra rb
      have HA := Lib.hid ra
      have HB := Lib.hid hh.1
      have HC := Lib.hid hh.2.1
      have HD := Lib.hid hh.2.2
      have kk : Keeps (fun _ => False) w7 ((W8'.setRow w7.heap.size F1).setRow W8.heap.size F2) := ((k8.trans k8').trans' (Keeps.setRow w7.heap.size F1) (fun i hi h => by omega)).trans' (Keeps.setRow W8.heap.size F2) (fun i hi h => by omega)
      have KK := Lib.hid (k7.trans kk)
      clear hh ra rb k8 k8' kk k7 b8 b8' C1 HV hv6
      go_wp2_with (first
        | (refine wpList_store_row rfl 26 _ _ rfl w7.heap.size F1 rfl rfl 26 Z HA.out S1.out Z1.out O1.out ?_)
        | (refine wpList_store_row rfl 26 _ _ rfl W8.heap.size F2 rfl rfl 26 Z HB.out S2.out Z2.out O2.out ?_))
      obtain ⟨W9, hW9⟩ : ∃ V, (W8'.setRow w7.heap.size F1).setRow W8.heap.size F2 = V := ⟨_, rfl⟩
      rw [hW9] at HC HD KK ⊢
      clear hW9 hW8 hW8'
      have k29 : Keeps (fun _ => False) w' W9 := K6.out.trans KK.out
      have k0 := K0.out
      have r10 := (k29.block _ (Array.getElem?_eq_some_iff.1 R10.out).1 id).trans R10.out
      have r11 := (k29.block _ (Array.getElem?_eq_some_iff.1 R11.out).1 id).trans R11.out
      have r14 := (KK.out.block _ (Array.getElem?_eq_some_iff.1 R14.out).1 id).trans R14.out
      have GA : Hid (∀ V, Later W9 V → V.heap[w7.heap.size]? = some (.cells F1 26 (0, 0))) := fun V hV => (hV.out.block _ (Array.getElem?_eq_some_iff.1 HC.out).1 id).trans HC.out
      have GB : Hid (∀ V, Later W9 V → V.heap[W8.heap.size]? = some (.cells F2 26 (0, 0))) := fun V hV => (hV.out.block _ (Array.getElem?_eq_some_iff.1 HD.out).1 id).trans HD.out
      have GC : Hid (∀ V, Later W9 V → V.heap[g14]? = some (.cells O.toArray 26 (0, 0))) := fun V hV => (hV.out.block _ (Array.getElem?_eq_some_iff.1 r14).1 id).trans r14
      have G10 : Hid (∀ V, Later W9 V → V.heap[w.heap.size]? = some (.cells Z 26 (0, 0))) := fun V hV => (hV.out.block _ (Array.getElem?_eq_some_iff.1 r10).1 id).trans r10
      have G11 : Hid (∀ V, Later W9 V → V.heap[W1.heap.size]? = some (.cells Z 26 (0, 0))) := fun V hV => (hV.out.block _ (Array.getElem?_eq_some_iff.1 r11).1 id).trans r11
      have KW : Hid (∀ V, Later W9 V → Keeps (fun _ => False) w V) := fun V hV => (k0.trans k29).trans hV.out
      have KV : Hid (∀ V, Later W9 V → Keeps (fun _ => False) w V) := KW
      have CNW : Hid (∀ V, Later W9 V → Calls Tryd.prog 26 #[.agg F2, (.agg O.toArray)] V fun e w' => e = .returned (.agg N2) ∧ Later W9 w') := fun V hV => (CN.out V (KV.out V hV)).mono fun e w' h => ⟨h.1, ⟨hV.out.trans h.2⟩⟩
      clear k29 k0 r10 r11 r14 HA HB HC HD KK K6 R14 CN KV
      go_wp2_with fail
      refine wp_region_phase 4 (Later W9) (by kernel_rfl) (by kernel_rfl) ⟨(Keeps.refl _ _).drew⟩ ?_
      simp only [List.take_succ_cons, List.take_zero, List.drop_succ_cons, List.drop_zero]
      refine class_load (by rfl) 26 (.tmp 16) (by rfl) w7.heap.size (by rfl) 26 F1 (0, 0) _ GA.out Tryd.underlying26 rfl S1.out ?_
      simp only [Act.put, List.setIfInBounds_toArray, List.set_cons_zero, List.set_cons_succ]
      refine class_load (by rfl) 26 (.tmp 17) (by rfl) W8.heap.size (by rfl) 26 F2 (0, 0) _ GB.out Tryd.underlying26 rfl S2.out ?_
      simp only [Act.put, List.setIfInBounds_toArray, List.set_cons_zero, List.set_cons_succ]
      refine class_load (by rfl) 26 (.tmp 14) (by rfl) g14 (by rfl) 26 O.toArray (0, 0) _ GC.out Tryd.underlying26 rfl SP.out ?_
      simp only [Act.put, List.setIfInBounds_toArray, List.set_cons_zero, List.set_cons_succ]
      go_big_quiet_want
      go_big_quiet_op
      refine ⟨(.agg N2), fun V hV => CNW.out V hV, ?_⟩
      go_big_quiet_on
      refine wpQuiet_nil ?_
      intro w9 k9
      have hh := two_rows (R1 := F1) (R2 := N2) HNE.out (G10.out w9 k9) (G11.out w9 k9)
      have HA := Lib.hid (G10.out w9 k9)
      have HB := Lib.hid hh.1
      have HC := Lib.hid hh.2.1
      have HD := Lib.hid hh.2.2
      have KF := Lib.hid (KW.out w9 k9)
      clear hh
      go_wp2_with (first
        | (refine wpList_store_row rfl 26 _ _ rfl w.heap.size F1 rfl rfl 26 Z HA.out S1.out Z1.out O1.out ?_)
        | (refine wpList_store_row rfl 26 _ _ rfl W1.heap.size N2 rfl rfl 26 Z HB.out S3.out Z3.out O3.out ?_))
      refine bodyPost_ret (results_cell_cell rfl _ _ w.heap.size 26 F1 (0, 0) _ W1.heap.size 26 N2 (0, 0) _ rfl HC.out Tryd.underlying26 rfl S1.out rfl HD.out Tryd.underlying26 rfl S3.out) rfl ?_
      exact ⟨rfl, (KF.out.trans' (Keeps.setRow w.heap.size F1) (fun i hi h => by omega)).trans' (Keeps.setRow W1.heap.size N2) (fun i hi h => by have := HNL.out; omega)⟩
    · rw [if_neg hik] at hmore hst
      have hst' : l = Tr.lng (m - k) (n - k) false := by omega
      have c1 : ∀ V, Keeps (fun _ => False) w V → Calls Tryd.prog 29 #[.int .u64 ((m : Int) - (k : Int)), .int .u64 ((n : Int) - (k : Int)), .bool false, .slice (some ⟨b, off, none⟩) l l, .pointer (some ⟨Bo, 0, none⟩), .pointer (some ⟨Bm, 0, none⟩)] V fun e w' => e = .returned (.tuple #[.agg (bvs (Tr.cmd (m - k) (n - k) false o qs).1).toArray, .agg (bvs (Tr.cmd (m - k) (n - k) false o qs).2).toArray]) ∧ Keeps (fun _ => False) V w' := fun V hV => by
          have h := ih (some ⟨b, off, none⟩) l qs (m - k) (n - k) false V (hT.keeps hV id id) (hqs.keeps hV (fun _ _ => id)) (hS.later hV) (by omega) (by omega) (by omega) (by omega) (by rw [hql]; exact hst') (by omega) (by omega)
          rw [hql, show ((n - k : Nat) : Int) = (n : Int) - (k : Int) by omega, show ((m - k : Nat) : Int) = (m : Int) - (k : Int) by omega] at h
          exact h
      obtain ⟨hL1, hL2⟩ := Tr.cmd_length 64 (m - k) (n - k) false o qs (by omega) (by omega) (by omega) (by omega) ho (fun x hx => hP.all x (List.mem_of_mem_take (hqq ▸ hx))) (by rw [hql]; exact hst')
      obtain ⟨L1, hl1⟩ : ∃ L, (Tr.cmd (m - k) (n - k) false o qs).1 = L := ⟨_, rfl⟩
      obtain ⟨L2, hl2⟩ : ∃ L, (Tr.cmd (m - k) (n - k) false o qs).2 = L := ⟨_, rfl⟩
      rw [hl1] at hL1
      rw [hl2] at hL2
      rw [hl1, hl2] at c1 hmore
      have cn := hnode p L1 hp32 hL1
      have cq := hnode p L2 hp32 hL2
      obtain ⟨N1, hN1⟩ : ∃ R, (bvs (Tr.node p L1)).toArray = R := ⟨_, rfl⟩
      obtain ⟨N2, hN2⟩ : ∃ R, (bvs (Tr.node p L2)).toArray = R := ⟨_, rfl⟩
      rw [hN1] at cn
      rw [hN2] at cq
      have CN := Lib.hid cn
      have CQ := Lib.hid cq
      obtain ⟨x1, x2, x3⟩ := arr_hash (Tr.node p L1) (Tr.node_length _ _)
      obtain ⟨y1, y2, y3⟩ := arr_hash (Tr.node p L2) (Tr.node_length _ _)
      rw [hN1] at x1 x2 x3
      rw [hN2] at y1 y2 y3
      have S3 := Lib.hid x1
      have Z3 := Lib.hid (hzs.trans x2.symm)
      have O3 := Lib.hid x3
      have S4 := Lib.hid y1
      have Z4 := Lib.hid (hzs.trans y2.symm)
      have O4 := Lib.hid y3
      rw [hmore]
      obtain ⟨a1, a2, a3⟩ := arr_hash L1 hL1
      obtain ⟨d1, d2, d3⟩ := arr_hash L2 hL2
      obtain ⟨F1, hF1⟩ : ∃ R, (bvs L1).toArray = R := ⟨_, rfl⟩
      obtain ⟨F2, hF2⟩ : ∃ R, (bvs L2).toArray = R := ⟨_, rfl⟩
      rw [hF1] at a1 a2 a3
      rw [hF2] at d1 d2 d3
      rw [hF1, hF2] at c1
      have S1 := Lib.hid a1
      have Z1 := Lib.hid (hzs.trans a2.symm)
      have O1 := Lib.hid a3
      have S2 := Lib.hid d1
      have Z2 := Lib.hid (hzs.trans d2.symm)
      have O2 := Lib.hid d3
      have C1 := Lib.hid c1
      simp only
      rw [hN1, hN2]
      rw [hF1, hO] at CN
      rw [hF2, hO] at CQ
      have hik1 : ¬ (m : Int) ≤ k := by omega
      clear c1 x1 x2 x3 cn cq y1 y2 y3 a1 a2 a3 d1 d2 d3 hF1 hF2 hl1 hl2 hL1 hL2 hst hst' hmore ih hT hP hS hqs hnode hql hqq hl hp32 hpd hrg hf hd1 hd2 hk hO hp hm1 hN1 hN2 ho
      go_enter Tryd.func29, Tryd.ntmps29
      go_wp2_with (go_at_call 25; refine (HSP.out _).mono ?_; rintro e w' ⟨rfl, rfl⟩)
      refine wp_region_stores 11 [8, 9] [0, 1, 2, 3, 4, 5, 6, 7, 8, 9, 10] (Later w') (fun _ => True) (by kernel_rfl) (by kernel_rfl) (Lasts.later _) (Lasts.true) (⟨(Keeps.refl _ _).drew⟩) (trivial) ?_
      refine T_quiet (get_op rfl) (by rfl) (by rfl) (by rfl) ?_
      intro K hK
      go_big_quiet_op
      first | go_big_quiet_on | go_big_quiet_call ((intro _; rfl))
      refine T_quiet (get_op rfl) (by rfl) (by rfl) (by rfl) ?_
      intro K hK
      go_big_quiet_op
      first | go_big_quiet_on | go_big_quiet_call ((intro _; rfl))
      refine T_quiet (get_op rfl) (by rfl) (by rfl) (by rfl) ?_
      intro K hK
      go_big_quiet_op
      first | go_big_quiet_on | go_big_quiet_call ((intro _; rfl))
      refine T_load (get_op rfl) (by rfl) (by rfl) 26 (.tmp 41) (by rfl) b (off + l * 32) (by rfl) O _ (fun V hV => HRG.out V hV) Tryd.underlying26 rfl HPI.out ?_
      simp only [Act.put, List.setIfInBounds_toArray, List.set_cons_zero, List.set_cons_succ]
      refine T_quiet (get_op rfl) (by rfl) (by rfl) (by rfl) ?_
      intro K hK
      go_big_quiet_op
      first | go_big_quiet_on | go_big_quiet_call ((intro _; rfl))
      refine T_quiet (get_op rfl) (by rfl) (by rfl) (by rfl) ?_
      intro K hK
      go_big_quiet_op
      first | go_big_quiet_on | go_big_quiet_call ((intro _; rfl))
      refine T_quiet (get_op rfl) (by rfl) (by rfl) (by rfl) ?_
      intro K hK
      go_big_quiet_op
      first | go_big_quiet_on | go_big_quiet_call ((intro _; rfl))
      refine T_quiet (get_op rfl) (by rfl) (by rfl) (by rfl) ?_
      intro K hK
      go_big_quiet_op
      first | go_big_quiet_on | go_big_quiet_call ((intro _; rfl))
      refine T_alloc (get_op rfl) (by rfl) (by rfl) 26 Z (by rfl) HAL.out (Lasts.later _) Lasts.true w'.heap.size (fun V hV => hV.out.size) ?_
      intro g14 hge
      simp only [Act.put, List.setIfInBounds_toArray, List.set_cons_zero, List.set_cons_succ]
      refine T_store (get_op rfl) (by rfl) (by rfl) 26 (.tmp 14) (.tmp 42) (by rfl) (by rfl) g14 (by rfl) O.toArray Z (by rfl) 26 SP.out ZP.out OP.out (fun V => V.heap[g14]? = some (.cells O.toArray 26 (0, 0))) (Lasts.block _ _) (fun V hb hf => ⟨hf.2, ⟨hb.out.trans' (Keeps.setRow _ _) (fun i hi h => by omega)⟩, setRow_heap _ _ _ _ _ _ hf.2⟩) ?_
      refine T_quiet (get_op rfl) (by rfl) (by rfl) (by rfl) ?_
      intro K hK
      go_big_quiet_op
      first | go_big_quiet_on | go_big_quiet_call ((intro _; rfl))
      refine T_nil ?_
      intro V6 h6 r14
      simp only [List.drop_succ_cons, List.drop_zero]
      have k6 := h6.out
      have hv6 := HV.out V6 k6
      have K6 := Lib.hid k6
      have R14 := Lib.hid r14
      clear hge h6 r14 k6
      go_wp2_with fail
      refine (C1.out V6 (K0.out.trans K6.out)).mono ?_
      rintro e w7 ⟨rfl, k7⟩
      obtain ⟨W8, hW8⟩ : ∃ V, w7.alloc (.cells Z 26) = V := ⟨_, rfl⟩
      obtain ⟨W8', hW8'⟩ : ∃ V, W8.alloc (.cells Z 26) = V := ⟨_, rfl⟩
      have k8 : Keeps (fun _ => False) w7 W8 := by rw [← hW8]; exact (Keeps.refl _ _).alloc _
      have k8' : Keeps (fun _ => False) W8 W8' := by rw [← hW8']; exact (Keeps.refl _ _).alloc _
      have b8 : w7.heap.size < W8.heap.size := by rw [← hW8]; simp
      have b8' : W8.heap.size < W8'.heap.size := by rw [← hW8']; simp
      have ra : W8'.heap[w7.heap.size]? = some (.cells Z 26 (0, 0)) := (k8'.block _ b8 id).trans (by rw [← hW8]; exact heap_alloc_new w7 _)
      have rb : W8'.heap[W8.heap.size]? = some (.cells Z 26 (0, 0)) := by rw [← hW8']; exact heap_alloc_new W8 _
      have hh := two_rows (R1 := F1) (R2 := F2) (show w7.heap.size ≠ W8.heap.size by omega) ra rb
      have HA := Lib.hid ra
      have HB := Lib.hid hh.1
      have HC := Lib.hid hh.2.1
      have HD := Lib.hid hh.2.2
      have kk : Keeps (fun _ => False) w7 ((W8'.setRow w7.heap.size F1).setRow W8.heap.size F2) := ((k8.trans k8').trans' (Keeps.setRow w7.heap.size F1) (fun i hi h => by omega)).trans' (Keeps.setRow W8.heap.size F2) (fun i hi h => by omega)
      have KK := Lib.hid (k7.trans kk)
      clear hh ra rb k8 k8' kk k7 b8 b8' C1 HV hv6
      go_wp2_with (first
        | (refine wpList_store_row rfl 26 _ _ rfl w7.heap.size F1 rfl rfl 26 Z HA.out S1.out Z1.out O1.out ?_)
        | (refine wpList_store_row rfl 26 _ _ rfl W8.heap.size F2 rfl rfl 26 Z HB.out S2.out Z2.out O2.out ?_))
      obtain ⟨W9, hW9⟩ : ∃ V, (W8'.setRow w7.heap.size F1).setRow W8.heap.size F2 = V := ⟨_, rfl⟩
      rw [hW9] at HC HD KK ⊢
      clear hW9 hW8 hW8'
      have k29 : Keeps (fun _ => False) w' W9 := K6.out.trans KK.out
      have k0 := K0.out
      have r10 := (k29.block _ (Array.getElem?_eq_some_iff.1 R10.out).1 id).trans R10.out
      have r11 := (k29.block _ (Array.getElem?_eq_some_iff.1 R11.out).1 id).trans R11.out
      have r14 := (KK.out.block _ (Array.getElem?_eq_some_iff.1 R14.out).1 id).trans R14.out
      have GA : Hid (∀ V, Later W9 V → V.heap[w7.heap.size]? = some (.cells F1 26 (0, 0))) := fun V hV => (hV.out.block _ (Array.getElem?_eq_some_iff.1 HC.out).1 id).trans HC.out
      have GB : Hid (∀ V, Later W9 V → V.heap[W8.heap.size]? = some (.cells F2 26 (0, 0))) := fun V hV => (hV.out.block _ (Array.getElem?_eq_some_iff.1 HD.out).1 id).trans HD.out
      have GC : Hid (∀ V, Later W9 V → V.heap[g14]? = some (.cells O.toArray 26 (0, 0))) := fun V hV => (hV.out.block _ (Array.getElem?_eq_some_iff.1 r14).1 id).trans r14
      have G10 : Hid (∀ V, Later W9 V → V.heap[w.heap.size]? = some (.cells Z 26 (0, 0))) := fun V hV => (hV.out.block _ (Array.getElem?_eq_some_iff.1 r10).1 id).trans r10
      have G11 : Hid (∀ V, Later W9 V → V.heap[W1.heap.size]? = some (.cells Z 26 (0, 0))) := fun V hV => (hV.out.block _ (Array.getElem?_eq_some_iff.1 r11).1 id).trans r11
      have KW : Hid (∀ V, Later W9 V → Keeps (fun _ => False) w V) := fun V hV => (k0.trans k29).trans hV.out
      have KV : Hid (∀ V, Later W9 V → Keeps (fun _ => False) w V) := KW
      have CNW : Hid (∀ V, Later W9 V → Calls Tryd.prog 26 #[(.agg O.toArray), .agg F1] V fun e w' => e = .returned (.agg N1) ∧ Later W9 w') := fun V hV => (CN.out V (KV.out V hV)).mono fun e w' h => ⟨h.1, ⟨hV.out.trans h.2⟩⟩
      have CQW : Hid (∀ V, Later W9 V → Calls Tryd.prog 26 #[(.agg O.toArray), .agg F2] V fun e w' => e = .returned (.agg N2) ∧ Later W9 w') := fun V hV => (CQ.out V (KV.out V hV)).mono fun e w' h => ⟨h.1, ⟨hV.out.trans h.2⟩⟩
      clear k29 k0 r10 r11 r14 HA HB HC HD KK K6 R14 CN CQ KV
      go_wp2_with fail
      refine wp_region_phase 6 (Later W9) (by kernel_rfl) (by kernel_rfl) ⟨(Keeps.refl _ _).drew⟩ ?_
      simp only [List.take_succ_cons, List.take_zero, List.drop_succ_cons, List.drop_zero]
      refine class_load (by rfl) 26 (.tmp 14) (by rfl) g14 (by rfl) 26 O.toArray (0, 0) _ GC.out Tryd.underlying26 rfl SP.out ?_
      simp only [Act.put, List.setIfInBounds_toArray, List.set_cons_zero, List.set_cons_succ]
      refine class_load (by rfl) 26 (.tmp 18) (by rfl) w7.heap.size (by rfl) 26 F1 (0, 0) _ GA.out Tryd.underlying26 rfl S1.out ?_
      simp only [Act.put, List.setIfInBounds_toArray, List.set_cons_zero, List.set_cons_succ]
      go_big_quiet_want
      go_big_quiet_op
      refine ⟨(.agg N1), fun V hV => CNW.out V hV, ?_⟩
      go_big_quiet_on
      refine class_load (by rfl) 26 (.tmp 14) (by rfl) g14 (by rfl) 26 O.toArray (0, 0) _ GC.out Tryd.underlying26 rfl SP.out ?_
      simp only [Act.put, List.setIfInBounds_toArray, List.set_cons_zero, List.set_cons_succ]
      refine class_load (by rfl) 26 (.tmp 19) (by rfl) W8.heap.size (by rfl) 26 F2 (0, 0) _ GB.out Tryd.underlying26 rfl S2.out ?_
      simp only [Act.put, List.setIfInBounds_toArray, List.set_cons_zero, List.set_cons_succ]
      go_big_quiet_want
      go_big_quiet_op
      refine ⟨(.agg N2), fun V hV => CQW.out V hV, ?_⟩
      go_big_quiet_on
      refine wpQuiet_nil ?_
      intro w9 k9
      have hh := two_rows (R1 := N1) (R2 := N2) HNE.out (G10.out w9 k9) (G11.out w9 k9)
      have HA := Lib.hid (G10.out w9 k9)
      have HB := Lib.hid hh.1
      have HC := Lib.hid hh.2.1
      have HD := Lib.hid hh.2.2
      have KF := Lib.hid (KW.out w9 k9)
      clear hh
      go_wp2_with (first
        | (refine wpList_store_row rfl 26 _ _ rfl w.heap.size N1 rfl rfl 26 Z HA.out S3.out Z3.out O3.out ?_)
        | (refine wpList_store_row rfl 26 _ _ rfl W1.heap.size N2 rfl rfl 26 Z HB.out S4.out Z4.out O4.out ?_))
      refine bodyPost_ret (results_cell_cell rfl _ _ w.heap.size 26 N1 (0, 0) _ W1.heap.size 26 N2 (0, 0) _ rfl HC.out Tryd.underlying26 rfl S3.out rfl HD.out Tryd.underlying26 rfl S4.out) rfl ?_
      exact ⟨rfl, (KF.out.trans' (Keeps.setRow w.heap.size N1) (fun i hi h => by omega)).trans' (Keeps.setRow W1.heap.size N2) (fun i hi h => by have := HNL.out; omega)⟩
end Go.Proofs.YtjblnjeloimbgaaDoor
