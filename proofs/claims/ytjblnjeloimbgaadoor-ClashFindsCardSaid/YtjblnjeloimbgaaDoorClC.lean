/-
  What is hashed of an entry and of two hashes (leafRow, nodeRow), and a row's narrow hash (narrow). WRITTEN BY wip/gen/mkclc.py.
-/
import Derived.Test.YtjblnjeloimbgaaDoorClB
namespace Go.Proofs.YtjblnjeloimbgaaDoor
open Go.RowKit Go.BigFrame
set_option linter.unusedVariables false

set_option maxRecDepth 100000 in
set_option maxHeartbeats 1000000 in
theorem leafrow_any (A : Option Addr) (c : Nat) (xs : List UInt8) (w : World) (hs : Src w A (bvs xs)) (hc : xs.length ≤ c) (hc1 : c ≤ 9223372036854775807) (hx : xs.length ≤ 1000) :
    Calls Tryd.prog 33 #[.slice A xs.length c] w fun e w' => ∃ A' d, e = .returned (.slice A' (xs.length + 1) d) ∧ Src w' A' (bvs (Cl.leafRow xs)) ∧ xs.length + 1 ≤ d ∧ d ≤ 9223372036854775807 ∧ T8 w' A' ∧ Keeps (fun _ => False) w w' := by
  obtain ⟨W2, hW2⟩ : ∃ W, w.alloc (.cells #[.int .u8 0] 5) = W := ⟨_, rfl⟩
  obtain ⟨W3, hW3⟩ : ∃ W, W2.alloc (.cells #[.slice (some ⟨w.heap.size, 0, none⟩) 1 1, .slice A xs.length c] 23) = W := ⟨_, rfl⟩
  have k2 : Keeps (fun _ => False) w W2 := by rw [← hW2]; exact (Keeps.refl _ _).alloc _
  have k3 : Keeps (fun _ => False) W2 W3 := by rw [← hW3]; exact (Keeps.refl _ _).alloc _
  have r2 : Row W2 w.heap.size 5 (bvs [0]) := by rw [← hW2]; exact heap_alloc_new w _
  have r3 : Row W3 W2.heap.size 23 [.slice (some ⟨w.heap.size, 0, none⟩) 1 1, .slice A xs.length c] := by rw [← hW3]; exact heap_alloc_new W2 _
  have hrows : RowsAt W3 (some ⟨W2.heap.size, 0, none⟩) [(some ⟨w.heap.size, 0, none⟩, 1, [0]), (A, c, xs)] :=
    rowsAt_two (by rw [add_plain]; exact r3.cell 0) (by rw [add_plain]; exact r3.cell 1) (src_new (r2.keeps k3 id)) ((hs.keeps k2 (fun _ _ _ => id)).keeps k3 (fun _ _ _ => id)) ⟨Nat.le_refl _, by show (1 : Nat) ≤ _; omega⟩ ⟨hc, hc1⟩
  have e : bytesOf [(some ⟨w.heap.size, 0, none⟩, 1, [0]), (A, c, xs)] = Cl.leafRow xs := by simp [bytesOf, Cl.leafRow]
  have hll : (Cl.leafRow xs).length = xs.length + 1 := rfl
  have hof := concat_any _ 2 _ W3 hrows (by simp) (by rw [e, hll]; omega)
  rw [e, hll] at hof
  have HOF : Hid (Calls Tryd.prog 42 #[.slice (some ⟨W2.heap.size, 0, none⟩) 2 2] W3 fun e w' => ∃ A' d, e = .returned (.slice A' (xs.length + 1) d) ∧ Src w' A' (bvs (Cl.leafRow xs)) ∧ xs.length + 1 ≤ d ∧ d ≤ 9223372036854775807 ∧ T8 w' A' ∧ Keeps (fun _ => False) W3 w') := hof
  have KK : Hid (Keeps (fun _ => False) w W3) := Lib.hid (k2.trans k3)
  clear hof hll e hrows r2 r3 k2 k3 hs hc hc1 hx
  go_enter Tryd.func33, Tryd.ntmps33
  go_wp2_with fail
  refine HOF.out.mono ?_
  rintro e w4 ⟨A', d, rfl, h1, h2, h3, h4, k4⟩
  go_wp2_with fail
  go_ret
  exact ⟨A', d, rfl, h1, h2, h3, h4, KK.out.trans k4⟩
set_option maxRecDepth 100000 in
set_option maxHeartbeats 1000000 in
theorem noderow_true (xs ys : List UInt8) (w : World) (hx : xs.length = 32) (hy : ys.length = 32) :
    Calls Tryd.prog 34 #[.bool true, .agg (bvs xs).toArray, .agg (bvs ys).toArray] w fun e w' => ∃ A d, e = .returned (.slice A 65 d) ∧ Src w' A (bvs (Cl.nodeRow true xs ys)) ∧ 65 ≤ d ∧ d ≤ 9223372036854775807 ∧ T8 w' A ∧ Keeps (fun _ => False) w w' := by
  obtain ⟨X, hX⟩ : ∃ X : Array Value, (bvs xs).toArray = X := ⟨_, rfl⟩
  obtain ⟨Y, hY⟩ : ∃ Y : Array Value, (bvs ys).toArray = Y := ⟨_, rfl⟩
  obtain ⟨sx, zx, ox⟩ := arr_hash xs hx
  obtain ⟨sy, zy, oy⟩ := arr_hash ys hy
  rw [hX] at sx zx ox
  rw [hY] at sy zy oy
  rw [hX, hY]
  obtain ⟨W1, hW1⟩ : ∃ W, w.alloc (.cells X 26) = W := ⟨_, rfl⟩
  obtain ⟨W2, hW2⟩ : ∃ W, W1.alloc (.cells Y 26) = W := ⟨_, rfl⟩
  have k1 : Keeps (fun _ => False) w W1 := by rw [← hW1]; exact (Keeps.refl _ _).alloc _
  have k2 : Keeps (fun _ => False) W1 W2 := by rw [← hW2]; exact (Keeps.refl _ _).alloc _
  have r1 : Row W1 w.heap.size 26 (bvs xs) := by rw [← hW1, ← hX]; exact heap_alloc_new w _
  have r2 : Row W2 W1.heap.size 26 (bvs ys) := by rw [← hW2, ← hY]; exact heap_alloc_new W1 _
  have hs1 : W1.heap.size = w.heap.size + 1 := by rw [← hW1]; simp
  obtain ⟨V, hV⟩ : ∃ W, W2 = W := ⟨_, rfl⟩
  have kv : Keeps (fun _ => False) w V := by rw [← hV]; exact k1.trans k2
  have q0 : Row V w.heap.size 26 (bvs xs) := by rw [← hV]; exact r1.keeps k2 id
  have q1 : Row V W1.heap.size 26 (bvs ys) := by rw [← hV]; exact r2
  rw [hV] at hW2
  obtain ⟨W4, hW4⟩ : ∃ W, V.drew.alloc (.cells #[.int .u8 1] 5) = W := ⟨_, rfl⟩
  obtain ⟨W5, hW5⟩ : ∃ W, W4.alloc (.cells #[.slice (some ⟨V.heap.size, 0, none⟩) 1 1, .slice (some ⟨w.heap.size, 0, none⟩) 32 32, .slice (some ⟨W1.heap.size, 0, none⟩) 32 32] 23) = W := ⟨_, rfl⟩
  have k4 : Keeps (fun _ => False) V W4 := by rw [← hW4]; exact (Keeps.refl _ _).drew.alloc _
  have k5 : Keeps (fun _ => False) W4 W5 := by rw [← hW5]; exact (Keeps.refl _ _).alloc _
  have r4 : Row W4 V.heap.size 5 (bvs [1]) := by rw [← hW4]; exact heap_alloc_new V.drew _
  have r5 : Row W5 W4.heap.size 23 [.slice (some ⟨V.heap.size, 0, none⟩) 1 1, .slice (some ⟨w.heap.size, 0, none⟩) 32 32, .slice (some ⟨W1.heap.size, 0, none⟩) 32 32] := by rw [← hW5]; exact heap_alloc_new W4 _
  have hrows : RowsAt W5 (some ⟨W4.heap.size, 0, none⟩) [(some ⟨V.heap.size, 0, none⟩, 1, [1]), (some ⟨w.heap.size, 0, none⟩, 32, xs), (some ⟨W1.heap.size, 0, none⟩, 32, ys)] :=
    rowsAt_three (by rw [add_plain]; exact r5.cell 0) (by rw [add_plain, hx]; exact r5.cell 1) (by rw [add_plain, hy]; exact r5.cell 2) (src_new (r4.keeps k5 id))
      (src_new ((q0.keeps k4 id).keeps k5 id)) (src_new ((q1.keeps k4 id).keeps k5 id)) ⟨Nat.le_refl _, by show (1 : Nat) ≤ _; omega⟩ ⟨by rw [hx]; exact Nat.le_refl _, by show (32 : Nat) ≤ _; omega⟩ ⟨by rw [hy]; exact Nat.le_refl _, by show (32 : Nat) ≤ _; omega⟩
  have e : bytesOf [(some ⟨V.heap.size, 0, none⟩, 1, [1]), (some ⟨w.heap.size, 0, none⟩, 32, xs), (some ⟨W1.heap.size, 0, none⟩, 32, ys)] = Cl.nodeRow true xs ys := by simp [bytesOf, Cl.nodeRow]
  have hnl := Cl.nodeRow_length true xs ys hx hy
  have hof := concat_any _ 3 _ W5 hrows (by simp) (by rw [e, hnl]; omega)
  rw [e, hnl] at hof
  have HOF : Hid (Calls Tryd.prog 42 #[.slice (some ⟨W4.heap.size, 0, none⟩) 3 3] W5 fun e w' => ∃ A d, e = .returned (.slice A 65 d) ∧ Src w' A (bvs (Cl.nodeRow true xs ys)) ∧ 65 ≤ d ∧ d ≤ 9223372036854775807 ∧ T8 w' A ∧ Keeps (fun _ => False) W5 w') := hof
  have KK : Hid (Keeps (fun _ => False) w W5) := Lib.hid ((kv.trans k4).trans k5)
  have SX := Lib.hid sx
  have SY := Lib.hid sy
  have OX := Lib.hid ox
  have OY := Lib.hid oy
  have ZX := Lib.hid (zx.trans zy.symm)
  clear hof hnl e hrows r1 r2 r4 r5 k1 k2 k4 k5 hx hy hX hY sx sy ox oy zx zy q0 q1 kv hs1
  go_enter Tryd.func34, Tryd.ntmps34
  go_wp2_with fail
  go_region_law ((go_simp; go_at_call 42; refine HOF.out.mono ?_; rintro e w6 ⟨A, d, rfl, h1, h2, h3, h4, k6⟩))
  all_goals
    go_wp2
    go_ret
    exact ⟨A, d, rfl, h1, h2, h3, h4, KK.out.trans k6⟩
set_option maxRecDepth 100000 in
set_option maxHeartbeats 1000000 in
theorem noderow_false (xs ys : List UInt8) (w : World) (hx : xs.length = 32) (hy : ys.length = 32) :
    Calls Tryd.prog 34 #[.bool false, .agg (bvs xs).toArray, .agg (bvs ys).toArray] w fun e w' => ∃ A d, e = .returned (.slice A 65 d) ∧ Src w' A (bvs (Cl.nodeRow false xs ys)) ∧ 65 ≤ d ∧ d ≤ 9223372036854775807 ∧ T8 w' A ∧ Keeps (fun _ => False) w w' := by
  obtain ⟨X, hX⟩ : ∃ X : Array Value, (bvs xs).toArray = X := ⟨_, rfl⟩
  obtain ⟨Y, hY⟩ : ∃ Y : Array Value, (bvs ys).toArray = Y := ⟨_, rfl⟩
  obtain ⟨sx, zx, ox⟩ := arr_hash xs hx
  obtain ⟨sy, zy, oy⟩ := arr_hash ys hy
  rw [hX] at sx zx ox
  rw [hY] at sy zy oy
  rw [hX, hY]
  obtain ⟨W1, hW1⟩ : ∃ W, w.alloc (.cells X 26) = W := ⟨_, rfl⟩
  obtain ⟨W2, hW2⟩ : ∃ W, W1.alloc (.cells Y 26) = W := ⟨_, rfl⟩
  have k1 : Keeps (fun _ => False) w W1 := by rw [← hW1]; exact (Keeps.refl _ _).alloc _
  have k2 : Keeps (fun _ => False) W1 W2 := by rw [← hW2]; exact (Keeps.refl _ _).alloc _
  have r1 : Row W1 w.heap.size 26 (bvs xs) := by rw [← hW1, ← hX]; exact heap_alloc_new w _
  have r2 : Row W2 W1.heap.size 26 (bvs ys) := by rw [← hW2, ← hY]; exact heap_alloc_new W1 _
  have hs1 : W1.heap.size = w.heap.size + 1 := by rw [← hW1]; simp
  obtain ⟨S1, hS1⟩ : ∃ W, W2.setRow w.heap.size Y = W := ⟨_, rfl⟩
  obtain ⟨V, hV⟩ : ∃ W, S1.setRow W1.heap.size X = W := ⟨_, rfl⟩
  have p0 : W2.heap[w.heap.size]? = some (.cells X 26 (0, 0)) := by rw [← hX]; exact r1.keeps k2 id
  have p1 : W2.heap[W1.heap.size]? = some (.cells Y 26 (0, 0)) := by rw [← hY]; exact r2
  have ks1 : Keeps (fun k => k = w.heap.size) W2 S1 := by rw [← hS1]; exact Keeps.setRow _ _
  have ks2 : Keeps (fun k => k = W1.heap.size) S1 V := by rw [← hV]; exact Keeps.setRow _ _
  have p1' : S1.heap[W1.heap.size]? = some (.cells Y 26 (0, 0)) := (ks1.block _ (Array.getElem?_eq_some_iff.1 p1).1 (by omega)).trans p1
  have p0' : S1.heap[w.heap.size]? = some (.cells Y 26 (0, 0)) := by rw [← hS1]; exact setRow_heap _ _ _ _ _ _ p0
  have kv : Keeps (fun _ => False) w V := ((k1.trans k2).trans' ks1 (fun i hi e => by omega)).trans' ks2 (fun i hi e => by omega)
  have q0 : Row V w.heap.size 26 (bvs ys) := by
    show V.heap[w.heap.size]? = _
    rw [hY]
    exact (ks2.block _ (Array.getElem?_eq_some_iff.1 p0').1 (by omega)).trans p0'
  have q1 : Row V W1.heap.size 26 (bvs xs) := by
    show V.heap[W1.heap.size]? = _
    rw [hX, ← hV]
    exact setRow_heap _ _ _ _ _ _ p1'
  have P0 := Lib.hid p0
  have P1 := Lib.hid p1
  have P1' := Lib.hid p1'
  have HS1 := Lib.hid hS1
  have HV := Lib.hid hV
  clear p0 p1 p1' p0' ks1 ks2 hS1 hV
  obtain ⟨W4, hW4⟩ : ∃ W, V.drew.alloc (.cells #[.int .u8 1] 5) = W := ⟨_, rfl⟩
  obtain ⟨W5, hW5⟩ : ∃ W, W4.alloc (.cells #[.slice (some ⟨V.heap.size, 0, none⟩) 1 1, .slice (some ⟨w.heap.size, 0, none⟩) 32 32, .slice (some ⟨W1.heap.size, 0, none⟩) 32 32] 23) = W := ⟨_, rfl⟩
  have k4 : Keeps (fun _ => False) V W4 := by rw [← hW4]; exact (Keeps.refl _ _).drew.alloc _
  have k5 : Keeps (fun _ => False) W4 W5 := by rw [← hW5]; exact (Keeps.refl _ _).alloc _
  have r4 : Row W4 V.heap.size 5 (bvs [1]) := by rw [← hW4]; exact heap_alloc_new V.drew _
  have r5 : Row W5 W4.heap.size 23 [.slice (some ⟨V.heap.size, 0, none⟩) 1 1, .slice (some ⟨w.heap.size, 0, none⟩) 32 32, .slice (some ⟨W1.heap.size, 0, none⟩) 32 32] := by rw [← hW5]; exact heap_alloc_new W4 _
  have hrows : RowsAt W5 (some ⟨W4.heap.size, 0, none⟩) [(some ⟨V.heap.size, 0, none⟩, 1, [1]), (some ⟨w.heap.size, 0, none⟩, 32, ys), (some ⟨W1.heap.size, 0, none⟩, 32, xs)] :=
    rowsAt_three (by rw [add_plain]; exact r5.cell 0) (by rw [add_plain, hy]; exact r5.cell 1) (by rw [add_plain, hx]; exact r5.cell 2) (src_new (r4.keeps k5 id))
      (src_new ((q0.keeps k4 id).keeps k5 id)) (src_new ((q1.keeps k4 id).keeps k5 id)) ⟨Nat.le_refl _, by show (1 : Nat) ≤ _; omega⟩ ⟨by rw [hy]; exact Nat.le_refl _, by show (32 : Nat) ≤ _; omega⟩ ⟨by rw [hx]; exact Nat.le_refl _, by show (32 : Nat) ≤ _; omega⟩
  have e : bytesOf [(some ⟨V.heap.size, 0, none⟩, 1, [1]), (some ⟨w.heap.size, 0, none⟩, 32, ys), (some ⟨W1.heap.size, 0, none⟩, 32, xs)] = Cl.nodeRow false xs ys := by simp [bytesOf, Cl.nodeRow]
  have hnl := Cl.nodeRow_length false xs ys hx hy
  have hof := concat_any _ 3 _ W5 hrows (by simp) (by rw [e, hnl]; omega)
  rw [e, hnl] at hof
  have HOF : Hid (Calls Tryd.prog 42 #[.slice (some ⟨W4.heap.size, 0, none⟩) 3 3] W5 fun e w' => ∃ A d, e = .returned (.slice A 65 d) ∧ Src w' A (bvs (Cl.nodeRow false xs ys)) ∧ 65 ≤ d ∧ d ≤ 9223372036854775807 ∧ T8 w' A ∧ Keeps (fun _ => False) W5 w') := hof
  have KK : Hid (Keeps (fun _ => False) w W5) := Lib.hid ((kv.trans k4).trans k5)
  have SX := Lib.hid sx
  have SY := Lib.hid sy
  have OX := Lib.hid ox
  have OY := Lib.hid oy
  have ZX := Lib.hid (zx.trans zy.symm)
  clear hof hnl e hrows r1 r2 r4 r5 k1 k2 k4 k5 hx hy hX hY sx sy ox oy zx zy q0 q1 kv hs1
  go_enter Tryd.func34, Tryd.ntmps34
  go_wp2_with (first
    | (refine wpList_load_row rfl 26 _ rfl W1.heap.size rfl 26 Y (0, 0) _ P1.out Tryd.underlying26 rfl SY.out ?_)
    | (refine wpList_load_row rfl 26 _ rfl w.heap.size rfl 26 X (0, 0) _ P0.out Tryd.underlying26 rfl SX.out ?_)
    | (refine wpList_store_row rfl 26 _ _ rfl w.heap.size Y rfl rfl 26 X P0.out SY.out ZX.out OY.out ?_; rw [HS1.out])
    | (refine wpList_store_row rfl 26 _ _ rfl W1.heap.size X rfl rfl 26 Y P1'.out SX.out ZX.out.symm OX.out ?_; rw [HV.out]))
  go_region_law ((go_simp; go_at_call 42; refine HOF.out.mono ?_; rintro e w6 ⟨A, d, rfl, h1, h2, h3, h4, k6⟩))
  all_goals
    go_wp2
    go_ret
    exact ⟨A, d, rfl, h1, h2, h3, h4, KK.out.trans k6⟩
theorem noderow_any (b : Bool) (xs ys : List UInt8) (w : World) (hx : xs.length = 32) (hy : ys.length = 32) :
    Calls Tryd.prog 34 #[.bool b, .agg (bvs xs).toArray, .agg (bvs ys).toArray] w fun e w' => ∃ A d, e = .returned (.slice A 65 d) ∧ Src w' A (bvs (Cl.nodeRow b xs ys)) ∧ 65 ≤ d ∧ d ≤ 9223372036854775807 ∧ T8 w' A ∧ Keeps (fun _ => False) w w' := by
  cases b
  · exact noderow_false xs ys w hx hy
  · exact noderow_true xs ys w hx hy
set_option maxRecDepth 100000 in
set_option maxHeartbeats 1000000 in
theorem narrow_any (wide : Int) (A : Option Addr) (c : Nat) (xs : List UInt8) (w : World) (hT : Tabs w) (hs : Src w A (bvs xs)) (hc : xs.length ≤ c) (hc1 : c ≤ 9223372036854775807) (hx : xs.length ≤ 100000) :
    Calls Tryd.prog 21 #[.int .i64 wide, .slice A xs.length c] w fun e w' => e = .returned (.agg (bvs (Cl.nar (Cl.wid wide) xs)).toArray) ∧ Keeps (fun _ => False) w w' := by
  obtain ⟨Z, hZ, hz, hzs⟩ := zero_hash
  obtain ⟨W1, hW1⟩ : ∃ W, w.alloc (.cells Z 26) = W := ⟨_, rfl⟩
  obtain ⟨W2, hW2⟩ : ∃ W, W1.alloc (.cells #[.slice A xs.length c] 23) = W := ⟨_, rfl⟩
  have k1 : Keeps (fun _ => False) w W1 := by rw [← hW1]; exact (Keeps.refl _ _).alloc _
  have k2 : Keeps (fun _ => False) W1 W2 := by rw [← hW2]; exact (Keeps.refl _ _).alloc _
  have r1 : W1.heap[w.heap.size]? = some (.cells Z 26 (0, 0)) := by rw [← hW1]; exact heap_alloc_new w _
  have r2 : Row W2 W1.heap.size 23 [.slice A xs.length c] := by rw [← hW2]; exact heap_alloc_new W1 _
  have hrows : RowsAt W2 (some ⟨W1.heap.size, 0, none⟩) [(A, c, xs)] := by
    refine ⟨fun i r hr => ⟨_, rfl, ?_⟩, fun r hr => ?_, fun r hr => ?_⟩
    · match i, hr with
      | 0, hr => cases hr; rw [add_plain]; exact r2.cell 0
    · rw [List.mem_singleton] at hr; subst hr; exact (hs.keeps k1 (fun _ _ _ => id)).keeps k2 (fun _ _ _ => id)
    · rw [List.mem_singleton] at hr; subst hr; exact ⟨hc, hc1⟩
  have hof := of_any _ 1 _ W2 ((hT.keeps k1 id id).keeps k2 id id) hrows (by simp) (by simp [bytesOf]; omega)
  rw [show bytesOf [(A, c, xs)] = xs by simp [bytesOf]] at hof
  have hcut := fun V => cut_any wide (Sh.sha xs) rfl V
  obtain ⟨sn, zn, on⟩ := arr_hash (Cl.nar (Cl.wid wide) xs) (Cl.nar_length _ _)
  obtain ⟨R, hR⟩ : ∃ R, (bvs (Cl.nar (Cl.wid wide) xs)).toArray = R := ⟨_, rfl⟩
  have hcut' : ∀ V, Calls Tryd.prog 10 #[.int .i64 wide, .agg (bvs (Sh.sha xs)).toArray] V fun e w' => e = .returned (.agg R) ∧ Keeps (fun _ => False) V w' := fun V => by rw [← hR]; exact hcut V
  rw [hR] at sn zn on ⊢
  have HOF : Hid (Calls Tryd.prog 38 #[.slice (some ⟨W1.heap.size, 0, none⟩) 1 1] W2 fun e w' => e = .returned (.agg (bvs (Sh.sha xs)).toArray) ∧ Keeps (fun _ => False) W2 w') := hof
  obtain ⟨X, hX⟩ : ∃ X, (bvs (Sh.sha xs)).toArray = X := ⟨_, rfl⟩
  rw [hX] at HOF hcut'
  have HCUT := Lib.hid hcut'
  have K2 := Lib.hid (k1.trans k2)
  have R2 := Lib.hid ((k2.block _ (Array.getElem?_eq_some_iff.1 r1).1 id).trans r1)
  have SN := Lib.hid sn
  have ZN := Lib.hid (hzs.trans zn.symm)
  have ON := Lib.hid on
  clear hof hcut hcut' hR hX sn zn on hZ hzs r1 r2 hrows k1 k2 hs hc hc1 hx hT
  go_enter Tryd.func21, Tryd.ntmps21
  go_wp2_with fail
  refine HOF.out.mono ?_
  rintro e w3 ⟨rfl, k3⟩
  have K3 := Lib.hid (K2.out.trans k3)
  have R3 := Lib.hid ((k3.block _ (Array.getElem?_eq_some_iff.1 R2.out).1 id).trans R2.out)
  clear k3
  go_wp2_with fail
  refine (HCUT.out _).mono ?_
  rintro e w4 ⟨rfl, k4⟩
  have K4 := Lib.hid (K3.out.trans k4)
  have R4 := Lib.hid ((k4.block _ (Array.getElem?_eq_some_iff.1 R3.out).1 id).trans R3.out)
  clear k4
  go_wp2_with (refine wpList_store_row rfl 26 _ _ rfl w.heap.size R rfl rfl 26 Z R4.out SN.out ZN.out ON.out ?_)
  refine bodyPost_ret (results_cell_row rfl _ _ w.heap.size 26 R (0, 0) _ rfl (setRow_heap _ _ _ _ _ _ R4.out) Tryd.underlying26 rfl SN.out) rfl ?_
  exact ⟨rfl, K4.out.trans' (Keeps.setRow w.heap.size R) (fun i hi h => by omega)⟩
end Go.Proofs.YtjblnjeloimbgaaDoor
