/-
  The law LamportIndex walked: what counts of an index is its rest by 2^32. WRITTEN BY wip/gen/mklas.py.
-/
import Derived.Test.YtgbajlmcoghofaaDoorLaH
import Derived.Test.YtgbajlmcoghofaaDoorOpens
import Derived.Test.YtgbajlmcoghofaaDoorLaQ
namespace Go.Proofs.YtgbajlmcoghofaaDoor
open Go.RowKit Go.BigFrame
set_option linter.unusedVariables false

set_option maxRecDepth 100000 in
set_option maxHeartbeats 1000000 in
theorem lindex_long (sd : List UInt8) (x m : Int) (A : Option Addr) (n c : Nat) (W : World) (hT : Tabs W) (hs : sd.length = 32) (hn : 100 < n) (hmax : n ≤ 9223372036854775807) :
    Calls Tryd.prog 6 #[.agg (bvs sd).toArray, .int .u32 x, .int .i32 m, .slice A n c] W fun e W' => e = .returned (.bool true) ∧ Below W.heap.size W W' := by
  obtain ⟨X, hX⟩ : ∃ X : Array Value, (bvs sd).toArray = X := ⟨_, rfl⟩
  obtain ⟨g0, hg0⟩ : ∃ g, W.heap.size = g := ⟨_, rfl⟩
  obtain ⟨W1, hW1⟩ : ∃ V, W.alloc (.cells X 23) = V := ⟨_, rfl⟩
  have k1 : Keeps (fun _ => False) W W1 := by rw [← hW1]; exact (Keeps.refl _ _).alloc _
  have r1 : W1.heap[g0]? = some (.cells X 23 (0, 0)) := by rw [← hW1, ← hg0]; exact heap_alloc_new W _
  have HAW := Lib.hid (awake7_any W1 (hT.keeps k1 id id))
  have K1 := Lib.hid k1
  rw [hX]
  clear hT hX hs k1 r1 hg0
  go_enter Tryd.func6, Tryd.ntmps6
  go_wp2_with fail
  refine HAW.out.mono ?_
  rintro e w2 ⟨rfl, k2⟩
  have K2 := Lib.hid (K1.out.trans k2)
  clear k2 HAW
  go_wp2
  go_ret
  exact ⟨rfl, (K2.out).below (Nat.le_refl _) (fun _ _ => id)⟩
theorem idx_rest (x m : Int) : Lm.idx (m * 4294967296 + x) = Lm.idx x := by
  unfold Lm.idx
  congr 1
  omega
theorem sec_rest (sd : List UInt8) (x m : Int) (k v : Nat) : Lm.sec sd (m * 4294967296 + x) k v = Lm.sec sd x k v := by unfold Lm.sec; rw [idx_rest]
theorem pub_rest (sd : List UInt8) (x m : Int) : Lm.pub sd (m * 4294967296 + x) = Lm.pub sd x := by
  unfold Lm.pub
  congr 1
  exact Lm.cat_congr _ _ _ fun j _ => by unfold Lm.pubs; rw [sec_rest]
theorem sign_rest (sd : List UInt8) (x m : Int) (b : List UInt8) : Lm.sign sd (m * 4294967296 + x) b = Lm.sign sd x b := by
  unfold Lm.sign
  exact Lm.cat_congr _ _ _ fun j _ => by unfold Lm.sigs; rw [sec_rest]
set_option maxRecDepth 100000 in
set_option maxHeartbeats 2000000 in
theorem lindex_short (sd : List UInt8) (x m : Int) (A : Option Addr) (c : Nat) (xs : List UInt8) (W : World) (hT : Tabs W) (hs : sd.length = 32) (hx : 0 ≤ x ∧ x ≤ 4294967295) (hm : -2147483648 ≤ m ∧ m ≤ 2147483647) (hsrc : Src W A (bvs xs)) (hn : xs.length ≤ 100) (hc : xs.length ≤ c) (hmax : c ≤ 9223372036854775807) :
    Calls Tryd.prog 6 #[.agg (bvs sd).toArray, .int .u32 x, .int .i32 m, .slice A xs.length c] W fun e W' => e = .returned (.bool true) ∧ Below W.heap.size W W' := by
  obtain ⟨X, hX⟩ : ∃ X : Array Value, (bvs sd).toArray = X := ⟨_, rfl⟩
  obtain ⟨g0, hg0⟩ : ∃ g, W.heap.size = g := ⟨_, rfl⟩
  obtain ⟨W1, hW1⟩ : ∃ V, W.alloc (.cells X 23) = V := ⟨_, rfl⟩
  have k1 : Keeps (fun _ => False) W W1 := by rw [← hW1]; exact (Keeps.refl _ _).alloc _
  have r1 : W1.heap[g0]? = some (.cells X 23 (0, 0)) := by rw [← hW1, ← hg0]; exact heap_alloc_new W _
  have HAW := Lib.hid (awake7_any W1 (hT.keeps k1 id id))
  obtain ⟨a1, a2, a3⟩ := hash_arr sd hs
  have e1 : IntKind.i64.wrap (m * 4294967296) = m * 4294967296 := IntWalk.i64_in _ (by omega)
  have e2 : IntKind.i64.wrap (m * 4294967296 + x) = m * 4294967296 + x := IntWalk.i64_in _ (by omega)
  have cs := fun V (hV : Keeps (fun _ => False) W V) => sign_any sd x A c xs V (hT.keeps hV id id) hs (hsrc.keeps hV (fun _ _ _ => id)) hc hmax (by omega)
  have cp := fun V (hV : Keeps (fun _ => False) W V) => public_any sd x V (hT.keeps hV id id) hs
  have cs2 := fun V (hV : Keeps (fun _ => False) W V) => sign_any sd (m * 4294967296 + x) A c xs V (hT.keeps hV id id) hs (hsrc.keeps hV (fun _ _ _ => id)) hc hmax (by omega)
  have cp2 := fun V (hV : Keeps (fun _ => False) W V) => public_any sd (m * 4294967296 + x) V (hT.keeps hV id id) hs
  rw [sign_rest] at cs2
  rw [pub_rest] at cp2
  obtain ⟨s, hss⟩ : ∃ s, Lm.sign sd x xs = s := ⟨_, rfl⟩
  obtain ⟨p, hp⟩ : ∃ p, Lm.pub sd x = p := ⟨_, rfl⟩
  have hpl : p.length = 32 := by rw [← hp]; exact Sh.sha_length _
  have hsg : s.length = 4096 := by rw [← hss]; exact Lm.sign_length _ _ _
  have ep := fun V => eq_hash p p hpl hpl V
  simp only [beq_self_eq_true] at ep
  have es := fun V => eq_sig s hsg V
  rw [hss] at cs cs2
  rw [hp] at cp cp2
  obtain ⟨LS, hLS⟩ : ∃ L, (bvs s).toArray = L := ⟨_, rfl⟩
  obtain ⟨P, hP⟩ : ∃ L, (bvs p).toArray = L := ⟨_, rfl⟩
  obtain ⟨n, hnn⟩ : ∃ n, xs.length = n := ⟨_, rfl⟩
  rw [hLS, hX, hnn] at cs cs2
  rw [hP, hX] at cp cp2
  rw [hP] at ep
  rw [hLS] at es
  rw [hX] at a1
  rw [hnn] at hn hc
  rw [hX, hnn]
  have CSW := Lib.hid cs
  have CPW := Lib.hid cp
  have CSW2 := Lib.hid cs2
  have CPW2 := Lib.hid cp2
  have EP := Lib.hid ep
  have ES := Lib.hid es
  have SX := Lib.hid a1
  have K1 := Lib.hid k1
  have R1 := Lib.hid r1
  clear hT hX hs k1 r1 hsrc cs cp cs2 cp2 ep es a1 a2 a3 hpl hsg hp hss hLS hP hnn
  go_enter Tryd.func6, Tryd.ntmps6
  go_wp2_with fail
  refine HAW.out.mono ?_
  rintro e w2 ⟨rfl, k2⟩
  have K2 := Lib.hid (K1.out.trans k2)
  have r2 := (k2.block _ (Array.getElem?_eq_some_iff.1 R1.out).1 id).trans R1.out
  have HX : Hid (∀ V, Later w2 V → V.heap[g0]? = some (.cells X 23 (0, 0))) := Lib.hid fun V hV => (hV.out.block _ (Array.getElem?_eq_some_iff.1 r2).1 id).trans r2
  have CS : Hid (∀ V, Later w2 V → Calls Tryd.prog 9 #[.agg X, .int .i64 x, .slice A n c] V fun e w' => e = .returned (.agg LS) ∧ Later w2 w') := Lib.hid fun V hV => (CSW.out V (K2.out.trans hV.out)).mono fun e w' h => ⟨h.1, ⟨hV.out.trans h.2⟩⟩
  have CP : Hid (∀ V, Later w2 V → Calls Tryd.prog 12 #[.agg X, .int .i64 x] V fun e w' => e = .returned (.agg P) ∧ Later w2 w') := Lib.hid fun V hV => (CPW.out V (K2.out.trans hV.out)).mono fun e w' h => ⟨h.1, ⟨hV.out.trans h.2⟩⟩
  have CS2 : Hid (∀ V, Later w2 V → Calls Tryd.prog 9 #[.agg X, .int .i64 (m * 4294967296 + x), .slice A n c] V fun e w' => e = .returned (.agg LS) ∧ Later w2 w') := Lib.hid fun V hV => (CSW2.out V (K2.out.trans hV.out)).mono fun e w' h => ⟨h.1, ⟨hV.out.trans h.2⟩⟩
  have CP2 : Hid (∀ V, Later w2 V → Calls Tryd.prog 12 #[.agg X, .int .i64 (m * 4294967296 + x)] V fun e w' => e = .returned (.agg P) ∧ Later w2 w') := Lib.hid fun V hV => (CPW2.out V (K2.out.trans hV.out)).mono fun e w' h => ⟨h.1, ⟨hV.out.trans h.2⟩⟩
  have hx0 := hx.1
  clear k2 r2 HAW CSW CPW CSW2 CPW2 K1 R1
  go_wp2_with fail
  refine wp_region_class (Later w2) (by kernel_rfl) (by kernel_rfl) (⟨(Keeps.refl _ _).drew⟩) ?_
  refine class_load (by rfl) 23 (.tmp 4) (by rfl) g0 (by rfl) _ X _ _ (fun V hV => HX.out V hV) Tryd.underlying23 rfl SX.out ?_
  simp only [Act.put, List.setIfInBounds_toArray, List.set_cons_zero, List.set_cons_succ]
  refine class_value (by rfl) (.int .i64 x) (fun V hV => by go_simp) ?_
  simp only [Act.put, List.setIfInBounds_toArray, List.set_cons_zero, List.set_cons_succ]
  refine class_call (by rfl) _ _ (.agg P) (fun _ => by go_simp) (fun V hV => CP.out V hV) ?_
  simp only [Act.put, List.setIfInBounds_toArray, List.set_cons_zero, List.set_cons_succ]
  refine class_load (by rfl) 23 (.tmp 4) (by rfl) g0 (by rfl) _ X _ _ (fun V hV => HX.out V hV) Tryd.underlying23 rfl SX.out ?_
  simp only [Act.put, List.setIfInBounds_toArray, List.set_cons_zero, List.set_cons_succ]
  refine class_value (by rfl) (.int .i64 (m * 4294967296 + x)) (fun V hV => by go_simp) ?_
  simp only [Act.put, List.setIfInBounds_toArray, List.set_cons_zero, List.set_cons_succ]
  refine class_call (by rfl) _ _ (.agg P) (fun _ => by go_simp) (fun V hV => CP2.out V hV) ?_
  simp only [Act.put, List.setIfInBounds_toArray, List.set_cons_zero, List.set_cons_succ]
  refine class_eq (by rfl) .eql 23 _ (.tmp 28) (.tmp 31) (by rfl) P P (by rfl) (by rfl) (by kernel_rfl) (.bool true) (EP.out) ?_
  simp only [Act.put, List.setIfInBounds_toArray, List.set_cons_zero, List.set_cons_succ]
  refine class_value (by rfl) (.bool true) (fun V hV => by go_simp) ?_
  simp only [Act.put, List.setIfInBounds_toArray, List.set_cons_zero, List.set_cons_succ]
  refine class_load (by rfl) 23 (.tmp 4) (by rfl) g0 (by rfl) _ X _ _ (fun V hV => HX.out V hV) Tryd.underlying23 rfl SX.out ?_
  simp only [Act.put, List.setIfInBounds_toArray, List.set_cons_zero, List.set_cons_succ]
  refine class_value (by rfl) (.int .i64 x) (fun V hV => by go_simp) ?_
  simp only [Act.put, List.setIfInBounds_toArray, List.set_cons_zero, List.set_cons_succ]
  refine class_value (by rfl) (.slice A n c) (fun V hV => by go_simp) ?_
  simp only [Act.put, List.setIfInBounds_toArray, List.set_cons_zero, List.set_cons_succ]
  refine class_call (by rfl) _ _ (.agg LS) (fun _ => by go_simp) (fun V hV => CS.out V hV) ?_
  simp only [Act.put, List.setIfInBounds_toArray, List.set_cons_zero, List.set_cons_succ]
  refine class_load (by rfl) 23 (.tmp 4) (by rfl) g0 (by rfl) _ X _ _ (fun V hV => HX.out V hV) Tryd.underlying23 rfl SX.out ?_
  simp only [Act.put, List.setIfInBounds_toArray, List.set_cons_zero, List.set_cons_succ]
  refine class_value (by rfl) (.int .i64 (m * 4294967296 + x)) (fun V hV => by go_simp) ?_
  simp only [Act.put, List.setIfInBounds_toArray, List.set_cons_zero, List.set_cons_succ]
  refine class_value (by rfl) (.slice A n c) (fun V hV => by go_simp) ?_
  simp only [Act.put, List.setIfInBounds_toArray, List.set_cons_zero, List.set_cons_succ]
  refine class_call (by rfl) _ _ (.agg LS) (fun _ => by go_simp) (fun V hV => CS2.out V hV) ?_
  simp only [Act.put, List.setIfInBounds_toArray, List.set_cons_zero, List.set_cons_succ]
  refine class_eq (by rfl) .eql 29 _ (.tmp 37) (.tmp 41) (by rfl) LS LS (by rfl) (by rfl) (by kernel_rfl) (.bool true) (ES.out) ?_
  simp only [Act.put, List.setIfInBounds_toArray, List.set_cons_zero, List.set_cons_succ]
  refine class_value (by rfl) (.bool true) (fun V hV => by go_simp) ?_
  simp only [Act.put, List.setIfInBounds_toArray, List.set_cons_zero, List.set_cons_succ]
  refine class_value (by rfl) (.bool true) (fun V hV => by go_simp) ?_
  simp only [Act.put, List.setIfInBounds_toArray, List.set_cons_zero, List.set_cons_succ]
  refine wpQuiet_nil ?_
  intro w6 k6
  have KF := Lib.hid (K2.out.trans k6.out)
  clear k6 K2 HX CS CP CS2 CP2 EP ES SX e1 e2
  go_wp2
  go_ret
  exact ⟨rfl, (KF.out).below (Nat.le_refl _) (fun _ _ => id)⟩
theorem lindex_walk (sd : List UInt8) (x m : Int) (A : Option Addr) (len c : Nat) (zs : List Int) (W : World) (hT : Tabs W) (hs : sd.length = 32) (hx : (Lit.int .u32 x).wf = true) (hm : (Lit.int .i32 m).wf = true) (h0 : IsRowU .u8 W A len c zs) :
    Calls Tryd.prog 6 #[.agg (bvs sd).toArray, .int .u32 x, .int .i32 m, .slice A len c] W fun e W' => e = .returned (.bool true) ∧ Below W.heap.size W W' := by
  obtain ⟨xs, rfl, hsrc, hcap, hmax⟩ := h0.src
  by_cases hlen : 100 < xs.length
  · exact lindex_long sd x m A xs.length c W hT hs hlen (by omega)
  · exact lindex_short sd x m A c xs W hT hs (bounds_u32 hx) (bounds_i32 hm) hsrc (by omega) hcap hmax
end Go.Proofs.YtgbajlmcoghofaaDoor
