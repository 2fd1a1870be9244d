/-
  The law LamportSigns walked: what is signed comes to the public key. WRITTEN BY wip/gen/mklas.py.
-/
import Derived.Test.YtgbajlmcoghofaaDoorLaH
import Derived.Test.YtgbajlmcoghofaaDoorOpens
namespace Go.Proofs.YtgbajlmcoghofaaDoor
open Go.RowKit Go.BigFrame
set_option linter.unusedVariables false

set_option maxRecDepth 100000 in
set_option maxHeartbeats 1000000 in
theorem lsigns_long (sd : List UInt8) (i : Int) (A : Option Addr) (n c : Nat) (W : World) (hT : Tabs W) (hs : sd.length = 32) (hn : 200 < n) (hmax : n ≤ 9223372036854775807) :
    Calls Tryd.prog 4 #[.agg (bvs sd).toArray, .int .i64 i, .slice A n c] W fun e W' => e = .returned (.bool true) ∧ Below W.heap.size W W' := by
  obtain ⟨X, hX⟩ : ∃ X : Array Value, (bvs sd).toArray = X := ⟨_, rfl⟩
  obtain ⟨g0, hg0⟩ : ∃ g, W.heap.size = g := ⟨_, rfl⟩
  obtain ⟨W1, hW1⟩ : ∃ V, W.alloc (.cells X 23) = V := ⟨_, rfl⟩
  have k1 : Keeps (fun _ => False) W W1 := by rw [← hW1]; exact (Keeps.refl _ _).alloc _
  have r1 : W1.heap[g0]? = some (.cells X 23 (0, 0)) := by rw [← hW1, ← hg0]; exact heap_alloc_new W _
  have HAW := Lib.hid (awake7_any W1 (hT.keeps k1 id id))
  have K1 := Lib.hid k1
  rw [hX]
  clear hT hX hs k1 r1 hg0
  go_enter Tryd.func4, Tryd.ntmps4
  go_wp2_with fail
  refine HAW.out.mono ?_
  rintro e w2 ⟨rfl, k2⟩
  have K2 := Lib.hid (K1.out.trans k2)
  clear k2 HAW
  go_wp2
  go_ret
  exact ⟨rfl, (K2.out).below (Nat.le_refl _) (fun _ _ => id)⟩
set_option maxRecDepth 100000 in
set_option maxHeartbeats 2000000 in
theorem lsigns_short (sd : List UInt8) (i : Int) (A : Option Addr) (c : Nat) (xs : List UInt8) (W : World) (hT : Tabs W) (hs : sd.length = 32) (hsrc : Src W A (bvs xs)) (hn : xs.length ≤ 200) (hc : xs.length ≤ c) (hmax : c ≤ 9223372036854775807) :
    Calls Tryd.prog 4 #[.agg (bvs sd).toArray, .int .i64 i, .slice A xs.length c] W fun e W' => e = .returned (.bool true) ∧ Below W.heap.size W W' := by
  obtain ⟨X, hX⟩ : ∃ X : Array Value, (bvs sd).toArray = X := ⟨_, rfl⟩
  obtain ⟨g0, hg0⟩ : ∃ g, W.heap.size = g := ⟨_, rfl⟩
  obtain ⟨W1, hW1⟩ : ∃ V, W.alloc (.cells X 23) = V := ⟨_, rfl⟩
  have k1 : Keeps (fun _ => False) W W1 := by rw [← hW1]; exact (Keeps.refl _ _).alloc _
  have r1 : W1.heap[g0]? = some (.cells X 23 (0, 0)) := by rw [← hW1, ← hg0]; exact heap_alloc_new W _
  have HAW := Lib.hid (awake7_any W1 (hT.keeps k1 id id))
  obtain ⟨a1, a2, a3⟩ := hash_arr sd hs
  obtain ⟨s, hss⟩ : ∃ s, Lm.sign sd i xs = s := ⟨_, rfl⟩
  obtain ⟨p, hp⟩ : ∃ p, Lm.pub sd i = p := ⟨_, rfl⟩
  have hpl : p.length = 32 := by rw [← hp]; exact Sh.sha_length _
  have hsg : s.length = 4096 := by rw [← hss]; exact Lm.sign_length _ _ _
  have hee := Lm.frm_sign sd i xs
  have ep := fun V => eq_hash p p hpl hpl V
  simp only [beq_self_eq_true] at ep
  have cs := fun V (hV : Keeps (fun _ => False) W V) => sign_any sd i A c xs V (hT.keeps hV id id) hs (hsrc.keeps hV (fun _ _ _ => id)) hc hmax (by omega)
  have cp := fun V (hV : Keeps (fun _ => False) W V) => public_any sd i V (hT.keeps hV id id) hs
  have cf := fun V (hV : Keeps (fun _ => False) W V) => from_any s A c xs V (hT.keeps hV id id) hsg (hsrc.keeps hV (fun _ _ _ => id)) hc hmax (by omega)
  rw [hss, hp] at hee
  rw [hss] at cs
  rw [hp] at cp
  rw [hee] at cf
  obtain ⟨LS, hLS⟩ : ∃ L, (bvs s).toArray = L := ⟨_, rfl⟩
  obtain ⟨P, hP⟩ : ∃ L, (bvs p).toArray = L := ⟨_, rfl⟩
  obtain ⟨n, hnn⟩ : ∃ n, xs.length = n := ⟨_, rfl⟩
  rw [hLS, hX, hnn] at cs
  rw [hP, hX] at cp
  rw [hLS, hP, hnn] at cf
  rw [hP] at ep
  rw [hX] at a1
  rw [hnn] at hn hc
  rw [hX, hnn]
  have CSW := Lib.hid cs
  have CPW := Lib.hid cp
  have CFW := Lib.hid cf
  have EP := Lib.hid ep
  have SX := Lib.hid a1
  have K1 := Lib.hid k1
  have R1 := Lib.hid r1
  clear hT hX hs k1 r1 hsrc cs cp cf ep a1 a2 a3 hee hpl hsg hp hss hLS hP hnn
  go_enter Tryd.func4, Tryd.ntmps4
  go_wp2_with fail
  refine HAW.out.mono ?_
  rintro e w2 ⟨rfl, k2⟩
  have K2 := Lib.hid (K1.out.trans k2)
  have r2 := (k2.block _ (Array.getElem?_eq_some_iff.1 R1.out).1 id).trans R1.out
  have HX : Hid (∀ V, Later w2 V → V.heap[g0]? = some (.cells X 23 (0, 0))) := Lib.hid fun V hV => (hV.out.block _ (Array.getElem?_eq_some_iff.1 r2).1 id).trans r2
  have CS : Hid (∀ V, Later w2 V → Calls Tryd.prog 9 #[.agg X, .int .i64 i, .slice A n c] V fun e w' => e = .returned (.agg LS) ∧ Later w2 w') := Lib.hid fun V hV => (CSW.out V (K2.out.trans hV.out)).mono fun e w' h => ⟨h.1, ⟨hV.out.trans h.2⟩⟩
  have CP : Hid (∀ V, Later w2 V → Calls Tryd.prog 12 #[.agg X, .int .i64 i] V fun e w' => e = .returned (.agg P) ∧ Later w2 w') := Lib.hid fun V hV => (CPW.out V (K2.out.trans hV.out)).mono fun e w' h => ⟨h.1, ⟨hV.out.trans h.2⟩⟩
  have CF : Hid (∀ V, Later w2 V → Calls Tryd.prog 14 #[.slice A n c, .agg LS] V fun e w' => e = .returned (.agg P) ∧ Later w2 w') := Lib.hid fun V hV => (CFW.out V (K2.out.trans hV.out)).mono fun e w' h => ⟨h.1, ⟨hV.out.trans h.2⟩⟩
  clear k2 r2 HAW CSW CPW CFW K1 R1
  go_wp2_with fail
  refine wp_region_class (Later w2) (by kernel_rfl) (by kernel_rfl) (⟨(Keeps.refl _ _).drew⟩) ?_
  refine class_value (by rfl) (.slice A n c) (fun V hV => by go_simp) ?_
  simp only [Act.put, List.setIfInBounds_toArray, List.set_cons_zero, List.set_cons_succ]
  refine class_load (by rfl) 23 (.tmp 3) (by rfl) g0 (by rfl) _ X _ _ (fun V hV => HX.out V hV) Tryd.underlying23 rfl SX.out ?_
  simp only [Act.put, List.setIfInBounds_toArray, List.set_cons_zero, List.set_cons_succ]
  refine class_value (by rfl) (.int .i64 i) (fun V hV => by go_simp) ?_
  simp only [Act.put, List.setIfInBounds_toArray, List.set_cons_zero, List.set_cons_succ]
  refine class_value (by rfl) (.slice A n c) (fun V hV => by go_simp) ?_
  simp only [Act.put, List.setIfInBounds_toArray, List.set_cons_zero, List.set_cons_succ]
  refine class_call (by rfl) _ _ (.agg LS) (fun _ => by go_simp) (fun V hV => CS.out V hV) ?_
  simp only [Act.put, List.setIfInBounds_toArray, List.set_cons_zero, List.set_cons_succ]
  refine class_call (by rfl) _ _ (.agg P) (fun _ => by go_simp) (fun V hV => CF.out V hV) ?_
  simp only [Act.put, List.setIfInBounds_toArray, List.set_cons_zero, List.set_cons_succ]
  refine class_load (by rfl) 23 (.tmp 3) (by rfl) g0 (by rfl) _ X _ _ (fun V hV => HX.out V hV) Tryd.underlying23 rfl SX.out ?_
  simp only [Act.put, List.setIfInBounds_toArray, List.set_cons_zero, List.set_cons_succ]
  refine class_value (by rfl) (.int .i64 i) (fun V hV => by go_simp) ?_
  simp only [Act.put, List.setIfInBounds_toArray, List.set_cons_zero, List.set_cons_succ]
  refine class_call (by rfl) _ _ (.agg P) (fun _ => by go_simp) (fun V hV => CP.out V hV) ?_
  simp only [Act.put, List.setIfInBounds_toArray, List.set_cons_zero, List.set_cons_succ]
  refine class_eq (by rfl) .eql 23 _ (.tmp 19) (.tmp 22) (by rfl) P P (by rfl) (by rfl) (by kernel_rfl) (.bool true) (EP.out) ?_
  simp only [Act.put, List.setIfInBounds_toArray, List.set_cons_zero, List.set_cons_succ]
  refine class_value (by rfl) (.bool true) (fun V hV => by go_simp) ?_
  simp only [Act.put, List.setIfInBounds_toArray, List.set_cons_zero, List.set_cons_succ]
  refine wpQuiet_nil ?_
  intro w6 k6
  have KF := Lib.hid (K2.out.trans k6.out)
  clear k6 K2 HX CS CP CF EP SX
  go_wp2
  go_ret
  exact ⟨rfl, (KF.out).below (Nat.le_refl _) (fun _ _ => id)⟩
theorem lsigns_walk (sd : List UInt8) (i : Int) (A : Option Addr) (len c : Nat) (zs : List Int) (W : World) (hT : Tabs W) (hs : sd.length = 32) (hi : (Lit.int .i64 i).wf = true) (h0 : IsRowU .u8 W A len c zs) :
    Calls Tryd.prog 4 #[.agg (bvs sd).toArray, .int .i64 i, .slice A len c] W fun e W' => e = .returned (.bool true) ∧ Below W.heap.size W W' := by
  obtain ⟨xs, rfl, hsrc, hcap, hmax⟩ := h0.src
  by_cases hlen : 200 < xs.length
  · exact lsigns_long sd i A xs.length c W hT hs hlen (by omega)
  · exact lsigns_short sd i A c xs W hT hs hsrc (by omega) hcap hmax
end Go.Proofs.YtgbajlmcoghofaaDoor
