/-
  The law ShaOf walked: hashes of bytes, of an entry, of two hashes, and a hash's text, are the document's.
-/
import Derived.Test.YtfokemminjikpaaDoorSoP
import Derived.Test.YtfokemminjikpaaDoorSoC
import Derived.Test.YtfokemminjikpaaDoorLoose
import Derived.Test.YtfokemminjikpaaDoorShaW
import Derived.Test.YtfokemminjikpaaDoorRowU
namespace Go.Proofs.YtfokemminjikpaaDoor
open Go.RowKit Go.BigFrame
set_option linter.unusedVariables false

theorem keeps_belowS {w w' : World} (h : Keeps (fun _ => False) w w') : Below w.heap.size w w' := h.below (Nat.le_refl _) (fun _ _ => id)
set_option maxRecDepth 100000 in
set_option maxHeartbeats 1000000 in
theorem shaof_long (A : Option Addr) (len c : Nat) (zx zy : List UInt8) (W : World) (hT : Tabs W) (hlen : 300 < len) (hmax : len ≤ 9223372036854775807) (hx : zx.length = 32) (hy : zy.length = 32) :
    Calls Tryd.prog 3 #[.slice A len c, .agg (bvs zx).toArray, .agg (bvs zy).toArray] W fun e W' => e = .returned (.bool true) ∧ Below W.heap.size W W' := by
  obtain ⟨X, hX⟩ : ∃ X : Array Value, (bvs zx).toArray = X := ⟨_, rfl⟩
  obtain ⟨Y, hY⟩ : ∃ Y : Array Value, (bvs zy).toArray = Y := ⟨_, rfl⟩
  rw [hX, hY]
  obtain ⟨W1, hW1⟩ : ∃ V, W.alloc (.cells X 24) = V := ⟨_, rfl⟩
  obtain ⟨W2, hW2⟩ : ∃ V, W1.alloc (.cells Y 24) = V := ⟨_, rfl⟩
  have k2 : Keeps (fun _ => False) W W2 := by rw [← hW2, ← hW1]; exact ((Keeps.refl _ _).alloc _).alloc _
  have haw := awake2_any W2 (hT.keeps k2 id id)
  have HAW := Lib.hid haw
  clear haw hT hX hY hx hy
  go_enter Tryd.func3, Tryd.ntmps3
  go_wp2_with fail
  refine HAW.out.mono ?_
  rintro e w3 ⟨rfl, k3⟩
  go_wp2
  go_ret
  exact ⟨rfl, keeps_belowS (k2.trans k3)⟩
set_option maxRecDepth 100000 in
set_option maxHeartbeats 2000000 in
theorem shaof_short (A : Option Addr) (c : Nat) (xs zx zy : List UInt8) (W : World) (hT : Tabs W) (hs : Src W A (bvs xs)) (hlen : xs.length ≤ 300) (hcap : xs.length ≤ c) (hmax : c ≤ 9223372036854775807) (hx : zx.length = 32) (hy : zy.length = 32) :
    Calls Tryd.prog 3 #[.slice A xs.length c, .agg (bvs zx).toArray, .agg (bvs zy).toArray] W fun e W' => e = .returned (.bool true) ∧ Below W.heap.size W W' := by
  obtain ⟨XC, hX⟩ : ∃ X : List Value, bvs zx = X := ⟨_, rfl⟩
  obtain ⟨YC, hY⟩ : ∃ Y : List Value, bvs zy = Y := ⟨_, rfl⟩
  obtain ⟨W1, hW1⟩ : ∃ V, W.alloc (.cells XC.toArray 24) = V := ⟨_, rfl⟩
  obtain ⟨W2, hW2⟩ : ∃ V, W1.alloc (.cells YC.toArray 24) = V := ⟨_, rfl⟩
  have k2 : Keeps (fun _ => False) W W2 := by rw [← hW2, ← hW1]; exact ((Keeps.refl _ _).alloc _).alloc _
  have rX : Row W2 W.heap.size 24 XC := by rw [← hW2, ← hW1]; exact heap_alloc2_old W _ _
  have rY : Row W2 W1.heap.size 24 YC := by rw [← hW2]; exact heap_alloc_new W1 _
  have HAW := Lib.hid (awake2_any W2 (hT.keeps k2 id id))
  have hT2 := hT.keeps k2 id id
  have hs2 := hs.keeps k2 (fun _ _ _ => id)
  have lh : (Sh.sha xs).length = 32 := rfl
  have ll : (Sh.sha (0 :: xs)).length = 32 := rfl
  have ln : (Sh.sha (1 :: (zx ++ zy))).length = 32 := rfl
  obtain ⟨i0, hi0, _⟩ := info_parts info_u8t
  have heq : ∀ l : List UInt8, l.length = 32 → ∀ W : World, (binOp .eql 24 (.agg (bvs l).toArray) (.agg (bvs l).toArray)).run Tryd.prog W = .ok (.bool true) W := fun l hl W => by
    rw [run_eql_bytes W 24 5 32 Tryd.underlying24 Tryd.underlying5 hi0 (by kernel_rfl) (by kernel_rfl) l l hl hl]
    simp
  have eh := heq _ lh
  have el := heq _ ll
  have en := heq _ ln
  have hof : ∀ V, Keeps (fun _ => False) W2 V → ∀ g, V.cell? ⟨g, 0, none⟩ = some (.slice A xs.length c) → Calls Tryd.prog 14 #[.slice (some ⟨g, 0, none⟩) 1 1] V fun e w' => e = .returned (.agg (bvs (Sh.sha xs)).toArray) ∧ Keeps (fun _ => False) V w' := fun V hk g hg => by
    have h := of_any (some ⟨g, 0, none⟩) 1 [(A, c, xs)] V (hT2.keeps hk id id) (rowsAt_one (a := ⟨g, 0, none⟩) (r := (A, c, xs)) (by rw [add_plain]; exact hg) (hs2.keeps hk (fun _ _ _ => id)) ⟨hcap, hmax⟩) (by simp) (by simp [bytesOf]; omega)
    have e1 : bytesOf [(A, c, xs)] = xs := by simp [bytesOf]
    rw [e1] at h
    exact h
  have hrf := fun V => rof_any xs V (by omega)
  have hlf := fun V (hk : Keeps (fun _ => False) W2 V) => leaf_any A c xs V (hT2.keeps hk id id) (hs2.keeps hk (fun _ _ _ => id)) hcap hmax (by omega)
  have hrl := fun V => rleaf_any xs V (by omega)
  have hnd := fun V (hk : Keeps (fun _ => False) W2 V) => node_any zx zy V (hT2.keeps hk id id) hx hy
  have hrn := fun V => rnode_any zx zy V hx hy
  have htx := fun V => text_any zx V hx
  have hrt := fun V => rtext_any zx V hx
  have hxs : (Tryd.prog.info? 24).map (·.size) = some XC.length := by rw [← hX, bvs_length, hx]; exact size_hash'
  have hys : (Tryd.prog.info? 24).map (·.size) = some YC.length := by rw [← hY, bvs_length, hy]; exact size_hash'
  obtain ⟨RH, hRH⟩ : ∃ R, (bvs (Sh.sha xs)).toArray = R := ⟨_, rfl⟩
  obtain ⟨RL, hRL⟩ : ∃ R, (bvs (Sh.sha (0 :: xs))).toArray = R := ⟨_, rfl⟩
  obtain ⟨RN, hRN⟩ : ∃ R, (bvs (Sh.sha (1 :: (zx ++ zy)))).toArray = R := ⟨_, rfl⟩
  obtain ⟨st, hst⟩ : ∃ s, strOf (hex zx) = s := ⟨_, rfl⟩
  obtain ⟨s, hss⟩ : ∃ s, strOf xs = s := ⟨_, rfl⟩
  have hcv : ∀ V, Keeps (fun _ => False) W2 V → (convert 22 9 (.slice A xs.length c)).run Tryd.prog V = .ok (.string s) V := fun V hk => by
    have h := run_string_src (P := Tryd.prog) V 22 9 5 Tryd.underlying22 Tryd.underlying5 Tryd.underlying9 A xs c (hs2.keeps hk (fun _ _ _ => id))
    rw [hss] at h
    exact h
  obtain ⟨n, hn⟩ : ∃ n, xs.length = n := ⟨_, rfl⟩
  rw [hRH] at hof hrf eh
  rw [hRL] at hlf hrl el
  rw [hRN] at hnd hrn en
  rw [hst] at htx hrt
  rw [hss] at hrf hrl
  rw [hX] at hnd hrn htx hrt
  rw [hY] at hnd hrn
  rw [hn] at hof hlf hlen hcap hcv
  rw [hX, hY, hn]
  have hbs : ∀ V : World, (Instr.buildSlice 32 1 #[(0, .slice A n c)]).run Tryd.prog V = .ok (.slice (some ⟨V.heap.size, 0, none⟩) 1 1) (V.alloc (.cells #[.slice A n c] 22)) := fun _ => by kernel_rfl
  have HBS := Lib.hid hbs
  have OF := Lib.hid hof
  have RF := Lib.hid hrf
  have LF := Lib.hid hlf
  have RL' := Lib.hid hrl
  have ND := Lib.hid hnd
  have RN' := Lib.hid hrn
  have TX := Lib.hid htx
  have RT := Lib.hid hrt
  have HXS := Lib.hid hxs
  have HYS := Lib.hid hys
  have HEH := Lib.hid eh
  have HEL := Lib.hid el
  have HEN := Lib.hid en
  have RX := Lib.hid rX
  have RY := Lib.hid rY
  have HCV := Lib.hid hcv
  have K2 := Lib.hid k2
  have hn300 : (n : Int) ≤ 300 := by omega
  clear hbs hof hrf hlf hrl hnd hrn htx hrt hxs hys eh el en heq rX rY hcv k2 hT hT2 hs hs2 hX hY hx hy lh ll ln hRH hRL hRN hst hss hn hi0
  go_enter Tryd.func3, Tryd.ntmps3
  go_wp2_with fail
  refine HAW.out.mono ?_
  rintro e w3 ⟨rfl, k3⟩
  have hcv3 := HCV.out w3 k3
  have K3 := Lib.hid k3
  clear HAW k3 HCV hW1 hW2
  go_wp2_with fail
  have kk : ∀ V, Later w3 V → Keeps (fun _ => False) W2 V := fun V h => K3.out.trans h.out
  have HOF : Hid (∀ g V, Later w3 V → Made w3 22 #[.slice A n c] (.slice (some ⟨g, 0, none⟩) 1 1) V → Calls Tryd.prog 14 #[.slice (some ⟨g, 0, none⟩) 1 1] V fun e w' => e = .returned (.agg RH) ∧ Keeps (fun _ => False) V w') := fun g V hV hM => by
    obtain ⟨g', fr, _, hv, hg⟩ := hM
    injection hv with hv
    injection hv with hv
    injection hv with hv
    subst hv
    exact OF.out V (kk V hV) g (by rw [cell_of_row V g 0 _ _ _ hg]; rfl)
  have HRF : Hid (∀ V, Later w3 V → Calls Tryd.prog 15 #[.string s] V fun e w' => e = .returned (.agg RH) ∧ Keeps (fun _ => False) V w') := fun V _ => RF.out V
  have HLF : Hid (∀ V, Later w3 V → Calls Tryd.prog 16 #[.slice A n c] V fun e w' => e = .returned (.agg RL) ∧ Keeps (fun _ => False) V w') := fun V hV => LF.out V (kk V hV)
  have HRL : Hid (∀ V, Later w3 V → Calls Tryd.prog 17 #[.string s] V fun e w' => e = .returned (.agg RL) ∧ Keeps (fun _ => False) V w') := fun V _ => RL'.out V
  have HND : Hid (∀ V, Later w3 V → Calls Tryd.prog 18 #[.agg XC.toArray, .agg YC.toArray] V fun e w' => e = .returned (.agg RN) ∧ Keeps (fun _ => False) V w') := fun V hV => ND.out V (kk V hV)
  have HRN : Hid (∀ V, Later w3 V → Calls Tryd.prog 19 #[.agg XC.toArray, .agg YC.toArray] V fun e w' => e = .returned (.agg RN) ∧ Keeps (fun _ => False) V w') := fun V _ => RN'.out V
  have HTX : Hid (∀ V, Later w3 V → Calls Tryd.prog 20 #[.agg XC.toArray] V fun e w' => e = .returned (.string st) ∧ Keeps (fun _ => False) V w') := fun V _ => TX.out V
  have HRT : Hid (∀ V, Later w3 V → Calls Tryd.prog 21 #[.agg XC.toArray] V fun e w' => e = .returned (.string st) ∧ Keeps (fun _ => False) V w') := fun V _ => RT.out V
  have GX : Hid (∀ V, Later w3 V → V.rangeAt W.heap.size 0 XC) := fun V hV j v hv => by
    have h : Row V W.heap.size 24 XC := RX.out.keeps (kk V hV) id
    rw [Nat.zero_add, h.cell]; exact hv
  have GY : Hid (∀ V, Later w3 V → V.rangeAt W1.heap.size 0 YC) := fun V hV j v hv => by
    have h : Row V W1.heap.size 24 YC := RY.out.keeps (kk V hV) id
    rw [Nat.zero_add, h.cell]; exact hv
  have FIN : Hid (∀ V, Later w3 V → Below W.heap.size W V) := fun V hV => keeps_belowS (K2.out.trans (kk V hV))
  clear kk OF RF LF RL' ND RN' TX RT RX RY K2 K3
  refine wp_region_loose [1] [0, 3, 1, 2, 4, 5, 6, 7, 8, 9, 10, 11, 12, 13, 14, 15, 16, 17, 18, 19, 20, 21, 22, 23, 24, 25, 26, 27, 28, 29] (by kernel_rfl) (by kernel_rfl) ?_
  refine R_value (get_op rfl) (by rfl) (by rfl) (.slice A n c) (fun _ _ => by go_simp) ?_
  simp only [Act.put, List.setIfInBounds_toArray, List.set_cons_zero, List.set_cons_succ]
  refine R_value (get_op rfl) (by rfl) (by rfl) (.string s) (fun _ _ => by go_simp) ?_
  simp only [Act.put, List.setIfInBounds_toArray, List.set_cons_zero, List.set_cons_succ]
  refine R_loose (get_op rfl) (by rfl) (by rfl) _ _ (loose_build 32 22 (.tmp 17) (.slice A n c) (by rfl) (by rfl) (fun V hV => hV) HBS.out) ?_
  rintro _ ⟨g, rfl⟩
  simp only [Act.put, List.setIfInBounds_toArray, List.set_cons_zero, List.set_cons_succ]
  refine R_call (get_op rfl) (by rfl) (by rfl) _ _ (.agg RH) (fun _ => by go_simp) (fun V hV => HOF.out g V hV.1 hV.2) ?_
  simp only [Act.put, List.setIfInBounds_toArray, List.set_cons_zero, List.set_cons_succ]
  refine R_call (get_op rfl) (by rfl) (by rfl) _ _ (.agg RH) (fun _ => by go_simp) (fun V hV => HRF.out V hV.1) ?_
  simp only [Act.put, List.setIfInBounds_toArray, List.set_cons_zero, List.set_cons_succ]
  refine R_eq (get_op rfl) (by rfl) (by rfl) .eql 24 _ (.tmp 19) (.tmp 21) (by rfl) RH RH (by rfl) (by rfl) (by kernel_rfl) (.bool true) (HEH.out) ?_
  simp only [Act.put, List.setIfInBounds_toArray, List.set_cons_zero, List.set_cons_succ]
  refine R_value (get_op rfl) (by rfl) (by rfl) (.bool true) (fun _ _ => by go_simp) ?_
  simp only [Act.put, List.setIfInBounds_toArray, List.set_cons_zero, List.set_cons_succ]
  refine R_value (get_op rfl) (by rfl) (by rfl) (.slice A n c) (fun _ _ => by go_simp) ?_
  simp only [Act.put, List.setIfInBounds_toArray, List.set_cons_zero, List.set_cons_succ]
  refine R_call (get_op rfl) (by rfl) (by rfl) _ _ (.agg RL) (fun _ => by go_simp) (fun V hV => HLF.out V hV.1) ?_
  simp only [Act.put, List.setIfInBounds_toArray, List.set_cons_zero, List.set_cons_succ]
  refine R_value (get_op rfl) (by rfl) (by rfl) (.string s) (fun _ _ => by go_simp) ?_
  simp only [Act.put, List.setIfInBounds_toArray, List.set_cons_zero, List.set_cons_succ]
  refine R_call (get_op rfl) (by rfl) (by rfl) _ _ (.agg RL) (fun _ => by go_simp) (fun V hV => HRL.out V hV.1) ?_
  simp only [Act.put, List.setIfInBounds_toArray, List.set_cons_zero, List.set_cons_succ]
  refine R_eq (get_op rfl) (by rfl) (by rfl) .eql 24 _ (.tmp 25) (.tmp 27) (by rfl) RL RL (by rfl) (by rfl) (by kernel_rfl) (.bool true) (HEL.out) ?_
  simp only [Act.put, List.setIfInBounds_toArray, List.set_cons_zero, List.set_cons_succ]
  refine R_value (get_op rfl) (by rfl) (by rfl) (.bool true) (fun _ _ => by go_simp) ?_
  simp only [Act.put, List.setIfInBounds_toArray, List.set_cons_zero, List.set_cons_succ]
  refine R_value (get_op rfl) (by rfl) (by rfl) (.bool true) (fun _ _ => by go_simp) ?_
  simp only [Act.put, List.setIfInBounds_toArray, List.set_cons_zero, List.set_cons_succ]
  refine R_load (get_op rfl) (by rfl) (by rfl) 24 (.tmp 4) (by rfl) W.heap.size 0 (by rfl) XC _ (fun V hV => GX.out V hV.1) Tryd.underlying24 rfl HXS.out ?_
  simp only [Act.put, List.setIfInBounds_toArray, List.set_cons_zero, List.set_cons_succ]
  refine R_load (get_op rfl) (by rfl) (by rfl) 24 (.tmp 5) (by rfl) W1.heap.size 0 (by rfl) YC _ (fun V hV => GY.out V hV.1) Tryd.underlying24 rfl HYS.out ?_
  simp only [Act.put, List.setIfInBounds_toArray, List.set_cons_zero, List.set_cons_succ]
  refine R_call (get_op rfl) (by rfl) (by rfl) _ _ (.agg RN) (fun _ => by go_simp) (fun V hV => HND.out V hV.1) ?_
  simp only [Act.put, List.setIfInBounds_toArray, List.set_cons_zero, List.set_cons_succ]
  refine R_load (get_op rfl) (by rfl) (by rfl) 24 (.tmp 4) (by rfl) W.heap.size 0 (by rfl) XC _ (fun V hV => GX.out V hV.1) Tryd.underlying24 rfl HXS.out ?_
  simp only [Act.put, List.setIfInBounds_toArray, List.set_cons_zero, List.set_cons_succ]
  refine R_load (get_op rfl) (by rfl) (by rfl) 24 (.tmp 5) (by rfl) W1.heap.size 0 (by rfl) YC _ (fun V hV => GY.out V hV.1) Tryd.underlying24 rfl HYS.out ?_
  simp only [Act.put, List.setIfInBounds_toArray, List.set_cons_zero, List.set_cons_succ]
  refine R_call (get_op rfl) (by rfl) (by rfl) _ _ (.agg RN) (fun _ => by go_simp) (fun V hV => HRN.out V hV.1) ?_
  simp only [Act.put, List.setIfInBounds_toArray, List.set_cons_zero, List.set_cons_succ]
  refine R_eq (get_op rfl) (by rfl) (by rfl) .eql 24 _ (.tmp 33) (.tmp 36) (by rfl) RN RN (by rfl) (by rfl) (by kernel_rfl) (.bool true) (HEN.out) ?_
  simp only [Act.put, List.setIfInBounds_toArray, List.set_cons_zero, List.set_cons_succ]
  refine R_value (get_op rfl) (by rfl) (by rfl) (.bool true) (fun _ _ => by go_simp) ?_
  simp only [Act.put, List.setIfInBounds_toArray, List.set_cons_zero, List.set_cons_succ]
  refine R_value (get_op rfl) (by rfl) (by rfl) (.bool true) (fun _ _ => by go_simp) ?_
  simp only [Act.put, List.setIfInBounds_toArray, List.set_cons_zero, List.set_cons_succ]
  refine R_load (get_op rfl) (by rfl) (by rfl) 24 (.tmp 4) (by rfl) W.heap.size 0 (by rfl) XC _ (fun V hV => GX.out V hV.1) Tryd.underlying24 rfl HXS.out ?_
  simp only [Act.put, List.setIfInBounds_toArray, List.set_cons_zero, List.set_cons_succ]
  refine R_call (get_op rfl) (by rfl) (by rfl) _ _ (.string st) (fun _ => by go_simp) (fun V hV => HTX.out V hV.1) ?_
  simp only [Act.put, List.setIfInBounds_toArray, List.set_cons_zero, List.set_cons_succ]
  refine R_load (get_op rfl) (by rfl) (by rfl) 24 (.tmp 4) (by rfl) W.heap.size 0 (by rfl) XC _ (fun V hV => GX.out V hV.1) Tryd.underlying24 rfl HXS.out ?_
  simp only [Act.put, List.setIfInBounds_toArray, List.set_cons_zero, List.set_cons_succ]
  refine R_call (get_op rfl) (by rfl) (by rfl) _ _ (.string st) (fun _ => by go_simp) (fun V hV => HRT.out V hV.1) ?_
  simp only [Act.put, List.setIfInBounds_toArray, List.set_cons_zero, List.set_cons_succ]
  refine R_value (get_op rfl) (by rfl) (by rfl) (.bool true) (fun _ _ => by go_simp) ?_
  simp only [Act.put, List.setIfInBounds_toArray, List.set_cons_zero, List.set_cons_succ]
  refine R_value (get_op rfl) (by rfl) (by rfl) (.bool true) (fun _ _ => by go_simp) ?_
  simp only [Act.put, List.setIfInBounds_toArray, List.set_cons_zero, List.set_cons_succ]
  refine R_value (get_op rfl) (by rfl) (by rfl) (.bool true) (fun _ _ => by go_simp) ?_
  simp only [Act.put, List.setIfInBounds_toArray, List.set_cons_zero, List.set_cons_succ]
  refine R_nil ?_
  intro w10 hw10
  have hfin := FIN.out w10 hw10.1
  go_wp2
  go_ret
  exact ⟨rfl, hfin⟩
theorem shaof_all (A : Option Addr) (len c : Nat) (zs : List Int) (zx zy : List UInt8) (W : World) (hT : Tabs W) (h0 : IsRowU .u8 W A len c zs) (hx : zx.length = 32) (hy : zy.length = 32) :
    Calls Tryd.prog 3 #[.slice A len c, .agg (bvs zx).toArray, .agg (bvs zy).toArray] W fun e W' => e = .returned (.bool true) ∧ Below W.heap.size W W' := by
  obtain ⟨xs, rfl, hs, hcap, hmax⟩ := h0.src
  by_cases hlen : 300 < xs.length
  · exact shaof_long A xs.length c zx zy W hT hlen (by omega) hx hy
  · exact shaof_short A c xs zx zy W hT hs (by omega) hcap hmax hx hy
end Go.Proofs.YtfokemminjikpaaDoor
