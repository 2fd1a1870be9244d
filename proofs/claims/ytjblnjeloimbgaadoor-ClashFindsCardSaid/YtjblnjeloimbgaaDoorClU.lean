/-
  Two entries of one narrow hash are shown (awake).
-/
import Derived.Test.YtjblnjeloimbgaaDoorClV
namespace Go.Proofs.YtjblnjeloimbgaaDoor
open Go.RowKit Go.BigFrame
set_option linter.unusedVariables false

theorem awake_pair {k i : Nat} (hki : k < i) (he : Cl.hv 0 k = Cl.hv 0 i) (ha : Cl.Apart 0 i) : k = 14 ∧ i = 27 := by
  have h1 : i ≤ 27 := by
    rcases Nat.lt_or_ge 27 i with h | h
    · exact absurd (by rw [hv_at 14 (by omega), hv_at 27 (by omega)]; rfl) (ha 14 27 (by omega) h)
    · exact h
  rw [hv_at k (by omega), hv_at i (by omega)] at he
  have key : ∀ b : Fin 28, ∀ a : Fin 28, a.val < b.val → ([223, 107, 49, 17, 114, 61, 171, 52, 201, 1, 136, 31, 186, 120, 195, 18, 110, 202, 124, 98, 5, 48, 189, 41, 213, 145, 242, 195] : List Nat).getD a.val 0 = ([223, 107, 49, 17, 114, 61, 171, 52, 201, 1, 136, 31, 186, 120, 195, 18, 110, 202, 124, 98, 5, 48, 189, 41, 213, 145, 242, 195] : List Nat).getD b.val 0 → a.val = 14 ∧ b.val = 27 := by decide +kernel
  exact key ⟨i, by omega⟩ ⟨k, by omega⟩ hki he
theorem wid_one : Cl.wid 1 = 1 := by decide
theorem wid_32 : Cl.wid 32 = 32 := by decide
theorem nar_same (k i : Nat) (fr : UInt8) (h : Cl.hv fr k = Cl.hv fr i) : Cl.nar 1 (Cl.leafRow (Cl.pb fr k)) = Cl.nar 1 (Cl.leafRow (Cl.pb fr i)) := by
  unfold Cl.nar
  apply List.ext_getElem?
  intro j
  by_cases hj : j < 32
  · rw [Cl.cut_get 1 _ j (by show j < 32; exact hj), Cl.cut_get 1 _ j (by show j < 32; exact hj)]
    by_cases h0 : j < 1
    · obtain rfl : j = 0 := by omega
      rw [if_pos h0, if_pos h0]
      exact congrArg some (UInt8.toNat_inj.1 h)
    · rw [if_neg h0, if_neg h0]
  · rw [List.getElem?_eq_none (by rw [Cl.cut_length]; show 32 ≤ j; omega), List.getElem?_eq_none (by rw [Cl.cut_length]; show 32 ≤ j; omega)]
theorem pb_ne (fr : UInt8) {k i : Nat} (hk : k < i) (hi : i < 300) : Cl.pb fr k ≠ Cl.pb fr i := fun e => by
  unfold Cl.pb at e
  injection e with _ e
  injection e with e1 e2
  injection e2 with e2 _
  have h1 := congrArg UInt8.toNat e1
  have h2 := congrArg UInt8.toNat e2
  rw [UInt8.toNat_ofNat', UInt8.toNat_ofNat'] at h1 h2
  omega
/-- Two entries of one narrow hash, as the only one of a tree. -/
theorem paths_one (fr : UInt8) {k i : Nat} (hk : k < i) (hi : i < 300) (h : Cl.hv fr k = Cl.hv fr i) : Cl.paths 1 1 0 (Cl.pb fr k) (Cl.pb fr i) [] [] = some (Cl.leafRow (Cl.pb fr k), Cl.leafRow (Cl.pb fr i)) := by
  have hp : ∀ e, Cl.prow 1 1 0 e [] = ([Cl.leafRow e], Cl.nar 1 (Cl.leafRow e), 0) := fun e => by
    unfold Cl.prow
    rw [if_neg (by omega), if_pos (by rw [Tr.steps_few _ (by omega)]; rfl)]
    rfl
  unfold Cl.paths
  rw [if_neg (pb_ne fr hk hi), hp, hp, if_neg (by simp), if_neg (by simp [nar_same k i fr h])]
  have hne : Cl.leafRow (Cl.pb fr k) ≠ Cl.leafRow (Cl.pb fr i) := fun e => pb_ne fr hk hi (List.cons.inj e).2
  show some (if _ = _ then _ else _) = _
  rw [if_neg hne]
set_option maxRecDepth 100000 in
set_option maxHeartbeats 2000000 in
theorem awake6_any (w : World) (hT : Tabs w) : Calls Tryd.prog 7 #[] w fun e w' => e = .returned (.bool true) ∧ Keeps (fun _ => False) w w' := by
  obtain ⟨CZ, hCZ⟩ : ∃ C : Array Value, #[rowSl row0, rowSl row0] = C := ⟨_, rfl⟩
  have hz : ∀ w : World, (zeroValue 29).run Tryd.prog w = .ok (.agg CZ) w := fun _ => by subst hCZ; kernel_rfl
  have HPR := Lib.hid (pair_any 0 w hT)
  have HT := Lib.hid hT
  have HCZ := Lib.hid hCZ
  clear hT hCZ
  go_enter Tryd.func7, Tryd.ntmps7
  go_wp2_with fail
  refine HPR.out.mono ?_
  rintro e w1 ⟨k, i, A, B, hki, hi300, hhv, hap, rfl, hsa, hsb, k1⟩
  obtain ⟨rfl, rfl⟩ := awake_pair hki hhv hap
  have hpaths := cpaths_any 1 1 0 A B 3 3 (Cl.pb 0 14) (Cl.pb 0 27) none none 0 0 [] [] w1 (HT.out.keeps k1 id id) hsa (by decide) (by omega) (by decide) hsb (by decide) (by omega) (by decide) (PathAt.nil _ _) (PathAt.nil _ _) (by omega) (by simp) (by omega) (by simp) (by omega)
  rw [wid_one, paths_one 0 hki hi300 hhv] at hpaths
  have HPA : Hid (Calls Tryd.prog 8 #[.int .i64 1, .int .u64 1, .int .u64 0, .slice A 3 3, .slice B 3 3, .slice none 0 0, .slice none 0 0] w1 fun e w' => ∃ r s : RowOf, e = .returned (.tuple #[.agg #[rowSl r, rowSl s], .bool true]) ∧ (r.2.2, s.2.2) = (Cl.leafRow (Cl.pb 0 14), Cl.leafRow (Cl.pb 0 27)) ∧ RowG w' r ∧ RowG w' s ∧ Keeps (fun _ => False) w1 w') := Lib.hid hpaths
  have K1 := Lib.hid k1
  clear hpaths hki hi300 hhv hap hsa hsb k1 HPR
  go_wp2_with fail
  refine HPA.out.mono ?_
  rintro e w2 ⟨r, s, rfl, hrs, hgr, hgs, k2⟩
  obtain ⟨hr, hs⟩ := Prod.mk.inj hrs
  obtain ⟨g, hg⟩ : ∃ q, w2.heap.size = q := ⟨_, rfl⟩
  obtain ⟨CX, hCX⟩ : ∃ C : Array Value, #[rowSl r, rowSl s] = C := ⟨_, rfl⟩
  rw [hCX]
  obtain ⟨W3, hW3⟩ : ∃ V, w2.alloc (.cells CZ 29) = V := ⟨_, rfl⟩
  obtain ⟨W4, hW4⟩ : ∃ V, W3.setRow g CX = V := ⟨_, rfl⟩
  have k3 : Keeps (fun _ => False) w2 W3 := by rw [← hW3]; exact (Keeps.refl _ _).alloc _
  have r3 : W3.heap[g]? = some (.cells CZ 29 (0, 0)) := by rw [← hW3, ← hg]; exact heap_alloc_new w2 _
  have k4 : Keeps (fun k => k = g) W3 W4 := by rw [← hW4]; exact Keeps.setRow _ _
  have r4 : W4.heap[g]? = some (.cells CX 29 (0, 0)) := by rw [← hW4]; exact setRow_heap _ _ _ _ _ _ r3
  have k24 : Keeps (fun _ => False) w2 W4 := k3.trans' k4 (fun i hi e => by omega)
  have K4 := Lib.hid ((K1.out.trans k2).trans k24)
  have hck : ∀ (wide : Int) (V : World), Keeps (fun _ => False) W4 V → Calls Tryd.prog 11 #[.int .i64 wide, .agg CX] V fun e w' => e = .returned (.bool (Cl.nar (Cl.wid wide) r.2.2 == Cl.nar (Cl.wid wide) s.2.2)) ∧ Keeps (fun _ => False) V w' := fun wide V hV => by
    rw [← hCX]
    exact check_ne wide r s V (HT.out.keeps (K4.out.trans hV) id id) ((hgr.later k24).later hV) ((hgs.later k24).later hV) (by rw [hr, hs]; decide) (by rw [hr]; decide) (by rw [hs]; decide)
  have hck1 : ∀ (V : World), Keeps (fun _ => False) W4 V → Calls Tryd.prog 11 #[.int .i64 1, .agg CX] V fun e w' => e = .returned (.bool true) ∧ Keeps (fun _ => False) V w' := fun V hV => by
    have h := hck 1 V hV
    rw [wid_one, hr, hs, nar_same 14 27 0 (by rw [hv_at 14 (by omega), hv_at 27 (by omega)]; rfl), beq_self_eq_true] at h
    exact h
  have hck2 : ∀ (V : World), Keeps (fun _ => False) W4 V → Calls Tryd.prog 11 #[.int .i64 32, .agg CX] V fun e w' => e = .returned (.bool false) ∧ Keeps (fun _ => False) V w' := fun V hV => by
    have h := hck 32 V hV
    have hne : (Cl.nar 32 r.2.2 == Cl.nar 32 s.2.2) = false := by rw [beq_eq_false_iff_ne, hr, hs, Cl.nar_wide, Cl.nar_wide]; exact sha_apart
    rw [wid_32, hne] at h
    exact h
  have hcut := fun V => cut_any 1 (5 :: 6 :: List.replicate 30 0) (by simp) V
  have hc5 : Cl.cut (Cl.wid 1) (5 :: 6 :: List.replicate 30 0) = 5 :: List.replicate 31 0 := by decide
  rw [hc5] at hcut
  have hX : (bvs (5 :: 6 :: List.replicate 30 0)).toArray = #[.int .u8 5, .int .u8 6, .int .u8 0, .int .u8 0, .int .u8 0, .int .u8 0, .int .u8 0, .int .u8 0, .int .u8 0, .int .u8 0, .int .u8 0, .int .u8 0, .int .u8 0, .int .u8 0, .int .u8 0, .int .u8 0, .int .u8 0, .int .u8 0, .int .u8 0, .int .u8 0, .int .u8 0, .int .u8 0, .int .u8 0, .int .u8 0, .int .u8 0, .int .u8 0, .int .u8 0, .int .u8 0, .int .u8 0, .int .u8 0, .int .u8 0, .int .u8 0] := by kernel_rfl
  have hY : (bvs (5 :: List.replicate 31 0)).toArray = #[.int .u8 5, .int .u8 0, .int .u8 0, .int .u8 0, .int .u8 0, .int .u8 0, .int .u8 0, .int .u8 0, .int .u8 0, .int .u8 0, .int .u8 0, .int .u8 0, .int .u8 0, .int .u8 0, .int .u8 0, .int .u8 0, .int .u8 0, .int .u8 0, .int .u8 0, .int .u8 0, .int .u8 0, .int .u8 0, .int .u8 0, .int .u8 0, .int .u8 0, .int .u8 0, .int .u8 0, .int .u8 0, .int .u8 0, .int .u8 0, .int .u8 0, .int .u8 0] := by kernel_rfl
  obtain ⟨u0, hu0, _⟩ := info_parts info_u8t
  have heq : ∀ V, (binOp .eql 26 (.agg #[.int .u8 5, .int .u8 0, .int .u8 0, .int .u8 0, .int .u8 0, .int .u8 0, .int .u8 0, .int .u8 0, .int .u8 0, .int .u8 0, .int .u8 0, .int .u8 0, .int .u8 0, .int .u8 0, .int .u8 0, .int .u8 0, .int .u8 0, .int .u8 0, .int .u8 0, .int .u8 0, .int .u8 0, .int .u8 0, .int .u8 0, .int .u8 0, .int .u8 0, .int .u8 0, .int .u8 0, .int .u8 0, .int .u8 0, .int .u8 0, .int .u8 0, .int .u8 0]) (.agg #[.int .u8 5, .int .u8 0, .int .u8 0, .int .u8 0, .int .u8 0, .int .u8 0, .int .u8 0, .int .u8 0, .int .u8 0, .int .u8 0, .int .u8 0, .int .u8 0, .int .u8 0, .int .u8 0, .int .u8 0, .int .u8 0, .int .u8 0, .int .u8 0, .int .u8 0, .int .u8 0, .int .u8 0, .int .u8 0, .int .u8 0, .int .u8 0, .int .u8 0, .int .u8 0, .int .u8 0, .int .u8 0, .int .u8 0, .int .u8 0, .int .u8 0, .int .u8 0])).run Tryd.prog V = .ok (.bool true) V := fun V => by
    rw [← hY, run_eql_bytes (P := Tryd.prog) V 26 5 32 Tryd.underlying26 Tryd.underlying5 hu0 (by kernel_rfl) (by kernel_rfl) _ _ (by simp) (by simp)]
    rw [beq_self_eq_true]
  rw [hX, hY] at hcut
  obtain ⟨rA, rc, rb⟩ := r
  simp only at hr
  have hcell : Row W4 g 29 [.slice rA 4 rc, rowSl s] := by
    show W4.heap[g]? = _
    rw [r4, ← hCX]
    unfold rowSl
    rw [hr]
    rfl
  have SX : Hid ((Tryd.prog.info? 29).map (·.size) = some CX.size) := Lib.hid (by subst hCX; show _ = some 2; kernel_rfl)
  have OX : Hid (CX.all (·.oneCell') = true) := Lib.hid (by subst hCX; simp [rowSl, Value.oneCell'])
  have ZX : Hid (CZ.size = CX.size) := Lib.hid (by rw [← HCZ.out, ← hCX]; rfl)
  have R3 := Lib.hid r3
  have R4 := Lib.hid r4
  have HCELL := Lib.hid hcell
  have HC1 := Lib.hid hck1
  have HC2 := Lib.hid hck2
  have HCUT := Lib.hid hcut
  have HE := Lib.hid heq
  clear hrs hgr hgs k2 hr hs k3 r3 k4 r4 k24 hck hck1 hck2 hcut hc5 hX hY heq hcell hu0 hCX K1
  go_wp2_with (first
    | (refine wpList_store_row rfl 29 _ _ rfl g CX rfl rfl 29 CZ R3.out SX.out ZX.out OX.out ?_; rw [hW4])
    | (refine wpList_load_row_w (by rfl) 29 (.tmp 4) (by rfl) g (by rfl) 29 CX (0, 0) _ R4.out Tryd.underlying29 rfl SX.out ?_))
  refine (HC1.out W4 (Keeps.refl _ _)).mono ?_
  rintro e w5 ⟨rfl, k5⟩
  have K5 := Lib.hid k5
  have R5 := Lib.hid ((k5.block _ (Array.getElem?_eq_some_iff.1 R4.out).1 id).trans R4.out)
  clear k5
  go_wp2_with (refine wpList_load_row_w (by rfl) 29 (.tmp 4) (by rfl) g (by rfl) 29 CX (0, 0) _ R5.out Tryd.underlying29 rfl SX.out ?_)
  refine (HC2.out w5 K5.out).mono ?_
  rintro e w6 ⟨rfl, k6⟩
  have K6 := Lib.hid (K5.out.trans k6)
  clear k6
  go_wp2_with fail
  refine (HCUT.out w6).mono ?_
  rintro e w7 ⟨rfl, k7⟩
  have K7 := Lib.hid (K6.out.trans k7)
  have HC7 := HCELL.out.keeps K7.out id
  have hc7 := HC7.cell 0
  simp only [List.getElem?_cons_zero] at hc7
  clear k7 HC7
  go_wp2_with (refine wpList_eq_agg_w (by rfl) .eql 26 26 (.tmp 32) (.tmp 33) (by rfl) #[.int .u8 5, .int .u8 0, .int .u8 0, .int .u8 0, .int .u8 0, .int .u8 0, .int .u8 0, .int .u8 0, .int .u8 0, .int .u8 0, .int .u8 0, .int .u8 0, .int .u8 0, .int .u8 0, .int .u8 0, .int .u8 0, .int .u8 0, .int .u8 0, .int .u8 0, .int .u8 0, .int .u8 0, .int .u8 0, .int .u8 0, .int .u8 0, .int .u8 0, .int .u8 0, .int .u8 0, .int .u8 0, .int .u8 0, .int .u8 0, .int .u8 0, .int .u8 0] #[.int .u8 5, .int .u8 0, .int .u8 0, .int .u8 0, .int .u8 0, .int .u8 0, .int .u8 0, .int .u8 0, .int .u8 0, .int .u8 0, .int .u8 0, .int .u8 0, .int .u8 0, .int .u8 0, .int .u8 0, .int .u8 0, .int .u8 0, .int .u8 0, .int .u8 0, .int .u8 0, .int .u8 0, .int .u8 0, .int .u8 0, .int .u8 0, .int .u8 0, .int .u8 0, .int .u8 0, .int .u8 0, .int .u8 0, .int .u8 0, .int .u8 0, .int .u8 0] (by rfl) (by rfl) (by kernel_rfl) (.bool true) (HE.out _) ?_)
  go_ret
  exact ⟨rfl, K4.out.trans K7.out⟩
end Go.Proofs.YtjblnjeloimbgaaDoor
