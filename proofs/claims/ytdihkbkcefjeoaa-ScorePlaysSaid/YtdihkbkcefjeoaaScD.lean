/-
  One is set; a new table.
-/
import Derived.Test.YtdihkbkcefjeoaaScC
namespace Go.Proofs.Ytdihkbkcefjeoaa
open Go.RowKit Go.BigFrame
set_option linter.unusedVariables false
set_option linter.unusedSimpArgs false

set_option maxHeartbeats 1000000 in
/-- There is none. -/
theorem set_off (P : Value) (w : World) (k : Int) (p c : Int × Int) (hpw : ∀ V, Keeps (fun _ => False) w V → Calls Try.prog 19 #[P, .int .i64 k] V fun e w' => e = .returned (.tuple #[.agg (pc p), .bool false]) ∧ Keeps (fun _ => False) V w') :
    Calls Try.prog 12 #[P, .int .i64 k, .agg (pc c)] w fun e w' => e = .returned (.int .i64 1) ∧ Keeps (fun _ => False) w w' := by
  obtain ⟨Z, hZ⟩ : ∃ Z, pc (0, 0) = Z := ⟨_, rfl⟩
  have hz : ∀ V : World, (zeroValue 40).run Try.prog V = .ok (.agg Z) V := fun V => by rw [← hZ]; exact zero_peer V
  obtain ⟨C, hC⟩ : ∃ C, pc p = C := ⟨_, rfl⟩
  obtain ⟨D, hD⟩ : ∃ D, pc c = D := ⟨_, rfl⟩
  rw [hC] at hpw
  rw [hD]
  have SC : Hid ((Try.prog.info? 40).map (·.size) = some C.size) := Lib.hid (by rw [← hC]; exact size_Peer)
  have SZC : Hid (Z.size = C.size) := Lib.hid (by rw [← hC, ← hZ]; rfl)
  have OC : Hid (C.all (·.oneCell') = true) := Lib.hid (by rw [← hC]; exact pc_one _)
  obtain ⟨b1, hb1⟩ : ∃ x, w.heap.size = x := ⟨_, rfl⟩
  obtain ⟨W1, hW1⟩ : ∃ V, w.alloc (.cells D 40) = V := ⟨_, rfl⟩
  have k1 : Keeps (fun _ => False) w W1 := by rw [← hW1]; exact (Keeps.refl _ _).alloc _
  have HP := Lib.hid (hpw W1 k1)
  have K1 := Lib.hid k1
  clear hpw hZ hC hD k1
  go_enter Try.func12, Try.ntmps12
  go_wp2_with fail
  refine HP.out.mono ?_
  rintro e w1 ⟨rfl, k1⟩
  obtain ⟨b2, hb2⟩ : ∃ x, w1.heap.size = x := ⟨_, rfl⟩
  obtain ⟨W2, hW2⟩ : ∃ V, w1.alloc (.cells Z 40) = V := ⟨_, rfl⟩
  have r2 : W2.heap[b2]? = some (.cells Z 40 (0, 0)) := by rw [← hW2, ← hb2]; exact heap_alloc_new w1 _
  have k2 : Keeps (fun _ => False) w W2 := by rw [← hW2]; exact (K1.out.trans k1).alloc _
  obtain ⟨W3, hW3⟩ : ∃ V, W2.setRow b2 C = V := ⟨_, rfl⟩
  have hws : w.heap.size ≤ b2 := by have := (K1.out.trans k1).size; omega
  have K3 : Hid (Keeps (fun _ => False) w W3) := Lib.hid (k2.trans' (T := fun k => k = b2) (by rw [← hW3]; exact Keeps.setRow _ _) (fun i hi e => by omega))
  have R2 := Lib.hid r2
  clear r2 k1 k2 hws
  go_wp2_with (first
    | (refine wpList_store_row (by rfl) 40 _ _ (by rfl) b2 C (by rfl) (by rfl) 40 Z R2.out SC.out SZC.out OC.out ?_; rw [hW3]))
  go_ret
  exact ⟨rfl, K3.out⟩
set_option maxRecDepth 100000 in
set_option maxHeartbeats 2000000 in
theorem set_on (w : World) (g b : Nat) (s : Sc.Tb) (i : Nat) (c : Int × Int) (h : TabAt w g b s) (hgl : i < s.ps.length) :
    Calls Try.prog 12 #[.pointer (some ⟨g, 0, none⟩), .int .i64 (i : Int), .agg (pc c)] w fun e w' => e = .returned (.int .i64 (Sc.setE s (i : Int) c)) ∧ TabAt w' g b (Sc.set s (i : Int) c) ∧ Keeps (fun k => k = b) w w' := by
  have hi : 0 ≤ (i : Int) ∧ (i : Int) < (s.ps.length : Int) := by omega
  have hli := h.ok.limit
  have hq : Sc.has s (i : Int) = true := decide_eq_true hi
  have hbo := Sc.set_ok h.ok (i : Int) c
  obtain ⟨R, hR⟩ : ∃ R, Sc.setE s (i : Int) c = R := ⟨_, rfl⟩
  obtain ⟨S', hS'⟩ : ∃ S', Sc.set s (i : Int) c = S' := ⟨_, rfl⟩
  have hfit : Sc.fits s (i : Int) c = (decide (0 ≤ c.1 ∧ c.1 ≤ s.limit - 1) && decide (0 ≤ c.2 ∧ c.2 ≤ s.hold)) := by
    unfold Sc.fits
    simp [hgl]
  rw [hR, hS']
  rw [hS'] at hbo
  unfold Sc.setE at hR
  unfold Sc.set at hS'
  rw [hfit] at hR hS'
  obtain ⟨x, y⟩ := c
  obtain ⟨p, hp⟩ : ∃ p, Sc.get s (i : Int) = p := ⟨_, rfl⟩
  obtain ⟨L, hL⟩ : ∃ L, s.limit = L := ⟨_, rfl⟩
  obtain ⟨H, hH⟩ : ∃ H, s.hold = H := ⟨_, rfl⟩
  rw [hL, hH] at hR hS'
  rw [hL] at hli
  dsimp only at hR hS'
  obtain ⟨Z, hZ⟩ : ∃ Z, pc (0, 0) = Z := ⟨_, rfl⟩
  have hz : ∀ V : World, (zeroValue 40).run Try.prog V = .ok (.agg Z) V := fun V => by rw [← hZ]; exact zero_peer V
  obtain ⟨C, hC⟩ : ∃ C, pc p = C := ⟨_, rfl⟩
  obtain ⟨D, hD⟩ : ∃ D, pc (x, y) = D := ⟨_, rfl⟩
  have SC : Hid ((Try.prog.info? 40).map (·.size) = some C.size) := Lib.hid (by rw [← hC]; exact size_Peer)
  have SD : Hid ((Try.prog.info? 40).map (·.size) = some D.size) := Lib.hid (by rw [← hD]; exact size_Peer)
  have SZC : Hid (Z.size = C.size) := Lib.hid (by rw [← hC, ← hZ]; rfl)
  have OC : Hid (C.all (·.oneCell') = true) := Lib.hid (by rw [← hC]; exact pc_one _)
  obtain ⟨b1, hb1⟩ : ∃ x, w.heap.size = x := ⟨_, rfl⟩
  obtain ⟨W1, hW1⟩ : ∃ V, w.alloc (.cells D 40) = V := ⟨_, rfl⟩
  have k1 : Keeps (fun _ => False) w W1 := by rw [← hW1]; exact (Keeps.refl _ _).alloc _
  have r1 : W1.heap[b1]? = some (.cells D 40 (0, 0)) := by rw [← hW1, ← hb1]; exact heap_alloc_new w _
  have hpe := peer_any W1 g b s (i : Int) (h.later k1)
  rw [hq, hp, hC] at hpe
  have T1 := Lib.hid (h.later k1)
  have HP := Lib.hid hpe
  have R1 := Lib.hid r1
  have K1 := Lib.hid k1
  have HD := Lib.hid hD
  have HBO := Lib.hid hbo
  have HRE := Lib.hid hR
  have HS' := Lib.hid hS'
  have HLE := Lib.hid (And.intro hL hH)
  have hwl : IntKind.i64.wrap (L - 1) = L - 1 := IntWalk.i64_in _ (by omega)
  obtain ⟨u, hu⟩ : ∃ u, decide (0 ≤ x ∧ x ≤ L - 1) = u := ⟨_, rfl⟩
  obtain ⟨v, hv⟩ : ∃ v, decide (0 ≤ y ∧ y ≤ H) = v := ⟨_, rfl⟩
  rw [hu, hv] at HRE HS'
  have hwa := fun V => within_any x 0 (L - 1) V
  have hwb := fun V => within_any y 0 H V
  rw [hu] at hwa
  rw [hv] at hwb
  have HWA0 := Lib.hid hwa
  have HWB0 := Lib.hid hwb
  rw [hD]
  clear hpe h hli hq hbo hR hS' hfit hp hZ hC hD hi r1 k1 hL hH hu hv hwa hwb
  go_enter Try.func12, Try.ntmps12
  go_wp2_with fail
  refine HP.out.mono ?_
  rintro e w1 ⟨rfl, k1⟩
  obtain ⟨b2, hb2⟩ : ∃ x, w1.heap.size = x := ⟨_, rfl⟩
  obtain ⟨W2, hW2⟩ : ∃ V, w1.alloc (.cells Z 40) = V := ⟨_, rfl⟩
  have r2 : W2.heap[b2]? = some (.cells Z 40 (0, 0)) := by rw [← hW2, ← hb2]; exact heap_alloc_new w1 _
  have k2 : Keeps (fun _ => False) W1 W2 := by rw [← hW2]; exact k1.alloc _
  obtain ⟨w3, hW3⟩ : ∃ V, W2.setRow b2 C = V := ⟨_, rfl⟩
  have hws : W1.heap.size ≤ b2 := by have := k1.size; omega
  have k3 : Keeps (fun _ => False) W1 w3 := k2.trans' (T := fun k => k = b2) (by rw [← hW3]; exact Keeps.setRow _ _) (fun i hi e => by omega)
  have t3 := T1.out.later k3
  have r13 : Row w3 b1 40 [.int .i64 x, .int .i64 y] := by
    have := (k3.block b1 (Array.getElem?_eq_some_iff.1 R1.out).1 id).trans R1.out
    rw [← HD.out] at this
    exact this
  have HX : Hid (∀ V, Later w3 V → V.cell? ⟨b1, 0, none⟩ = some (.int .i64 x)) := Lib.hid (fun V hV => (r13.keeps hV.out id).cell 0)
  have HY : Hid (∀ V, Later w3 V → V.cell? ⟨b1, 1, none⟩ = some (.int .i64 y)) := Lib.hid (fun V hV => (r13.keeps hV.out id).cell 1)
  have HL : Hid (∀ V, Later w3 V → V.cell? ⟨g, 1, none⟩ = some (.int .i64 L)) := Lib.hid (fun V hV => by rw [← HLE.out.1]; exact (t3.row.keeps hV.out id).cell 1)
  have HH : Hid (∀ V, Later w3 V → V.cell? ⟨g, 2, none⟩ = some (.int .i64 H)) := Lib.hid (fun V hV => by rw [← HLE.out.2]; exact (t3.row.keeps hV.out id).cell 2)
  have HWA : Hid (∀ V, Later w3 V → Calls Try.prog 21 #[.int .i64 x, .int .i64 0, .int .i64 (L - 1)] V fun e w' => e = .returned (.bool u) ∧ Later w3 w') := Lib.hid (fun V hV => (HWA0.out V).mono fun e w' h => ⟨h.1, h.2 ▸ hV⟩)
  have HWB : Hid (∀ V, Later w3 V → Calls Try.prog 21 #[.int .i64 y, .int .i64 0, .int .i64 H] V fun e w' => e = .returned (.bool v) ∧ Later w3 w') := Lib.hid (fun V hV => (HWB0.out V).mono fun e w' h => ⟨h.1, h.2 ▸ hV⟩)
  have K3 := Lib.hid (K1.out.trans k3)
  have T3 := Lib.hid t3
  have R3 : Hid (w3.heap[b1]? = some (.cells D 40 (0, 0))) := Lib.hid ((k3.block b1 (Array.getElem?_eq_some_iff.1 R1.out).1 id).trans R1.out)
  have R2 := Lib.hid r2
  clear r2 k1 k2 hws k3 t3 r13 HWA0 HWB0
  go_wp2_with (first
    | (refine wpList_store_row (by rfl) 40 _ _ (by rfl) b2 C (by rfl) (by rfl) 40 Z R2.out SC.out SZC.out OC.out ?_; rw [hW3])
    | fail)
  cases u with
  | false =>
    obtain rfl : S' = s := by have := HS'.out; simp at this; exact this.symm
    obtain rfl : R = 1 := by have := HRE.out; simp at this; exact this.symm
    refine wp_region_class (Later w3) (by kernel_rfl) (by kernel_rfl) (⟨(Keeps.refl _ _).drew⟩) ?_
    refine class_value (by rfl) (.pointer (some ⟨b1, 0, none⟩)) (fun V hV => by go_simp) ?_
    simp only [Act.put, List.setIfInBounds_toArray, List.set_cons_zero, List.set_cons_succ]
    refine class_cell (by rfl) 3 (.tmp 17) (by rfl) ⟨b1, 0, none⟩ (by rfl) (.int .i64 x) _ (fun V hV => HX.out V hV) Try.underlying3 rfl ?_
    simp only [Act.put, List.setIfInBounds_toArray, List.set_cons_zero, List.set_cons_succ]
    refine class_value (by rfl) (.pointer (some ⟨g, 0, none⟩)) (fun V hV => by go_simp) ?_
    simp only [Act.put, List.setIfInBounds_toArray, List.set_cons_zero, List.set_cons_succ]
    refine class_value (by rfl) (.pointer (some ⟨g, 0, none⟩)) (fun V hV => by go_simp) ?_
    simp only [Act.put, List.setIfInBounds_toArray, List.set_cons_zero, List.set_cons_succ]
    refine class_value (by rfl) (.pointer (some ⟨g, 1, none⟩)) (fun V hV => by go_simp) ?_
    simp only [Act.put, List.setIfInBounds_toArray, List.set_cons_zero, List.set_cons_succ]
    refine class_cell (by rfl) 3 (.tmp 21) (by rfl) ⟨g, 1, none⟩ (by rfl) (.int .i64 L) _ (fun V hV => HL.out V hV) Try.underlying3 rfl ?_
    simp only [Act.put, List.setIfInBounds_toArray, List.set_cons_zero, List.set_cons_succ]
    refine class_value (by rfl) (.int .i64 (L - 1)) (fun V hV => by go_simp) ?_
    simp only [Act.put, List.setIfInBounds_toArray, List.set_cons_zero, List.set_cons_succ]
    refine class_callW (by rfl) _ _ (.bool false) (fun _ => by go_simp) (fun V hV => HWA.out V hV) ?_
    simp only [Act.put, List.setIfInBounds_toArray, List.set_cons_zero, List.set_cons_succ]
    refine class_value (by rfl) (.bool true) (fun V hV => by go_simp) ?_
    simp only [Act.put, List.setIfInBounds_toArray, List.set_cons_zero, List.set_cons_succ]
    refine class_value (by rfl) (.bool true) (fun V hV => by go_simp) ?_
    simp only [Act.put, List.setIfInBounds_toArray, List.set_cons_zero, List.set_cons_succ]
    go_big_quiet_skip
    go_big_quiet_skip
    go_big_quiet_skip
    go_big_quiet_skip
    go_big_quiet_skip
    go_big_quiet_skip
    go_big_quiet_skip
    go_big_quiet_skip
    refine class_value (by rfl) (.bool true) (fun V hV => by go_simp) ?_
    simp only [Act.put, List.setIfInBounds_toArray, List.set_cons_zero, List.set_cons_succ]
    refine wpQuiet_nil ?_
    intro w4 k4
    have FIN := Lib.hid (And.intro (T3.out.later k4.out) ((K3.out.trans k4.out).mono (T := fun k => k = b) (fun _ _ h => h.elim)))
    clear k4
    go_wp2
    go_ret
    exact ⟨rfl, FIN.out.1, FIN.out.2⟩
  | true =>
    cases v with
    | false =>
      obtain rfl : S' = s := by have := HS'.out; simp at this; exact this.symm
      obtain rfl : R = 1 := by have := HRE.out; simp at this; exact this.symm
      refine wp_region_class (Later w3) (by kernel_rfl) (by kernel_rfl) (⟨(Keeps.refl _ _).drew⟩) ?_
      refine class_value (by rfl) (.pointer (some ⟨b1, 0, none⟩)) (fun V hV => by go_simp) ?_
      simp only [Act.put, List.setIfInBounds_toArray, List.set_cons_zero, List.set_cons_succ]
      refine class_cell (by rfl) 3 (.tmp 17) (by rfl) ⟨b1, 0, none⟩ (by rfl) (.int .i64 x) _ (fun V hV => HX.out V hV) Try.underlying3 rfl ?_
      simp only [Act.put, List.setIfInBounds_toArray, List.set_cons_zero, List.set_cons_succ]
      refine class_value (by rfl) (.pointer (some ⟨g, 0, none⟩)) (fun V hV => by go_simp) ?_
      simp only [Act.put, List.setIfInBounds_toArray, List.set_cons_zero, List.set_cons_succ]
      refine class_value (by rfl) (.pointer (some ⟨g, 0, none⟩)) (fun V hV => by go_simp) ?_
      simp only [Act.put, List.setIfInBounds_toArray, List.set_cons_zero, List.set_cons_succ]
      refine class_value (by rfl) (.pointer (some ⟨g, 1, none⟩)) (fun V hV => by go_simp) ?_
      simp only [Act.put, List.setIfInBounds_toArray, List.set_cons_zero, List.set_cons_succ]
      refine class_cell (by rfl) 3 (.tmp 21) (by rfl) ⟨g, 1, none⟩ (by rfl) (.int .i64 L) _ (fun V hV => HL.out V hV) Try.underlying3 rfl ?_
      simp only [Act.put, List.setIfInBounds_toArray, List.set_cons_zero, List.set_cons_succ]
      refine class_value (by rfl) (.int .i64 (L - 1)) (fun V hV => by go_simp) ?_
      simp only [Act.put, List.setIfInBounds_toArray, List.set_cons_zero, List.set_cons_succ]
      refine class_callW (by rfl) _ _ (.bool true) (fun _ => by go_simp) (fun V hV => HWA.out V hV) ?_
      simp only [Act.put, List.setIfInBounds_toArray, List.set_cons_zero, List.set_cons_succ]
      refine class_value (by rfl) (.bool false) (fun V hV => by go_simp) ?_
      simp only [Act.put, List.setIfInBounds_toArray, List.set_cons_zero, List.set_cons_succ]
      refine class_value (by rfl) (.bool false) (fun V hV => by go_simp) ?_
      simp only [Act.put, List.setIfInBounds_toArray, List.set_cons_zero, List.set_cons_succ]
      refine class_value (by rfl) (.pointer (some ⟨b1, 1, none⟩)) (fun V hV => by go_simp) ?_
      simp only [Act.put, List.setIfInBounds_toArray, List.set_cons_zero, List.set_cons_succ]
      refine class_cell (by rfl) 3 (.tmp 27) (by rfl) ⟨b1, 1, none⟩ (by rfl) (.int .i64 y) _ (fun V hV => HY.out V hV) Try.underlying3 rfl ?_
      simp only [Act.put, List.setIfInBounds_toArray, List.set_cons_zero, List.set_cons_succ]
      refine class_value (by rfl) (.pointer (some ⟨g, 0, none⟩)) (fun V hV => by go_simp) ?_
      simp only [Act.put, List.setIfInBounds_toArray, List.set_cons_zero, List.set_cons_succ]
      refine class_value (by rfl) (.pointer (some ⟨g, 0, none⟩)) (fun V hV => by go_simp) ?_
      simp only [Act.put, List.setIfInBounds_toArray, List.set_cons_zero, List.set_cons_succ]
      refine class_value (by rfl) (.pointer (some ⟨g, 2, none⟩)) (fun V hV => by go_simp) ?_
      simp only [Act.put, List.setIfInBounds_toArray, List.set_cons_zero, List.set_cons_succ]
      refine class_cell (by rfl) 3 (.tmp 31) (by rfl) ⟨g, 2, none⟩ (by rfl) (.int .i64 H) _ (fun V hV => HH.out V hV) Try.underlying3 rfl ?_
      simp only [Act.put, List.setIfInBounds_toArray, List.set_cons_zero, List.set_cons_succ]
      refine class_callW (by rfl) _ _ (.bool false) (fun _ => by go_simp) (fun V hV => HWB.out V hV) ?_
      simp only [Act.put, List.setIfInBounds_toArray, List.set_cons_zero, List.set_cons_succ]
      refine class_value (by rfl) (.bool true) (fun V hV => by go_simp) ?_
      simp only [Act.put, List.setIfInBounds_toArray, List.set_cons_zero, List.set_cons_succ]
      refine class_value (by rfl) (.bool true) (fun V hV => by go_simp) ?_
      simp only [Act.put, List.setIfInBounds_toArray, List.set_cons_zero, List.set_cons_succ]
      refine wpQuiet_nil ?_
      intro w4 k4
      have FIN := Lib.hid (And.intro (T3.out.later k4.out) ((K3.out.trans k4.out).mono (T := fun k => k = b) (fun _ _ h => h.elim)))
      clear k4
      go_wp2
      go_ret
      exact ⟨rfl, FIN.out.1, FIN.out.2⟩
    | true =>
      have hs' : S' = Sc.put s (i : Int) (x, y) := by have := HS'.out; simp at this; exact this.symm
      obtain rfl : R = 0 := by have := HRE.out; simp at this; exact this.symm
      have HSE := Lib.hid hs'
      clear hs'
      refine wp_region_class (Later w3) (by kernel_rfl) (by kernel_rfl) (⟨(Keeps.refl _ _).drew⟩) ?_
      refine class_value (by rfl) (.pointer (some ⟨b1, 0, none⟩)) (fun V hV => by go_simp) ?_
      simp only [Act.put, List.setIfInBounds_toArray, List.set_cons_zero, List.set_cons_succ]
      refine class_cell (by rfl) 3 (.tmp 17) (by rfl) ⟨b1, 0, none⟩ (by rfl) (.int .i64 x) _ (fun V hV => HX.out V hV) Try.underlying3 rfl ?_
      simp only [Act.put, List.setIfInBounds_toArray, List.set_cons_zero, List.set_cons_succ]
      refine class_value (by rfl) (.pointer (some ⟨g, 0, none⟩)) (fun V hV => by go_simp) ?_
      simp only [Act.put, List.setIfInBounds_toArray, List.set_cons_zero, List.set_cons_succ]
      refine class_value (by rfl) (.pointer (some ⟨g, 0, none⟩)) (fun V hV => by go_simp) ?_
      simp only [Act.put, List.setIfInBounds_toArray, List.set_cons_zero, List.set_cons_succ]
      refine class_value (by rfl) (.pointer (some ⟨g, 1, none⟩)) (fun V hV => by go_simp) ?_
      simp only [Act.put, List.setIfInBounds_toArray, List.set_cons_zero, List.set_cons_succ]
      refine class_cell (by rfl) 3 (.tmp 21) (by rfl) ⟨g, 1, none⟩ (by rfl) (.int .i64 L) _ (fun V hV => HL.out V hV) Try.underlying3 rfl ?_
      simp only [Act.put, List.setIfInBounds_toArray, List.set_cons_zero, List.set_cons_succ]
      refine class_value (by rfl) (.int .i64 (L - 1)) (fun V hV => by go_simp) ?_
      simp only [Act.put, List.setIfInBounds_toArray, List.set_cons_zero, List.set_cons_succ]
      refine class_callW (by rfl) _ _ (.bool true) (fun _ => by go_simp) (fun V hV => HWA.out V hV) ?_
      simp only [Act.put, List.setIfInBounds_toArray, List.set_cons_zero, List.set_cons_succ]
      refine class_value (by rfl) (.bool false) (fun V hV => by go_simp) ?_
      simp only [Act.put, List.setIfInBounds_toArray, List.set_cons_zero, List.set_cons_succ]
      refine class_value (by rfl) (.bool false) (fun V hV => by go_simp) ?_
      simp only [Act.put, List.setIfInBounds_toArray, List.set_cons_zero, List.set_cons_succ]
      refine class_value (by rfl) (.pointer (some ⟨b1, 1, none⟩)) (fun V hV => by go_simp) ?_
      simp only [Act.put, List.setIfInBounds_toArray, List.set_cons_zero, List.set_cons_succ]
      refine class_cell (by rfl) 3 (.tmp 27) (by rfl) ⟨b1, 1, none⟩ (by rfl) (.int .i64 y) _ (fun V hV => HY.out V hV) Try.underlying3 rfl ?_
      simp only [Act.put, List.setIfInBounds_toArray, List.set_cons_zero, List.set_cons_succ]
      refine class_value (by rfl) (.pointer (some ⟨g, 0, none⟩)) (fun V hV => by go_simp) ?_
      simp only [Act.put, List.setIfInBounds_toArray, List.set_cons_zero, List.set_cons_succ]
      refine class_value (by rfl) (.pointer (some ⟨g, 0, none⟩)) (fun V hV => by go_simp) ?_
      simp only [Act.put, List.setIfInBounds_toArray, List.set_cons_zero, List.set_cons_succ]
      refine class_value (by rfl) (.pointer (some ⟨g, 2, none⟩)) (fun V hV => by go_simp) ?_
      simp only [Act.put, List.setIfInBounds_toArray, List.set_cons_zero, List.set_cons_succ]
      refine class_cell (by rfl) 3 (.tmp 31) (by rfl) ⟨g, 2, none⟩ (by rfl) (.int .i64 H) _ (fun V hV => HH.out V hV) Try.underlying3 rfl ?_
      simp only [Act.put, List.setIfInBounds_toArray, List.set_cons_zero, List.set_cons_succ]
      refine class_callW (by rfl) _ _ (.bool true) (fun _ => by go_simp) (fun V hV => HWB.out V hV) ?_
      simp only [Act.put, List.setIfInBounds_toArray, List.set_cons_zero, List.set_cons_succ]
      refine class_value (by rfl) (.bool false) (fun V hV => by go_simp) ?_
      simp only [Act.put, List.setIfInBounds_toArray, List.set_cons_zero, List.set_cons_succ]
      refine class_value (by rfl) (.bool false) (fun V hV => by go_simp) ?_
      simp only [Act.put, List.setIfInBounds_toArray, List.set_cons_zero, List.set_cons_succ]
      refine wpQuiet_nil ?_
      intro w4 k4
      have t4 := T3.out.later k4.out
      have HM5 : Hid (∀ V, Later w4 V → V.cell? ⟨g, 0, none⟩ = some (.map (some b))) := Lib.hid (fun V hV => (t4.row.keeps hV.out id).cell 0)
      have HD5 : Hid (∀ V, Later w4 V → V.heap[b1]? = some (.cells D 40 (0, 0))) := Lib.hid (fun V hV => by
        have h4 := (k4.out.block b1 (Array.getElem?_eq_some_iff.1 R3.out).1 id).trans R3.out
        exact (hV.out.block b1 (Array.getElem?_eq_some_iff.1 h4).1 id).trans h4)
      have T4 := Lib.hid t4
      have K4 := Lib.hid (K3.out.trans k4.out)
      clear t4 k4
      go_wp2_with fail
      refine wp_region_phase 6 (Later w4) (by kernel_rfl) (by kernel_rfl) (⟨(Keeps.refl _ _).drew⟩) ?_
      simp only [List.take_succ_cons, List.take_zero, List.drop_succ_cons, List.drop_zero]
      refine class_value (by rfl) (.pointer (some ⟨g, 0, none⟩)) (fun V hV => by go_simp) ?_
      simp only [Act.put, List.setIfInBounds_toArray, List.set_cons_zero, List.set_cons_succ]
      refine class_value (by rfl) (.pointer (some ⟨g, 0, none⟩)) (fun V hV => by go_simp) ?_
      simp only [Act.put, List.setIfInBounds_toArray, List.set_cons_zero, List.set_cons_succ]
      refine class_value (by rfl) (.pointer (some ⟨g, 0, none⟩)) (fun V hV => by go_simp) ?_
      simp only [Act.put, List.setIfInBounds_toArray, List.set_cons_zero, List.set_cons_succ]
      refine class_cell (by rfl) 59 (.tmp 38) (by rfl) ⟨g, 0, none⟩ (by rfl) (.map (some b)) _ (fun V hV => HM5.out V hV) Try.underlying59 rfl ?_
      simp only [Act.put, List.setIfInBounds_toArray, List.set_cons_zero, List.set_cons_succ]
      refine class_value (by rfl) (.int .i64 (i : Int)) (fun V hV => by go_simp) ?_
      simp only [Act.put, List.setIfInBounds_toArray, List.set_cons_zero, List.set_cons_succ]
      refine class_load (by rfl) 40 (.tmp 5) (by rfl) b1 (by rfl) _ D _ _ (fun V hV => HD5.out V hV) Try.underlying40 rfl SD.out ?_
      simp only [Act.put, List.setIfInBounds_toArray, List.set_cons_zero, List.set_cons_succ]
      refine wpQuiet_nil ?_
      intro V6 k6
      refine wpList_pmap_store (by rfl) _ _ _ 59 3 40 (by rfl) Try.underlying59 Try.underlying3 b s.ps i hgl (x, y) (by rfl) (by rfl) (by rw [pv_pc, HD.out]; rfl) (T4.out.later k6.out).map ?_
      intro w7 m7 k7
      have fin : TabAt w7 g b S' := by
        refine (T4.out.later k6.out).put k7 ?_ (by rw [HSE.out]; rfl) (by rw [HSE.out]; rfl) HBO.out
        rw [HSE.out]
        exact m7
      have FIN := Lib.hid (And.intro fin (((K4.out.trans k6.out).mono (fun _ _ h => h.elim)).trans k7))
      clear fin k6 k7 m7
      go_wp2
      go_ret
      exact ⟨rfl, FIN.out.1, FIN.out.2⟩
end Go.Proofs.Ytdihkbkcefjeoaa
