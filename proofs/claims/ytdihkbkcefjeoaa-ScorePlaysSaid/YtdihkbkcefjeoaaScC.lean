/-
  A peer is blamed; one is set.
-/
import Derived.Test.YtdihkbkcefjeoaaScB
namespace Go.Proofs.Ytdihkbkcefjeoaa
open Go.RowKit Go.BigFrame
set_option linter.unusedVariables false
set_option linter.unusedSimpArgs false

theorem exec_build {P : Program} {o : Oper} {a : Act} {w : World} (t : TypeId) (parts : List (Nat × Operand)) (ho : o.op = .build t parts.toArray) (vs : List (Nat × Value)) (hx : parts.map (fun (i, x) => (i, a.eval x)) = vs) (v : Value) (hrun : (Instr.build t vs.toArray).run P w = .ok v w) :
    (execOp a.eval o).run P w = .ok (.value v) w := by
  unfold execOp
  simp only [ho, List.map_toArray, hx, Sem.run_bind, Sem.run_pure, Result.andThen_ok, hrun]
set_option maxHeartbeats 1000000 in
theorem blame_off (P : Value) (w : World) (p : Int × Int) (q : Bool) (k n : Int) (hoff : q = false ∨ 0 < p.2 ∨ n < 1) (hp : Calls Try.prog 19 #[P, .int .i64 k] w fun e w' => e = .returned (.tuple #[.agg (pc p), .bool q]) ∧ Keeps (fun _ => False) w w') :
    Calls Try.prog 10 #[P, .int .i64 k, .int .i64 n] w fun e w' => e = .returned (.bool false) ∧ Keeps (fun _ => False) w w' := by
  obtain ⟨Z, hZ⟩ : ∃ Z, pc (0, 0) = Z := ⟨_, rfl⟩
  have hz : ∀ V : World, (zeroValue 40).run Try.prog V = .ok (.agg Z) V := fun V => by rw [← hZ]; exact zero_peer V
  have haw := fun V => away_any p V
  obtain ⟨C, hC⟩ : ∃ C, pc p = C := ⟨_, rfl⟩
  obtain ⟨y, hy⟩ : ∃ y, p.2 = y := ⟨_, rfl⟩
  rw [hC] at hp haw
  rw [hy] at hoff haw
  have SC : Hid ((Try.prog.info? 40).map (·.size) = some C.size) := Lib.hid (by rw [← hC]; exact size_Peer)
  have SZC : Hid (Z.size = C.size) := Lib.hid (by rw [← hC, ← hZ]; rfl)
  have OC : Hid (C.all (·.oneCell') = true) := Lib.hid (by rw [← hC]; exact pc_one _)
  have HP := Lib.hid hp
  have HAW := Lib.hid haw
  clear hp haw hZ hC hy
  go_enter Try.func10, Try.ntmps10
  go_wp2_with fail
  refine HP.out.mono ?_
  rintro e w1 ⟨rfl, k1⟩
  obtain ⟨b2, hb2⟩ : ∃ x, w1.heap.size = x := ⟨_, rfl⟩
  obtain ⟨W2, hW2⟩ : ∃ V, w1.alloc (.cells Z 40) = V := ⟨_, rfl⟩
  have r2 : W2.heap[b2]? = some (.cells Z 40 (0, 0)) := by rw [← hW2, ← hb2]; exact heap_alloc_new w1 _
  have k2 : Keeps (fun _ => False) w W2 := by rw [← hW2]; exact k1.alloc _
  obtain ⟨W3, hW3⟩ : ∃ V, W2.setRow b2 C = V := ⟨_, rfl⟩
  have hws : w.heap.size ≤ b2 := by have := k1.size; omega
  have K3 : Hid (Keeps (fun _ => False) w W3) := Lib.hid (k2.trans' (T := fun k => k = b2) (by rw [← hW3]; exact Keeps.setRow _ _) (fun i hi e => by omega))
  have R3 : Hid (W3.heap[b2]? = some (.cells C 40 (0, 0))) := Lib.hid (by rw [← hW3]; exact setRow_heap _ _ _ _ _ _ r2)
  have R2 := Lib.hid r2
  clear r2 k1 k2 hws
  cases q with
  | false =>
    clear hoff
    go_wp2_with (first
      | (refine wpList_store_row (by rfl) 40 _ _ (by rfl) b2 C (by rfl) (by rfl) 40 Z R2.out SC.out SZC.out OC.out ?_; rw [hW3]))
    go_ret
    exact ⟨rfl, K3.out⟩
  | true =>
    by_cases hy : 0 < y
    · have hyd : decide (0 < y) = true := decide_eq_true hy
      rw [hyd] at HAW
      clear hoff hy hyd
      go_wp2_with (first
        | (refine wpList_load_row_w (by rfl) 40 _ (by rfl) b2 (by rfl) 40 C (0, 0) _ R3.out Try.underlying40 rfl SC.out ?_)
        | (refine wpList_store_row (by rfl) 40 _ _ (by rfl) b2 C (by rfl) (by rfl) 40 Z R2.out SC.out SZC.out OC.out ?_; rw [hW3])
        | fail)
      refine (HAW.out _).mono ?_
      rintro e w4 ⟨rfl, k4⟩
      have K4 := Lib.hid (K3.out.trans k4)
      clear k4
      go_wp2
      go_ret
      exact ⟨rfl, K4.out⟩
    · have hyd : decide (0 < y) = false := decide_eq_false hy
      have hn : n < 1 := by
        rcases hoff with h | h | h
        · cases h
        · exact absurd h hy
        · exact h
      have hnd : decide (n < 1) = true := decide_eq_true hn
      rw [hyd] at HAW
      clear hoff hy hyd hn
      go_wp2_with (first
        | (refine wpList_load_row_w (by rfl) 40 _ (by rfl) b2 (by rfl) 40 C (0, 0) _ R3.out Try.underlying40 rfl SC.out ?_)
        | (refine wpList_store_row (by rfl) 40 _ _ (by rfl) b2 C (by rfl) (by rfl) 40 Z R2.out SC.out SZC.out OC.out ?_; rw [hW3])
        | fail)
      refine (HAW.out _).mono ?_
      rintro e w4 ⟨rfl, k4⟩
      have K4 := Lib.hid (K3.out.trans k4)
      clear k4
      go_wp2
      go_ret
      exact ⟨rfl, K4.out⟩
set_option maxRecDepth 100000 in
set_option maxHeartbeats 2000000 in
/-- One that there is, isn't kept away, and gets points. -/
theorem blame_on (w : World) (g b : Nat) (s : Sc.Tb) (i : Nat) (n : Int) (h : TabAt w g b s) (hm : Sc.may s (i : Int) n = true) (hn : n ≤ 9223372036854775807) :
    Calls Try.prog 10 #[.pointer (some ⟨g, 0, none⟩), .int .i64 (i : Int), .int .i64 n] w fun e w' => e = .returned (.bool (Sc.hit s (i : Int) n)) ∧ TabAt w' g b (Sc.blame s (i : Int) n) ∧ Keeps (fun k => k = b) w w' := by
  have hm' := of_decide_eq_true hm
  obtain ⟨hi, hy, h1⟩ := hm'
  have hpo := h.ok.pts _ (Sc.get_mem hi)
  have hli := h.ok.limit
  have hpe := peer_any w g b s (i : Int) h
  have hq : Sc.has s (i : Int) = true := decide_eq_true hi
  rw [hq] at hpe
  have haw := fun V => away_any (Sc.get s (i : Int)) V
  have hbo := Sc.blame_ok h.ok (i : Int) n
  have hgl : i < s.ps.length := by omega
  have hhit : Sc.hit s (i : Int) n = decide (s.limit - (Sc.get s (i : Int)).1 ≤ n) := by unfold Sc.hit; rw [hm]; rfl
  obtain ⟨R, hR⟩ : ∃ R, Sc.hit s (i : Int) n = R := ⟨_, rfl⟩
  obtain ⟨S', hS'⟩ : ∃ S', Sc.blame s (i : Int) n = S' := ⟨_, rfl⟩
  rw [hR, hS']
  rw [hR] at hhit
  have hbl : Sc.blame s (i : Int) n = if s.limit - (Sc.get s (i : Int)).1 ≤ n then { s with ps := s.ps.set i (s.limit / 2, s.hold) } else { s with ps := s.ps.set i ((Sc.get s (i : Int)).1 + n, 0) } := by
    unfold Sc.blame
    rw [if_pos hm]
    rfl
  rw [hbl] at hbo hS'
  obtain ⟨p, hp⟩ : ∃ p, Sc.get s (i : Int) = p := ⟨_, rfl⟩
  rw [hp] at hpe haw hpo hy hbo hS' hhit
  obtain ⟨x, y⟩ := p
  obtain ⟨L, hL⟩ : ∃ L, s.limit = L := ⟨_, rfl⟩
  obtain ⟨H, hH⟩ : ∃ H, s.hold = H := ⟨_, rfl⟩
  have hyd : decide (0 < (x, y).2) = false := decide_eq_false (by omega)
  rw [hyd] at haw
  obtain ⟨Z, hZ⟩ : ∃ Z, pc (0, 0) = Z := ⟨_, rfl⟩
  have hz : ∀ V : World, (zeroValue 40).run Try.prog V = .ok (.agg Z) V := fun V => by rw [← hZ]; exact zero_peer V
  obtain ⟨C, hC⟩ : ∃ C, pc (x, y) = C := ⟨_, rfl⟩
  rw [hC] at hpe haw
  have SC : Hid ((Try.prog.info? 40).map (·.size) = some C.size) := Lib.hid (by rw [← hC]; exact size_Peer)
  have SZC : Hid (Z.size = C.size) := Lib.hid (by rw [← hC, ← hZ]; rfl)
  have OC : Hid (C.all (·.oneCell') = true) := Lib.hid (by rw [← hC]; exact pc_one _)
  have HP := Lib.hid hpe
  have HAW := Lib.hid haw
  have HT := Lib.hid h
  have HC := Lib.hid hC
  have HBO := Lib.hid hbo
  have hnd : decide (n < 1) = false := decide_eq_false (by omega)
  rw [hL] at hpo hli
  dsimp only at hpo hy hbo hS' hhit
  have HS' := Lib.hid hS'
  have HHIT := Lib.hid hhit
  have HNS := Lib.hid (And.intro hpo (And.intro hli (And.intro h1 hn)))
  clear hpe haw hZ hC hy hyd hm hi hq h hbo hhit hbl hp hpo hR hS' hli h1 hn
  go_enter Try.func10, Try.ntmps10
  go_wp2_with fail
  refine HP.out.mono ?_
  rintro e w1 ⟨rfl, k1⟩
  obtain ⟨b2, hb2⟩ : ∃ x, w1.heap.size = x := ⟨_, rfl⟩
  obtain ⟨W2, hW2⟩ : ∃ V, w1.alloc (.cells Z 40) = V := ⟨_, rfl⟩
  have r2 : W2.heap[b2]? = some (.cells Z 40 (0, 0)) := by rw [← hW2, ← hb2]; exact heap_alloc_new w1 _
  have k2 : Keeps (fun _ => False) w W2 := by rw [← hW2]; exact k1.alloc _
  obtain ⟨W3, hW3⟩ : ∃ V, W2.setRow b2 C = V := ⟨_, rfl⟩
  have hws : w.heap.size ≤ b2 := by have := k1.size; omega
  have K3 : Hid (Keeps (fun _ => False) w W3) := Lib.hid (k2.trans' (T := fun k => k = b2) (by rw [← hW3]; exact Keeps.setRow _ _) (fun i hi e => by omega))
  have R3 : Hid (W3.heap[b2]? = some (.cells C 40 (0, 0))) := Lib.hid (by rw [← hW3]; exact setRow_heap _ _ _ _ _ _ r2)
  have R2 := Lib.hid r2
  clear r2 k1 k2 hws
  go_wp2_with (first
    | (refine wpList_load_row_w (by rfl) 40 _ (by rfl) b2 (by rfl) 40 C (0, 0) _ R3.out Try.underlying40 rfl SC.out ?_)
    | (refine wpList_store_row (by rfl) 40 _ _ (by rfl) b2 C (by rfl) (by rfl) 40 Z R2.out SC.out SZC.out OC.out ?_; rw [hW3])
    | fail)
  refine (HAW.out _).mono ?_
  rintro e w4 ⟨rfl, k4⟩
  have r4 : Row w4 b2 40 [.int .i64 x, .int .i64 y] := by
    have := (k4.block b2 (Array.getElem?_eq_some_iff.1 R3.out).1 id).trans R3.out
    rw [← HC.out] at this
    exact this
  have t4 := HT.out.later (K3.out.trans k4)
  have HL : Hid (∀ V, Later w4 V → V.cell? ⟨g, 1, none⟩ = some (.int .i64 L)) := Lib.hid (fun V hV => by rw [← hL]; exact (t4.row.keeps hV.out id).cell 1)
  have HX : Hid (∀ V, Later w4 V → V.cell? ⟨b2, 0, none⟩ = some (.int .i64 x)) := Lib.hid (fun V hV => (r4.keeps hV.out id).cell 0)
  have T4 := Lib.hid t4
  have R4 := Lib.hid r4
  have K4 := Lib.hid (K3.out.trans k4)
  clear k4 r4 t4
  have hwr : IntKind.i64.wrap (L - x) = L - x := IntWalk.i64_in _ (by have := HNS.out; omega)
  have HLE := Lib.hid (And.intro hL hH)
  clear hL hH
  by_cases hc : L - x ≤ n
  · have hcd : decide (n ≥ L - x) = true := decide_eq_true hc
    have hce : decide (L - x ≤ n) = true := decide_eq_true hc
    have HIF : Hid (s.limit - x ≤ n) := Lib.hid (by rw [HLE.out.1]; exact hc)
    rw [if_pos HIF.out] at HBO HS'
    obtain rfl : R = true := HHIT.out.trans (decide_eq_true HIF.out)
    clear HHIT
    clear hc hce
    go_wp2_with fail
    refine wp_region_class (Later w4) (by kernel_rfl) (by kernel_rfl) (⟨(Keeps.refl _ _).drew⟩) ?_
    refine class_value (by rfl) (.int .i64 n) (fun V hV => by go_simp) ?_
    simp only [Act.put, List.setIfInBounds_toArray, List.set_cons_zero, List.set_cons_succ]
    refine class_value (by rfl) (.pointer (some ⟨g, 0, none⟩)) (fun V hV => by go_simp) ?_
    simp only [Act.put, List.setIfInBounds_toArray, List.set_cons_zero, List.set_cons_succ]
    refine class_value (by rfl) (.pointer (some ⟨g, 0, none⟩)) (fun V hV => by go_simp) ?_
    simp only [Act.put, List.setIfInBounds_toArray, List.set_cons_zero, List.set_cons_succ]
    refine class_value (by rfl) (.pointer (some ⟨g, 1, none⟩)) (fun V hV => by go_simp) ?_
    simp only [Act.put, List.setIfInBounds_toArray, List.set_cons_zero, List.set_cons_succ]
    refine class_cell (by rfl) 3 (.tmp 28) (by rfl) ⟨g, 1, none⟩ (by rfl) (.int .i64 L) _ (fun V hV => HL.out V hV) Try.underlying3 rfl ?_
    simp only [Act.put, List.setIfInBounds_toArray, List.set_cons_zero, List.set_cons_succ]
    refine class_value (by rfl) (.pointer (some ⟨b2, 0, none⟩)) (fun V hV => by go_simp) ?_
    simp only [Act.put, List.setIfInBounds_toArray, List.set_cons_zero, List.set_cons_succ]
    refine class_cell (by rfl) 3 (.tmp 30) (by rfl) ⟨b2, 0, none⟩ (by rfl) (.int .i64 x) _ (fun V hV => HX.out V hV) Try.underlying3 rfl ?_
    simp only [Act.put, List.setIfInBounds_toArray, List.set_cons_zero, List.set_cons_succ]
    refine class_value (by rfl) (.int .i64 (L - x)) (fun V hV => by go_simp) ?_
    simp only [Act.put, List.setIfInBounds_toArray, List.set_cons_zero, List.set_cons_succ]
    refine class_value (by rfl) (.bool true) (fun V hV => by go_simp) ?_
    simp only [Act.put, List.setIfInBounds_toArray, List.set_cons_zero, List.set_cons_succ]
    refine wpQuiet_nil ?_
    intro w5 k5
    have t5 := T4.out.later k5.out
    have HM5 : Hid (∀ V, Later w5 V → V.cell? ⟨g, 0, none⟩ = some (.map (some b))) := Lib.hid (fun V hV => (t5.row.keeps hV.out id).cell 0)
    have HL5 : Hid (∀ V, Later w5 V → V.cell? ⟨g, 1, none⟩ = some (.int .i64 L)) := Lib.hid (fun V hV => by rw [← HLE.out.1]; exact (t5.row.keeps hV.out id).cell 1)
    have HH5 : Hid (∀ V, Later w5 V → V.cell? ⟨g, 2, none⟩ = some (.int .i64 H)) := Lib.hid (fun V hV => by rw [← HLE.out.2]; exact (t5.row.keeps hV.out id).cell 2)
    obtain ⟨L2, hL2⟩ : ∃ L2, L / 2 = L2 := ⟨_, rfl⟩
    have hq1 : L.tdiv 2 = L2 := by rw [← hL2]; exact Int.tdiv_eq_ediv_of_nonneg (by have := HNS.out; omega)
    have hq2 : IntKind.i64.wrap (L.tdiv 2) = L2 := by rw [hq1]; exact IntWalk.i64_in _ (by have := HNS.out; omega)
    have hq3 : IntKind.i64.wrap L2 = L2 := by rw [← hL2]; exact IntWalk.i64_in _ (by have := HNS.out; omega)
    have T5 := Lib.hid t5
    have K5 := Lib.hid (K4.out.trans k5.out)
    have HL2 := Lib.hid hL2
    clear t5 k5 hL2
    go_wp2_with fail
    refine wp_region_phase 15 (Later w5) (by kernel_rfl) (by kernel_rfl) (⟨(Keeps.refl _ _).drew⟩) ?_
    simp only [List.take_succ_cons, List.take_zero, List.drop_succ_cons, List.drop_zero]
    refine class_value (by rfl) (.pointer (some ⟨g, 0, none⟩)) (fun V hV => by go_simp) ?_
    simp only [Act.put, List.setIfInBounds_toArray, List.set_cons_zero, List.set_cons_succ]
    refine class_value (by rfl) (.pointer (some ⟨g, 0, none⟩)) (fun V hV => by go_simp) ?_
    simp only [Act.put, List.setIfInBounds_toArray, List.set_cons_zero, List.set_cons_succ]
    refine class_value (by rfl) (.pointer (some ⟨g, 0, none⟩)) (fun V hV => by go_simp) ?_
    simp only [Act.put, List.setIfInBounds_toArray, List.set_cons_zero, List.set_cons_succ]
    refine class_cell (by rfl) 59 (.tmp 36) (by rfl) ⟨g, 0, none⟩ (by rfl) (.map (some b)) _ (fun V hV => HM5.out V hV) Try.underlying59 rfl ?_
    simp only [Act.put, List.setIfInBounds_toArray, List.set_cons_zero, List.set_cons_succ]
    refine class_value (by rfl) (.int .i64 (i : Int)) (fun V hV => by go_simp) ?_
    simp only [Act.put, List.setIfInBounds_toArray, List.set_cons_zero, List.set_cons_succ]
    refine class_value (by rfl) (.pointer (some ⟨g, 0, none⟩)) (fun V hV => by go_simp) ?_
    simp only [Act.put, List.setIfInBounds_toArray, List.set_cons_zero, List.set_cons_succ]
    refine class_value (by rfl) (.pointer (some ⟨g, 0, none⟩)) (fun V hV => by go_simp) ?_
    simp only [Act.put, List.setIfInBounds_toArray, List.set_cons_zero, List.set_cons_succ]
    refine class_value (by rfl) (.pointer (some ⟨g, 1, none⟩)) (fun V hV => by go_simp) ?_
    simp only [Act.put, List.setIfInBounds_toArray, List.set_cons_zero, List.set_cons_succ]
    refine class_cell (by rfl) 3 (.tmp 41) (by rfl) ⟨g, 1, none⟩ (by rfl) (.int .i64 L) _ (fun V hV => HL5.out V hV) Try.underlying3 rfl ?_
    simp only [Act.put, List.setIfInBounds_toArray, List.set_cons_zero, List.set_cons_succ]
    refine class_value (by rfl) (.int .i64 L2) (fun V hV => by go_simp) ?_
    simp only [Act.put, List.setIfInBounds_toArray, List.set_cons_zero, List.set_cons_succ]
    refine class_value (by rfl) (.pointer (some ⟨g, 0, none⟩)) (fun V hV => by go_simp) ?_
    simp only [Act.put, List.setIfInBounds_toArray, List.set_cons_zero, List.set_cons_succ]
    refine class_value (by rfl) (.pointer (some ⟨g, 0, none⟩)) (fun V hV => by go_simp) ?_
    simp only [Act.put, List.setIfInBounds_toArray, List.set_cons_zero, List.set_cons_succ]
    refine class_value (by rfl) (.pointer (some ⟨g, 2, none⟩)) (fun V hV => by go_simp) ?_
    simp only [Act.put, List.setIfInBounds_toArray, List.set_cons_zero, List.set_cons_succ]
    refine class_cell (by rfl) 3 (.tmp 46) (by rfl) ⟨g, 2, none⟩ (by rfl) (.int .i64 H) _ (fun V hV => HH5.out V hV) Try.underlying3 rfl ?_
    simp only [Act.put, List.setIfInBounds_toArray, List.set_cons_zero, List.set_cons_succ]
    refine class_value (by rfl) (pv (L2, H)) (fun V hV => exec_build 40 [(0, .tmp 43), (1, .tmp 47)] (by rfl) [(0, .int .i64 L2), (1, .int .i64 H)] (by rfl) (pv (L2, H)) (build_peer L2 H V)) ?_
    simp only [Act.put, List.setIfInBounds_toArray, List.set_cons_zero, List.set_cons_succ]
    refine wpQuiet_nil ?_
    intro V6 k6
    refine wpList_pmap_store (by rfl) _ _ _ 59 3 40 (by rfl) Try.underlying59 Try.underlying3 b s.ps i hgl (L2, H) (by rfl) (by rfl) (by rfl) (T5.out.later k6.out).map ?_
    intro w7 m7 k7
    have fin : TabAt w7 g b { s with ps := s.ps.set i (s.limit / 2, s.hold) } := by
      refine (T5.out.later k6.out).put k7 ?_ rfl rfl HBO.out
      show PMap w7 b (s.ps.set i (s.limit / 2, s.hold))
      rw [HLE.out.1, HLE.out.2, HL2.out]
      exact m7
    have FIN := Lib.hid (And.intro fin (((K5.out.trans k6.out).mono (fun _ _ h => h.elim)).trans k7))
    clear fin k6 k7 m7
    go_wp2
    go_ret
    exact ⟨rfl, by rw [← HS'.out]; exact FIN.out.1, FIN.out.2⟩
  · have hcd : decide (n ≥ L - x) = false := decide_eq_false hc
    have hce : decide (L - x ≤ n) = false := decide_eq_false hc
    have HIF : Hid (¬ s.limit - x ≤ n) := Lib.hid (by rw [HLE.out.1]; exact hc)
    rw [if_neg HIF.out] at HBO HS'
    obtain rfl : R = false := HHIT.out.trans (decide_eq_false HIF.out)
    clear HHIT
    obtain ⟨XN, hXN⟩ : ∃ XN, x + n = XN := ⟨_, rfl⟩
    have hwa : IntKind.i64.wrap (x + n) = XN := by rw [← hXN]; exact IntWalk.i64_in _ (by have := HNS.out; omega)
    have HXN := Lib.hid hXN
    rw [hXN] at HBO
    clear hc hce hXN
    go_wp2_with fail
    refine wp_region_class (Later w4) (by kernel_rfl) (by kernel_rfl) (⟨(Keeps.refl _ _).drew⟩) ?_
    refine class_value (by rfl) (.int .i64 n) (fun V hV => by go_simp) ?_
    simp only [Act.put, List.setIfInBounds_toArray, List.set_cons_zero, List.set_cons_succ]
    refine class_value (by rfl) (.pointer (some ⟨g, 0, none⟩)) (fun V hV => by go_simp) ?_
    simp only [Act.put, List.setIfInBounds_toArray, List.set_cons_zero, List.set_cons_succ]
    refine class_value (by rfl) (.pointer (some ⟨g, 0, none⟩)) (fun V hV => by go_simp) ?_
    simp only [Act.put, List.setIfInBounds_toArray, List.set_cons_zero, List.set_cons_succ]
    refine class_value (by rfl) (.pointer (some ⟨g, 1, none⟩)) (fun V hV => by go_simp) ?_
    simp only [Act.put, List.setIfInBounds_toArray, List.set_cons_zero, List.set_cons_succ]
    refine class_cell (by rfl) 3 (.tmp 28) (by rfl) ⟨g, 1, none⟩ (by rfl) (.int .i64 L) _ (fun V hV => HL.out V hV) Try.underlying3 rfl ?_
    simp only [Act.put, List.setIfInBounds_toArray, List.set_cons_zero, List.set_cons_succ]
    refine class_value (by rfl) (.pointer (some ⟨b2, 0, none⟩)) (fun V hV => by go_simp) ?_
    simp only [Act.put, List.setIfInBounds_toArray, List.set_cons_zero, List.set_cons_succ]
    refine class_cell (by rfl) 3 (.tmp 30) (by rfl) ⟨b2, 0, none⟩ (by rfl) (.int .i64 x) _ (fun V hV => HX.out V hV) Try.underlying3 rfl ?_
    simp only [Act.put, List.setIfInBounds_toArray, List.set_cons_zero, List.set_cons_succ]
    refine class_value (by rfl) (.int .i64 (L - x)) (fun V hV => by go_simp) ?_
    simp only [Act.put, List.setIfInBounds_toArray, List.set_cons_zero, List.set_cons_succ]
    refine class_value (by rfl) (.bool false) (fun V hV => by go_simp) ?_
    simp only [Act.put, List.setIfInBounds_toArray, List.set_cons_zero, List.set_cons_succ]
    refine wpQuiet_nil ?_
    intro w5 k5
    have t5 := T4.out.later k5.out
    have HM5 : Hid (∀ V, Later w5 V → V.cell? ⟨g, 0, none⟩ = some (.map (some b))) := Lib.hid (fun V hV => (t5.row.keeps hV.out id).cell 0)
    have HX5 : Hid (∀ V, Later w5 V → V.cell? ⟨b2, 0, none⟩ = some (.int .i64 x)) := Lib.hid (fun V hV => ((R4.out.keeps k5.out id).keeps hV.out id).cell 0)
    have T5 := Lib.hid t5
    have K5 := Lib.hid (K4.out.trans k5.out)
    clear t5 k5
    go_wp2_with fail
    refine wp_region_phase 10 (Later w5) (by kernel_rfl) (by kernel_rfl) (⟨(Keeps.refl _ _).drew⟩) ?_
    simp only [List.take_succ_cons, List.take_zero, List.drop_succ_cons, List.drop_zero]
    refine class_value (by rfl) (.pointer (some ⟨g, 0, none⟩)) (fun V hV => by go_simp) ?_
    simp only [Act.put, List.setIfInBounds_toArray, List.set_cons_zero, List.set_cons_succ]
    refine class_value (by rfl) (.pointer (some ⟨g, 0, none⟩)) (fun V hV => by go_simp) ?_
    simp only [Act.put, List.setIfInBounds_toArray, List.set_cons_zero, List.set_cons_succ]
    refine class_value (by rfl) (.pointer (some ⟨g, 0, none⟩)) (fun V hV => by go_simp) ?_
    simp only [Act.put, List.setIfInBounds_toArray, List.set_cons_zero, List.set_cons_succ]
    refine class_cell (by rfl) 59 (.tmp 51) (by rfl) ⟨g, 0, none⟩ (by rfl) (.map (some b)) _ (fun V hV => HM5.out V hV) Try.underlying59 rfl ?_
    simp only [Act.put, List.setIfInBounds_toArray, List.set_cons_zero, List.set_cons_succ]
    refine class_value (by rfl) (.int .i64 (i : Int)) (fun V hV => by go_simp) ?_
    simp only [Act.put, List.setIfInBounds_toArray, List.set_cons_zero, List.set_cons_succ]
    refine class_value (by rfl) (.pointer (some ⟨b2, 0, none⟩)) (fun V hV => by go_simp) ?_
    simp only [Act.put, List.setIfInBounds_toArray, List.set_cons_zero, List.set_cons_succ]
    refine class_cell (by rfl) 3 (.tmp 54) (by rfl) ⟨b2, 0, none⟩ (by rfl) (.int .i64 x) _ (fun V hV => HX5.out V hV) Try.underlying3 rfl ?_
    simp only [Act.put, List.setIfInBounds_toArray, List.set_cons_zero, List.set_cons_succ]
    refine class_value (by rfl) (.int .i64 n) (fun V hV => by go_simp) ?_
    simp only [Act.put, List.setIfInBounds_toArray, List.set_cons_zero, List.set_cons_succ]
    refine class_value (by rfl) (.int .i64 XN) (fun V hV => by go_simp) ?_
    simp only [Act.put, List.setIfInBounds_toArray, List.set_cons_zero, List.set_cons_succ]
    refine class_value (by rfl) (pv (XN, 0)) (fun V hV => exec_build 40 [(0, .tmp 57)] (by rfl) [(0, .int .i64 XN)] (by rfl) (pv (XN, 0)) (build_peer_one XN V)) ?_
    simp only [Act.put, List.setIfInBounds_toArray, List.set_cons_zero, List.set_cons_succ]
    refine wpQuiet_nil ?_
    intro V6 k6
    refine wpList_pmap_store (by rfl) _ _ _ 59 3 40 (by rfl) Try.underlying59 Try.underlying3 b s.ps i hgl (XN, 0) (by rfl) (by rfl) (by rfl) (T5.out.later k6.out).map ?_
    intro w7 m7 k7
    have fin : TabAt w7 g b { s with ps := s.ps.set i (XN, 0) } := (T5.out.later k6.out).put k7 m7 rfl rfl HBO.out
    have FIN := Lib.hid (And.intro fin (((K5.out.trans k6.out).mono (fun _ _ h => h.elim)).trans k7))
    clear fin k6 k7 m7
    go_wp2
    go_ret
    exact ⟨rfl, by rw [← HS'.out, HXN.out]; exact FIN.out.1, FIN.out.2⟩
end Go.Proofs.Ytdihkbkcefjeoaa
