/-
  The program's table of what is asked for: Start, Done; that a table stays one.
-/
import Derived.Test.YthnpgiagajfaiaaFcT
import Derived.Test.YthnpgiagajfaiaaFtO
namespace Go.Proofs.Ythnpgiagajfaiaa
open Go.RowKit Go.BigFrame
set_option linter.unusedVariables false
set_option linter.unusedSimpArgs false

namespace Ft
theorem ins_perm (q : Q) : ∀ l : List Q, (ins q l).Perm (q :: l)
  | [] => List.Perm.refl _
  | a :: l => by
    unfold ins
    split
    · exact List.Perm.refl _
    · exact ((ins_perm q l).cons a).trans (List.Perm.swap _ _ _)
theorem start_ok {t : Tb} (h : Tb.Ok t) (k : Wn) (hk : Wn.Ok k) : Tb.Ok { t with l := start t.l k } := by
  refine ⟨h.inn, start_sorted h.sorted k, fun q hq => ?_⟩
  have hq' : q ∈ start t.l k := hq
  unfold start at hq'
  split at hq'
  · exact h.fine q hq'
  · rcases mem_ins.1 hq' with rfl | hq'
    · exact ⟨hk, Nat.zero_le _, by show (1 : Int) ≤ 1; omega, by show (1 : Int) ≤ 1100; omega⟩
    · exact h.fine q hq'
theorem done_ok {t : Tb} (h : Tb.Ok t) (k : Wn) : Tb.Ok { t with l := done t.l k } :=
  ⟨h.inn, done_sorted h.sorted k, fun q hq => h.fine q (List.mem_filter.1 hq).1⟩
/-- Keys of what a tick leaves: some of those there were, in their order. -/
theorem tick_sub {base most budget : Nat} (hb : 1 ≤ base) (s : BitVec 64) : ∀ l : List Q, ((tick base most budget s l).l.map (·.key)).Sublist (l.map (·.key)) := by
  have gen : ∀ (l : List Q) (t : Tk) (pre : List Wn), (t.l.map (·.key)).Sublist pre → ((l.foldl (tk1 base most budget) t).l.map (·.key)).Sublist (pre ++ l.map (·.key)) := by
    intro l
    induction l with
    | nil => intro t pre h; simpa using h
    | cons q l ih =>
      intro t pre h
      rw [List.foldl_cons, List.map_cons, List.append_cons]
      refine ih _ _ ?_
      unfold tk1 say
      by_cases h1 : 0 < q.left - 1
      · rw [if_pos h1]
        show ((t.l ++ [_]).map _).Sublist _
        rw [List.map_append]
        exact h.append (List.Sublist.refl _)
      · rw [if_neg h1]
        by_cases h2 : q.tries = budget
        · rw [if_pos h2]
          exact h.trans (List.sublist_append_left _ _)
        · rw [if_neg h2]
          show ((t.l ++ [_]).map _).Sublist _
          rw [List.map_append]
          exact h.append (List.Sublist.refl _)
  intro l
  have := gen l ⟨[], s, [], []⟩ [] (by simp)
  simpa [tick] using this
theorem tab_tick_ok {t : Tb} (h : Tb.Ok t) (s : BitVec 64) : Tb.Ok { t with l := (t.tk s).l } := by
  have hb : 1 ≤ t.base := h.inn.1.1
  refine ⟨h.inn, ?_, fun x hx => ?_⟩
  · have h1 : (t.l.map (·.key)).Pairwise (fun a b => wless a b = true) := List.pairwise_map.2 h.sorted
    have h2 : ((tick t.base t.most t.budget s t.l).l.map (·.key)).Pairwise (fun a b => wless a b = true) := List.Pairwise.sublist (tick_sub hb s t.l) h1
    exact List.pairwise_map.1 h2
  · obtain ⟨q, hq, hk, hc⟩ := tick_stays hb hx
    obtain ⟨h1, h2, h3, h4⟩ := h.fine q hq
    refine ⟨by unfold Q.Ok; rw [hk]; exact h1, ?_⟩
    show x.tries ≤ t.budget ∧ 1 ≤ x.left ∧ x.left ≤ 1100
    have hi : (1 ≤ t.base ∧ t.base ≤ 100) ∧ (t.base ≤ t.most ∧ t.most ≤ 1000) ∧ (1 ≤ t.budget ∧ t.budget ≤ 20) := h.inn
    have hlw : ∀ y, y = t.base * 2 ^ q.tries → 1 ≤ y := fun y hy => by rw [hy]; exact Nat.le_trans hi.1.1 (Nat.le_mul_of_pos_right _ (Nat.pow_pos (by decide)))
    have hwt : ∃ y, t.base * 2 ^ q.tries = y ∧ wait t.base t.most q.tries = min y t.most := ⟨_, rfl, rfl⟩
    obtain ⟨y, hy, hwy⟩ := hwt
    have hy1 := hlw y hy.symm
    clear hlw hy
    rcases hc with ⟨h5, h6, h7⟩ | ⟨h5, h6, h7, h8, h9⟩
    · exact ⟨by omega, by omega, by omega⟩
    · rw [hwy] at h8 h9
      have hm1 : 1 ≤ min y t.most := by omega
      have hm2 : min y t.most ≤ 1000 := by omega
      generalize min y t.most = z at h8 h9 hm1 hm2
      exact ⟨by omega, by omega, by omega⟩
end Ft
theorem exec_made18 {P : Program} {o : Oper} {a : Act} (t : TypeId) (parts : List (Nat × Operand)) (ho : o.op = .build t parts.toArray) (vs : List (Nat × Value)) (hx : parts.map (fun (i, x) => (i, a.eval x)) = vs) (v : Value) (w : World) (hrun : (Instr.build t vs.toArray).run P w = .ok v w) : (execOp a.eval o).run P w = .ok (.value v) w := by
  unfold execOp
  simp only [ho, List.map_toArray, hx, Sem.run_bind, Sem.run_pure, Result.andThen_ok, hrun]
theorem build_S1 (V : World) : (Instr.build 69 #[(1, .int .i64 1)]).run Try.prog V = .ok (.agg #[.int .i64 0, .int .i64 1]) V := by kernel_rfl
theorem build_S2 (x y : Int) (V : World) : (Instr.build 69 #[(0, .int .i64 x), (1, .int .i64 y)]).run Try.prog V = .ok (.agg #[.int .i64 x, .int .i64 y]) V := by kernel_rfl
theorem map_some (b : Nat) (V : World) : (binOp .eql 63 (.map (some b)) (.map none)).run Try.prog V = .ok (.bool false) V := by kernel_rfl
theorem fstart_none (w : World) (k : Ft.Wn) (hk : Ft.Wn.Ok k) : Calls Try.prog 12 #[.pointer none, .agg (wcs k).toArray] w fun e w' => e = .returned (.bool false) ∧ Keeps (fun _ => False) w w' := by
  obtain ⟨KX, hKX⟩ : ∃ K, (wcs k).toArray = K := ⟨_, rfl⟩
  rw [hKX]
  have HF : Hid (Keeps (fun _ => False) w (w.alloc (.cells KX 41))) := Lib.hid ((Keeps.refl _ _).alloc _)
  clear hKX hk
  go_enter Try.func12, Try.ntmps12
  go_wp2
  go_ret
  exact ⟨rfl, HF.out⟩
set_option maxRecDepth 100000 in
set_option maxHeartbeats 1000000 in
theorem fdone_none (w : World) (k : Ft.Wn) (hk : Ft.Wn.Ok k) : Calls Try.prog 14 #[.pointer none, .agg (wcs k).toArray] w fun e w' => e = .returned (.bool false) ∧ Keeps (fun _ => False) w w' := by
  obtain ⟨bk, hbk⟩ : ∃ x, w.heap.size = x := ⟨_, rfl⟩
  obtain ⟨W1, hW1⟩ : ∃ V, w.alloc (.cells (wcs k).toArray 41) = V := ⟨_, rfl⟩
  have k1 : Keeps (fun _ => False) w W1 := by rw [← hW1]; exact (Keeps.refl _ _).alloc _
  have r1 : Row W1 bk 41 (wcs k) := by rw [← hW1, ← hbk]; exact heap_alloc_new w _
  have hh := fhas_none W1 k hk
  obtain ⟨KX, hKX⟩ : ∃ K, (wcs k).toArray = K := ⟨_, rfl⟩
  have HSX : Hid ((Try.prog.info? 41).map (·.size) = some KX.size) := Lib.hid (by rw [← hKX, List.size_toArray, wcs_length hk]; exact info_want)
  have R1 : Hid (W1.heap[bk]? = some (.cells KX 41 (0, 0))) := Lib.hid (by rw [← hKX]; exact r1)
  rw [hKX] at hh hW1 ⊢
  have HH := Lib.hid hh
  have K1 := Lib.hid k1
  clear hKX hk hh k1 r1
  go_enter Try.func14, Try.ntmps14
  go_wp2_with (first
    | (refine wpList_load_row rfl 41 _ rfl bk rfl 41 KX (0, 0) _ R1.out Try.underlying41 rfl HSX.out ?_)
    | fail)
  refine HH.out.mono ?_
  rintro e w2 ⟨rfl, k2⟩
  have K2 := Lib.hid (K1.out.trans k2)
  clear k2
  go_wp2
  go_ret
  exact ⟨rfl, K2.out⟩
set_option maxRecDepth 100000 in
set_option maxHeartbeats 1000000 in
theorem fstart_any (w : World) (F : Nat → Prop) (g : Nat) (t : Ft.Tb) (k : Ft.Wn) (h : FAt w F g t) (hk : Ft.Wn.Ok k) :
    Calls Try.prog 12 #[.pointer (some ⟨g, 0, none⟩), .agg (wcs k).toArray] w fun e w' => e = .returned (.bool (!Ft.has t.l k)) ∧ FAt w' F g { t with l := Ft.start t.l k } ∧ Keeps F w w' := by
  obtain ⟨b, h⟩ := h
  obtain ⟨bk, hbk⟩ : ∃ x, w.heap.size = x := ⟨_, rfl⟩
  obtain ⟨W1, hW1⟩ : ∃ V, w.alloc (.cells (wcs k).toArray 41) = V := ⟨_, rfl⟩
  have k1 : Keeps (fun _ => False) w W1 := by rw [← hW1]; exact (Keeps.refl _ _).alloc _
  have r1 : Row W1 bk 41 (wcs k) := by rw [← hW1, ← hbk]; exact heap_alloc_new w _
  have h1 := h.later k1
  have hh := fhas_any W1 F g t k ⟨b, h1⟩ hk
  have c1 : W1.cell? ⟨g, 0, none⟩ = some (.map (some b)) := h1.row.cell 0
  have hok := h.ok
  have hglt := h.glt
  have hblt := h.map.lt
  obtain ⟨KL, hKL⟩ : ∃ K, wcs k = K := ⟨_, rfl⟩
  have HSA : Hid ((Try.prog.info? 41).map (·.size) = some KL.toArray.size) := Lib.hid (by rw [← hKL, List.size_toArray, wcs_length hk]; exact info_want)
  have HSX : Hid ((Try.prog.info? 41).map (·.size) = some KL.length) := Lib.hid (by rw [← hKL, wcs_length hk]; exact info_want)
  rw [hKL] at hh hW1 r1 ⊢
  have R1 : Hid (W1.heap[bk]? = some (.cells KL.toArray 41 (0, 0))) := Lib.hid r1
  have HH := Lib.hid hh
  have H1 := Lib.hid h1
  have K1 := Lib.hid k1
  have HKK := Lib.hid (And.intro hk hKL)
  have HOK := Lib.hid (And.intro hok (And.intro hglt hblt))
  obtain ⟨r, hr⟩ : ∃ r, Ft.has t.l k = r := ⟨_, rfl⟩
  rw [hr] at HH ⊢
  clear hh h1 k1 r1 h hk hKL hok hglt hblt
  cases r with
  | true =>
    have hst : Ft.start t.l k = t.l := by unfold Ft.start; rw [if_pos hr]
    rw [hst]
    have HT : Hid (({ t with l := t.l } : Ft.Tb) = t) := Lib.hid rfl
    clear hr hst
    have hmn := map_some b
    go_enter Try.func12, Try.ntmps12
    go_wp2_with (first
      | (refine wpList_load_row_w (by rfl) 41 _ (by rfl) bk (by rfl) 41 KL.toArray (0, 0) _ R1.out Try.underlying41 rfl HSA.out ?_)
      | fail)
    refine HH.out.mono ?_
    rintro e w2 ⟨rfl, k2⟩
    have FIN := Lib.hid (And.intro (show FAt w2 F g t from ⟨b, H1.out.later k2⟩) ((K1.out.trans k2).mono (T := F) (fun _ _ h => h.elim)))
    clear k2
    go_wp2
    go_ret
    exact ⟨rfl, FIN.out⟩
  | false =>
    have hst : Ft.start t.l k = Ft.ins ⟨k, 0, 1⟩ t.l := by unfold Ft.start; rw [if_neg (by rw [hr]; decide)]
    have hno : ∀ q ∈ t.l, q.key ≠ k := fun q hq e => by
      have := Ft.has_iff.2 ⟨q, hq, e⟩
      rw [hr] at this
      cases this
    have HST := Lib.hid (And.intro hst hno)
    clear hr hst hno
    have hmn := map_some b
    go_enter Try.func12, Try.ntmps12
    go_wp2_with (first
      | (refine wpList_load_row_w (by rfl) 41 _ (by rfl) bk (by rfl) 41 KL.toArray (0, 0) _ R1.out Try.underlying41 rfl HSA.out ?_)
      | fail)
    refine HH.out.mono ?_
    rintro e W2 ⟨rfl, k2⟩
    have h2 := H1.out.later k2
    have r2 : Row W2 bk 41 KL := Row.keeps (w := W1) R1.out k2 id
    have HM0 : Hid (∀ V, Later W2 V → V.cell? ⟨g, 0, none⟩ = some (.map (some b))) := Lib.hid (fun V hV => (h2.row.keeps hV.out id).cell 0)
    have HKX : Hid (∀ V, Later W2 V → V.rangeAt bk 0 KL) := Lib.hid (fun V hV => by
      have h3 := Row.keeps r2 hV.out id
      rw [← HKK.out.2] at h3 ⊢
      exact want_range h3)
    have H2 := Lib.hid h2
    have K2 := Lib.hid (K1.out.trans k2)
    clear h2 r2 k2
    go_wp2_with fail
    refine wp_region_phase 6 (Later W2) (by kernel_rfl) (by kernel_rfl) (⟨(Keeps.refl _ _).drew⟩) ?_
    simp only [List.take_succ_cons, List.take_zero, List.drop_succ_cons, List.drop_zero]
    refine class_value (by rfl) (.pointer (some ⟨g, 0, none⟩)) (fun V hV => by go_simp) ?_
    simp only [Act.put, List.setIfInBounds_toArray, List.set_cons_zero, List.set_cons_succ]
    refine class_value (by rfl) (.pointer (some ⟨g, 0, none⟩)) (fun V hV => by go_simp) ?_
    simp only [Act.put, List.setIfInBounds_toArray, List.set_cons_zero, List.set_cons_succ]
    refine class_value (by rfl) (.pointer (some ⟨g, 0, none⟩)) (fun V hV => by go_simp) ?_
    simp only [Act.put, List.setIfInBounds_toArray, List.set_cons_zero, List.set_cons_succ]
    refine class_cell (by rfl) 63 (.tmp 21) (by rfl) ⟨g, 0, none⟩ (by rfl) (.map (some b)) _ (fun V hV => HM0.out V hV) Try.underlying63 rfl ?_
    simp only [Act.put, List.setIfInBounds_toArray, List.set_cons_zero, List.set_cons_succ]
    refine class_mid (by rfl) 41 (.tmp 3) (by rfl) bk 0 (by rfl) KL _ (fun V hV => HKX.out V hV) Try.underlying41 rfl HSX.out ?_
    simp only [Act.put, List.setIfInBounds_toArray, List.set_cons_zero, List.set_cons_succ]
    refine class_value (by rfl) (.agg #[.int .i64 0, .int .i64 1]) (fun V hV => exec_made18 _ [(1, .const (.int .i64 1))] (by rfl) [(1, .int .i64 1)] (by rfl) _ V (build_S1 V)) ?_
    simp only [Act.put, List.setIfInBounds_toArray, List.set_cons_zero, List.set_cons_succ]
    refine wpQuiet_nil ?_
    intro V hV
    have hmV := H2.out.map.keeps hV.out id
    go_wp2_with (first
      | (refine wpList_wstore (by rfl) _ _ _ (by rfl) b t.l ⟨k, 0, 1⟩ HKK.out.1 (by rfl) KL.toArray #[.int .i64 0, .int .i64 1] (by rfl) (by rfl) (by rw [HKK.out.2]) (by rfl) hmV ?_; intro w3 hm3 hk3; have HM3 := Lib.hid hm3; have HK3 := Lib.hid hk3; clear hm3 hk3)
      | fail)
    have hperm : (Ft.Q.mk k 0 1 :: Ft.done t.l k).Perm (Ft.start t.l k) := by
      rw [HST.out.1, done_none HST.out.2]
      exact (Ft.ins_perm _ _).symm
    have hne := H2.out.ne
    have hfin : FAt w3 F g { t with l := Ft.start t.l k } ∧ Keeps F w w3 := by
      refine ⟨⟨b, (H2.out.row.keeps hV.out id).keeps HK3.out (fun e => hne e.symm), HM3.out.to hperm, H2.out.own, Ft.start_ok HOK.out.1 k HKK.out.1⟩, ?_⟩
      exact ((K2.out.trans hV.out).mono (fun _ _ h => h.elim)).trans (HK3.out.mono (fun i _ e => (H2.out.own i).2 (.inr e)))
    have FIN := Lib.hid hfin
    clear hfin hne hperm hmV hV
    go_ret
    exact ⟨rfl, FIN.out⟩
set_option maxRecDepth 100000 in
set_option maxHeartbeats 1000000 in
theorem fdone_any (w : World) (F : Nat → Prop) (g : Nat) (t : Ft.Tb) (k : Ft.Wn) (h : FAt w F g t) (hk : Ft.Wn.Ok k) :
    Calls Try.prog 14 #[.pointer (some ⟨g, 0, none⟩), .agg (wcs k).toArray] w fun e w' => e = .returned (.bool (Ft.has t.l k)) ∧ FAt w' F g { t with l := Ft.done t.l k } ∧ Keeps F w w' := by
  obtain ⟨b, h⟩ := h
  obtain ⟨bk, hbk⟩ : ∃ x, w.heap.size = x := ⟨_, rfl⟩
  obtain ⟨W1, hW1⟩ : ∃ V, w.alloc (.cells (wcs k).toArray 41) = V := ⟨_, rfl⟩
  have k1 : Keeps (fun _ => False) w W1 := by rw [← hW1]; exact (Keeps.refl _ _).alloc _
  have r1 : Row W1 bk 41 (wcs k) := by rw [← hW1, ← hbk]; exact heap_alloc_new w _
  have h1 := h.later k1
  have hh := fhas_any W1 F g t k ⟨b, h1⟩ hk
  have hok := h.ok
  obtain ⟨KL, hKL⟩ : ∃ K, wcs k = K := ⟨_, rfl⟩
  have HSA : Hid ((Try.prog.info? 41).map (·.size) = some KL.toArray.size) := Lib.hid (by rw [← hKL, List.size_toArray, wcs_length hk]; exact info_want)
  have HSX : Hid ((Try.prog.info? 41).map (·.size) = some KL.length) := Lib.hid (by rw [← hKL, wcs_length hk]; exact info_want)
  rw [hKL] at hh hW1 r1 ⊢
  have R1 : Hid (W1.heap[bk]? = some (.cells KL.toArray 41 (0, 0))) := Lib.hid r1
  have HH := Lib.hid hh
  have H1 := Lib.hid h1
  have K1 := Lib.hid k1
  have HKK := Lib.hid (And.intro hk hKL)
  have HOK := Lib.hid hok
  obtain ⟨r, hr⟩ : ∃ r, Ft.has t.l k = r := ⟨_, rfl⟩
  rw [hr] at HH ⊢
  clear hh h1 k1 r1 h hk hKL hok
  cases r with
  | false =>
    have hno : ∀ q ∈ t.l, q.key ≠ k := fun q hq e => by
      have := Ft.has_iff.2 ⟨q, hq, e⟩
      rw [hr] at this
      cases this
    rw [done_none hno]
    clear hr hno
    go_enter Try.func14, Try.ntmps14
    go_wp2_with (first
      | (refine wpList_load_row rfl 41 _ rfl bk rfl 41 KL.toArray (0, 0) _ R1.out Try.underlying41 rfl HSA.out ?_)
      | fail)
    refine HH.out.mono ?_
    rintro e w2 ⟨rfl, k2⟩
    have FIN := Lib.hid (And.intro (show FAt w2 F g t from ⟨b, H1.out.later k2⟩) ((K1.out.trans k2).mono (T := F) (fun _ _ h => h.elim)))
    clear k2
    go_wp2
    go_ret
    exact ⟨rfl, FIN.out⟩
  | true =>
    clear hr
    go_enter Try.func14, Try.ntmps14
    go_wp2_with (first
      | (refine wpList_load_row rfl 41 _ rfl bk rfl 41 KL.toArray (0, 0) _ R1.out Try.underlying41 rfl HSA.out ?_)
      | fail)
    refine HH.out.mono ?_
    rintro e W2 ⟨rfl, k2⟩
    have h2 := H1.out.later k2
    have r2 : Row W2 bk 41 KL := Row.keeps (w := W1) R1.out k2 id
    have HM0 : Hid (∀ V, Later W2 V → V.cell? ⟨g, 0, none⟩ = some (.map (some b))) := Lib.hid (fun V hV => (h2.row.keeps hV.out id).cell 0)
    have HKX : Hid (∀ V, Later W2 V → V.rangeAt bk 0 KL) := Lib.hid (fun V hV => by
      have h3 := Row.keeps r2 hV.out id
      rw [← HKK.out.2] at h3 ⊢
      exact want_range h3)
    have H2 := Lib.hid h2
    have K2 := Lib.hid (K1.out.trans k2)
    clear h2 r2 k2
    go_wp2_with fail
    refine wp_region_phase 5 (Later W2) (by kernel_rfl) (by kernel_rfl) (⟨(Keeps.refl _ _).drew⟩) ?_
    simp only [List.take_succ_cons, List.take_zero, List.drop_succ_cons, List.drop_zero]
    refine class_value (by rfl) (.pointer (some ⟨g, 0, none⟩)) (fun V hV => by go_simp) ?_
    simp only [Act.put, List.setIfInBounds_toArray, List.set_cons_zero, List.set_cons_succ]
    refine class_value (by rfl) (.pointer (some ⟨g, 0, none⟩)) (fun V hV => by go_simp) ?_
    simp only [Act.put, List.setIfInBounds_toArray, List.set_cons_zero, List.set_cons_succ]
    refine class_value (by rfl) (.pointer (some ⟨g, 0, none⟩)) (fun V hV => by go_simp) ?_
    simp only [Act.put, List.setIfInBounds_toArray, List.set_cons_zero, List.set_cons_succ]
    refine class_cell (by rfl) 63 (.tmp 11) (by rfl) ⟨g, 0, none⟩ (by rfl) (.map (some b)) _ (fun V hV => HM0.out V hV) Try.underlying63 rfl ?_
    simp only [Act.put, List.setIfInBounds_toArray, List.set_cons_zero, List.set_cons_succ]
    refine class_mid (by rfl) 41 (.tmp 3) (by rfl) bk 0 (by rfl) KL _ (fun V hV => HKX.out V hV) Try.underlying41 rfl HSX.out ?_
    simp only [Act.put, List.setIfInBounds_toArray, List.set_cons_zero, List.set_cons_succ]
    refine wpQuiet_nil ?_
    intro V hV
    have hmV := H2.out.map.keeps hV.out id
    go_wp2_with (first
      | (refine wpList_wdrop (by rfl) _ _ (by rfl) b t.l k HKK.out.1 (by rfl) KL.toArray (by rfl) (by rw [HKK.out.2]) hmV ?_; intro w3 hm3 hk3; have HM3 := Lib.hid hm3; have HK3 := Lib.hid hk3; clear hm3 hk3)
      | fail)
    have hne := H2.out.ne
    have hfin : FAt w3 F g { t with l := Ft.done t.l k } ∧ Keeps F w w3 := by
      refine ⟨⟨b, (H2.out.row.keeps hV.out id).keeps HK3.out (fun e => hne e.symm), HM3.out, H2.out.own, Ft.done_ok HOK.out k⟩, ?_⟩
      exact ((K2.out.trans hV.out).mono (fun _ _ h => h.elim)).trans (HK3.out.mono (fun i _ e => (H2.out.own i).2 (.inr e)))
    have FIN := Lib.hid hfin
    clear hfin hne hmV hV
    go_ret
    exact ⟨rfl, FIN.out⟩
end Go.Proofs.Ythnpgiagajfaiaa
