/-
  What is asked for as values, in rows; the document's own order of it.
-/
import Derived.Test.YthnpgiagajfaiaaFtL
import Derived.Test.YthnpgiagajfaiaaOwnB
namespace Go.Proofs.Ythnpgiagajfaiaa
open Go.RowKit Go.BigFrame
set_option linter.unusedVariables false
set_option linter.unusedSimpArgs false

theorem wpList_load_mid_w17 {P : Program} {ops : Array Oper} {rest : List Oper} {o : Oper} {a : Act} {w : World} {Q : Exit → Act → World → Prop} (hw : Region.wanted o (yielded ops a.tmps) = true) (ty : TypeId) (x : Operand) (ho : o.op = .load ty x)
    (b off : Nat) (hx : a.eval x = .pointer (some ⟨b, off, none⟩)) (cs : List Value) (d : TypeDesc) (hc : w.rangeAt b off cs) (hu : P.underlying ty = some d) (hd : d.isRow = true) (hi : (P.info? ty).map (·.size) = some cs.length)
    (h : wpList P ops Q rest (a.put o.dst (.agg cs.toArray)) w) : wpList P ops Q (o :: rest) a w := by
  refine wpList_wanted hw fun K hK => ?_
  unfold Oper.wp execOp
  simp only [ho, hx, Sem.run_bind, Sem.run_pure, Result.andThen_ok, run_loadAt_mid w b off ty cs d hc hu hd hi]
  exact hK _ _ h
/-- Its cells. -/
def qcs (q : Ft.Q) : List Value := wcs q.key ++ [.int .i64 (q.tries : Int), .int .i64 q.left]
theorem qcs_length {q : Ft.Q} (h : Ft.Q.Ok q) : (qcs q).length = 68 := by unfold qcs; rw [List.length_append, wcs_length h]; rfl
theorem qcs_one (q : Ft.Q) : ∀ u ∈ qcs q, u.oneCell' = true := by
  intro u hu
  rcases List.mem_append.1 hu with h | h
  · exact wcs_one _ u h
  · simp at h
    rcases h with rfl | rfl <;> rfl
def qfl (l : List Ft.Q) : List Value := l.flatMap qcs
theorem qfl_length : ∀ (l : List Ft.Q), (∀ q ∈ l, Ft.Q.Ok q) → (qfl l).length = l.length * 68
  | [], _ => rfl
  | q :: l, h => by
    have ih := qfl_length l (fun x hx => h x (List.mem_cons_of_mem _ hx))
    unfold qfl at ih ⊢
    rw [List.flatMap_cons, List.length_append, qcs_length (h q (by simp)), ih, List.length_cons]
    omega
theorem qfl_snoc (l : List Ft.Q) (q : Ft.Q) : qfl l ++ qcs q = qfl (l ++ [q]) := by unfold qfl; rw [List.flatMap_append]; simp
theorem qfl_one (l : List Ft.Q) : ∀ u ∈ qfl l, u.oneCell' = true := by
  intro u hu
  obtain ⟨q, _, h⟩ := List.mem_flatMap.1 hu
  exact qcs_one q u h
theorem qfl_at : ∀ (l : List Ft.Q), (∀ q ∈ l, Ft.Q.Ok q) → ∀ (i : Nat) (q : Ft.Q), l[i]? = some q → ∀ (j : Nat) (v : Value), (qcs q)[j]? = some v → (qfl l)[i * 68 + j]? = some v
  | [], _, i, q, h, _, _, _ => by simp at h
  | a :: l, hok, 0, q, h, j, v, hv => by
    simp at h
    subst h
    unfold qfl
    rw [List.flatMap_cons, Nat.zero_mul, Nat.zero_add, List.getElem?_append_left (List.getElem?_eq_some_iff.1 hv).1]
    exact hv
  | a :: l, hok, i + 1, q, h, j, v, hv => by
    have ih := qfl_at l (fun x hx => hok x (List.mem_cons_of_mem _ hx)) i q (by simpa using h) j v hv
    unfold qfl at ih ⊢
    rw [List.flatMap_cons, List.getElem?_append_right (by rw [qcs_length (hok a (by simp))]; omega), qcs_length (hok a (by simp))]
    rw [show (i + 1) * 68 + j - 68 = i * 68 + j by omega]
    exact ih
/-- One that lies in a row. -/
theorem own_q {w : World} {base g n c : Nat} {l : List Ft.Q} (h : w.ownsRow base 71 68 (.slice (some ⟨g, 0, none⟩) n c) n (qfl l)) (hok : ∀ q ∈ l, Ft.Q.Ok q) {i : Nat} {q : Ft.Q} (hq : l[i]? = some q) : w.rangeAt g (i * 68) (qcs q) := fun j v hv => by
  have hl := (List.getElem?_eq_some_iff.1 hq).1
  have hll := h.1
  rw [qfl_length l hok] at hll
  have hj : j < 68 := by have := (List.getElem?_eq_some_iff.1 hv).1; rwa [qcs_length (hok q (List.mem_of_getElem? hq))] at this
  rw [h.cellAt (i * 68 + j) (by have : l.length = n := by omega
                                subst this; omega)]
  exact qfl_at l hok i q hq j v hv
theorem range_part {w : World} {g o : Nat} {xs ys : List Value} (h : w.rangeAt g o (xs ++ ys)) : w.rangeAt g o xs ∧ w.rangeAt g (o + xs.length) ys := by
  refine ⟨fun j v hv => h j v (by rw [List.getElem?_append_left (List.getElem?_eq_some_iff.1 hv).1]; exact hv), fun j v hv => ?_⟩
  have := h (xs.length + j) v (by rw [List.getElem?_append_right (by omega), Nat.add_sub_cancel_left]; exact hv)
  rwa [← Nat.add_assoc] at this
/-- Its parts. -/
theorem range_q {w : World} {g o : Nat} {q : Ft.Q} (hok : Ft.Q.Ok q) (h : w.rangeAt g o (qcs q)) : w.rangeAt g o (kcs q.key.1) ∧ w.rangeAt g (o + 33) (kcs q.key.2) ∧ w.cell? ⟨g, o + 66, none⟩ = some (.int .i64 (q.tries : Int)) ∧ w.cell? ⟨g, o + 67, none⟩ = some (.int .i64 q.left) := by
  unfold qcs at h
  obtain ⟨h1, h2⟩ := range_part h
  rw [wcs_length hok] at h2
  unfold wcs at h1
  obtain ⟨h3, h4⟩ := range_part h1
  rw [kcs_length hok.1.2] at h4
  exact ⟨h3, h4, h2 0 _ rfl, h2 1 _ rfl⟩
theorem info_Q : (Try.prog.info? 71).map (·.size) = some 68 := by kernel_rfl
theorem range_keeps17 {S : Nat → Prop} {w w' : World} {g o : Nat} {xs : List Value} (h : w.rangeAt g o xs) (hk : Keeps S w w') (hs : ¬ S g) : w'.rangeAt g o xs := fun j v hv => (hk.cell (World.block_lt_of_cell? _ _ (h j v hv)) hs).trans (h j v hv)
theorem range_row {w : World} {g : Nat} {t : TypeId} {xs : List Value} (h : Row w g t xs) : w.rangeAt g 0 xs := fun j v hv => by rw [Nat.zero_add, h.cell]; exact hv
set_option maxRecDepth 100000 in
set_option maxHeartbeats 1000000 in
theorem rless_any (a b : Ft.Q) (ha : Ft.Q.Ok a) (hb : Ft.Q.Ok b) (w : World) :
    Calls Try.prog 23 #[.agg (qcs a).toArray, .agg (qcs b).toArray] w fun e w' => e = .returned (.bool (Ft.wless a.key b.key)) ∧ Keeps (fun _ => False) w w' := by
  obtain ⟨QA, hQA⟩ : ∃ K, (qcs a).toArray = K := ⟨_, rfl⟩
  obtain ⟨QB, hQB⟩ : ∃ K, (qcs b).toArray = K := ⟨_, rfl⟩
  rw [hQA, hQB]
  obtain ⟨b1, hb1⟩ : ∃ x, w.heap.size = x := ⟨_, rfl⟩
  obtain ⟨W1, hW1⟩ : ∃ V, w.alloc (.cells QA 71) = V := ⟨_, rfl⟩
  obtain ⟨b2, hb2⟩ : ∃ x, W1.heap.size = x := ⟨_, rfl⟩
  obtain ⟨W2, hW2⟩ : ∃ V, W1.alloc (.cells QB 71) = V := ⟨_, rfl⟩
  have k1 : Keeps (fun _ => False) w W1 := by rw [← hW1]; exact (Keeps.refl _ _).alloc _
  have k2 : Keeps (fun _ => False) W1 W2 := by rw [← hW2]; exact (Keeps.refl _ _).alloc _
  have r1 : Row W2 b1 71 (qcs a) := Row.keeps (w := W1) (by rw [← hW1, ← hb1, ← hQA]; exact heap_alloc_new w _) k2 id
  have r2 : Row W2 b2 71 (qcs b) := by rw [← hW2, ← hb2, ← hQB]; exact heap_alloc_new W1 _
  obtain ⟨ga1, ga2, _, _⟩ := range_q ha (range_row r1)
  obtain ⟨gb1, gb2, _, _⟩ := range_q hb (range_row r2)
  rw [Nat.zero_add] at ga2 gb2
  have K2 := Lib.hid (k1.trans k2)
  have hq1 := fun V => run_neq_key a.key.1 b.key.1 ha.1 hb.1 V
  have hle : Ft.wless a.key b.key = if a.key.1 = b.key.1 then Ft.kless a.key.2 b.key.2 else Ft.kless a.key.1 b.key.1 := rfl
  have hk1 := fun V => rkless_any a.key.1 b.key.1 ha.1 hb.1 V
  have hk2 := fun V => rkless_any a.key.2 b.key.2 ha.2 hb.2 V
  have s1 : (Try.prog.info? 39).map (·.size) = some (kcs a.key.1).length := by rw [kcs_length ha.1.2]; exact info_k
  have s2 : (Try.prog.info? 39).map (·.size) = some (kcs a.key.2).length := by rw [kcs_length ha.2.2]; exact info_k
  have s3 : (Try.prog.info? 39).map (·.size) = some (kcs b.key.1).length := by rw [kcs_length hb.1.2]; exact info_k
  have s4 : (Try.prog.info? 39).map (·.size) = some (kcs b.key.2).length := by rw [kcs_length hb.2.2]; exact info_k
  obtain ⟨A1, hA1⟩ : ∃ K, kcs a.key.1 = K := ⟨_, rfl⟩
  obtain ⟨A2, hA2⟩ : ∃ K, kcs a.key.2 = K := ⟨_, rfl⟩
  obtain ⟨B1, hB1⟩ : ∃ K, kcs b.key.1 = K := ⟨_, rfl⟩
  obtain ⟨B2, hB2⟩ : ∃ K, kcs b.key.2 = K := ⟨_, rfl⟩
  rw [hA1] at ga1 hq1 s1 hk1
  rw [hA2] at ga2 hk2 s2
  rw [hB1] at gb1 hq1 s3 hk1
  rw [hB2] at gb2 hk2 s4
  obtain ⟨x1, hx1⟩ : ∃ x, Ft.kless a.key.1 b.key.1 = x := ⟨_, rfl⟩
  obtain ⟨x2, hx2⟩ : ∃ x, Ft.kless a.key.2 b.key.2 = x := ⟨_, rfl⟩
  rw [hx1] at hk1
  rw [hx2] at hk2
  rw [hx1, hx2] at hle
  have HK1 := Lib.hid hk1
  have HK2 := Lib.hid hk2
  have HR := Lib.hid (And.intro ga1 (And.intro ga2 (And.intro gb1 gb2)))
  have HS := Lib.hid (And.intro s1 (And.intro s2 (And.intro s3 s4)))
  by_cases he : a.key.1 = b.key.1
  · rw [decide_eq_true he] at hq1
    rw [if_pos he] at hle
    have HQ1 := Lib.hid hq1
    have HLE := Lib.hid hle
    clear hQA hQB r1 r2 ga1 ga2 gb1 gb2 k1 k2 hq1 hle hk1 hk2 hA1 hA2 hB1 hB2 hx1 hx2 he ha hb s1 s2 s3 s4
    go_enter Try.func23, Try.ntmps23
    go_wp2_with (first
      | (refine wpList_load_mid_w17 (by rfl) 39 (.tmp 5) (by rfl) b1 0 (by rfl) A1 _ HR.out.1 Try.underlying39 rfl HS.out.1 ?_)
      | (refine wpList_load_mid_w17 (by rfl) 39 (.tmp 7) (by rfl) b2 0 (by rfl) B1 _ HR.out.2.2.1 Try.underlying39 rfl HS.out.2.2.1 ?_)
      | (refine wpList_eq_agg_w (by rfl) .neq 39 _ (.tmp 6) (.tmp 8) (by rfl) A1.toArray B1.toArray (by rfl) (by rfl) (by kernel_rfl) _ (HQ1.out _) ?_)
      | (refine wpList_load_mid_w17 (by rfl) 39 (.tmp 15) (by rfl) b1 33 (by rfl) A2 _ HR.out.2.1 Try.underlying39 rfl HS.out.2.1 ?_)
      | (refine wpList_load_mid_w17 (by rfl) 39 (.tmp 17) (by rfl) b2 33 (by rfl) B2 _ HR.out.2.2.2 Try.underlying39 rfl HS.out.2.2.2 ?_)
      | fail)
    refine (HK2.out _).mono ?_
    rintro e w5 ⟨rfl, k5⟩
    have K5 := Lib.hid (K2.out.trans k5)
    clear k5
    go_wp2
    go_ret
    exact ⟨by rw [HLE.out]; rfl, K5.out⟩
  · rw [decide_eq_false he] at hq1
    rw [if_neg he] at hle
    have HQ1 := Lib.hid hq1
    have HLE := Lib.hid hle
    clear hQA hQB r1 r2 ga1 ga2 gb1 gb2 k1 k2 hq1 hle hk1 hk2 hA1 hA2 hB1 hB2 hx1 hx2 he ha hb s1 s2 s3 s4
    go_enter Try.func23, Try.ntmps23
    go_wp2_with (first
      | (refine wpList_load_mid_w17 (by rfl) 39 (.tmp 5) (by rfl) b1 0 (by rfl) A1 _ HR.out.1 Try.underlying39 rfl HS.out.1 ?_)
      | (refine wpList_load_mid_w17 (by rfl) 39 (.tmp 7) (by rfl) b2 0 (by rfl) B1 _ HR.out.2.2.1 Try.underlying39 rfl HS.out.2.2.1 ?_)
      | (refine wpList_eq_agg_w (by rfl) .neq 39 _ (.tmp 6) (.tmp 8) (by rfl) A1.toArray B1.toArray (by rfl) (by rfl) (by kernel_rfl) _ (HQ1.out _) ?_)
      | (refine wpList_load_mid_w17 (by rfl) 39 (.tmp 10) (by rfl) b1 0 (by rfl) A1 _ HR.out.1 Try.underlying39 rfl HS.out.1 ?_)
      | (refine wpList_load_mid_w17 (by rfl) 39 (.tmp 12) (by rfl) b2 0 (by rfl) B1 _ HR.out.2.2.1 Try.underlying39 rfl HS.out.2.2.1 ?_)
      | fail)
    refine (HK1.out _).mono ?_
    rintro e w5 ⟨rfl, k5⟩
    have K5 := Lib.hid (K2.out.trans k5)
    clear k5
    go_wp2
    go_ret
    exact ⟨by rw [HLE.out]; rfl, K5.out⟩
end Go.Proofs.Ythnpgiagajfaiaa
