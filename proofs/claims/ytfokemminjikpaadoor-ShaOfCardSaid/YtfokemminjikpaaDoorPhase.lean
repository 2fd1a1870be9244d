/-
  Regions that draw their order and end in a chain: what comes first reads, or calls what makes new memory alone (whatever the order, in a class of worlds); what ends it (an append, a store) comes behind all of that, in the order of the text. No number of any translation stands here.
-/
import Derived.Test.YtfokemminjikpaaDoorClassQ
import Derived.Deep.MidRow
namespace Go.Proofs.YtfokemminjikpaaDoor
open Go.RowKit
set_option linter.unusedVariables false

/-- Operation j waits for operation i. -/
def edgeB (md : Region.Mode) (ops : Array Oper) (j i : Nat) : Bool :=
  match ops[j]? with
  | some o => o.after.any fun e => Region.binds md e && e.on == i
  | none => false
/-- What stands before m is waited for by what stands behind, up to m; what stands behind m waits, down to m. -/
def tailB (md : Region.Mode) (ops : Array Oper) (m : Nat) : Bool :=
  ((List.range m).all fun i => (List.range (m + 1)).any fun j => decide (i < j) && edgeB md ops j i) &&
  ((List.range ops.size).all fun j => decide (j ≤ m) || (List.range j).any fun k => decide (m ≤ k) && edgeB md ops j k)
def lexTo (md : Region.Mode) (ops : Array Oper) (m : Nat) : Nat → Nat → Array Bool → Bool
  | 0, _, listed => (Region.ready md ops listed).all fun j => decide (m ≤ j)
  | fuel + 1, k, listed => (Region.ready md ops listed).contains k && Region.free md ops listed k && lexTo md ops m fuel (k + 1) (listed.setIfInBounds k true)
def setTo : Nat → Nat → Array Bool → Array Bool
  | 0, _, b => b
  | n + 1, k, b => setTo n (k + 1) (b.setIfInBounds k true)
def chainB (md : Region.Mode) (ops : Array Oper) : Nat → Nat → Array Bool → Bool
  | 0, _, listed => (Region.ready md ops listed).isEmpty
  | n + 1, k, listed => (Region.ready md ops listed == [k]) && chainB md ops n (k + 1) (listed.setIfInBounds k true)
def phaseB (md : Region.Mode) (ops : Array Oper) (m : Nat) : Bool :=
  decide (m < ops.size) && (Region.noSelect ops && (tailB md ops m && (lexTo md ops m m 0 (Array.replicate ops.size false) && chainB md ops (ops.size - m) m (setTo m 0 (Array.replicate ops.size false)))))

section
variable {P : Program} {ops : Array Oper} {md : Region.Mode} {C : World → Prop} {Q' : Exit → Act → World → Prop} {m T : Nat}
theorem edge_spec {j i : Nat} (h : edgeB md ops j i = true) : ∃ o e, ops[j]? = some o ∧ e ∈ o.after ∧ Region.binds md e = true ∧ e.on = i := by
  unfold edgeB at h
  split at h
  · rename_i o ho
    obtain ⟨e, he, hb⟩ := Array.any_eq_true'.1 h
    simp only [Bool.and_eq_true, beq_iff_eq] at hb
    exact ⟨o, e, ho, he, hb.1, hb.2⟩
  · cases h
/-- What an operation that has come up waited for has come up. -/
def Closed (md : Region.Mode) (ops : Array Oper) (listed : Array Bool) : Prop := ∀ j o, ops[j]? = some o → listed.getD j false = true → ∀ e ∈ o.after, Region.binds md e = true → listed.getD e.on false = true
theorem closed_new (n : Nat) : Closed md ops (Array.replicate n false) := fun j o _ h => by
  rw [Array.getD_eq_getD_getElem?, Array.getElem?_replicate] at h
  split at h <;> cases h
theorem Closed.set {listed : Array Bool} {j : Nat} (h : Closed md ops listed) (hj : j ∈ Region.ready md ops listed) : Closed md ops (listed.setIfInBounds j true) := fun k o ho hk e he hb => by
  refine getD_set_true ?_
  by_cases hjk : j = k
  · subst hjk
    obtain ⟨_, o', ho', hall⟩ := mem_ready.1 hj
    rw [ho] at ho'
    cases ho'
    exact hall e he hb
  · rw [getD_set_ne false hjk] at hk
    exact h k o ho hk e he hb
/-- Once something of the chain may come up all that stands before has. -/
theorem late {listed : Array Bool} (hB : tailB md ops m = true) (hc : Closed md ops listed) {j : Nat} (hj : j ∈ Region.ready md ops listed) (hm : m ≤ j) : ∀ i, i < m → listed.getD i false = true := by
  simp only [tailB, Bool.and_eq_true, List.all_eq_true, List.mem_range, List.any_eq_true, decide_eq_true_eq, Bool.or_eq_true] at hB
  obtain ⟨hB1, hB2⟩ := hB
  have down : ∀ n j, j ≤ n → m ≤ j → j < ops.size → (∀ o, ops[j]? = some o → ∀ e ∈ o.after, Region.binds md e = true → listed.getD e.on false = true) → ∀ o, ops[m]? = some o → ∀ e ∈ o.after, Region.binds md e = true → listed.getD e.on false = true := by
    intro n
    induction n with
    | zero =>
      intro j hjn hmj _ hd
      obtain rfl : m = j := by omega
      exact hd
    | succ n ih =>
      intro j hjn hmj hjs hd
      rcases Nat.eq_or_lt_of_le hmj with rfl | hlt
      · exact hd
      · rcases hB2 j hjs with h | ⟨k, hk, hmk, he⟩
        · omega
        · obtain ⟨o, e, ho, hem, hb, rfl⟩ := edge_spec he
          have hl := hd o ho e hem hb
          by_cases hks : e.on < ops.size
          · exact ih e.on (by omega) hmk hks (fun o' ho' e' he' hb' => hc e.on o' ho' hl e' he' hb')
          · omega
  obtain ⟨_, oj, hoj, hall⟩ := mem_ready.1 hj
  have hmd := down j j (Nat.le_refl _) hm (Array.getElem?_eq_some_iff.1 hoj).1 (fun o ho e he hb => by rw [hoj] at ho; cases ho; exact hall e he hb)
  have up : ∀ n i, m - i ≤ n → i < m → listed.getD i false = true := by
    intro n
    induction n with
    | zero => intro i h1 h2; omega
    | succ n ih =>
      intro i h1 h2
      obtain ⟨k, hk, hik, he⟩ := hB1 i h2
      obtain ⟨o, e, ho, hem, hb, rfl⟩ := edge_spec he
      rcases Nat.eq_or_lt_of_le (Nat.le_of_lt_succ hk) with rfl | hlt
      · exact hmd o ho e hem hb
      · exact hc k o ho (ih k (by omega) hlt) e hem hb
  exact fun i hi => up (m - i) i (Nat.le_refl _) hi

/-- Whatever order is picked of what stands before m; then the rest. -/
def wpAnyL (P : Program) (md : Region.Mode) (ops : Array Oper) (C : World → Prop) (Q' : Exit → Act → World → Prop) (m T : Nat) : Nat → Array Bool → Act → Prop
  | 0, listed, a => (∀ j ∈ Region.ready md ops listed, m ≤ j) ∧ ∀ w, C w → wpAny P md ops Q' T listed a w
  | fuel + 1, listed, a => Region.ready md ops listed ≠ [] ∧ ∀ i ∈ Region.ready md ops listed, qOp P ops C i (wpAnyL P md ops C Q' m T fuel (listed.setIfInBounds i true)) a
theorem any_of_L : ∀ (fuel : Nat) (listed : Array Bool) (a : Act) (w : World), C w → wpAnyL P md ops C Q' m T fuel listed a → wpAny P md ops Q' (T + fuel) listed a w
  | 0, _, _, w, hw, h => h.2 w hw
  | fuel + 1, _, _, _, hw, h => ⟨fun h0 => absurd h0 h.1, fun i hi => wpOp_of_qOp hw (fun a' w' hw' => any_of_L fuel _ a' w' hw') (h.2 i hi)⟩
theorem L_first {i : Nat} {oi : Oper} {v : Value} (hB : tailB md ops m = true) (him : i < m) (hi : ops[i]? = some oi) (hsel : ∀ (j : Nat) (o : Oper) cs b, ops[j]? = some o → o.op ≠ .select cs b) :
    ∀ (fuel : Nat) (listed : Array Bool) (a : Act), Closed md ops listed →
      (∀ j oj, ops[j]? = some oj → j ≠ i → listed.getD j true = false → (∀ e ∈ oj.after, Region.binds md e = true → e.on ≠ i) → oi.apart ops oj = true) →
      i ∈ Region.ready md ops listed → YieldsIn P ops C oi v a →
      wpAnyL P md ops C Q' m T fuel (listed.setIfInBounds i true) (a.put oi.dst v) → wpAnyL P md ops C Q' m T (fuel + 1) listed a := by
  intro fuel
  induction fuel with
  | zero =>
    intro listed a hcl _ hr hy H
    refine ⟨fun h => (by rw [h] at hr; cases hr), fun j hj => ?_⟩
    by_cases hji : j = i
    · subst hji; exact hy.qOp hi H
    · have h1 := H.1 j (ready_mono hj hji)
      have h2 := late hB hcl hj h1 i him
      have h3 := (mem_ready.1 hr).1
      rw [Array.getD_eq_getD_getElem?] at h2 h3
      cases hli : listed[i]? with
      | none => rw [hli] at h2; cases h2
      | some b => rw [hli] at h2 h3; simp only [Option.getD_some] at h2 h3; rw [h2] at h3; cases h3
  | succ fuel ih =>
    intro listed a hcl hfree hr hy H
    refine ⟨fun h => (by rw [h] at hr; cases hr), fun j hj => ?_⟩
    by_cases hji : j = i
    · subst hji; exact hy.qOp hi H
    · have h1 := H.2 j (ready_mono hj hji)
      obtain ⟨hjun, oj, hoj, hall⟩ := mem_ready.1 hj
      have hnot : ∀ e ∈ oj.after, Region.binds md e = true → e.on ≠ i := fun e he hb heq => by
        have h1 := hall e he hb
        have h0 := (mem_ready.1 hr).1
        rw [heq] at h1
        rcases Nat.lt_or_ge i listed.size with h' | h'
        · simp [h'] at h0 h1; rw [h0] at h1; cases h1
        · simp [Array.getElem?_eq_none h'] at h1
      have h2 := qOp_put hoj (hfree j oj hoj hji hjun hnot) (fun cs b => hsel i oi cs b hi) (fun cs b => hsel j oj cs b hoj) hy h1
      have hfree' : ∀ k ok, ops[k]? = some ok → k ≠ i → (listed.setIfInBounds j true).getD k true = false →
          (∀ e ∈ ok.after, Region.binds md e = true → e.on ≠ i) → oi.apart ops ok = true := fun k ok hk hki hun hno => by
        refine hfree k ok hk hki ?_ hno
        by_cases hjk : j = k
        · subst hjk; exact hjun
        · rw [getD_set_ne true hjk] at hun; exact hun
      refine qOp_mono (fun a' h3 => ih (listed.setIfInBounds j true) a' (hcl.set hj) hfree' (ready_mono hr (Ne.symm hji)) h3.1 ?_) h2
      rw [Array.setIfInBounds_comm _ _ hji]
      exact h3.2
theorem L_lex (hs : Region.noSelect ops = true) (hB : tailB md ops m = true) : ∀ (l : List Oper) (k : Nat) (listed : Array Bool) (a : Act), (∀ j, j < l.length → l[j]? = ops[k + j]?) → k + l.length = m → Closed md ops listed →
    lexTo md ops m l.length k listed = true → wpQuiet P ops C (fun a => ∀ w, C w → wpAny P md ops Q' T (setTo l.length k listed) a w) l a → wpAnyL P md ops C Q' m T l.length listed a
  | [], _, listed, a, _, _, _, hL, h => ⟨by simpa [lexTo] using hL, h⟩
  | o :: l, k, listed, a, hl, hk, hc, hL, h => by
    have h0 : ops[k]? = some o := by simpa using (hl 0 (by simp)).symm
    simp only [List.length_cons] at hk
    simp only [List.length_cons, lexTo, Bool.and_eq_true] at hL
    obtain ⟨⟨hr, hf⟩, hL'⟩ := hL
    have hr' : k ∈ Region.ready md ops listed := by simpa using hr
    have hst : qOp P ops C k (wpQuiet P ops C (fun a => ∀ w, C w → wpAny P md ops Q' T (setTo (l.length + 1) k listed) a w) l) a := by unfold qOp; simp only [h0]; exact h
    obtain ⟨v, hy, hK⟩ := yieldsIn_of_qOp h0 hst
    exact L_first hB (by omega) h0 (Region.noSelect_spec hs) l.length listed a hc (Region.free_spec h0 hf) hr' hy
      (L_lex hs hB l (k + 1) _ _ (fun j hj => by have := hl (j + 1) (by simpa using hj); simpa [Nat.add_assoc, Nat.add_comm 1 j] using this) (by omega) (hc.set hr') hL' hK)
theorem any_chain : ∀ (l : List Oper) (k : Nat) (listed : Array Bool) (a : Act) (w : World), (∀ j, l[j]? = ops[k + j]?) → chainB md ops l.length k listed = true → wpList P ops Q' l a w → wpAny P md ops Q' l.length listed a w
  | [], _, _, _, _, _, hB, h => ⟨by simpa [chainB] using hB, h⟩
  | o :: l, k, listed, a, w, hl, hB, h => by
    have h0 : ops[k]? = some o := by simpa using (hl 0).symm
    simp only [List.length_cons, chainB, Bool.and_eq_true, beq_iff_eq] at hB
    obtain ⟨hr, hB'⟩ := hB
    refine ⟨fun h => (by rw [h] at hr; cases hr), fun i hi => ?_⟩
    rw [hr, List.mem_singleton] at hi
    subst hi
    have hx : wpOp P ops Q' i (wpList P ops Q' l) a w := by unfold wpOp; simp only [h0]; exact h
    exact wpOp_mono (fun a' w' h' => any_chain l (i + 1) _ a' w' (fun j => by have := hl (j + 1); simpa [Nat.add_assoc, Nat.add_comm 1 j] using this) hB' h') hx
end
theorem wpQuiet_mono' {P : Program} {ops : Array Oper} {C : World → Prop} {Q R : Act → Prop} : ∀ {l : List Oper} {a : Act}, wpQuiet P ops C Q l a → (∀ a, Q a → R a) → wpQuiet P ops C R l a
  | [], _, h, hQ => hQ _ h
  | o :: l, a, h, hQ => by
    unfold wpQuiet at h ⊢
    split
    · rename_i hw
      rw [if_pos hw] at h
      exact Oper.quiet_mono (fun a' h' => wpQuiet_mono' h' hQ) h
    · rename_i hw
      rw [if_neg hw] at h
      exact wpQuiet_mono' h hQ
/-- One walk of the text's order serves every order. -/
theorem wp_region_phase {P : Program} {id : Nat} {Q : Exit → Act → World → Prop} {a : Act} {w : World} {l : List Oper} (m : Nat) (C : World → Prop) (hm : P.follows .mixedOrders = true) (hB : phaseB .any l.toArray m = true) (hC : C { w with drawn := w.drawn + 1 })
    (h : wpQuiet P l.toArray C (fun a' => ∀ w', C w' → wpList P l.toArray Q (l.drop m) a' w') (l.take m) a) : (Code.region id l.toArray true).wp P Q a w := by
  simp only [phaseB, Bool.and_eq_true, decide_eq_true_eq, List.size_toArray] at hB
  obtain ⟨hml, hs, ht, hx, hc⟩ := hB
  refine wp_region_any hm ?_
  have hlen : (l.take m).length = m := by rw [List.length_take]; omega
  have hdl : (l.drop m).length = l.length - m := List.length_drop
  have hL := L_lex (P := P) (ops := l.toArray) (md := .any) (C := C) (Q' := Q) (m := m) (T := l.length - m) hs ht (l.take m) 0 (Array.replicate l.length false) a
    (fun j hj => by rw [Nat.zero_add, List.getElem?_take, if_pos (by omega), List.getElem?_toArray]) (by omega) (closed_new _) (by rw [hlen]; exact hx)
    (wpQuiet_mono' h fun a' h' w' hw' => by
      rw [hlen]
      have := any_chain (P := P) (ops := l.toArray) (md := .any) (Q' := Q) (l.drop m) m (setTo m 0 (Array.replicate l.length false)) a' w' (fun j => by rw [List.getElem?_drop, List.getElem?_toArray]) (by rw [hdl]; exact hc) (h' w' hw')
      rw [hdl] at this
      exact this)
  have := any_of_L _ _ _ _ hC hL
  rw [hlen, Nat.sub_add_cancel (by omega)] at this
  simpa using this
/-- A cell is loaded, in whatever world of the class. -/
theorem run_loadVar_one {P : Program} (w : World) (p : Addr) (ty : TypeId) (d : TypeDesc) (v : Value) (hc : w.cell? p = some v) (hu : P.underlying ty = some d) (hd : d.isRow = false) : (loadVar ty p).run P w = .ok v w := by
  have hagg : (isAgg ty).run P w = .ok false w := by
    unfold isAgg
    rw [Sem.run_bind, run_underlying hu w]
    cases d <;> simp_all
  simp [loadVar, Sem.run_bind, hagg, hc]
section
variable {P : Program} {ops : Array Oper} {rest : List Oper} {o : Oper} {a : Act} {C : World → Prop} {Q : Act → Prop}
theorem class_cell (hw : Region.wanted o (yielded ops a.tmps) = true) (ty : TypeId) (x : Operand) (ho : o.op = .load ty x)
    (p : Addr) (hx : a.eval x = .pointer (some p)) (v : Value) (d : TypeDesc) (hc : ∀ w, C w → w.cell? p = some v) (hu : P.underlying ty = some d) (hd : d.isRow = false)
    (h : wpQuiet P ops C Q rest (a.put o.dst v)) : wpQuiet P ops C Q (o :: rest) a := by
  refine BigFrame.wpQuiet_want hw fun K hK => ⟨v, fun w hw' => ?_, hK _ h⟩
  unfold Oper.quietAt execOp
  simp only [ho, hx, Instr.loadAt, Instr.sureAddr, Sem.run_bind, Sem.run_pure, Result.andThen_ok, run_loadVar_one w p ty d v (hc w hw') hu hd]
  exact ⟨rfl, rfl⟩
/-- A row in the midst of a block is loaded, in whatever world of the class. -/
theorem class_mid (hw : Region.wanted o (yielded ops a.tmps) = true) (ty : TypeId) (x : Operand) (ho : o.op = .load ty x)
    (b off : Nat) (hx : a.eval x = .pointer (some ⟨b, off, none⟩)) (cs : List Value) (d : TypeDesc) (hc : ∀ w, C w → w.rangeAt b off cs) (hu : P.underlying ty = some d) (hd : d.isRow = true) (hi : (P.info? ty).map (·.size) = some cs.length)
    (h : wpQuiet P ops C Q rest (a.put o.dst (.agg cs.toArray))) : wpQuiet P ops C Q (o :: rest) a := by
  refine BigFrame.wpQuiet_want hw fun K hK => ⟨.agg cs.toArray, fun w hw' => ?_, hK _ h⟩
  unfold Oper.quietAt execOp
  simp only [ho, hx, Sem.run_bind, Sem.run_pure, Result.andThen_ok, run_loadAt_mid w b off ty cs d (hc w hw') hu hd hi]
  exact ⟨rfl, rfl⟩
end
end Go.Proofs.YtfokemminjikpaaDoor
