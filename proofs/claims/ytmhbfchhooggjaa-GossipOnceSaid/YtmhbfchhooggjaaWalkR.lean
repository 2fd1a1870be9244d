/-
  Regions that draw their order, in a class of worlds: what reads old memory, and calls that make new memory alone. No number of any translation stands here.
  Drawn regions, in a class of worlds: an operation by its run. No number of any translation stands here.
  Regions that draw their order and end in a chain: what comes first reads, or calls what makes new memory alone (whatever the order, in a class of worlds); what ends it (an append, a store) comes behind all of that, in the order of the text. No number of any translation stands here.
  Regions that draw their order, whose operations read, call what makes new memory alone, or make new memory themselves ('[]byte("c")' within a chain of '&&'): one walk of the text's order. No number of any translation stands here.
  As Phase, where the region's first operation copies a slot, and is wanted by the chain alone ('w = append(w, f(x))').
-/
import Derived.Test.YtmhbfchhooggjaaEq
import Derived.BigQuiet
import Derived.Deep.MidRow
namespace Go.Proofs.Ytmhbfchhooggjaa
open Go.RowKit
set_option linter.unusedVariables false

section
variable {P : Program} {ops : Array Oper} {rest : List Oper} {o : Oper} {a : Act} {C : World → Prop} {Q : Act → Prop}
theorem class_load (hw : Region.wanted o (yielded ops a.tmps) = true) (ty : TypeId) (x : Operand) (ho : o.op = .load ty x)
    (g : Nat) (hx : a.eval x = .pointer (some ⟨g, 0, none⟩)) (t : TypeId) (cs : Array Value) (fr : Nat × Nat) (d : TypeDesc) (hg : ∀ w, C w → w.heap[g]? = some (.cells cs t fr))
    (hu : P.underlying ty = some d) (hd : (match d with | .struct _ | .array _ _ => true | _ => false) = true) (hi : (P.info? ty).map (·.size) = some cs.size)
    (h : wpQuiet P ops C Q rest (a.put o.dst (.agg cs))) : wpQuiet P ops C Q (o :: rest) a := by
  refine BigFrame.wpQuiet_want hw fun K hK => ⟨.agg cs, fun w hw' => ?_, hK _ h⟩
  unfold Oper.quietAt execOp
  simp only [ho, hx, Instr.loadAt, Instr.sureAddr, Sem.run_bind, Sem.run_pure, Result.andThen_ok, run_loadVar_row w g t ty cs fr d (hg w hw') hu hd hi]
  exact ⟨rfl, rfl⟩
theorem class_eq (hw : Region.wanted o (yielded ops a.tmps) = true) (op : BinOp) (t t2 : TypeId) (x y : Operand) (ho : o.op = .binOp op t x y t2)
    (xs ys : Array Value) (hx : a.eval x = .agg xs) (hy : a.eval y = .agg ys) (hm : P.eqGuardType P.depth t = false) (v : Value) (hrun : ∀ w, (binOp op t (.agg xs) (.agg ys)).run P w = .ok v w)
    (h : wpQuiet P ops C Q rest (a.put o.dst v)) : wpQuiet P ops C Q (o :: rest) a := by
  refine BigFrame.wpQuiet_want hw fun K hK => ⟨v, fun w hw' => ?_, hK _ h⟩
  unfold Oper.quietAt execOp
  simp only [ho, hx, hy, Sem.run_bind, Sem.run_pure, Result.andThen_ok, run_eqGuard_agg w op t x y xs ys hm, hrun]
  exact ⟨rfl, rfl⟩
end
theorem wp_region_class {P : Program} {id : Nat} {Q : Exit → Act → World → Prop} {a : Act} {w : World} {l : List Oper} (C : World → Prop) (hm : P.follows .mixedOrders = true) (hB : Region.lexB .any l.toArray = true) (hC : C { w with drawn := w.drawn + 1 })
    (h : wpQuiet P l.toArray C (fun a' => ∀ w', C w' → Q .normal a' w') l a) : (Code.region id l.toArray true).wp P Q a w :=
  wp_region_quiet hm hB hC (by simpa using h)
/-- A class of worlds, by a name that no walk lays open: those that hold what w held. -/
structure Later (w V : World) : Prop where
  out : Keeps (fun _ => False) w V
end Go.Proofs.Ytmhbfchhooggjaa
namespace Go.Proofs.Ytmhbfchhooggjaa
open Go.RowKit
set_option linter.unusedVariables false

section
variable {P : Program} {ops : Array Oper} {rest : List Oper} {o : Oper} {a : Act} {C : World → Prop} {Q : Act → Prop}
theorem class_value (hw : Region.wanted o (yielded ops a.tmps) = true) (v : Value) (hrun : ∀ w, C w → (execOp a.eval o).run P w = .ok (.value v) w)
    (h : wpQuiet P ops C Q rest (a.put o.dst v)) : wpQuiet P ops C Q (o :: rest) a := by
  refine BigFrame.wpQuiet_want hw fun K hK => ⟨v, fun w hw' => ?_, hK _ h⟩
  unfold Oper.quietAt
  rw [hrun w hw']
  exact ⟨rfl, rfl⟩
end
end Go.Proofs.Ytmhbfchhooggjaa
namespace Go.Proofs.Ytmhbfchhooggjaa
open Go.RowKit
set_option linter.unusedVariables false

/-- Operation j waits for operation i. -/
def edgeB (md : Region.Mode) (ops : Array Oper) (j i : Nat) : Bool :=
  match ops[j]? with
  | some o => o.after.any fun e => Region.binds md e && e.on == i
  | none => false
/-- What stands before m is waited for by what stands behind, up to m; what stands behind m waits, down to m. -/
def tailB (md : Region.Mode) (ops : Array Oper) (m : Nat) : Bool :=
  ((List.range m).all fun i => (List.range (m + 1)).any fun j => decide (i < j) && edgeB md ops j i) &&
  ((List.range ops.size).all fun j => decide (j ≤ m) || (List.range j).any fun k => decide (m ≤ k) && edgeB md ops j k)
def lexTo (md : Region.Mode) (ops : Array Oper) (m : Nat) : Nat → Nat → Array Bool → Bool
  | 0, _, listed => (Region.ready md ops listed).all fun j => decide (m ≤ j)
  | fuel + 1, k, listed => (Region.ready md ops listed).contains k && Region.free md ops listed k && lexTo md ops m fuel (k + 1) (listed.setIfInBounds k true)
def setTo : Nat → Nat → Array Bool → Array Bool
  | 0, _, b => b
  | n + 1, k, b => setTo n (k + 1) (b.setIfInBounds k true)
def chainB (md : Region.Mode) (ops : Array Oper) : Nat → Nat → Array Bool → Bool
  | 0, _, listed => (Region.ready md ops listed).isEmpty
  | n + 1, k, listed => (Region.ready md ops listed == [k]) && chainB md ops n (k + 1) (listed.setIfInBounds k true)
def phaseB (md : Region.Mode) (ops : Array Oper) (m : Nat) : Bool :=
  decide (m < ops.size) && (Region.noSelect ops && (tailB md ops m && (lexTo md ops m m 0 (Array.replicate ops.size false) && chainB md ops (ops.size - m) m (setTo m 0 (Array.replicate ops.size false)))))

section
variable {P : Program} {ops : Array Oper} {md : Region.Mode} {C : World → Prop} {Q' : Exit → Act → World → Prop} {m T : Nat}
theorem edge_spec {j i : Nat} (h : edgeB md ops j i = true) : ∃ o e, ops[j]? = some o ∧ e ∈ o.after ∧ Region.binds md e = true ∧ e.on = i := by
  unfold edgeB at h
  split at h
  · rename_i o ho
    obtain ⟨e, he, hb⟩ := Array.any_eq_true'.1 h
    simp only [Bool.and_eq_true, beq_iff_eq] at hb
    exact ⟨o, e, ho, he, hb.1, hb.2⟩
  · cases h
/-- What an operation that has come up waited for has come up. -/
def Closed (md : Region.Mode) (ops : Array Oper) (listed : Array Bool) : Prop := ∀ j o, ops[j]? = some o → listed.getD j false = true → ∀ e ∈ o.after, Region.binds md e = true → listed.getD e.on false = true
theorem closed_new (n : Nat) : Closed md ops (Array.replicate n false) := fun j o _ h => by
  rw [Array.getD_eq_getD_getElem?, Array.getElem?_replicate] at h
  split at h <;> cases h
theorem Closed.set {listed : Array Bool} {j : Nat} (h : Closed md ops listed) (hj : j ∈ Region.ready md ops listed) : Closed md ops (listed.setIfInBounds j true) := fun k o ho hk e he hb => by
  refine getD_set_true ?_
  by_cases hjk : j = k
  · subst hjk
    obtain ⟨_, o', ho', hall⟩ := mem_ready.1 hj
    rw [ho] at ho'
    cases ho'
    exact hall e he hb
  · rw [getD_set_ne false hjk] at hk
    exact h k o ho hk e he hb
/-- Once something of the chain may come up all that stands before has. -/
theorem late {listed : Array Bool} (hB : tailB md ops m = true) (hc : Closed md ops listed) {j : Nat} (hj : j ∈ Region.ready md ops listed) (hm : m ≤ j) : ∀ i, i < m → listed.getD i false = true := by
  simp only [tailB, Bool.and_eq_true, List.all_eq_true, List.mem_range, List.any_eq_true, decide_eq_true_eq, Bool.or_eq_true] at hB
  obtain ⟨hB1, hB2⟩ := hB
  have down : ∀ n j, j ≤ n → m ≤ j → j < ops.size → (∀ o, ops[j]? = some o → ∀ e ∈ o.after, Region.binds md e = true → listed.getD e.on false = true) → ∀ o, ops[m]? = some o → ∀ e ∈ o.after, Region.binds md e = true → listed.getD e.on false = true := by
    intro n
    induction n with
    | zero =>
      intro j hjn hmj _ hd
      obtain rfl : m = j := by omega
      exact hd
    | succ n ih =>
      intro j hjn hmj hjs hd
      rcases Nat.eq_or_lt_of_le hmj with rfl | hlt
      · exact hd
      · rcases hB2 j hjs with h | ⟨k, hk, hmk, he⟩
        · omega
        · obtain ⟨o, e, ho, hem, hb, rfl⟩ := edge_spec he
          have hl := hd o ho e hem hb
          by_cases hks : e.on < ops.size
          · exact ih e.on (by omega) hmk hks (fun o' ho' e' he' hb' => hc e.on o' ho' hl e' he' hb')
          · omega
  obtain ⟨_, oj, hoj, hall⟩ := mem_ready.1 hj
  have hmd := down j j (Nat.le_refl _) hm (Array.getElem?_eq_some_iff.1 hoj).1 (fun o ho e he hb => by rw [hoj] at ho; cases ho; exact hall e he hb)
  have up : ∀ n i, m - i ≤ n → i < m → listed.getD i false = true := by
    intro n
    induction n with
    | zero => intro i h1 h2; omega
    | succ n ih =>
      intro i h1 h2
      obtain ⟨k, hk, hik, he⟩ := hB1 i h2
      obtain ⟨o, e, ho, hem, hb, rfl⟩ := edge_spec he
      rcases Nat.eq_or_lt_of_le (Nat.le_of_lt_succ hk) with rfl | hlt
      · exact hmd o ho e hem hb
      · exact hc k o ho (ih k (by omega) hlt) e hem hb
  exact fun i hi => up (m - i) i (Nat.le_refl _) hi

/-- Whatever order is picked of what stands before m; then the rest. -/
def wpAnyL (P : Program) (md : Region.Mode) (ops : Array Oper) (C : World → Prop) (Q' : Exit → Act → World → Prop) (m T : Nat) : Nat → Array Bool → Act → Prop
  | 0, listed, a => (∀ j ∈ Region.ready md ops listed, m ≤ j) ∧ ∀ w, C w → wpAny P md ops Q' T listed a w
  | fuel + 1, listed, a => Region.ready md ops listed ≠ [] ∧ ∀ i ∈ Region.ready md ops listed, qOp P ops C i (wpAnyL P md ops C Q' m T fuel (listed.setIfInBounds i true)) a
theorem any_of_L : ∀ (fuel : Nat) (listed : Array Bool) (a : Act) (w : World), C w → wpAnyL P md ops C Q' m T fuel listed a → wpAny P md ops Q' (T + fuel) listed a w
  | 0, _, _, w, hw, h => h.2 w hw
  | fuel + 1, _, _, _, hw, h => ⟨fun h0 => absurd h0 h.1, fun i hi => wpOp_of_qOp hw (fun a' w' hw' => any_of_L fuel _ a' w' hw') (h.2 i hi)⟩
theorem L_first {i : Nat} {oi : Oper} {v : Value} (hB : tailB md ops m = true) (him : i < m) (hi : ops[i]? = some oi) (hsel : ∀ (j : Nat) (o : Oper) cs b, ops[j]? = some o → o.op ≠ .select cs b) :
    ∀ (fuel : Nat) (listed : Array Bool) (a : Act), Closed md ops listed →
      (∀ j oj, ops[j]? = some oj → j ≠ i → listed.getD j true = false → (∀ e ∈ oj.after, Region.binds md e = true → e.on ≠ i) → oi.apart ops oj = true) →
      i ∈ Region.ready md ops listed → YieldsIn P ops C oi v a →
      wpAnyL P md ops C Q' m T fuel (listed.setIfInBounds i true) (a.put oi.dst v) → wpAnyL P md ops C Q' m T (fuel + 1) listed a := by
  intro fuel
  induction fuel with
  | zero =>
    intro listed a hcl _ hr hy H
    refine ⟨fun h => (by rw [h] at hr; cases hr), fun j hj => ?_⟩
    by_cases hji : j = i
    · subst hji; exact hy.qOp hi H
    · have h1 := H.1 j (ready_mono hj hji)
      have h2 := late hB hcl hj h1 i him
      have h3 := (mem_ready.1 hr).1
      rw [Array.getD_eq_getD_getElem?] at h2 h3
      cases hli : listed[i]? with
      | none => rw [hli] at h2; cases h2
      | some b => rw [hli] at h2 h3; simp only [Option.getD_some] at h2 h3; rw [h2] at h3; cases h3
  | succ fuel ih =>
    intro listed a hcl hfree hr hy H
    refine ⟨fun h => (by rw [h] at hr; cases hr), fun j hj => ?_⟩
    by_cases hji : j = i
    · subst hji; exact hy.qOp hi H
    · have h1 := H.2 j (ready_mono hj hji)
      obtain ⟨hjun, oj, hoj, hall⟩ := mem_ready.1 hj
      have hnot : ∀ e ∈ oj.after, Region.binds md e = true → e.on ≠ i := fun e he hb heq => by
        have h1 := hall e he hb
        have h0 := (mem_ready.1 hr).1
        rw [heq] at h1
        rcases Nat.lt_or_ge i listed.size with h' | h'
        · simp [h'] at h0 h1; rw [h0] at h1; cases h1
        · simp [Array.getElem?_eq_none h'] at h1
      have h2 := qOp_put hoj (hfree j oj hoj hji hjun hnot) (fun cs b => hsel i oi cs b hi) (fun cs b => hsel j oj cs b hoj) hy h1
      have hfree' : ∀ k ok, ops[k]? = some ok → k ≠ i → (listed.setIfInBounds j true).getD k true = false →
          (∀ e ∈ ok.after, Region.binds md e = true → e.on ≠ i) → oi.apart ops ok = true := fun k ok hk hki hun hno => by
        refine hfree k ok hk hki ?_ hno
        by_cases hjk : j = k
        · subst hjk; exact hjun
        · rw [getD_set_ne true hjk] at hun; exact hun
      refine qOp_mono (fun a' h3 => ih (listed.setIfInBounds j true) a' (hcl.set hj) hfree' (ready_mono hr (Ne.symm hji)) h3.1 ?_) h2
      rw [Array.setIfInBounds_comm _ _ hji]
      exact h3.2
theorem L_lex (hs : Region.noSelect ops = true) (hB : tailB md ops m = true) : ∀ (l : List Oper) (k : Nat) (listed : Array Bool) (a : Act), (∀ j, j < l.length → l[j]? = ops[k + j]?) → k + l.length = m → Closed md ops listed →
    lexTo md ops m l.length k listed = true → wpQuiet P ops C (fun a => ∀ w, C w → wpAny P md ops Q' T (setTo l.length k listed) a w) l a → wpAnyL P md ops C Q' m T l.length listed a
  | [], _, listed, a, _, _, _, hL, h => ⟨by simpa [lexTo] using hL, h⟩
  | o :: l, k, listed, a, hl, hk, hc, hL, h => by
    have h0 : ops[k]? = some o := by simpa using (hl 0 (by simp)).symm
    simp only [List.length_cons] at hk
    simp only [List.length_cons, lexTo, Bool.and_eq_true] at hL
    obtain ⟨⟨hr, hf⟩, hL'⟩ := hL
    have hr' : k ∈ Region.ready md ops listed := by simpa using hr
    have hst : qOp P ops C k (wpQuiet P ops C (fun a => ∀ w, C w → wpAny P md ops Q' T (setTo (l.length + 1) k listed) a w) l) a := by unfold qOp; simp only [h0]; exact h
    obtain ⟨v, hy, hK⟩ := yieldsIn_of_qOp h0 hst
    exact L_first hB (by omega) h0 (Region.noSelect_spec hs) l.length listed a hc (Region.free_spec h0 hf) hr' hy
      (L_lex hs hB l (k + 1) _ _ (fun j hj => by have := hl (j + 1) (by simpa using hj); simpa [Nat.add_assoc, Nat.add_comm 1 j] using this) (by omega) (hc.set hr') hL' hK)
theorem any_chain : ∀ (l : List Oper) (k : Nat) (listed : Array Bool) (a : Act) (w : World), (∀ j, l[j]? = ops[k + j]?) → chainB md ops l.length k listed = true → wpList P ops Q' l a w → wpAny P md ops Q' l.length listed a w
  | [], _, _, _, _, _, hB, h => ⟨by simpa [chainB] using hB, h⟩
  | o :: l, k, listed, a, w, hl, hB, h => by
    have h0 : ops[k]? = some o := by simpa using (hl 0).symm
    simp only [List.length_cons, chainB, Bool.and_eq_true, beq_iff_eq] at hB
    obtain ⟨hr, hB'⟩ := hB
    refine ⟨fun h => (by rw [h] at hr; cases hr), fun i hi => ?_⟩
    rw [hr, List.mem_singleton] at hi
    subst hi
    have hx : wpOp P ops Q' i (wpList P ops Q' l) a w := by unfold wpOp; simp only [h0]; exact h
    exact wpOp_mono (fun a' w' h' => any_chain l (i + 1) _ a' w' (fun j => by have := hl (j + 1); simpa [Nat.add_assoc, Nat.add_comm 1 j] using this) hB' h') hx
end
theorem wpQuiet_mono' {P : Program} {ops : Array Oper} {C : World → Prop} {Q R : Act → Prop} : ∀ {l : List Oper} {a : Act}, wpQuiet P ops C Q l a → (∀ a, Q a → R a) → wpQuiet P ops C R l a
  | [], _, h, hQ => hQ _ h
  | o :: l, a, h, hQ => by
    unfold wpQuiet at h ⊢
    split
    · rename_i hw
      rw [if_pos hw] at h
      exact Oper.quiet_mono (fun a' h' => wpQuiet_mono' h' hQ) h
    · rename_i hw
      rw [if_neg hw] at h
      exact wpQuiet_mono' h hQ
/-- One walk of the text's order serves every order. -/
theorem wp_region_phase {P : Program} {id : Nat} {Q : Exit → Act → World → Prop} {a : Act} {w : World} {l : List Oper} (m : Nat) (C : World → Prop) (hm : P.follows .mixedOrders = true) (hB : phaseB .any l.toArray m = true) (hC : C { w with drawn := w.drawn + 1 })
    (h : wpQuiet P l.toArray C (fun a' => ∀ w', C w' → wpList P l.toArray Q (l.drop m) a' w') (l.take m) a) : (Code.region id l.toArray true).wp P Q a w := by
  simp only [phaseB, Bool.and_eq_true, decide_eq_true_eq, List.size_toArray] at hB
  obtain ⟨hml, hs, ht, hx, hc⟩ := hB
  refine wp_region_any hm ?_
  have hlen : (l.take m).length = m := by rw [List.length_take]; omega
  have hdl : (l.drop m).length = l.length - m := List.length_drop
  have hL := L_lex (P := P) (ops := l.toArray) (md := .any) (C := C) (Q' := Q) (m := m) (T := l.length - m) hs ht (l.take m) 0 (Array.replicate l.length false) a
    (fun j hj => by rw [Nat.zero_add, List.getElem?_take, if_pos (by omega), List.getElem?_toArray]) (by omega) (closed_new _) (by rw [hlen]; exact hx)
    (wpQuiet_mono' h fun a' h' w' hw' => by
      rw [hlen]
      have := any_chain (P := P) (ops := l.toArray) (md := .any) (Q' := Q) (l.drop m) m (setTo m 0 (Array.replicate l.length false)) a' w' (fun j => by rw [List.getElem?_drop, List.getElem?_toArray]) (by rw [hdl]; exact hc) (h' w' hw')
      rw [hdl] at this
      exact this)
  have := any_of_L _ _ _ _ hC hL
  rw [hlen, Nat.sub_add_cancel (by omega)] at this
  simpa using this
/-- A cell is loaded, in whatever world of the class. -/
theorem run_loadVar_one {P : Program} (w : World) (p : Addr) (ty : TypeId) (d : TypeDesc) (v : Value) (hc : w.cell? p = some v) (hu : P.underlying ty = some d) (hd : d.isRow = false) : (loadVar ty p).run P w = .ok v w := by
  have hagg : (isAgg ty).run P w = .ok false w := by
    unfold isAgg
    rw [Sem.run_bind, run_underlying hu w]
    cases d <;> simp_all
  simp [loadVar, Sem.run_bind, hagg, hc]
section
variable {P : Program} {ops : Array Oper} {rest : List Oper} {o : Oper} {a : Act} {C : World → Prop} {Q : Act → Prop}
theorem class_cell (hw : Region.wanted o (yielded ops a.tmps) = true) (ty : TypeId) (x : Operand) (ho : o.op = .load ty x)
    (p : Addr) (hx : a.eval x = .pointer (some p)) (v : Value) (d : TypeDesc) (hc : ∀ w, C w → w.cell? p = some v) (hu : P.underlying ty = some d) (hd : d.isRow = false)
    (h : wpQuiet P ops C Q rest (a.put o.dst v)) : wpQuiet P ops C Q (o :: rest) a := by
  refine BigFrame.wpQuiet_want hw fun K hK => ⟨v, fun w hw' => ?_, hK _ h⟩
  unfold Oper.quietAt execOp
  simp only [ho, hx, Instr.loadAt, Instr.sureAddr, Sem.run_bind, Sem.run_pure, Result.andThen_ok, run_loadVar_one w p ty d v (hc w hw') hu hd]
  exact ⟨rfl, rfl⟩
/-- A row in the midst of a block is loaded, in whatever world of the class. -/
theorem class_mid (hw : Region.wanted o (yielded ops a.tmps) = true) (ty : TypeId) (x : Operand) (ho : o.op = .load ty x)
    (b off : Nat) (hx : a.eval x = .pointer (some ⟨b, off, none⟩)) (cs : List Value) (d : TypeDesc) (hc : ∀ w, C w → w.rangeAt b off cs) (hu : P.underlying ty = some d) (hd : d.isRow = true) (hi : (P.info? ty).map (·.size) = some cs.length)
    (h : wpQuiet P ops C Q rest (a.put o.dst (.agg cs.toArray))) : wpQuiet P ops C Q (o :: rest) a := by
  refine BigFrame.wpQuiet_want hw fun K hK => ⟨.agg cs.toArray, fun w hw' => ?_, hK _ h⟩
  unfold Oper.quietAt execOp
  simp only [ho, hx, Sem.run_bind, Sem.run_pure, Result.andThen_ok, run_loadAt_mid w b off ty cs d (hc w hw') hu hd hi]
  exact ⟨rfl, rfl⟩
end
end Go.Proofs.Ytmhbfchhooggjaa
namespace Go.Proofs.Ytmhbfchhooggjaa
open Go.RowKit
set_option linter.unusedVariables false

/-- What was there is there as it was, but for the marks of what must not be written. -/
structure Soft (P : Program) (w w' : World) : Prop where
  os : w'.os = w.os
  tape : w'.tape = w.tape
  output : w'.output = w.output
  size : w.heap.size ≤ w'.heap.size
  block : ∀ (k : Nat) (cs : Array Value) (t : TypeId) (fr : Nat × Nat), w.heap[k]? = some (.cells cs t fr) → ∃ fr', w'.heap[k]? = some (.cells cs t fr') ∧ (fr' = fr ∨ P.underlying t = some (.int .u8))
theorem Soft.of_keeps {P : Program} {w w' : World} (h : Keeps (fun _ => False) w w') : Soft P w w' :=
  ⟨h.os, h.tape, h.output, h.size, fun k cs t fr hk => ⟨fr, (h.block k (Array.getElem?_eq_some_iff.1 hk).1 id).trans hk, .inl rfl⟩⟩
/-- A class of later worlds that keeps what is gathered. -/
structure Cls (P : Program) (w0 : World) (F : World → Prop) : Prop where
  later : ∀ w, F w → Later w0 w
  soft : ∀ w w', F w → Soft P w w' → Later w0 w' → F w'
theorem Cls.base (P : Program) (w0 : World) : Cls P w0 (Later w0) := ⟨fun _ h => h, fun _ _ _ _ h => h⟩
theorem Cls.keeps {P : Program} {w0 w w' : World} {F : World → Prop} (h : Cls P w0 F) (hw : F w) (hk : Keeps (fun _ => False) w w') : F w' := h.soft w w' hw (Soft.of_keeps hk) ⟨(h.later w hw).out.trans hk⟩
theorem Cls.and {P : Program} {w0 : World} {F R : World → Prop} (h : Cls P w0 F) (hR : ∀ w w', R w → Soft P w w' → R w') : Cls P w0 (fun w => F w ∧ R w) :=
  ⟨fun w hw => h.later w hw.1, fun w w' hw hs hl => ⟨h.soft w w' hw.1 hs hl, hR w w' hw.2 hs⟩⟩

/-- One value, in every world of the class. -/
def quietR (P : Program) (o : Oper) (a : Act) (F : World → Prop) (v : Value) : Prop :=
  (∀ w, F w → (execOp a.eval o).run P w = .ok (.value v) w) ∨
  (∃ f args, ∀ w, F w → (execOp a.eval o).run P w = .ok (.enter f args) w ∧ Calls P f args w (fun e w' => e = .returned v ∧ Keeps (fun _ => False) w w'))
/-- New memory is made, of which R holds from then on. -/
def looseR (P : Program) (o : Oper) (a : Act) (w0 : World) (F : World → Prop) (S : Value → Prop) (R : Value → World → Prop) : Prop :=
  (∀ v w w', R v w → Soft P w w' → R v w') ∧ ∀ w, F w → ∃ v w', (execOp a.eval o).run P w = .ok (.value v) w' ∧ Soft P w w' ∧ Later w0 w' ∧ S v ∧ R v w'
def stepR (P : Program) (ops : Array Oper) (w0 : World) (ls : List Nat) (i : Nat) (K : Act → (World → Prop) → Prop) (a : Act) (F : World → Prop) : Prop :=
  match ops[i]? with
  | none => False
  | some o =>
    if Region.wanted o (yielded ops a.tmps) then
      if ls.contains i then ∃ S R, looseR P o a w0 F S R ∧ ∀ v, S v → K (a.put o.dst v) (fun w => F w ∧ R v w)
      else ∃ v, quietR P o a F v ∧ K (a.put o.dst v) F
    else K (a.put o.dst undef) F
def wpAnyR (P : Program) (md : Region.Mode) (ops : Array Oper) (w0 : World) (ls : List Nat) (Q : Exit → Act → World → Prop) : Nat → Array Bool → Act → (World → Prop) → Prop
  | 0, listed, a, F => Region.ready md ops listed = [] ∧ ∀ w, F w → Q .normal a w
  | fuel + 1, listed, a, F => Region.ready md ops listed ≠ [] ∧ ∀ i ∈ Region.ready md ops listed, stepR P ops w0 ls i (wpAnyR P md ops w0 ls Q fuel (listed.setIfInBounds i true)) a F

section
variable {P : Program} {ops : Array Oper} {md : Region.Mode} {w0 : World} {ls : List Nat} {Q : Exit → Act → World → Prop}
theorem stepR_mono {i : Nat} {a : Act} {F : World → Prop} {K K' : Act → (World → Prop) → Prop} (h : ∀ a F, K a F → K' a F) (hh : stepR P ops w0 ls i K a F) : stepR P ops w0 ls i K' a F := by
  unfold stepR at *
  split
  · rename_i ho; simp only [ho] at hh
  · rename_i o ho
    simp only [ho] at hh
    split
    · rename_i hw
      rw [if_pos hw] at hh
      split
      · rename_i hl
        rw [if_pos hl] at hh
        obtain ⟨S, R, h1, h2⟩ := hh
        exact ⟨S, R, h1, fun v hv => h _ _ (h2 v hv)⟩
      · rename_i hl
        rw [if_neg hl] at hh
        obtain ⟨v, h1, h2⟩ := hh
        exact ⟨v, h1, h _ _ h2⟩
    · rename_i hw
      rw [if_neg hw] at hh
      exact h _ _ hh
theorem wpOp_of_stepR {i : Nat} {a : Act} {F : World → Prop} {w : World} {K : Act → (World → Prop) → Prop} {K' : Act → World → Prop} (hF : Cls P w0 F) (hw : F w) (h : ∀ a F w, Cls P w0 F → F w → K a F → K' a w) (hh : stepR P ops w0 ls i K a F) : wpOp P ops Q i K' a w := by
  unfold stepR at hh
  unfold wpOp
  split
  · rename_i ho; simp only [ho] at hh
  · rename_i o ho
    simp only [ho] at hh
    split
    · rename_i hwt
      rw [if_pos hwt] at hh
      refine .inl ?_
      unfold Oper.wp
      split at hh
      · obtain ⟨S, R, ⟨hR, h1⟩, h2⟩ := hh
        obtain ⟨v, w', hr, hs, hl, hSv, hRv⟩ := h1 w hw
        rw [hr]
        exact h _ _ w' (hF.and (hR v)) ⟨hF.soft w w' hw hs hl, hRv⟩ (h2 v hSv)
      · obtain ⟨v, h1 | ⟨f, args, h1⟩, h2⟩ := hh
        · rw [h1 w hw]
          exact h _ _ w hF hw h2
        · obtain ⟨hr, hc⟩ := h1 w hw
          rw [hr]
          exact hc.mono fun e w' ⟨he, hk⟩ => by subst he; exact h _ _ w' hF (hF.keeps hw hk) h2
    · rename_i hwt
      rw [if_neg hwt] at hh
      exact h _ _ w hF hw hh
theorem any_of_R : ∀ (fuel : Nat) (listed : Array Bool) (a : Act) (F : World → Prop) (w : World), Cls P w0 F → F w → wpAnyR P md ops w0 ls Q fuel listed a F → wpAny P md ops Q fuel listed a w
  | 0, _, _, _, w, _, hw, h => ⟨h.1, h.2 w hw⟩
  | fuel + 1, _, _, _, _, hF, hw, h => ⟨fun h0 => absurd h0 h.1, fun i hi => wpOp_of_stepR hF hw (fun a' F' w' hF' hw' => any_of_R fuel _ a' F' w' hF' hw') (h.2 i hi)⟩
/-- In this state the operation yields v, in every world of the class. -/
def YieldsR (P : Program) (ops : Array Oper) (F : World → Prop) (o : Oper) (v : Value) (a : Act) : Prop :=
  (Region.wanted o (yielded ops a.tmps) = true ∧ quietR P o a F v) ∨ (Region.wanted o (yielded ops a.tmps) = false ∧ v = undef)
theorem YieldsR.of_same {o : Oper} {v : Value} {a a' : Act} {F : World → Prop} (hy : YieldsR P ops F o v a) (he : execOp a'.eval o = execOp a.eval o)
    (hw : Region.wanted o (yielded ops a'.tmps) = Region.wanted o (yielded ops a.tmps)) : YieldsR P ops F o v a' := by
  unfold YieldsR quietR at *
  rw [he, hw]
  exact hy
theorem YieldsR.less {o : Oper} {v : Value} {a : Act} {F G : World → Prop} (hy : YieldsR P ops F o v a) (h : ∀ w, G w → F w) : YieldsR P ops G o v a := by
  rcases hy with ⟨h1, h2 | ⟨f, args, h2⟩⟩ | h1
  · exact .inl ⟨h1, .inl fun w hw => h2 w (h w hw)⟩
  · exact .inl ⟨h1, .inr ⟨f, args, fun w hw => h2 w (h w hw)⟩⟩
  · exact .inr h1
theorem YieldsR.stepR {i : Nat} {o : Oper} {v : Value} {a : Act} {F : World → Prop} (hi : ops[i]? = some o) (hl : ls.contains i = false) (hy : YieldsR P ops F o v a) {K : Act → (World → Prop) → Prop} (h : K (a.put o.dst v) F) : stepR P ops w0 ls i K a F := by
  unfold Go.Proofs.Ytmhbfchhooggjaa.stepR
  simp only [hi]
  rcases hy with ⟨hw, hv⟩ | ⟨hw, rfl⟩
  · rw [if_pos hw, if_neg (by rw [hl]; decide)]; exact ⟨v, hv, h⟩
  · rw [if_neg (by rw [hw]; decide)]; exact h
theorem stepR_put {j : Nat} {oi oj : Oper} {v : Value} (hj : ops[j]? = some oj) (hap : oi.apart ops oj = true)
    (hsi : ∀ cs b, oi.op ≠ .select cs b) (hsj : ∀ cs b, oj.op ≠ .select cs b) {K : Act → (World → Prop) → Prop} {a : Act} {F : World → Prop}
    (hy : YieldsR P ops F oi v a) (h : stepR P ops w0 ls j K (a.put oi.dst v) F) :
    stepR P ops w0 ls j (fun a' F' => YieldsR P ops F' oi v a' ∧ K (a'.put oi.dst v) F') a F := by
  obtain ⟨h1, h2, h3⟩ := Oper.apart_spec hap
  have keep : ∀ (a : Act) (F : World → Prop), YieldsR P ops F oi v a → ∀ u, YieldsR P ops F oi v (a.put oj.dst u) := fun a F hy u =>
    hy.of_same (execOp_put oi hsi a oj.dst u h3) (wanted_put oi a oj.dst u h3)
  have hex : execOp (a.put oi.dst v).eval oj = execOp a.eval oj := execOp_put oj hsj a oi.dst v h1
  unfold stepR at *
  simp only [hj] at *
  rw [wanted_put oj a oi.dst v h1] at h
  split
  · rename_i hw
    rw [if_pos hw] at h
    split
    · rename_i hl
      rw [if_pos hl] at h
      obtain ⟨S, R, hlo, hn⟩ := h
      refine ⟨S, R, ?_, fun u hu => ⟨(keep a F hy u).less (fun w hw => hw.1), by rw [← Act.put_comm a v u h2]; exact hn u hu⟩⟩
      unfold looseR at *
      rwa [hex] at hlo
    · rename_i hl
      rw [if_neg hl] at h
      obtain ⟨u, hq, hn⟩ := h
      refine ⟨u, ?_, keep a F hy u, by rw [← Act.put_comm a v u h2]; exact hn⟩
      unfold quietR at *
      rwa [hex] at hq
  · rename_i hw
    rw [if_neg hw] at h
    exact ⟨keep a F hy _, by rw [← Act.put_comm a v undef h2]; exact h⟩
theorem R_first {i : Nat} {oi : Oper} {v : Value} (hi : ops[i]? = some oi) (hl : ls.contains i = false) (hsel : ∀ (j : Nat) (o : Oper) cs b, ops[j]? = some o → o.op ≠ .select cs b) :
    ∀ (fuel : Nat) (listed : Array Bool) (a : Act) (F : World → Prop),
      (∀ j oj, ops[j]? = some oj → j ≠ i → listed.getD j true = false → (∀ e ∈ oj.after, Region.binds md e = true → e.on ≠ i) → oi.apart ops oj = true) →
      i ∈ Region.ready md ops listed → YieldsR P ops F oi v a →
      wpAnyR P md ops w0 ls Q fuel (listed.setIfInBounds i true) (a.put oi.dst v) F → wpAnyR P md ops w0 ls Q (fuel + 1) listed a F := by
  intro fuel
  induction fuel with
  | zero =>
    intro listed a F _ hr hy H
    refine ⟨fun h => (by rw [h] at hr; cases hr), fun j hj => ?_⟩
    by_cases hji : j = i
    · subst hji; exact hy.stepR hi hl H
    · have := ready_mono hj hji
      rw [H.1] at this
      cases this
  | succ fuel ih =>
    intro listed a F hfree hr hy H
    refine ⟨fun h => (by rw [h] at hr; cases hr), fun j hj => ?_⟩
    by_cases hji : j = i
    · subst hji; exact hy.stepR hi hl H
    · have h1 := H.2 j (ready_mono hj hji)
      obtain ⟨hjun, oj, hoj, hall⟩ := mem_ready.1 hj
      have hnot : ∀ e ∈ oj.after, Region.binds md e = true → e.on ≠ i := fun e he hb heq => by
        have h1 := hall e he hb
        have h0 := (mem_ready.1 hr).1
        rw [heq] at h1
        rcases Nat.lt_or_ge i listed.size with h' | h'
        · simp [h'] at h0 h1; rw [h0] at h1; cases h1
        · simp [Array.getElem?_eq_none h'] at h1
      have h2 := stepR_put hoj (hfree j oj hoj hji hjun hnot) (fun cs b => hsel i oi cs b hi) (fun cs b => hsel j oj cs b hoj) hy h1
      have hfree' : ∀ k ok, ops[k]? = some ok → k ≠ i → (listed.setIfInBounds j true).getD k true = false →
          (∀ e ∈ ok.after, Region.binds md e = true → e.on ≠ i) → oi.apart ops ok = true := fun k ok hk hki hun hno => by
        refine hfree k ok hk hki ?_ hno
        by_cases hjk : j = k
        · subst hjk; exact hjun
        · rw [getD_set_ne true hjk] at hun; exact hun
      refine stepR_mono (fun a' F' h3 => ih (listed.setIfInBounds j true) a' F' hfree' (ready_mono hr (Ne.symm hji)) h3.1 ?_) h2
      rw [Array.setIfInBounds_comm _ _ hji]
      exact h3.2
/-- The walk of one order. -/
def wpR (P : Program) (ops : Array Oper) (w0 : World) (ls : List Nat) (Q : Exit → Act → World → Prop) : List Nat → Act → (World → Prop) → Prop
  | [], a, F => ∀ w, F w → Q .normal a w
  | k :: rest, a, F => stepR P ops w0 ls k (wpR P ops w0 ls Q rest) a F
def lexR (md : Region.Mode) (ops : Array Oper) (ls : List Nat) : List Nat → Array Bool → Bool
  | [], listed => (Region.ready md ops listed).isEmpty
  | k :: rest, listed => (if ls.contains k then Region.ready md ops listed == [k] else (Region.ready md ops listed).contains k && Region.free md ops listed k) && lexR md ops ls rest (listed.setIfInBounds k true)
theorem R_lex (hs : Region.noSelect ops = true) : ∀ (l : List Nat) (listed : Array Bool) (a : Act) (F : World → Prop), lexR md ops ls l listed = true → wpR P ops w0 ls Q l a F → wpAnyR P md ops w0 ls Q l.length listed a F
  | [], _, _, _, hB, h => ⟨by simpa [lexR] using hB, h⟩
  | k :: l, listed, a, F, hB, h => by
    simp only [lexR, Bool.and_eq_true] at hB
    obtain ⟨hr, hB'⟩ := hB
    unfold wpR at h
    by_cases hk : ls.contains k = true
    · rw [if_pos hk, beq_iff_eq] at hr
      refine ⟨by rw [hr]; simp, fun i hi => ?_⟩
      rw [hr, List.mem_singleton] at hi
      subst hi
      exact stepR_mono (fun a' F' h' => R_lex hs l _ a' F' hB' h') h
    · rw [if_neg hk, Bool.and_eq_true] at hr
      have hk' : ls.contains k = false := by simpa using hk
      unfold stepR at h
      cases h0 : ops[k]? with
      | none => rw [h0] at h; exact h.elim
      | some o =>
        rw [h0] at h
        simp only at h
        by_cases hw : Region.wanted o (yielded ops a.tmps) = true
        · rw [if_pos hw, if_neg hk] at h
          obtain ⟨v, h1, h2⟩ := h
          exact R_first h0 hk' (Region.noSelect_spec hs) l.length listed a F (Region.free_spec h0 hr.2) (by simpa using hr.1) (.inl ⟨hw, h1⟩) (R_lex hs l _ _ _ hB' h2)
        · rw [if_neg hw] at h
          exact R_first h0 hk' (Region.noSelect_spec hs) l.length listed a F (Region.free_spec h0 hr.2) (by simpa using hr.1) (.inr ⟨by simpa using hw, rfl⟩) (R_lex hs l _ _ _ hB' h)
/-- One walk serves every order: 'ls' are the places of what makes new memory in the region itself; 'ord' is the order that is walked. -/
theorem wp_region_loose {id : Nat} {a : Act} {w : World} {l : List Oper} (ls ord : List Nat) (hm : P.follows .mixedOrders = true) (hB : (Region.noSelect l.toArray && (ord.length == l.length && lexR .any l.toArray ls ord (Array.replicate l.length false))) = true)
    (h : wpR P l.toArray w ls Q ord a (Later w)) : (Code.region id l.toArray true).wp P Q a w := by
  rw [Bool.and_eq_true, Bool.and_eq_true, beq_iff_eq] at hB
  refine wp_region_any hm ?_
  have := R_lex (P := P) (ops := l.toArray) (md := .any) (w0 := w) (ls := ls) (Q := Q) hB.1 ord (Array.replicate l.length false) a (Later w) hB.2.2 h
  rw [hB.2.1] at this
  simpa using any_of_R _ _ _ _ { w with drawn := w.drawn + 1 } (Cls.base P w) ⟨(Keeps.refl _ _).drew⟩ this
end
/-! ### The steps -/
theorem get_op {l : List Oper} {k : Nat} {o : Oper} (h : l[k]? = some o) : l.toArray[k]? = some o := by rw [List.getElem?_toArray]; exact h
section
variable {P : Program} {ops : Array Oper} {w0 : World} {ls : List Nat} {Q : Exit → Act → World → Prop} {k : Nat} {o : Oper} {rest : List Nat} {a : Act} {F : World → Prop}
theorem R_value (h0 : ops[k]? = some o) (hw : Region.wanted o (yielded ops a.tmps) = true) (hk : ls.contains k = false) (v : Value) (hrun : ∀ w, F w → (execOp a.eval o).run P w = .ok (.value v) w) (h : wpR P ops w0 ls Q rest (a.put o.dst v) F) : wpR P ops w0 ls Q (k :: rest) a F := by
  unfold wpR stepR
  rw [h0]
  simp only
  rw [if_pos hw, if_neg (by rw [hk]; decide)]
  exact ⟨v, .inl hrun, h⟩
theorem R_call (h0 : ops[k]? = some o) (hw : Region.wanted o (yielded ops a.tmps) = true) (hk : ls.contains k = false) (f : FuncId) (args : Array Value) (v : Value) (hrun : ∀ w, (execOp a.eval o).run P w = .ok (.enter f args) w) (hc : ∀ w, F w → Calls P f args w (fun e w' => e = .returned v ∧ Keeps (fun _ => False) w w')) (h : wpR P ops w0 ls Q rest (a.put o.dst v) F) : wpR P ops w0 ls Q (k :: rest) a F := by
  unfold wpR stepR
  rw [h0]
  simp only
  rw [if_pos hw, if_neg (by rw [hk]; decide)]
  exact ⟨v, .inr ⟨f, args, fun w hw => ⟨hrun w, hc w hw⟩⟩, h⟩
theorem R_skip (h0 : ops[k]? = some o) (hw : Region.wanted o (yielded ops a.tmps) = false) (h : wpR P ops w0 ls Q rest (a.put o.dst undef) F) : wpR P ops w0 ls Q (k :: rest) a F := by
  unfold wpR stepR
  rw [h0]
  simp only
  rw [if_neg (by rw [hw]; decide)]
  exact h
theorem R_loose (h0 : ops[k]? = some o) (hw : Region.wanted o (yielded ops a.tmps) = true) (hk : ls.contains k = true) (S : Value → Prop) (R : Value → World → Prop) (hl : looseR P o a w0 F S R) (h : ∀ v, S v → wpR P ops w0 ls Q rest (a.put o.dst v) (fun w => F w ∧ R v w)) : wpR P ops w0 ls Q (k :: rest) a F := by
  unfold wpR stepR
  rw [h0]
  simp only
  rw [if_pos hw, if_pos hk]
  exact ⟨S, R, hl, h⟩
theorem R_nil (h : ∀ w, F w → Q .normal a w) : wpR P ops w0 ls Q [] a F := h
/-- A row is loaded. -/
theorem R_load (h0 : ops[k]? = some o) (hw : Region.wanted o (yielded ops a.tmps) = true) (hk : ls.contains k = false) (ty : TypeId) (x : Operand) (ho : o.op = .load ty x) (b off : Nat) (hx : a.eval x = .pointer (some ⟨b, off, none⟩)) (cs : List Value) (d : TypeDesc)
    (hc : ∀ w, F w → w.rangeAt b off cs) (hu : P.underlying ty = some d) (hd : d.isRow = true) (hi : (P.info? ty).map (·.size) = some cs.length) (h : wpR P ops w0 ls Q rest (a.put o.dst (.agg cs.toArray)) F) : wpR P ops w0 ls Q (k :: rest) a F := by
  refine R_value h0 hw hk _ (fun w hw => ?_) h
  unfold execOp
  simp only [ho, hx, Sem.run_bind, Sem.run_pure, Result.andThen_ok, run_loadAt_mid w b off ty cs d (hc w hw) hu hd hi]
/-- A cell is loaded. -/
theorem R_cell (h0 : ops[k]? = some o) (hw : Region.wanted o (yielded ops a.tmps) = true) (hk : ls.contains k = false) (ty : TypeId) (x : Operand) (ho : o.op = .load ty x) (p : Addr) (hx : a.eval x = .pointer (some p)) (v : Value) (d : TypeDesc)
    (hc : ∀ w, F w → w.cell? p = some v) (hu : P.underlying ty = some d) (hd : d.isRow = false) (h : wpR P ops w0 ls Q rest (a.put o.dst v) F) : wpR P ops w0 ls Q (k :: rest) a F := by
  refine R_value h0 hw hk _ (fun w hw => ?_) h
  unfold execOp
  simp only [ho, hx, Instr.loadAt, Instr.sureAddr, Sem.run_bind, Sem.run_pure, Result.andThen_ok, run_loadVar_one w p ty d v (hc w hw) hu hd]
/-- Two arrays are held against one another. -/
theorem R_eq (h0 : ops[k]? = some o) (hw : Region.wanted o (yielded ops a.tmps) = true) (hk : ls.contains k = false) (op : BinOp) (t t2 : TypeId) (x y : Operand) (ho : o.op = .binOp op t x y t2) (xs ys : Array Value) (hx : a.eval x = .agg xs) (hy : a.eval y = .agg ys) (hm : P.eqGuardType P.depth t = false) (v : Value)
    (hrun : ∀ w, (binOp op t (.agg xs) (.agg ys)).run P w = .ok v w) (h : wpR P ops w0 ls Q rest (a.put o.dst v) F) : wpR P ops w0 ls Q (k :: rest) a F := by
  refine R_value h0 hw hk v (fun w _ => ?_) h
  unfold execOp
  simp only [ho, hx, hy, Sem.run_bind, Sem.run_pure, Result.andThen_ok, run_eqGuard_agg w op t x y xs ys hm, hrun]
/-! ### '[]byte("..")' -/
/-- The bytes lie in a block that has been made, marked or not. -/
def Made (w0 : World) (t : TypeId) (C : Array Value) (v : Value) (w : World) : Prop := ∃ g fr, w0.heap.size ≤ g ∧ v = .slice (some ⟨g, 0, none⟩) C.size C.size ∧ w.heap[g]? = some (.cells C t fr)
theorem Made.soft {w w' : World} {t : TypeId} {C : Array Value} {v : Value} (h : Made w0 t C v w) (hs : Soft P w w') : Made w0 t C v w' := by
  obtain ⟨g, fr, h0, h1, h2⟩ := h
  obtain ⟨fr', h3, _⟩ := hs.block g C t fr h2
  exact ⟨g, fr', h0, h1, h3⟩
theorem loose_build (t e : TypeId) (x : Operand) (u : Value) (ho : o.op = .buildSlice t 1 #[(0, x)]) (hx : a.eval x = u) (hF : ∀ w, F w → Later w0 w) (hrun : ∀ w, (Instr.buildSlice t 1 #[(0, u)]).run P w = .ok (.slice (some ⟨w.heap.size, 0, none⟩) 1 1) (w.alloc (.cells #[u] e))) :
    looseR P o a w0 F (fun v => ∃ g, v = .slice (some ⟨g, 0, none⟩) 1 1) (Made w0 e #[u]) := by
  refine ⟨fun v w w' h hs => h.soft hs, fun w hw => ⟨_, _, ?_, Soft.of_keeps ((Keeps.refl _ _).alloc _), ⟨(hF w hw).out.alloc _⟩, ⟨_, rfl⟩, w.heap.size, (0, 0), (hF w hw).out.size, rfl, heap_alloc_new w _⟩⟩
  unfold execOp
  simp only [ho, Sem.run_bind, Sem.run_pure, Result.andThen_ok, List.map_toArray, List.map_cons, List.map_nil, hx, hrun]
theorem run_convert_mark {P : Program} (w : World) (t e : TypeId) (g : Nat) (C : Array Value) (fr : Nat × Nat) (n c : Nat) (ht : P.underlying t = some (.slice e)) (he : P.underlying e = some (.int .u8)) (hg : w.heap[g]? = some (.cells C e fr)) :
    (convert t t (.slice (some ⟨g, 0, none⟩) n c)).run P w = .ok (.slice (some ⟨g, 0, none⟩) n c) (w.freeze ⟨g, C.size, none⟩ 1) := by
  have hsh : w.shape? g = some (e, C.size) := by
    unfold World.shape?
    rw [hg]
  simp [convert, run_underlying ht, run_underlying he, markStringish, hsh]
theorem freeze_soft {P : Program} (w : World) (g n : Nat) (hu : ∀ cs t fr, w.heap[g]? = some (.cells cs t fr) → P.underlying t = some (.int .u8)) : Soft P w (w.freeze ⟨g, n, none⟩ 1) ∧ Keeps (fun k => k = g) w (w.freeze ⟨g, n, none⟩ 1) := by
  unfold World.freeze
  rw [if_neg (by decide)]
  refine ⟨⟨rfl, rfl, rfl, by simp, fun k cs t fr hk => ?_⟩, ⟨rfl, rfl, rfl, by simp, fun k _ hne => ?_⟩⟩
  · by_cases e : g = k
    · subst e
      obtain ⟨lo, hi⟩ := fr
      exact ⟨if lo = hi then (n, n + 1) else (min lo n, max hi (n + 1)), by simp [Array.getElem?_modify, hk], .inr (hu _ _ _ hk)⟩
    · exact ⟨fr, by simp [Array.getElem?_modify, e, hk], .inl rfl⟩
  · simp only [Array.getElem?_modify]
    rw [if_neg (fun e => hne e.symm)]
theorem loose_conv (t e : TypeId) (x : Operand) (g : Nat) (C : Array Value) (ho : o.op = .convert t t x) (hx : a.eval x = .slice (some ⟨g, 0, none⟩) C.size C.size) (hF : ∀ w, F w → Later w0 w ∧ Made w0 e C (.slice (some ⟨g, 0, none⟩) C.size C.size) w) (ht : P.underlying t = some (.slice e)) (he : P.underlying e = some (.int .u8)) :
    looseR P o a w0 F (fun v => v = .slice (some ⟨g, 0, none⟩) C.size C.size) (fun _ _ => True) := by
  refine ⟨fun _ _ _ h _ => h, fun w hw => ?_⟩
  obtain ⟨hl, g', fr, hg0, hv, hg⟩ := hF w hw
  injection hv with hv
  injection hv with hv
  injection hv with hv
  subst hv
  obtain ⟨h1, h2⟩ := freeze_soft (P := P) w g C.size (fun cs t fr h => by rw [hg] at h; injection h with h; injection h with _ ht _; rw [← ht]; exact he)
  refine ⟨_, _, ?_, h1, ⟨hl.out.trans' h2 (fun k hk e => by omega)⟩, rfl, trivial⟩
  unfold execOp
  simp only [ho, hx, Sem.run_bind, Sem.run_pure, Result.andThen_ok, run_convert_mark w t e g C fr C.size C.size ht he hg]
end
section
variable {P : Program} {ops : Array Oper} {md : Region.Mode} {w0 : World} {ls : List Nat} {Q' : Exit → Act → World → Prop} {m T : Nat}
/-- As wpAnyR, up to m; what follows is walked behind. -/
def wpAnyM (P : Program) (md : Region.Mode) (ops : Array Oper) (w0 : World) (ls : List Nat) (Q' : Exit → Act → World → Prop) (m T : Nat) : Nat → Array Bool → Act → (World → Prop) → Prop
  | 0, listed, a, F => (∀ j ∈ Region.ready md ops listed, m ≤ j) ∧ ∀ w, F w → wpAny P md ops Q' T listed a w
  | fuel + 1, listed, a, F => Region.ready md ops listed ≠ [] ∧ ∀ i ∈ Region.ready md ops listed, stepR P ops w0 ls i (wpAnyM P md ops w0 ls Q' m T fuel (listed.setIfInBounds i true)) a F
theorem any_of_M : ∀ (fuel : Nat) (listed : Array Bool) (a : Act) (F : World → Prop) (w : World), Cls P w0 F → F w → wpAnyM P md ops w0 ls Q' m T fuel listed a F → wpAny P md ops Q' (T + fuel) listed a w
  | 0, _, _, _, w, _, hw, h => h.2 w hw
  | fuel + 1, _, _, _, _, hF, hw, h => ⟨fun h0 => absurd h0 h.1, fun i hi => wpOp_of_stepR hF hw (fun a' F' w' hF' hw' => any_of_M fuel _ a' F' w' hF' hw') (h.2 i hi)⟩
theorem M_first {i : Nat} {oi : Oper} {v : Value} (hB : tailB md ops m = true) (him : i < m) (hi : ops[i]? = some oi) (hl : ls.contains i = false) (hsel : ∀ (j : Nat) (o : Oper) cs b, ops[j]? = some o → o.op ≠ .select cs b) :
    ∀ (fuel : Nat) (listed : Array Bool) (a : Act) (F : World → Prop), Closed md ops listed →
      (∀ j oj, ops[j]? = some oj → j ≠ i → listed.getD j true = false → (∀ e ∈ oj.after, Region.binds md e = true → e.on ≠ i) → oi.apart ops oj = true) →
      i ∈ Region.ready md ops listed → YieldsR P ops F oi v a →
      wpAnyM P md ops w0 ls Q' m T fuel (listed.setIfInBounds i true) (a.put oi.dst v) F → wpAnyM P md ops w0 ls Q' m T (fuel + 1) listed a F := by
  intro fuel
  induction fuel with
  | zero =>
    intro listed a F hcl _ hr hy H
    refine ⟨fun h => (by rw [h] at hr; cases hr), fun j hj => ?_⟩
    by_cases hji : j = i
    · subst hji; exact hy.stepR hi hl H
    · have h1 := H.1 j (ready_mono hj hji)
      have h2 := late hB hcl hj h1 i him
      have h3 := (mem_ready.1 hr).1
      rw [Array.getD_eq_getD_getElem?] at h2 h3
      cases hli : listed[i]? with
      | none => rw [hli] at h2; cases h2
      | some b => rw [hli] at h2 h3; simp only [Option.getD_some] at h2 h3; rw [h2] at h3; cases h3
  | succ fuel ih =>
    intro listed a F hcl hfree hr hy H
    refine ⟨fun h => (by rw [h] at hr; cases hr), fun j hj => ?_⟩
    by_cases hji : j = i
    · subst hji; exact hy.stepR hi hl H
    · have h1 := H.2 j (ready_mono hj hji)
      obtain ⟨hjun, oj, hoj, hall⟩ := mem_ready.1 hj
      have hnot : ∀ e ∈ oj.after, Region.binds md e = true → e.on ≠ i := fun e he hb heq => by
        have h1 := hall e he hb
        have h0 := (mem_ready.1 hr).1
        rw [heq] at h1
        rcases Nat.lt_or_ge i listed.size with h' | h'
        · simp [h'] at h0 h1; rw [h0] at h1; cases h1
        · simp [Array.getElem?_eq_none h'] at h1
      have h2 := stepR_put hoj (hfree j oj hoj hji hjun hnot) (fun cs b => hsel i oi cs b hi) (fun cs b => hsel j oj cs b hoj) hy h1
      have hfree' : ∀ k ok, ops[k]? = some ok → k ≠ i → (listed.setIfInBounds j true).getD k true = false →
          (∀ e ∈ ok.after, Region.binds md e = true → e.on ≠ i) → oi.apart ops ok = true := fun k ok hk hki hun hno => by
        refine hfree k ok hk hki ?_ hno
        by_cases hjk : j = k
        · subst hjk; exact hjun
        · rw [getD_set_ne true hjk] at hun; exact hun
      refine stepR_mono (fun a' F' h3 => ih (listed.setIfInBounds j true) a' F' (hcl.set hj) hfree' (ready_mono hr (Ne.symm hji)) h3.1 ?_) h2
      rw [Array.setIfInBounds_comm _ _ hji]
      exact h3.2
/-- The order that is walked: up to m; then nothing else may come up. -/
def lexM (md : Region.Mode) (ops : Array Oper) (ls : List Nat) (m : Nat) : List Nat → Array Bool → Bool
  | [], listed => (Region.ready md ops listed).all fun j => decide (m ≤ j)
  | k :: rest, listed => decide (k < m) && (if ls.contains k then Region.ready md ops listed == [k] else (Region.ready md ops listed).contains k && Region.free md ops listed k) && lexM md ops ls m rest (listed.setIfInBounds k true)
def setAll : List Nat → Array Bool → Array Bool
  | [], b => b
  | k :: l, b => setAll l (b.setIfInBounds k true)
theorem M_lex (hs : Region.noSelect ops = true) (hB : tailB md ops m = true) : ∀ (l : List Nat) (listed : Array Bool) (a : Act) (F : World → Prop), Closed md ops listed → lexM md ops ls m l listed = true →
    wpR P ops w0 ls (fun _ a w => wpAny P md ops Q' T (setAll l listed) a w) l a F → wpAnyM P md ops w0 ls Q' m T l.length listed a F
  | [], _, _, _, _, hL, h => ⟨by simpa [lexM] using hL, h⟩
  | k :: l, listed, a, F, hc, hL, h => by
    simp only [lexM, Bool.and_eq_true, decide_eq_true_eq] at hL
    obtain ⟨⟨hkm, hr⟩, hL'⟩ := hL
    unfold wpR at h
    by_cases hk : ls.contains k = true
    · rw [if_pos hk, beq_iff_eq] at hr
      refine ⟨by rw [hr]; simp, fun i hi => ?_⟩
      have hi' := hi
      rw [hr, List.mem_singleton] at hi
      subst hi
      exact stepR_mono (fun a' F' h' => M_lex hs hB l _ a' F' (hc.set hi') hL' h') h
    · rw [if_neg hk, Bool.and_eq_true] at hr
      have hk' : ls.contains k = false := by simpa using hk
      have hrk : k ∈ Region.ready md ops listed := by simpa using hr.1
      unfold stepR at h
      cases h0 : ops[k]? with
      | none => rw [h0] at h; exact h.elim
      | some o =>
        rw [h0] at h
        simp only at h
        by_cases hw : Region.wanted o (yielded ops a.tmps) = true
        · rw [if_pos hw, if_neg hk] at h
          obtain ⟨v, h1, h2⟩ := h
          exact M_first hB hkm h0 hk' (Region.noSelect_spec hs) l.length listed a F hc (Region.free_spec h0 hr.2) hrk (.inl ⟨hw, h1⟩) (M_lex hs hB l _ _ _ (hc.set hrk) hL' h2)
        · rw [if_neg hw] at h
          exact M_first hB hkm h0 hk' (Region.noSelect_spec hs) l.length listed a F hc (Region.free_spec h0 hr.2) hrk (.inr ⟨by simpa using hw, rfl⟩) (M_lex hs hB l _ _ _ (hc.set hrk) hL' h)
theorem wpR_mono {ops : Array Oper} {Q R : Exit → Act → World → Prop} (hQ : ∀ a w, Q .normal a w → R .normal a w) : ∀ (l : List Nat) (a : Act) (F : World → Prop), wpR P ops w0 ls Q l a F → wpR P ops w0 ls R l a F
  | [], a, F, h => fun w hw => hQ a w (h w hw)
  | k :: l, a, F, h => by
    unfold wpR at h ⊢
    exact stepR_mono (fun a' F' h' => wpR_mono hQ l a' F' h') h
end
/-- One walk serves every order: 'ls' makes new memory; 'ord' is the order that is walked, of what stands before m; the rest is a chain, in the text's order. -/
theorem wp_region_tail {P : Program} {Q : Exit → Act → World → Prop} {id : Nat} {a : Act} {w : World} {l : List Oper} (m : Nat) (ls ord : List Nat) (hm : P.follows .mixedOrders = true)
    (hB : (decide (m ≤ l.length) && (Region.noSelect l.toArray && (tailB .any l.toArray m && (ord.length == m && (lexM .any l.toArray ls m ord (Array.replicate l.length false) && chainB .any l.toArray (l.length - m) m (setAll ord (Array.replicate l.length false))))))) = true)
    (h : wpR P l.toArray w ls (fun _ a' w' => wpList P l.toArray Q (l.drop m) a' w') ord a (Later w)) : (Code.region id l.toArray true).wp P Q a w := by
  simp only [Bool.and_eq_true, decide_eq_true_eq, beq_iff_eq] at hB
  obtain ⟨hml, hs, ht, ho, hx, hc⟩ := hB
  refine wp_region_any hm ?_
  have hdl : (l.drop m).length = l.length - m := List.length_drop
  have hL := M_lex (P := P) (ops := l.toArray) (md := .any) (w0 := w) (ls := ls) (Q' := Q) (m := m) (T := l.length - m) hs ht ord (Array.replicate l.length false) a (Later w) (closed_new _) hx
    (wpR_mono (fun a' w' h' => by
      have := any_chain (P := P) (ops := l.toArray) (md := .any) (Q' := Q) (l.drop m) m (setAll ord (Array.replicate l.length false)) a' w' (fun j => by rw [List.getElem?_drop, List.getElem?_toArray]) (by rw [hdl]; exact hc) h'
      rw [hdl] at this
      exact this) ord a (Later w) h)
  have := any_of_M _ _ _ _ { w with drawn := w.drawn + 1 } (Cls.base P w) ⟨(Keeps.refl _ _).drew⟩ hL
  rw [ho, Nat.sub_add_cancel hml] at this
  simpa using this
/-- A variable is made. -/
theorem loose_alloc {P : Program} {o : Oper} {a : Act} {w0 : World} {F : World → Prop} (t : TypeId) (z : Array Value) (ho : o.op = .alloc t) (hF : ∀ w, F w → Later w0 w) (hne : P.underlying t ≠ some (.int .u8)) (hrun : ∀ w, (Instr.alloc t true (.tuple #[])).run P w = .ok (.pointer (some ⟨w.heap.size, 0, none⟩)) (w.alloc (.cells z t))) :
    looseR P o a w0 F (fun v => ∃ g, v = .pointer (some ⟨g, 0, none⟩)) (fun v w => ∃ g, v = .pointer (some ⟨g, 0, none⟩) ∧ w0.heap.size ≤ g ∧ w.heap[g]? = some (.cells z t (0, 0))) := by
  refine ⟨fun v w w' h hs => ?_, fun w hw => ⟨_, _, ?_, Soft.of_keeps ((Keeps.refl _ _).alloc _), ⟨(hF w hw).out.alloc _⟩, ⟨_, rfl⟩, w.heap.size, rfl, (hF w hw).out.size, heap_alloc_new w _⟩⟩
  · obtain ⟨g, h1, h2, h3⟩ := h
    obtain ⟨fr, h4, h5⟩ := hs.block g _ _ _ h3
    rcases h5 with rfl | h5
    · exact ⟨g, h1, h2, h4⟩
    · exact absurd h5 hne
  · unfold execOp
    simp only [ho, Sem.run_bind, Sem.run_pure, Result.andThen_ok, hrun]
end Go.Proofs.Ytmhbfchhooggjaa
namespace Go.Proofs.Ytmhbfchhooggjaa
open Go.RowKit
set_option linter.unusedVariables false

def tailM (md : Region.Mode) (ops : Array Oper) (m : Nat) : Bool :=
  ((List.range m).all fun i => i == 0 || (List.range (m + 1)).any fun j => decide (i < j) && edgeB md ops j i) &&
  ((List.range ops.size).all fun j => decide (j ≤ m) || (List.range j).any fun k => decide (m ≤ k) && edgeB md ops j k)
def phaseM (md : Region.Mode) (ops : Array Oper) (m : Nat) : Bool :=
  decide (0 < m) && (decide (m < ops.size) && (Region.noSelect ops && (tailM md ops m && ((Region.ready md ops (Array.replicate ops.size false)).contains 0 && (Region.free md ops (Array.replicate ops.size false) 0 &&
    (lexTo md ops m (m - 1) 1 ((Array.replicate ops.size false).setIfInBounds 0 true) && chainB md ops (ops.size - m) m (setTo (m - 1) 1 ((Array.replicate ops.size false).setIfInBounds 0 true))))))))
section
variable {P : Program} {ops : Array Oper} {md : Region.Mode} {C : World → Prop} {Q' : Exit → Act → World → Prop} {m T : Nat}
theorem lateM {listed : Array Bool} (hB : tailM md ops m = true) (hc : Closed md ops listed) {j : Nat} (hj : j ∈ Region.ready md ops listed) (hm : m ≤ j) : ∀ i, 0 < i → i < m → listed.getD i false = true := by
  simp only [tailM, Bool.and_eq_true, List.all_eq_true, List.mem_range, List.any_eq_true, decide_eq_true_eq, Bool.or_eq_true, beq_iff_eq] at hB
  obtain ⟨hB1, hB2⟩ := hB
  have down : ∀ n j, j ≤ n → m ≤ j → j < ops.size → (∀ o, ops[j]? = some o → ∀ e ∈ o.after, Region.binds md e = true → listed.getD e.on false = true) → ∀ o, ops[m]? = some o → ∀ e ∈ o.after, Region.binds md e = true → listed.getD e.on false = true := by
    intro n
    induction n with
    | zero =>
      intro j hjn hmj _ hd
      obtain rfl : m = j := by omega
      exact hd
    | succ n ih =>
      intro j hjn hmj hjs hd
      rcases Nat.eq_or_lt_of_le hmj with rfl | hlt
      · exact hd
      · rcases hB2 j hjs with h | ⟨k, hk, hmk, he⟩
        · omega
        · obtain ⟨o, e, ho, hem, hb, rfl⟩ := edge_spec he
          have hl := hd o ho e hem hb
          by_cases hks : e.on < ops.size
          · exact ih e.on (by omega) hmk hks (fun o' ho' e' he' hb' => hc e.on o' ho' hl e' he' hb')
          · omega
  obtain ⟨_, oj, hoj, hall⟩ := mem_ready.1 hj
  have hmd := down j j (Nat.le_refl _) hm (Array.getElem?_eq_some_iff.1 hoj).1 (fun o ho e he hb => by rw [hoj] at ho; cases ho; exact hall e he hb)
  have up : ∀ n i, m - i ≤ n → 0 < i → i < m → listed.getD i false = true := by
    intro n
    induction n with
    | zero => intro i h1 h0 h2; omega
    | succ n ih =>
      intro i h1 h0 h2
      rcases hB1 i h2 with h | ⟨k, hk, hik, he⟩
      · omega
      · obtain ⟨o, e, ho, hem, hb, rfl⟩ := edge_spec he
        rcases Nat.eq_or_lt_of_le (Nat.le_of_lt_succ hk) with rfl | hlt
        · exact hmd o ho e hem hb
        · exact hc k o ho (ih k (by omega) (by omega) hlt) e hem hb
  exact fun i h0 hi => up (m - i) i (Nat.le_refl _) h0 hi
theorem L_firstM {i : Nat} {oi : Oper} {v : Value} (hB : tailM md ops m = true) (hi0 : 0 < i) (him : i < m) (hi : ops[i]? = some oi) (hsel : ∀ (j : Nat) (o : Oper) cs b, ops[j]? = some o → o.op ≠ .select cs b) :
    ∀ (fuel : Nat) (listed : Array Bool) (a : Act), Closed md ops listed →
      (∀ j oj, ops[j]? = some oj → j ≠ i → listed.getD j true = false → (∀ e ∈ oj.after, Region.binds md e = true → e.on ≠ i) → oi.apart ops oj = true) →
      i ∈ Region.ready md ops listed → YieldsIn P ops C oi v a →
      wpAnyL P md ops C Q' m T fuel (listed.setIfInBounds i true) (a.put oi.dst v) → wpAnyL P md ops C Q' m T (fuel + 1) listed a := by
  intro fuel
  induction fuel with
  | zero =>
    intro listed a hcl _ hr hy H
    refine ⟨fun h => (by rw [h] at hr; cases hr), fun j hj => ?_⟩
    by_cases hji : j = i
    · subst hji; exact hy.qOp hi H
    · have h1 := H.1 j (ready_mono hj hji)
      have h2 := lateM hB hcl hj h1 i hi0 him
      have h3 := (mem_ready.1 hr).1
      rw [Array.getD_eq_getD_getElem?] at h2 h3
      cases hli : listed[i]? with
      | none => rw [hli] at h2; cases h2
      | some b => rw [hli] at h2 h3; simp only [Option.getD_some] at h2 h3; rw [h2] at h3; cases h3
  | succ fuel ih =>
    intro listed a hcl hfree hr hy H
    refine ⟨fun h => (by rw [h] at hr; cases hr), fun j hj => ?_⟩
    by_cases hji : j = i
    · subst hji; exact hy.qOp hi H
    · have h1 := H.2 j (ready_mono hj hji)
      obtain ⟨hjun, oj, hoj, hall⟩ := mem_ready.1 hj
      have hnot : ∀ e ∈ oj.after, Region.binds md e = true → e.on ≠ i := fun e he hb heq => by
        have h1 := hall e he hb
        have h0 := (mem_ready.1 hr).1
        rw [heq] at h1
        rcases Nat.lt_or_ge i listed.size with h' | h'
        · simp [h'] at h0 h1; rw [h0] at h1; cases h1
        · simp [Array.getElem?_eq_none h'] at h1
      have h2 := qOp_put hoj (hfree j oj hoj hji hjun hnot) (fun cs b => hsel i oi cs b hi) (fun cs b => hsel j oj cs b hoj) hy h1
      have hfree' : ∀ k ok, ops[k]? = some ok → k ≠ i → (listed.setIfInBounds j true).getD k true = false →
          (∀ e ∈ ok.after, Region.binds md e = true → e.on ≠ i) → oi.apart ops ok = true := fun k ok hk hki hun hno => by
        refine hfree k ok hk hki ?_ hno
        by_cases hjk : j = k
        · subst hjk; exact hjun
        · rw [getD_set_ne true hjk] at hun; exact hun
      refine qOp_mono (fun a' h3 => ih (listed.setIfInBounds j true) a' (hcl.set hj) hfree' (ready_mono hr (Ne.symm hji)) h3.1 ?_) h2
      rw [Array.setIfInBounds_comm _ _ hji]
      exact h3.2
theorem L_lexM (hs : Region.noSelect ops = true) (hB : tailM md ops m = true) : ∀ (l : List Oper) (k : Nat) (listed : Array Bool) (a : Act), (∀ j, j < l.length → l[j]? = ops[k + j]?) → 0 < k → k + l.length = m → Closed md ops listed →
    lexTo md ops m l.length k listed = true → wpQuiet P ops C (fun a => ∀ w, C w → wpAny P md ops Q' T (setTo l.length k listed) a w) l a → wpAnyL P md ops C Q' m T l.length listed a
  | [], _, listed, a, _, _, _, _, hL, h => ⟨by simpa [lexTo] using hL, h⟩
  | o :: l, k, listed, a, hl, hk0, hk, hc, hL, h => by
    have h0 : ops[k]? = some o := by simpa using (hl 0 (by simp)).symm
    simp only [List.length_cons] at hk
    simp only [List.length_cons, lexTo, Bool.and_eq_true] at hL
    obtain ⟨⟨hr, hf⟩, hL'⟩ := hL
    have hr' : k ∈ Region.ready md ops listed := by simpa using hr
    have hst : qOp P ops C k (wpQuiet P ops C (fun a => ∀ w, C w → wpAny P md ops Q' T (setTo (l.length + 1) k listed) a w) l) a := by unfold qOp; simp only [h0]; exact h
    obtain ⟨v, hy, hK⟩ := yieldsIn_of_qOp h0 hst
    exact L_firstM hB hk0 (by omega) h0 (Region.noSelect_spec hs) l.length listed a hc (Region.free_spec h0 hf) hr' hy
      (L_lexM hs hB l (k + 1) _ _ (fun j hj => by have := hl (j + 1) (by simpa using hj); simpa [Nat.add_assoc, Nat.add_comm 1 j] using this) (by omega) (by omega) (hc.set hr') hL' hK)
end
/-- One walk of the text's order serves every order; the first operation yields v in whatever world. -/
theorem wp_region_phaseM {P : Program} {id : Nat} {Q : Exit → Act → World → Prop} {a : Act} {w : World} {l : List Oper} (m : Nat) (C : World → Prop) (hm : P.follows .mixedOrders = true) (hB : phaseM .any l.toArray m = true) (hC : C { w with drawn := w.drawn + 1 })
    (o : Oper) (v : Value) (h0 : l[0]? = some o) (hQ : ∀ c a w, Q (.panic c) (a.put o.dst v) w → Q (.panic c) a w) (hy : Yields P l.toArray o v a)
    (h : wpQuiet P l.toArray C (fun a' => ∀ w', C w' → wpList P l.toArray Q (l.drop m) a' w') ((l.take m).drop 1) (a.put o.dst v)) : (Code.region id l.toArray true).wp P Q a w := by
  simp only [phaseM, Bool.and_eq_true, decide_eq_true_eq, List.size_toArray] at hB
  obtain ⟨hm0, hml, hs, ht, hr0, hf0, hx, hc⟩ := hB
  refine wp_region_any hm ?_
  obtain ⟨L, hL⟩ : ∃ L, l.length = L + 1 := ⟨l.length - 1, by omega⟩
  have h0' : l.toArray[0]? = some o := by rw [List.getElem?_toArray]; exact h0
  have hr0' : 0 ∈ Region.ready .any l.toArray (Array.replicate l.length false) := by simpa using hr0
  have hlen : ((l.take m).drop 1).length = m - 1 := by rw [List.length_drop, List.length_take]; omega
  have hdl : (l.drop m).length = l.length - m := List.length_drop
  have hcl : Closed .any l.toArray ((Array.replicate l.length false).setIfInBounds 0 true) := (closed_new _).set hr0'
  have hLx := L_lexM (P := P) (ops := l.toArray) (md := .any) (C := C) (Q' := Q) (m := m) (T := l.length - m) hs ht ((l.take m).drop 1) 1 ((Array.replicate l.length false).setIfInBounds 0 true) (a.put o.dst v)
    (fun j hj => by rw [List.getElem?_drop, List.getElem?_take, if_pos (by omega), List.getElem?_toArray]) (by omega) (by omega) hcl (by rw [hlen]; exact hx)
    (wpQuiet_mono' h fun a' h' w' hw' => by
      rw [hlen]
      have := any_chain (P := P) (ops := l.toArray) (md := .any) (Q' := Q) (l.drop m) m (setTo (m - 1) 1 ((Array.replicate l.length false).setIfInBounds 0 true)) a' w' (fun j => by rw [List.getElem?_drop, List.getElem?_toArray]) (by rw [hdl]; exact hc) (h' w' hw')
      rw [hdl] at this
      exact this)
  have hany := any_of_L _ _ _ _ hC hLx
  rw [hlen, show l.length - m + (m - 1) = L by omega] at hany
  have hfin := wpAny_first (P := P) (ops := l.toArray) (md := .any) (Q := Q) h0' (Region.noSelect_spec hs) hQ L (Array.replicate l.length false) a { w with drawn := w.drawn + 1 } (Region.free_spec h0' hf0) hr0' hy hany
  rw [List.size_toArray, hL]
  rw [hL] at hfin
  exact hfin
end Go.Proofs.Ytmhbfchhooggjaa
