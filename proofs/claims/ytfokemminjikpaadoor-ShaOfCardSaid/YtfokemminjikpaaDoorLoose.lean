/-
  Regions that draw their order, whose operations read, call what makes new memory alone, or make new memory themselves ('[]byte("c")' within a chain of '&&'): one walk of the text's order. No number of any translation stands here.
-/
import Derived.Test.YtfokemminjikpaaDoorPhase
namespace Go.Proofs.YtfokemminjikpaaDoor
open Go.RowKit
set_option linter.unusedVariables false

/-- What was there is there as it was, but for the marks of what must not be written. -/
structure Soft (w w' : World) : Prop where
  os : w'.os = w.os
  tape : w'.tape = w.tape
  output : w'.output = w.output
  size : w.heap.size ≤ w'.heap.size
  block : ∀ (k : Nat) (cs : Array Value) (t : TypeId) (fr : Nat × Nat), w.heap[k]? = some (.cells cs t fr) → ∃ fr', w'.heap[k]? = some (.cells cs t fr')
theorem Soft.of_keeps {w w' : World} (h : Keeps (fun _ => False) w w') : Soft w w' :=
  ⟨h.os, h.tape, h.output, h.size, fun k cs t fr hk => ⟨fr, (h.block k (Array.getElem?_eq_some_iff.1 hk).1 id).trans hk⟩⟩
/-- A class of later worlds that keeps what is gathered. -/
structure Cls (w0 : World) (F : World → Prop) : Prop where
  later : ∀ w, F w → Later w0 w
  soft : ∀ w w', F w → Soft w w' → Later w0 w' → F w'
theorem Cls.base (w0 : World) : Cls w0 (Later w0) := ⟨fun _ h => h, fun _ _ _ _ h => h⟩
theorem Cls.keeps {w0 w w' : World} {F : World → Prop} (h : Cls w0 F) (hw : F w) (hk : Keeps (fun _ => False) w w') : F w' := h.soft w w' hw (Soft.of_keeps hk) ⟨(h.later w hw).out.trans hk⟩
theorem Cls.and {w0 : World} {F R : World → Prop} (h : Cls w0 F) (hR : ∀ w w', R w → Soft w w' → R w') : Cls w0 (fun w => F w ∧ R w) :=
  ⟨fun w hw => h.later w hw.1, fun w w' hw hs hl => ⟨h.soft w w' hw.1 hs hl, hR w w' hw.2 hs⟩⟩

/-- One value, in every world of the class. -/
def quietR (P : Program) (o : Oper) (a : Act) (F : World → Prop) (v : Value) : Prop :=
  (∀ w, F w → (execOp a.eval o).run P w = .ok (.value v) w) ∨
  (∃ f args, ∀ w, F w → (execOp a.eval o).run P w = .ok (.enter f args) w ∧ Calls P f args w (fun e w' => e = .returned v ∧ Keeps (fun _ => False) w w'))
/-- New memory is made, of which R holds from then on. -/
def looseR (P : Program) (o : Oper) (a : Act) (w0 : World) (F : World → Prop) (S : Value → Prop) (R : Value → World → Prop) : Prop :=
  (∀ v w w', R v w → Soft w w' → R v w') ∧ ∀ w, F w → ∃ v w', (execOp a.eval o).run P w = .ok (.value v) w' ∧ Soft w w' ∧ Later w0 w' ∧ S v ∧ R v w'
def stepR (P : Program) (ops : Array Oper) (w0 : World) (ls : List Nat) (i : Nat) (K : Act → (World → Prop) → Prop) (a : Act) (F : World → Prop) : Prop :=
  match ops[i]? with
  | none => False
  | some o =>
    if Region.wanted o (yielded ops a.tmps) then
      if ls.contains i then ∃ S R, looseR P o a w0 F S R ∧ ∀ v, S v → K (a.put o.dst v) (fun w => F w ∧ R v w)
      else ∃ v, quietR P o a F v ∧ K (a.put o.dst v) F
    else K (a.put o.dst undef) F
def wpAnyR (P : Program) (md : Region.Mode) (ops : Array Oper) (w0 : World) (ls : List Nat) (Q : Exit → Act → World → Prop) : Nat → Array Bool → Act → (World → Prop) → Prop
  | 0, listed, a, F => Region.ready md ops listed = [] ∧ ∀ w, F w → Q .normal a w
  | fuel + 1, listed, a, F => Region.ready md ops listed ≠ [] ∧ ∀ i ∈ Region.ready md ops listed, stepR P ops w0 ls i (wpAnyR P md ops w0 ls Q fuel (listed.setIfInBounds i true)) a F

section
variable {P : Program} {ops : Array Oper} {md : Region.Mode} {w0 : World} {ls : List Nat} {Q : Exit → Act → World → Prop}
theorem stepR_mono {i : Nat} {a : Act} {F : World → Prop} {K K' : Act → (World → Prop) → Prop} (h : ∀ a F, K a F → K' a F) (hh : stepR P ops w0 ls i K a F) : stepR P ops w0 ls i K' a F := by
  unfold stepR at *
  split
  · rename_i ho; simp only [ho] at hh
  · rename_i o ho
    simp only [ho] at hh
    split
    · rename_i hw
      rw [if_pos hw] at hh
      split
      · rename_i hl
        rw [if_pos hl] at hh
        obtain ⟨S, R, h1, h2⟩ := hh
        exact ⟨S, R, h1, fun v hv => h _ _ (h2 v hv)⟩
      · rename_i hl
        rw [if_neg hl] at hh
        obtain ⟨v, h1, h2⟩ := hh
        exact ⟨v, h1, h _ _ h2⟩
    · rename_i hw
      rw [if_neg hw] at hh
      exact h _ _ hh
theorem wpOp_of_stepR {i : Nat} {a : Act} {F : World → Prop} {w : World} {K : Act → (World → Prop) → Prop} {K' : Act → World → Prop} (hF : Cls w0 F) (hw : F w) (h : ∀ a F w, Cls w0 F → F w → K a F → K' a w) (hh : stepR P ops w0 ls i K a F) : wpOp P ops Q i K' a w := by
  unfold stepR at hh
  unfold wpOp
  split
  · rename_i ho; simp only [ho] at hh
  · rename_i o ho
    simp only [ho] at hh
    split
    · rename_i hwt
      rw [if_pos hwt] at hh
      refine .inl ?_
      unfold Oper.wp
      split at hh
      · obtain ⟨S, R, ⟨hR, h1⟩, h2⟩ := hh
        obtain ⟨v, w', hr, hs, hl, hSv, hRv⟩ := h1 w hw
        rw [hr]
        exact h _ _ w' (hF.and (hR v)) ⟨hF.soft w w' hw hs hl, hRv⟩ (h2 v hSv)
      · obtain ⟨v, h1 | ⟨f, args, h1⟩, h2⟩ := hh
        · rw [h1 w hw]
          exact h _ _ w hF hw h2
        · obtain ⟨hr, hc⟩ := h1 w hw
          rw [hr]
          exact hc.mono fun e w' ⟨he, hk⟩ => by subst he; exact h _ _ w' hF (hF.keeps hw hk) h2
    · rename_i hwt
      rw [if_neg hwt] at hh
      exact h _ _ w hF hw hh
theorem any_of_R : ∀ (fuel : Nat) (listed : Array Bool) (a : Act) (F : World → Prop) (w : World), Cls w0 F → F w → wpAnyR P md ops w0 ls Q fuel listed a F → wpAny P md ops Q fuel listed a w
  | 0, _, _, _, w, _, hw, h => ⟨h.1, h.2 w hw⟩
  | fuel + 1, _, _, _, _, hF, hw, h => ⟨fun h0 => absurd h0 h.1, fun i hi => wpOp_of_stepR hF hw (fun a' F' w' hF' hw' => any_of_R fuel _ a' F' w' hF' hw') (h.2 i hi)⟩
/-- In this state the operation yields v, in every world of the class. -/
def YieldsR (P : Program) (ops : Array Oper) (F : World → Prop) (o : Oper) (v : Value) (a : Act) : Prop :=
  (Region.wanted o (yielded ops a.tmps) = true ∧ quietR P o a F v) ∨ (Region.wanted o (yielded ops a.tmps) = false ∧ v = undef)
theorem YieldsR.of_same {o : Oper} {v : Value} {a a' : Act} {F : World → Prop} (hy : YieldsR P ops F o v a) (he : execOp a'.eval o = execOp a.eval o)
    (hw : Region.wanted o (yielded ops a'.tmps) = Region.wanted o (yielded ops a.tmps)) : YieldsR P ops F o v a' := by
  unfold YieldsR quietR at *
  rw [he, hw]
  exact hy
theorem YieldsR.less {o : Oper} {v : Value} {a : Act} {F G : World → Prop} (hy : YieldsR P ops F o v a) (h : ∀ w, G w → F w) : YieldsR P ops G o v a := by
  rcases hy with ⟨h1, h2 | ⟨f, args, h2⟩⟩ | h1
  · exact .inl ⟨h1, .inl fun w hw => h2 w (h w hw)⟩
  · exact .inl ⟨h1, .inr ⟨f, args, fun w hw => h2 w (h w hw)⟩⟩
  · exact .inr h1
theorem YieldsR.stepR {i : Nat} {o : Oper} {v : Value} {a : Act} {F : World → Prop} (hi : ops[i]? = some o) (hl : ls.contains i = false) (hy : YieldsR P ops F o v a) {K : Act → (World → Prop) → Prop} (h : K (a.put o.dst v) F) : stepR P ops w0 ls i K a F := by
  unfold Go.Proofs.YtfokemminjikpaaDoor.stepR
  simp only [hi]
  rcases hy with ⟨hw, hv⟩ | ⟨hw, rfl⟩
  · rw [if_pos hw, if_neg (by rw [hl]; decide)]; exact ⟨v, hv, h⟩
  · rw [if_neg (by rw [hw]; decide)]; exact h
theorem stepR_put {j : Nat} {oi oj : Oper} {v : Value} (hj : ops[j]? = some oj) (hap : oi.apart ops oj = true)
    (hsi : ∀ cs b, oi.op ≠ .select cs b) (hsj : ∀ cs b, oj.op ≠ .select cs b) {K : Act → (World → Prop) → Prop} {a : Act} {F : World → Prop}
    (hy : YieldsR P ops F oi v a) (h : stepR P ops w0 ls j K (a.put oi.dst v) F) :
    stepR P ops w0 ls j (fun a' F' => YieldsR P ops F' oi v a' ∧ K (a'.put oi.dst v) F') a F := by
  obtain ⟨h1, h2, h3⟩ := Oper.apart_spec hap
  have keep : ∀ (a : Act) (F : World → Prop), YieldsR P ops F oi v a → ∀ u, YieldsR P ops F oi v (a.put oj.dst u) := fun a F hy u =>
    hy.of_same (execOp_put oi hsi a oj.dst u h3) (wanted_put oi a oj.dst u h3)
  have hex : execOp (a.put oi.dst v).eval oj = execOp a.eval oj := execOp_put oj hsj a oi.dst v h1
  unfold stepR at *
  simp only [hj] at *
  rw [wanted_put oj a oi.dst v h1] at h
  split
  · rename_i hw
    rw [if_pos hw] at h
    split
    · rename_i hl
      rw [if_pos hl] at h
      obtain ⟨S, R, hlo, hn⟩ := h
      refine ⟨S, R, ?_, fun u hu => ⟨(keep a F hy u).less (fun w hw => hw.1), by rw [← Act.put_comm a v u h2]; exact hn u hu⟩⟩
      unfold looseR at *
      rwa [hex] at hlo
    · rename_i hl
      rw [if_neg hl] at h
      obtain ⟨u, hq, hn⟩ := h
      refine ⟨u, ?_, keep a F hy u, by rw [← Act.put_comm a v u h2]; exact hn⟩
      unfold quietR at *
      rwa [hex] at hq
  · rename_i hw
    rw [if_neg hw] at h
    exact ⟨keep a F hy _, by rw [← Act.put_comm a v undef h2]; exact h⟩
theorem R_first {i : Nat} {oi : Oper} {v : Value} (hi : ops[i]? = some oi) (hl : ls.contains i = false) (hsel : ∀ (j : Nat) (o : Oper) cs b, ops[j]? = some o → o.op ≠ .select cs b) :
    ∀ (fuel : Nat) (listed : Array Bool) (a : Act) (F : World → Prop),
      (∀ j oj, ops[j]? = some oj → j ≠ i → listed.getD j true = false → (∀ e ∈ oj.after, Region.binds md e = true → e.on ≠ i) → oi.apart ops oj = true) →
      i ∈ Region.ready md ops listed → YieldsR P ops F oi v a →
      wpAnyR P md ops w0 ls Q fuel (listed.setIfInBounds i true) (a.put oi.dst v) F → wpAnyR P md ops w0 ls Q (fuel + 1) listed a F := by
  intro fuel
  induction fuel with
  | zero =>
    intro listed a F _ hr hy H
    refine ⟨fun h => (by rw [h] at hr; cases hr), fun j hj => ?_⟩
    by_cases hji : j = i
    · subst hji; exact hy.stepR hi hl H
    · have := ready_mono hj hji
      rw [H.1] at this
      cases this
  | succ fuel ih =>
    intro listed a F hfree hr hy H
    refine ⟨fun h => (by rw [h] at hr; cases hr), fun j hj => ?_⟩
    by_cases hji : j = i
    · subst hji; exact hy.stepR hi hl H
    · have h1 := H.2 j (ready_mono hj hji)
      obtain ⟨hjun, oj, hoj, hall⟩ := mem_ready.1 hj
      have hnot : ∀ e ∈ oj.after, Region.binds md e = true → e.on ≠ i := fun e he hb heq => by
        have h1 := hall e he hb
        have h0 := (mem_ready.1 hr).1
        rw [heq] at h1
        rcases Nat.lt_or_ge i listed.size with h' | h'
        · simp [h'] at h0 h1; rw [h0] at h1; cases h1
        · simp [Array.getElem?_eq_none h'] at h1
      have h2 := stepR_put hoj (hfree j oj hoj hji hjun hnot) (fun cs b => hsel i oi cs b hi) (fun cs b => hsel j oj cs b hoj) hy h1
      have hfree' : ∀ k ok, ops[k]? = some ok → k ≠ i → (listed.setIfInBounds j true).getD k true = false →
          (∀ e ∈ ok.after, Region.binds md e = true → e.on ≠ i) → oi.apart ops ok = true := fun k ok hk hki hun hno => by
        refine hfree k ok hk hki ?_ hno
        by_cases hjk : j = k
        · subst hjk; exact hjun
        · rw [getD_set_ne true hjk] at hun; exact hun
      refine stepR_mono (fun a' F' h3 => ih (listed.setIfInBounds j true) a' F' hfree' (ready_mono hr (Ne.symm hji)) h3.1 ?_) h2
      rw [Array.setIfInBounds_comm _ _ hji]
      exact h3.2
/-- The walk of one order. -/
def wpR (P : Program) (ops : Array Oper) (w0 : World) (ls : List Nat) (Q : Exit → Act → World → Prop) : List Nat → Act → (World → Prop) → Prop
  | [], a, F => ∀ w, F w → Q .normal a w
  | k :: rest, a, F => stepR P ops w0 ls k (wpR P ops w0 ls Q rest) a F
def lexR (md : Region.Mode) (ops : Array Oper) (ls : List Nat) : List Nat → Array Bool → Bool
  | [], listed => (Region.ready md ops listed).isEmpty
  | k :: rest, listed => (if ls.contains k then Region.ready md ops listed == [k] else (Region.ready md ops listed).contains k && Region.free md ops listed k) && lexR md ops ls rest (listed.setIfInBounds k true)
theorem R_lex (hs : Region.noSelect ops = true) : ∀ (l : List Nat) (listed : Array Bool) (a : Act) (F : World → Prop), lexR md ops ls l listed = true → wpR P ops w0 ls Q l a F → wpAnyR P md ops w0 ls Q l.length listed a F
  | [], _, _, _, hB, h => ⟨by simpa [lexR] using hB, h⟩
  | k :: l, listed, a, F, hB, h => by
    simp only [lexR, Bool.and_eq_true] at hB
    obtain ⟨hr, hB'⟩ := hB
    unfold wpR at h
    by_cases hk : ls.contains k = true
    · rw [if_pos hk, beq_iff_eq] at hr
      refine ⟨by rw [hr]; simp, fun i hi => ?_⟩
      rw [hr, List.mem_singleton] at hi
      subst hi
      exact stepR_mono (fun a' F' h' => R_lex hs l _ a' F' hB' h') h
    · rw [if_neg hk, Bool.and_eq_true] at hr
      have hk' : ls.contains k = false := by simpa using hk
      unfold stepR at h
      cases h0 : ops[k]? with
      | none => rw [h0] at h; exact h.elim
      | some o =>
        rw [h0] at h
        simp only at h
        by_cases hw : Region.wanted o (yielded ops a.tmps) = true
        · rw [if_pos hw, if_neg hk] at h
          obtain ⟨v, h1, h2⟩ := h
          exact R_first h0 hk' (Region.noSelect_spec hs) l.length listed a F (Region.free_spec h0 hr.2) (by simpa using hr.1) (.inl ⟨hw, h1⟩) (R_lex hs l _ _ _ hB' h2)
        · rw [if_neg hw] at h
          exact R_first h0 hk' (Region.noSelect_spec hs) l.length listed a F (Region.free_spec h0 hr.2) (by simpa using hr.1) (.inr ⟨by simpa using hw, rfl⟩) (R_lex hs l _ _ _ hB' h)
/-- One walk serves every order: 'ls' are the places of what makes new memory in the region itself; 'ord' is the order that is walked. -/
theorem wp_region_loose {id : Nat} {a : Act} {w : World} {l : List Oper} (ls ord : List Nat) (hm : P.follows .mixedOrders = true) (hB : (Region.noSelect l.toArray && (ord.length == l.length && lexR .any l.toArray ls ord (Array.replicate l.length false))) = true)
    (h : wpR P l.toArray w ls Q ord a (Later w)) : (Code.region id l.toArray true).wp P Q a w := by
  rw [Bool.and_eq_true, Bool.and_eq_true, beq_iff_eq] at hB
  refine wp_region_any hm ?_
  have := R_lex (P := P) (ops := l.toArray) (md := .any) (w0 := w) (ls := ls) (Q := Q) hB.1 ord (Array.replicate l.length false) a (Later w) hB.2.2 h
  rw [hB.2.1] at this
  simpa using any_of_R _ _ _ _ { w with drawn := w.drawn + 1 } (Cls.base w) ⟨(Keeps.refl _ _).drew⟩ this
end
/-! ### The steps -/
theorem get_op {l : List Oper} {k : Nat} {o : Oper} (h : l[k]? = some o) : l.toArray[k]? = some o := by rw [List.getElem?_toArray]; exact h
section
variable {P : Program} {ops : Array Oper} {w0 : World} {ls : List Nat} {Q : Exit → Act → World → Prop} {k : Nat} {o : Oper} {rest : List Nat} {a : Act} {F : World → Prop}
theorem R_value (h0 : ops[k]? = some o) (hw : Region.wanted o (yielded ops a.tmps) = true) (hk : ls.contains k = false) (v : Value) (hrun : ∀ w, F w → (execOp a.eval o).run P w = .ok (.value v) w) (h : wpR P ops w0 ls Q rest (a.put o.dst v) F) : wpR P ops w0 ls Q (k :: rest) a F := by
  unfold wpR stepR
  rw [h0]
  simp only
  rw [if_pos hw, if_neg (by rw [hk]; decide)]
  exact ⟨v, .inl hrun, h⟩
theorem R_call (h0 : ops[k]? = some o) (hw : Region.wanted o (yielded ops a.tmps) = true) (hk : ls.contains k = false) (f : FuncId) (args : Array Value) (v : Value) (hrun : ∀ w, (execOp a.eval o).run P w = .ok (.enter f args) w) (hc : ∀ w, F w → Calls P f args w (fun e w' => e = .returned v ∧ Keeps (fun _ => False) w w')) (h : wpR P ops w0 ls Q rest (a.put o.dst v) F) : wpR P ops w0 ls Q (k :: rest) a F := by
  unfold wpR stepR
  rw [h0]
  simp only
  rw [if_pos hw, if_neg (by rw [hk]; decide)]
  exact ⟨v, .inr ⟨f, args, fun w hw => ⟨hrun w, hc w hw⟩⟩, h⟩
theorem R_skip (h0 : ops[k]? = some o) (hw : Region.wanted o (yielded ops a.tmps) = false) (h : wpR P ops w0 ls Q rest (a.put o.dst undef) F) : wpR P ops w0 ls Q (k :: rest) a F := by
  unfold wpR stepR
  rw [h0]
  simp only
  rw [if_neg (by rw [hw]; decide)]
  exact h
theorem R_loose (h0 : ops[k]? = some o) (hw : Region.wanted o (yielded ops a.tmps) = true) (hk : ls.contains k = true) (S : Value → Prop) (R : Value → World → Prop) (hl : looseR P o a w0 F S R) (h : ∀ v, S v → wpR P ops w0 ls Q rest (a.put o.dst v) (fun w => F w ∧ R v w)) : wpR P ops w0 ls Q (k :: rest) a F := by
  unfold wpR stepR
  rw [h0]
  simp only
  rw [if_pos hw, if_pos hk]
  exact ⟨S, R, hl, h⟩
theorem R_nil (h : ∀ w, F w → Q .normal a w) : wpR P ops w0 ls Q [] a F := h
/-- A row is loaded. -/
theorem R_load (h0 : ops[k]? = some o) (hw : Region.wanted o (yielded ops a.tmps) = true) (hk : ls.contains k = false) (ty : TypeId) (x : Operand) (ho : o.op = .load ty x) (b off : Nat) (hx : a.eval x = .pointer (some ⟨b, off, none⟩)) (cs : List Value) (d : TypeDesc)
    (hc : ∀ w, F w → w.rangeAt b off cs) (hu : P.underlying ty = some d) (hd : d.isRow = true) (hi : (P.info? ty).map (·.size) = some cs.length) (h : wpR P ops w0 ls Q rest (a.put o.dst (.agg cs.toArray)) F) : wpR P ops w0 ls Q (k :: rest) a F := by
  refine R_value h0 hw hk _ (fun w hw => ?_) h
  unfold execOp
  simp only [ho, hx, Sem.run_bind, Sem.run_pure, Result.andThen_ok, run_loadAt_mid w b off ty cs d (hc w hw) hu hd hi]
/-- A cell is loaded. -/
theorem R_cell (h0 : ops[k]? = some o) (hw : Region.wanted o (yielded ops a.tmps) = true) (hk : ls.contains k = false) (ty : TypeId) (x : Operand) (ho : o.op = .load ty x) (p : Addr) (hx : a.eval x = .pointer (some p)) (v : Value) (d : TypeDesc)
    (hc : ∀ w, F w → w.cell? p = some v) (hu : P.underlying ty = some d) (hd : d.isRow = false) (h : wpR P ops w0 ls Q rest (a.put o.dst v) F) : wpR P ops w0 ls Q (k :: rest) a F := by
  refine R_value h0 hw hk _ (fun w hw => ?_) h
  unfold execOp
  simp only [ho, hx, Instr.loadAt, Instr.sureAddr, Sem.run_bind, Sem.run_pure, Result.andThen_ok, run_loadVar_one w p ty d v (hc w hw) hu hd]
/-- Two arrays are held against one another. -/
theorem R_eq (h0 : ops[k]? = some o) (hw : Region.wanted o (yielded ops a.tmps) = true) (hk : ls.contains k = false) (op : BinOp) (t t2 : TypeId) (x y : Operand) (ho : o.op = .binOp op t x y t2) (xs ys : Array Value) (hx : a.eval x = .agg xs) (hy : a.eval y = .agg ys) (hm : P.eqGuardType P.depth t = false) (v : Value)
    (hrun : ∀ w, (binOp op t (.agg xs) (.agg ys)).run P w = .ok v w) (h : wpR P ops w0 ls Q rest (a.put o.dst v) F) : wpR P ops w0 ls Q (k :: rest) a F := by
  refine R_value h0 hw hk v (fun w _ => ?_) h
  unfold execOp
  simp only [ho, hx, hy, Sem.run_bind, Sem.run_pure, Result.andThen_ok, run_eqGuard_agg w op t x y xs ys hm, hrun]
/-! ### '[]byte("..")' -/
/-- The bytes lie in a block that has been made, marked or not. -/
def Made (w0 : World) (t : TypeId) (C : Array Value) (v : Value) (w : World) : Prop := ∃ g fr, w0.heap.size ≤ g ∧ v = .slice (some ⟨g, 0, none⟩) C.size C.size ∧ w.heap[g]? = some (.cells C t fr)
theorem Made.soft {w w' : World} {t : TypeId} {C : Array Value} {v : Value} (h : Made w0 t C v w) (hs : Soft w w') : Made w0 t C v w' := by
  obtain ⟨g, fr, h0, h1, h2⟩ := h
  obtain ⟨fr', h3⟩ := hs.block g C t fr h2
  exact ⟨g, fr', h0, h1, h3⟩
theorem loose_build (t e : TypeId) (x : Operand) (u : Value) (ho : o.op = .buildSlice t 1 #[(0, x)]) (hx : a.eval x = u) (hF : ∀ w, F w → Later w0 w) (hrun : ∀ w, (Instr.buildSlice t 1 #[(0, u)]).run P w = .ok (.slice (some ⟨w.heap.size, 0, none⟩) 1 1) (w.alloc (.cells #[u] e))) :
    looseR P o a w0 F (fun v => ∃ g, v = .slice (some ⟨g, 0, none⟩) 1 1) (Made w0 e #[u]) := by
  refine ⟨fun v w w' h hs => h.soft hs, fun w hw => ⟨_, _, ?_, Soft.of_keeps ((Keeps.refl _ _).alloc _), ⟨(hF w hw).out.alloc _⟩, ⟨_, rfl⟩, w.heap.size, (0, 0), (hF w hw).out.size, rfl, heap_alloc_new w _⟩⟩
  unfold execOp
  simp only [ho, Sem.run_bind, Sem.run_pure, Result.andThen_ok, List.map_toArray, List.map_cons, List.map_nil, hx, hrun]
theorem run_convert_mark {P : Program} (w : World) (t e : TypeId) (g : Nat) (C : Array Value) (fr : Nat × Nat) (n c : Nat) (ht : P.underlying t = some (.slice e)) (he : P.underlying e = some (.int .u8)) (hg : w.heap[g]? = some (.cells C e fr)) :
    (convert t t (.slice (some ⟨g, 0, none⟩) n c)).run P w = .ok (.slice (some ⟨g, 0, none⟩) n c) (w.freeze ⟨g, C.size, none⟩ 1) := by
  have hsh : w.shape? g = some (e, C.size) := by
    unfold World.shape?
    rw [hg]
  simp [convert, run_underlying ht, run_underlying he, markStringish, hsh]
theorem freeze_soft (w : World) (g n : Nat) : Soft w (w.freeze ⟨g, n, none⟩ 1) ∧ Keeps (fun k => k = g) w (w.freeze ⟨g, n, none⟩ 1) := by
  unfold World.freeze
  rw [if_neg (by decide)]
  refine ⟨⟨rfl, rfl, rfl, by simp, fun k cs t fr hk => ?_⟩, ⟨rfl, rfl, rfl, by simp, fun k _ hne => ?_⟩⟩
  · by_cases e : g = k
    · subst e
      obtain ⟨lo, hi⟩ := fr
      exact ⟨if lo = hi then (n, n + 1) else (min lo n, max hi (n + 1)), by simp [Array.getElem?_modify, hk]⟩
    · exact ⟨fr, by simp [Array.getElem?_modify, e, hk]⟩
  · simp only [Array.getElem?_modify]
    rw [if_neg (fun e => hne e.symm)]
theorem loose_conv (t e : TypeId) (x : Operand) (g : Nat) (C : Array Value) (ho : o.op = .convert t t x) (hx : a.eval x = .slice (some ⟨g, 0, none⟩) C.size C.size) (hF : ∀ w, F w → Later w0 w ∧ Made w0 e C (.slice (some ⟨g, 0, none⟩) C.size C.size) w) (ht : P.underlying t = some (.slice e)) (he : P.underlying e = some (.int .u8)) :
    looseR P o a w0 F (fun v => v = .slice (some ⟨g, 0, none⟩) C.size C.size) (fun _ _ => True) := by
  refine ⟨fun _ _ _ h _ => h, fun w hw => ?_⟩
  obtain ⟨hl, g', fr, hg0, hv, hg⟩ := hF w hw
  injection hv with hv
  injection hv with hv
  injection hv with hv
  subst hv
  obtain ⟨h1, h2⟩ := freeze_soft w g C.size
  refine ⟨_, _, ?_, h1, ⟨hl.out.trans' h2 (fun k hk e => by omega)⟩, rfl, trivial⟩
  unfold execOp
  simp only [ho, hx, Sem.run_bind, Sem.run_pure, Result.andThen_ok, run_convert_mark w t e g C fr C.size C.size ht he hg]
end
end Go.Proofs.YtfokemminjikpaaDoor
