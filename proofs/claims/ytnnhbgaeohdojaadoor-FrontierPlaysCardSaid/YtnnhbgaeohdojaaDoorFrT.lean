/-
  Drawn regions: a call that stores. What the laws of layer 5 share.
-/
import Derived.Test.YtnnhbgaeohdojaaDoorFrL
namespace Go.Proofs.YtnnhbgaeohdojaaDoor
open Go.RowKit Go.BigFrame
set_option linter.unusedVariables false

section
variable {P : Program} {ops : Array Oper} {B : World → Prop} {ls : List Nat} {E : Act → World → Prop} {k : Nat} {o : Oper} {rest : List Nat} {a : Act} {F : World → Prop}
/-- A function is called that may store. -/
theorem T_enter (h0 : ops[k]? = some o) (hw : Region.wanted o (yielded ops a.tmps) = true) (hk : ls.contains k = true) (f : FuncId) (args : Array Value) (v : Value) (hrun : ∀ w, (execOp a.eval o).run P w = .ok (.enter f args) w) (G : World → Prop) (hG : Lasts G)
    (hc : ∀ w, B w → F w → Calls P f args w (fun e w' => e = .returned v ∧ B w' ∧ G w')) (h : wpT P ops B ls E rest (a.put o.dst v) G) : wpT P ops B ls E (k :: rest) a F := by
  refine T_loose h0 hw hk (fun u => u = v) (fun u w => G w) ⟨fun u => hG, fun w hb hf => ?_⟩ ?_
  · rw [hrun w]
    exact (hc w hb hf).mono fun e w' h => ⟨v, h.1, h.2.1, rfl, h.2.2⟩
  · intro u hu
    subst hu
    exact h
/-- The same, of a value that has letters. -/
theorem T_enterx {α : Type} (h0 : ops[k]? = some o) (hw : Region.wanted o (yielded ops a.tmps) = true) (hk : ls.contains k = true) (f : FuncId) (args : Array Value) (v : α → Value) (hrun : ∀ w, (execOp a.eval o).run P w = .ok (.enter f args) w) (G : World → Prop) (hG : Lasts G)
    (hc : ∀ w, B w → F w → Calls P f args w (fun e w' => ∃ x, e = .returned (v x) ∧ B w' ∧ G w')) (h : ∀ x, wpT P ops B ls E rest (a.put o.dst (v x)) G) : wpT P ops B ls E (k :: rest) a F := by
  refine T_loose h0 hw hk (fun u => ∃ x, u = v x) (fun u w => G w) ⟨fun u => hG, fun w hb hf => ?_⟩ ?_
  · rw [hrun w]
    exact (hc w hb hf).mono fun e w' ⟨x, h⟩ => ⟨v x, h.1, h.2.1, ⟨x, rfl⟩, h.2.2⟩
  · rintro u ⟨x, rfl⟩
    exact h x
theorem T_eq (h0 : ops[k]? = some o) (hw : Region.wanted o (yielded ops a.tmps) = true) (hk : ls.contains k = false) (op : BinOp) (t t2 : TypeId) (x y : Operand) (ho : o.op = .binOp op t x y t2) (xs ys : Array Value) (hx : a.eval x = .agg xs) (hy : a.eval y = .agg ys) (hm : P.eqGuardType P.depth t = false) (v : Value)
    (hrun : ∀ w, (binOp op t (.agg xs) (.agg ys)).run P w = .ok v w) (h : wpT P ops B ls E rest (a.put o.dst v) F) : wpT P ops B ls E (k :: rest) a F := by
  refine T_value h0 hw hk v (fun w _ => ?_) h
  unfold execOp
  simp only [ho, hx, hy, Sem.run_bind, Sem.run_pure, Result.andThen_ok, run_eqGuard_agg w op t x y xs ys hm, hrun]
end
theorem few_sixty5 {rs : List RowOf} (h : fewB rs = true) : ∀ r ∈ rs, r.2.2.length ≤ 60 := by
  unfold fewB at h
  rw [Bool.and_eq_true, List.all_eq_true] at h
  intro r hr
  have := h.1 r hr
  simpa using this
theorem Fro.base {w : World} {b1 b2 g sz : Nat} {ps : List (List UInt8)} (h : Fro w b1 g sz ps) (hb : b2 ≤ b1) : Fro w b2 g sz ps := by
  obtain ⟨v, h1, h2⟩ := h.var
  exact ⟨Nat.le_trans hb h.lo, h.all, v, h1, own_base h2 hb⟩
end Go.Proofs.YtnnhbgaeohdojaaDoor
