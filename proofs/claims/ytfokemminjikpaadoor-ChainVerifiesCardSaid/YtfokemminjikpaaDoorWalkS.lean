/-
  Drawn regions: a plain operation, its value found by the walk; a function that hands back two structs. No number of any translation stands here.
-/
import Derived.Test.YtfokemminjikpaaDoorWalkR
import Derived.Laws.Rows
namespace Go.Proofs.YtfokemminjikpaaDoor
open Go.RowKit
set_option linter.unusedVariables false

def plainB : Op → Bool
  | .move .. | .assign .. | .pick .. | .load .. | .binOp .. | .unOp .. | .slice .. | .fieldAddr .. | .field .. | .indexAddr .. | .index .. | .convert .. | .extract .. => true
  | _ => false
theorem valued {P : Program} (s : Sem Value) {w w' : World} {n : Next} (h : ((do let x ← s; pure (Next.value x)) : Sem Next).run P w = .ok n w') : ∃ x, n = .value x := by
  rw [Sem.run_bind] at h
  cases hs : s.run P w with
  | ok x w1 =>
    rw [hs, Result.andThen_ok, Sem.run_pure] at h
    injection h with h _
    exact ⟨x, h.symm⟩
  | _ => rw [hs] at h; cases h
theorem picked {P : Program} (s : Sem Bool) (x y : Value) {w w' : World} {n : Next} (h : ((do pure (Next.value (if ← s then x else y))) : Sem Next).run P w = .ok n w') : ∃ x, n = .value x := by
  rw [Sem.run_bind] at h
  cases hs : s.run P w with
  | ok b w1 =>
    rw [hs, Result.andThen_ok, Sem.run_pure] at h
    injection h with h _
    exact ⟨_, h.symm⟩
  | _ => rw [hs] at h; cases h
theorem plain_value {P : Program} {ρ : Operand → Value} {o : Oper} (h : plainB o.op = true) {w w' : World} {n : Next} (hr : (execOp ρ o).run P w = .ok n w') : ∃ x, n = .value x := by
  unfold execOp at hr
  cases hop : o.op <;> rw [hop] at h <;> (try (simp [plainB] at h; done)) <;> rw [hop] at hr <;> first
    | exact valued _ hr
    | (rw [Sem.run_pure] at hr; injection hr with hr _; exact ⟨_, hr.symm⟩)
    | (exact picked _ _ _ hr)
section
variable {P : Program} {ops : Array Oper} {w0 : World} {ls : List Nat} {Q : Exit → Act → World → Prop} {k : Nat} {o : Oper} {rest : List Nat} {a : Act} {F : World → Prop}
theorem R_quiet (h0 : ops[k]? = some o) (hw : Region.wanted o (yielded ops a.tmps) = true) (hk : ls.contains k = false) (hp : plainB o.op = true) (h : ∀ K : Act → Prop, (∀ a', wpR P ops w0 ls Q rest a' F → K a') → o.quiet P a F K) : wpR P ops w0 ls Q (k :: rest) a F := by
  obtain ⟨v, h1, h2⟩ := h (fun a' => wpR P ops w0 ls Q rest a' F) (fun _ h => h)
  refine R_value h0 hw hk v (fun w hw => ?_) h2
  have h3 := h1 w hw
  unfold Oper.quietAt at h3
  cases hr : (execOp a.eval o).run P w with
  | ok n w' =>
    obtain ⟨x, rfl⟩ := plain_value hp hr
    rw [hr] at h3
    obtain ⟨rfl, rfl⟩ := h3
    rfl
  | _ => rw [hr] at h3; exact h3.elim
end
theorem results_cell_cell {P : Program} {fn : Func} {p q : Tmp} {ty ty2 : TypeId} (h : fn.results = #[.cell p ty, .cell q ty2]) (tmps : Array Value) (w : World) (g : Nat) (t : TypeId) (cs : Array Value) (fr : Nat × Nat) (d : TypeDesc) (g2 : Nat) (t2 : TypeId) (cs2 : Array Value) (fr2 : Nat × Nat) (d2 : TypeDesc)
    (hp : tmps.getD p undef = .pointer (some ⟨g, 0, none⟩)) (hg : w.heap[g]? = some (.cells cs t fr))
    (hu : P.underlying ty = some d) (hd : (match d with | .struct _ | .array _ _ => true | _ => false) = true) (hi : (P.info? ty).map (·.size) = some cs.size)
    (hq : tmps.getD q undef = .pointer (some ⟨g2, 0, none⟩)) (hg2 : w.heap[g2]? = some (.cells cs2 t2 fr2))
    (hu2 : P.underlying ty2 = some d2) (hd2 : (match d2 with | .struct _ | .array _ _ => true | _ => false) = true) (hi2 : (P.info? ty2).map (·.size) = some cs2.size) :
    (results fn tmps).run P w = .ok (.tuple #[.agg cs, .agg cs2]) w := by
  have hp' : tmps[p]?.getD undef = .pointer (some ⟨g, 0, none⟩) := by simpa using hp
  have hq' : tmps[q]?.getD undef = .pointer (some ⟨g2, 0, none⟩) := by simpa using hq
  simp [results, h, hp', hq', asAddr, run_loadVar_row w g t ty cs fr d hg hu hd hi, run_loadVar_row w g2 t2 ty2 cs2 fr2 d2 hg2 hu2 hd2 hi2]
end Go.Proofs.YtfokemminjikpaaDoor
