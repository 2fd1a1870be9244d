/-
  The program's table and the document's own, side by side in one world.
-/
import Derived.Test.YthnpgiagajfaiaaFtE
import Derived.Test.YthnpgiagajfaiaaFtW
namespace Go.Proofs.Ythnpgiagajfaiaa
open Go.RowKit Go.BigFrame
set_option linter.unusedVariables false
set_option linter.unusedSimpArgs false

/-- A struct is read, wherever it stands. -/
theorem wpList_load_any18 {P : Program} {ops : Array Oper} {rest : List Oper} {op : Oper} {a : Act} {w : World} {Q : Exit → Act → World → Prop} (hgd : op.guard = none) (ty : TypeId) (x : Operand) (ho : op.op = .load ty x)
    (p : Addr) (hx : a.eval x = .pointer (some p)) (cs : List Value) (d : TypeDesc) (hc : ∀ j v, cs[j]? = some v → w.cell? (p.add j) = some v)
    (hu : P.underlying ty = some d) (hd : d.isRow = true) (hi : (P.info? ty).map (·.size) = some cs.length)
    (h : wpList P ops Q rest (a.put op.dst (.agg cs.toArray)) w) : wpList P ops Q (op :: rest) a w := by
  have hl : (loadCells p cs.length).run P w = .ok cs.toArray w := run_loadCells_list (P := P) w p cs hc
  have hr : (loadVar ty p).run P w = .ok (.agg cs.toArray) w := by
    cases hq : P.info? ty with
    | none => simp [hq] at hi
    | some i =>
      have hs : i.size = cs.length := by simpa [hq] using hi
      have hagg : (isAgg ty).run P w = .ok true w := by
        unfold isAgg
        rw [Sem.run_bind, run_underlying hu w]
        cases d <;> simp_all
      simp [loadVar, Sem.run_bind, hagg, sizeOf, typeInfo, hq, hs, hl]
  refine wpList_plain hgd fun _ hK => ?_
  unfold Oper.wp execOp
  simp only [ho, hx, Instr.loadAt, Instr.sureAddr, Sem.run_bind, Sem.run_pure, Result.andThen_ok, hr]
  exact hK _ _ h
/-- A struct is built, by its run, behind a guard that says yes. -/
theorem wpList_build_w18 {P : Program} {ops : Array Oper} {rest : List Oper} {o : Oper} {a : Act} {w : World} {Q : Exit → Act → World → Prop} (hw : Region.wanted o (yielded ops a.tmps) = true) (t : TypeId) (parts : List (Nat × Operand)) (ho : o.op = .build t parts.toArray) (vs : List (Nat × Value)) (hx : parts.map (fun (i, x) => (i, a.eval x)) = vs)
    (v : Value) (hrun : ∀ w, (Instr.build t vs.toArray).run P w = .ok v w) (h : wpList P ops Q rest (a.put o.dst v) w) : wpList P ops Q (o :: rest) a w := by
  refine wpList_wanted hw fun K hK => ?_
  unfold Oper.wp execOp
  simp only [ho, List.map_toArray, hx, Sem.run_bind, Sem.run_pure, Result.andThen_ok, hrun]
  exact hK _ _ h
/-- The document's table's cells. -/
def tls (t : Ft.Tb) (v : Value) : List Value := [.int .i64 (t.base : Int), .int .i64 (t.most : Int), .int .i64 (t.budget : Int), v]
structure Bo (At : World → (Nat → Prop) → Nat → Ft.Tb → Prop) (W w : World) (F : Nat → Prop) (g d b : Nat) (t : Ft.Tb) (lr : List Ft.Q) (s : BitVec 64) (A : Option Addr) (c : Nat) : Prop where
  at_ : At w F g t
  dice : DiceAt w d s
  box : Row w b 31 (tls t (.slice A lr.length c))
  own : w.ownsRow W.heap.size 71 68 (.slice A lr.length c) lr.length (qfl lr)
  okr : ∀ q ∈ lr, Ft.Q.Ok q
  Fw : ∀ j, F j → W.heap.size ≤ j
  Fd : ¬ F d
  Fb : ¬ F b
  Fr : ∀ j, (Value.slice A lr.length c).ownBlock = some j → ¬ F j
  dW : W.heap.size ≤ d
  bW : W.heap.size ≤ b
  keeps : Keeps (fun _ => False) W w
section
variable {At : World → (Nat → Prop) → Nat → Ft.Tb → Prop} {W w w' : World} {F F' : Nat → Prop} {g d b : Nat} {t t' : Ft.Tb} {lr lr' : List Ft.Q} {s s' : BitVec 64} {A A' : Option Addr} {c c' : Nat}
theorem Bo.db (h : Bo At W w F g d b t lr s A c) : d ≠ b := by
  intro e
  have h1 := h.dice
  have h2 := h.box
  unfold DiceAt Row at h1
  unfold Row at h2
  rw [e, h2] at h1
  injection h1 with h1
  injection h1 with _ h1
  exact absurd h1 (by decide)
theorem Bo.rb (h : Bo At W w F g d b t lr s A c) : ∀ j, (Value.slice A lr.length c).ownBlock = some j → j ≠ b ∧ j ≠ d := fun j hj =>
  ⟨own_apart h.own h.box (by decide) j hj, own_apart h.own (show Row w d 67 _ from h.dice) (by decide) j hj⟩
theorem Bo.later (C : Fetch At) (h : Bo At W w F g d b t lr s A c) (k : Keeps (fun _ => False) w w') : Bo At W w' F g d b t lr s A c :=
  ⟨C.keeps h.at_ k (fun _ e => e.elim), Row.keeps h.dice k id, h.box.keeps k id, k.owns h.own (fun _ _ => id), h.okr, h.Fw, h.Fd, h.Fb, h.Fr, h.dW, h.bW, h.keeps.trans k⟩
/-- Behind a call of the program's. -/
theorem Bo.prog (C : Fetch At) (h : Bo At W w F g d b t lr s A c) (a : At w' F' g t') (hF : ∀ j, F' j → F j ∨ w.heap.size ≤ j) (hd : DiceAt w' d s') (hFd : ¬ F' d) (k : Keeps (fun j => F j ∨ j = d) w w') (hn : t'.base = t.base ∧ t'.most = t.most ∧ t'.budget = t.budget) : Bo At W w' F' g d b t' lr s' A c := by
  refine ⟨a, hd, ?_, k.owns h.own (fun j hj e => ?_), h.okr, fun j hj => ?_, hFd, fun e => ?_, fun j hj e => ?_, h.dW, h.bW, h.keeps.trans' k (fun j hj e => ?_)⟩
  · have hb := h.box.keeps k (fun e => by rcases e with e | e; exact h.Fb e; exact h.db e.symm)
    unfold tls at hb ⊢
    rw [hn.1, hn.2.1, hn.2.2]
    exact hb
  · rcases e with e | e
    · exact h.Fr j hj e
    · exact (h.rb j hj).2 e
  · rcases hF j hj with e | e
    · exact h.Fw j e
    · have := h.keeps.size; omega
  · rcases hF b e with e | e
    · exact h.Fb e
    · have := h.box.lt; omega
  · rcases hF j e with e | e
    · exact h.Fr j hj e
    · have := own_lt h.own hj; omega
  · rcases e with e | e
    · have := h.Fw j e; omega
    · have := h.dW; omega
/-- Behind a call of the document's, whose answer is stored. -/
theorem Bo.refd (C : Fetch At) (h : Bo At W w F g d b t lr s A c) (k : Keeps (fun j => j = b) w w') (o : w'.ownsRow W.heap.size 71 68 (.slice A' lr'.length c') lr'.length (qfl lr')) (hn : ∀ j, (Value.slice A' lr'.length c').ownBlock = some j → (Value.slice A lr.length c).ownBlock = some j ∨ w.heap.size ≤ j) (hok : ∀ q ∈ lr', Ft.Q.Ok q)
    (hb : Row w' b 31 (tls t (.slice A' lr'.length c'))) : Bo At W w' F g d b t lr' s A' c' := by
  refine ⟨C.keeps h.at_ k (fun j e hf => by subst e; exact h.Fb hf), Row.keeps h.dice k (fun e => h.db e), hb, o, hok, h.Fw, h.Fd, h.Fb, fun j hj e => ?_, h.dW, h.bW, h.keeps.trans' k (fun j hj e => by subst e; have := h.bW; omega)⟩
  rcases hn j hj with e2 | e2
  · exact h.Fr j e2 e
  · have := C.lt h.at_ j e; omega
end
end Go.Proofs.Ythnpgiagajfaiaa
