/-
  Slices of acts (four integers each) among the arguments; a struct is read at any address.
-/
import Derived.Test.YtdihkbkcefjeoaaRowU
import Derived.Deep.Matrix
import Derived.Deep.SlicePairs
import Derived.Deep.MidRow
namespace Go.Proofs.Ytdihkbkcefjeoaa
open Go.RowKit Go.ChangeShapes Go.WideShapes Go.Deep
set_option linter.unusedVariables false

structure ActOf where
  k : Int
  i : Int
  n : Int
  l : Int
def ActOf.cells (x : ActOf) : List Value := [.int .i64 x.k, .int .i64 x.i, .int .i64 x.n, .int .i64 x.l]
instance : Inhabited ActOf := ⟨⟨0, 0, 0, 0⟩⟩
/-- Acts that came in. -/
structure IsActs (w : World) (a : Option Addr) (len cap : Nat) (xs : List ActOf) : Prop where
  many : xs.length = len
  le : len ≤ cap
  max : cap ≤ 9223372036854775807
  at_ : ∀ j x, xs[j]? = some x → ∃ ad, a = some ad ∧ (∀ q u, x.cells[q]? = some u → w.cell? (ad.add (j * 4 + q)) = some u) ∧
    (Lit.int .i64 x.k).wf = true ∧ (Lit.int .i64 x.i).wf = true ∧ (Lit.int .i64 x.n).wf = true ∧ (Lit.int .i64 x.l).wf = true
theorem act_cells : Try.prog.cellsOf 34 = 4 := by kernel_rfl
theorem int_cells : Try.prog.cellsOf 3 = 1 := by kernel_rfl
theorem open_acts {H : Type} {enc : TypeId × Value → H} {w : World} {base : Nat} {held : Bool} {fuel : Nat} {a : Option Addr} {len cap : Nat} {x : DataW H × List MemPlace}
    (h : DataW.trod enc Try.prog w base (fun _ => true) held fuel 22 [.slice a len cap] = some x) : ∃ xs, IsActs w a len cap xs := by
  rcases open_slice Try.underlying22 h with ⟨hcs, _⟩ | ⟨ad, l, c, m, n, D, Pl, hcs, _, hl, hm, hmm, _, hx⟩
  · simp at hcs
    obtain ⟨rfl, rfl, rfl⟩ := hcs
    exact ⟨[], rfl, Nat.le_refl _, by omega, fun j x hx => by simp at hx⟩
  · simp at hcs
    obtain ⟨rfl, rfl, rfl⟩ := hcs
    simp only [if_true] at hmm
    subst hmm
    have each : ∀ j, j < len → ∃ y : ActOf, (∀ q u, y.cells[q]? = some u → w.cell? (ad.add (j * 4 + q)) = some u) ∧
        (Lit.int .i64 y.k).wf = true ∧ (Lit.int .i64 y.i).wf = true ∧ (Lit.int .i64 y.n).wf = true ∧ (Lit.int .i64 y.l).wf = true := by
      intro j hj
      obtain ⟨cs', h1, h2⟩ := hx j (by omega)
      rw [act_cells] at h1
      obtain ⟨_, hlen, hcell⟩ := World.cells?_some h1
      obtain ⟨ys, k, hk, _, _, hyl, hf⟩ := DataW.trod_struct Try.underlying34 h2
      match ys, hyl, cs', hlen with
      | [y0, y1, y2, y3], _, [v0, v1, v2, v3], _ =>
        have g0 := hf 0 _ rfl
        have g1 := hf 1 _ rfl
        have g2 := hf 2 _ rfl
        have g3 := hf 3 _ rfl
        simp [int_cells] at g0 g1 g2 g3
        obtain ⟨z0, e0, _, w0⟩ := DataW.trod_int Try.underlying3 g0
        obtain ⟨z1, e1, _, w1⟩ := DataW.trod_int Try.underlying3 g1
        obtain ⟨z2, e2, _, w2⟩ := DataW.trod_int Try.underlying3 g2
        obtain ⟨z3, e3, _, w3⟩ := DataW.trod_int Try.underlying3 g3
        simp only [List.cons.injEq, and_true] at e0 e1 e2 e3
        refine ⟨⟨z0, z1, z2, z3⟩, fun q u hq => ?_, w0, w1, w2, w3⟩
        have hq4 : q < 4 := by
          rcases Nat.lt_or_ge q 4 with h | h
          · exact h
          · unfold ActOf.cells at hq; rw [List.getElem?_eq_none (by simpa using h)] at hq; cases hq
        have hc := hcell q (by omega)
        rw [add_add] at hc
        rw [hc, ← hq]
        unfold ActOf.cells
        subst e0 e1 e2 e3
        rfl
    obtain ⟨f, hf⟩ := choose_lt each
    refine ⟨(List.range len).map f, by simp, hl, by unfold maxLen at hm; omega, fun j x hx => ?_⟩
    rw [List.getElem?_map] at hx
    have hj : j < len := by
      rcases Nat.lt_or_ge j len with h | h
      · exact h
      · rw [List.getElem?_eq_none (by simpa using h)] at hx; cases hx
    rw [List.getElem?_range hj] at hx
    cases hx
    exact ⟨ad, rfl, hf j hj⟩
/-- A struct is read, wherever it stands. -/
theorem wpList_load_any {P : Program} {ops : Array Oper} {rest : List Oper} {op : Oper} {a : Act} {w : World} {Q : Exit → Act → World → Prop} (hgd : op.guard = none) (ty : TypeId) (x : Operand) (ho : op.op = .load ty x)
    (p : Addr) (hx : a.eval x = .pointer (some p)) (cs : List Value) (d : TypeDesc) (hc : ∀ j v, cs[j]? = some v → w.cell? (p.add j) = some v)
    (hu : P.underlying ty = some d) (hd : d.isRow = true) (hi : (P.info? ty).map (·.size) = some cs.length)
    (h : wpList P ops Q rest (a.put op.dst (.agg cs.toArray)) w) : wpList P ops Q (op :: rest) a w := by
  have hl : (loadCells p cs.length).run P w = .ok cs.toArray w := run_loadCells_list (P := P) w p cs hc
  have hr : (loadVar ty p).run P w = .ok (.agg cs.toArray) w := by
    cases hq : P.info? ty with
    | none => simp [hq] at hi
    | some i =>
      have hs : i.size = cs.length := by simpa [hq] using hi
      have hagg : (isAgg ty).run P w = .ok true w := by
        unfold isAgg
        rw [Sem.run_bind, run_underlying hu w]
        cases d <;> simp_all
      simp [loadVar, Sem.run_bind, hagg, sizeOf, typeInfo, hq, hs, hl]
  refine wpList_plain hgd fun _ hK => ?_
  unfold Oper.wp execOp
  simp only [ho, hx, Instr.loadAt, Instr.sureAddr, Sem.run_bind, Sem.run_pure, Result.andThen_ok, hr]
  exact hK _ _ h
theorem size_act : (Try.prog.info? 34).map (·.size) = some 4 := by kernel_rfl
theorem zero_act (V : World) : (zeroValue 34).run Try.prog V = .ok (.agg #[.int .i64 0, .int .i64 0, .int .i64 0, .int .i64 0]) V := by kernel_rfl
end Go.Proofs.Ytdihkbkcefjeoaa
