/-
  Slices of layer 12's acts (two integers, a slice of rows of bytes, a slice of bytes each) among the arguments.
-/
import Derived.Test.YtnhegnncmjmafaaOpenL
import Derived.Deep.SlicePairs
import Derived.Deep.MidRow
namespace Go.Proofs.Ytnhegnncmjmafaa
open Go.RowKit Go.ChangeShapes Go.WideShapes Go.Deep
set_option linter.unusedVariables false

structure ActOf where
  k : Int
  n : Int
  R : Option Addr
  cR : Nat
  rs : List RowOf
  A : Option Addr
  C : Nat
  bs : List UInt8
def ActOf.cells (x : ActOf) : List Value := [.int .i64 x.k, .int .i64 x.n, .slice x.R x.rs.length x.cR, .slice x.A x.bs.length x.C]
instance : Inhabited ActOf := ⟨⟨0, 0, none, 0, [], none, 0, []⟩⟩
/-- Acts that came in. -/
structure IsActs (w : World) (a : Option Addr) (len cap : Nat) (xs : List ActOf) : Prop where
  many : xs.length = len
  le : len ≤ cap
  max : cap ≤ 9223372036854775807
  at_ : ∀ j x, xs[j]? = some x → ∃ ad, a = some ad ∧ (∀ q u, x.cells[q]? = some u → w.cell? (ad.add (j * 4 + q)) = some u) ∧ Src w x.A (bvs x.bs) ∧ x.bs.length ≤ x.C ∧ x.C ≤ 9223372036854775807 ∧
    RowsAt w x.R x.rs ∧ x.rs.length ≤ x.cR ∧ x.cR ≤ 9223372036854775807 ∧ (Lit.int .i64 x.k).wf = true ∧ (Lit.int .i64 x.n).wf = true
theorem act_cells : Try.prog.cellsOf 35 = 4 := by kernel_rfl
theorem int_cells : Try.prog.cellsOf 3 = 1 := by kernel_rfl
theorem u8s_cells : Try.prog.cellsOf 33 = 1 := by kernel_rfl
theorem u8ss_cells : Try.prog.cellsOf 23 = 1 := by kernel_rfl
theorem u8_cells1 : Try.prog.cellsOf 5 = 1 := by kernel_rfl
set_option maxRecDepth 100000 in
set_option maxHeartbeats 2000000 in
theorem open_acts {H : Type} {enc : TypeId × Value → H} {w : World} {base : Nat} {held : Bool} {fuel : Nat} {a : Option Addr} {len cap : Nat} {x : DataW H × List MemPlace}
    (h : DataW.trod enc Try.prog w base (fun _ => true) held fuel 22 [.slice a len cap] = some x) : ∃ xs, IsActs w a len cap xs := by
  rcases open_slice Try.underlying22 h with ⟨hcs, _⟩ | ⟨ad, l, c, m, n, D, Pl, hcs, _, hl, hm, hmm, _, hx⟩
  · simp at hcs
    obtain ⟨rfl, rfl, rfl⟩ := hcs
    exact ⟨[], rfl, Nat.le_refl _, by omega, fun j x hx => by simp at hx⟩
  · simp at hcs
    obtain ⟨rfl, rfl, rfl⟩ := hcs
    simp only [if_true] at hmm
    subst hmm
    have each : ∀ j, j < len → ∃ y : ActOf, (∀ q u, y.cells[q]? = some u → w.cell? (ad.add (j * 4 + q)) = some u) ∧ Src w y.A (bvs y.bs) ∧ y.bs.length ≤ y.C ∧ y.C ≤ 9223372036854775807 ∧
        RowsAt w y.R y.rs ∧ y.rs.length ≤ y.cR ∧ y.cR ≤ 9223372036854775807 ∧ (Lit.int .i64 y.k).wf = true ∧ (Lit.int .i64 y.n).wf = true := by
      intro j hj
      obtain ⟨cs', h1, h2⟩ := hx j (by omega)
      rw [act_cells] at h1
      obtain ⟨_, hlen, hcell⟩ := World.cells?_some h1
      obtain ⟨ys, k, hk, _, _, hyl, hf⟩ := DataW.trod_struct Try.underlying35 h2
      match ys, hyl, cs', hlen with
      | [y0, y1, y2, y3], _, [v0, v1, v2, v3], _ =>
        have g0 := hf 0 _ rfl
        have g1 := hf 1 _ rfl
        have g2 := hf 2 _ rfl
        have g3 := hf 3 _ rfl
        simp [int_cells, u8s_cells, u8ss_cells] at g0 g1 g2 g3
        obtain ⟨z0, e0, _, w0⟩ := DataW.trod_int Try.underlying3 g0
        obtain ⟨z1, e1, _, w1⟩ := DataW.trod_int Try.underlying3 g1
        simp only [List.cons.injEq, and_true] at e0 e1
        obtain ⟨R, LR, CR, e2⟩ : ∃ (R : Option Addr) (L C : Nat), v2 = .slice R L C := by
          rcases open_int_rows Try.underlying23 Try.underlying33 Try.underlying5 info_row_cells info_u8_cells1 g2 with ⟨hc2, _⟩ | ⟨ad2, l2, c2, A2, L2, C2, Z2, hc2, _⟩
          · exact ⟨none, 0, 0, by simpa using hc2⟩
          · exact ⟨some ad2, l2, c2, by simpa using hc2⟩
        subst e2
        obtain ⟨rs, r1, r2, r3, r4⟩ := open_rows g2
        obtain ⟨B, L, C, zs, e3, hr⟩ : ∃ (B : Option Addr) (L C : Nat) (zs : List Int), v3 = .slice B L C ∧ IsRowU .u8 w B L C zs := by
          rcases open_ints Try.underlying33 Try.underlying5 u8_cells1 g3 with ⟨hc3, _⟩ | ⟨b3, l3, c3, zs, hc3, _, hl3, hm3, hz3, _, hcell3, hw3⟩
          · exact ⟨none, 0, 0, [], by simpa using hc3, .inl ⟨rfl, rfl, rfl, rfl⟩⟩
          · exact ⟨some b3, l3, c3, zs, by simpa using hc3, .inr ⟨b3, rfl, hl3, hm3, by simpa using hz3, hcell3, hw3⟩⟩
        obtain ⟨bs, hb1, hb2, hb3, hb4⟩ := hr.src
        refine ⟨⟨z0, z1, R, CR, rs, B, C, bs⟩, fun q u hq => ?_, hb2, by show bs.length ≤ C; omega, hb4, r4, by show rs.length ≤ CR; omega, r3, w0, w1⟩
        have hq4 : q < 4 := by
          rcases Nat.lt_or_ge q 4 with h | h
          · exact h
          · unfold ActOf.cells at hq; rw [List.getElem?_eq_none (by simpa using h)] at hq; cases hq
        have hc := hcell q (by omega)
        rw [add_add] at hc
        rw [hc, ← hq]
        unfold ActOf.cells
        subst e0 e1 e3 hb1 r1
        rfl
    obtain ⟨f, hf⟩ := choose_lt each
    refine ⟨(List.range len).map f, by simp, hl, by unfold maxLen at hm; omega, fun j x hx => ?_⟩
    rw [List.getElem?_map] at hx
    have hj : j < len := by
      rcases Nat.lt_or_ge j len with h | h
      · exact h
      · rw [List.getElem?_eq_none (by simpa using h)] at hx; cases hx
    rw [List.getElem?_range hj] at hx
    cases hx
    exact ⟨ad, rfl, hf j hj⟩
/-- A struct is read, wherever it stands. -/
theorem wpList_load_any {P : Program} {ops : Array Oper} {rest : List Oper} {op : Oper} {a : Act} {w : World} {Q : Exit → Act → World → Prop} (hgd : op.guard = none) (ty : TypeId) (x : Operand) (ho : op.op = .load ty x)
    (p : Addr) (hx : a.eval x = .pointer (some p)) (cs : List Value) (d : TypeDesc) (hc : ∀ j v, cs[j]? = some v → w.cell? (p.add j) = some v)
    (hu : P.underlying ty = some d) (hd : d.isRow = true) (hi : (P.info? ty).map (·.size) = some cs.length)
    (h : wpList P ops Q rest (a.put op.dst (.agg cs.toArray)) w) : wpList P ops Q (op :: rest) a w := by
  have hl : (loadCells p cs.length).run P w = .ok cs.toArray w := run_loadCells_list (P := P) w p cs hc
  have hr : (loadVar ty p).run P w = .ok (.agg cs.toArray) w := by
    cases hq : P.info? ty with
    | none => simp [hq] at hi
    | some i =>
      have hs : i.size = cs.length := by simpa [hq] using hi
      have hagg : (isAgg ty).run P w = .ok true w := by
        unfold isAgg
        rw [Sem.run_bind, run_underlying hu w]
        cases d <;> simp_all
      simp [loadVar, Sem.run_bind, hagg, sizeOf, typeInfo, hq, hs, hl]
  refine wpList_plain hgd fun _ hK => ?_
  unfold Oper.wp execOp
  simp only [ho, hx, Instr.loadAt, Instr.sureAddr, Sem.run_bind, Sem.run_pure, Result.andThen_ok, hr]
  exact hK _ _ h
theorem size_act : (Try.prog.info? 35).map (·.size) = some 4 := by kernel_rfl
theorem zero_act (V : World) : (zeroValue 35).run Try.prog V = .ok (.agg #[.int .i64 0, .int .i64 0, .slice none 0 0, .slice none 0 0]) V := by kernel_rfl
end Go.Proofs.Ytnhegnncmjmafaa
