/-
  Halves as rows that lie in blocks; a conversion within a drawn region. WRITTEN BY wip/gen/mklate.py.
-/
import Derived.Test.YtgbajlmcoghofaaDoorLbD
import Derived.Test.YtgbajlmcoghofaaDoorLbE
import Derived.Test.YtgbajlmcoghofaaDoorWalkE
import Derived.Test.YtgbajlmcoghofaaDoorOpens
import Derived.Laws.BytesString
namespace Go.Proofs.YtgbajlmcoghofaaDoor
open Go.RowKit Go.BigFrame
set_option linter.unusedVariables false

section
variable {P : Program} {ops : Array Oper} {B : World → Prop} {ls : List Nat} {E : Act → World → Prop} {k : Nat} {o : Oper} {rest : List Nat} {a : Act} {F : World → Prop}
/-- A conversion, by its run. -/
theorem T_conv (h0 : ops[k]? = some o) (hw : Region.wanted o (yielded ops a.tmps) = true) (hk : ls.contains k = false) (t1 t2 : TypeId) (x : Operand) (ho : o.op = .convert t1 t2 x) (u : Value) (hx : a.eval x = u) (v : Value) (hrun : ∀ w, B w → (convert t1 t2 u).run P w = .ok v w) (h : wpT P ops B ls E rest (a.put o.dst v) F) : wpT P ops B ls E (k :: rest) a F :=
  T_value h0 hw hk v (fun w hb => by unfold execOp; simp only [ho, hx, Sem.run_bind, Sem.run_pure, Result.andThen_ok, hrun w hb]) h
end
theorem halfslice_inj (x y : Nat × Nat) (h : Value.slice (some ⟨x.1, 0, none⟩) 128 x.2 = .slice (some ⟨y.1, 0, none⟩) 128 y.2) : x = y := by
  injection h with h1 _ h2
  injection h1 with h1
  injection h1 with h1
  exact Prod.ext h1 h2
theorem lies_lasts (h : Nat → List UInt8) (g : Nat) : Lasts (fun V => ∀ i, i < 128 → V.rangeAt g (i * 32) (bvs (h i))) := fun w w' hw hk i hi => range_keeps (hw i hi) hk
/-- Halves as a row, that lies in a block. -/
theorem halves_lie (h : Nat → List UInt8) (w : World) (hh : ∀ i, i < 128 → (h i).length = 32) :
    Calls Tryd.prog 11 #[.agg (bvs (Lm.cat h 128)).toArray] w fun e w' => ∃ x : Nat × Nat, e = .returned (.slice (some ⟨x.1, 0, none⟩) 128 x.2) ∧ Keeps (fun _ => False) w w' ∧ ∀ i, i < 128 → w'.rangeAt x.1 (i * 32) (bvs (h i)) := by
  refine (halves_any h w hh).mono ?_
  rintro e w' ⟨A, c, rfl, ho, hk⟩
  obtain ⟨g, rfl, _, _, _, hl⟩ := own_lies ho (by omega) hh
  exact ⟨(g, c), rfl, hk, hl⟩
theorem rsign_lies (seed : List UInt8) (i : Int) (xs : List UInt8) (f : Nat → List UInt8) (w : World) (hs : seed.length = 32) (hxs : xs.length ≤ 5000) (hf : Lm.sign seed i xs = Lm.cat f 128) (hfl : ∀ i, i < 128 → (f i).length = 32) :
    Calls Tryd.prog 10 #[.agg (bvs seed).toArray, .int .i64 i, .string (strOf xs)] w fun e w' => ∃ x : Nat × Nat, e = .returned (.slice (some ⟨x.1, 0, none⟩) 128 x.2) ∧ Keeps (fun _ => False) w w' ∧ ∀ i, i < 128 → w'.rangeAt x.1 (i * 32) (bvs (f i)) := by
  refine (rsign_any seed i xs w hs hxs).mono ?_
  rintro e w' ⟨A, c, rfl, ho, hk⟩
  rw [hf] at ho
  obtain ⟨g, rfl, _, _, _, hl⟩ := own_lies ho (by omega) hfl
  exact ⟨(g, c), rfl, hk, hl⟩
end Go.Proofs.YtgbajlmcoghofaaDoor
