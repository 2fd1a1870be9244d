/-
  What the laws of layer 6 share: keys that are built, in order or in drawn regions.
-/
import Derived.Test.YtjblnjeloimbgaaDoorClF
import Derived.Test.YtjblnjeloimbgaaDoorClU
import Derived.Test.YtjblnjeloimbgaaDoorClK
namespace Go.Proofs.YtjblnjeloimbgaaDoor
open Go.RowKit Go.BigFrame
set_option linter.unusedVariables false

theorem chash32 (r : List UInt8) (h : r.length = 32) : ∃ b0 b1 b2 b3 b4 b5 b6 b7 b8 b9 b10 b11 b12 b13 b14 b15 b16 b17 b18 b19 b20 b21 b22 b23 b24 b25 b26 b27 b28 b29 b30 b31 : UInt8, r = [b0, b1, b2, b3, b4, b5, b6, b7, b8, b9, b10, b11, b12, b13, b14, b15, b16, b17, b18, b19, b20, b21, b22, b23, b24, b25, b26, b27, b28, b29, b30, b31] := by
  match r, h with
  | [b0, b1, b2, b3, b4, b5, b6, b7, b8, b9, b10, b11, b12, b13, b14, b15, b16, b17, b18, b19, b20, b21, b22, b23, b24, b25, b26, b27, b28, b29, b30, b31], _ => exact ⟨b0, b1, b2, b3, b4, b5, b6, b7, b8, b9, b10, b11, b12, b13, b14, b15, b16, b17, b18, b19, b20, b21, b22, b23, b24, b25, b26, b27, b28, b29, b30, b31, rfl⟩
theorem ckey_build (s : Nat) (r : List UInt8) (h : r.length = 32) (W : World) : (Instr.build 35 #[(0, .int .u64 (s : Int)), (1, .agg (bvs r).toArray)]).run Tryd.prog W = .ok (.agg (keyCells s r).toArray) W := by
  obtain ⟨b0, b1, b2, b3, b4, b5, b6, b7, b8, b9, b10, b11, b12, b13, b14, b15, b16, b17, b18, b19, b20, b21, b22, b23, b24, b25, b26, b27, b28, b29, b30, b31, rfl⟩ := chash32 r h
  kernel_rfl
/-- A struct is built, by its run. -/
theorem wpList_builds {P : Program} {ops : Array Oper} {rest : List Oper} {o : Oper} {a : Act} {w : World} {Q : Exit → Act → World → Prop} (hw : Region.wanted o (yielded ops a.tmps) = true) (t : TypeId) (parts : List (Nat × Operand)) (ho : o.op = .build t parts.toArray) (vs : List (Nat × Value)) (hx : parts.map (fun (i, x) => (i, a.eval x)) = vs)
    (v : Value) (hrun : (Instr.build t vs.toArray).run P w = .ok v w) (h : wpList P ops Q rest (a.put o.dst v) w) : wpList P ops Q (o :: rest) a w := by
  refine wpList_wanted hw fun K hK => ?_
  unfold Oper.wp execOp
  simp only [ho, List.map_toArray, hx, Sem.run_bind, Sem.run_pure, Result.andThen_ok, hrun]
  exact hK _ _ h
section
variable {P : Program} {ops : Array Oper} {B : World → Prop} {ls : List Nat} {E : Act → World → Prop} {k : Nat} {o : Oper} {rest : List Nat} {a : Act} {F : World → Prop}
/-- A struct is built in a drawn region. -/
theorem T_built (h0 : ops[k]? = some o) (hw : Region.wanted o (yielded ops a.tmps) = true) (hk : ls.contains k = false) (t : TypeId) (parts : List (Nat × Operand)) (ho : o.op = .build t parts.toArray) (vs : List (Nat × Value)) (hx : parts.map (fun (i, x) => (i, a.eval x)) = vs)
    (v : Value) (hrun : ∀ w, (Instr.build t vs.toArray).run P w = .ok v w) (h : wpT P ops B ls E rest (a.put o.dst v) F) : wpT P ops B ls E (k :: rest) a F :=
  T_value h0 hw hk v (fun w _ => by unfold execOp; simp only [ho, List.map_toArray, hx, Sem.run_bind, Sem.run_pure, Result.andThen_ok, hrun]) h
end
namespace Cl
theorem prow_errs (k n i : Nat) (e : Bytes) (p : List Bytes) (hi : i < n) : (prow k n i e p).2.2 = 0 ∨ (prow k n i e p).2.2 = 20 := by
  unfold prow
  rw [if_neg (by omega)]
  split
  · exact .inl rfl
  · exact .inr rfl
theorem wide_same (n i : Nat) (e : Bytes) (p : List Bytes) (hi : i < n) (hn : n ≤ 18446744073709551615) : Tr.verify (prow 32 n i e p).2.1 n i e p = (prow 32 n i e p).2.2 := by
  have h0 : ¬ n ≤ i := by omega
  by_cases h : p.length = Tr.steps n i
  · have e1 : prow 32 n i e p = (leafRow e :: rowsOf 32 (nar 32 (leafRow e)) (p.zip (Tr.lefts n i).reverse), rootOf 32 (nar 32 (leafRow e)) (p.zip (Tr.lefts n i).reverse), 0) := by
      unfold prow; rw [if_neg h0, if_pos h]
    rw [e1]
    unfold Tr.verify
    rw [if_neg h0, if_pos h, made_wide n i e p hn h, if_pos rfl]
  · have e1 : prow 32 n i e p = ([], List.replicate 32 0, 20) := by
      unfold prow; rw [if_neg h0, if_neg h]
    rw [e1]
    unfold Tr.verify
    rw [if_neg h0, if_neg h]
theorem wide_chain (m n : Nat) (o : Bytes) (p : List Bytes) (h1 : 1 ≤ m) (h2 : m ≤ n) (hn : n ≤ 18446744073709551615) :
    ((crow 32 m n o p).2.2.2 = 20 ∧ Tr.cverify m o n (crow 32 m n o p).2.2.1 p = 20) ∨
    ((crow 32 m n o p).2.2.2 = 0 ∧ Tr.cverify m o n (crow 32 m n o p).2.2.1 p = if (crow 32 m n o p).2.1 = o then 0 else 20) := by
  have h0 : ¬ (m < 1 ∨ n < m) := by omega
  by_cases h : p.length = Tr.lng m n true
  · have e1 : crow 32 m n o p = (rowsOf 32 (bc m n o p) (zc m n p), oldOf 32 (bc m n o p) (zc m n p), rootOf 32 (bc m n o p) (zc m n p), 0) := by
      unfold crow; rw [if_neg h0, if_pos h]
    rw [e1]
    refine .inr ⟨rfl, ?_⟩
    unfold Tr.cverify
    rw [if_neg h0, if_pos h, cmd_wide m n o p h1 h2 hn h]
    show (if oldOf 32 (bc m n o p) (zc m n p) = o ∧ rootOf 32 (bc m n o p) (zc m n p) = rootOf 32 (bc m n o p) (zc m n p) then (0 : Int) else 20) = if oldOf 32 (bc m n o p) (zc m n p) = o then 0 else 20
    by_cases hx : oldOf 32 (bc m n o p) (zc m n p) = o
    · rw [if_pos ⟨hx, rfl⟩, if_pos hx]
    · rw [if_neg (fun q => hx q.1), if_neg hx]
  · have e1 : crow 32 m n o p = ([], List.replicate 32 0, List.replicate 32 0, 20) := by
      unfold crow; rw [if_neg h0, if_neg h]
    rw [e1]
    refine .inl ⟨rfl, ?_⟩
    unfold Tr.cverify
    rw [if_neg h0, if_neg h]
end Cl
theorem crem_in (x : Int) (n : Nat) (hx : 0 ≤ x) (hn : 1 ≤ n) : ∃ m : Nat, m < n ∧ x.tmod (n : Int) = (m : Int) := by
  have h0 : 0 ≤ x % (n : Int) := Int.emod_nonneg _ (by omega)
  have h1 : x % (n : Int) < n := Int.emod_lt_of_pos x (by omega)
  rw [Int.tmod_eq_emod_of_nonneg hx]
  exact ⟨(x % (n : Int)).toNat, by omega, by omega⟩
end Go.Proofs.YtjblnjeloimbgaaDoor
