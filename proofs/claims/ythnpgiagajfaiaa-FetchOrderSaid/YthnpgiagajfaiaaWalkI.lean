/-
  Rounds of a range over a function: a plain list of operations in one, what the rounds keep. No number of any translation stands here.
-/
import Derived.RangeFuncNested
import Derived.RangeFuncBound
import Derived.RangeFuncCalls
import Derived.RangeFuncLeaves
import Derived.Shelf.Abstract
import Derived.Shelf.RegionOpen
import Derived.WalkKit
import Derived.OwnWalkIn
import Derived.TacticsInMore
import Derived.LoopNIn
import Derived.LoopIn
import Derived.Test.YthnpgiagajfaiaaWalkT
namespace Go.Proofs.Ythnpgiagajfaiaa
open Go.RowKit Go.BigFrame
set_option linter.unusedVariables false
attribute [local go_sem] Oper.semAt_some

/-- What is walked plainly goes in a round likewise. -/
theorem listIn_of_list {l n : Nat} {P : Program} {ops : Array Oper} {Q : Exit → Act → World → Prop} (hno : ¬ LetsOut Q) : ∀ (rest : List Oper) (a : Act) (w : World), (∀ o ∈ rest, ∀ c, o.op ≠ .defer c) → wpList P ops Q rest a w → wpListIn (Fence.wide.inRound l) n P ops Q rest a w
  | [], a, w, _, h => h
  | o :: rest, a, w, hd, h => by
    have ih := fun a w => listIn_of_list (l := l) (n := n) (P := P) (ops := ops) (Q := Q) hno rest a w (fun o ho => hd o (List.mem_cons_of_mem _ ho))
    unfold wpList at h
    unfold wpListIn
    split at h
    · rename_i hw
      rw [if_pos hw]
      refine ⟨fun _ _ => trivial, ?_⟩
      have hs : o.semAt (Fence.wide.inRound l).round a.eval = execOp a.eval o := Oper.semAt_some l a.eval o (hd o (List.mem_cons_self ..))
      rw [hs]
      replace h := h.resolve_right (fun hh => hno hh.2)
      unfold Oper.wp at h
      cases hr : (execOp a.eval o).run P w with
      | ok nx w' =>
        rw [hr] at h
        cases nx with
        | value v => exact ih _ _ h
        | skip => exact ih _ _ h
        | «defer» d => exact ih _ _ h
        | enter f args =>
          refine ⟨fun hh => (by simp [Fence.wide] at hh), ?_⟩
          refine CallsIn.inRound l (callsIn_wide.2 (Calls.mono h ?_))
          intro e w'' he
          cases e with
          | returned v => exact ih _ _ he
          | panicked ch => exact he
          | outgrown => exact he
        | row row args =>
          refine ⟨fun hh => (by simp [Fence.wide] at hh), fun c cs _ => ?_⟩
          obtain ⟨v, w2, h1, h2⟩ := h c cs
          exact ⟨v, w2, ih _ _ h1, stepsIn_wide.2 h2⟩
        | _ => exact h.elim
      | halt hl w' =>
        rw [hr] at h
        cases hl with
        | panic v => exact h
        | _ => exact h.elim
    · rename_i hw
      rw [if_neg hw]
      exact ⟨fun _ _ => trivial, ih _ _ h⟩
theorem wpListIn_load_mid {n : Nat} {P : Program} {ops : Array Oper} {rest : List Oper} {o : Oper} {a : Act} {w : World} {Q : Exit → Act → World → Prop} (hw : Region.wanted o (yielded ops a.tmps) = true) (ty : TypeId) (x : Operand) (ho : o.op = .load ty x)
    (b off : Nat) (hx : a.eval x = .pointer (some ⟨b, off, none⟩)) (cs : List Value) (d : TypeDesc) (hc : w.rangeAt b off cs) (hu : P.underlying ty = some d) (hd : d.isRow = true) (hi : (P.info? ty).map (·.size) = some cs.length)
    (h : wpListIn Fence.wide n P ops Q rest (a.put o.dst (.agg cs.toArray)) w) : wpListIn Fence.wide n P ops Q (o :: rest) a w := by
  refine wpListIn_step fun K hK => ?_
  rw [if_pos hw]
  refine ⟨fun _ _ => trivial, ?_⟩
  rw [show o.semAt Fence.wide.round a.eval = execOp a.eval o from Oper.semAt_none _ _]
  unfold execOp
  simp only [ho, hx, Sem.run_bind, Sem.run_pure, Result.andThen_ok, run_loadAt_mid w b off ty cs d hc hu hd hi]
  exact hK _ _ h
/-- What the iterator's rounds keep: all but one block, and what lies beyond. -/
def KB (n₀ b4 : Nat) (W W' : World) : Prop := Keeps (fun k => k = b4 ∨ n₀ ≤ k) W W'
theorem kb_putObj {n₀ b4 : Nat} (W : World) (l : Nat) (o' : Obj) (hl : n₀ ≤ l) : KB n₀ b4 W (W.putObj l o') := ⟨rfl, rfl, rfl, by simp [World.putObj], fun k hk hs => World.putObj_heap_other (fun e => hs (.inr (by omega)))⟩
theorem kb_grown {n₀ b4 : Nat} {w W W' : World} {row : Option Nat} (h : KB n₀ b4 w W) (hg : W.grownBy W' row) (hr : ∀ r, row = some r → n₀ ≤ r) : KB n₀ b4 w W' := Keeps.grown h hg (fun k hk e => .inr (hr k e))
theorem kf_keeps {S : Nat → Prop} {B : Nat} {V V' : World} (h : Keeps S V V') (hs : ∀ k, B ≤ k → ¬ S k) : KeepsFrom B V V' := ⟨h.size, fun k o hB hk _ => (h.block k (Array.getElem?_eq_some_iff.1 hk).1 (hs k hB)).trans hk⟩
end Go.Proofs.Ythnpgiagajfaiaa
