/-
  Rounds of a range over a function: a drawn region in one, walked as one outside of a round. No number of any translation stands here.
-/
import Derived.Test.YtnhegnncmjmafaaWalkI
namespace Go.Proofs.Ytnhegnncmjmafaa
open Go.RowKit Go.BigFrame
set_option linter.unusedVariables false
attribute [local go_sem] Oper.semAt_some

/-- What goes in any order plainly goes in a round likewise. -/
theorem opsIn_of_ops {l n : Nat} {P : Program} {ops : Array Oper} {Q : Exit → Act → World → Prop} (hno : ¬ LetsOut Q) (hd : ∀ (i : Nat) (o : Oper), ops[i]? = some o → ∀ c, o.op ≠ .defer c) : ∀ (rest : List Nat) (a : Act) (w : World), wpOps P ops Q rest a w → wpOpsIn (Fence.wide.inRound l) n P ops Q rest a w
  | [], a, w, h => h
  | i :: rest, a, w, h => by
    have ih := fun a w => opsIn_of_ops (l := l) (n := n) (P := P) (ops := ops) (Q := Q) hno hd rest a w
    unfold wpOps at h
    unfold wpOpsIn
    cases hi : ops[i]? with
    | none =>
      rw [hi] at h
      exact ih _ _ h
    | some o =>
      rw [hi] at h
      simp only at h ⊢
      split at h
      · rename_i hw
        rw [if_pos hw]
        refine ⟨fun _ _ => trivial, ?_⟩
        have hs : o.semAt (Fence.wide.inRound l).round a.eval = execOp a.eval o := Oper.semAt_some l a.eval o (hd i o hi)
        rw [hs]
        replace h := h.resolve_right (fun hh => hno hh.2)
        unfold Oper.wp at h
        cases hr : (execOp a.eval o).run P w with
        | ok nx w' =>
          rw [hr] at h
          cases nx with
          | value v => exact ih _ _ h
          | skip => exact ih _ _ h
          | «defer» d => exact ih _ _ h
          | enter f args =>
            refine ⟨fun hh => (by simp [Fence.wide] at hh), ?_⟩
            refine CallsIn.inRound l (callsIn_wide.2 (Calls.mono h ?_))
            intro e w'' he
            cases e with
            | returned v => exact ih _ _ he
            | panicked ch => exact he
            | outgrown => exact he
          | row row args =>
            refine ⟨fun hh => (by simp [Fence.wide] at hh), fun c cs _ => ?_⟩
            obtain ⟨v, w2, h1, h2⟩ := h c cs
            exact ⟨v, w2, ih _ _ h1, stepsIn_wide.2 h2⟩
          | _ => exact h.elim
        | halt hl w' =>
          rw [hr] at h
          cases hl with
          | panic v => exact h
          | _ => exact h.elim
      · rename_i hw
        rw [if_neg hw]
        exact ⟨fun _ _ => trivial, ih _ _ h⟩
/-- One walk serves every order, in a round. -/
theorem wpIn_region_stores {lr n : Nat} {P : Program} {Q : Exit → Act → World → Prop} {id : Nat} {a : Act} {w : World} {l : List Oper} (hno : ¬ LetsOut Q) (hdf : l.all (fun o => match o.op with | .defer _ => false | _ => true) = true) (m : Nat) (ls ord : List Nat) (B F : World → Prop) (hm : P.follows .mixedOrders = true)
    (hR : (decide (m ≤ l.length) && (Region.noSelect l.toArray && (tailOr .any l.toArray m && (ord.length == m && (lexM .any l.toArray ls m ord (Array.replicate l.length false) && chainB .any l.toArray (l.length - m) m (setAll ord (Array.replicate l.length false))))))) = true)
    (hB : Lasts B) (hF : Lasts F) (hb : B { w with drawn := w.drawn + 1 }) (hf : F { w with drawn := w.drawn + 1 })
    (h : wpT P l.toArray B ls (fun a' w' => wpList P l.toArray Q (l.drop m) a' w') ord a F) : (Code.region id l.toArray true).wpIn (Fence.wide.inRound lr) n P Q a w := by
  simp only [Bool.and_eq_true, decide_eq_true_eq, beq_iff_eq] at hR
  obtain ⟨hml, hs, ht, ho, hx, hc⟩ := hR
  have hdl : (l.drop m).length = l.length - m := List.length_drop
  have hL := T_lex (P := P) (ops := l.toArray) (md := .any) (B := B) (ls := ls) (Q' := Q) (m := m) (T := l.length - m) hs ht ord (Array.replicate l.length false) a F (closed_new _) hx
    (wpT_mono (fun a' w' h' => by
      have := any_chain (P := P) (ops := l.toArray) (md := .any) (Q' := Q) (l.drop m) m (setAll ord (Array.replicate l.length false)) a' w' (fun j => by rw [List.getElem?_drop, List.getElem?_toArray]) (by rw [hdl]; exact hc) h'
      rw [hdl] at this
      exact this) ord a F h)
  have hany := any_of_T hB _ _ _ _ { w with drawn := w.drawn + 1 } hF hb hf hL
  rw [ho, Nat.sub_add_cancel hml] at hany
  refine wpIn_region_draw fun t => ?_
  simp only [Region.schedule, hm, Bool.true_or, if_true]
  refine opsIn_of_ops hno (fun i o hi c he => ?_) _ _ _ (wpAny_sound l.toArray.size t _ a _ (by simpa using hany))
  rw [List.getElem?_toArray] at hi
  have h2 := List.all_eq_true.1 hdf o (List.mem_of_getElem? hi)
  rw [he] at h2
  cases h2
end Go.Proofs.Ytnhegnncmjmafaa
