/-
  Drawn regions: a plain operation, its value found by the walk; a function that hands back two structs. No number of any translation stands here.
  Regions that draw their order, with operations that write ('loose'): what is known of the world goes from one loose operation to the next; what is not loose has one value in a class of worlds that all of them keep. No number of any translation stands here.
  A slice of one thing is made within a region that draws its order. No number of any translation stands here.
-/
import Derived.Test.YtmhbfchhooggjaaWalkR
import Derived.Laws.Rows
namespace Go.Proofs.Ytmhbfchhooggjaa
open Go.RowKit
set_option linter.unusedVariables false

def plainB : Op → Bool
  | .move .. | .assign .. | .pick .. | .load .. | .binOp .. | .unOp .. | .slice .. | .fieldAddr .. | .field .. | .indexAddr .. | .index .. | .convert .. | .extract .. => true
  | _ => false
theorem valued {P : Program} (s : Sem Value) {w w' : World} {n : Next} (h : ((do let x ← s; pure (Next.value x)) : Sem Next).run P w = .ok n w') : ∃ x, n = .value x := by
  rw [Sem.run_bind] at h
  cases hs : s.run P w with
  | ok x w1 =>
    rw [hs, Result.andThen_ok, Sem.run_pure] at h
    injection h with h _
    exact ⟨x, h.symm⟩
  | _ => rw [hs] at h; cases h
theorem picked {P : Program} (s : Sem Bool) (x y : Value) {w w' : World} {n : Next} (h : ((do pure (Next.value (if ← s then x else y))) : Sem Next).run P w = .ok n w') : ∃ x, n = .value x := by
  rw [Sem.run_bind] at h
  cases hs : s.run P w with
  | ok b w1 =>
    rw [hs, Result.andThen_ok, Sem.run_pure] at h
    injection h with h _
    exact ⟨_, h.symm⟩
  | _ => rw [hs] at h; cases h
theorem plain_value {P : Program} {ρ : Operand → Value} {o : Oper} (h : plainB o.op = true) {w w' : World} {n : Next} (hr : (execOp ρ o).run P w = .ok n w') : ∃ x, n = .value x := by
  unfold execOp at hr
  cases hop : o.op <;> rw [hop] at h <;> (try (simp [plainB] at h; done)) <;> rw [hop] at hr <;> first
    | exact valued _ hr
    | (rw [Sem.run_pure] at hr; injection hr with hr _; exact ⟨_, hr.symm⟩)
    | (exact picked _ _ _ hr)
section
variable {P : Program} {ops : Array Oper} {w0 : World} {ls : List Nat} {Q : Exit → Act → World → Prop} {k : Nat} {o : Oper} {rest : List Nat} {a : Act} {F : World → Prop}
theorem R_quiet (h0 : ops[k]? = some o) (hw : Region.wanted o (yielded ops a.tmps) = true) (hk : ls.contains k = false) (hp : plainB o.op = true) (h : ∀ K : Act → Prop, (∀ a', wpR P ops w0 ls Q rest a' F → K a') → o.quiet P a F K) : wpR P ops w0 ls Q (k :: rest) a F := by
  obtain ⟨v, h1, h2⟩ := h (fun a' => wpR P ops w0 ls Q rest a' F) (fun _ h => h)
  refine R_value h0 hw hk v (fun w hw => ?_) h2
  have h3 := h1 w hw
  unfold Oper.quietAt at h3
  cases hr : (execOp a.eval o).run P w with
  | ok n w' =>
    obtain ⟨x, rfl⟩ := plain_value hp hr
    rw [hr] at h3
    obtain ⟨rfl, rfl⟩ := h3
    rfl
  | _ => rw [hr] at h3; exact h3.elim
end
theorem results_cell_cell {P : Program} {fn : Func} {p q : Tmp} {ty ty2 : TypeId} (h : fn.results = #[.cell p ty, .cell q ty2]) (tmps : Array Value) (w : World) (g : Nat) (t : TypeId) (cs : Array Value) (fr : Nat × Nat) (d : TypeDesc) (g2 : Nat) (t2 : TypeId) (cs2 : Array Value) (fr2 : Nat × Nat) (d2 : TypeDesc)
    (hp : tmps.getD p undef = .pointer (some ⟨g, 0, none⟩)) (hg : w.heap[g]? = some (.cells cs t fr))
    (hu : P.underlying ty = some d) (hd : (match d with | .struct _ | .array _ _ => true | _ => false) = true) (hi : (P.info? ty).map (·.size) = some cs.size)
    (hq : tmps.getD q undef = .pointer (some ⟨g2, 0, none⟩)) (hg2 : w.heap[g2]? = some (.cells cs2 t2 fr2))
    (hu2 : P.underlying ty2 = some d2) (hd2 : (match d2 with | .struct _ | .array _ _ => true | _ => false) = true) (hi2 : (P.info? ty2).map (·.size) = some cs2.size) :
    (results fn tmps).run P w = .ok (.tuple #[.agg cs, .agg cs2]) w := by
  have hp' : tmps[p]?.getD undef = .pointer (some ⟨g, 0, none⟩) := by simpa using hp
  have hq' : tmps[q]?.getD undef = .pointer (some ⟨g2, 0, none⟩) := by simpa using hq
  simp [results, h, hp', hq', asAddr, run_loadVar_row w g t ty cs fr d hg hu hd hi, run_loadVar_row w g2 t2 ty2 cs2 fr2 d2 hg2 hu2 hd2 hi2]
end Go.Proofs.Ytmhbfchhooggjaa
namespace Go.Proofs.Ytmhbfchhooggjaa
open Go.RowKit
set_option linter.unusedVariables false

/-- New memory alone leaves it as it is. -/
def Lasts (F : World → Prop) : Prop := ∀ w w', F w → Keeps (fun _ => False) w w' → F w'
theorem Lasts.and {F G : World → Prop} (hF : Lasts F) (hG : Lasts G) : Lasts (fun w => F w ∧ G w) := fun w w' h hk => ⟨hF w w' h.1 hk, hG w w' h.2 hk⟩
theorem Lasts.later (w0 : World) : Lasts (Later w0) := fun w w' h hk => ⟨h.out.trans hk⟩
theorem Lasts.true : Lasts (fun _ => True) := fun _ _ _ _ => trivial
theorem Lasts.block (g : Nat) (o : Obj) : Lasts (fun w => w.heap[g]? = some o) := fun w w' h hk => (hk.block g (Array.getElem?_eq_some_iff.1 h).1 id).trans h
def quietT (P : Program) (o : Oper) (a : Act) (B : World → Prop) (v : Value) : Prop :=
  (∀ w, B w → (execOp a.eval o).run P w = .ok (.value v) w) ∨
  (∃ f args, ∀ w, B w → (execOp a.eval o).run P w = .ok (.enter f args) w ∧ Calls P f args w (fun e w' => e = .returned v ∧ Keeps (fun _ => False) w w'))
def upT (P : Program) (B : World → Prop) (S : Value → Prop) (R : Value → World → Prop) : Result Next → Prop
  | .ok (.value v) w' => B w' ∧ S v ∧ R v w'
  | .ok .skip w' => B w' ∧ S undef ∧ R undef w'
  | .ok (.enter f args) w' => Calls P f args w' (fun e w'' => ∃ v, e = .returned v ∧ B w'' ∧ S v ∧ R v w'')
  | _ => False
def looseT (P : Program) (o : Oper) (a : Act) (B F : World → Prop) (S : Value → Prop) (R : Value → World → Prop) : Prop :=
  (∀ v, Lasts (R v)) ∧ ∀ w, B w → F w → upT P B S R ((execOp a.eval o).run P w)
def stepT (P : Program) (ops : Array Oper) (B : World → Prop) (ls : List Nat) (i : Nat) (K : Act → (World → Prop) → Prop) (a : Act) (F : World → Prop) : Prop :=
  match ops[i]? with
  | none => False
  | some o =>
    if Region.wanted o (yielded ops a.tmps) then
      if ls.contains i then ∃ S R, looseT P o a B F S R ∧ ∀ v, S v → K (a.put o.dst v) (R v)
      else ∃ v, quietT P o a B v ∧ K (a.put o.dst v) F
    else K (a.put o.dst undef) F
def wpAnyT (P : Program) (md : Region.Mode) (ops : Array Oper) (B : World → Prop) (ls : List Nat) (Q' : Exit → Act → World → Prop) (m T : Nat) : Nat → Array Bool → Act → (World → Prop) → Prop
  | 0, listed, a, F => (∀ j ∈ Region.ready md ops listed, m ≤ j) ∧ ∀ w, B w → F w → wpAny P md ops Q' T listed a w
  | fuel + 1, listed, a, F => Region.ready md ops listed ≠ [] ∧ ∀ i ∈ Region.ready md ops listed, stepT P ops B ls i (wpAnyT P md ops B ls Q' m T fuel (listed.setIfInBounds i true)) a F

section
variable {P : Program} {ops : Array Oper} {md : Region.Mode} {B : World → Prop} {ls : List Nat} {Q' : Exit → Act → World → Prop} {m T : Nat}
theorem stepT_mono {i : Nat} {a : Act} {F : World → Prop} {K K' : Act → (World → Prop) → Prop} (h : ∀ a F, K a F → K' a F) (hh : stepT P ops B ls i K a F) : stepT P ops B ls i K' a F := by
  unfold stepT at *
  split
  · rename_i ho; simp only [ho] at hh
  · rename_i o ho
    simp only [ho] at hh
    split
    · rename_i hw
      rw [if_pos hw] at hh
      split
      · rename_i hl
        rw [if_pos hl] at hh
        obtain ⟨S, R, h1, h2⟩ := hh
        exact ⟨S, R, h1, fun v hv => h _ _ (h2 v hv)⟩
      · rename_i hl
        rw [if_neg hl] at hh
        obtain ⟨v, h1, h2⟩ := hh
        exact ⟨v, h1, h _ _ h2⟩
    · rename_i hw
      rw [if_neg hw] at hh
      exact h _ _ hh
theorem wpOp_of_stepT {i : Nat} {a : Act} {F : World → Prop} {w : World} {K : Act → (World → Prop) → Prop} {K' : Act → World → Prop} (hB : Lasts B) (hF : Lasts F) (hw : B w) (hfw : F w) (h : ∀ a F w, Lasts F → B w → F w → K a F → K' a w) (hh : stepT P ops B ls i K a F) : wpOp P ops Q' i K' a w := by
  unfold stepT at hh
  unfold wpOp
  split
  · rename_i ho; simp only [ho] at hh
  · rename_i o ho
    simp only [ho] at hh
    split
    · rename_i hwt
      rw [if_pos hwt] at hh
      refine .inl ?_
      unfold Oper.wp
      split at hh
      · obtain ⟨S, R, ⟨hR, h1⟩, h2⟩ := hh
        have h3 := h1 w hw hfw
        cases hr : (execOp a.eval o).run P w with
        | ok n w' =>
          rw [hr] at h3
          cases n with
          | value v => exact h _ _ w' (hR v) h3.1 h3.2.2 (h2 v h3.2.1)
          | skip => exact h _ _ w' (hR undef) h3.1 h3.2.2 (h2 undef h3.2.1)
          | enter f args => exact Calls.mono h3 fun e w'' ⟨v, he, h4, h5, h6⟩ => by subst he; exact h _ _ w'' (hR v) h4 h6 (h2 v h5)
          | _ => exact h3.elim
        | _ => rw [hr] at h3; exact h3.elim
      · obtain ⟨v, h1 | ⟨f, args, h1⟩, h2⟩ := hh
        · rw [h1 w hw]
          exact h _ _ w hF hw hfw h2
        · obtain ⟨hr, hc⟩ := h1 w hw
          rw [hr]
          exact hc.mono fun e w' ⟨he, hk⟩ => by subst he; exact h _ _ w' hF (hB w w' hw hk) (hF w w' hfw hk) h2
    · rename_i hwt
      rw [if_neg hwt] at hh
      exact h _ _ w hF hw hfw hh
theorem any_of_T (hB : Lasts B) : ∀ (fuel : Nat) (listed : Array Bool) (a : Act) (F : World → Prop) (w : World), Lasts F → B w → F w → wpAnyT P md ops B ls Q' m T fuel listed a F → wpAny P md ops Q' (T + fuel) listed a w
  | 0, _, _, _, w, _, hw, hf, h => h.2 w hw hf
  | fuel + 1, _, _, _, _, hF, hw, hf, h => ⟨fun h0 => absurd h0 h.1, fun i hi => wpOp_of_stepT hB hF hw hf (fun a' F' w' hF' hw' hf' => any_of_T hB fuel _ a' F' w' hF' hw' hf') (h.2 i hi)⟩
def YieldsT (P : Program) (ops : Array Oper) (B : World → Prop) (o : Oper) (v : Value) (a : Act) : Prop :=
  (Region.wanted o (yielded ops a.tmps) = true ∧ quietT P o a B v) ∨ (Region.wanted o (yielded ops a.tmps) = false ∧ v = undef)
theorem YieldsT.of_same {o : Oper} {v : Value} {a a' : Act} (hy : YieldsT P ops B o v a) (he : execOp a'.eval o = execOp a.eval o)
    (hw : Region.wanted o (yielded ops a'.tmps) = Region.wanted o (yielded ops a.tmps)) : YieldsT P ops B o v a' := by
  unfold YieldsT quietT at *
  rw [he, hw]
  exact hy
theorem YieldsT.stepT {i : Nat} {o : Oper} {v : Value} {a : Act} {F : World → Prop} (hi : ops[i]? = some o) (hl : ls.contains i = false) (hy : YieldsT P ops B o v a) {K : Act → (World → Prop) → Prop} (h : K (a.put o.dst v) F) : stepT P ops B ls i K a F := by
  unfold Go.Proofs.Ytmhbfchhooggjaa.stepT
  simp only [hi]
  rcases hy with ⟨hw, hv⟩ | ⟨hw, rfl⟩
  · rw [if_pos hw, if_neg (by rw [hl]; decide)]; exact ⟨v, hv, h⟩
  · rw [if_neg (by rw [hw]; decide)]; exact h
theorem stepT_put {j : Nat} {oi oj : Oper} {v : Value} (hj : ops[j]? = some oj) (hap : oi.apart ops oj = true)
    (hsi : ∀ cs b, oi.op ≠ .select cs b) (hsj : ∀ cs b, oj.op ≠ .select cs b) {K : Act → (World → Prop) → Prop} {a : Act} {F : World → Prop}
    (hy : YieldsT P ops B oi v a) (h : stepT P ops B ls j K (a.put oi.dst v) F) :
    stepT P ops B ls j (fun a' F' => YieldsT P ops B oi v a' ∧ K (a'.put oi.dst v) F') a F := by
  obtain ⟨h1, h2, h3⟩ := Oper.apart_spec hap
  have keep : ∀ u, YieldsT P ops B oi v (a.put oj.dst u) := fun u =>
    hy.of_same (execOp_put oi hsi a oj.dst u h3) (wanted_put oi a oj.dst u h3)
  have hex : execOp (a.put oi.dst v).eval oj = execOp a.eval oj := execOp_put oj hsj a oi.dst v h1
  unfold stepT at *
  simp only [hj] at *
  rw [wanted_put oj a oi.dst v h1] at h
  split
  · rename_i hw
    rw [if_pos hw] at h
    split
    · rename_i hl
      rw [if_pos hl] at h
      obtain ⟨S, R, hlo, hn⟩ := h
      refine ⟨S, R, ?_, fun u hu => ⟨keep u, by rw [← Act.put_comm a v u h2]; exact hn u hu⟩⟩
      unfold looseT at *
      rwa [hex] at hlo
    · rename_i hl
      rw [if_neg hl] at h
      obtain ⟨u, hq, hn⟩ := h
      refine ⟨u, ?_, keep u, by rw [← Act.put_comm a v u h2]; exact hn⟩
      unfold quietT at *
      rwa [hex] at hq
  · rename_i hw
    rw [if_neg hw] at h
    exact ⟨keep _, by rw [← Act.put_comm a v undef h2]; exact h⟩
def tailOr (md : Region.Mode) (ops : Array Oper) (m : Nat) : Bool := decide (m = ops.size) || tailB md ops m
theorem T_first {i : Nat} {oi : Oper} {v : Value} (hB : tailOr md ops m = true) (him : i < m) (hi : ops[i]? = some oi) (hl : ls.contains i = false) (hsel : ∀ (j : Nat) (o : Oper) cs b, ops[j]? = some o → o.op ≠ .select cs b) :
    ∀ (fuel : Nat) (listed : Array Bool) (a : Act) (F : World → Prop), Closed md ops listed →
      (∀ j oj, ops[j]? = some oj → j ≠ i → listed.getD j true = false → (∀ e ∈ oj.after, Region.binds md e = true → e.on ≠ i) → oi.apart ops oj = true) →
      i ∈ Region.ready md ops listed → YieldsT P ops B oi v a →
      wpAnyT P md ops B ls Q' m T fuel (listed.setIfInBounds i true) (a.put oi.dst v) F → wpAnyT P md ops B ls Q' m T (fuel + 1) listed a F := by
  intro fuel
  induction fuel with
  | zero =>
    intro listed a F hcl _ hr hy H
    refine ⟨fun h => (by rw [h] at hr; cases hr), fun j hj => ?_⟩
    by_cases hji : j = i
    · subst hji; exact hy.stepT hi hl H
    · have h1 := H.1 j (ready_mono hj hji)
      unfold tailOr at hB
      rw [Bool.or_eq_true, decide_eq_true_eq] at hB
      rcases hB with hm | hB
      · obtain ⟨_, oj, hoj, _⟩ := mem_ready.1 hj
        have := (Array.getElem?_eq_some_iff.1 hoj).1
        omega
      have h2 := late hB hcl hj h1 i him
      have h3 := (mem_ready.1 hr).1
      rw [Array.getD_eq_getD_getElem?] at h2 h3
      cases hli : listed[i]? with
      | none => rw [hli] at h2; cases h2
      | some b => rw [hli] at h2 h3; simp only [Option.getD_some] at h2 h3; rw [h2] at h3; cases h3
  | succ fuel ih =>
    intro listed a F hcl hfree hr hy H
    refine ⟨fun h => (by rw [h] at hr; cases hr), fun j hj => ?_⟩
    by_cases hji : j = i
    · subst hji; exact hy.stepT hi hl H
    · have h1 := H.2 j (ready_mono hj hji)
      obtain ⟨hjun, oj, hoj, hall⟩ := mem_ready.1 hj
      have hnot : ∀ e ∈ oj.after, Region.binds md e = true → e.on ≠ i := fun e he hb heq => by
        have h1 := hall e he hb
        have h0 := (mem_ready.1 hr).1
        rw [heq] at h1
        rcases Nat.lt_or_ge i listed.size with h' | h'
        · simp [h'] at h0 h1; rw [h0] at h1; cases h1
        · simp [Array.getElem?_eq_none h'] at h1
      have h2 := stepT_put hoj (hfree j oj hoj hji hjun hnot) (fun cs b => hsel i oi cs b hi) (fun cs b => hsel j oj cs b hoj) hy h1
      have hfree' : ∀ k ok, ops[k]? = some ok → k ≠ i → (listed.setIfInBounds j true).getD k true = false →
          (∀ e ∈ ok.after, Region.binds md e = true → e.on ≠ i) → oi.apart ops ok = true := fun k ok hk hki hun hno => by
        refine hfree k ok hk hki ?_ hno
        by_cases hjk : j = k
        · subst hjk; exact hjun
        · rw [getD_set_ne true hjk] at hun; exact hun
      refine stepT_mono (fun a' F' h3 => ih (listed.setIfInBounds j true) a' F' (hcl.set hj) hfree' (ready_mono hr (Ne.symm hji)) h3.1 ?_) h2
      rw [Array.setIfInBounds_comm _ _ hji]
      exact h3.2
/-- The walk of one order. -/
def wpT (P : Program) (ops : Array Oper) (B : World → Prop) (ls : List Nat) (E : Act → World → Prop) : List Nat → Act → (World → Prop) → Prop
  | [], a, F => ∀ w, B w → F w → E a w
  | k :: rest, a, F => stepT P ops B ls k (wpT P ops B ls E rest) a F
theorem wpT_mono {E E' : Act → World → Prop} (hE : ∀ a w, E a w → E' a w) : ∀ (l : List Nat) (a : Act) (F : World → Prop), wpT P ops B ls E l a F → wpT P ops B ls E' l a F
  | [], a, F, h => fun w hw hf => hE a w (h w hw hf)
  | k :: l, a, F, h => by
    unfold wpT at h ⊢
    exact stepT_mono (fun a' F' h' => wpT_mono hE l a' F' h') h
theorem T_lex (hs : Region.noSelect ops = true) (hB : tailOr md ops m = true) : ∀ (l : List Nat) (listed : Array Bool) (a : Act) (F : World → Prop), Closed md ops listed → lexM md ops ls m l listed = true →
    wpT P ops B ls (fun a w => wpAny P md ops Q' T (setAll l listed) a w) l a F → wpAnyT P md ops B ls Q' m T l.length listed a F
  | [], _, _, _, _, hL, h => ⟨by simpa [lexM] using hL, h⟩
  | k :: l, listed, a, F, hc, hL, h => by
    simp only [lexM, Bool.and_eq_true, decide_eq_true_eq] at hL
    obtain ⟨⟨hkm, hr⟩, hL'⟩ := hL
    unfold wpT at h
    by_cases hk : ls.contains k = true
    · rw [if_pos hk, beq_iff_eq] at hr
      refine ⟨by rw [hr]; simp, fun i hi => ?_⟩
      have hi' := hi
      rw [hr, List.mem_singleton] at hi
      subst hi
      exact stepT_mono (fun a' F' h' => T_lex hs hB l _ a' F' (hc.set hi') hL' h') h
    · rw [if_neg hk, Bool.and_eq_true] at hr
      have hk' : ls.contains k = false := by simpa using hk
      have hrk : k ∈ Region.ready md ops listed := by simpa using hr.1
      unfold stepT at h
      cases h0 : ops[k]? with
      | none => rw [h0] at h; exact h.elim
      | some o =>
        rw [h0] at h
        simp only at h
        by_cases hw : Region.wanted o (yielded ops a.tmps) = true
        · rw [if_pos hw, if_neg hk] at h
          obtain ⟨v, h1, h2⟩ := h
          exact T_first hB hkm h0 hk' (Region.noSelect_spec hs) l.length listed a F hc (Region.free_spec h0 hr.2) hrk (.inl ⟨hw, h1⟩) (T_lex hs hB l _ _ _ (hc.set hrk) hL' h2)
        · rw [if_neg hw] at h
          exact T_first hB hkm h0 hk' (Region.noSelect_spec hs) l.length listed a F hc (Region.free_spec h0 hr.2) hrk (.inr ⟨by simpa using hw, rfl⟩) (T_lex hs hB l _ _ _ (hc.set hrk) hL' h)
end
/-- One walk serves every order, of what stands before m; the rest is a chain, in the text's order. -/
theorem wp_region_stores {P : Program} {Q : Exit → Act → World → Prop} {id : Nat} {a : Act} {w : World} {l : List Oper} (m : Nat) (ls ord : List Nat) (B F : World → Prop) (hm : P.follows .mixedOrders = true)
    (hR : (decide (m ≤ l.length) && (Region.noSelect l.toArray && (tailOr .any l.toArray m && (ord.length == m && (lexM .any l.toArray ls m ord (Array.replicate l.length false) && chainB .any l.toArray (l.length - m) m (setAll ord (Array.replicate l.length false))))))) = true)
    (hB : Lasts B) (hF : Lasts F) (hb : B { w with drawn := w.drawn + 1 }) (hf : F { w with drawn := w.drawn + 1 })
    (h : wpT P l.toArray B ls (fun a' w' => wpList P l.toArray Q (l.drop m) a' w') ord a F) : (Code.region id l.toArray true).wp P Q a w := by
  simp only [Bool.and_eq_true, decide_eq_true_eq, beq_iff_eq] at hR
  obtain ⟨hml, hs, ht, ho, hx, hc⟩ := hR
  refine wp_region_any hm ?_
  have hdl : (l.drop m).length = l.length - m := List.length_drop
  have hL := T_lex (P := P) (ops := l.toArray) (md := .any) (B := B) (ls := ls) (Q' := Q) (m := m) (T := l.length - m) hs ht ord (Array.replicate l.length false) a F (closed_new _) hx
    (wpT_mono (fun a' w' h' => by
      have := any_chain (P := P) (ops := l.toArray) (md := .any) (Q' := Q) (l.drop m) m (setAll ord (Array.replicate l.length false)) a' w' (fun j => by rw [List.getElem?_drop, List.getElem?_toArray]) (by rw [hdl]; exact hc) h'
      rw [hdl] at this
      exact this) ord a F h)
  have := any_of_T hB _ _ _ _ { w with drawn := w.drawn + 1 } hF hb hf hL
  rw [ho, Nat.sub_add_cancel hml] at this
  simpa using this
/-! ### The steps -/
section
variable {P : Program} {ops : Array Oper} {B : World → Prop} {ls : List Nat} {E : Act → World → Prop} {k : Nat} {o : Oper} {rest : List Nat} {a : Act} {F : World → Prop}
theorem T_value (h0 : ops[k]? = some o) (hw : Region.wanted o (yielded ops a.tmps) = true) (hk : ls.contains k = false) (v : Value) (hrun : ∀ w, B w → (execOp a.eval o).run P w = .ok (.value v) w) (h : wpT P ops B ls E rest (a.put o.dst v) F) : wpT P ops B ls E (k :: rest) a F := by
  unfold wpT stepT
  rw [h0]
  simp only
  rw [if_pos hw, if_neg (by rw [hk]; decide)]
  exact ⟨v, .inl hrun, h⟩
theorem T_quiet (h0 : ops[k]? = some o) (hw : Region.wanted o (yielded ops a.tmps) = true) (hk : ls.contains k = false) (hp : plainB o.op = true) (h : ∀ K : Act → Prop, (∀ a', wpT P ops B ls E rest a' F → K a') → o.quiet P a B K) : wpT P ops B ls E (k :: rest) a F := by
  obtain ⟨v, h1, h2⟩ := h (fun a' => wpT P ops B ls E rest a' F) (fun _ h => h)
  refine T_value h0 hw hk v (fun w hw => ?_) h2
  have h3 := h1 w hw
  unfold Oper.quietAt at h3
  cases hr : (execOp a.eval o).run P w with
  | ok n w' =>
    obtain ⟨x, rfl⟩ := plain_value hp hr
    rw [hr] at h3
    obtain ⟨rfl, rfl⟩ := h3
    rfl
  | _ => rw [hr] at h3; exact h3.elim
theorem T_call (h0 : ops[k]? = some o) (hw : Region.wanted o (yielded ops a.tmps) = true) (hk : ls.contains k = false) (f : FuncId) (args : Array Value) (v : Value) (hrun : ∀ w, (execOp a.eval o).run P w = .ok (.enter f args) w) (hc : ∀ w, B w → Calls P f args w (fun e w' => e = .returned v ∧ Keeps (fun _ => False) w w')) (h : wpT P ops B ls E rest (a.put o.dst v) F) : wpT P ops B ls E (k :: rest) a F := by
  unfold wpT stepT
  rw [h0]
  simp only
  rw [if_pos hw, if_neg (by rw [hk]; decide)]
  exact ⟨v, .inr ⟨f, args, fun w hw => ⟨hrun w, hc w hw⟩⟩, h⟩
theorem T_skip (h0 : ops[k]? = some o) (hw : Region.wanted o (yielded ops a.tmps) = false) (h : wpT P ops B ls E rest (a.put o.dst undef) F) : wpT P ops B ls E (k :: rest) a F := by
  unfold wpT stepT
  rw [h0]
  simp only
  rw [if_neg (by rw [hw]; decide)]
  exact h
theorem T_loose (h0 : ops[k]? = some o) (hw : Region.wanted o (yielded ops a.tmps) = true) (hk : ls.contains k = true) (S : Value → Prop) (R : Value → World → Prop) (hl : looseT P o a B F S R) (h : ∀ v, S v → wpT P ops B ls E rest (a.put o.dst v) (R v)) : wpT P ops B ls E (k :: rest) a F := by
  unfold wpT stepT
  rw [h0]
  simp only
  rw [if_pos hw, if_pos hk]
  exact ⟨S, R, hl, h⟩
theorem T_nil (h : ∀ w, B w → F w → E a w) : wpT P ops B ls E [] a F := h
theorem T_load (h0 : ops[k]? = some o) (hw : Region.wanted o (yielded ops a.tmps) = true) (hk : ls.contains k = false) (ty : TypeId) (x : Operand) (ho : o.op = .load ty x) (b off : Nat) (hx : a.eval x = .pointer (some ⟨b, off, none⟩)) (cs : List Value) (d : TypeDesc)
    (hc : ∀ w, B w → w.rangeAt b off cs) (hu : P.underlying ty = some d) (hd : d.isRow = true) (hi : (P.info? ty).map (·.size) = some cs.length) (h : wpT P ops B ls E rest (a.put o.dst (.agg cs.toArray)) F) : wpT P ops B ls E (k :: rest) a F := by
  refine T_value h0 hw hk _ (fun w hw => ?_) h
  unfold execOp
  simp only [ho, hx, Sem.run_bind, Sem.run_pure, Result.andThen_ok, run_loadAt_mid w b off ty cs d (hc w hw) hu hd hi]
theorem T_cell (h0 : ops[k]? = some o) (hw : Region.wanted o (yielded ops a.tmps) = true) (hk : ls.contains k = false) (ty : TypeId) (x : Operand) (ho : o.op = .load ty x) (p : Addr) (hx : a.eval x = .pointer (some p)) (v : Value) (d : TypeDesc)
    (hc : ∀ w, B w → w.cell? p = some v) (hu : P.underlying ty = some d) (hd : d.isRow = false) (h : wpT P ops B ls E rest (a.put o.dst v) F) : wpT P ops B ls E (k :: rest) a F := by
  refine T_value h0 hw hk _ (fun w hw => ?_) h
  unfold execOp
  simp only [ho, hx, Instr.loadAt, Instr.sureAddr, Sem.run_bind, Sem.run_pure, Result.andThen_ok, run_loadVar_one w p ty d v (hc w hw) hu hd]
/-- A variable is made. -/
theorem T_alloc (h0 : ops[k]? = some o) (hw : Region.wanted o (yielded ops a.tmps) = true) (hk : ls.contains k = true) (t : TypeId) (z : Array Value) (ho : o.op = .alloc t) (hrun : ∀ w, (Instr.alloc t true (.tuple #[])).run P w = .ok (.pointer (some ⟨w.heap.size, 0, none⟩)) (w.alloc (.cells z t))) (hB : Lasts B) (hF : Lasts F) (n0 : Nat) (hn : ∀ w, B w → n0 ≤ w.heap.size)
    (h : ∀ g, n0 ≤ g → wpT P ops B ls E rest (a.put o.dst (.pointer (some ⟨g, 0, none⟩))) (fun w => F w ∧ w.heap[g]? = some (.cells z t (0, 0)))) : wpT P ops B ls E (k :: rest) a F := by
  refine T_loose h0 hw hk (fun v => ∃ g, n0 ≤ g ∧ v = .pointer (some ⟨g, 0, none⟩)) (fun v w => F w ∧ ∀ g, v = .pointer (some ⟨g, 0, none⟩) → w.heap[g]? = some (.cells z t (0, 0))) ⟨fun v => ?_, fun w hb hf => ?_⟩ ?_
  · exact hF.and (fun w w' hq hk g hv => (hk.block g (Array.getElem?_eq_some_iff.1 (hq g hv)).1 id).trans (hq g hv))
  · unfold execOp
    simp only [ho, Sem.run_bind, Sem.run_pure, Result.andThen_ok, hrun]
    refine ⟨hB _ _ hb ((Keeps.refl _ _).alloc _), ⟨_, hn w hb, rfl⟩, hF _ _ hf ((Keeps.refl _ _).alloc _), fun g hv => ?_⟩
    injection hv with hv
    injection hv with hv
    injection hv with hv
    subst hv
    exact heap_alloc_new w _
  · rintro v ⟨g, hg, rfl⟩
    refine wpT_weak (fun w hh => ⟨hh.1, hh.2 g rfl⟩) (h g hg)
where
  wpT_weak {P : Program} {ops : Array Oper} {B : World → Prop} {ls : List Nat} {E : Act → World → Prop} {F G : World → Prop} : ∀ {l : List Nat} {a : Act}, (∀ w, G w → F w) → wpT P ops B ls E l a F → wpT P ops B ls E l a G
  | [], a, hG, h => fun w hb hg => h w hb (hG w hg)
  | k :: l, a, hG, h => by
    unfold wpT stepT at h ⊢
    split
    · rename_i ho; simp only [ho] at h
    · rename_i o ho
      simp only [ho] at h
      split
      · rename_i hw
        rw [if_pos hw] at h
        split
        · rename_i hl
          rw [if_pos hl] at h
          obtain ⟨S, R, ⟨h1, h2⟩, h3⟩ := h
          exact ⟨S, R, ⟨h1, fun w hb hg => h2 w hb (hG w hg)⟩, h3⟩
        · rename_i hl
          rw [if_neg hl] at h
          obtain ⟨v, h1, h2⟩ := h
          exact ⟨v, h1, wpT_weak hG h2⟩
      · rename_i hw
        rw [if_neg hw] at h
        exact wpT_weak hG h
/-- A row is stored into a block of its own. -/
theorem T_store (h0 : ops[k]? = some o) (hw : Region.wanted o (yielded ops a.tmps) = true) (hk : ls.contains k = true) (ty : TypeId) (p x : Operand) (ho : o.op = .store ty p x) (hd : o.dst = none) (g : Nat) (hp : a.eval p = .pointer (some ⟨g, 0, none⟩)) (r old : Array Value) (hx : a.eval x = .agg r) (t : TypeId)
    (hi : (P.info? ty).map (·.size) = some r.size) (hold : old.size = r.size) (hone : r.all (·.oneCell') = true) (G : World → Prop) (hG : Lasts G) (hF : ∀ w, B w → F w → w.heap[g]? = some (.cells old t (0, 0)) ∧ B (w.setRow g r) ∧ G (w.setRow g r))
    (h : wpT P ops B ls E rest a G) : wpT P ops B ls E (k :: rest) a F := by
  refine T_loose h0 hw hk (fun v => True) (fun v w => G w) ⟨fun v => hG, fun w hb hf => ?_⟩ ?_
  · obtain ⟨h1, h2, h3⟩ := hF w hb hf
    unfold execOp
    simp only [ho, hp, hx, Instr.storeAt, Instr.sureAddr, Sem.run_bind, Sem.run_pure, Result.andThen_ok, run_storeVar_row w g t ty old r h1 hi hold hone]
    exact ⟨h2, trivial, h3⟩
  · intro v _
    rw [hd]
    exact h
end
end Go.Proofs.Ytmhbfchhooggjaa
namespace Go.Proofs.Ytmhbfchhooggjaa
open Go.RowKit
set_option linter.unusedVariables false

section
variable {P : Program} {ops : Array Oper} {B : World → Prop} {ls : List Nat} {E : Act → World → Prop} {k : Nat} {o : Oper} {rest : List Nat} {a : Act} {F : World → Prop}
/-- A slice of one thing is made. -/
theorem T_build (h0 : ops[k]? = some o) (hw : Region.wanted o (yielded ops a.tmps) = true) (hk : ls.contains k = true) (t e : TypeId) (x : Operand) (u : Value) (C : Array Value) (ho : o.op = .buildSlice t 1 #[(0, x)]) (hx : a.eval x = u)
    (hrun : ∀ w, (Instr.buildSlice t 1 #[(0, u)]).run P w = .ok (.slice (some ⟨w.heap.size, 0, none⟩) 1 1) (w.alloc (.cells C e))) (hB : Lasts B) (hF : Lasts F) (n0 : Nat) (hn : ∀ w, B w → n0 ≤ w.heap.size)
    (h : ∀ g, n0 ≤ g → wpT P ops B ls E rest (a.put o.dst (.slice (some ⟨g, 0, none⟩) 1 1)) (fun w => F w ∧ w.heap[g]? = some (.cells C e (0, 0)))) : wpT P ops B ls E (k :: rest) a F := by
  refine T_loose h0 hw hk (fun v => ∃ g, n0 ≤ g ∧ v = .slice (some ⟨g, 0, none⟩) 1 1) (fun v w => F w ∧ ∀ g, v = .slice (some ⟨g, 0, none⟩) 1 1 → w.heap[g]? = some (.cells C e (0, 0))) ⟨fun v => ?_, fun w hb hf => ?_⟩ ?_
  · exact hF.and (fun w w' hq hk g hv => (hk.block g (Array.getElem?_eq_some_iff.1 (hq g hv)).1 id).trans (hq g hv))
  · unfold execOp
    simp only [ho, Sem.run_bind, Sem.run_pure, Result.andThen_ok, List.map_toArray, List.map_cons, List.map_nil, hx, hrun]
    refine ⟨hB _ _ hb ((Keeps.refl _ _).alloc _), ⟨_, hn w hb, rfl⟩, hF _ _ hf ((Keeps.refl _ _).alloc _), fun g hv => ?_⟩
    injection hv with hv
    injection hv with hv
    injection hv with hv
    subst hv
    exact heap_alloc_new w _
  · rintro v ⟨g, hg, rfl⟩
    exact T_alloc.wpT_weak (fun w hh => ⟨hh.1, hh.2 g rfl⟩) (h g hg)
end
theorem rangeAt_row {w : World} {g : Nat} {t : TypeId} {fr : Nat × Nat} {cs : List Value} (h : w.heap[g]? = some (.cells cs.toArray t fr)) : w.rangeAt g 0 cs := fun j v hv => by
  rw [Nat.zero_add, cell_of_row w g j cs.toArray t fr h]
  simpa using hv
end Go.Proofs.Ytmhbfchhooggjaa
