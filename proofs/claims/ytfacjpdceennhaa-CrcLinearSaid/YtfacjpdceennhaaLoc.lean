/-
  Drawn regions whose operations may come in whatever order, several of which make new memory: each operation is met once, by what it reads alone ('stepOK'), and the region ends with all of what they are. No number of any translation stands here.
-/
import Derived.Test.YtfacjpdceennhaaWalkR
namespace Go.Proofs.Ytfacjpdceennhaa
open Go.RowKit
set_option linter.unusedVariables false

abbrev Fact := Value → World → Prop
/-- Which operation that this one waits for fills the slot. -/
def srcOf (md : Region.Mode) (ops : Array Oper) (o : Oper) (s : Nat) : Option Nat :=
  ((o.after.toList.filter fun e => Region.binds md e).map (·.on)).find? fun k => (ops[k]?).bind (·.dst) == some s
def locB (md : Region.Mode) (ops : Array Oper) (size : Nat) : Bool :=
  (List.range ops.size).all fun i => match ops[i]? with
    | none => true
    | some o =>
      (match o.dst with | none => false | some d => decide (d < size) && (List.range ops.size).all fun j => j == i || (ops[j]?).bind (·.dst) != some d) &&
      (o.after.toList.all fun e => !Region.binds md e || decide (e.on < i)) &&
      (o.looksAt ops).all fun s => (srcOf md ops o s).isSome || (List.range ops.size).all fun k => (ops[k]?).bind (·.dst) != some s || (match ops[k]? with | some ok => ok.after.toList.any fun e => Region.binds md e && e.on == i | none => false)
/-- What is known of the slots that an operation reads. -/
def knows (md : Region.Mode) (ops : Array Oper) (a0 : Act) (Ts : List Fact) (o : Oper) (a : Act) (w : World) : List Nat → Prop
  | [] => True
  | s :: l => (match srcOf md ops o s with
      | some k => (match Ts[k]? with | some T => T (a.tmps.getD s undef) w | none => False)
      | none => a.tmps.getD s undef = a0.tmps.getD s undef) ∧ knows md ops a0 Ts o a w l
/-- What an operation does, whatever has come up besides. -/
def Step (P : Program) (md : Region.Mode) (ops : Array Oper) (a0 : Act) (w0 : World) (Ts : List Fact) (o : Oper) (T : Fact) : Prop :=
  (∀ v w w', T v w → Soft P w w' → T v w') ∧
  ∀ a w, Later w0 w → knows md ops a0 Ts o a w (o.looksAt ops) →
    if Region.wanted o (yielded ops a.tmps) then
      (∃ v w', (execOp a.eval o).run P w = .ok (.value v) w' ∧ Soft P w w' ∧ Later w0 w' ∧ T v w') ∨
      (∃ f args, (execOp a.eval o).run P w = .ok (.enter f args) w ∧ Calls P f args w (fun e w' => ∃ v, e = .returned v ∧ Keeps (fun _ => False) w w' ∧ T v w'))
    else T undef w
def stepsOK (P : Program) (md : Region.Mode) (ops : Array Oper) (a0 : Act) (w0 : World) (Ts : List Fact) : List Oper → List Fact → Prop
  | [], [] => True
  | o :: os, T :: l => Step P md ops a0 w0 Ts o T ∧ stepsOK P md ops a0 w0 Ts os l
  | _, _ => False
def AllT : List Fact → List Value → World → Prop
  | [], [], _ => True
  | T :: l, v :: vs, w => T v w ∧ AllT l vs w
  | _, _, _ => False
theorem AllT.cons {T : Fact} {l : List Fact} {vs : List Value} {w : World} (h : AllT (T :: l) vs w) : ∃ v vs', vs = v :: vs' ∧ T v w ∧ AllT l vs' w := by
  cases vs with
  | nil => exact h.elim
  | cons v vs => exact ⟨v, vs, rfl, h.1, h.2⟩
theorem AllT.nil {vs : List Value} {w : World} (h : AllT [] vs w) : vs = [] := by
  cases vs with
  | nil => rfl
  | cons v vs => exact h.elim
def putAll : List Oper → List Value → Act → Act
  | o :: os, v :: vs, a => putAll os vs (a.put o.dst v)
  | _, _, a => a

section
variable {P : Program} {md : Region.Mode} {ops : Array Oper} {a0 : Act} {w0 : World} {Ts : List Fact}
structure LocInv (P : Program) (md : Region.Mode) (ops : Array Oper) (a0 : Act) (w0 : World) (Ts : List Fact) (listed : Array Bool) (a : Act) (w : World) : Prop where
  later : Later w0 w
  defers : a.defers = a0.defers
  size : a.tmps.size = a0.tmps.size
  kept : ∀ s : Nat, (∀ (i : Nat) (o : Oper), ops[i]? = some o → listed.getD i false = true → o.dst ≠ some s) → a.tmps[s]? = a0.tmps[s]?
  val : ∀ (i : Nat) (o : Oper) (d : Nat), ops[i]? = some o → listed.getD i false = true → o.dst = some d → ∃ T, Ts[i]? = some T ∧ T (a.tmps.getD d undef) w
theorem steps_at : ∀ (os : List Oper) (l : List Fact), stepsOK P md ops a0 w0 Ts os l → ∀ (i : Nat) (o : Oper), os[i]? = some o → ∃ T : Fact, l[i]? = some T ∧ Step P md ops a0 w0 Ts o T
  | [], [], _, i, o, h => by simp at h
  | o' :: os, T :: l, h, 0, o, ho => by simp at ho; subst ho; exact ⟨T, rfl, h.1⟩
  | o' :: os, T :: l, h, i + 1, o, ho => by simp at ho; simpa using steps_at os l h.2 i o ho
  | [], _ :: _, h, _, _, _ => h.elim
  | _ :: _, [], h, _, _, _ => h.elim
structure LocOK (md : Region.Mode) (ops : Array Oper) (size : Nat) : Prop where
  dst : ∀ (i : Nat) (o : Oper), ops[i]? = some o → ∃ d : Nat, o.dst = some d ∧ d < size ∧ ∀ (j : Nat) (oj : Oper), ops[j]? = some oj → oj.dst = some d → j = i
  before : ∀ (i : Nat) (o : Oper), ops[i]? = some o → ∀ e ∈ o.after, Region.binds md e = true → e.on < i
  reads : ∀ (i : Nat) (o : Oper), ops[i]? = some o → ∀ s ∈ o.looksAt ops, (∃ k : Nat, srcOf md ops o s = some k) ∨ ∀ (k : Nat) (ok : Oper), ops[k]? = some ok → ok.dst = some s → ∃ e ∈ ok.after, Region.binds md e = true ∧ e.on = i
theorem locB_spec {size : Nat} (h : locB md ops size = true) : LocOK md ops size := by
  have at_ : ∀ (i : Nat) (o : Oper), ops[i]? = some o → _ := fun i o ho => by
    have h1 := List.all_eq_true.1 h i (List.mem_range.2 (Array.getElem?_eq_some_iff.1 ho).1)
    rw [ho] at h1
    simp only [Bool.and_eq_true] at h1
    exact h1
  refine ⟨fun i o ho => ?_, fun i o ho e he hb => ?_, fun i o ho s hs => ?_⟩
  · obtain ⟨⟨h1, _⟩, _⟩ := at_ i o ho
    cases hd : o.dst with
    | none => rw [hd] at h1; cases h1
    | some d =>
      rw [hd] at h1
      simp only [Bool.and_eq_true, decide_eq_true_eq] at h1
      refine ⟨d, rfl, h1.1, fun j oj hj hdj => ?_⟩
      have h2 := List.all_eq_true.1 h1.2 j (List.mem_range.2 (Array.getElem?_eq_some_iff.1 hj).1)
      rw [hj] at h2
      simp only [Option.bind_some, hdj, Bool.or_eq_true, beq_iff_eq, bne_self_eq_false] at h2
      rcases h2 with h2 | h2
      · exact h2
      · cases h2
  · obtain ⟨⟨_, h1⟩, _⟩ := at_ i o ho
    have h2 := List.all_eq_true.1 h1 e (Array.mem_toList_iff.2 he)
    rw [hb] at h2
    simpa using h2
  · obtain ⟨_, h1⟩ := at_ i o ho
    have h2 := List.all_eq_true.1 h1 s hs
    rw [Bool.or_eq_true] at h2
    rcases h2 with h2 | h2
    · exact .inl (Option.isSome_iff_exists.1 h2)
    · refine .inr fun k ok hk hdk => ?_
      have h3 := List.all_eq_true.1 h2 k (List.mem_range.2 (Array.getElem?_eq_some_iff.1 hk).1)
      rw [hk] at h3
      simp only [Option.bind_some, hdk, bne_self_eq_false, Bool.false_or, List.any_eq_true, Bool.and_eq_true, beq_iff_eq] at h3
      obtain ⟨e, he, hb, h4⟩ := h3
      exact ⟨e, Array.mem_toList_iff.1 he, hb, h4⟩
theorem srcOf_spec {o : Oper} {s k : Nat} (h : srcOf md ops o s = some k) : (∃ e ∈ o.after, Region.binds md e = true ∧ e.on = k) ∧ ∃ ok, ops[k]? = some ok ∧ ok.dst = some s := by
  unfold srcOf at h
  have h1 := List.find?_some h
  have h2 := List.mem_of_find?_eq_some h
  obtain ⟨e, he, hk⟩ := List.mem_map.1 h2
  obtain ⟨he1, he2⟩ := List.mem_filter.1 he
  refine ⟨⟨e, Array.mem_toList_iff.1 he1, he2, hk⟩, ?_⟩
  cases ho : ops[k]? with
  | none => rw [ho] at h1; simp at h1
  | some ok => rw [ho] at h1; exact ⟨ok, rfl, by simpa using h1⟩
theorem getD_lt {listed : Array Bool} {i : Nat} (h : i < listed.size) (d d' : Bool) : listed.getD i d = listed.getD i d' := by simp [h]
theorem getD_set_same {listed : Array Bool} {i : Nat} (h : i < listed.size) (d : Bool) : (listed.setIfInBounds i true).getD i d = true := by simp [h]
theorem knows_of {listed : Array Bool} {a : Act} {w : World} {i : Nat} {o : Oper} (hL : LocOK md ops a0.tmps.size) (hc : Closed md ops listed) (hI : LocInv P md ops a0 w0 Ts listed a w) (ho : ops[i]? = some o)
    (hun : listed.getD i false = false) (hall : ∀ e ∈ o.after, Region.binds md e = true → listed.getD e.on false = true) :
    ∀ l : List Nat, (∀ s ∈ l, s ∈ o.looksAt ops) → knows md ops a0 Ts o a w l
  | [], _ => trivial
  | s :: l, hs => by
    refine ⟨?_, knows_of hL hc hI ho hun hall l (fun x hx => hs x (List.mem_cons_of_mem _ hx))⟩
    cases h : srcOf md ops o s with
    | some k =>
      obtain ⟨⟨e, he, hb, hk⟩, ok, hok, hdk⟩ := srcOf_spec h
      obtain ⟨T, hT, hv⟩ := hI.val k ok s hok (hk ▸ hall e he hb) hdk
      simp only [hT]
      exact hv
    | none =>
      rcases hL.reads i o ho s (hs s (List.mem_cons_self ..)) with ⟨k, hk⟩ | hr
      · rw [hk] at h; cases h
      · have := hI.kept s (fun k ok hk hl hd => by
          obtain ⟨e, he, hb, hei⟩ := hr k ok hk hd
          have := hc k ok hk hl e he hb
          rw [hei, hun] at this
          cases this)
        simp only [Array.getD_eq_getD_getElem?, this]
theorem LocInv.put {listed : Array Bool} {a : Act} {w w' : World} {i : Nat} {o : Oper} {v : Value} {T : Fact} (hL : LocOK md ops a0.tmps.size) (hI : LocInv P md ops a0 w0 Ts listed a w) (ho : ops[i]? = some o) (hls : i < listed.size)
    (hTs : ∀ (j : Nat) (T : Fact), Ts[j]? = some T → ∀ v w w', T v w → Soft P w w' → T v w') (hT : Ts[i]? = some T) (hv : T v w') (hs : Soft P w w') (hl : Later w0 w') :
    LocInv P md ops a0 w0 Ts (listed.setIfInBounds i true) (a.put o.dst v) w' := by
  obtain ⟨d, hd, hds, huniq⟩ := hL.dst i o ho
  rw [hd]
  refine ⟨hl, hI.defers, by simp [Act.put, hI.size], fun s hs => ?_, fun j oj dj hj hlj hdj => ?_⟩
  · have hsd : d ≠ s := fun e => hs i o ho (getD_set_same hls _) (by rw [hd, e])
    simp only [Act.put, Array.getElem?_setIfInBounds, if_neg hsd]
    refine hI.kept s (fun k ok hk hlk hdk => ?_)
    exact hs k ok hk (getD_set_true hlk) hdk
  · by_cases hji : j = i
    · subst hji
      rw [ho] at hj
      cases hj
      rw [hd] at hdj
      cases hdj
      refine ⟨T, hT, ?_⟩
      simp only [Act.put, Array.getD_eq_getD_getElem?, Array.getElem?_setIfInBounds, if_pos, hI.size, if_pos hds, Option.getD_some]
      exact hv
    · have hne : d ≠ dj := fun e => hji (huniq j oj hj (by rw [hdj, e]))
      rw [getD_set_ne false (Ne.symm hji)] at hlj
      obtain ⟨T', hT', hv'⟩ := hI.val j oj dj hj hlj hdj
      refine ⟨T', hT', ?_⟩
      have e : (a.put (some d) v).tmps.getD dj undef = a.tmps.getD dj undef := by
        simp only [Act.put, Array.getD_eq_getD_getElem?, Array.getElem?_setIfInBounds, if_neg hne]
      rw [e]
      exact hTs j T' hT' _ _ _ hv' hs
def unl (listed : Array Bool) : Nat := listed.toList.countP fun b => !b
theorem unl_set {listed : Array Bool} {i : Nat} (h : i < listed.size) (hu : listed.getD i true = false) : unl (listed.setIfInBounds i true) + 1 = unl listed := by
  have e : listed[i] = false := by simpa [h] using hu
  have e' : listed.toList[i]'(by simpa using h) = false := by simpa using e
  unfold unl
  rw [Array.toList_setIfInBounds, List.countP_set (by simpa using h), e']
  have hp : 0 < listed.toList.countP (fun b => !b) := List.countP_pos_iff.2 ⟨false, by rw [← e']; exact List.getElem_mem _, rfl⟩
  show (listed.toList.countP (fun b => !b) - 1) + 0 + 1 = _
  omega
theorem unl_zero {listed : Array Bool} (h : unl listed = 0) (i : Nat) (d : Bool) (hi : i < listed.size) : listed.getD i d = true := by
  have h1 := List.countP_eq_zero.1 h (listed.toList[i]'(by simpa using hi)) (List.getElem_mem _)
  simpa [hi] using h1
/-- Where something is left something may come up. -/
theorem some_ready {listed : Array Bool} {size : Nat} (hL : LocOK md ops size) (hsz : listed.size = ops.size) : ∀ n i, i < n → i < ops.size → listed.getD i true = false → Region.ready md ops listed ≠ []
  | 0, i, hin, _, _ => absurd hin (by omega)
  | n + 1, i, hin, his, hu => by
    by_cases hb : ∀ e ∈ (ops[i]).after, Region.binds md e = true → listed.getD e.on false = true
    · have : i ∈ Region.ready md ops listed := mem_ready.2 ⟨hu, ops[i], by simp [his], hb⟩
      intro h
      rw [h] at this
      cases this
    · have : ∃ e, e ∈ (ops[i]).after ∧ Region.binds md e = true ∧ listed.getD e.on false = false := by
        apply Classical.byContradiction
        intro hn
        refine hb fun e he hbe => ?_
        cases hg : listed.getD e.on false with
        | true => rfl
        | false => exact absurd ⟨e, he, hbe, hg⟩ hn
      obtain ⟨e, he, hbe, hg⟩ := this
      have hlt := hL.before i ops[i] (by simp [his]) e he hbe
      exact some_ready hL hsz n e.on (by omega) (by omega) (by rw [getD_lt (by omega) true false]; exact hg)
theorem any_local {Q : Exit → Act → World → Prop} (hL : LocOK md ops a0.tmps.size) (hS : ∀ (i : Nat) (o : Oper), ops[i]? = some o → ∃ T : Fact, Ts[i]? = some T ∧ Step P md ops a0 w0 Ts o T) (hlen : Ts.length = ops.size)
    (hQ : ∀ listed a w, (∀ i, i < ops.size → listed.getD i false = true) → LocInv P md ops a0 w0 Ts listed a w → Q .normal a w) :
    ∀ (fuel : Nat) (listed : Array Bool) (a : Act) (w : World), listed.size = ops.size → unl listed = fuel → Closed md ops listed → LocInv P md ops a0 w0 Ts listed a w → wpAny P md ops Q fuel listed a w := by
  have hTs : ∀ (j : Nat) (T : Fact), Ts[j]? = some T → ∀ v w w', T v w → Soft P w w' → T v w' := fun j T hT => by
    have hj : j < ops.size := by rw [← hlen]; exact (List.getElem?_eq_some_iff.1 hT).1
    obtain ⟨T', hT', hs⟩ := hS j ops[j] (by simp [hj])
    rw [hT] at hT'
    cases hT'
    exact hs.1
  intro fuel
  induction fuel with
  | zero =>
    intro listed a w hsz hu hc hI
    have all : ∀ i d, i < ops.size → listed.getD i d = true := fun i d hi => unl_zero hu i d (by omega)
    refine ⟨?_, hQ listed a w (fun i hi => all i false hi) hI⟩
    apply List.eq_nil_iff_forall_not_mem.2
    intro i hi
    obtain ⟨h1, o, ho, _⟩ := mem_ready.1 hi
    rw [all i true (Array.getElem?_eq_some_iff.1 ho).1] at h1
    cases h1
  | succ fuel ih =>
    intro listed a w hsz hu hc hI
    refine ⟨fun h0 => ?_, fun i hi => ?_⟩
    · exfalso
      have : ∃ i, i < listed.size ∧ listed.getD i true = false := by
        have hp : 0 < listed.toList.countP (fun b => !b) := by show 0 < unl listed; omega
        obtain ⟨b, hb, hnb⟩ := List.countP_pos_iff.1 hp
        obtain ⟨i, hi, hib⟩ := List.getElem_of_mem hb
        refine ⟨i, by simpa using hi, ?_⟩
        have hi' : i < listed.size := by simpa using hi
        have : listed[i] = b := by simpa using hib
        simp [hi', this]
        simpa using hnb
      obtain ⟨i, hi, hui⟩ := this
      exact some_ready hL hsz (i + 1) i (by omega) (by omega) hui h0
    · obtain ⟨hui, o, ho, hall⟩ := mem_ready.1 hi
      have his : i < ops.size := (Array.getElem?_eq_some_iff.1 ho).1
      have hil : i < listed.size := by omega
      obtain ⟨T, hT, hsoft, hst⟩ := hS i o ho
      have hk := knows_of hL hc hI ho (by rw [getD_lt hil false true]; exact hui) hall (o.looksAt ops) (fun s hs => hs)
      have h := hst a w hI.later hk
      have hnext : ∀ v w', T v w' → Soft P w w' → Later w0 w' → wpAny P md ops Q fuel (listed.setIfInBounds i true) (a.put o.dst v) w' := fun v w' hv hs hl =>
        ih _ _ _ (by simpa using hsz) (by have := unl_set hil hui; omega) (hc.set hi) (hI.put hL ho hil hTs hT hv hs hl)
      unfold wpOp
      rw [ho]
      simp only
      by_cases hw : Region.wanted o (yielded ops a.tmps) = true
      · rw [if_pos hw] at h ⊢
        refine .inl ?_
        unfold Oper.wp
        rcases h with ⟨v, w', hr, hs, hl, hv⟩ | ⟨f, args, hr, hcall⟩
        · rw [hr]
          exact hnext v w' hv hs hl
        · rw [hr]
          refine Calls.mono hcall fun e w' ⟨v, he, hk, hv⟩ => ?_
          subst he
          exact hnext v w' hv (Soft.of_keeps hk) ⟨hI.later.out.trans hk⟩
      · rw [if_neg hw] at h ⊢
        exact hnext undef w h (Soft.of_keeps (Keeps.refl _ _)) hI.later
theorem LocInv.begin (P : Program) (md : Region.Mode) (ops : Array Oper) (a0 : Act) (w0 w : World) (Ts : List Fact) (h : Later w0 w) : LocInv P md ops a0 w0 Ts (Array.replicate ops.size false) a0 w := by
  have no : ∀ i, (Array.replicate ops.size false).getD i false = true → False := fun i h => by
    rw [Array.getD_eq_getD_getElem?, Array.getElem?_replicate] at h
    split at h <;> cases h
  exact ⟨h, rfl, rfl, fun _ _ => rfl, fun i _ _ _ hi _ => (no i hi).elim⟩
theorem unl_new (n : Nat) : unl (Array.replicate n false) = n := by
  unfold unl
  rw [Array.toList_replicate, List.countP_replicate]
  simp
/-- All that was put, in the text's order. -/
theorem putAll_spec : ∀ (os : List Oper) (vs : List Value) (a : Act), os.length = vs.length → (∀ (i : Nat) (o : Oper), os[i]? = some o → ∃ d, o.dst = some d ∧ d < a.tmps.size ∧ ∀ (j : Nat) (oj : Oper), os[j]? = some oj → oj.dst = some d → j = i) →
    (putAll os vs a).defers = a.defers ∧ (putAll os vs a).tmps.size = a.tmps.size ∧ (∀ s : Nat, (∀ (i : Nat) (o : Oper), os[i]? = some o → o.dst ≠ some s) → (putAll os vs a).tmps[s]? = a.tmps[s]?) ∧
    (∀ (i : Nat) (o : Oper) (v : Value) (d : Nat), os[i]? = some o → vs[i]? = some v → o.dst = some d → (putAll os vs a).tmps[d]? = some v)
  | [], [], a, _, _ => ⟨rfl, rfl, fun _ _ => rfl, fun i _ _ _ h => by simp at h⟩
  | o :: os, v :: vs, a, hl, hd => by
    obtain ⟨d, hd0, hds, hu⟩ := hd 0 o rfl
    have hd' : ∀ (i : Nat) (o' : Oper), os[i]? = some o' → ∃ d : Nat, o'.dst = some d ∧ d < (a.put o.dst v).tmps.size ∧ ∀ (j : Nat) (oj : Oper), os[j]? = some oj → oj.dst = some d → j = i := fun i o' ho' => by
      obtain ⟨d', h1, h2, h3⟩ := hd (i + 1) o' (by simpa using ho')
      refine ⟨d', h1, by rw [hd0]; simpa [Act.put] using h2, fun j oj hj hdj => ?_⟩
      have := h3 (j + 1) oj (by simpa using hj) hdj
      omega
    obtain ⟨h1, h2, h3, h4⟩ := putAll_spec os vs (a.put o.dst v) (by simpa using hl) hd'
    rw [putAll]
    refine ⟨by rw [h1, hd0]; rfl, by rw [h2, hd0]; simp [Act.put], fun s hs => ?_, fun i o' v' d' ho' hv' hd'' => ?_⟩
    · rw [h3 s (fun i o' ho' => hs (i + 1) o' (by simpa using ho')), hd0]
      simp only [Act.put, Array.getElem?_setIfInBounds]
      rw [if_neg (fun e => hs 0 o rfl (by rw [hd0, e]))]
    · cases i with
      | zero =>
        simp at ho' hv'
        subst ho' hv'
        rw [hd0] at hd''
        cases hd''
        rw [h3 d (fun i o' ho' hdo => by have := hu (i + 1) o' (by simpa using ho') hdo; omega), hd0]
        simp [Act.put, hds]
      | succ i => exact h4 i o' v' d' (by simpa using ho') (by simpa using hv') hd''
  | [], _ :: _, _, h, _ => by simp at h
  | _ :: _, [], _, h, _ => by simp at h
theorem AllT.of : ∀ (l : List Fact) (vs : List Value) (w : World), l.length = vs.length → (∀ (i : Nat) (T : Fact) (v : Value), l[i]? = some T → vs[i]? = some v → T v w) → AllT l vs w
  | [], [], _, _, _ => trivial
  | T :: l, v :: vs, w, hl, h => ⟨h 0 T v rfl rfl, AllT.of l vs w (by simpa using hl) (fun i T' v' h1 h2 => h (i + 1) T' v' (by simpa using h1) (by simpa using h2))⟩
  | [], _ :: _, _, h, _ => by simp at h
  | _ :: _, [], _, h, _ => by simp at h
end
theorem wp_region_local {P : Program} {id : Nat} {Q : Exit → Act → World → Prop} {a : Act} {w : World} {l : List Oper} (Ts : List Fact) (hm : P.follows .mixedOrders = true) (hB : (locB .any l.toArray a.tmps.size && Ts.length == l.length) = true)
    (hS : stepsOK P .any l.toArray a w Ts l Ts) (hQ : ∀ vs w', AllT Ts vs w' → Later w w' → Q .normal (putAll l vs a) w') : (Code.region id l.toArray true).wp P Q a w := by
  rw [Bool.and_eq_true, beq_iff_eq] at hB
  have hL := locB_spec hB.1
  have hS' := steps_at l Ts hS
  refine wp_region_any hm ?_
  refine any_local (Ts := Ts) (a0 := a) (w0 := w) hL (fun i o ho => hS' i o (by simpa using ho)) (by simpa using hB.2) ?_ _ _ _ _ (by simp) (by rw [unl_new]) (closed_new _) (LocInv.begin P .any l.toArray a w _ Ts ⟨(Keeps.refl _ _).drew⟩)
  intro listed a' w' hall hI
  obtain ⟨vs, hvs⟩ : ∃ vs, l.map (fun o => a'.tmps.getD (o.dst.getD 0) undef) = vs := ⟨_, rfl⟩
  have hvl : l.length = vs.length := by rw [← hvs, List.length_map]
  have hd : ∀ (i : Nat) (o : Oper), l[i]? = some o → ∃ d : Nat, o.dst = some d ∧ d < a.tmps.size ∧ ∀ (j : Nat) (oj : Oper), l[j]? = some oj → oj.dst = some d → j = i := fun i o ho => by
    obtain ⟨d, h1, h2, h3⟩ := hL.dst i o (by simpa using ho)
    exact ⟨d, h1, h2, fun j oj hj => h3 j oj (by simpa using hj)⟩
  have hv : ∀ (i : Nat) (o : Oper) (v : Value) (d : Nat), l[i]? = some o → vs[i]? = some v → o.dst = some d → v = a'.tmps.getD d undef := fun i o v d ho hv' hdo => by
    rw [← hvs, List.getElem?_map, ho, Option.map_some, hdo, Option.getD_some] at hv'
    exact (Option.some.inj hv').symm
  obtain ⟨p1, p2, p3, p4⟩ := putAll_spec l vs a hvl hd
  have e : a' = putAll l vs a := by
    have ht : a'.tmps = (putAll l vs a).tmps := by
      apply Array.ext_getElem?
      intro s
      by_cases hs : ∃ (i : Nat) (o : Oper), l[i]? = some o ∧ o.dst = some s
      · obtain ⟨i, o, ho, hds⟩ := hs
        have hi := (List.getElem?_eq_some_iff.1 ho).1
        obtain ⟨v, hvi⟩ : ∃ v, vs[i]? = some v := ⟨_, List.getElem?_eq_getElem (by omega)⟩
        rw [p4 i o v s ho hvi hds, hv i o v s ho hvi hds]
        obtain ⟨d, h1, h2, _⟩ := hd i o ho
        rw [hds] at h1
        cases h1
        have : s < a'.tmps.size := by rw [hI.size]; exact h2
        simp [this]
      · have hno : ∀ (i : Nat) (o : Oper), l[i]? = some o → o.dst ≠ some s := fun i o ho hds => hs ⟨i, o, ho, hds⟩
        rw [p3 s hno]
        exact hI.kept s (fun i o ho _ => hno i o (by simpa using ho))
    cases a'
    simp only at ht
    have hdf := hI.defers
    simp only at hdf
    subst ht
    rw [← p1] at hdf
    rw [hdf]
  rw [e]
  refine hQ vs w' (AllT.of Ts vs w' (by rw [hB.2, hvl]) fun i T v hT hvi => ?_) hI.later
  have hi : i < l.length := by rw [← hB.2]; exact (List.getElem?_eq_some_iff.1 hT).1
  obtain ⟨d, h1, _, _⟩ := hd i l[i] (by simp [hi])
  obtain ⟨T', hT', hval⟩ := hI.val i l[i] d (by simp [hi]) (hall i (by simpa using hi)) h1
  rw [hT] at hT'
  cases hT'
  rw [hv i l[i] v d (by simp [hi]) hvi h1]
  exact hval
/-! ### The steps -/
section
variable {P : Program} {md : Region.Mode} {ops : Array Oper} {a0 : Act} {w0 : World} {Ts : List Fact} {o : Oper}
theorem wanted_none (h : o.guard = none) (f : Nat → Option Bool) : Region.wanted o f = true := by unfold Region.wanted; rw [h]
theorem wanted_some {j s : Nat} {want b : Bool} {a : Act} (h : o.guard = some (j, want)) (hd : (ops[j]?).bind (·.dst) = some s) (ha : a.tmps.getD s undef = .bool b) : Region.wanted o (yielded ops a.tmps) = (b == want) := by
  have e : a.tmps[s]? = some (.bool b) := by
    rw [Array.getD_eq_getD_getElem?] at ha
    cases h1 : a.tmps[s]? with
    | none => rw [h1] at ha; cases ha
    | some v => rw [h1] at ha; exact congrArg some ha
  unfold Region.wanted yielded
  rw [h]
  simp only [hd, Option.bind_some, e]
  rfl
/-- One value. -/
theorem Step.value (c : Value) (hrun : ∀ a w, Later w0 w → knows md ops a0 Ts o a w (o.looksAt ops) → Region.wanted o (yielded ops a.tmps) = true ∧ (execOp a.eval o).run P w = .ok (.value c) w) : Step P md ops a0 w0 Ts o (fun v _ => v = c) := by
  refine ⟨fun _ _ _ h _ => h, fun a w hl hk => ?_⟩
  obtain ⟨h1, h2⟩ := hrun a w hl hk
  rw [if_pos h1]
  exact .inl ⟨c, w, h2, Soft.of_keeps (Keeps.refl _ _), hl, rfl⟩
/-- It isn't wanted. -/
theorem Step.skip (hrun : ∀ a w, Later w0 w → knows md ops a0 Ts o a w (o.looksAt ops) → Region.wanted o (yielded ops a.tmps) = false) : Step P md ops a0 w0 Ts o (fun v _ => v = undef) := by
  refine ⟨fun _ _ _ h _ => h, fun a w hl hk => ?_⟩
  rw [if_neg (by rw [hrun a w hl hk]; decide)]
/-- A call that makes new memory alone, and answers one value. -/
theorem Step.call (c : Value) (f : FuncId) (hrun : ∀ a w, Later w0 w → knows md ops a0 Ts o a w (o.looksAt ops) → Region.wanted o (yielded ops a.tmps) = true ∧ ∃ args, (execOp a.eval o).run P w = .ok (.enter f args) w ∧ Calls P f args w (fun e w' => e = .returned c ∧ Keeps (fun _ => False) w w')) :
    Step P md ops a0 w0 Ts o (fun v _ => v = c) := by
  refine ⟨fun _ _ _ h _ => h, fun a w hl hk => ?_⟩
  obtain ⟨h1, args, h2, h3⟩ := hrun a w hl hk
  rw [if_pos h1]
  exact .inr ⟨f, args, h2, h3.mono fun e w' ⟨he, hk⟩ => ⟨c, he, hk, rfl⟩⟩
/-- A call that makes new memory alone; what it answers is told by a fact. -/
theorem Step.callT {T : Fact} (hT : ∀ v w w', T v w → Soft P w w' → T v w') (f : FuncId) (hrun : ∀ a w, Later w0 w → knows md ops a0 Ts o a w (o.looksAt ops) → Region.wanted o (yielded ops a.tmps) = true ∧ ∃ args, (execOp a.eval o).run P w = .ok (.enter f args) w ∧ Calls P f args w (fun e w' => ∃ v, e = .returned v ∧ Keeps (fun _ => False) w w' ∧ T v w')) :
    Step P md ops a0 w0 Ts o T := by
  refine ⟨hT, fun a w hl hk => ?_⟩
  obtain ⟨h1, args, h2, h3⟩ := hrun a w hl hk
  rw [if_pos h1]
  exact .inr ⟨f, args, h2, h3⟩
/-- New memory. -/
theorem Step.loose {T : Fact} (hT : ∀ v w w', T v w → Soft P w w' → T v w') (hrun : ∀ a w, Later w0 w → knows md ops a0 Ts o a w (o.looksAt ops) → Region.wanted o (yielded ops a.tmps) = true ∧ ∃ v w', (execOp a.eval o).run P w = .ok (.value v) w' ∧ Soft P w w' ∧ Later w0 w' ∧ T v w') :
    Step P md ops a0 w0 Ts o T := by
  refine ⟨hT, fun a w hl hk => ?_⟩
  obtain ⟨h1, h2⟩ := hrun a w hl hk
  rw [if_pos h1]
  exact .inl h2
/-- A slice of the region's own making. -/
def MadeS (w0 : World) (t : TypeId) (C : Array Value) (n : Nat) (v : Value) (w : World) : Prop := ∃ g, v = .slice (some ⟨g, 0, none⟩) n n ∧ w0.heap.size ≤ g ∧ ∃ fr, w.heap[g]? = some (.cells C t fr)
theorem MadeS.soft {w w' : World} {t : TypeId} {C : Array Value} {n : Nat} {v : Value} (h : MadeS w0 t C n v w) (hs : Soft P w w') : MadeS w0 t C n v w' := by
  obtain ⟨g, hv, h0, fr, h2⟩ := h
  obtain ⟨fr', h3, _⟩ := hs.block g C t fr h2
  exact ⟨g, hv, h0, fr', h3⟩
theorem made_one (t e : TypeId) (x : Operand) (u : Value) {a : Act} {w : World} (ho : o.op = .buildSlice t 1 #[(0, x)]) (hx : a.eval x = u) (hl : Later w0 w) (hrun : ∀ w, (Instr.buildSlice t 1 #[(0, u)]).run P w = .ok (.slice (some ⟨w.heap.size, 0, none⟩) 1 1) (w.alloc (.cells #[u] e))) :
    ∃ v w', (execOp a.eval o).run P w = .ok (.value v) w' ∧ Soft P w w' ∧ Later w0 w' ∧ MadeS w0 e #[u] 1 v w' := by
  obtain ⟨v, w', h1, h2, h3, _, h5⟩ := (loose_build (F := Later w0) t e x u ho hx (fun _ h => h) hrun).2 w hl
  obtain ⟨g, fr, h6, h7, h8⟩ := h5
  exact ⟨v, w', h1, h2, h3, g, h7, h6, fr, h8⟩
end
end Go.Proofs.Ytfacjpdceennhaa
