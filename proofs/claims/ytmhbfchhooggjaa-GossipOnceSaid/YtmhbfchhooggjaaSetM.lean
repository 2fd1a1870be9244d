/-
  A map of keys (rows of cells) to nothing: what is in it, looked up, put in. No number of any translation stands here.
-/
import Derived.Test.YtmhbfchhooggjaaRowB
import Derived.Test.YtmhbfchhooggjaaRows
import Derived.Test.YtmhbfchhooggjaaWalkT
import Derived.MapKept
import Derived.Carry
import Derived.WideKeyRuns
import Derived.ChangeMaps4
namespace Go.Proofs.Ytmhbfchhooggjaa
open Go.RowKit Go.BigFrame
set_option linter.unusedVariables false
set_option linter.unusedSimpArgs false

def kval {α : Type} (enc : α → List Value) (a : α) : Value := .agg (enc a).toArray
/-- What is asked of a map's type, and its keys'. -/
structure KeyT {α : Type} [DecidableEq α] (enc : α → List Value) (ok : α → Prop) (T M E : TypeId) : Prop where
  inj : ∀ a b : α, enc a = enc b → a = b
  ints : ∀ (a : α), ∀ u ∈ enc a, ∃ (q : IntKind) (x : Int), u = .int q x
  eq : ∀ (a b : α) (V : World), ok a → ok b → (Op.equal T (kval enc a) (kval enc b)).run Try.prog V = .ok (decide (a = b)) V
  check : ∀ (em : Bool) (a : α) (V : World), ok a → (Instr.checkKey em 10000 T (kval enc a)).run Try.prog V = .ok () V
  wide : (match Try.prog.underlying T with | some (.array _ _) | some (.struct _) => true | _ => false) = true
  und : Try.prog.underlying M = some (.map T E)
  zero : ∀ V : World, (zeroValue E).run Try.prog V = .ok (.agg #[]) V
/-- Block b is a map of just these, to nothing. -/
def SMap {α : Type} (enc : α → List Value) (ok : α → Prop) (w : World) (b : Nat) (l : List α) : Prop :=
  ∃ (es : Array MapEntry) (clock : Nat), w.heap[b]? = some (.map es clock) ∧ (∀ e ∈ es.toList, ∃ q ∈ l, ok q ∧ e.key = kval enc q ∧ e.val = .agg #[]) ∧ ∀ q ∈ l, ∃ e ∈ es.toList, e.key = kval enc q
section
variable {α : Type} {enc : α → List Value} {ok : α → Prop} {w w' : World} {b : Nat} {l : List α}
theorem SMap.lt (h : SMap enc ok w b l) : b < w.heap.size := by
  obtain ⟨es, clock, h, _⟩ := h
  exact (Array.getElem?_eq_some_iff.1 h).1
theorem SMap.keeps {S : Nat → Prop} (h : SMap enc ok w b l) (hk : Keeps S w w') (hs : ¬ S b) : SMap enc ok w' b l := by
  have hlt := h.lt
  obtain ⟨es, clock, h1, h2, h3⟩ := h
  exact ⟨es, clock, (hk.block b hlt hs).trans h1, h2, h3⟩
theorem SMap.made (enc : α → List Value) (ok : α → Prop) (w : World) : SMap enc ok (w.alloc (.map #[] 0)) w.heap.size [] := ⟨#[], 0, heap_alloc_new w _, fun _ h => (by cases h), fun _ h => (by cases h)⟩
theorem smap_turn {es es' : Array MapEntry} {clock clock' : Nat} {l' : List α} (hb : w.heap[b]? = some (.map es clock)) (h2 : ∀ e ∈ es'.toList, ∃ q ∈ l', ok q ∧ e.key = kval enc q ∧ e.val = .agg #[]) (h3 : ∀ q ∈ l', ∃ e ∈ es'.toList, e.key = kval enc q) :
    SMap enc ok { w with heap := w.heap.setIfInBounds b (.map es' clock') } b l' ∧ Keeps (fun k => k = b) w { w with heap := w.heap.setIfInBounds b (.map es' clock') } := by
  have hlt := (Array.getElem?_eq_some_iff.1 hb).1
  refine ⟨⟨es', clock', by simp [hlt], h2, h3⟩, rfl, rfl, rfl, by simp, fun k _ hs => ?_⟩
  have hs' : b ≠ k := fun e => hs e.symm
  simp [hs']
end
section
variable {α : Type} [DecidableEq α] {enc : α → List Value} {ok : α → Prop} {T M E : TypeId} {w w' : World} {b : Nat} {l : List α}
theorem kval_inj (K : KeyT enc ok T M E) {a b : α} (h : kval enc a = kval enc b) : a = b := by
  unfold kval at h
  injection h with h
  exact K.inj a b (by simpa using h)
theorem KeyT.find (K : KeyT enc ok T M E) (es : List MapEntry) (hes : ∀ e ∈ es, ∃ q, ok q ∧ e.key = kval enc q ∧ e.val = .agg #[]) (k : α) (hk : ok k) (V : World) :
    ((Instr.findKey T (kval enc k) es).run Try.prog V = .ok none V ∧ ∀ e ∈ es, e.key ≠ kval enc k) ∨
    ∃ j e, (Instr.findKey T (kval enc k) es).run Try.prog V = .ok (some (j, .agg #[])) V ∧ es[j]? = some e ∧ e.key = kval enc k ∧ e.val = .agg #[] := by
  have gen : ∀ (L : List MapEntry), (∀ e ∈ L, ∃ q, ok q ∧ e.key = kval enc q ∧ e.val = .agg #[]) → ∀ i,
      ((Instr.findAsking T (kval enc k) L i).run Try.prog V = .ok none V ∧ ∀ e ∈ L, e.key ≠ kval enc k) ∨
      ∃ j e, (Instr.findAsking T (kval enc k) L i).run Try.prog V = .ok (some (i + j, .agg #[])) V ∧ L[j]? = some e ∧ e.key = kval enc k ∧ e.val = .agg #[] := by
    intro L
    induction L with
    | nil => intro _ i; exact .inl ⟨by simp [Instr.findAsking], fun _ h => (by cases h)⟩
    | cons e L ih =>
      intro hall i
      obtain ⟨q, hq, hqk, hqv⟩ := hall e (by simp)
      have hr : (Op.equal T (kval enc k) e.key).run Try.prog V = .ok (decide (k = q)) V := by rw [hqk]; exact K.eq k q V hk hq
      by_cases hkq : k = q
      · rw [decide_eq_true hkq] at hr
        refine .inr ⟨0, e, ?_, rfl, by rw [hqk, ← hkq], hqv⟩
        simp [Instr.findAsking, hr, hqv]
      · rw [decide_eq_false hkq] at hr
        have hne : e.key ≠ kval enc k := fun e1 => hkq (kval_inj K (by rw [← hqk, e1]))
        rcases ih (fun y hy => hall y (by simp [hy])) (i + 1) with ⟨h1, h2⟩ | ⟨j, e', h1, h2, h3, h4⟩
        · left
          refine ⟨by simp [Instr.findAsking, hr, h1], fun y hy => ?_⟩
          rcases List.mem_cons.1 hy with rfl | hy
          · exact hne
          · exact h2 y hy
        · right
          exact ⟨j + 1, e', by simp [Instr.findAsking, hr, h1, Nat.add_assoc, Nat.add_comm 1 j], by simpa using h2, h3, h4⟩
  rw [run_findKey_eq V K.wide]
  rcases gen es hes 0 with ⟨h1, h2⟩ | ⟨j, e, h1, h2, h3, h4⟩
  · exact .inl ⟨h1, h2⟩
  · exact .inr ⟨j, e, by simpa using h1, h2, h3, h4⟩
theorem KeyT.stays (K : KeyT enc ok T M E) (k : α) (V : World) : (Instr.keyThatStays (kval enc k) (kval enc k)).run Try.prog V = .ok (kval enc k) V := by
  have hs : Instr.sameBits 10000 (kval enc k) (kval enc k) = true := by
    show Instr.sameBits (9999 + 1) (.agg _) (.agg _) = true
    simp only [Instr.sameBits, beq_self_eq_true, Bool.true_and, List.all_eq_true]
    intro p hp
    obtain ⟨i, hi, e⟩ := List.getElem_of_mem hp
    rw [List.getElem_zip] at e
    rw [← e]
    have hu := List.getElem_mem (l := enc k) (by simpa using hi)
    simp only
    obtain ⟨q, x, e2⟩ := K.ints k _ hu
    have e3 : (enc k).toArray.toList[i]'(by simpa using hi) = .int q x := e2
    rw [e3]
    simp [Instr.sameBits]
  simp [Instr.keyThatStays, hs]
theorem SMap.look (K : KeyT enc ok T M E) (h : SMap enc ok w b l) (k : α) (hk : ok k) :
    (Instr.lookup M (.map (some b)) (kval enc k) true).run Try.prog w = .ok (.tuple #[.agg #[], .bool (decide (k ∈ l))]) w := by
  obtain ⟨es, clock, h1, h2, h3⟩ := h
  rcases K.find es.toList (fun e he => by obtain ⟨q, _, h⟩ := h2 e he; exact ⟨q, h⟩) k hk w with ⟨g1, g2⟩ | ⟨j, e, g1, g2, g3, g4⟩
  · have hn : decide (k ∈ l) = false := decide_eq_false (fun hm => by obtain ⟨e, he, e1⟩ := h3 k hm; exact g2 e he e1)
    rw [hn]
    have hz := K.zero w
    simp [Instr.lookup, run_underlying K.und, MapKept.run_getObj_map h1, K.check _ k _ hk, g1, Result.andThen, hz]
  · have hn : decide (k ∈ l) = true := decide_eq_true (by
      obtain ⟨q, hq, _, e1, _⟩ := h2 e (List.mem_of_getElem? g2)
      rw [g3] at e1
      rw [kval_inj K e1]
      exact hq)
    rw [hn]
    simp [Instr.lookup, run_underlying K.und, MapKept.run_getObj_map h1, K.check _ k _ hk, g1, Result.andThen]
theorem SMap.store (K : KeyT enc ok T M E) (h : SMap enc ok w b l) (k : α) (hk : ok k) :
    ∃ w', (Instr.mapUpdate M (.map (some b)) (kval enc k) (.agg #[])).run Try.prog w = .ok () w' ∧ SMap enc ok w' b (l ++ [k]) ∧ Keeps (fun j => j = b) w w' := by
  obtain ⟨es, clock, h1, h2, h3⟩ := h
  rcases K.find es.toList (fun e he => by obtain ⟨q, _, h⟩ := h2 e he; exact ⟨q, h⟩) k hk w with ⟨g1, g2⟩ | ⟨j, e, g1, g2, g3, g4⟩
  · refine ⟨_, ?_, smap_turn (es' := es.push { key := kval enc k, val := .agg #[], born := clock }) (clock' := clock + 1) h1 ?_ ?_⟩
    · simp [Instr.mapUpdate, run_underlying K.und, MapKept.run_getObj_map h1, K.check _ k _ hk, g1, MapKept.run_setObj_map _ h1, Result.andThen]
    · intro x hx
      rw [Array.toList_push, List.mem_append, List.mem_singleton] at hx
      rcases hx with hx | rfl
      · obtain ⟨q, hq, h⟩ := h2 x hx
        exact ⟨q, by simp [hq], h⟩
      · exact ⟨k, by simp, hk, rfl, rfl⟩
    · intro q hq
      rw [List.mem_append, List.mem_singleton] at hq
      rcases hq with hq | rfl
      · obtain ⟨e, he, h⟩ := h3 q hq
        exact ⟨e, by rw [Array.toList_push]; simp [he], h⟩
      · exact ⟨_, by rw [Array.toList_push]; exact List.mem_append_right _ (List.mem_singleton.2 rfl), rfl⟩
  · obtain ⟨hj, hje⟩ := List.getElem?_eq_some_iff.1 g2
    have hp : es[j]? = some e := by simpa using g2
    have e1 : (es.modify j fun e => { e with key := kval enc k, val := .agg #[] }).toList = es.toList := by
      apply List.ext_getElem?
      intro i
      rw [Array.getElem?_toList, Array.getElem?_modify, Array.getElem?_toList]
      by_cases hji : j = i
      · subst hji
        rw [if_pos rfl, hp]
        obtain ⟨a1, a2, a3⟩ := e
        simp only at g3 g4
        subst g3 g4
        rfl
      · rw [if_neg hji]
    refine ⟨_, ?_, smap_turn (es' := es.modify j fun e => { e with key := kval enc k, val := .agg #[] }) (clock' := clock) h1 ?_ ?_⟩
    · have hst : (Instr.keyThatStays (((es[j]?).map (·.key)).getD (kval enc k)) (kval enc k)).run Try.prog w = .ok (kval enc k) w := by
        rw [hp]
        simp only [Option.map_some, Option.getD_some, g3]
        exact K.stays k w
      simp [Instr.mapUpdate, run_underlying K.und, MapKept.run_getObj_map h1, K.check _ k _ hk, g1, Result.andThen]
      rw [hst]
      simp [MapKept.run_setObj_map _ h1]
    · rw [e1]
      intro x hx
      obtain ⟨q, hq, h⟩ := h2 x hx
      exact ⟨q, by simp [hq], h⟩
    · rw [e1]
      intro q hq
      rw [List.mem_append, List.mem_singleton] at hq
      rcases hq with hq | rfl
      · exact h3 q hq
      · exact ⟨e, List.mem_of_getElem? g2, g3⟩
theorem wpList_slook (K : KeyT enc ok T M E) {ops : Array Oper} {rest : List Oper} {o : Oper} {a : Act} {Q : Exit → Act → World → Prop} (hg : o.guard = none) (m x : Operand) (hop : o.op = Op.lookup M m x true) (b : Nat) (l : List α) (k : α) (hk : ok k)
    (hm : a.eval m = .map (some b)) (KX : Array Value) (hx : a.eval x = .agg KX) (hkx : (enc k).toArray = KX) (r : Bool) (hr : r = true ↔ k ∈ l) (h : SMap enc ok w b l)
    (hK : wpList Try.prog ops Q rest (a.put o.dst (.tuple #[.agg #[], .bool r])) w) : wpList Try.prog ops Q (o :: rest) a w := by
  refine wpList_plain hg fun K' hK' => ?_
  have hrun := h.look K k hk
  have hr' : decide (k ∈ l) = r := by rw [Bool.eq_iff_iff, decide_eq_true_iff, hr]
  rw [show kval enc k = .agg KX by rw [← hkx]; rfl, hr'] at hrun
  unfold Oper.wp
  simp [execOp, hop, hm, hx, hrun, Result.andThen]
  exact hK' _ _ hK
theorem wpList_sstore (K : KeyT enc ok T M E) {ops : Array Oper} {rest : List Oper} {o : Oper} {a : Act} {Q : Exit → Act → World → Prop} (hg : o.guard = none) (m x v : Operand) (hop : o.op = Op.mapUpdate M m x v) (b : Nat) (l : List α) (k : α) (hk : ok k)
    (hm : a.eval m = .map (some b)) (KX : Array Value) (hx : a.eval x = .agg KX) (hv : a.eval v = .agg #[]) (hkx : (enc k).toArray = KX) (h : SMap enc ok w b l)
    (hK : ∀ w', SMap enc ok w' b (l ++ [k]) → Keeps (fun j => j = b) w w' → wpList Try.prog ops Q rest (a.put o.dst undef) w') : wpList Try.prog ops Q (o :: rest) a w := by
  refine wpList_plain hg fun K' hK' => ?_
  obtain ⟨w', hrun, r1, r2⟩ := h.store K k hk
  rw [show kval enc k = .agg KX by rw [← hkx]; rfl] at hrun
  unfold Oper.wp
  simp [execOp, hop, hm, hx, hv, hrun, Result.andThen]
  exact hK' _ _ (hK w' r1 r2)
end
end Go.Proofs.Ytmhbfchhooggjaa
