/-
  Maps that are keyed by integers, as functions: looked up, stored to, deleted from. No number of any translation stands here.
-/
import Derived.Test.YtmhbfchhooggjaaRowB
import Derived.Test.YtmhbfchhooggjaaWalkT
import Derived.MapKept
import Derived.Carry
namespace Go.Proofs.Ytmhbfchhooggjaa
open Go.RowKit Go.BigFrame
set_option linter.unusedVariables false

/-- These entries are the map f. -/
def Ents : List MapEntry → (Int → Option Value) → Prop
  | [], f => ∀ i, f i = none
  | e :: es, f => ∃ i f', e.key = .int .i64 i ∧ Ents es f' ∧ f' i = none ∧ ∀ j, f j = if j = i then some e.val else f' j
def upd (f : Int → Option Value) (k : Int) (v : Option Value) : Int → Option Value := fun j => if j = k then v else f j
theorem upd_same (f : Int → Option Value) (k : Int) (v : Option Value) : upd f k v k = v := if_pos rfl
theorem upd_other (f : Int → Option Value) {k j : Int} (v : Option Value) (h : j ≠ k) : upd f k v j = f j := if_neg h
theorem Ents.ext : ∀ {l : List MapEntry} {f g : Int → Option Value}, Ents l f → (∀ j, g j = f j) → Ents l g
  | [], f, g, h, he => fun i => (he i).trans (h i)
  | e :: es, f, g, ⟨i, f', h1, h2, h3, h4⟩, he => ⟨i, f', h1, h2, h3, fun j => (he j).trans (h4 j)⟩
theorem Ents.push : ∀ {l : List MapEntry} {f : Int → Option Value} {k : Int} {e : MapEntry}, Ents l f → f k = none → e.key = .int .i64 k → Ents (l ++ [e]) (upd f k (some e.val))
  | [], f, k, e, h, hk, he => ⟨k, f, he, h, hk, fun j => rfl⟩
  | x :: es, f, k, e, ⟨i, f', h1, h2, h3, h4⟩, hk, he => by
    have hik : k ≠ i := by
      rintro rfl
      rw [h4, if_pos rfl] at hk
      cases hk
    have hk' : f' k = none := by rw [h4, if_neg hik] at hk; exact hk
    refine ⟨i, upd f' k (some e.val), h1, h2.push hk' he, by rw [upd_other _ _ (Ne.symm hik)]; exact h3, fun j => ?_⟩
    unfold upd
    rw [h4]
    split
    · rename_i hj; subst hj; rw [if_neg hik]
    · rfl
theorem Ents.find : ∀ {l : List MapEntry} {f : Int → Option Value}, Ents l f → ∀ (k : Int) (n : Nat),
    (f k = none ∧ Instr.findNow (.int .i64) (.int .i64 k) l n = some none) ∨
    ∃ p v e, Instr.findNow (.int .i64) (.int .i64 k) l n = some (some (n + p, v)) ∧ f k = some v ∧ l[p]? = some e ∧ e.key = .int .i64 k ∧ Ents (l.eraseIdx p) (upd f k none) ∧ ∀ e', e'.key = .int .i64 k → Ents (l.set p e') (upd f k (some e'.val))
  | [], f, h, k, n => .inl ⟨h k, rfl⟩
  | x :: es, f, ⟨i, f', h1, h2, h3, h4⟩, k, n => by
    by_cases hki : k = i
    · subst hki
      refine .inr ⟨0, x.val, x, ?_, ?_, rfl, h1, ?_, fun e' he' => ⟨k, f', he', h2, h3, fun j => ?_⟩⟩
      · unfold Instr.findNow
        simp [h1, Instr.sameNow]
      · rw [h4, if_pos rfl]
      · refine Ents.ext h2 (fun j => ?_)
        unfold upd
        rw [h4]
        split
        · rename_i hj; subst hj; exact h3.symm
        · rfl
      · unfold upd
        rw [h4]
        split
        · rfl
        · rfl
    · have hf : f k = f' k := by rw [h4, if_neg hki]
      have hs : Instr.sameNow (.int .i64) (.int .i64 k) x.key = some false := by
        rw [h1]
        simp [Instr.sameNow, hki]
      rcases h2.find k (n + 1) with ⟨h5, h6⟩ | ⟨p, v, e, h5, h6, h7, h8, h9, h10⟩
      · left
        refine ⟨hf.trans h5, ?_⟩
        unfold Instr.findNow
        rw [hs]
        exact h6
      · right
        refine ⟨p + 1, v, e, ?_, hf.trans h6, h7, h8, ⟨i, upd f' k none, h1, h9, by rw [upd_other _ _ (Ne.symm hki)]; exact h3, fun j => ?_⟩, fun e' he' => ⟨i, upd f' k (some e'.val), h1, h10 e' he', by rw [upd_other _ _ (Ne.symm hki)]; exact h3, fun j => ?_⟩⟩
        · unfold Instr.findNow
          rw [hs]
          simp only
          rw [h5]
          congr 3
          omega
        · unfold upd
          rw [h4]
          split
          · rename_i hj; subst hj; rw [if_neg hki]
          · rfl
        · unfold upd
          rw [h4]
          split
          · rename_i hj; subst hj; rw [if_neg hki]
          · rfl

/-- Block b is a map, keyed by integers, that is f. -/
def IMap (w : World) (b : Nat) (f : Int → Option Value) : Prop := ∃ es clock, w.heap[b]? = some (.map es clock) ∧ Ents es.toList f
section
variable {P : Program} {w w' : World} {b : Nat} {f : Int → Option Value}
theorem IMap.lt (h : IMap w b f) : b < w.heap.size := by
  obtain ⟨es, clock, hb, _⟩ := h
  exact (Array.getElem?_eq_some_iff.1 hb).1
theorem IMap.keeps {S : Nat → Prop} (h : IMap w b f) (hk : Keeps S w w') (hs : ¬ S b) : IMap w' b f := by
  have hlt := h.lt
  obtain ⟨es, clock, hb, he⟩ := h
  exact ⟨es, clock, (hk.block b hlt hs).trans hb, he⟩
theorem IMap.made (w : World) : IMap (w.alloc (.map #[] 0)) w.heap.size (fun _ => none) := ⟨#[], 0, heap_alloc_new w _, fun _ => rfl⟩
theorem IMap.apart {g : Nat} {cs : Array Value} {t : TypeId} {fr : Nat × Nat} (h : IMap w b f) (hg : w.heap[g]? = some (.cells cs t fr)) : b ≠ g := by
  rintro rfl
  obtain ⟨es, clock, hb, _⟩ := h
  rw [hb] at hg
  cases hg
theorem run_check_int {kt : TypeId} (hk : P.underlying kt = some (.int .i64)) (k : Int) (em : Bool) (w : World) : (Instr.checkKey em 10000 kt (.int .i64 k)).run P w = .ok () w := MapKept.run_checkKey (k := .int .i64 k) hk (by simp [MapKept.IsKey]) em 9999
theorem IMap.look {t kt e : TypeId} (h : IMap w b f) (ht : P.underlying t = some (.map kt e)) (hk : P.underlying kt = some (.int .i64)) {z : Value} (hz : (zeroValue e).run P w = .ok z w) (k : Int) :
    (Instr.lookup t (.map (some b)) (.int .i64 k) false).run P w = .ok ((f k).getD z) w := by
  obtain ⟨es, clock, hb, he⟩ := h
  rcases he.find k 0 with ⟨h5, h6⟩ | ⟨p, v, x, h5, h6, _⟩
  · simp [Instr.lookup, run_underlying ht, MapKept.run_getObj_map hb, run_check_int hk, MapKept.run_findKey hk h6, Result.andThen, hz, h5]
  · simp [Instr.lookup, run_underlying ht, MapKept.run_getObj_map hb, run_check_int hk, MapKept.run_findKey hk h5, Result.andThen, h6]
theorem IMap.look_ok {t kt e : TypeId} (h : IMap w b f) (ht : P.underlying t = some (.map kt e)) (hk : P.underlying kt = some (.int .i64)) {z : Value} (hz : (zeroValue e).run P w = .ok z w) (k : Int) :
    (Instr.lookup t (.map (some b)) (.int .i64 k) true).run P w = .ok (.tuple #[(f k).getD z, .bool (f k).isSome]) w := by
  obtain ⟨es, clock, hb, he⟩ := h
  rcases he.find k 0 with ⟨h5, h6⟩ | ⟨p, v, x, h5, h6, _⟩
  · simp [Instr.lookup, run_underlying ht, MapKept.run_getObj_map hb, run_check_int hk, MapKept.run_findKey hk h6, Result.andThen, hz, h5]
  · simp [Instr.lookup, run_underlying ht, MapKept.run_getObj_map hb, run_check_int hk, MapKept.run_findKey hk h5, Result.andThen, h6]
/-- A map's block is another map. -/
theorem map_turn {es es' : Array MapEntry} {clock clock' : Nat} (hb : w.heap[b]? = some (.map es clock)) (he : Ents es'.toList f) :
    IMap { w with heap := w.heap.setIfInBounds b (.map es' clock') } b f ∧ Keeps (fun k => k = b) w { w with heap := w.heap.setIfInBounds b (.map es' clock') } := by
  have hlt := (Array.getElem?_eq_some_iff.1 hb).1
  refine ⟨⟨es', clock', by simp [hlt], he⟩, rfl, rfl, rfl, by simp, fun k _ hs => ?_⟩
  have hs' : b ≠ k := fun e => hs e.symm
  simp [hs']
theorem IMap.store {t kt e : TypeId} (h : IMap w b f) (ht : P.underlying t = some (.map kt e)) (hk : P.underlying kt = some (.int .i64)) (k : Int) (v : Value) :
    ∃ w', (Instr.mapUpdate t (.map (some b)) (.int .i64 k) v).run P w = .ok () w' ∧ IMap w' b (upd f k (some v)) ∧ Keeps (fun k => k = b) w w' := by
  obtain ⟨es, clock, hb, he⟩ := h
  rcases he.find k 0 with ⟨h5, h6⟩ | ⟨p, u, x, h5, h6, h7, h8, h9, h10⟩
  · refine ⟨_, ?_, map_turn (es' := es.push { key := .int .i64 k, val := v, born := clock }) (clock' := clock + 1) hb ?_⟩
    · simp [Instr.mapUpdate, run_underlying ht, MapKept.run_getObj_map hb, run_check_int hk, MapKept.run_findKey hk h6, MapKept.run_setObj_map _ hb, Result.andThen]
    · simpa using Ents.push (e := { key := .int .i64 k, val := v, born := clock }) he h5 rfl
  · have hp : es[p]? = some x := by simpa using h7
    have hlt : p < es.size := (Array.getElem?_eq_some_iff.1 hp).1
    have hx : es[p] = x := (Array.getElem?_eq_some_iff.1 hp).2
    have hst : (Instr.keyThatStays (((es[0 + p]?).map (·.key)).getD (.int .i64 k)) (.int .i64 k)).run P w = .ok (.int .i64 k) w := by
      rw [Nat.zero_add, hp]
      simp [Instr.keyThatStays, h8, Instr.sameBits]
    refine ⟨_, ?_, map_turn (es' := es.modify p fun e => { e with key := .int .i64 k, val := v }) (clock' := clock) hb ?_⟩
    · simp [Instr.mapUpdate, run_underlying ht, MapKept.run_getObj_map hb, run_check_int hk, MapKept.run_findKey hk h5, Result.andThen]
      rw [Nat.zero_add] at hst
      rw [hst]
      simp [MapKept.run_setObj_map _ hb]
    · have h11 := h10 { x with key := .int .i64 k, val := v } rfl
      have e1 : (es.modify p fun e => { e with key := .int .i64 k, val := v }).toList = es.toList.set p { x with key := .int .i64 k, val := v } := by
        apply List.ext_getElem?
        intro j
        rw [Array.getElem?_toList, Array.getElem?_modify, List.getElem?_set]
        by_cases hj : p = j
        · subst hj
          simp [hlt, hx]
        · simp [hj]
      rw [e1]
      exact h11
theorem IMap.drop {t kt e : TypeId} (h : IMap w b f) (ht : P.underlying t = some (.map kt e)) (hk : P.underlying kt = some (.int .i64)) (ty : TypeId) (k : Int) :
    ∃ w', (Builtin.delete_ #[t, kt] ty #[.map (some b), .int .i64 k]).run P w = .ok (.tuple #[]) w' ∧ IMap w' b (upd f k none) ∧ Keeps (fun k => k = b) w w' := by
  obtain ⟨es, clock, hb, he⟩ := h
  rcases he.find k 0 with ⟨h5, h6⟩ | ⟨p, u, x, h5, h6, h7, h8, h9, h10⟩
  · refine ⟨_, ?_, map_turn (es' := es) (clock' := clock) hb (he.ext fun j => ?_)⟩
    · simp [Builtin.delete_, run_underlying ht, MapKept.run_getObj_map hb, run_check_int hk, MapKept.run_findKey hk h6, MapKept.run_setObj_map _ hb, Result.andThen]
    · unfold upd
      split
      · rename_i hj; subst hj; exact h5.symm
      · rfl
  · have hp : p < es.size := by
      have := (List.getElem?_eq_some_iff.1 h7).1
      simpa using this
    refine ⟨_, ?_, map_turn (es' := es.eraseIdxIfInBounds p) (clock' := clock) hb ?_⟩
    · simp [Builtin.delete_, run_underlying ht, MapKept.run_getObj_map hb, run_check_int hk, MapKept.run_findKey hk h5, MapKept.run_setObj_map _ hb, Result.andThen]
    · have e1 : (es.eraseIdxIfInBounds p).toList = es.toList.eraseIdx p := by
        simp [Array.eraseIdxIfInBounds, hp]
      rw [e1]
      exact h9
end

/-! ### at the operation -/
section
variable {P : Program} {ops : Array Oper} {rest : List Oper} {o : Oper} {a : Act} {w : World} {Q : Exit → Act → World → Prop}
theorem wpList_map_store (hg : o.guard = none) (m x v : Operand) (t kt e : TypeId) (hop : o.op = Op.mapUpdate t m x v) (ht : P.underlying t = some (.map kt e)) (hk : P.underlying kt = some (.int .i64)) (b : Nat) (f : Int → Option Value) (k : Int) (u : Value)
    (hm : a.eval m = .map (some b)) (hx : a.eval x = .int .i64 k) (hv : a.eval v = u) (h : IMap w b f)
    (hK : ∀ w', IMap w' b (upd f k (some u)) → Keeps (fun k => k = b) w w' → wpList P ops Q rest (a.put o.dst undef) w') : wpList P ops Q (o :: rest) a w := by
  refine wpList_plain hg fun K' hK' => ?_
  obtain ⟨w', hrun, r1, r2⟩ := h.store ht hk k u
  unfold Oper.wp
  simp [execOp, hop, hm, hx, hv, hrun, Result.andThen]
  exact hK' _ _ (hK w' r1 r2)
theorem wpList_map_drop (hg : o.guard = none) (m x : Operand) (t kt e : TypeId) (hop : o.op = Op.call { callee := Callee.builtin Builtin.delete, args := #[m, x], argTypes := #[t, kt] }) (ht : P.underlying t = some (.map kt e)) (hk : P.underlying kt = some (.int .i64)) (b : Nat) (f : Int → Option Value) (k : Int)
    (hm : a.eval m = .map (some b)) (hx : a.eval x = .int .i64 k) (h : IMap w b f)
    (hK : ∀ w', IMap w' b (upd f k none) → Keeps (fun k => k = b) w w' → wpList P ops Q rest (a.put o.dst (.tuple #[])) w') : wpList P ops Q (o :: rest) a w := by
  refine wpList_plain hg fun K' hK' => ?_
  obtain ⟨w', hrun, r1, r2⟩ := h.drop (P := P) ht hk o.type k
  unfold Oper.wp
  simp [execOp, hop, resolve, invoke, builtin, hm, hx, hrun, Result.andThen]
  exact hK' _ _ (hK w' r1 r2)
theorem wpList_map_look (hg : o.guard = none) (m x : Operand) (t kt e : TypeId) (hop : o.op = Op.lookup t m x false) (ht : P.underlying t = some (.map kt e)) (hk : P.underlying kt = some (.int .i64)) (z : Value) (hz : ∀ w, (zeroValue e).run P w = .ok z w) (b : Nat) (f : Int → Option Value) (k : Int) (u : Value)
    (hm : a.eval m = .map (some b)) (hx : a.eval x = .int .i64 k) (h : IMap w b f) (hu : (f k).getD z = u)
    (hK : wpList P ops Q rest (a.put o.dst u) w) : wpList P ops Q (o :: rest) a w := by
  refine wpList_plain hg fun K' hK' => ?_
  have hrun := h.look (P := P) ht hk (hz w) k
  rw [hu] at hrun
  unfold Oper.wp
  simp [execOp, hop, hm, hx, hrun, Result.andThen]
  exact hK' _ _ hK
theorem wpList_map_look_ok (hg : o.guard = none) (m x : Operand) (t kt e : TypeId) (hop : o.op = Op.lookup t m x true) (ht : P.underlying t = some (.map kt e)) (hk : P.underlying kt = some (.int .i64)) (z : Value) (hz : ∀ w, (zeroValue e).run P w = .ok z w) (b : Nat) (f : Int → Option Value) (k : Int) (u : Value) (q : Bool)
    (hm : a.eval m = .map (some b)) (hx : a.eval x = .int .i64 k) (h : IMap w b f) (hu : (f k).getD z = u) (hq : (f k).isSome = q)
    (hK : wpList P ops Q rest (a.put o.dst (.tuple #[u, .bool q])) w) : wpList P ops Q (o :: rest) a w := by
  refine wpList_plain hg fun K' hK' => ?_
  have hrun := h.look_ok (P := P) ht hk (hz w) k
  rw [hu, hq] at hrun
  unfold Oper.wp
  simp [execOp, hop, hm, hx, hrun, Result.andThen]
  exact hK' _ _ hK
/-- The look-up's own run. -/
theorem exec_look (m x : Operand) (t kt e : TypeId) (hop : o.op = Op.lookup t m x false) (ht : P.underlying t = some (.map kt e)) (hk : P.underlying kt = some (.int .i64)) (z : Value) (hz : ∀ w, (zeroValue e).run P w = .ok z w) (b : Nat) (f : Int → Option Value) (k : Int) (u : Value)
    (hm : a.eval m = .map (some b)) (hx : a.eval x = .int .i64 k) (h : IMap w b f) (hu : (f k).getD z = u) : (execOp a.eval o).run P w = .ok (.value u) w := by
  have hrun := h.look (P := P) ht hk (hz w) k
  rw [hu] at hrun
  simp [execOp, hop, hm, hx, hrun, Result.andThen]
/-- A slice's bytes as an array: its address. -/
theorem exec_arr (x : Operand) (t e : TypeId) (n : Nat) (hop : o.op = Op.sliceToArrayPointer t x) (ht : P.underlying t = some (.array n e)) (A : Option Addr) (len c : Nat) (hx : a.eval x = .slice A len c) (hl : n ≤ len) : (execOp a.eval o).run P w = .ok (.value (.pointer A)) w := by
  have h : ¬ len < n := by omega
  simp [execOp, hop, hx, Instr.arrayAt, run_underlying ht, Result.andThen, h]
end
end Go.Proofs.Ytmhbfchhooggjaa
