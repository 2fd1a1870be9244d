/-
  Rows of what has several cells, wherever they lie; structs read at any address.
-/
import Derived.Test.YtmhbfchhooggjaaLisK
import Derived.Test.YtmhbfchhooggjaaClsW
import Derived.Test.YtmhbfchhooggjaaWalkE
namespace Go.Proofs.Ytmhbfchhooggjaa
open Go.RowKit Go.BigFrame
set_option linter.unusedVariables false
set_option linter.unusedSimpArgs false

section
variable {P : Program}
theorem run_loadVar_any (w : World) (p : Addr) (ty : TypeId) (cs : List Value) (d : TypeDesc) (hc : ∀ j v, cs[j]? = some v → w.cell? (p.add j) = some v) (hu : P.underlying ty = some d) (hd : d.isRow = true) (hi : (P.info? ty).map (·.size) = some cs.length) :
    (loadVar ty p).run P w = .ok (.agg cs.toArray) w := by
  have hl : (loadCells p cs.length).run P w = .ok cs.toArray w := run_loadCells_list (P := P) w p cs hc
  cases hq : P.info? ty with
  | none => simp [hq] at hi
  | some i =>
    have hs : i.size = cs.length := by simpa [hq] using hi
    have hagg : (isAgg ty).run P w = .ok true w := by
      unfold isAgg
      rw [Sem.run_bind, run_underlying hu w]
      cases d <;> simp_all [TypeDesc.isRow]
    unfold loadVar
    simp [hagg, sizeOf, typeInfo, hq, hs, hl, Result.andThen]
theorem wpList_load_any19 {ops : Array Oper} {rest : List Oper} {o : Oper} {a : Act} {w : World} {Q : Exit → Act → World → Prop} (hw : Region.wanted o (yielded ops a.tmps) = true) (ty : TypeId) (x : Operand) (ho : o.op = .load ty x)
    (p : Addr) (hx : a.eval x = .pointer (some p)) (cs : List Value) (d : TypeDesc) (hc : ∀ j v, cs[j]? = some v → w.cell? (p.add j) = some v)
    (hu : P.underlying ty = some d) (hd : d.isRow = true) (hi : (P.info? ty).map (·.size) = some cs.length)
    (h : wpList P ops Q rest (a.put o.dst (.agg cs.toArray)) w) : wpList P ops Q (o :: rest) a w := by
  refine wpList_step fun K hK => ?_
  rw [if_pos hw]
  unfold Oper.wp execOp
  simp only [ho, hx, Instr.loadAt, Instr.sureAddr, Sem.run_bind, Sem.run_pure, Result.andThen_ok, run_loadVar_any w p ty cs d hc hu hd hi]
  exact hK _ _ h
theorem class_any {ops : Array Oper} {rest : List Oper} {o : Oper} {a : Act} {C : World → Prop} {Q : Act → Prop} (hw : Region.wanted o (yielded ops a.tmps) = true) (ty : TypeId) (x : Operand) (ho : o.op = .load ty x)
    (p : Addr) (hx : a.eval x = .pointer (some p)) (cs : List Value) (d : TypeDesc) (hc : ∀ w, C w → ∀ j v, cs[j]? = some v → w.cell? (p.add j) = some v)
    (hu : P.underlying ty = some d) (hd : d.isRow = true) (hi : (P.info? ty).map (·.size) = some cs.length)
    (h : wpQuiet P ops C Q rest (a.put o.dst (.agg cs.toArray))) : wpQuiet P ops C Q (o :: rest) a := by
  refine BigFrame.wpQuiet_want hw fun K hK => ⟨.agg cs.toArray, fun w hw' => ?_, hK _ h⟩
  unfold Oper.quietAt execOp
  simp only [ho, hx, Instr.loadAt, Instr.sureAddr, Sem.run_bind, Sem.run_pure, Result.andThen_ok, run_loadVar_any w p ty cs d (hc w hw') hu hd hi]
  exact ⟨rfl, rfl⟩
end
section
variable {α : Type} {enc : α → List Value} {ok : α → Prop} {n : Nat} {w w' : World} {A : Option Addr} {len cap : Nat} {xs : List α}
theorem IsList.later (h : IsList enc ok n w A len cap xs) (k : Keeps (fun _ => False) w w') : IsList enc ok n w' A len cap xs :=
  ⟨h.many, h.le, h.max, h.nil, fun j x hx => by
    obtain ⟨h1, ad, h2, h3⟩ := h.at_ j x hx
    exact ⟨h1, ad, h2, fun q u hu => by
      have hc := h3 q u hu
      exact (k.cell (World.block_lt_of_cell? w _ hc) id).trans hc⟩⟩
theorem IsList.okAll (h : IsList enc ok n w A len cap xs) : ∀ x ∈ xs, ok x := fun x hx => by
  obtain ⟨j, hj⟩ := List.getElem?_of_mem hx
  exact (h.at_ j x hj).1
theorem IsList.addr (h : IsList enc ok n w A len cap xs) {i : Nat} (hi : i < len) : ∃ x ad, xs[i]? = some x ∧ ok x ∧ A = some ad ∧ ∀ q u, (enc x)[q]? = some u → w.cell? (ad.add (i * n + q)) = some u := by
  have hl : i < xs.length := by rw [h.many]; exact hi
  obtain ⟨h1, ad, h2, h3⟩ := h.at_ i xs[i] (List.getElem?_eq_getElem hl)
  exact ⟨_, ad, List.getElem?_eq_getElem hl, h1, h2, h3⟩
theorem IsList.empty (enc : α → List Value) (ok : α → Prop) (n : Nat) (w : World) : IsList enc ok n w none 0 0 [] := ⟨rfl, Nat.le_refl _, by decide, fun _ => rfl, fun j x h => by simp at h⟩
end
/-- A row, flat. -/
def flt {α : Type} (enc : α → List Value) (l : List α) : List Value := l.flatMap enc
section
variable {α : Type} {enc : α → List Value} {ok : α → Prop} {n : Nat}
theorem flt_length (hn : ∀ x, ok x → (enc x).length = n) : ∀ (l : List α), (∀ q ∈ l, ok q) → (flt enc l).length = l.length * n
  | [], _ => by simp [flt]
  | q :: l, h => by
    have ih := flt_length hn l (fun x hx => h x (List.mem_cons_of_mem _ hx))
    unfold flt at ih ⊢
    rw [List.flatMap_cons, List.length_append, hn q (h q (by simp)), ih, List.length_cons, Nat.add_mul]
    omega
theorem flt_snoc (l : List α) (q : α) : flt enc l ++ enc q = flt enc (l ++ [q]) := by unfold flt; rw [List.flatMap_append]; simp
theorem flt_at (hn : ∀ x, ok x → (enc x).length = n) : ∀ (l : List α), (∀ q ∈ l, ok q) → ∀ (i : Nat) (q : α), l[i]? = some q → ∀ (j : Nat) (v : Value), (enc q)[j]? = some v → (flt enc l)[i * n + j]? = some v
  | [], _, i, q, h, _, _, _ => by simp at h
  | a :: l, hok, 0, q, h, j, v, hv => by
    simp at h
    subst h
    unfold flt
    rw [List.flatMap_cons, Nat.zero_mul, Nat.zero_add, List.getElem?_append_left (List.getElem?_eq_some_iff.1 hv).1]
    exact hv
  | a :: l, hok, i + 1, q, h, j, v, hv => by
    have ih := flt_at hn l (fun x hx => hok x (List.mem_cons_of_mem _ hx)) i q (by simpa using h) j v hv
    unfold flt at ih ⊢
    have ha := hn a (hok a (by simp))
    rw [List.flatMap_cons, List.getElem?_append_right (by rw [ha, Nat.add_mul]; omega), ha]
    rw [show (i + 1) * n + j - n = i * n + j by rw [Nat.add_mul]; omega]
    exact ih
/-- A row of one's own is such a row. -/
theorem IsList.of_own {w : World} {B : Nat} {e : TypeId} {A : Option Addr} {c : Nat} {l : List α} (hn : ∀ x, ok x → (enc x).length = n) (h0 : 0 < n) (hok : ∀ q ∈ l, ok q) (h : w.ownsRow B e n (.slice A l.length c) l.length (flt enc l)) : IsList enc ok n w A l.length c l := by
  rcases h.2 with ⟨h1, h2⟩ | ⟨g, cap, cur, h1, h2, h3, h4, h5, h6, h7⟩
  · injection h1 with e1 _ e3
    subst e1
    subst e3
    have : l = [] := List.eq_nil_of_length_eq_zero h2
    subst this
    exact IsList.empty enc ok n w
  · injection h1 with e1 _ e3
    subst e1
    subst e3
    refine ⟨rfl, h4, by unfold maxLen at h5; omega, fun e => (by cases e), fun j x hx => ⟨hok x (List.mem_of_getElem? hx), ⟨g, 0, none⟩, rfl, fun q u hu => ?_⟩⟩
    have hql : q < n := by rw [← hn x (hok x (List.mem_of_getElem? hx))]; exact (List.getElem?_eq_some_iff.1 hu).1
    have hj : j < l.length := (List.getElem?_eq_some_iff.1 hx).1
    rw [add_plain, Nat.zero_add, h.cellAt (j * n + q) (by
      have : (j + 1) * n ≤ l.length * n := Nat.mul_le_mul_right n hj
      rw [Nat.add_mul, Nat.one_mul] at this
      omega)]
    exact flt_at hn l hok j x hx q u hu
end
abbrev LH (w : World) (A : Option Addr) (len cap : Nat) (xs : List (List UInt8)) : Prop := IsList bvs (fun h => h.length = 32) 32 w A len cap xs
theorem hbs_len : ∀ x : List UInt8, x.length = 32 → (bvs x).length = 32 := fun x h => by rw [bvs_length]; exact h
theorem flt_parts {α : Type} {enc : α → List Value} {ok : α → Prop} {n : Nat} (hn : ∀ x, ok x → (enc x).length = n) : ∀ (l : List α), (∀ q ∈ l, ok q) → ∀ (j : Nat) (u : Value), (flt enc l)[j]? = some u → ∃ (i q : Nat) (x : α), l[i]? = some x ∧ (enc x)[q]? = some u ∧ j = i * n + q
  | [], _, j, u, h => by simp [flt] at h
  | a :: l, hok, j, u, h => by
    have ha := hn a (hok a (by simp))
    have e : flt enc (a :: l) = enc a ++ flt enc l := by unfold flt; rw [List.flatMap_cons]
    rw [e] at h
    by_cases hj : j < n
    · rw [List.getElem?_append_left (by omega)] at h
      exact ⟨0, j, a, rfl, h, by omega⟩
    · rw [List.getElem?_append_right (by omega), ha] at h
      obtain ⟨i, q, x, h1, h2, h3⟩ := flt_parts hn l (fun q hq => hok q (by simp [hq])) (j - n) u h
      exact ⟨i + 1, q, x, by simpa using h1, h2, by rw [Nat.add_mul]; omega⟩
theorem IsList.cells {α : Type} {enc : α → List Value} {ok : α → Prop} {n : Nat} (hn : ∀ x, ok x → (enc x).length = n) {w : World} {ad : Addr} {len cap : Nat} {l : List α} (h : IsList enc ok n w (some ad) len cap l) : ∀ j u, (flt enc l)[j]? = some u → w.cell? (ad.add j) = some u := fun j u hu => by
  obtain ⟨i, q, x, h1, h2, rfl⟩ := flt_parts hn l h.okAll j u hu
  obtain ⟨_, ad', e, h3⟩ := h.at_ i x h1
  injection e with e
  subst e
  exact h3 q u h2
/-- 'append(x, y...)' of a row that lies somewhere onto a row of the call's own. -/
theorem wpList_append_list19 {P : Program} {α : Type} {enc : α → List Value} {ok : α → Prop} {w : World} {ops : Array Oper} {rest : List Oper} {o : Oper} {a : Act} {Q : Exit → Act → World → Prop} (hgd : o.guard = none) (s x : Operand) (t : TypeId)
    (ho : o.op = .call { callee := .builtin .append, args := #[s, x], argTypes := #[t, t] })
    (base : Nat) (e : TypeId) (i : TypeInfo) (z : Value) (size bytes : Nat) (ht : P.underlying t = some (.slice e)) (hi : P.info? e = some i) (hz : i.zero = some z)
    (hsize : i.size = size) (hby : i.bytes = bytes) (hzs : z.cells.size = size) (hsz : 0 < size)
    (v : Value) (n : Nat) (xs : List Value) (hs : a.eval s = v) (hown : w.ownsRow base e size v n xs)
    (A : Option Addr) (m c : Nat) (l : List α) (hx : a.eval x = .slice A m c) (hl : IsList enc ok size w A m c l) (hn : ∀ x, ok x → (enc x).length = size) (h1 : ∀ u ∈ flt enc l, u.oneCell' = true)
    (h63 : n + m ≤ maxLen) (hbytes : (n + m) * bytes ≤ 140737488355328) (hbase : base ≤ w.heap.size)
    (h : ∀ v' w', w'.ownsRow base e size v' (n + m) (xs ++ flt enc l) → w.grownBy w' v.ownBlock → wpList P ops Q rest (a.put o.dst v') w') :
    wpList P ops Q (o :: rest) a w := by
  refine wpList_plain hgd fun _ hK => ?_
  obtain ⟨v', w', hr, h2, h3⟩ : ∃ v' w', (Builtin.append_ #[t, t] o.type #[v, .slice A m c]).run P w = .ok v' w' ∧ w'.ownsRow base e size v' (n + m) (xs ++ flt enc l) ∧ w.grownBy w' v.ownBlock := by
    cases A with
    | none =>
      have hc := hl.nil rfl
      have hm : m = 0 := by have := hl.le; omega
      subst hc
      subst hm
      have hll : l = [] := List.eq_nil_of_length_eq_zero hl.many
      subst hll
      exact run_append_hashes (P := P) w base t o.type e i z size bytes ht hi hz hsize hby hzs hsz v n xs hown (.slice none 0 0) 0 [] base (World.ownsRow_nil _ _ _ _) (fun u hu => by cases hu) h63 hbytes hbase
    | some ad =>
      obtain ⟨v', w', hr, h2, h3, _⟩ := run_append_own (P := P) w base t o.type e i z size bytes ht hi hz hsize hby hzs hsz v n xs hown ad m c (flt enc l) (by rw [flt_length hn l hl.okAll, hl.many]) (hl.cells hn) h1 h63 hbytes hbase
      exact ⟨v', w', hr, h2, h3⟩
  unfold Oper.wp execOp
  simp only [ho, resolve, invoke, builtin, Sem.run_bind, Sem.run_pure, Result.andThen_ok, List.map_toArray, List.map_cons, List.map_nil, hs, hx, hr]
  exact hK _ _ (h v' w' h2 h3)
theorem flt_app {α : Type} (enc : α → List Value) (a b : List α) : flt enc (a ++ b) = flt enc a ++ flt enc b := by unfold flt; rw [List.flatMap_append]
theorem flt_one {α : Type} {enc : α → List Value} (h : ∀ x, ∀ u ∈ enc x, u.oneCell' = true) (l : List α) : ∀ u ∈ flt enc l, u.oneCell' = true := fun u hu => by
  obtain ⟨x, _, hx⟩ := List.mem_flatMap.1 hu
  exact h x u hx
end Go.Proofs.Ytmhbfchhooggjaa
