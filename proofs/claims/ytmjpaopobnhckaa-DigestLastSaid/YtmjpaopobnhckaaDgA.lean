/-
  Rows of keys, rows of hashes, wherever they lie; structs read at any address.
-/
import Derived.Test.YtmjpaopobnhckaaOpenDg
import Derived.Test.YtmjpaopobnhckaaClsW
import Derived.Test.YtmjpaopobnhckaaWalkE
namespace Go.Proofs.Ytmjpaopobnhckaa
open Go.RowKit Go.BigFrame
set_option linter.unusedVariables false
set_option linter.unusedSimpArgs false

section
variable {P : Program}
theorem run_loadVar_any (w : World) (p : Addr) (ty : TypeId) (cs : List Value) (d : TypeDesc) (hc : ∀ j v, cs[j]? = some v → w.cell? (p.add j) = some v) (hu : P.underlying ty = some d) (hd : d.isRow = true) (hi : (P.info? ty).map (·.size) = some cs.length) :
    (loadVar ty p).run P w = .ok (.agg cs.toArray) w := by
  have hl : (loadCells p cs.length).run P w = .ok cs.toArray w := run_loadCells_list (P := P) w p cs hc
  cases hq : P.info? ty with
  | none => simp [hq] at hi
  | some i =>
    have hs : i.size = cs.length := by simpa [hq] using hi
    have hagg : (isAgg ty).run P w = .ok true w := by
      unfold isAgg
      rw [Sem.run_bind, run_underlying hu w]
      cases d <;> simp_all [TypeDesc.isRow]
    unfold loadVar
    simp [hagg, sizeOf, typeInfo, hq, hs, hl, Result.andThen]
theorem wpList_load_any19 {ops : Array Oper} {rest : List Oper} {o : Oper} {a : Act} {w : World} {Q : Exit → Act → World → Prop} (hw : Region.wanted o (yielded ops a.tmps) = true) (ty : TypeId) (x : Operand) (ho : o.op = .load ty x)
    (p : Addr) (hx : a.eval x = .pointer (some p)) (cs : List Value) (d : TypeDesc) (hc : ∀ j v, cs[j]? = some v → w.cell? (p.add j) = some v)
    (hu : P.underlying ty = some d) (hd : d.isRow = true) (hi : (P.info? ty).map (·.size) = some cs.length)
    (h : wpList P ops Q rest (a.put o.dst (.agg cs.toArray)) w) : wpList P ops Q (o :: rest) a w := by
  refine wpList_step fun K hK => ?_
  rw [if_pos hw]
  unfold Oper.wp execOp
  simp only [ho, hx, Instr.loadAt, Instr.sureAddr, Sem.run_bind, Sem.run_pure, Result.andThen_ok, run_loadVar_any w p ty cs d hc hu hd hi]
  exact hK _ _ h
theorem class_any {ops : Array Oper} {rest : List Oper} {o : Oper} {a : Act} {C : World → Prop} {Q : Act → Prop} (hw : Region.wanted o (yielded ops a.tmps) = true) (ty : TypeId) (x : Operand) (ho : o.op = .load ty x)
    (p : Addr) (hx : a.eval x = .pointer (some p)) (cs : List Value) (d : TypeDesc) (hc : ∀ w, C w → ∀ j v, cs[j]? = some v → w.cell? (p.add j) = some v)
    (hu : P.underlying ty = some d) (hd : d.isRow = true) (hi : (P.info? ty).map (·.size) = some cs.length)
    (h : wpQuiet P ops C Q rest (a.put o.dst (.agg cs.toArray))) : wpQuiet P ops C Q (o :: rest) a := by
  refine BigFrame.wpQuiet_want hw fun K hK => ⟨.agg cs.toArray, fun w hw' => ?_, hK _ h⟩
  unfold Oper.quietAt execOp
  simp only [ho, hx, Instr.loadAt, Instr.sureAddr, Sem.run_bind, Sem.run_pure, Result.andThen_ok, run_loadVar_any w p ty cs d (hc w hw') hu hd hi]
  exact ⟨rfl, rfl⟩
end
section
variable {α : Type} {enc : α → List Value} {ok : α → Prop} {n : Nat} {w w' : World} {A : Option Addr} {len cap : Nat} {xs : List α}
theorem IsList.later (h : IsList enc ok n w A len cap xs) (k : Keeps (fun _ => False) w w') : IsList enc ok n w' A len cap xs :=
  ⟨h.many, h.le, h.max, h.nil, fun j x hx => by
    obtain ⟨h1, ad, h2, h3⟩ := h.at_ j x hx
    exact ⟨h1, ad, h2, fun q u hu => by
      have hc := h3 q u hu
      exact (k.cell (World.block_lt_of_cell? w _ hc) id).trans hc⟩⟩
theorem IsList.okAll (h : IsList enc ok n w A len cap xs) : ∀ x ∈ xs, ok x := fun x hx => by
  obtain ⟨j, hj⟩ := List.getElem?_of_mem hx
  exact (h.at_ j x hj).1
theorem IsList.addr (h : IsList enc ok n w A len cap xs) {i : Nat} (hi : i < len) : ∃ x ad, xs[i]? = some x ∧ ok x ∧ A = some ad ∧ ∀ q u, (enc x)[q]? = some u → w.cell? (ad.add (i * n + q)) = some u := by
  have hl : i < xs.length := by rw [h.many]; exact hi
  obtain ⟨h1, ad, h2, h3⟩ := h.at_ i xs[i] (List.getElem?_eq_getElem hl)
  exact ⟨_, ad, List.getElem?_eq_getElem hl, h1, h2, h3⟩
theorem IsList.empty (enc : α → List Value) (ok : α → Prop) (n : Nat) (w : World) : IsList enc ok n w none 0 0 [] := ⟨rfl, Nat.le_refl _, by decide, fun _ => rfl, fun j x h => by simp at h⟩
end
/-- A row, flat. -/
def flt {α : Type} (enc : α → List Value) (l : List α) : List Value := l.flatMap enc
section
variable {α : Type} {enc : α → List Value} {ok : α → Prop} {n : Nat}
theorem flt_length (hn : ∀ x, ok x → (enc x).length = n) : ∀ (l : List α), (∀ q ∈ l, ok q) → (flt enc l).length = l.length * n
  | [], _ => by simp [flt]
  | q :: l, h => by
    have ih := flt_length hn l (fun x hx => h x (List.mem_cons_of_mem _ hx))
    unfold flt at ih ⊢
    rw [List.flatMap_cons, List.length_append, hn q (h q (by simp)), ih, List.length_cons, Nat.add_mul]
    omega
theorem flt_snoc (l : List α) (q : α) : flt enc l ++ enc q = flt enc (l ++ [q]) := by unfold flt; rw [List.flatMap_append]; simp
theorem flt_at (hn : ∀ x, ok x → (enc x).length = n) : ∀ (l : List α), (∀ q ∈ l, ok q) → ∀ (i : Nat) (q : α), l[i]? = some q → ∀ (j : Nat) (v : Value), (enc q)[j]? = some v → (flt enc l)[i * n + j]? = some v
  | [], _, i, q, h, _, _, _ => by simp at h
  | a :: l, hok, 0, q, h, j, v, hv => by
    simp at h
    subst h
    unfold flt
    rw [List.flatMap_cons, Nat.zero_mul, Nat.zero_add, List.getElem?_append_left (List.getElem?_eq_some_iff.1 hv).1]
    exact hv
  | a :: l, hok, i + 1, q, h, j, v, hv => by
    have ih := flt_at hn l (fun x hx => hok x (List.mem_cons_of_mem _ hx)) i q (by simpa using h) j v hv
    unfold flt at ih ⊢
    have ha := hn a (hok a (by simp))
    rw [List.flatMap_cons, List.getElem?_append_right (by rw [ha, Nat.add_mul]; omega), ha]
    rw [show (i + 1) * n + j - n = i * n + j by rw [Nat.add_mul]; omega]
    exact ih
/-- A row of one's own is such a row. -/
theorem IsList.of_own {w : World} {B : Nat} {e : TypeId} {A : Option Addr} {c : Nat} {l : List α} (hn : ∀ x, ok x → (enc x).length = n) (h0 : 0 < n) (hok : ∀ q ∈ l, ok q) (h : w.ownsRow B e n (.slice A l.length c) l.length (flt enc l)) : IsList enc ok n w A l.length c l := by
  rcases h.2 with ⟨h1, h2⟩ | ⟨g, cap, cur, h1, h2, h3, h4, h5, h6, h7⟩
  · injection h1 with e1 _ e3
    subst e1
    subst e3
    have : l = [] := List.eq_nil_of_length_eq_zero h2
    subst this
    exact IsList.empty enc ok n w
  · injection h1 with e1 _ e3
    subst e1
    subst e3
    refine ⟨rfl, h4, by unfold maxLen at h5; omega, fun e => (by cases e), fun j x hx => ⟨hok x (List.mem_of_getElem? hx), ⟨g, 0, none⟩, rfl, fun q u hu => ?_⟩⟩
    have hql : q < n := by rw [← hn x (hok x (List.mem_of_getElem? hx))]; exact (List.getElem?_eq_some_iff.1 hu).1
    have hj : j < l.length := (List.getElem?_eq_some_iff.1 hx).1
    rw [add_plain, Nat.zero_add, h.cellAt (j * n + q) (by
      have : (j + 1) * n ≤ l.length * n := Nat.mul_le_mul_right n hj
      rw [Nat.add_mul, Nat.one_mul] at this
      omega)]
    exact flt_at hn l hok j x hx q u hu
end
abbrev LK (w : World) (A : Option Addr) (len cap : Nat) (xs : List Ft.Key) : Prop := IsList kcs Ft.Key.Ok 33 w A len cap xs
abbrev LH (w : World) (A : Option Addr) (len cap : Nat) (xs : List (List UInt8)) : Prop := IsList bvs (fun h => h.length = 32) 32 w A len cap xs
theorem kcs_len : ∀ x, Ft.Key.Ok x → (kcs x).length = 33 := fun x h => kcs_length h.2
theorem hbs_len : ∀ x : List UInt8, x.length = 32 → (bvs x).length = 32 := fun x h => by rw [bvs_length]; exact h
theorem run_eq_hash (d : Nat) (a b : List UInt8) (ha : a.length = 32) (hb : b.length = 32) (w : World) : (Op.equalIn (d + 2) 52 (.agg (bvs a).toArray) (.agg (bvs b).toArray)).run Try.prog w = .ok (decide (a = b)) w := by
  obtain ⟨iu, hiu, hsu⟩ := Option.map_eq_some_iff.1 info_u8k
  rw [equalIn_bytes_at17 w d 52 5 32 Try.underlying52 Try.underlying5 hiu (by kernel_rfl) (by kernel_rfl) a b ha hb]
  congr 1
  rw [Bool.eq_iff_iff]
  simp
theorem run_eql_hash (a b : List UInt8) (ha : a.length = 32) (hb : b.length = 32) (w : World) : (binOp .eql 52 (.agg (bvs a).toArray) (.agg (bvs b).toArray)).run Try.prog w = .ok (.bool (decide (a = b))) w := by
  rw [run_eql_struct, run_eq_hash 9998 a b ha hb w]; rfl
theorem run_neq_hash (a b : List UInt8) (ha : a.length = 32) (hb : b.length = 32) (w : World) : (binOp .neq 52 (.agg (bvs a).toArray) (.agg (bvs b).toArray)).run Try.prog w = .ok (.bool (!decide (a = b))) w := by
  rw [run_neq_struct, run_eq_hash 9998 a b ha hb w]; rfl
end Go.Proofs.Ytmjpaopobnhckaa
