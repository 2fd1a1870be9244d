/-
  The document's own table of what is asked for, by value: something is asked for.
-/
import Derived.Test.YthnpgiagajfaiaaFtN
namespace Go.Proofs.Ythnpgiagajfaiaa
open Go.RowKit Go.BigFrame
set_option linter.unusedVariables false
set_option linter.unusedSimpArgs false

namespace Ft
theorem ins_cons (q a : Q) (l : List Q) : ins q (a :: l) = if wless q.key a.key = true then q :: a :: l else a :: ins q l := rfl
theorem ins_behind {q : Q} {ys : List Q} : ∀ {xs : List Q}, (∀ x ∈ xs, wless q.key x.key = false) → ins q (xs ++ ys) = xs ++ ins q ys
  | [], _ => rfl
  | x :: xs, h => by
    rw [List.cons_append, ins_cons, if_neg (by rw [h x (by simp)]; simp), ins_behind (fun y hy => h y (List.mem_cons_of_mem _ hy))]
    rfl
theorem ins_ahead {q : Q} {ys : List Q} : ∀ {xs : List Q}, (∃ x ∈ xs, wless q.key x.key = true) → ins q (xs ++ ys) = ins q xs ++ ys
  | [], h => by obtain ⟨x, hx, _⟩ := h; cases hx
  | x :: xs, h => by
    rw [List.cons_append, ins_cons, ins_cons]
    by_cases hq : wless q.key x.key = true
    · rw [if_pos hq, if_pos hq]; rfl
    · rw [if_neg hq, if_neg hq, ins_ahead (by
        obtain ⟨y, hy, hy2⟩ := h
        rcases List.mem_cons.1 hy with rfl | hy
        · exact absurd hy2 hq
        · exact ⟨y, hy, hy2⟩)]
      rfl
/-- So many have been gone through; whether the new one is in. -/
def Part (q : Q) (l : List Q) (i : Nat) (d : Bool) (o : List Q) : Prop :=
  if d = true then (∃ x ∈ l.take i, wless q.key x.key = true) ∧ o = ins q (l.take i) else (∀ x ∈ l.take i, wless q.key x.key = false) ∧ o = l.take i
theorem Part.zero (q : Q) (l : List Q) : Part q l 0 false [] := ⟨fun x hx => by simp at hx, rfl⟩
theorem Part.next {q a : Q} {l o : List Q} {i : Nat} (h : l[i]? = some a) (hp : Part q l i true o) : Part q l (i + 1) true (o ++ [a]) := by
  obtain ⟨h1, h2⟩ := List.getElem?_eq_some_iff.1 h
  have ht : l.take (i + 1) = l.take i ++ [a] := by rw [List.take_succ_eq_append_getElem h1, h2]
  unfold Part at hp ⊢
  rw [if_pos rfl] at hp ⊢
  obtain ⟨⟨x, hx, hx2⟩, rfl⟩ := hp
  exact ⟨⟨x, by rw [ht]; exact List.mem_append_left _ hx, hx2⟩, by rw [ht, ins_ahead ⟨x, hx, hx2⟩]⟩
theorem Part.here {q a : Q} {l o : List Q} {i : Nat} (h : l[i]? = some a) (hp : Part q l i false o) (hq : wless q.key a.key = true) : Part q l (i + 1) true (o ++ [q] ++ [a]) := by
  obtain ⟨h1, h2⟩ := List.getElem?_eq_some_iff.1 h
  have ht : l.take (i + 1) = l.take i ++ [a] := by rw [List.take_succ_eq_append_getElem h1, h2]
  unfold Part at hp ⊢
  rw [if_neg (by simp)] at hp
  rw [if_pos rfl]
  obtain ⟨h3, rfl⟩ := hp
  refine ⟨⟨a, by rw [ht]; simp, hq⟩, ?_⟩
  rw [ht, ins_behind h3, ins_cons, if_pos hq]
  simp [ins]
theorem Part.not {q a : Q} {l o : List Q} {i : Nat} (h : l[i]? = some a) (hp : Part q l i false o) (hq : wless q.key a.key = false) : Part q l (i + 1) false (o ++ [a]) := by
  obtain ⟨h1, h2⟩ := List.getElem?_eq_some_iff.1 h
  have ht : l.take (i + 1) = l.take i ++ [a] := by rw [List.take_succ_eq_append_getElem h1, h2]
  unfold Part at hp ⊢
  rw [if_neg (by simp)] at hp ⊢
  obtain ⟨h3, rfl⟩ := hp
  refine ⟨fun x hx => ?_, ht.symm⟩
  rw [ht] at hx
  rcases List.mem_append.1 hx with hx | hx
  · exact h3 x hx
  · simp at hx; subst hx; exact hq
theorem Part.len_not {q : Q} {l o : List Q} {i : Nat} (hp : Part q l i false o) : o.length ≤ i := by
  unfold Part at hp
  rw [if_neg (by simp)] at hp
  rw [hp.2, List.length_take]
  omega
theorem Part.all_in {q : Q} {l o : List Q} {i : Nat} (hi : l.length ≤ i) (hp : Part q l i true o) : o = ins q l := by
  unfold Part at hp
  rw [if_pos rfl, List.take_of_length_le hi] at hp
  exact hp.2
theorem Part.all_not {q : Q} {l o : List Q} {i : Nat} (hi : l.length ≤ i) (hp : Part q l i false o) : o ++ [q] = ins q l := by
  unfold Part at hp
  rw [if_neg (by simp), List.take_of_length_le hi] at hp
  obtain ⟨h, rfl⟩ := hp
  have := ins_behind (q := q) (ys := []) h
  rw [List.append_nil] at this
  exact this.symm
end Ft
theorem wpList_build1_18 {P : Program} {ops : Array Oper} {rest : List Oper} {o : Oper} {a : Act} {w w' : World} {Q : Exit → Act → World → Prop} (hgd : o.guard = none) (t : TypeId) (n m : Nat) (x : Operand) (ho : o.op = .buildSlice t n #[(m, x)])
    (u v : Value) (hx : a.eval x = u) (hrun : (Instr.buildSlice t n #[(m, u)]).run P w = .ok v w') (h : wpList P ops Q rest (a.put o.dst v) w') : wpList P ops Q (o :: rest) a w := by
  refine wpList_plain hgd fun _ hK => ?_
  unfold Oper.wp execOp
  simp only [ho, Sem.run_bind, Sem.run_pure, Result.andThen_ok, List.map_toArray, List.map_cons, List.map_nil, hx, hrun]
  exact hK _ _ h
theorem info_Qs : (Try.prog.info? 71).map (fun i => (i.zero.map (·.cells.size), i.size, i.bytes)) = some (some 68, 68, 96) := by kernel_rfl
theorem info_Q_in : ∃ (ih : TypeInfo) (zh : Value), Try.prog.info? 71 = some ih ∧ ih.zero = some zh ∧ ih.size = 68 ∧ ih.bytes = 96 ∧ zh.cells.size = 68 := by
  obtain ⟨ih, hi, h⟩ := Option.map_eq_some_iff.1 info_Qs
  simp only [Prod.mk.injEq, Option.map_eq_some_iff] at h
  obtain ⟨⟨zh, h1, h2⟩, h3, h4⟩ := h
  exact ⟨ih, zh, hi, h1, h3, h4, h2⟩
theorem zero_Q : ∃ z, ∀ w : World, (zeroValue 71).run Try.prog w = .ok z w := by
  obtain ⟨ih, zh, hi, hz, _⟩ := info_Q_in
  refine ⟨zh, fun w => ?_⟩
  simp [zeroValue, typeInfo, hi, hz]
theorem build_Q1 (q : Ft.Q) (hq : Ft.Q.Ok q) (w : World) : (Instr.buildSlice 29 1 #[(0, .agg (qcs q).toArray)]).run Try.prog w = .ok (.slice (some ⟨w.heap.size, 0, none⟩) 1 1) (w.alloc (.cells (qcs q).toArray 71)) := by
  obtain ⟨ih, zh, hi, hz, hs, _, _⟩ := info_Q_in
  obtain ⟨z, hzz⟩ := zero_Q
  exact run_buildSlice_one w _ 71 Try.underlying29 hi (qcs q).toArray (by rw [List.size_toArray, qcs_length hq, hs]) (by omega) (by omega) z (hzz w)
theorem zero_Qa (w : World) : (zeroValue 71).run Try.prog w = .ok (.agg (qcs ⟨((0, List.replicate 32 0), (0, List.replicate 32 0)), 0, 0⟩).toArray) w := by kernel_rfl
theorem hash32w (r : List UInt8) (h : r.length = 32) : ∃ b0 b1 b2 b3 b4 b5 b6 b7 b8 b9 b10 b11 b12 b13 b14 b15 b16 b17 b18 b19 b20 b21 b22 b23 b24 b25 b26 b27 b28 b29 b30 b31 : UInt8, r = [b0, b1, b2, b3, b4, b5, b6, b7, b8, b9, b10, b11, b12, b13, b14, b15, b16, b17, b18, b19, b20, b21, b22, b23, b24, b25, b26, b27, b28, b29, b30, b31] := by
  match r, h with
  | [b0, b1, b2, b3, b4, b5, b6, b7, b8, b9, b10, b11, b12, b13, b14, b15, b16, b17, b18, b19, b20, b21, b22, b23, b24, b25, b26, b27, b28, b29, b30, b31], _ => exact ⟨b0, b1, b2, b3, b4, b5, b6, b7, b8, b9, b10, b11, b12, b13, b14, b15, b16, b17, b18, b19, b20, b21, b22, b23, b24, b25, b26, b27, b28, b29, b30, b31, rfl⟩
theorem build_Qn (k : Ft.Wn) (hk : Ft.Wn.Ok k) (V : World) : (Instr.build 71 #[(0, .agg (kcs k.1).toArray), (1, .agg (kcs k.2).toArray), (3, .int .i64 1)]).run Try.prog V = .ok (.agg (qcs ⟨k, 0, 1⟩).toArray) V := by
  obtain ⟨⟨s1, r1⟩, ⟨s2, r2⟩⟩ := k
  obtain ⟨⟨_, h1⟩, ⟨_, h2⟩⟩ := hk
  obtain ⟨b0, b1, b2, b3, b4, b5, b6, b7, b8, b9, b10, b11, b12, b13, b14, b15, b16, b17, b18, b19, b20, b21, b22, b23, b24, b25, b26, b27, b28, b29, b30, b31, e1⟩ := hash32w r1 h1
  obtain ⟨c0, c1, c2, c3, c4, c5, c6, c7, c8, c9, c10, c11, c12, c13, c14, c15, c16, c17, c18, c19, c20, c21, c22, c23, c24, c25, c26, c27, c28, c29, c30, c31, e2⟩ := hash32w r2 h2
  subst e1
  subst e2
  kernel_rfl
end Go.Proofs.Ythnpgiagajfaiaa
