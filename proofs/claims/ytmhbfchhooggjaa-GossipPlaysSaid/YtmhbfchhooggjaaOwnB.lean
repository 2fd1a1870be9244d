/-
  Rows of the call's own: built, told apart from other blocks. No number of any translation stands here.
  'append(x, y...)' of hashes onto a row of the call's own. No number of any translation stands here.
-/
import Derived.Test.YtmhbfchhooggjaaRowB
import Derived.Test.YtmhbfchhooggjaaRowsG
import Derived.Deep.MidRow
import Derived.Laws.AppendOwn
namespace Go.Proofs.Ytmhbfchhooggjaa
open Go.RowKit Go.BigFrame
set_option linter.unusedVariables false

theorem fold_fill : ∀ (R : List Value) (k : Nat) (cs : Array Value), k + R.length = cs.size → (R.zipIdx k).foldl (fun cs (p : Value × Nat) => cs.setIfInBounds p.2 p.1) cs = (cs.toList.take k ++ R).toArray
  | [], k, cs, h => by
    have : cs.toList.take k = cs.toList := List.take_of_length_le (by simp at h ⊢; omega)
    simp [this]
  | c :: R, k, cs, h => by
    simp only [List.length_cons] at h
    rw [List.zipIdx_cons, List.foldl_cons, fold_fill R (k + 1) _ (by simp; omega)]
    congr 1
    have hk : k < cs.toList.length := by simp; omega
    rw [Array.toList_setIfInBounds, List.take_succ_eq_append_getElem (by simpa using hk), List.take_set_of_le (Nat.le_refl _), List.getElem_set_self, List.append_assoc]
    rfl
theorem run_buildSlice_one {P : Program} (w : World) (t e : TypeId) {i : TypeInfo} (ht : P.underlying t = some (.slice e)) (hi : P.info? e = some i) (R : Array Value) (hR : R.size = i.size) (h0 : 0 < i.size) (h1 : i.size ≤ 16777216) (z : Value) (hz : (zeroValue e).run P w = .ok z w) :
    (Instr.buildSlice t 1 #[(0, .agg R)]).run P w = .ok (.slice (some ⟨w.heap.size, 0, none⟩) 1 1) (w.alloc (.cells R e)) := by
  have hc : (Value.agg R).cells = R := rfl
  obtain ⟨zc, hzc⟩ : ∃ zc, z.cells = zc := ⟨_, rfl⟩
  have hf : Instr.fill (fun j => some (j * i.size, i.size)) ((Array.range (1 * i.size)).map fun j => zc[j % zc.size]!) [(0, .agg R)] = some R := by
    unfold Instr.fill
    simp only [hc, hR, Nat.zero_mul, Nat.zero_add, ne_eq, not_true_eq_false, decide_false, Bool.false_or, Array.size_map, Array.size_range, Nat.one_mul, gt_iff_lt, Nat.lt_irrefl, if_false, Bool.false_eq_true]
    unfold Instr.fill
    congr 1
    rw [← Array.foldl_toList, Array.toList_zipIdx]
    have := fold_fill R.toList 0 ((Array.range i.size).map fun j => zc[j % zc.size]!) (by simp [hR])
    simpa using this
  have h2 : ¬ 1 * i.size > 2 ^ 24 := by omega
  have h3 : ¬ 1 * i.size = 0 := by omega
  have hsize : (sizeOf e).run P w = .ok i.size w := by simp [sizeOf, typeInfo, hi]
  have hu : (underlying t).run P w = .ok (.slice e) w := run_underlying ht w
  unfold Instr.buildSlice
  simp only [Sem.run_bind, hu, Result.andThen_ok, hsize, Sem.run_ite, if_neg h2, if_neg h3, Sem.run_pure, hz, hzc, hf, newRow, run_newObj]
  rfl
def flat (ps : List (List UInt8)) : List Value := ps.flatMap bvs
theorem flat_length (ps : List (List UInt8)) (h : ∀ p ∈ ps, p.length = 32) : (flat ps).length = ps.length * 32 := by
  unfold flat
  induction ps with
  | nil => rfl
  | cons p ps ih =>
    rw [List.flatMap_cons, List.length_append, ih (fun q hq => h q (List.mem_cons_of_mem _ hq)), bvs_length, h p (by simp), List.length_cons]
    omega
theorem flat_snoc (ps : List (List UInt8)) (p : List UInt8) : flat (ps ++ [p]) = flat ps ++ bvs p := by
  unfold flat
  rw [List.flatMap_append]
  simp
theorem own_block {w : World} {base size n : Nat} {e : TypeId} {v : Value} {xs : List Value} (h : w.ownsRow base e size v n xs) (k : Nat) (hk : v.ownBlock = some k) : ∃ cur, w.heap[k]? = some (.cells cur e (0, 0)) ∧ base ≤ k := by
  rcases h.2 with ⟨rfl, _⟩ | ⟨g, cap, cur, rfl, hb, hg, _⟩
  · cases hk
  · simp only [Value.ownBlock, Option.some.injEq] at hk
    subst hk
    exact ⟨cur, hg, hb⟩
theorem own_apart {w : World} {base size n B : Nat} {e t : TypeId} {v : Value} {xs cs : List Value} (h : w.ownsRow base e size v n xs) (hB : Row w B t cs) (ht : t ≠ e) (k : Nat) (hk : v.ownBlock = some k) : k ≠ B := by
  obtain ⟨cur, hg, _⟩ := own_block h k hk
  rintro rfl
  unfold Row at hB
  rw [hB] at hg
  injection hg with hg
  injection hg with _ h2
  exact ht h2
theorem own_slice {w : World} {base size n : Nat} {e : TypeId} {v : Value} {xs : List Value} (h : w.ownsRow base e size v n xs) : ∃ A c, v = .slice A n c := by
  rcases h.2 with ⟨rfl, rfl⟩ | ⟨g, cap, cur, rfl, _⟩
  · exact ⟨_, _, rfl⟩
  · exact ⟨_, _, rfl⟩
theorem own_fresh {w : World} {base g n size : Nat} {e : TypeId} {cs : List Value} (hg : w.heap[g]? = some (.cells cs.toArray e (0, 0))) (hb : base ≤ g) (hl : cs.length = n * size) (hm : n ≤ maxLen) : w.ownsRow base e size (.slice (some ⟨g, 0, none⟩) n n) n cs :=
  ⟨hl, .inr ⟨g, n, cs.toArray, rfl, hb, hg, Nat.le_refl _, hm, by simpa using hl, by simp [← hl]⟩⟩
theorem own_base {w : World} {b1 b2 size n : Nat} {e : TypeId} {v : Value} {xs : List Value} (h : w.ownsRow b1 e size v n xs) (hb : b2 ≤ b1) : w.ownsRow b2 e size v n xs := by
  refine ⟨h.1, ?_⟩
  rcases h.2 with h4 | ⟨g, cap, cur, h4, h5, h6⟩
  · exact .inl h4
  · exact .inr ⟨g, cap, cur, h4, Nat.le_trans hb h5, h6⟩
end Go.Proofs.Ytmhbfchhooggjaa
namespace Go.Proofs.Ytmhbfchhooggjaa
open Go.RowKit Go.BigFrame
set_option linter.unusedVariables false

/-- 'append(x, y...)' of hashes onto a row of the call's own. -/
theorem run_append_hashes {P : Program} (w : World) (base : Nat) (t ty e : TypeId) (i : TypeInfo) (z : Value) (size bytes : Nat) (ht : P.underlying t = some (.slice e)) (hi : P.info? e = some i) (hz : i.zero = some z)
    (hsize : i.size = size) (hby : i.bytes = bytes) (hzs : z.cells.size = size) (hsz : 0 < size) (v : Value) (n : Nat) (xs : List Value) (hown : w.ownsRow base e size v n xs)
    (u : Value) (m : Nat) (news : List Value) (b2 : Nat) (hu : w.ownsRow b2 e size u m news) (h1 : ∀ u ∈ news, u.oneCell' = true) (h63 : n + m ≤ maxLen) (hbytes : (n + m) * bytes ≤ 140737488355328) (hbase : base ≤ w.heap.size) :
    ∃ v' w', (Builtin.append_ #[t, t] ty #[v, u]).run P w = .ok v' w' ∧ w'.ownsRow base e size v' (n + m) (xs ++ news) ∧ w.grownBy w' v.ownBlock := by
  rcases hu.2 with ⟨rfl, rfl⟩ | ⟨g, cap, cur, rfl, _⟩
  · have hn : news = [] := List.eq_nil_of_length_eq_zero (by rw [hu.1, Nat.zero_mul])
    subst hn
    refine ⟨v, w, ?_, by simpa using hown, ⟨rfl, rfl, rfl, Nat.le_refl _, fun _ _ _ => rfl⟩⟩
    rcases hown.2 with ⟨rfl, _⟩ | ⟨g, cap, cur, rfl, _, _, hnc, _⟩
    · simp [Builtin.append_, run_underlying ht, sizeOf, typeInfo, hi, Builtin.lenOf, Builtin.firstCells]
    · simp [Builtin.append_, run_underlying ht, sizeOf, typeInfo, hi, Builtin.lenOf, Builtin.firstCells, hnc, storeCells]
  · obtain ⟨v', w', hr, h2, h3, _⟩ := run_append_own (P := P) w base t ty e i z size bytes ht hi hz hsize hby hzs hsz v n xs hown ⟨g, 0, none⟩ m cap news hu.1 (fun j x hx => hu.cells (g := g) rfl j x hx) h1 h63 hbytes hbase
    exact ⟨v', w', hr, h2, h3⟩
theorem wpList_append_hashes {P : Program} {w : World} {ops : Array Oper} {rest : List Oper} {o : Oper} {a : Act} {Q : Exit → Act → World → Prop} (hgd : o.guard = none) (s x : Operand) (t : TypeId)
    (ho : o.op = .call { callee := .builtin .append, args := #[s, x], argTypes := #[t, t] })
    (base : Nat) (e : TypeId) (i : TypeInfo) (z : Value) (size bytes : Nat) (ht : P.underlying t = some (.slice e)) (hi : P.info? e = some i) (hz : i.zero = some z)
    (hsize : i.size = size) (hby : i.bytes = bytes) (hzs : z.cells.size = size) (hsz : 0 < size)
    (v : Value) (n : Nat) (xs : List Value) (hs : a.eval s = v) (hown : w.ownsRow base e size v n xs)
    (u : Value) (m : Nat) (news : List Value) (b2 : Nat) (hx : a.eval x = u) (hu : w.ownsRow b2 e size u m news) (h1 : ∀ u ∈ news, u.oneCell' = true)
    (h63 : n + m ≤ maxLen) (hbytes : (n + m) * bytes ≤ 140737488355328) (hbase : base ≤ w.heap.size)
    (h : ∀ v' w', w'.ownsRow base e size v' (n + m) (xs ++ news) → w.grownBy w' v.ownBlock → wpList P ops Q rest (a.put o.dst v') w') :
    wpList P ops Q (o :: rest) a w := by
  refine wpList_plain hgd fun _ hK => ?_
  obtain ⟨v', w', hr, h2, h3⟩ := run_append_hashes (P := P) w base t o.type e i z size bytes ht hi hz hsize hby hzs hsz v n xs hown u m news b2 hu h1 h63 hbytes hbase
  unfold Oper.wp execOp
  simp only [ho, resolve, invoke, builtin, Sem.run_bind, Sem.run_pure, Result.andThen_ok, List.map_toArray, List.map_cons, List.map_nil, hs, hx, hr]
  exact hK _ _ (h v' w' h2 h3)
theorem flat_one (ps : List (List UInt8)) : ∀ u ∈ flat ps, u.oneCell' = true := by
  intro u hu
  unfold flat at hu
  obtain ⟨p, _, h⟩ := List.mem_flatMap.1 hu
  exact bvs_one p u h
theorem own_cap {w : World} {base size n : Nat} {e : TypeId} {A : Option Addr} {l c : Nat} {xs : List Value} (h : w.ownsRow base e size (.slice A l c) n xs) : l = n ∧ n ≤ c ∧ c ≤ 9223372036854775807 := by
  rcases h.2 with ⟨h, hs0⟩ | ⟨g, cap, cur, h, _, _, h1, h2, _⟩
  · injection h with _ h2 h3; subst h2; subst h3; exact ⟨hs0.symm, by omega, by omega⟩
  · injection h with _ h3 h4; subst h3; subst h4; unfold maxLen at h2; exact ⟨rfl, h1, h2⟩
end Go.Proofs.Ytmhbfchhooggjaa
