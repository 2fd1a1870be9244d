/-
  The path to a place (tree.Path).
-/
import Derived.Test.YtnnhbgaeohdojaaDoorTrC
import Derived.Laws.AppendOwn
namespace Go.Proofs.YtnnhbgaeohdojaaDoor
open Go.RowKit Go.BigFrame
set_option linter.unusedVariables false

/-! ### A slice of one array is made -/
theorem fold_fill : ∀ (R : List Value) (k : Nat) (cs : Array Value), k + R.length = cs.size → (R.zipIdx k).foldl (fun cs (p : Value × Nat) => cs.setIfInBounds p.2 p.1) cs = (cs.toList.take k ++ R).toArray
  | [], k, cs, h => by
    have : cs.toList.take k = cs.toList := List.take_of_length_le (by simp at h ⊢; omega)
    simp [this]
  | c :: R, k, cs, h => by
    simp only [List.length_cons] at h
    rw [List.zipIdx_cons, List.foldl_cons, fold_fill R (k + 1) _ (by simp; omega)]
    congr 1
    have hk : k < cs.toList.length := by simp; omega
    rw [Array.toList_setIfInBounds, List.take_succ_eq_append_getElem (by simpa using hk), List.take_set_of_le (Nat.le_refl _), List.getElem_set_self, List.append_assoc]
    rfl
theorem run_buildSlice_one {P : Program} (w : World) (t e : TypeId) {i : TypeInfo} (ht : P.underlying t = some (.slice e)) (hi : P.info? e = some i) (R : Array Value) (hR : R.size = i.size) (h0 : 0 < i.size) (h1 : i.size ≤ 16777216) (z : Value) (hz : (zeroValue e).run P w = .ok z w) :
    (Instr.buildSlice t 1 #[(0, .agg R)]).run P w = .ok (.slice (some ⟨w.heap.size, 0, none⟩) 1 1) (w.alloc (.cells R e)) := by
  have hc : (Value.agg R).cells = R := rfl
  obtain ⟨zc, hzc⟩ : ∃ zc, z.cells = zc := ⟨_, rfl⟩
  have hf : Instr.fill (fun j => some (j * i.size, i.size)) ((Array.range (1 * i.size)).map fun j => zc[j % zc.size]!) [(0, .agg R)] = some R := by
    unfold Instr.fill
    simp only [hc, hR, Nat.zero_mul, Nat.zero_add, ne_eq, not_true_eq_false, decide_false, Bool.false_or, Array.size_map, Array.size_range, Nat.one_mul, gt_iff_lt, Nat.lt_irrefl, if_false, Bool.false_eq_true]
    unfold Instr.fill
    congr 1
    rw [← Array.foldl_toList, Array.toList_zipIdx]
    have := fold_fill R.toList 0 ((Array.range i.size).map fun j => zc[j % zc.size]!) (by simp [hR])
    simpa using this
  have h2 : ¬ 1 * i.size > 2 ^ 24 := by omega
  have h3 : ¬ 1 * i.size = 0 := by omega
  have hsize : (sizeOf e).run P w = .ok i.size w := by simp [sizeOf, typeInfo, hi]
  have hu : (underlying t).run P w = .ok (.slice e) w := run_underlying ht w
  unfold Instr.buildSlice
  simp only [Sem.run_bind, hu, Result.andThen_ok, hsize, Sem.run_ite, if_neg h2, if_neg h3, Sem.run_pure, hz, hzc, hf, newRow, run_newObj]
  rfl
/-! ### The hashes that have been gathered -/
def flat (ps : List (List UInt8)) : List Value := ps.flatMap bvs
theorem flat_length (ps : List (List UInt8)) (h : ∀ p ∈ ps, p.length = 32) : (flat ps).length = ps.length * 32 := by
  unfold flat
  induction ps with
  | nil => rfl
  | cons p ps ih =>
    rw [List.flatMap_cons, List.length_append, ih (fun q hq => h q (List.mem_cons_of_mem _ hq)), bvs_length, h p (by simp), List.length_cons]
    omega
theorem flat_snoc (ps : List (List UInt8)) (p : List UInt8) : flat (ps ++ [p]) = flat ps ++ bvs p := by
  unfold flat
  rw [List.flatMap_append]
  simp
/-- The closure that goes down, in its variable. -/
def downFn (Bd Bp : Nat) : Value := .func (.func 45) #[] #[.pointer (some ⟨Bd, 0, none⟩), .pointer (some ⟨Bp, 0, none⟩)]
structure DownSt (w0 : World) (Bd Bp : Nat) (ps : List (List UInt8)) (w : World) : Prop where
  keep : Keeps (fun k => w0.heap.size ≤ k) w0 w
  lo : w0.heap.size ≤ Bd ∧ w0.heap.size ≤ Bp ∧ Bd ≠ Bp
  fn : Row w Bd 67 [downFn Bd Bp]
  len : ∀ p ∈ ps, p.length = 32
  var : ∃ v, Row w Bp 28 [v] ∧ w.ownsRow w0.heap.size 34 32 v ps.length (flat ps)
theorem own_block {w : World} {base size n : Nat} {e : TypeId} {v : Value} {xs : List Value} (h : w.ownsRow base e size v n xs) (k : Nat) (hk : v.ownBlock = some k) : ∃ cur, w.heap[k]? = some (.cells cur e (0, 0)) ∧ base ≤ k := by
  rcases h.2 with ⟨rfl, _⟩ | ⟨g, cap, cur, rfl, hb, hg, _⟩
  · cases hk
  · simp only [Value.ownBlock, Option.some.injEq] at hk
    subst hk
    exact ⟨cur, hg, hb⟩
theorem own_apart {w : World} {base size n B : Nat} {e t : TypeId} {v : Value} {xs cs : List Value} (h : w.ownsRow base e size v n xs) (hB : Row w B t cs) (ht : t ≠ e) (k : Nat) (hk : v.ownBlock = some k) : k ≠ B := by
  obtain ⟨cur, hg, _⟩ := own_block h k hk
  rintro rfl
  unfold Row at hB
  rw [hB] at hg
  injection hg with hg
  injection hg with _ h2
  exact ht h2
theorem DownSt.later {w0 w w' : World} {Bd Bp : Nat} {ps : List (List UInt8)} (h : DownSt w0 Bd Bp ps w) (hk : Keeps (fun _ => False) w w') : DownSt w0 Bd Bp ps w' := by
  obtain ⟨v, h1, h2⟩ := h.var
  exact ⟨h.keep.trans' hk (fun _ _ h => h.elim), h.lo, h.fn.keeps hk id, h.len, v, h1.keeps hk id, hk.owns h2 (fun _ _ => id)⟩
theorem path_few (l : List (List UInt8)) (i : Nat) (h : i < l.length) : (Tr.path l i).length < l.length := by
  have : ∀ f (l : List (List UInt8)) i, 1 ≤ l.length → (Tr.pathF f l i).length < l.length := by
    intro f
    induction f with
    | zero => intro l i h; exact h
    | succ f ih =>
      intro l i h
      unfold Tr.pathF
      split
      · exact h
      · have a := Tr.split_pos (n := l.length) (by omega)
        have b := Tr.split_lt (n := l.length) (by omega)
        split
        · have := ih (l.take (Tr.split l.length)) i (by rw [List.length_take]; omega)
          rw [List.length_take] at this
          rw [List.length_append, List.length_singleton]
          omega
        · have := ih (l.drop (Tr.split l.length)) (i - Tr.split l.length) (by rw [List.length_drop]; omega)
          rw [List.length_drop] at this
          rw [List.length_append, List.length_singleton]
          omega
  exact this l.length l i (by omega)
end Go.Proofs.YtnnhbgaeohdojaaDoor
