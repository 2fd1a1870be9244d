/-
  Digests, plainly: the last ones; those of a row that aren't in another one, each once. No number of any translation stands here.
-/
import Derived.Test.YtmhbfchhooggjaaFtM
namespace Go.Proofs.Ytmhbfchhooggjaa
set_option linter.unusedVariables false

namespace Dg
variable {α : Type}
def last (l : List α) : List α := l.drop (l.length - 32)
theorem last_length (l : List α) : (last l).length = min l.length 32 := by unfold last; rw [List.length_drop]; omega
theorem snoc_ind {p : List α → Prop} (h0 : p []) (h1 : ∀ l x, p l → p (l ++ [x])) (l : List α) : p l := by
  have h : ∀ n (l : List α), l.length = n → p l := by
    intro n
    induction n with
    | zero => intro l hl; rw [List.eq_nil_of_length_eq_zero hl]; exact h0
    | succ n ih =>
      intro l hl
      have hne : l ≠ [] := fun e => by rw [e] at hl; cases hl
      rw [← List.dropLast_concat_getLast hne]
      exact h1 _ _ (ih _ (by rw [List.length_dropLast]; omega))
  exact h _ l rfl
variable [DecidableEq α]
def kns (other : List α) (st : List α × List α) (x : α) : List α × List α := (st.1 ++ [x], if x ∈ other ∨ x ∈ st.1 then st.2 else st.2 ++ [x])
/-- Those of l that aren't in other, each once. -/
def knot (l other : List α) : List α := (l.foldl (kns other) ([], [])).2
theorem kns_seen (other : List α) : ∀ (l : List α) (st : List α × List α), (l.foldl (kns other) st).1 = st.1 ++ l
  | [], st => by simp
  | x :: l, st => by rw [List.foldl_cons, kns_seen other l]; simp [kns]
theorem knot_snoc (l other : List α) (x : α) : knot (l ++ [x]) other = if x ∈ other ∨ x ∈ l then knot l other else knot l other ++ [x] := by
  unfold knot
  rw [List.foldl_append, List.foldl_cons, List.foldl_nil]
  show (if x ∈ other ∨ x ∈ (l.foldl (kns other) ([], [])).1 then _ else _) = _
  rw [kns_seen]
  simp
theorem knot_nil (other : List α) : knot [] other = [] := rfl
theorem mem_knot (other l : List α) (y : α) : y ∈ knot l other ↔ y ∈ l ∧ y ∉ other := by
  refine snoc_ind (p := fun l => y ∈ knot l other ↔ y ∈ l ∧ y ∉ other) (by simp [knot_nil]) (fun l x ih => ?_) l
  rw [knot_snoc]
  split
  · rename_i h
    rw [ih, List.mem_append, List.mem_singleton]
    constructor
    · rintro ⟨h1, h2⟩; exact ⟨.inl h1, h2⟩
    · rintro ⟨h1 | h1, h2⟩
      · exact ⟨h1, h2⟩
      · subst h1
        rcases h with h | h
        · exact absurd h h2
        · exact ⟨h, h2⟩
  · rename_i h
    rw [List.mem_append, ih, List.mem_singleton, List.mem_append, List.mem_singleton]
    constructor
    · rintro (⟨h1, h2⟩ | h1)
      · exact ⟨.inl h1, h2⟩
      · subst h1; exact ⟨.inr rfl, fun h3 => h (.inl h3)⟩
    · rintro ⟨h1 | h1, h2⟩
      · exact .inl ⟨h1, h2⟩
      · exact .inr h1
theorem knot_nodup (other l : List α) : (knot l other).Nodup := by
  refine snoc_ind (p := fun l => (knot l other).Nodup) List.nodup_nil (fun l x ih => ?_) l
  rw [knot_snoc]
  split
  · exact ih
  · rename_i h
    rw [List.nodup_append]
    refine ⟨ih, by simp, fun a ha b hb => ?_⟩
    rw [List.mem_singleton] at hb
    subst hb
    rintro rfl
    exact h (.inr ((mem_knot other l a).1 ha).1)
theorem knot_sub {other l : List α} (h : ∀ x ∈ l, x ∈ other) : knot l other = [] := by
  cases hk : knot l other with
  | nil => rfl
  | cons y r =>
    have hy : y ∈ knot l other := by rw [hk]; simp
    obtain ⟨h1, h2⟩ := (mem_knot other l y).1 hy
    exact absurd (h y h1) h2
theorem knot_all (other l : List α) : l.Nodup → (∀ x ∈ l, x ∉ other) → knot l other = l := by
  refine snoc_ind (p := fun l => l.Nodup → (∀ x ∈ l, x ∉ other) → knot l other = l) (fun _ _ => rfl) (fun l x ih hn ho => ?_) l
  rw [List.nodup_append] at hn
  obtain ⟨h1, _, h3⟩ := hn
  rw [knot_snoc, if_neg, ih h1 (fun y hy => ho y (by simp [hy]))]
  rintro (h | h)
  · exact ho x (by simp) h
  · exact h3 x h x (by simp) rfl
theorem knot_le (other l : List α) : (knot l other).length ≤ l.length := by
  refine snoc_ind (p := fun l => (knot l other).length ≤ l.length) (Nat.le_refl _) (fun l x ih => ?_) l
  rw [knot_snoc, List.length_append]
  split
  · omega
  · rw [List.length_append]; simp; omega
theorem knot_take (other l : List α) (i : Nat) : (knot (l.take i) other).length ≤ i := Nat.le_trans (knot_le _ _) (by rw [List.length_take]; omega)
end Dg
end Go.Proofs.Ytmhbfchhooggjaa
