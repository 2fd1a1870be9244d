/-
  Peaks in plain Lean: they are the roots of the whole parts, and make the root. No number of any translation stands here.
-/
import Derived.Test.YtnnhbgaeohdojaaDoorFrM
namespace Go.Proofs.YtnnhbgaeohdojaaDoor.Tr
set_option linter.unusedVariables false
open On (ones)

/-- The peaks of entries. -/
def pkF : List Bytes → Nat → List Bytes → List Bytes
  | [], _, ps => ps
  | x :: l, n, ps => pkF l (n + 1) (addP n ps (leaf x))
def pk (l : List Bytes) : List Bytes := pkF l 0 []
theorem pkF_snoc : ∀ (l : List Bytes) (n : Nat) (ps : List Bytes) (x : Bytes), pkF (l ++ [x]) n ps = addP (n + l.length) (pkF l n ps) (leaf x)
  | [], n, ps, x => rfl
  | y :: l, n, ps, x => by
    show pkF (l ++ [x]) (n + 1) _ = _
    rw [pkF_snoc l, List.length_cons]
    show addP (n + 1 + l.length) _ _ = addP (n + (l.length + 1)) _ _
    rw [show n + 1 + l.length = n + (l.length + 1) by omega]
    rfl
theorem pk_snoc (l : List Bytes) (x : Bytes) : pk (l ++ [x]) = addP l.length (pk l) (leaf x) := by
  unfold pk
  rw [pkF_snoc, Nat.zero_add]
/-- A stack of parts, the top first: each bit of the size that is 1 has one. -/
def Bin : Nat → Nat → Nat → List (List Bytes) → Prop
  | 0, _, left, st => left = 0 ∧ st = []
  | f + 1, j, left, st => if left % 2 = 1 then ∃ s r, st = s :: r ∧ s.length = 2 ^ j ∧ Bin f (j + 1) (left / 2) r else Bin f (j + 1) (left / 2) st
def carryS : List (List Bytes) → Nat → List Bytes → List (List Bytes)
  | [], _, s => [s]
  | t :: r, left, s => if left % 2 = 1 then carryS r (left / 2) (t ++ s) else s :: t :: r
theorem carryS_even (st : List (List Bytes)) (left : Nat) (s : List Bytes) (h : left % 2 = 0) : carryS st left s = s :: st := by
  cases st with
  | nil => rfl
  | cons t r => unfold carryS; rw [if_neg (by omega)]
theorem carryS_odd (t : List Bytes) (r : List (List Bytes)) (left : Nat) (s : List Bytes) (h : left % 2 = 1) : carryS (t :: r) left s = carryS r (left / 2) (t ++ s) := by
  rw [carryS, if_pos h]
theorem Bin.push : ∀ (f j left : Nat) (st : List (List Bytes)) (s : List Bytes), Bin f j left st → s.length = 2 ^ j → left + 1 < 2 ^ f →
    Bin f j (left + 1) (carryS st left s) ∧ carry (st.map root) left (root s) = (carryS st left s).map root ∧ cat (carryS st left s) = cat st ++ s
  | 0, j, left, st, s, _, _, h => by simp at h
  | f + 1, j, left, st, s, hB, hs, h => by
    rw [Nat.pow_succ] at h
    unfold Bin at hB
    by_cases ho : left % 2 = 1
    · rw [if_pos ho] at hB
      obtain ⟨t, r, rfl, ht, hr⟩ := hB
      obtain ⟨h1, h2, h3⟩ := Bin.push f (j + 1) (left / 2) r (t ++ s) hr (by rw [List.length_append, ht, hs, Nat.pow_succ]; omega) (by omega)
      have hrc := root_cat t s j ht (by rw [hs]; exact Nat.one_le_two_pow) (by omega)
      rw [carryS_odd _ _ _ _ ho]
      refine ⟨?_, ?_, ?_⟩
      · unfold Bin
        rw [if_neg (by omega), show (left + 1) / 2 = left / 2 + 1 by omega]
        exact h1
      · rw [List.map_cons, carry_odd _ _ _ _ ho, ← hrc]
        exact h2
      · rw [h3]
        show cat r ++ (t ++ s) = cat r ++ t ++ s
        rw [List.append_assoc]
    · rw [if_neg ho] at hB
      rw [carryS_even _ _ _ (by omega), carry_even _ _ _ (by omega)]
      refine ⟨?_, rfl, rfl⟩
      unfold Bin
      rw [if_pos (by omega)]
      exact ⟨s, st, rfl, hs, by rw [show (left + 1) / 2 = left / 2 by omega]; exact hB⟩
theorem Bin.up : ∀ (f j left : Nat) (st : List (List Bytes)), Bin f j left st → Up st ∧ ∀ t, st.head? = some t → 2 ^ j ≤ t.length
  | 0, j, left, st, ⟨_, e⟩ => by subst e; exact ⟨trivial, fun t h => by simp at h⟩
  | f + 1, j, left, st, h => by
    unfold Bin at h
    split at h
    · obtain ⟨s, r, rfl, hs, hr⟩ := h
      obtain ⟨h1, h2⟩ := Bin.up f (j + 1) (left / 2) r hr
      refine ⟨⟨⟨j, hs⟩, fun t ht => ?_, h1⟩, fun t ht => ?_⟩
      · have := h2 t ht
        rw [Nat.pow_succ] at this
        have := Nat.one_le_two_pow (n := j)
        omega
      · simp at ht
        subst ht
        omega
    · obtain ⟨h1, h2⟩ := Bin.up f (j + 1) (left / 2) st h
      refine ⟨h1, fun t ht => ?_⟩
      have := h2 t ht
      rw [Nat.pow_succ] at this
      omega
theorem Bin.zero : ∀ (f j : Nat), Bin f j 0 []
  | 0, _ => ⟨rfl, rfl⟩
  | f + 1, j => by unfold Bin; rw [if_neg (by omega)]; exact Bin.zero f (j + 1)
theorem pk_stack (n : Nat) : ∀ (l : List Bytes), l.length = n → n < 18446744073709551616 → ∃ st, Bin 64 0 n st ∧ cat st = l ∧ (pk l).reverse = st.map root := by
  induction n with
  | zero =>
    intro l hl _
    have : l = [] := List.eq_nil_of_length_eq_zero hl
    subst this
    exact ⟨[], Bin.zero _ _, rfl, rfl⟩
  | succ n ih =>
    intro l hl hn
    obtain ⟨l', x, rfl⟩ : ∃ l' x, l = l' ++ [x] := ⟨l.dropLast, l.getLast (by intro h; subst h; simp at hl), (List.dropLast_concat_getLast _).symm⟩
    rw [List.length_append, List.length_singleton] at hl
    obtain ⟨st, h1, h2, h3⟩ := ih l' (by omega) (by omega)
    obtain ⟨p1, p2, p3⟩ := Bin.push 64 0 n st [x] h1 rfl (by omega)
    refine ⟨_, p1, by rw [p3, h2], ?_⟩
    rw [pk_snoc, show l'.length = n by omega]
    unfold addP
    rw [List.reverse_reverse, h3, ← root_one, p2]
theorem pk_length (l : List Bytes) (h : l.length < 18446744073709551616) : (pk l).length = ones 64 l.length := by
  have : ∀ n (l : List Bytes), l.length = n → n < 18446744073709551616 → (pk l).length = ones 64 n := by
    intro n
    induction n with
    | zero =>
      intro l hl _
      have : l = [] := List.eq_nil_of_length_eq_zero hl
      subst this
      rfl
    | succ n ih =>
      intro l hl hn
      obtain ⟨l', x, rfl⟩ : ∃ l' x, l = l' ++ [x] := ⟨l.dropLast, l.getLast (by intro h; subst h; simp at hl), (List.dropLast_concat_getLast _).symm⟩
      rw [List.length_append, List.length_singleton] at hl
      rw [pk_snoc, show l'.length = n by omega]
      exact addP_length n _ _ (by omega) (ih l' (by omega) (by omega))
  exact this _ l rfl h
/-- The root that peaks make. -/
def peakRoot (ps : List Bytes) : Bytes := match ps.reverse with
  | [] => Sh.sha []
  | r :: rs => rs.foldl (fun h p => node p h) r
theorem peakRoot_pk (l : List Bytes) (h : l.length < 18446744073709551616) : peakRoot (pk l) = root l := by
  obtain ⟨st, h1, h2, h3⟩ := pk_stack _ l rfl h
  unfold peakRoot
  rw [h3]
  cases st with
  | nil =>
    have h2 : ([] : List Bytes) = l := h2
    subst h2
    rfl
  | cons s r =>
    rw [← h2, ← fold_all s r (Bin.up _ _ _ _ h1).1]
    show (r.map root).foldl _ _ = _
    rw [List.foldl_map]
theorem pk_seven (a b c d e f g : Bytes) : pk [a, b, c, d, e, f, g] = [root [a, b, c, d], root [e, f], leaf g] := by
  have h2 : ∀ x y : Bytes, root [x, y] = node (leaf x) (leaf y) := fun x y => by
    have := root_cat [x] [y] 0 rfl (by simp) (by simp)
    rw [root_one, root_one] at this
    exact this
  have h4 : root [a, b, c, d] = node (node (leaf a) (leaf b)) (node (leaf c) (leaf d)) := by
    have := root_cat [a, b] [c, d] 1 rfl (by simp) (by simp)
    rw [h2, h2] at this
    exact this
  rw [h4, h2]
  simp [pk, pkF, addP, carry]
end Go.Proofs.YtnnhbgaeohdojaaDoor.Tr
