/-
  What a path makes, as the document's own answer makes it: from below, along the places from the top, turned. No translation stands here.
-/
import Derived.Test.YtfokemminjikpaaDoorChM
namespace Go.Proofs.YtfokemminjikpaaDoor
set_option linter.unusedVariables false
namespace Tr
theorem split_unique {n k j : Nat} (h2 : 2 ≤ n) (hk : k = 2 ^ j) (h : k < n) (h' : n ≤ 2 * k) : split n = k := by
  unfold split
  rw [if_neg (by omega), hk]
  congr 1
  rw [Nat.log2_eq_iff (by omega), Nat.pow_succ]
  omega
/-- Of a place: is it in the first part, from the top down? -/
def leftF : Nat → Nat → Nat → List Bool
  | 0, _, _ => []
  | f + 1, n, i => if n < 2 then [] else decide (i < split n) :: (if i < split n then leftF f (split n) i else leftF f (n - split n) (i - split n))
def lefts (n i : Nat) : List Bool := leftF 64 n i
theorem leftF_few (f n i : Nat) (h : n < 2) : leftF f n i = [] := by
  cases f with
  | zero => rfl
  | succ f => unfold leftF; rw [if_pos h]
theorem leftF_fuel : ∀ (f n i g : Nat), deep n ≤ f → deep n ≤ g → leftF f n i = leftF g n i
  | f, n, i, g, hf, hg => by
    by_cases h : n < 2
    · rw [leftF_few _ _ _ h, leftF_few _ _ _ h]
    have l := deep_left (n := n) (by omega)
    have r := deep_right (n := n) (by omega)
    obtain ⟨f, rfl⟩ : ∃ f', f = f' + 1 := ⟨f - 1, by omega⟩
    obtain ⟨g, rfl⟩ : ∃ g', g = g' + 1 := ⟨g - 1, by omega⟩
    unfold leftF
    rw [if_neg h, if_neg h, leftF_fuel f _ _ g (by omega) (by omega), leftF_fuel f _ _ g (by omega) (by omega)]
  termination_by f => f
theorem lefts_few {n : Nat} (i : Nat) (h : n < 2) : lefts n i = [] := leftF_few _ _ _ h
theorem lefts_more {n : Nat} (i : Nat) (h : 2 ≤ n) (h1 : n ≤ 18446744073709551616) : lefts n i = decide (i < split n) :: (if i < split n then lefts (split n) i else lefts (n - split n) (i - split n)) := by
  have d : deep n ≤ 64 := deep_le (by simpa using h1)
  have l := deep_left h
  have r := deep_right h
  unfold lefts
  rw [leftF_fuel 64 (split n) i 63 (by omega) (by omega), leftF_fuel 64 (n - split n) _ 63 (by omega) (by omega)]
  show (if n < 2 then _ else _) = _
  rw [if_neg (by omega)]
theorem lefts_length : ∀ (d n i : Nat), deep n ≤ d → n ≤ 18446744073709551616 → (lefts n i).length = steps n i
  | d, n, i, hd, hb => by
    by_cases h : n < 2
    · rw [lefts_few i h, steps_few i h]; rfl
    have l := deep_left (n := n) (by omega)
    have r := deep_right (n := n) (by omega)
    have a := split_pos (n := n) (by omega)
    have b := split_lt (n := n) (by omega)
    obtain ⟨d, rfl⟩ : ∃ d', d = d' + 1 := ⟨d - 1, by omega⟩
    rw [lefts_more i (by omega) hb, steps_more i (by omega) hb, List.length_cons]
    split
    · rw [lefts_length d _ i (by omega) (by omega)]
    · rw [lefts_length d _ _ (by omega) (by omega)]
  termination_by d => d
/-- One step up. -/
def up (h : Bytes) (s : Bytes × Bool) : Bytes := if s.2 then node h s.1 else node s.1 h
theorem up_length (h : Bytes) (s : Bytes × Bool) : (up h s).length = 32 := by unfold up; split <;> rfl
theorem made_up : ∀ (d n i : Nat) (h : Bytes) (p : List Bytes), deep n ≤ d → n ≤ 18446744073709551616 → p.length = steps n i → made n i h p = (p.zip (lefts n i).reverse).foldl up h
  | d, n, i, h, p, hd, hb, hp => by
    by_cases h2 : n < 2
    · rw [made_few _ _ _ h2, lefts_few i h2, List.reverse_nil, List.zip_nil_right]; rfl
    have l := deep_left (n := n) (by omega)
    have r := deep_right (n := n) (by omega)
    have a := split_pos (n := n) (by omega)
    have b := split_lt (n := n) (by omega)
    obtain ⟨d, rfl⟩ : ∃ d', d = d' + 1 := ⟨d - 1, by omega⟩
    rw [steps_more i (by omega) hb] at hp
    rw [made_more i h p (by omega) hb, lefts_more i (by omega) hb, List.reverse_cons]
    have hpos : 0 < p.length := by rw [hp]; split <;> omega
    have hsp : p = p.take (p.length - 1) ++ [p.getD (p.length - 1) []] := by
      have h1 : p.length - 1 + 1 = p.length := by omega
      have h3 : p.length - 1 < p.length := by omega
      have := List.take_succ_eq_append_getElem h3
      rw [h1, List.take_length] at this
      rw [List.getD_eq_getElem?_getD, List.getElem?_eq_getElem h3]
      exact this
    have hl : (p.take (p.length - 1)).length = p.length - 1 := by rw [List.length_take]; omega
    obtain ⟨q, hq⟩ : ∃ q, p.take (p.length - 1) = q := ⟨_, rfl⟩
    obtain ⟨x, hx⟩ : ∃ x, p.getD (p.length - 1) [] = x := ⟨_, rfl⟩
    rw [hq] at hl hsp
    rw [hx] at hsp
    rw [hq, hx, hsp]
    split
    · rename_i hk
      rw [if_pos hk] at hp
      have hll : q.length = (lefts (split n) i).reverse.length := by rw [List.length_reverse, lefts_length d _ i (by omega) (by omega)]; omega
      rw [List.zip_append hll, List.foldl_append, ← made_up d _ i h q (by omega) (by omega) (by omega), decide_eq_true hk]
      rfl
    · rename_i hk
      rw [if_neg hk] at hp
      have hll : q.length = (lefts (n - split n) (i - split n)).reverse.length := by rw [List.length_reverse, lefts_length d _ _ (by omega) (by omega)]; omega
      rw [List.zip_append hll, List.foldl_append, ← made_up d _ _ h q (by omega) (by omega) (by omega), decide_eq_false hk]
      rfl
  termination_by d => d
/-- So far up. -/
def upTo (h : Bytes) (p : List Bytes) (ls : List Bool) (j : Nat) : Bytes := ((p.zip ls.reverse).take j).foldl up h
theorem upTo_zero (h : Bytes) (p : List Bytes) (ls : List Bool) : upTo h p ls 0 = h := rfl
theorem upTo_succ (h : Bytes) (p : List Bytes) (ls : List Bool) (j : Nat) (x : Bytes) (b : Bool) (hx : p[j]? = some x) (hb : ls[ls.length - 1 - j]? = some b) (hj : j < ls.length) : upTo h p ls (j + 1) = if b then node (upTo h p ls j) x else node x (upTo h p ls j) := by
  have hr : ls.reverse[j]? = some b := by rw [List.getElem?_reverse hj]; exact hb
  have hz : (p.zip ls.reverse)[j]? = some (x, b) := by rw [List.getElem?_zip_eq_some]; exact ⟨hx, hr⟩
  have hlt : j < (p.zip ls.reverse).length := (List.getElem?_eq_some_iff.1 hz).1
  unfold upTo
  rw [List.take_succ_eq_append_getElem hlt, List.foldl_append]
  have e : (p.zip ls.reverse)[j] = (x, b) := (List.getElem?_eq_some_iff.1 hz).2
  rw [e]
  rfl
theorem upTo_all (h : Bytes) (p : List Bytes) (ls : List Bool) (hl : p.length = ls.length) : upTo h p ls p.length = (p.zip ls.reverse).foldl up h := by
  unfold upTo
  rw [List.take_of_length_le (by rw [List.length_zip, List.length_reverse]; omega)]
theorem upTo_length (h : Bytes) (p : List Bytes) (ls : List Bool) (j : Nat) (hh : h.length = 32) : (upTo h p ls j).length = 32 := by
  unfold upTo
  have : ∀ (l : List (Bytes × Bool)) (h : Bytes), h.length = 32 → (l.foldl up h).length = 32 := by
    intro l
    induction l with
    | nil => intro h hh; exact hh
    | cons s l ih => intro h hh; exact ih _ (up_length h s)
  exact this _ h hh
end Tr
end Go.Proofs.YtfokemminjikpaaDoor
