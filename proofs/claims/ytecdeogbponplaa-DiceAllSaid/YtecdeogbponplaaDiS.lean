/-
  Lists of numbers that differ, and who of them has been seen. No number of any translation stands here.
-/
import Derived.Test.YtecdeogbponplaaDiM
namespace Go.Proofs.Ytecdeogbponplaa
open Go.RowKit
set_option linter.unusedVariables false

/-- The first ones, so many times. -/
def tms (c : Int) (n : Nat) : List Int := (List.range n).map (fun j : Nat => c * (j : Int))
theorem tms_length (c : Int) (n : Nat) : (tms c n).length = n := by simp [tms]
theorem tms_snoc (c : Int) (n : Nat) : tms c (n + 1) = tms c n ++ [c * (n : Int)] := by simp [tms, List.range_succ]
theorem tms_get (c : Int) (n i : Nat) (h : i < n) : (tms c n)[i]? = some (c * (i : Int)) := by
  unfold tms
  rw [List.getElem?_map, List.getElem?_range h]
  rfl
theorem tms_mem {c : Int} {n : Nat} {x : Int} (h : x ∈ tms c n) : ∃ j : Nat, j < n ∧ x = c * (j : Int) := by
  unfold tms at h
  obtain ⟨j, hj, rfl⟩ := List.mem_map.1 h
  exact ⟨j, List.mem_range.1 hj, rfl⟩
theorem nodup_range (n : Nat) : (List.range n).Nodup := List.nodup_range
theorem tms_nodup (c : Int) (hc : 0 < c) (n : Nat) : (tms c n).Nodup := by
  unfold tms
  refine List.Pairwise.map _ (fun a b hab h => hab ?_) (nodup_range n)
  have : (a : Int) = b := Int.eq_of_mul_eq_mul_left (by omega) h
  omega
/-- Who has been seen. -/
def sv (c : Int) (n : Nat) (l : List Int) : List Value := (List.range n).map (fun j : Nat => Value.bool (decide (c * (j : Int) ∈ l)))
theorem sv_nil (c : Int) (n : Nat) : sv c n [] = List.replicate n (.bool false) := by
  apply List.ext_getElem
  · simp [sv]
  · intro i h1 h2; simp [sv]
theorem sv_length (c : Int) (n : Nat) (l : List Int) : (sv c n l).length = n := by simp [sv]
theorem sv_get (c : Int) (n : Nat) (l : List Int) (j : Nat) (h : j < n) : (sv c n l)[j]? = some (.bool (decide (c * (j : Int) ∈ l))) := by
  unfold sv
  rw [List.getElem?_map, List.getElem?_range h]
  rfl
theorem sv_set (c : Int) (hc : 0 < c) (n : Nat) (l : List Int) (j : Nat) : (sv c n l).set j (.bool true) = sv c n (l ++ [c * (j : Int)]) := by
  apply List.ext_getElem
  · simp [sv]
  · intro i h1 h2
    rw [List.getElem_set]
    by_cases e : j = i
    · subst e; simp [sv]
    · rw [if_neg e]
      have : ¬ c * (i : Int) = c * (j : Int) := fun h => e (by have : (i : Int) = j := Int.eq_of_mul_eq_mul_left (by omega) h; omega)
      simp [sv, this]
/-- What is picked of them: each of them, none twice. -/
theorem pick_some (c : Int) (hc : 0 < c) (n : Nat) (s : BitVec 64) (many : Int) : (Di.pick s (tms c n) many).out.Nodup ∧ ∀ x ∈ (Di.pick s (tms c n) many).out, x ∈ tms c n := by
  have hp := Di.pick_perm s (tms c n) many
  have hnd := hp.nodup_iff.2 (tms_nodup c hc n)
  exact ⟨(List.nodup_append.1 hnd).1, fun x hx => hp.mem_iff.1 (List.mem_append_left _ hx)⟩
/-- The next one has not been seen. -/
theorem fresh_at {l : List Int} (hn : l.Nodup) {i : Nat} {x : Int} (h : l[i]? = some x) : x ∉ l.take i := by
  intro hm
  obtain ⟨hi, hx⟩ := List.getElem?_eq_some_iff.1 h
  obtain ⟨j, hj, hjx⟩ := List.getElem_of_mem hm
  rw [List.length_take] at hj
  rw [List.getElem_take] at hjx
  exact (List.pairwise_iff_getElem.1 hn) j i (by omega) hi (by omega) (hjx.trans hx.symm)
theorem perm_sum {l m : List Int} (h : l.Perm m) : l.sum = m.sum := by
  induction h with
  | nil => rfl
  | cons x _ ih => simp [ih]
  | swap x y l => simp; omega
  | trans _ _ h1 h2 => exact h1.trans h2
/-- Twice the sum of the numbers from 0 on. -/
theorem tms_sum (n : Nat) : 2 * (tms 1 n).sum = (n : Int) * ((n : Int) - 1) := by
  induction n with
  | zero => rfl
  | succ n ih =>
    rw [tms_snoc, List.sum_append, Int.mul_add, ih]
    simp only [List.sum_cons, List.sum_nil, Int.add_zero, Int.one_mul, Int.natCast_add, Int.natCast_one]
    have e : ((n : Int) + 1) * ((n : Int) + 1 - 1) = (n : Int) * ((n : Int) - 1) + 2 * (n : Int) := by
      rw [show (n : Int) + 1 - 1 = (n : Int) by omega, Int.mul_sub, Int.add_mul]; omega
    rw [e]
theorem sum_bound (k : Int) : ∀ (l : List Int), (∀ x ∈ l, 0 ≤ x ∧ x ≤ k) → 0 ≤ l.sum ∧ l.sum ≤ k * l.length
  | [], _ => by simp
  | x :: l, h => by
    have h1 := h x (by simp)
    have h2 := sum_bound k l (fun y hy => h y (List.mem_cons_of_mem _ hy))
    rw [List.sum_cons, List.length_cons, Int.natCast_add, Int.mul_add]
    constructor
    · omega
    · simp only [Int.natCast_one, Int.mul_one]; omega
end Go.Proofs.Ytecdeogbponplaa
