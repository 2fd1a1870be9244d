/-
  Peaks in plain Lean: how an entry more is carried. No number of any translation stands here.
-/
import Derived.Test.YtnnhbgaeohdojaaDoorTrM
import Derived.Test.YtnnhbgaeohdojaaDoorOnC
namespace Go.Proofs.YtnnhbgaeohdojaaDoor.Tr
set_option linter.unusedVariables false
open On (ones ones_add ones_zero)

/-- The peaks, the last one first, when one more comes; the low bits of 'left' tell how far it is carried. -/
def carry : List Bytes → Nat → Bytes → List Bytes
  | [], _, x => [x]
  | r :: rs, left, x => if left % 2 = 1 then carry rs (left / 2) (node r x) else x :: r :: rs
def addP (sz : Nat) (ps : List Bytes) (x : Bytes) : List Bytes := (carry ps.reverse sz x).reverse
theorem ones_none : ∀ k, ones k 0 = 0
  | 0 => rfl
  | k + 1 => by simp only [ones]; rw [show 0 / 2 = 0 from rfl, ones_none k]
theorem ones_more (j k x : Nat) (h : x < 2 ^ j) : ones (j + k) x = ones j x := by
  rw [ones_add, Nat.div_eq_of_lt h, ones_none, Nat.add_zero]
theorem ones_half (x : Nat) (h : x < 18446744073709551616) : ones 64 x = x % 2 + ones 64 (x / 2) := by
  have := ones_more 63 1 (x / 2) (by show x / 2 < 9223372036854775808; omega)
  rw [show 63 + 1 = 64 from rfl] at this
  rw [this]
  rfl
theorem ones_eq_zero : ∀ (k x : Nat), x < 2 ^ k → ones k x = 0 → x = 0
  | 0, x, h, _ => by simpa using h
  | k + 1, x, h, e => by
    simp only [ones] at e
    have := ones_eq_zero k (x / 2) (by rw [Nat.pow_succ] at h; omega) (by omega)
    omega
theorem carry_length : ∀ (rs : List Bytes) (left : Nat) (x : Bytes), left < 18446744073709551615 → rs.length = ones 64 left → (carry rs left x).length = ones 64 (left + 1)
  | [], left, x, h, e => by
    have := ones_eq_zero 64 left (by show left < 18446744073709551616; omega) (by simpa using e.symm)
    subst this
    rfl
  | r :: rs, left, x, h, e => by
    have h1 := ones_half left (by omega)
    have h2 := ones_half (left + 1) (by omega)
    unfold carry
    rw [List.length_cons] at e
    split
    · rename_i ho
      rw [carry_length rs (left / 2) _ (by omega) (by omega), h2, show (left + 1) / 2 = left / 2 + 1 by omega]
      omega
    · rename_i ho
      rw [List.length_cons, List.length_cons, h2, show (left + 1) / 2 = left / 2 by omega]
      omega
theorem addP_length (sz : Nat) (ps : List Bytes) (x : Bytes) (h : sz < 18446744073709551615) (e : ps.length = ones 64 sz) : (addP sz ps x).length = ones 64 (sz + 1) := by
  unfold addP
  rw [List.length_reverse]
  exact carry_length _ _ _ h (by rw [List.length_reverse]; exact e)
theorem carry_all : ∀ (rs : List Bytes) (left : Nat) (x : Bytes), (∀ r ∈ rs, r.length = 32) → x.length = 32 → ∀ r ∈ carry rs left x, r.length = 32
  | [], left, x, _, hx, r, hr => by
    unfold carry at hr
    rw [List.mem_singleton] at hr
    rw [hr]; exact hx
  | q :: rs, left, x, h, hx, r, hr => by
    unfold carry at hr
    split at hr
    · exact carry_all rs _ _ (fun r hr => h r (List.mem_cons_of_mem _ hr)) (node_length _ _) r hr
    · rcases List.mem_cons.1 hr with rfl | hr
      · exact hx
      · exact h r hr
theorem addP_all (sz : Nat) (ps : List Bytes) (x : Bytes) (h : ∀ r ∈ ps, r.length = 32) (hx : x.length = 32) : ∀ r ∈ addP sz ps x, r.length = 32 := fun r hr => by
  unfold addP at hr
  exact carry_all _ _ _ (fun r hr => h r (List.mem_reverse.1 hr)) hx r (List.mem_reverse.1 hr)
theorem take_pred' {α : Type} (ps : List α) (p : Nat) (r : α) (h : ps[p]? = some r) : (ps.take (p + 1)).reverse = r :: (ps.take p).reverse := by
  rw [List.take_add_one, h, List.reverse_append]
  rfl
theorem carry_even (rs : List Bytes) (left : Nat) (x : Bytes) (h : left % 2 = 0) : carry rs left x = x :: rs := by
  cases rs with
  | nil => rfl
  | cons r rs => unfold carry; rw [if_neg (by omega)]
theorem carry_odd (r : Bytes) (rs : List Bytes) (left : Nat) (x : Bytes) (h : left % 2 = 1) : carry (r :: rs) left x = carry rs (left / 2) (node r x) := by
  rw [carry, if_pos h]
end Go.Proofs.YtnnhbgaeohdojaaDoor.Tr
