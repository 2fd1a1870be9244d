/-
  A reader of bytes, plainly: what is left and the first error; what is taken, numbers, hashes, the end. No number of any translation stands here.
-/
import Derived.Test.YtmjpaopobnhckaaBase
namespace Go.Proofs.Ytmjpaopobnhckaa
open Go.RowKit
set_option linter.unusedVariables false

/-- What a Reader is: the bytes that are left, and the first error. -/
abbrev RS := List UInt8 × Int
/-- The Reader's state when x is told. -/
def failS (x : Int) (s : RS) : RS := if s.2 = 0 then (s.1, x) else s
/-- What is taken, and what is left. -/
def tk (n : Nat) (s : RS) : RS × List UInt8 := if s.2 = 0 then (if s.1.length < n then ((s.1, 10), []) else ((s.1.drop n, 0), s.1.take n)) else (s, [])
/-- The number that bytes tell, the highest first. -/
def be (l : List UInt8) : Int := l.foldl (fun x c => x * 256 + c.toNat) 0
theorem be_snoc (l : List UInt8) (c : UInt8) : be (l ++ [c]) = be l * 256 + c.toNat := by simp [be]
theorem be_aux (l : List UInt8) : ∀ x : Int, 0 ≤ x → 0 ≤ l.foldl (fun x c => x * 256 + (c.toNat : Int)) x ∧ l.foldl (fun x c => x * 256 + (c.toNat : Int)) x < (x + 1) * 256 ^ l.length := by
  induction l with
  | nil => intro x hx; simp; omega
  | cons c l ih =>
    intro x hx
    have hc : (c.toNat : Int) < 256 := by have := c.toNat_lt; omega
    obtain ⟨h1, h2⟩ := ih (x * 256 + c.toNat) (by omega)
    refine ⟨h1, ?_⟩
    simp only [List.foldl_cons, List.length_cons]
    refine Int.lt_of_lt_of_le h2 ?_
    rw [Int.pow_succ, Int.mul_comm (256 ^ l.length) 256, ← Int.mul_assoc]
    exact Int.mul_le_mul_of_nonneg_right (by omega) (Int.le_of_lt (Int.pow_pos (by omega)))
theorem be_nonneg (l : List UInt8) : 0 ≤ be l := (be_aux l 0 (by omega)).1
theorem be_lt (l : List UInt8) (n : Nat) (h : l.length ≤ n) : be l < 256 ^ n := by
  have h1 : be l < (0 + 1) * 256 ^ l.length := (be_aux l 0 (by omega)).2
  rw [Int.zero_add, Int.one_mul] at h1
  refine Int.lt_of_lt_of_le h1 ?_
  have e : ∀ k : Nat, (256 : Int) ^ k = ((256 ^ k : Nat) : Int) := fun k => by rw [Int.natCast_pow]; rfl
  rw [e, e]
  exact Int.ofNat_le.2 (Nat.pow_le_pow_right (by omega) h)
def rraw (n : Int) (s : RS) : RS × List UInt8 := if n < 0 then (failS 1 s, []) else tk n.toNat s
theorem tk_le (n : Nat) (s : RS) : (tk n s).2.length ≤ s.1.length := by
  unfold tk
  split
  · split
    · simp
    · simp; omega
  · simp
def rnum (n : Int) (s : RS) : RS × Int := if (decide (1 ≤ n) && decide (n ≤ 8)) = true then ((tk n.toNat s).1, be (tk n.toNat s).2) else (failS 1 s, 0)
def rend (s : RS) : Int := if s.2 = 0 then (if s.1 = [] then 0 else 12) else s.2
def rbytes (most : Int) (s : RS) : RS × List UInt8 := if most < (rnum 2 s).2 then (failS 13 (rnum 2 s).1, []) else rraw (rnum 2 s).2 (rnum 2 s).1
theorem rnum2_bd (s : RS) : 0 ≤ (rnum 2 s).2 ∧ (rnum 2 s).2 < 65536 := by
  have e : rnum 2 s = ((tk 2 s).1, be (tk 2 s).2) := rfl
  rw [e]
  refine ⟨be_nonneg _, be_lt _ 2 ?_⟩
  unfold tk
  split
  · split
    · simp
    · simp; omega
  · simp
theorem failS_len (x : Int) (s : RS) : (failS x s).1 = s.1 := by unfold failS; split <;> rfl
theorem tk_left (n : Nat) (s : RS) : (tk n s).1.1.length ≤ s.1.length := by
  unfold tk
  split
  · split
    · simp
    · simp
  · simp
theorem rnum_left (n : Int) (s : RS) : (rnum n s).1.1.length ≤ s.1.length := by
  unfold rnum
  split
  · exact tk_left _ _
  · rw [failS_len]; exact Nat.le_refl _
def rhash (s : RS) : RS × List UInt8 := ((tk 32 s).1, if (tk 32 s).2.length = 32 then (tk 32 s).2 else List.replicate 32 0)
theorem tk_full (n : Nat) (s : RS) : (tk n s).2.length = n ∨ (tk n s).2 = [] := by
  unfold tk
  split
  · split
    · exact .inr rfl
    · left; simp; omega
  · exact .inr rfl
end Go.Proofs.Ytmjpaopobnhckaa
