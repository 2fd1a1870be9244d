/-
  Draws out of a number, plainly; and numbers of 64 bits as a walk spells them. No number of any translation stands here.
-/
import Derived.Test.YtmhbfchhooggjaaBase
import Derived.WalkSpells
import Derived.Outline
import Derived.OpenShut
import Derived.IntWalk
import Derived.Laws.BitsAllLaws
namespace Go.Proofs.Ytmhbfchhooggjaa
open Go.RowKit
set_option linter.unusedVariables false

namespace Di
/-- The next state. -/
def inc (s : BitVec 64) : BitVec 64 := s + 11400714819323198485#64
def m1 (x : BitVec 64) : BitVec 64 := (x ^^^ (x >>> 30)) * 13787848793156543929#64
def m2 (x : BitVec 64) : BitVec 64 := (x ^^^ (x >>> 27)) * 10723151780598845931#64
def m3 (x : BitVec 64) : BitVec 64 := x ^^^ (x >>> 31)
def mix (x : BitVec 64) : BitVec 64 := m3 (m2 (m1 x))
/-- The next number. -/
def nxt (s : BitVec 64) : BitVec 64 := mix (inc s)
/-- The state then, and a number below another one. -/
def bel (s : BitVec 64) (n : Int) : BitVec 64 × Nat := if n < 2 then (s, 0) else (inc s, (nxt s).toNat % n.toNat)
theorem bel_low {s : BitVec 64} {n : Int} (h : n < 2) : bel s n = (s, 0) := by unfold bel; rw [if_pos h]
theorem bel_high {s : BitVec 64} {n : Int} (h : ¬ n < 2) : bel s n = (inc s, (nxt s).toNat % n.toNat) := by unfold bel; rw [if_neg h]
theorem bel_lt (s : BitVec 64) (n : Int) (h : 1 ≤ n) : ((bel s n).2 : Int) < n := by
  by_cases h2 : n < 2
  · rw [bel_low h2]; omega
  · rw [bel_high h2]
    have := Nat.mod_lt (nxt s).toNat (show 0 < n.toNat by omega)
    show (((nxt s).toNat % n.toNat : Nat) : Int) < n
    omega

theorem fold_inj (k : Nat) (hk : 22 ≤ k) (x y : BitVec 64) (h : x ^^^ (x >>> k) = y ^^^ (y >>> k)) : x = y := by
  have back : ∀ z : BitVec 64, (z ^^^ (z >>> k)) ^^^ ((z ^^^ (z >>> k)) >>> k) ^^^ ((z ^^^ (z >>> k)) >>> (k + k)) = z := by
    intro z
    apply BitVec.eq_of_getLsbD_eq
    intro i hi
    simp only [BitVec.getLsbD_xor, BitVec.getLsbD_ushiftRight]
    rw [show k + k + i = k + (k + i) by omega, BitVec.getLsbD_of_ge z (k + (k + (k + i))) (by omega)]
    cases z.getLsbD i <;> cases z.getLsbD (k + i) <;> cases z.getLsbD (k + (k + i)) <;> rfl
  rw [← back x, ← back y, h]
theorem mul_inj (c d : BitVec 64) (hc : c * d = 1#64) (x y : BitVec 64) (h : x * c = y * c) : x = y := by
  have h2 : x * c * d = y * c * d := by rw [h]
  rw [BitVec.mul_assoc, BitVec.mul_assoc, hc, BitVec.mul_one, BitVec.mul_one] at h2
  exact h2
/-- Two numbers draw the same first number just if they are the same. -/
theorem nxt_inj (a b : BitVec 64) : nxt a = nxt b ↔ a = b := by
  constructor
  · intro h
    have h1 := fold_inj 31 (by omega) _ _ h
    have h2 := fold_inj 27 (by omega) _ _ (mul_inj _ 3573116690164977347#64 (by decide) _ _ h1)
    have h3 := fold_inj 30 (by omega) _ _ (mul_inj _ 10871156337175269513#64 (by decide) _ _ h2)
    have h4 : a + 11400714819323198485#64 + -11400714819323198485#64 = b + 11400714819323198485#64 + -11400714819323198485#64 := congrArg (· + -11400714819323198485#64) h3
    rw [BitVec.add_assoc, BitVec.add_assoc] at h4
    simpa using h4
  · rintro rfl; rfl

/-- Dice that pick: their state, what is left, what is picked. -/
structure Ds where
  s : BitVec 64
  left : List Int
  out : List Int
/-- One is picked. -/
def go (x : Ds) : Ds :=
  match x.left with
  | [] => x
  | _ => ⟨(bel x.s x.left.length).1, x.left.eraseIdx (bel x.s x.left.length).2, x.out ++ [x.left.getD (bel x.s x.left.length).2 0]⟩
def run : Nat → Ds → Ds
  | 0, x => x
  | n + 1, x => go (run n x)
theorem go_some {x : Ds} (h : 0 < x.left.length) : go x = ⟨(bel x.s x.left.length).1, x.left.eraseIdx (bel x.s x.left.length).2, x.out ++ [x.left.getD (bel x.s x.left.length).2 0]⟩ := by
  unfold go
  cases hl : x.left with
  | nil => rw [hl] at h; simp at h
  | cons a l => simp
theorem go_none {x : Ds} (h : x.left.length = 0) : go x = x := by
  unfold go
  rw [List.eq_nil_of_length_eq_zero h]
theorem pos_lt {x : Ds} (h : 0 < x.left.length) : (bel x.s x.left.length).2 < x.left.length := by
  have := bel_lt x.s x.left.length (by omega)
  omega
theorem go_left (x : Ds) : (go x).left.length = x.left.length - 1 := by
  rcases Nat.eq_zero_or_pos x.left.length with h | h
  · rw [go_none h]; omega
  · rw [go_some h]
    show (x.left.eraseIdx _).length = _
    rw [List.length_eraseIdx_of_lt (pos_lt h)]
theorem go_out (x : Ds) : (go x).out.length = x.out.length + min 1 x.left.length := by
  rcases Nat.eq_zero_or_pos x.left.length with h | h
  · rw [go_none h, h]; rfl
  · rw [go_some h]
    show (x.out ++ [_]).length = _
    rw [List.length_append]
    simp
    omega
theorem run_left (n : Nat) (x : Ds) : (run n x).left.length = x.left.length - n := by
  induction n with
  | zero => rfl
  | succ n ih => show (go (run n x)).left.length = _; rw [go_left, ih]; omega
theorem run_out (n : Nat) (x : Ds) : (run n x).out.length = x.out.length + min n x.left.length := by
  induction n with
  | zero => simp [run]
  | succ n ih => show (go (run n x)).out.length = _; rw [go_out, ih, run_left]; omega
theorem one_perm : ∀ (l : List Int) (i : Nat) (h : i < l.length), (l[i] :: l.eraseIdx i).Perm l
  | a :: l, 0, _ => List.Perm.refl _
  | a :: l, i + 1, h => (List.Perm.swap _ _ _).trans ((one_perm l i (by simpa using h)).cons a)
theorem go_perm (x : Ds) : ((go x).out ++ (go x).left).Perm (x.out ++ x.left) := by
  rcases Nat.eq_zero_or_pos x.left.length with h | h
  · rw [go_none h]
  · rw [go_some h]
    show ((x.out ++ [x.left.getD _ 0]) ++ x.left.eraseIdx _).Perm _
    have hp := pos_lt h
    rw [List.append_assoc]
    refine List.Perm.append_left _ ?_
    rw [List.getD_eq_getElem?_getD, List.getElem?_eq_getElem hp]
    exact one_perm _ _ hp
theorem run_perm (n : Nat) (x : Ds) : ((run n x).out ++ (run n x).left).Perm (x.out ++ x.left) := by
  induction n with
  | zero => exact List.Perm.refl _
  | succ n ih => exact (go_perm (run n x)).trans ih
/-- Once nothing is left nothing more is picked. -/
theorem run_more (n m : Nat) (x : Ds) (h : x.left.length ≤ n) : run (n + m) x = run n x := by
  induction m with
  | zero => rfl
  | succ m ih =>
    show go (run (n + m) x) = _
    rw [ih, go_none (by rw [run_left]; omega)]
theorem run_min (n : Nat) (x : Ds) : run n x = run (min n x.left.length) x := by
  rcases Nat.le_total n x.left.length with h | h
  · rw [Nat.min_eq_left h]
  · rw [Nat.min_eq_right h]
    obtain ⟨m, rfl⟩ : ∃ m, n = x.left.length + m := ⟨n - x.left.length, by omega⟩
    exact run_more _ _ _ (Nat.le_refl _)
/-- So many are picked of a list. -/
def pick (s : BitVec 64) (l : List Int) (many : Int) : Ds := run (min many (l.length : Int)).toNat ⟨s, l, []⟩
theorem pick_length (s : BitVec 64) (l : List Int) (many : Int) : (pick s l many).out.length = (min many (l.length : Int)).toNat := by
  unfold pick; rw [run_out]; simp; omega
theorem pick_perm (s : BitVec 64) (l : List Int) (many : Int) : ((pick s l many).out ++ (pick s l many).left).Perm l := by
  have := run_perm (min many (l.length : Int)).toNat ⟨s, l, []⟩
  simpa [pick] using this
end Di

/-- A number of 64 bits, as the walks bear it. -/
def di (x : BitVec 64) : Int := (x.toNat : Int)
theorem di_nonneg (x : BitVec 64) : 0 ≤ di x := by unfold di; omega
theorem di_lt (x : BitVec 64) : di x < 18446744073709551616 := by unfold di; have := x.isLt; omega
theorem di_inj (x y : BitVec 64) : di x = di y ↔ x = y := by
  unfold di
  constructor
  · intro h; exact BitVec.eq_of_toNat_eq (by omega)
  · rintro rfl; rfl
theorem di_of (n : Int) (h : (Lit.int .u64 n).wf = true) : ∃ x, n = di x := by
  have hb := bounds_u64 h
  refine ⟨BitVec.ofNat 64 n.toNat, ?_⟩
  unfold di
  rw [BitVec.toNat_ofNat, Nat.mod_eq_of_lt (by omega)]
  omega
theorem wrapU (n : Int) : IntKind.u64.wrap n = n % 18446744073709551616 := by simp [IntKind.wrap, IntKind.bits, IntKind.signed]
theorem di_add (x : BitVec 64) (n : Nat) : IntKind.u64.wrap (di x + (n : Int)) = di (x + BitVec.ofNat 64 n) := by
  rw [wrapU]
  unfold di
  rw [BitVec.toNat_add, BitVec.toNat_ofNat]
  omega
theorem di_mul (x c : BitVec 64) : IntKind.u64.wrap (di x * di c) = di (x * c) := by
  rw [wrapU]
  unfold di
  rw [BitVec.toNat_mul, ← Int.natCast_mul]
  omega
theorem di_shr (x : BitVec 64) (n : Nat) : di x / (2 : Int) ^ n = di (x >>> n) := by
  unfold di; rw [BitVec.toNat_ushiftRight, Nat.shiftRight_eq_div_pow]; simp
theorem di_xor (x y : BitVec 64) : bits .xor .u64 (di x) (di y) = di (x ^^^ y) := by
  unfold di; rw [u64_xor_nat _ _ x.isLt y.isLt]; simp
theorem di_inc (x : BitVec 64) : IntKind.u64.wrap (di x + 11400714819323198485) = di (Di.inc x) := di_add x 11400714819323198485
theorem di_m1 (x : BitVec 64) : IntKind.u64.wrap (bits .xor .u64 (di x) (di x / 1073741824) * 13787848793156543929) = di (Di.m1 x) := by
  rw [show (1073741824 : Int) = 2 ^ 30 by decide, di_shr, di_xor]
  exact di_mul _ 13787848793156543929#64
theorem di_m2 (x : BitVec 64) : IntKind.u64.wrap (bits .xor .u64 (di x) (di x / 134217728) * 10723151780598845931) = di (Di.m2 x) := by
  rw [show (134217728 : Int) = 2 ^ 27 by decide, di_shr, di_xor]
  exact di_mul _ 10723151780598845931#64
theorem di_m3 (x : BitVec 64) : bits .xor .u64 (di x) (di x / 2147483648) = di (Di.m3 x) := by
  rw [show (2147483648 : Int) = 2 ^ 31 by decide, di_shr, di_xor]
  rfl
theorem di_rem (x : BitVec 64) (n : Int) (h : 2 ≤ n) (hm : n ≤ 9223372036854775807) : RowKit.wrap64 ((di x).tmod n) = ((x.toNat % n.toNat : Nat) : Int) := by
  have e : (di x).tmod n = ((x.toNat % n.toNat : Nat) : Int) := by
    obtain ⟨m, rfl⟩ : ∃ m : Nat, n = m := ⟨n.toNat, by omega⟩
    unfold di
    rw [Int.tmod_eq_emod_of_nonneg (by omega), Int.toNat_natCast]
    omega
  have hl := Nat.mod_lt x.toNat (show 0 < n.toNat by omega)
  obtain ⟨r, hr⟩ : ∃ r, x.toNat % n.toNat = r := ⟨_, rfl⟩
  rw [e]
  rw [hr] at hl ⊢
  clear hr e
  unfold RowKit.wrap64
  omega
end Go.Proofs.Ytmhbfchhooggjaa
