/-
  The document's own dice, by values: a number drawn, a number below another one.
-/
import Derived.Test.YtmhbfchhooggjaaDiA
namespace Go.Proofs.Ytmhbfchhooggjaa
open Go.RowKit Go.BigFrame
set_option linter.unusedVariables false
set_option linter.unusedSimpArgs false

theorem di_td (x : BitVec 64) (c : Int) (hc : 0 < c) : IntKind.u64.wrap ((di x).tdiv c) = di x / c := by
  have h0 := di_nonneg x
  have h1 := di_lt x
  rw [Int.tdiv_eq_ediv_of_nonneg h0, wrapU]
  have h2 : 0 ≤ di x / c := Int.ediv_nonneg h0 (by omega)
  have h3 : di x / c ≤ di x := Int.ediv_le_self c h0
  exact Int.emod_eq_of_lt h2 (by omega)
theorem di_t30 (x : BitVec 64) : IntKind.u64.wrap ((di x).tdiv 1073741824) = di x / 1073741824 := di_td x _ (by decide)
theorem di_t27 (x : BitVec 64) : IntKind.u64.wrap ((di x).tdiv 134217728) = di x / 134217728 := di_td x _ (by decide)
theorem di_t31 (x : BitVec 64) : IntKind.u64.wrap ((di x).tdiv 2147483648) = di x / 2147483648 := di_td x _ (by decide)
theorem rnext_any (s : BitVec 64) (w : World) : Calls Try.prog 29 #[.int .u64 (di s)] w fun e w' => e = .returned (.tuple #[.int .u64 (di (Di.inc s)), .int .u64 (di (Di.nxt s))]) ∧ w' = w := by
  go_enter Try.func29, Try.ntmps29
  go_wp2
  go_ret2
  simp only [di_inc, di_t30, di_t27, di_t31, di_m1, di_m2, di_m3]
  exact ⟨rfl, trivial⟩
theorem rbelow_any (s : BitVec 64) (n : Int) (w : World) (hn : (Lit.int .i64 n).wf = true) : Calls Try.prog 27 #[.int .u64 (di s), .int .i64 n] w fun e w' => e = .returned (.tuple #[.int .u64 (di (Di.bel s n).1), .int .i64 ((Di.bel s n).2 : Int)]) ∧ Keeps (fun _ => False) w w' := by
  have hb := bounds_i64 hn
  by_cases h2 : n < 2
  · rw [Di.bel_low h2]
    have hd : decide (n < 2) = true := decide_eq_true h2
    clear hn hb
    go_enter Try.func27, Try.ntmps27
    go_wp2
    go_ret2
    exact ⟨rfl, Keeps.refl _ _⟩
  · rw [Di.bel_high h2]
    have hd : decide (n < 2) = false := decide_eq_false h2
    have HC := Lib.hid (rnext_any s w)
    obtain ⟨x, hx⟩ : ∃ x, Di.nxt s = x := ⟨_, rfl⟩
    rw [hx] at HC ⊢
    clear hn hx
    go_enter Try.func27, Try.ntmps27
    go_wp2_with fail
    refine HC.out.mono ?_
    rintro e w1 ⟨rfl, e1⟩
    obtain rfl : w = w1 := e1.symm
    go_wp2_with fail
    go_quiet (fail)
    have hm : RowKit.wrap64 ((di x).tmod n) = ((x.toNat % n.toNat : Nat) : Int) := di_rem x n (by omega) (by omega)
    rw [hm]
    go_wp2
    go_ret2
    exact ⟨rfl, (Keeps.refl _ _).drewN _⟩
end Go.Proofs.Ytmhbfchhooggjaa
