/-
  DiceOther: two numbers draw the same first number just if they are the same.
-/
import Derived.Test.YtecdeogbponplaaDiD
import Derived.Test.YtecdeogbponplaaRowU
namespace Go.Proofs.Ytecdeogbponplaa
open Go.RowKit Go.BigFrame
set_option linter.unusedVariables false
set_option linter.unusedSimpArgs false

theorem keeps_below17 {w w' : World} (h : Keeps (fun _ => False) w w') : Below w.heap.size w w' := h.below (Nat.le_refl _) (fun _ _ => id)
theorem other_eq (x y : BitVec 64) : ((di (Di.nxt x) == di (Di.nxt y)) == (di x == di y)) = true := by
  have h := Di.nxt_inj x y
  by_cases e : x = y
  · subst e; simp
  · have h1 : ¬ di x = di y := fun h2 => e ((di_inj x y).1 h2)
    have h2 : ¬ di (Di.nxt x) = di (Di.nxt y) := fun h3 => e (h.1 ((di_inj _ _).1 h3))
    rw [beq_eq_false_iff_ne.2 h1, beq_eq_false_iff_ne.2 h2]; rfl
set_option maxRecDepth 100000 in
set_option maxHeartbeats 2000000 in
theorem other_walk (a b : Int) (same : Bool) (W : World) (ha : (Lit.int .u64 a).wf = true) (hb : (Lit.int .u64 b).wf = true) :
    Calls Try.prog 6 #[.int .u64 a, .int .u64 b, .bool same] W fun e w' => e = .returned (.bool true) ∧ Below W.heap.size W w' := by
  have HAW := Lib.hid (awake17_any W)
  obtain ⟨x, rfl⟩ := di_of a ha
  obtain ⟨z, rfl⟩ := di_of b hb
  clear ha hb
  cases same with
  | true =>
    have heq := other_eq x x
    obtain ⟨r1, hr1⟩ : ∃ r, Di.nxt x = r := ⟨_, rfl⟩
    rw [hr1] at heq
    have HR := Lib.hid (And.intro hr1 hr1)
    clear hr1
    go_enter Try.func6, Try.ntmps6
    go_wp2_with fail
    refine HAW.out.mono ?_
    rintro e w1 ⟨rfl, k1⟩
    have K1 := Lib.hid k1
    clear k1
    go_wp2_with fail
    refine (dnew_any w1 x).mono ?_
    rintro e w2 ⟨g2, rfl, hg2, d2, k2⟩
    have h2 := next_any w2 g2 x d2
    rw [HR.out.1] at h2
    have H2 := Lib.hid h2
    have K2 := Lib.hid (K1.out.trans k2)
    have HG2 := Lib.hid (show W.heap.size ≤ g2 by have := K1.out.size; omega)
    clear h2 d2 k2 hg2
    go_wp2_with fail
    refine H2.out.mono ?_
    rintro e w3 ⟨rfl, d3, k3⟩
    have K3 := Lib.hid (K2.out.trans' k3 (fun i hi e => by have := HG2.out; omega))
    clear d3 k3
    go_wp2_with fail
    refine (dnew_any w3 x).mono ?_
    rintro e w4 ⟨g4, rfl, hg4, d4, k4⟩
    have h4 := next_any w4 g4 x d4
    rw [HR.out.2] at h4
    have H4 := Lib.hid h4
    have K4 := Lib.hid (K3.out.trans k4)
    have HG4 := Lib.hid (show W.heap.size ≤ g4 by have := K3.out.size; omega)
    clear h4 d4 k4 hg4
    go_wp2_with fail
    refine H4.out.mono ?_
    rintro e w5 ⟨rfl, d5, k5⟩
    have K5 := Lib.hid (K4.out.trans' k5 (fun i hi e => by have := HG4.out; omega))
    clear d5 k5
    go_wp2
    go_ret
    exact ⟨rfl, keeps_below17 K5.out⟩
  | false =>
    have heq := other_eq x z
    obtain ⟨r1, hr1⟩ : ∃ r, Di.nxt x = r := ⟨_, rfl⟩
    rw [hr1] at heq
    obtain ⟨r2, hr2⟩ : ∃ r, Di.nxt z = r := ⟨_, rfl⟩
    rw [hr2] at heq
    have HR := Lib.hid (And.intro hr1 hr2)
    clear hr1 hr2
    go_enter Try.func6, Try.ntmps6
    go_wp2_with fail
    refine HAW.out.mono ?_
    rintro e w1 ⟨rfl, k1⟩
    have K1 := Lib.hid k1
    clear k1
    go_wp2_with fail
    refine (dnew_any w1 x).mono ?_
    rintro e w2 ⟨g2, rfl, hg2, d2, k2⟩
    have h2 := next_any w2 g2 x d2
    rw [HR.out.1] at h2
    have H2 := Lib.hid h2
    have K2 := Lib.hid (K1.out.trans k2)
    have HG2 := Lib.hid (show W.heap.size ≤ g2 by have := K1.out.size; omega)
    clear h2 d2 k2 hg2
    go_wp2_with fail
    refine H2.out.mono ?_
    rintro e w3 ⟨rfl, d3, k3⟩
    have K3 := Lib.hid (K2.out.trans' k3 (fun i hi e => by have := HG2.out; omega))
    clear d3 k3
    go_wp2_with fail
    refine (dnew_any w3 z).mono ?_
    rintro e w4 ⟨g4, rfl, hg4, d4, k4⟩
    have h4 := next_any w4 g4 z d4
    rw [HR.out.2] at h4
    have H4 := Lib.hid h4
    have K4 := Lib.hid (K3.out.trans k4)
    have HG4 := Lib.hid (show W.heap.size ≤ g4 by have := K3.out.size; omega)
    clear h4 d4 k4 hg4
    go_wp2_with fail
    refine H4.out.mono ?_
    rintro e w5 ⟨rfl, d5, k5⟩
    have K5 := Lib.hid (K4.out.trans' k5 (fun i hi e => by have := HG4.out; omega))
    clear d5 k5
    go_wp2
    go_ret
    exact ⟨rfl, keeps_below17 K5.out⟩
end Go.Proofs.Ytecdeogbponplaa
