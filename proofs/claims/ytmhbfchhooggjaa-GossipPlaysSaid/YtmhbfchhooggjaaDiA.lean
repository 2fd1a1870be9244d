/-
  Dice in memory: new ones, a number drawn, a number below another one.
-/
import Derived.Test.YtmhbfchhooggjaaDiM
import Derived.Test.YtmhbfchhooggjaaOwnB
import Derived.Test.YtmhbfchhooggjaaRows
namespace Go.Proofs.Ytmhbfchhooggjaa
open Go.RowKit Go.BigFrame
set_option linter.unusedVariables false
set_option linter.unusedSimpArgs false

/-- Dice stand at g, in this state. -/
def DiceAt (w : World) (g : Nat) (s : BitVec 64) : Prop := Row w g 66 [.int .u64 (di s)]

theorem next_any (w : World) (g : Nat) (s : BitVec 64) (h : DiceAt w g s) : Calls Try.prog 28 #[.pointer (some ⟨g, 0, none⟩)] w fun e w' => e = .returned (.int .u64 (di (Di.nxt s))) ∧ DiceAt w' g (Di.inc s) ∧ Keeps (fun k => k = g) w w' := by
  have c0 : w.cell? ⟨g, 0, none⟩ = some (.int .u64 (di s)) := Row.cell h 0
  have f0 : w.frozen? ⟨g, 0, none⟩ = false := Row.frozen h 0
  have H := Lib.hid h
  clear h
  go_enter Try.func28, Try.ntmps28
  go_wp2
  go_ret
  simp only [di_inc, di_m1, di_m2, di_m3]
  exact ⟨rfl, H.out.set 0 _, (Keeps.refl (fun k => k = g) w).setCell (p := ⟨g, 0, none⟩) (fun _ => rfl) _⟩
theorem next_none (w : World) : Calls Try.prog 28 #[.pointer none] w fun e w' => e = .returned (.int .u64 0) ∧ w' = w := by
  go_enter Try.func28, Try.ntmps28
  go_wp2
  go_ret
  exact ⟨rfl, rfl⟩
theorem dnew_any (w : World) (s : BitVec 64) : Calls Try.prog 18 #[.int .u64 (di s)] w fun e w' => ∃ g, e = .returned (.pointer (some ⟨g, 0, none⟩)) ∧ w.heap.size = g ∧ DiceAt w' g s ∧ Keeps (fun _ => False) w w' := by
  obtain ⟨g, hg⟩ : ∃ x, w.heap.size = x := ⟨_, rfl⟩
  obtain ⟨W1, hW1⟩ : ∃ V, w.alloc (.cells #[.int .u64 (di s)] 66) = V := ⟨_, rfl⟩
  have hf : DiceAt W1 g s ∧ Keeps (fun _ => False) w W1 := by rw [← hW1, ← hg]; exact ⟨heap_alloc_new w _, (Keeps.refl _ _).alloc _⟩
  have HF := Lib.hid hf
  clear hf
  go_enter Try.func18, Try.ntmps18
  go_wp2
  go_ret
  exact ⟨g, rfl, hg, HF.out⟩
theorem below_low (P : Value) (w : World) (n : Int) (h : n < 2) : Calls Try.prog 24 #[P, .int .i64 n] w fun e w' => e = .returned (.int .i64 0) ∧ w' = w := by
  have hd : decide (n < 2) = true := decide_eq_true h
  go_enter Try.func24, Try.ntmps24
  go_wp2
  go_ret
  exact ⟨rfl, rfl⟩
theorem below_any (w : World) (g : Nat) (s : BitVec 64) (n : Int) (h : DiceAt w g s) (hn : (Lit.int .i64 n).wf = true) : Calls Try.prog 24 #[.pointer (some ⟨g, 0, none⟩), .int .i64 n] w fun e w' => e = .returned (.int .i64 ((Di.bel s n).2 : Int)) ∧ DiceAt w' g (Di.bel s n).1 ∧ Keeps (fun k => k = g) w w' := by
  have hb := bounds_i64 hn
  by_cases h2 : n < 2
  · rw [Di.bel_low h2]
    have hd : decide (n < 2) = true := decide_eq_true h2
    have H := Lib.hid h
    clear h hn hb
    go_enter Try.func24, Try.ntmps24
    go_wp2
    go_ret
    exact ⟨rfl, H.out, Keeps.refl _ _⟩
  · rw [Di.bel_high h2]
    have hd : decide (n < 2) = false := decide_eq_false h2
    have hc := next_any w g s h
    have HC := Lib.hid hc
    obtain ⟨x, hx⟩ : ∃ x, Di.nxt s = x := ⟨_, rfl⟩
    rw [hx] at HC ⊢
    clear h hn hc hx
    go_enter Try.func24, Try.ntmps24
    go_wp2_with fail
    refine HC.out.mono ?_
    rintro e w1 ⟨rfl, d1, k1⟩
    have D1 := Lib.hid d1
    have K1 := Lib.hid k1
    clear d1 k1
    go_wp2
    go_ret
    exact ⟨congrArg (fun z => Ending.returned (Value.int .i64 z)) (di_rem x n (by omega) (by omega)), D1.out, K1.out⟩
end Go.Proofs.Ytmhbfchhooggjaa
