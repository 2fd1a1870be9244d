/-
  ScorePlays' walk: in the ranges or not.
-/
import Derived.Test.YtdihkbkcefjeoaaSpL
import Derived.Test.YtdihkbkcefjeoaaSpO
namespace Go.Proofs.Ytdihkbkcefjeoaa
open Go.RowKit Go.BigFrame
set_option linter.unusedVariables false
theorem splays_all (many L H : Int) (A : Option Addr) (len c : Nat) (acts : List ActOf) (W : World) (hm : (Lit.int .i64 many).wf = true) (hl : (Lit.int .i64 L).wf = true) (hh : (Lit.int .i64 H).wf = true) (ha : IsActs W A len c acts) :
    Calls Try.prog 3 #[.int .i64 many, .int .i64 L, .int .i64 H, .slice A len c] W fun e W' => e = .returned (.bool true) ∧ Below W.heap.size W W' := by
  by_cases hr : (1 ≤ many ∧ many ≤ 64) ∧ (1 ≤ L ∧ L ≤ 1000) ∧ (1 ≤ H ∧ H ≤ 1000)
  · obtain ⟨n, rfl⟩ := Int.eq_ofNat_of_zero_le (show (0 : Int) ≤ many by omega)
    exact (splays_in n L H A len c acts W (by omega) hr.2.1 hr.2.2 ha).mono (fun e w' h => ⟨h.1, h.2.below (Nat.le_refl _) (fun _ _ => id)⟩)
  · exact (splays_out many L H A len c W hr).mono (fun e w' h => ⟨h.1, h.2.below (Nat.le_refl _) (fun _ _ => id)⟩)
end Go.Proofs.Ytdihkbkcefjeoaa
