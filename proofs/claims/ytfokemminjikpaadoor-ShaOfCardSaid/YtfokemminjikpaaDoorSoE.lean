/-
  Plain lemmas for the document's own hash: a cut of a string of bytes; numbers of a block.
-/
import Derived.Test.YtfokemminjikpaaDoorSoB
namespace Go.Proofs.YtfokemminjikpaaDoor
set_option linter.unusedVariables false

theorem str_cut (l : List UInt8) (a b : Nat) : (strOf l).extract a b = strOf ((l.drop a).take (b - a)) := by
  unfold strOf
  apply ByteArray.ext
  rw [ByteArray.data_extract]
  simp
theorem firstN_snoc (i : Nat) (l : List UInt8) : Sh.firstN (i + 1) l = Sh.firstN i l ++ [Sh.wd ((l.drop (4 * i)).take 4)] := by
  unfold Sh.firstN
  rw [List.range_succ, List.map_append]
  rfl
theorem four_of (l : List UInt8) (h : l.length = 4) : ∃ a b c d, l = [a, b, c, d] := by
  match l, h with
  | [a, b, c, d], _ => exact ⟨a, b, c, d, rfl⟩
/-- The cut of the whole at a block's number. -/
theorem cut_four (P : List UInt8) (t i : Nat) (hi : i < 16) (h : 64 * t + 64 ≤ P.length) :
    ∃ a b c d, (strOf P).extract (64 * t + 4 * i) (64 * t + 4 * i + 4) = strOf [a, b, c, d] ∧ Sh.wd ((((P.drop (64 * t)).take 64).drop (4 * i)).take 4) = Sh.wd [a, b, c, d] := by
  have e : (((P.drop (64 * t)).take 64).drop (4 * i)).take 4 = (P.drop (64 * t + 4 * i)).take 4 := by
    rw [List.drop_take, List.take_take, List.drop_drop, Nat.min_eq_left (by omega)]
  obtain ⟨a, b, c, d, hl⟩ := four_of ((P.drop (64 * t + 4 * i)).take 4) (by rw [List.length_take, List.length_drop]; omega)
  refine ⟨a, b, c, d, ?_, by rw [e, hl]⟩
  rw [str_cut, show 64 * t + 4 * i + 4 - (64 * t + 4 * i) = 4 by omega, hl]
end Go.Proofs.YtfokemminjikpaaDoor
