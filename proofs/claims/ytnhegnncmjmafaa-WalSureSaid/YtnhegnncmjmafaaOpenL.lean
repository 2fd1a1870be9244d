/-
  Slices of slices of bytes among the arguments.
-/
import Derived.Test.YtnhegnncmjmafaaRowU
import Derived.Test.YtnhegnncmjmafaaRowsG
import Derived.Deep.Matrix
namespace Go.Proofs.Ytnhegnncmjmafaa
open Go.RowKit Go.ChangeShapes Go.WideShapes Go.Deep
set_option linter.unusedVariables false

theorem info_row_cells : Try.prog.cellsOf 33 = 1 := by kernel_rfl
theorem info_u8_cells1 : Try.prog.cellsOf 5 = 1 := by kernel_rfl

/-- Rows of bytes that came in. -/
structure IsRows (w : World) (a : Option Addr) (len cap : Nat) (rs : List RowOf) : Prop where
  many : rs.length = len
  le : len ≤ cap
  max : cap ≤ 9223372036854775807
  rows : RowsAt w a rs

theorem open_rows {H : Type} {enc : TypeId × Value → H} {w : World} {base : Nat} {held : Bool} {fuel : Nat} {a : Option Addr} {len cap : Nat} {x : DataW H × List MemPlace}
    (h : DataW.trod enc Try.prog w base (fun _ => true) held fuel 23 [.slice a len cap] = some x) : ∃ rs, IsRows w a len cap rs := by
  rcases open_int_rows Try.underlying23 Try.underlying33 Try.underlying5 info_row_cells info_u8_cells1 h with ⟨hcs, _⟩ | ⟨ad, l, c, A, L, C, Z, hcs, _, hl, hm, _, he⟩
  · simp at hcs
    obtain ⟨rfl, rfl, rfl⟩ := hcs
    exact ⟨[], rfl, Nat.le_refl _, by omega, RowsAt.nil _ _⟩
  · simp at hcs
    obtain ⟨rfl, rfl, rfl⟩ := hcs
    have each : ∀ r, r < len → ∃ xs : List UInt8, xs.length = L r ∧ Src w (A r) (bvs xs) ∧ L r ≤ C r ∧ C r ≤ 9223372036854775807 := by
      intro r hr
      obtain ⟨_, h1, h2, h3, h4, h5, h6⟩ := he r (by omega)
      have : IsRowU .u8 w (A r) (L r) (C r) (Z r) := by
        cases hA : A r with
        | none =>
          have := h5 hA
          exact .inl ⟨rfl, by omega, this, List.eq_nil_of_length_eq_zero (by omega)⟩
        | some y => exact .inr ⟨y, rfl, h1, h2, h3, fun i hi => (h6 y hA).2 i (by omega), h4⟩
      exact this.src
    obtain ⟨f, hf⟩ := choose_lt (p := fun r (xs : List UInt8) => xs.length = L r ∧ Src w (A r) (bvs xs) ∧ L r ≤ C r ∧ C r ≤ 9223372036854775807) each
    refine ⟨(List.range len).map fun r => (A r, C r, f r), by simp, hl, by unfold maxLen at hm; omega, fun i r hr => ?_, fun r hr => ?_, fun r hr => ?_⟩
    · rw [List.getElem?_map] at hr
      have hi : i < len := by
        rcases Nat.lt_or_ge i len with h | h
        · exact h
        · rw [List.getElem?_eq_none (by simpa using h)] at hr; cases hr
      rw [List.getElem?_range hi] at hr
      cases hr
      exact ⟨ad, rfl, by rw [(he i (by omega)).1]; simp only [(hf i hi).1]⟩
    · obtain ⟨i, hi, rfl⟩ := List.mem_map.1 hr
      exact (hf i (List.mem_range.1 hi)).2.1
    · obtain ⟨i, hi, rfl⟩ := List.mem_map.1 hr
      obtain ⟨h1, _, h2, h3⟩ := hf i (List.mem_range.1 hi)
      exact ⟨by show (f i).length ≤ C i; omega, h3⟩
end Go.Proofs.Ytnhegnncmjmafaa
