/-
  Rows of entries: their entries, the first ones, the rest.
-/
import Derived.Test.YtjblnjeloimbgaaDoorTrB
import Derived.Test.YtjblnjeloimbgaaDoorShaN
import Derived.Test.YtjblnjeloimbgaaDoorWalkR
import Derived.DataElems
namespace Go.Proofs.YtjblnjeloimbgaaDoor
open Go.RowKit Go.BigFrame
set_option linter.unusedVariables false

/-- The entries of rows. -/
def ents (rs : List RowOf) : List (List UInt8) := rs.map fun r => r.2.2
theorem ents_length (rs : List RowOf) : (ents rs).length = rs.length := by simp [ents]
theorem RowsAt.take {w : World} {a : Option Addr} {rs : List RowOf} (h : RowsAt w a rs) (k : Nat) : RowsAt w a (rs.take k) := by
  refine ⟨fun i r hr => ?_, fun r hr => h.src r (List.mem_of_mem_take hr), fun r hr => h.cap r (List.mem_of_mem_take hr)⟩
  rw [List.getElem?_take] at hr
  split at hr
  · exact h.cell i r hr
  · cases hr
theorem RowsAt.drop {w : World} {a : Addr} {rs : List RowOf} (h : RowsAt w (some a) rs) (k : Nat) : RowsAt w (some (a.add k)) (rs.drop k) := by
  refine ⟨fun i r hr => ?_, fun r hr => h.src r (List.mem_of_mem_drop hr), fun r hr => h.cap r (List.mem_of_mem_drop hr)⟩
  rw [List.getElem?_drop] at hr
  obtain ⟨ad, e, hc⟩ := h.cell (k + i) r hr
  injection e with e
  subst e
  exact ⟨_, rfl, by rw [Addr.add_add]; exact hc⟩
end Go.Proofs.YtjblnjeloimbgaaDoor
