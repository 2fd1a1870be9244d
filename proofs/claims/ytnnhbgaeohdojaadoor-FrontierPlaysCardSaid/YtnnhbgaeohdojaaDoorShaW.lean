/-
  The document's examples hold: 'awake' of layer 2 returns true, and leaves all that was as it was.
-/
import Derived.Test.YtnnhbgaeohdojaaDoorShaN
import Derived.Test.YtnnhbgaeohdojaaDoorShaT
import Derived.Lib.SlBytesConst
namespace Go.Proofs.YtnnhbgaeohdojaaDoor
open Go.RowKit Go.BigFrame
set_option linter.unusedVariables false

theorem rowsAt_one {w : World} {a : Addr} {r : RowOf} (h0 : w.cell? (a.add 0) = some (.slice r.1 r.2.2.length r.2.1)) (hr : Src w r.1 (bvs r.2.2)) (cr : r.2.2.length ≤ r.2.1 ∧ r.2.1 ≤ 9223372036854775807) : RowsAt w (some a) [r] := by
  refine ⟨fun i x hx => ⟨a, rfl, ?_⟩, fun x hx => ?_, fun x hx => ?_⟩
  · match i, hx with
    | 0, hx => cases hx; exact h0
  · rw [List.mem_singleton] at hx; subst hx; exact hr
  · rw [List.mem_singleton] at hx; subst hx; exact cr
theorem src_blk {w : World} {g : Nat} {t : TypeId} {fr : Nat × Nat} {xs : List Value} (h : w.heap[g]? = some (.cells xs.toArray t fr)) : Src w (some ⟨g, 0, none⟩) xs := fun j u hu => ⟨_, rfl, by
  rw [add_plain, Nat.zero_add, cell_of_row w g j xs.toArray t fr h]
  simpa using hu⟩
end Go.Proofs.YtnnhbgaeohdojaaDoor
