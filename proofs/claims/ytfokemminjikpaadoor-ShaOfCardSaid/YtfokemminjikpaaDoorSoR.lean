/-
  The document's own answers for sha (assayerref02): the roots.
-/
import Derived.Test.YtfokemminjikpaaDoorSoA
import Derived.Test.YtfokemminjikpaaDoorShaT
import Derived.Laws.Concat
import Derived.Deep.LoopGhost
namespace Go.Proofs.YtfokemminjikpaaDoor
open Go.RowKit
set_option linter.unusedVariables false

set_option maxRecDepth 100000 in
set_option maxHeartbeats 400000 in
theorem roots_any (w : World) :
    Calls Tryd.prog 49 #[] w fun e w' => e = .returned (.slice (some ⟨w.heap.size, 0, none⟩) 64 64) ∧ w' = w.alloc (.cells (wvs Sh.roots).toArray 65) := by
  have hr : (wvs Sh.roots).toArray = (wvs Sh.roots).toArray := rfl
  go_enter Tryd.func49, Tryd.ntmps49
  go_wp2
  go_ret
  exact ⟨rfl, rfl⟩
end Go.Proofs.YtfokemminjikpaaDoor
