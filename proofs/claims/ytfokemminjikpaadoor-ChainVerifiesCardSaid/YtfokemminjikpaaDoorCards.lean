/-
  DERIVED. GIVEN WITH THE SEED: THE CARDS: each row of YtfokemminjikpaaDoorRows.lean that lists a variable, with what it lists TIED to the program's text (the seventh form; the later family's looks); each row that meets fmt, with fmt's text TOLD by the authors' own Lean function (tested against real Go, not proved from fmt's source: count such statements apart). THE CARD IS WHAT COUNTS. Prove the row's statement (the work); the ties are given (YtfokemminjikpaaDoorTie.lean); close each card by the builder's one call (the guide's Derived/Test/ToyasCard.lean, 'card_holds'). Laid BY PROGRAM, IN A SANDBOX (cutbox-door.mjs). By AI agents, Wed Nov 11 2026. No macro, syntax, notation, axiom, sorry.
-/
import Derived.Test.YtfokemminjikpaaDoorRows
import GoSem.ClaimSeven
namespace Go.Proofs.YtfokemminjikpaaDoor
namespace Rows

/-- THE TIED CARD OF 'assayerlaw02.ShaOf'. -/
def shaOfCard : Claim7 := { stood := { row := shaOfRow, standIns := [], harness := (true, "cd0f548405e78fb561d027a67ade2c9da20d2d37dd5961e5c7dcd9da9b743bce"), looks := false }, kinds := [], alts := [], laidByText := true, laidKinds := [.data, .data], laidTests := true, laidLooks := .later }
def ShaOfCardSaid : Prop := Claim7.holds Tryd.pinned (.plain (OpenSpec.ofChange shaOfSpec)) shaOfCard

/-- THE TIED CARD OF 'assayerlaw03.TreeRoots'. -/
def treeRootsCard : Claim7 := { stood := { row := treeRootsRow, standIns := [], harness := (true, "cd0f548405e78fb561d027a67ade2c9da20d2d37dd5961e5c7dcd9da9b743bce"), looks := false }, kinds := [], alts := [], laidByText := true, laidKinds := [.data, .data], laidTests := true, laidLooks := .later }
def TreeRootsCardSaid : Prop := Claim7.holds Tryd.pinned (.plain (OpenSpec.ofChange treeRootsSpec)) treeRootsCard

/-- THE TIED CARD OF 'assayerlaw03.TreeVerifies'. -/
def treeVerifiesCard : Claim7 := { stood := { row := treeVerifiesRow, standIns := [], harness := (true, "cd0f548405e78fb561d027a67ade2c9da20d2d37dd5961e5c7dcd9da9b743bce"), looks := false }, kinds := [], alts := [], laidByText := true, laidKinds := [.data, .data], laidTests := true, laidLooks := .later }
def TreeVerifiesCardSaid : Prop := Claim7.holds Tryd.pinned (.plain (OpenSpec.ofChange treeVerifiesSpec)) treeVerifiesCard

/-- THE TIED CARD OF 'assayerlaw04.ChainProofs'. -/
def chainProofsCard : Claim7 := { stood := { row := chainProofsRow, standIns := [], harness := (true, "cd0f548405e78fb561d027a67ade2c9da20d2d37dd5961e5c7dcd9da9b743bce"), looks := false }, kinds := [], alts := [], laidByText := true, laidKinds := [.data, .data], laidTests := true, laidLooks := .later }
def ChainProofsCardSaid : Prop := Claim7.holds Tryd.pinned (.plain (OpenSpec.ofChange chainProofsSpec)) chainProofsCard

/-- THE TIED CARD OF 'assayerlaw04.ChainVerifies'. -/
def chainVerifiesCard : Claim7 := { stood := { row := chainVerifiesRow, standIns := [], harness := (true, "cd0f548405e78fb561d027a67ade2c9da20d2d37dd5961e5c7dcd9da9b743bce"), looks := false }, kinds := [], alts := [], laidByText := true, laidKinds := [.data, .data], laidTests := true, laidLooks := .later }
def ChainVerifiesCardSaid : Prop := Claim7.holds Tryd.pinned (.plain (OpenSpec.ofChange chainVerifiesSpec)) chainVerifiesCard

/-- THE TIED CARD OF 'assayerlaw04.ChainGoes'. -/
def chainGoesCard : Claim7 := { stood := { row := chainGoesRow, standIns := [], harness := (true, "cd0f548405e78fb561d027a67ade2c9da20d2d37dd5961e5c7dcd9da9b743bce"), looks := false }, kinds := [], alts := [], laidByText := true, laidKinds := [.data, .data], laidTests := true, laidLooks := .later }
def ChainGoesCardSaid : Prop := Claim7.holds Tryd.pinned (.plain (OpenSpec.ofChange chainGoesSpec)) chainGoesCard

/-- THE TIED CARD OF 'assayerlaw04.ChainLong'. -/
def chainLongCard : Claim7 := { stood := { row := chainLongRow, standIns := [], harness := (true, "cd0f548405e78fb561d027a67ade2c9da20d2d37dd5961e5c7dcd9da9b743bce"), looks := false }, kinds := [], alts := [], laidByText := true, laidKinds := [.data, .data], laidTests := true, laidLooks := .later }
def ChainLongCardSaid : Prop := Claim7.holds Tryd.pinned (.plain (OpenSpec.ofChange chainLongSpec)) chainLongCard

/-- THE TIED CARD OF 'assayerlaw04.ChainSame'. -/
def chainSameCard : Claim7 := { stood := { row := chainSameRow, standIns := [], harness := (true, "cd0f548405e78fb561d027a67ade2c9da20d2d37dd5961e5c7dcd9da9b743bce"), looks := false }, kinds := [], alts := [], laidByText := true, laidKinds := [.data, .data], laidTests := true, laidLooks := .later }
def ChainSameCardSaid : Prop := Claim7.holds Tryd.pinned (.plain (OpenSpec.ofChange chainSameSpec)) chainSameCard

/-- THE TIED CARD OF 'assayerlaw04.ChainSteps'. -/
def chainStepsCard : Claim7 := { stood := { row := chainStepsRow, standIns := [], harness := (true, "cd0f548405e78fb561d027a67ade2c9da20d2d37dd5961e5c7dcd9da9b743bce"), looks := false }, kinds := [], alts := [], laidByText := true, laidKinds := [.data, .data], laidTests := true, laidLooks := .later }
def ChainStepsCardSaid : Prop := Claim7.holds Tryd.pinned (.plain (OpenSpec.ofChange chainStepsSpec)) chainStepsCard

/-- THE TIED CARD OF 'assayerlaw04.ChainWhole'. -/
def chainWholeCard : Claim7 := { stood := { row := chainWholeRow, standIns := [], harness := (true, "cd0f548405e78fb561d027a67ade2c9da20d2d37dd5961e5c7dcd9da9b743bce"), looks := false }, kinds := [], alts := [], laidByText := true, laidKinds := [.data, .data], laidTests := true, laidLooks := .later }
def ChainWholeCardSaid : Prop := Claim7.holds Tryd.pinned (.plain (OpenSpec.ofChange chainWholeSpec)) chainWholeCard

/-- THE SECOND FORM's CARD OF 'assayerlaw02.ShaOf'. -/
def shaOfUptoCard : Claim7 := { stood := { row := shaOfUptoRow, standIns := [], harness := (true, "cd0f548405e78fb561d027a67ade2c9da20d2d37dd5961e5c7dcd9da9b743bce"), looks := false }, kinds := [], alts := [], laidByText := true, laidKinds := [.data, .data], laidTests := true, laidLooks := .later }
def ShaOfUptoCardSaid : Prop := Claim7.holds Tryd.pinned (.plain (OpenSpec.upto shaOfSpec)) shaOfUptoCard

/-- THE SECOND FORM's CARD OF 'assayerlaw03.TreeRoots'. -/
def treeRootsUptoCard : Claim7 := { stood := { row := treeRootsUptoRow, standIns := [], harness := (true, "cd0f548405e78fb561d027a67ade2c9da20d2d37dd5961e5c7dcd9da9b743bce"), looks := false }, kinds := [], alts := [], laidByText := true, laidKinds := [.data, .data], laidTests := true, laidLooks := .later }
def TreeRootsUptoCardSaid : Prop := Claim7.holds Tryd.pinned (.plain (OpenSpec.upto treeRootsSpec)) treeRootsUptoCard

/-- THE SECOND FORM's CARD OF 'assayerlaw03.TreeVerifies'. -/
def treeVerifiesUptoCard : Claim7 := { stood := { row := treeVerifiesUptoRow, standIns := [], harness := (true, "cd0f548405e78fb561d027a67ade2c9da20d2d37dd5961e5c7dcd9da9b743bce"), looks := false }, kinds := [], alts := [], laidByText := true, laidKinds := [.data, .data], laidTests := true, laidLooks := .later }
def TreeVerifiesUptoCardSaid : Prop := Claim7.holds Tryd.pinned (.plain (OpenSpec.upto treeVerifiesSpec)) treeVerifiesUptoCard

/-- THE SECOND FORM's CARD OF 'assayerlaw04.ChainProofs'. -/
def chainProofsUptoCard : Claim7 := { stood := { row := chainProofsUptoRow, standIns := [], harness := (true, "cd0f548405e78fb561d027a67ade2c9da20d2d37dd5961e5c7dcd9da9b743bce"), looks := false }, kinds := [], alts := [], laidByText := true, laidKinds := [.data, .data], laidTests := true, laidLooks := .later }
def ChainProofsUptoCardSaid : Prop := Claim7.holds Tryd.pinned (.plain (OpenSpec.upto chainProofsSpec)) chainProofsUptoCard

/-- THE SECOND FORM's CARD OF 'assayerlaw04.ChainVerifies'. -/
def chainVerifiesUptoCard : Claim7 := { stood := { row := chainVerifiesUptoRow, standIns := [], harness := (true, "cd0f548405e78fb561d027a67ade2c9da20d2d37dd5961e5c7dcd9da9b743bce"), looks := false }, kinds := [], alts := [], laidByText := true, laidKinds := [.data, .data], laidTests := true, laidLooks := .later }
def ChainVerifiesUptoCardSaid : Prop := Claim7.holds Tryd.pinned (.plain (OpenSpec.upto chainVerifiesSpec)) chainVerifiesUptoCard

/-- THE SECOND FORM's CARD OF 'assayerlaw04.ChainGoes'. -/
def chainGoesUptoCard : Claim7 := { stood := { row := chainGoesUptoRow, standIns := [], harness := (true, "cd0f548405e78fb561d027a67ade2c9da20d2d37dd5961e5c7dcd9da9b743bce"), looks := false }, kinds := [], alts := [], laidByText := true, laidKinds := [.data, .data], laidTests := true, laidLooks := .later }
def ChainGoesUptoCardSaid : Prop := Claim7.holds Tryd.pinned (.plain (OpenSpec.upto chainGoesSpec)) chainGoesUptoCard

/-- THE SECOND FORM's CARD OF 'assayerlaw04.ChainLong'. -/
def chainLongUptoCard : Claim7 := { stood := { row := chainLongUptoRow, standIns := [], harness := (true, "cd0f548405e78fb561d027a67ade2c9da20d2d37dd5961e5c7dcd9da9b743bce"), looks := false }, kinds := [], alts := [], laidByText := true, laidKinds := [.data, .data], laidTests := true, laidLooks := .later }
def ChainLongUptoCardSaid : Prop := Claim7.holds Tryd.pinned (.plain (OpenSpec.upto chainLongSpec)) chainLongUptoCard

/-- THE SECOND FORM's CARD OF 'assayerlaw04.ChainSame'. -/
def chainSameUptoCard : Claim7 := { stood := { row := chainSameUptoRow, standIns := [], harness := (true, "cd0f548405e78fb561d027a67ade2c9da20d2d37dd5961e5c7dcd9da9b743bce"), looks := false }, kinds := [], alts := [], laidByText := true, laidKinds := [.data, .data], laidTests := true, laidLooks := .later }
def ChainSameUptoCardSaid : Prop := Claim7.holds Tryd.pinned (.plain (OpenSpec.upto chainSameSpec)) chainSameUptoCard

/-- THE SECOND FORM's CARD OF 'assayerlaw04.ChainSteps'. -/
def chainStepsUptoCard : Claim7 := { stood := { row := chainStepsUptoRow, standIns := [], harness := (true, "cd0f548405e78fb561d027a67ade2c9da20d2d37dd5961e5c7dcd9da9b743bce"), looks := false }, kinds := [], alts := [], laidByText := true, laidKinds := [.data, .data], laidTests := true, laidLooks := .later }
def ChainStepsUptoCardSaid : Prop := Claim7.holds Tryd.pinned (.plain (OpenSpec.upto chainStepsSpec)) chainStepsUptoCard

/-- THE SECOND FORM's CARD OF 'assayerlaw04.ChainWhole'. -/
def chainWholeUptoCard : Claim7 := { stood := { row := chainWholeUptoRow, standIns := [], harness := (true, "cd0f548405e78fb561d027a67ade2c9da20d2d37dd5961e5c7dcd9da9b743bce"), looks := false }, kinds := [], alts := [], laidByText := true, laidKinds := [.data, .data], laidTests := true, laidLooks := .later }
def ChainWholeUptoCardSaid : Prop := Claim7.holds Tryd.pinned (.plain (OpenSpec.upto chainWholeSpec)) chainWholeUptoCard
end Rows
end Go.Proofs.YtfokemminjikpaaDoor
