/-
  NARROWER THAN 'FOR EVERY INPUT', by the rows' own cells (each row's printed sentence says how): TreeRoots: laid · ChainProofs: laid · FrontierPlays: laid · FrontierRoots: laid · FrontierPeaks: laid · FrontierFull: laid · FrontierOwn: laid · FrontierGoes: laid.
  DERIVED. THE GIVEN ROWS OF THIS SEAT. 8 by the template 'for every input the law returns true; each argument reads behind the call as it read before'; 0 by the template 'total and deterministic' (their statements: YtnnhbgaeohdojaaDoorTotals.lean).
  GIVEN WITH THE SEED: the statements are not yours to turn. If you find one false, say at which input.
  Laid BY PROGRAM, IN A SANDBOX (cutbox-rows.mjs): the forced cells as the released guide's own fill.sh prints them over the translation 403f4b817099f2eb… (all of the seat's roots in one cut). By AI agents, Wed Nov 11 2026. No macro, syntax, notation, axiom, sorry.
-/
import Derived.Test.YtnnhbgaeohdojaaDoorChecked
import GoSem.Claim
import GoSem.ClaimJoined
import GoSem.ClaimMapViews
import Derived.JoinedTies
import Derived.KernelRfl
namespace Go.Proofs.YtnnhbgaeohdojaaDoor
/- THE CELL 'sum', in the pinned program and in every row, IS THE sha256 OF THE DUMP (.gsa) THAT YtnnhbgaeohdojaaDoorProg.lean LOADS. Nothing in Lean hashes anything: it is a label: what it is worth is what the hold of that sum in a sandbox is worth. -/
noncomputable def Tryd.pinned : Pinned := { name := "ytnnhbgaeohdojaadoor", sum := "403f4b817099f2ebdeee4b18ce215de512566fbb64c7fedf5d7c6516c3f4e30a", checked := Tryd.checked }
namespace Rows
def none {H : Type} : Left H := { results := [], args := [] }

/- WHAT THE LISTED PACKAGE-LEVEL VARIABLES READ AS WHEN THE CALL BEGINS. Each datum BY PROGRAM (the guide's laid-datum.mjs) off the statement by which the dump's own 'gosem.cut.vars' lays the variable. In a bare row this is a premise. The card (YtnnhbgaeohdojaaDoorCards.lean) ties it to the program's text. -/
def laid_assayer_sha_squareRoots {H : Type} : DataW H := .agg [.lit (.int .u32 1779033703), .lit (.int .u32 3144134277), .lit (.int .u32 1013904242), .lit (.int .u32 2773480762), .lit (.int .u32 1359893119), .lit (.int .u32 2600822924), .lit (.int .u32 528734635), .lit (.int .u32 1541459225)]
def laid_assayer_sha_cubeRoots {H : Type} : DataW H := .agg [.lit (.int .u32 1116352408), .lit (.int .u32 1899447441), .lit (.int .u32 3049323471), .lit (.int .u32 3921009573), .lit (.int .u32 961987163), .lit (.int .u32 1508970993), .lit (.int .u32 2453635748), .lit (.int .u32 2870763221), .lit (.int .u32 3624381080), .lit (.int .u32 310598401), .lit (.int .u32 607225278), .lit (.int .u32 1426881987), .lit (.int .u32 1925078388), .lit (.int .u32 2162078206), .lit (.int .u32 2614888103), .lit (.int .u32 3248222580), .lit (.int .u32 3835390401), .lit (.int .u32 4022224774), .lit (.int .u32 264347078), .lit (.int .u32 604807628), .lit (.int .u32 770255983), .lit (.int .u32 1249150122), .lit (.int .u32 1555081692), .lit (.int .u32 1996064986), .lit (.int .u32 2554220882), .lit (.int .u32 2821834349), .lit (.int .u32 2952996808), .lit (.int .u32 3210313671), .lit (.int .u32 3336571891), .lit (.int .u32 3584528711), .lit (.int .u32 113926993), .lit (.int .u32 338241895), .lit (.int .u32 666307205), .lit (.int .u32 773529912), .lit (.int .u32 1294757372), .lit (.int .u32 1396182291), .lit (.int .u32 1695183700), .lit (.int .u32 1986661051), .lit (.int .u32 2177026350), .lit (.int .u32 2456956037), .lit (.int .u32 2730485921), .lit (.int .u32 2820302411), .lit (.int .u32 3259730800), .lit (.int .u32 3345764771), .lit (.int .u32 3516065817), .lit (.int .u32 3600352804), .lit (.int .u32 4094571909), .lit (.int .u32 275423344), .lit (.int .u32 430227734), .lit (.int .u32 506948616), .lit (.int .u32 659060556), .lit (.int .u32 883997877), .lit (.int .u32 958139571), .lit (.int .u32 1322822218), .lit (.int .u32 1537002063), .lit (.int .u32 1747873779), .lit (.int .u32 1955562222), .lit (.int .u32 2024104815), .lit (.int .u32 2227730452), .lit (.int .u32 2361852424), .lit (.int .u32 2428436474), .lit (.int .u32 2756734187), .lit (.int .u32 3204031479), .lit (.int .u32 3329325298)]

/-- 'assayerlaw03.TreeRoots': WHATEVER THE INPUT: true; the input reads as it did. -/
def treeRootsSpec : ChangeSpec := { name := "treeRoots", fn := fun _ => fun
  | [d1, d2, d3] => { results := [.lit (.bool true)], args := [d1, d2, d3] }
  | _ => none }
def treeRootsRow : OpenClaim := { program := "ytnnhbgaeohdojaadoor", sum := "403f4b817099f2ebdeee4b18ce215de512566fbb64c7fedf5d7c6516c3f4e30a", func := "assayer/assayerlaw03.TreeRoots", spec := "treeRoots", unfollowed := true, recurses := true, named := ["assayer/sha.squareRoots", "assayer/sha.cubeRoots"], apart := false, laid := [("assayer/sha.squareRoots", laid_assayer_sha_squareRoots), ("assayer/sha.cubeRoots", laid_assayer_sha_cubeRoots)] }
def TreeRootsSaid : Prop := treeRootsRow.holds Tryd.pinned (OpenSpec.ofChange treeRootsSpec)

/-- ITS FALSE NEIGHBOUR: 'it returns false'. Refute it at one input. -/
def treeRootsWrong : ChangeSpec := { name := "treeRoots", fn := fun _ => fun
  | [d1, d2, d3] => { results := [.lit (.bool false)], args := [d1, d2, d3] }
  | _ => none }
def TreeRootsWrongFalsely : Prop := treeRootsRow.holds Tryd.pinned (OpenSpec.ofChange treeRootsWrong)

/-- 'assayerlaw04.ChainProofs': WHATEVER THE INPUT: true; the input reads as it did. -/
def chainProofsSpec : ChangeSpec := { name := "chainProofs", fn := fun _ => fun
  | [d1, d2, d3, d4] => { results := [.lit (.bool true)], args := [d1, d2, d3, d4] }
  | _ => none }
def chainProofsRow : OpenClaim := { program := "ytnnhbgaeohdojaadoor", sum := "403f4b817099f2ebdeee4b18ce215de512566fbb64c7fedf5d7c6516c3f4e30a", func := "assayer/assayerlaw04.ChainProofs", spec := "chainProofs", unfollowed := true, recurses := true, named := ["assayer/sha.squareRoots", "assayer/sha.cubeRoots"], apart := false, laid := [("assayer/sha.squareRoots", laid_assayer_sha_squareRoots), ("assayer/sha.cubeRoots", laid_assayer_sha_cubeRoots)] }
def ChainProofsSaid : Prop := chainProofsRow.holds Tryd.pinned (OpenSpec.ofChange chainProofsSpec)

/-- ITS FALSE NEIGHBOUR: 'it returns false'. Refute it at one input. -/
def chainProofsWrong : ChangeSpec := { name := "chainProofs", fn := fun _ => fun
  | [d1, d2, d3, d4] => { results := [.lit (.bool false)], args := [d1, d2, d3, d4] }
  | _ => none }
def ChainProofsWrongFalsely : Prop := chainProofsRow.holds Tryd.pinned (OpenSpec.ofChange chainProofsWrong)

/-- 'assayerlaw05.FrontierPlays': WHATEVER THE INPUT: true; the input reads as it did. -/
def frontierPlaysSpec : ChangeSpec := { name := "frontierPlays", fn := fun _ => fun
  | [d1, d2, d3] => { results := [.lit (.bool true)], args := [d1, d2, d3] }
  | _ => none }
def frontierPlaysRow : OpenClaim := { program := "ytnnhbgaeohdojaadoor", sum := "403f4b817099f2ebdeee4b18ce215de512566fbb64c7fedf5d7c6516c3f4e30a", func := "assayer/assayerlaw05.FrontierPlays", spec := "frontierPlays", unfollowed := true, recurses := true, named := ["assayer/sha.squareRoots", "assayer/sha.cubeRoots"], apart := false, laid := [("assayer/sha.squareRoots", laid_assayer_sha_squareRoots), ("assayer/sha.cubeRoots", laid_assayer_sha_cubeRoots)] }
def FrontierPlaysSaid : Prop := frontierPlaysRow.holds Tryd.pinned (OpenSpec.ofChange frontierPlaysSpec)

/-- ITS FALSE NEIGHBOUR: 'it returns false'. Refute it at one input. -/
def frontierPlaysWrong : ChangeSpec := { name := "frontierPlays", fn := fun _ => fun
  | [d1, d2, d3] => { results := [.lit (.bool false)], args := [d1, d2, d3] }
  | _ => none }
def FrontierPlaysWrongFalsely : Prop := frontierPlaysRow.holds Tryd.pinned (OpenSpec.ofChange frontierPlaysWrong)

/-- 'assayerlaw05.FrontierRoots': WHATEVER THE INPUT: true; the input reads as it did. -/
def frontierRootsSpec : ChangeSpec := { name := "frontierRoots", fn := fun _ => fun
  | [d1, d2] => { results := [.lit (.bool true)], args := [d1, d2] }
  | _ => none }
def frontierRootsRow : OpenClaim := { program := "ytnnhbgaeohdojaadoor", sum := "403f4b817099f2ebdeee4b18ce215de512566fbb64c7fedf5d7c6516c3f4e30a", func := "assayer/assayerlaw05.FrontierRoots", spec := "frontierRoots", unfollowed := true, recurses := true, named := ["assayer/sha.squareRoots", "assayer/sha.cubeRoots"], apart := false, laid := [("assayer/sha.squareRoots", laid_assayer_sha_squareRoots), ("assayer/sha.cubeRoots", laid_assayer_sha_cubeRoots)] }
def FrontierRootsSaid : Prop := frontierRootsRow.holds Tryd.pinned (OpenSpec.ofChange frontierRootsSpec)

/-- ITS FALSE NEIGHBOUR: 'it returns false'. Refute it at one input. -/
def frontierRootsWrong : ChangeSpec := { name := "frontierRoots", fn := fun _ => fun
  | [d1, d2] => { results := [.lit (.bool false)], args := [d1, d2] }
  | _ => none }
def FrontierRootsWrongFalsely : Prop := frontierRootsRow.holds Tryd.pinned (OpenSpec.ofChange frontierRootsWrong)

/-- 'assayerlaw05.FrontierPeaks': WHATEVER THE INPUT: true; the input reads as it did. -/
def frontierPeaksSpec : ChangeSpec := { name := "frontierPeaks", fn := fun _ => fun
  | [d1, d2] => { results := [.lit (.bool true)], args := [d1, d2] }
  | _ => none }
def frontierPeaksRow : OpenClaim := { program := "ytnnhbgaeohdojaadoor", sum := "403f4b817099f2ebdeee4b18ce215de512566fbb64c7fedf5d7c6516c3f4e30a", func := "assayer/assayerlaw05.FrontierPeaks", spec := "frontierPeaks", unfollowed := true, recurses := true, named := ["assayer/sha.squareRoots", "assayer/sha.cubeRoots"], apart := false, laid := [("assayer/sha.squareRoots", laid_assayer_sha_squareRoots), ("assayer/sha.cubeRoots", laid_assayer_sha_cubeRoots)] }
def FrontierPeaksSaid : Prop := frontierPeaksRow.holds Tryd.pinned (OpenSpec.ofChange frontierPeaksSpec)

/-- ITS FALSE NEIGHBOUR: 'it returns false'. Refute it at one input. -/
def frontierPeaksWrong : ChangeSpec := { name := "frontierPeaks", fn := fun _ => fun
  | [d1, d2] => { results := [.lit (.bool false)], args := [d1, d2] }
  | _ => none }
def FrontierPeaksWrongFalsely : Prop := frontierPeaksRow.holds Tryd.pinned (OpenSpec.ofChange frontierPeaksWrong)

/-- 'assayerlaw05.FrontierFull': WHATEVER THE INPUT: true; the input reads as it did. -/
def frontierFullSpec : ChangeSpec := { name := "frontierFull", fn := fun _ => fun
  | [d1, d2] => { results := [.lit (.bool true)], args := [d1, d2] }
  | _ => none }
def frontierFullRow : OpenClaim := { program := "ytnnhbgaeohdojaadoor", sum := "403f4b817099f2ebdeee4b18ce215de512566fbb64c7fedf5d7c6516c3f4e30a", func := "assayer/assayerlaw05.FrontierFull", spec := "frontierFull", unfollowed := true, recurses := true, named := ["assayer/sha.squareRoots", "assayer/sha.cubeRoots"], apart := false, laid := [("assayer/sha.squareRoots", laid_assayer_sha_squareRoots), ("assayer/sha.cubeRoots", laid_assayer_sha_cubeRoots)] }
def FrontierFullSaid : Prop := frontierFullRow.holds Tryd.pinned (OpenSpec.ofChange frontierFullSpec)

/-- ITS FALSE NEIGHBOUR: 'it returns false'. Refute it at one input. -/
def frontierFullWrong : ChangeSpec := { name := "frontierFull", fn := fun _ => fun
  | [d1, d2] => { results := [.lit (.bool false)], args := [d1, d2] }
  | _ => none }
def FrontierFullWrongFalsely : Prop := frontierFullRow.holds Tryd.pinned (OpenSpec.ofChange frontierFullWrong)

/-- 'assayerlaw05.FrontierOwn': WHATEVER THE INPUT: true; the input reads as it did. -/
def frontierOwnSpec : ChangeSpec := { name := "frontierOwn", fn := fun _ => fun
  | [d1, d2] => { results := [.lit (.bool true)], args := [d1, d2] }
  | _ => none }
def frontierOwnRow : OpenClaim := { program := "ytnnhbgaeohdojaadoor", sum := "403f4b817099f2ebdeee4b18ce215de512566fbb64c7fedf5d7c6516c3f4e30a", func := "assayer/assayerlaw05.FrontierOwn", spec := "frontierOwn", unfollowed := true, recurses := true, named := ["assayer/sha.squareRoots", "assayer/sha.cubeRoots"], apart := false, laid := [("assayer/sha.squareRoots", laid_assayer_sha_squareRoots), ("assayer/sha.cubeRoots", laid_assayer_sha_cubeRoots)] }
def FrontierOwnSaid : Prop := frontierOwnRow.holds Tryd.pinned (OpenSpec.ofChange frontierOwnSpec)

/-- ITS FALSE NEIGHBOUR: 'it returns false'. Refute it at one input. -/
def frontierOwnWrong : ChangeSpec := { name := "frontierOwn", fn := fun _ => fun
  | [d1, d2] => { results := [.lit (.bool false)], args := [d1, d2] }
  | _ => none }
def FrontierOwnWrongFalsely : Prop := frontierOwnRow.holds Tryd.pinned (OpenSpec.ofChange frontierOwnWrong)

/-- 'assayerlaw05.FrontierGoes': WHATEVER THE INPUT: true; the input reads as it did. -/
def frontierGoesSpec : ChangeSpec := { name := "frontierGoes", fn := fun _ => fun
  | [d1, d2, d3] => { results := [.lit (.bool true)], args := [d1, d2, d3] }
  | _ => none }
def frontierGoesRow : OpenClaim := { program := "ytnnhbgaeohdojaadoor", sum := "403f4b817099f2ebdeee4b18ce215de512566fbb64c7fedf5d7c6516c3f4e30a", func := "assayer/assayerlaw05.FrontierGoes", spec := "frontierGoes", unfollowed := true, recurses := true, named := ["assayer/sha.squareRoots", "assayer/sha.cubeRoots"], apart := false, laid := [("assayer/sha.squareRoots", laid_assayer_sha_squareRoots), ("assayer/sha.cubeRoots", laid_assayer_sha_cubeRoots)] }
def FrontierGoesSaid : Prop := frontierGoesRow.holds Tryd.pinned (OpenSpec.ofChange frontierGoesSpec)

/-- ITS FALSE NEIGHBOUR: 'it returns false'. Refute it at one input. -/
def frontierGoesWrong : ChangeSpec := { name := "frontierGoes", fn := fun _ => fun
  | [d1, d2, d3] => { results := [.lit (.bool false)], args := [d1, d2, d3] }
  | _ => none }
def FrontierGoesWrongFalsely : Prop := frontierGoesRow.holds Tryd.pinned (OpenSpec.ofChange frontierGoesWrong)

/- THE SECOND FORM. 'bulk': how many values and letters a reading holds, each counted each time it is reached (what is shared counts as often as it is met; a slice's spare places count too). A statement '..UptoSaid' is the law's where the arguments, and the package variables that the reading takes, are together of bulk at most 1048576: NARROWER than '..Said'. Prove '..Said' where nothing that the law and all that it calls make is longer than what came in: it says more and counts as full. Else prove '..UptoSaid'. A law counts once. -/
mutual
def uptoBulk {H : Type} : DataW H → Nat
  | .lit (.string bytes) => bytes.length + 1
  | .lit _ => 1
  | .nil => 1
  | .ptr d => uptoBulk d + 1
  | .slice elems spare => uptoBulkAll elems + uptoBulkAll spare + 1
  | .agg parts => uptoBulkAll parts + 1
  | .iface _ d => uptoBulk d + 1
  | .map entries => uptoBulkEntries entries + 1
  | .held _ => 1
def uptoBulkAll {H : Type} : List (DataW H) → Nat
  | [] => 0
  | d :: r => uptoBulk d + uptoBulkAll r
def uptoBulkEntries {H : Type} : List (Lit × DataW H) → Nat
  | [] => 0
  | x :: r => uptoBulkEntry x + uptoBulkEntries r
def uptoBulkEntry {H : Type} : Lit × DataW H → Nat
  | (.string bytes, d) => bytes.length + uptoBulk d + 1
  | (_, d) => uptoBulk d + 1
 end
def uptoSmall : (H : Type) → List (DataW H) → Bool := fun _ ds => decide (uptoBulkAll ds ≤ 1048576)
def OpenSpec.upto (s : _root_.Go.ChangeSpec) : _root_.Go.OpenSpec := { _root_.Go.OpenSpec.ofChange s with cond := some uptoSmall }

/-- 'assayerlaw03.TreeRoots', WHERE WHAT IT READS IS OF BULK AT MOST 1048576: true; the input reads as it did. -/
def treeRootsUptoRow : OpenClaim := { program := "ytnnhbgaeohdojaadoor", sum := "403f4b817099f2ebdeee4b18ce215de512566fbb64c7fedf5d7c6516c3f4e30a", func := "assayer/assayerlaw03.TreeRoots", spec := "treeRoots", unfollowed := true, recurses := true, named := ["assayer/sha.squareRoots", "assayer/sha.cubeRoots"], apart := false, laid := [("assayer/sha.squareRoots", laid_assayer_sha_squareRoots), ("assayer/sha.cubeRoots", laid_assayer_sha_cubeRoots)], narrowed := true }
def TreeRootsUptoSaid : Prop := treeRootsUptoRow.holds Tryd.pinned (OpenSpec.upto treeRootsSpec)

/-- 'assayerlaw04.ChainProofs', WHERE WHAT IT READS IS OF BULK AT MOST 1048576: true; the input reads as it did. -/
def chainProofsUptoRow : OpenClaim := { program := "ytnnhbgaeohdojaadoor", sum := "403f4b817099f2ebdeee4b18ce215de512566fbb64c7fedf5d7c6516c3f4e30a", func := "assayer/assayerlaw04.ChainProofs", spec := "chainProofs", unfollowed := true, recurses := true, named := ["assayer/sha.squareRoots", "assayer/sha.cubeRoots"], apart := false, laid := [("assayer/sha.squareRoots", laid_assayer_sha_squareRoots), ("assayer/sha.cubeRoots", laid_assayer_sha_cubeRoots)], narrowed := true }
def ChainProofsUptoSaid : Prop := chainProofsUptoRow.holds Tryd.pinned (OpenSpec.upto chainProofsSpec)

/-- 'assayerlaw05.FrontierPlays', WHERE WHAT IT READS IS OF BULK AT MOST 1048576: true; the input reads as it did. -/
def frontierPlaysUptoRow : OpenClaim := { program := "ytnnhbgaeohdojaadoor", sum := "403f4b817099f2ebdeee4b18ce215de512566fbb64c7fedf5d7c6516c3f4e30a", func := "assayer/assayerlaw05.FrontierPlays", spec := "frontierPlays", unfollowed := true, recurses := true, named := ["assayer/sha.squareRoots", "assayer/sha.cubeRoots"], apart := false, laid := [("assayer/sha.squareRoots", laid_assayer_sha_squareRoots), ("assayer/sha.cubeRoots", laid_assayer_sha_cubeRoots)], narrowed := true }
def FrontierPlaysUptoSaid : Prop := frontierPlaysUptoRow.holds Tryd.pinned (OpenSpec.upto frontierPlaysSpec)

/-- 'assayerlaw05.FrontierRoots', WHERE WHAT IT READS IS OF BULK AT MOST 1048576: true; the input reads as it did. -/
def frontierRootsUptoRow : OpenClaim := { program := "ytnnhbgaeohdojaadoor", sum := "403f4b817099f2ebdeee4b18ce215de512566fbb64c7fedf5d7c6516c3f4e30a", func := "assayer/assayerlaw05.FrontierRoots", spec := "frontierRoots", unfollowed := true, recurses := true, named := ["assayer/sha.squareRoots", "assayer/sha.cubeRoots"], apart := false, laid := [("assayer/sha.squareRoots", laid_assayer_sha_squareRoots), ("assayer/sha.cubeRoots", laid_assayer_sha_cubeRoots)], narrowed := true }
def FrontierRootsUptoSaid : Prop := frontierRootsUptoRow.holds Tryd.pinned (OpenSpec.upto frontierRootsSpec)

/-- 'assayerlaw05.FrontierPeaks', WHERE WHAT IT READS IS OF BULK AT MOST 1048576: true; the input reads as it did. -/
def frontierPeaksUptoRow : OpenClaim := { program := "ytnnhbgaeohdojaadoor", sum := "403f4b817099f2ebdeee4b18ce215de512566fbb64c7fedf5d7c6516c3f4e30a", func := "assayer/assayerlaw05.FrontierPeaks", spec := "frontierPeaks", unfollowed := true, recurses := true, named := ["assayer/sha.squareRoots", "assayer/sha.cubeRoots"], apart := false, laid := [("assayer/sha.squareRoots", laid_assayer_sha_squareRoots), ("assayer/sha.cubeRoots", laid_assayer_sha_cubeRoots)], narrowed := true }
def FrontierPeaksUptoSaid : Prop := frontierPeaksUptoRow.holds Tryd.pinned (OpenSpec.upto frontierPeaksSpec)

/-- 'assayerlaw05.FrontierFull', WHERE WHAT IT READS IS OF BULK AT MOST 1048576: true; the input reads as it did. -/
def frontierFullUptoRow : OpenClaim := { program := "ytnnhbgaeohdojaadoor", sum := "403f4b817099f2ebdeee4b18ce215de512566fbb64c7fedf5d7c6516c3f4e30a", func := "assayer/assayerlaw05.FrontierFull", spec := "frontierFull", unfollowed := true, recurses := true, named := ["assayer/sha.squareRoots", "assayer/sha.cubeRoots"], apart := false, laid := [("assayer/sha.squareRoots", laid_assayer_sha_squareRoots), ("assayer/sha.cubeRoots", laid_assayer_sha_cubeRoots)], narrowed := true }
def FrontierFullUptoSaid : Prop := frontierFullUptoRow.holds Tryd.pinned (OpenSpec.upto frontierFullSpec)

/-- 'assayerlaw05.FrontierOwn', WHERE WHAT IT READS IS OF BULK AT MOST 1048576: true; the input reads as it did. -/
def frontierOwnUptoRow : OpenClaim := { program := "ytnnhbgaeohdojaadoor", sum := "403f4b817099f2ebdeee4b18ce215de512566fbb64c7fedf5d7c6516c3f4e30a", func := "assayer/assayerlaw05.FrontierOwn", spec := "frontierOwn", unfollowed := true, recurses := true, named := ["assayer/sha.squareRoots", "assayer/sha.cubeRoots"], apart := false, laid := [("assayer/sha.squareRoots", laid_assayer_sha_squareRoots), ("assayer/sha.cubeRoots", laid_assayer_sha_cubeRoots)], narrowed := true }
def FrontierOwnUptoSaid : Prop := frontierOwnUptoRow.holds Tryd.pinned (OpenSpec.upto frontierOwnSpec)

/-- 'assayerlaw05.FrontierGoes', WHERE WHAT IT READS IS OF BULK AT MOST 1048576: true; the input reads as it did. -/
def frontierGoesUptoRow : OpenClaim := { program := "ytnnhbgaeohdojaadoor", sum := "403f4b817099f2ebdeee4b18ce215de512566fbb64c7fedf5d7c6516c3f4e30a", func := "assayer/assayerlaw05.FrontierGoes", spec := "frontierGoes", unfollowed := true, recurses := true, named := ["assayer/sha.squareRoots", "assayer/sha.cubeRoots"], apart := false, laid := [("assayer/sha.squareRoots", laid_assayer_sha_squareRoots), ("assayer/sha.cubeRoots", laid_assayer_sha_cubeRoots)], narrowed := true }
def FrontierGoesUptoSaid : Prop := frontierGoesUptoRow.holds Tryd.pinned (OpenSpec.upto frontierGoesSpec)

end Rows
end Go.Proofs.YtnnhbgaeohdojaaDoor
