/-
  NARROWER THAN 'FOR EVERY INPUT', by the rows' own cells (each row's printed sentence says how): ShaOf: laid · TreeRoots: laid · TreeVerifies: laid · ChainProofs: laid · ChainVerifies: laid · ChainGoes: laid · ChainLong: laid · ChainSame: laid · ChainSteps: laid · ChainWhole: laid.
  DERIVED. THE GIVEN ROWS OF THIS SEAT. 10 by the template 'for every input the law returns true; each argument reads behind the call as it read before'; 0 by the template 'total and deterministic' (their statements: YtfokemminjikpaaDoorTotals.lean).
  GIVEN WITH THE SEED: the statements are not yours to turn. If you find one false, say at which input.
  Laid BY PROGRAM, IN A SANDBOX (cutbox-rows.mjs): the forced cells as the released guide's own fill.sh prints them over the translation 9a91112a429ea93d… (all of the seat's roots in one cut). By AI agents, Wed Nov 11 2026. No macro, syntax, notation, axiom, sorry.
-/
import Derived.Test.YtfokemminjikpaaDoorChecked
import GoSem.Claim
import GoSem.ClaimJoined
import GoSem.ClaimMapViews
import Derived.JoinedTies
import Derived.KernelRfl
namespace Go.Proofs.YtfokemminjikpaaDoor
/- THE CELL 'sum', in the pinned program and in every row, IS THE sha256 OF THE DUMP (.gsa) THAT YtfokemminjikpaaDoorProg.lean LOADS. Nothing in Lean hashes anything: it is a label: what it is worth is what the hold of that sum in a sandbox is worth. -/
noncomputable def Tryd.pinned : Pinned := { name := "ytfokemminjikpaadoor", sum := "9a91112a429ea93daa4a99ee4870f1ae2c44b1a58181746750a41176306d3233", checked := Tryd.checked }
namespace Rows
def none {H : Type} : Left H := { results := [], args := [] }

/- WHAT THE LISTED PACKAGE-LEVEL VARIABLES READ AS WHEN THE CALL BEGINS. Each datum BY PROGRAM (the guide's laid-datum.mjs) off the statement by which the dump's own 'gosem.cut.vars' lays the variable. In a bare row this is a premise. The card (YtfokemminjikpaaDoorCards.lean) ties it to the program's text. -/
def laid_assayer_sha_squareRoots {H : Type} : DataW H := .agg [.lit (.int .u32 1779033703), .lit (.int .u32 3144134277), .lit (.int .u32 1013904242), .lit (.int .u32 2773480762), .lit (.int .u32 1359893119), .lit (.int .u32 2600822924), .lit (.int .u32 528734635), .lit (.int .u32 1541459225)]
def laid_assayer_sha_cubeRoots {H : Type} : DataW H := .agg [.lit (.int .u32 1116352408), .lit (.int .u32 1899447441), .lit (.int .u32 3049323471), .lit (.int .u32 3921009573), .lit (.int .u32 961987163), .lit (.int .u32 1508970993), .lit (.int .u32 2453635748), .lit (.int .u32 2870763221), .lit (.int .u32 3624381080), .lit (.int .u32 310598401), .lit (.int .u32 607225278), .lit (.int .u32 1426881987), .lit (.int .u32 1925078388), .lit (.int .u32 2162078206), .lit (.int .u32 2614888103), .lit (.int .u32 3248222580), .lit (.int .u32 3835390401), .lit (.int .u32 4022224774), .lit (.int .u32 264347078), .lit (.int .u32 604807628), .lit (.int .u32 770255983), .lit (.int .u32 1249150122), .lit (.int .u32 1555081692), .lit (.int .u32 1996064986), .lit (.int .u32 2554220882), .lit (.int .u32 2821834349), .lit (.int .u32 2952996808), .lit (.int .u32 3210313671), .lit (.int .u32 3336571891), .lit (.int .u32 3584528711), .lit (.int .u32 113926993), .lit (.int .u32 338241895), .lit (.int .u32 666307205), .lit (.int .u32 773529912), .lit (.int .u32 1294757372), .lit (.int .u32 1396182291), .lit (.int .u32 1695183700), .lit (.int .u32 1986661051), .lit (.int .u32 2177026350), .lit (.int .u32 2456956037), .lit (.int .u32 2730485921), .lit (.int .u32 2820302411), .lit (.int .u32 3259730800), .lit (.int .u32 3345764771), .lit (.int .u32 3516065817), .lit (.int .u32 3600352804), .lit (.int .u32 4094571909), .lit (.int .u32 275423344), .lit (.int .u32 430227734), .lit (.int .u32 506948616), .lit (.int .u32 659060556), .lit (.int .u32 883997877), .lit (.int .u32 958139571), .lit (.int .u32 1322822218), .lit (.int .u32 1537002063), .lit (.int .u32 1747873779), .lit (.int .u32 1955562222), .lit (.int .u32 2024104815), .lit (.int .u32 2227730452), .lit (.int .u32 2361852424), .lit (.int .u32 2428436474), .lit (.int .u32 2756734187), .lit (.int .u32 3204031479), .lit (.int .u32 3329325298)]

/-- 'assayerlaw02.ShaOf': WHATEVER THE INPUT: true; the input reads as it did. -/
def shaOfSpec : ChangeSpec := { name := "shaOf", fn := fun _ => fun
  | [d1, d2, d3] => { results := [.lit (.bool true)], args := [d1, d2, d3] }
  | _ => none }
def shaOfRow : OpenClaim := { program := "ytfokemminjikpaadoor", sum := "9a91112a429ea93daa4a99ee4870f1ae2c44b1a58181746750a41176306d3233", func := "assayer/assayerlaw02.ShaOf", spec := "shaOf", named := ["assayer/sha.squareRoots", "assayer/sha.cubeRoots"], apart := false, laid := [("assayer/sha.squareRoots", laid_assayer_sha_squareRoots), ("assayer/sha.cubeRoots", laid_assayer_sha_cubeRoots)] }
def ShaOfSaid : Prop := shaOfRow.holds Tryd.pinned (OpenSpec.ofChange shaOfSpec)

/-- ITS FALSE NEIGHBOUR: 'it returns false'. Refute it at one input. -/
def shaOfWrong : ChangeSpec := { name := "shaOf", fn := fun _ => fun
  | [d1, d2, d3] => { results := [.lit (.bool false)], args := [d1, d2, d3] }
  | _ => none }
def ShaOfWrongFalsely : Prop := shaOfRow.holds Tryd.pinned (OpenSpec.ofChange shaOfWrong)

/-- 'assayerlaw03.TreeRoots': WHATEVER THE INPUT: true; the input reads as it did. -/
def treeRootsSpec : ChangeSpec := { name := "treeRoots", fn := fun _ => fun
  | [d1, d2, d3] => { results := [.lit (.bool true)], args := [d1, d2, d3] }
  | _ => none }
def treeRootsRow : OpenClaim := { program := "ytfokemminjikpaadoor", sum := "9a91112a429ea93daa4a99ee4870f1ae2c44b1a58181746750a41176306d3233", func := "assayer/assayerlaw03.TreeRoots", spec := "treeRoots", unfollowed := true, recurses := true, named := ["assayer/sha.squareRoots", "assayer/sha.cubeRoots"], apart := false, laid := [("assayer/sha.squareRoots", laid_assayer_sha_squareRoots), ("assayer/sha.cubeRoots", laid_assayer_sha_cubeRoots)] }
def TreeRootsSaid : Prop := treeRootsRow.holds Tryd.pinned (OpenSpec.ofChange treeRootsSpec)

/-- ITS FALSE NEIGHBOUR: 'it returns false'. Refute it at one input. -/
def treeRootsWrong : ChangeSpec := { name := "treeRoots", fn := fun _ => fun
  | [d1, d2, d3] => { results := [.lit (.bool false)], args := [d1, d2, d3] }
  | _ => none }
def TreeRootsWrongFalsely : Prop := treeRootsRow.holds Tryd.pinned (OpenSpec.ofChange treeRootsWrong)

/-- 'assayerlaw03.TreeVerifies': WHATEVER THE INPUT: true; the input reads as it did. -/
def treeVerifiesSpec : ChangeSpec := { name := "treeVerifies", fn := fun _ => fun
  | [d1, d2, d3, d4, d5, d6] => { results := [.lit (.bool true)], args := [d1, d2, d3, d4, d5, d6] }
  | _ => none }
def treeVerifiesRow : OpenClaim := { program := "ytfokemminjikpaadoor", sum := "9a91112a429ea93daa4a99ee4870f1ae2c44b1a58181746750a41176306d3233", func := "assayer/assayerlaw03.TreeVerifies", spec := "treeVerifies", unfollowed := true, recurses := true, named := ["assayer/sha.squareRoots", "assayer/sha.cubeRoots"], apart := false, laid := [("assayer/sha.squareRoots", laid_assayer_sha_squareRoots), ("assayer/sha.cubeRoots", laid_assayer_sha_cubeRoots)] }
def TreeVerifiesSaid : Prop := treeVerifiesRow.holds Tryd.pinned (OpenSpec.ofChange treeVerifiesSpec)

/-- ITS FALSE NEIGHBOUR: 'it returns false'. Refute it at one input. -/
def treeVerifiesWrong : ChangeSpec := { name := "treeVerifies", fn := fun _ => fun
  | [d1, d2, d3, d4, d5, d6] => { results := [.lit (.bool false)], args := [d1, d2, d3, d4, d5, d6] }
  | _ => none }
def TreeVerifiesWrongFalsely : Prop := treeVerifiesRow.holds Tryd.pinned (OpenSpec.ofChange treeVerifiesWrong)

/-- 'assayerlaw04.ChainProofs': WHATEVER THE INPUT: true; the input reads as it did. -/
def chainProofsSpec : ChangeSpec := { name := "chainProofs", fn := fun _ => fun
  | [d1, d2, d3, d4] => { results := [.lit (.bool true)], args := [d1, d2, d3, d4] }
  | _ => none }
def chainProofsRow : OpenClaim := { program := "ytfokemminjikpaadoor", sum := "9a91112a429ea93daa4a99ee4870f1ae2c44b1a58181746750a41176306d3233", func := "assayer/assayerlaw04.ChainProofs", spec := "chainProofs", unfollowed := true, recurses := true, named := ["assayer/sha.squareRoots", "assayer/sha.cubeRoots"], apart := false, laid := [("assayer/sha.squareRoots", laid_assayer_sha_squareRoots), ("assayer/sha.cubeRoots", laid_assayer_sha_cubeRoots)] }
def ChainProofsSaid : Prop := chainProofsRow.holds Tryd.pinned (OpenSpec.ofChange chainProofsSpec)

/-- ITS FALSE NEIGHBOUR: 'it returns false'. Refute it at one input. -/
def chainProofsWrong : ChangeSpec := { name := "chainProofs", fn := fun _ => fun
  | [d1, d2, d3, d4] => { results := [.lit (.bool false)], args := [d1, d2, d3, d4] }
  | _ => none }
def ChainProofsWrongFalsely : Prop := chainProofsRow.holds Tryd.pinned (OpenSpec.ofChange chainProofsWrong)

/-- 'assayerlaw04.ChainVerifies': WHATEVER THE INPUT: true; the input reads as it did. -/
def chainVerifiesSpec : ChangeSpec := { name := "chainVerifies", fn := fun _ => fun
  | [d1, d2, d3, d4] => { results := [.lit (.bool true)], args := [d1, d2, d3, d4] }
  | _ => none }
def chainVerifiesRow : OpenClaim := { program := "ytfokemminjikpaadoor", sum := "9a91112a429ea93daa4a99ee4870f1ae2c44b1a58181746750a41176306d3233", func := "assayer/assayerlaw04.ChainVerifies", spec := "chainVerifies", unfollowed := true, recurses := true, named := ["assayer/sha.squareRoots", "assayer/sha.cubeRoots"], apart := false, laid := [("assayer/sha.squareRoots", laid_assayer_sha_squareRoots), ("assayer/sha.cubeRoots", laid_assayer_sha_cubeRoots)] }
def ChainVerifiesSaid : Prop := chainVerifiesRow.holds Tryd.pinned (OpenSpec.ofChange chainVerifiesSpec)

/-- ITS FALSE NEIGHBOUR: 'it returns false'. Refute it at one input. -/
def chainVerifiesWrong : ChangeSpec := { name := "chainVerifies", fn := fun _ => fun
  | [d1, d2, d3, d4] => { results := [.lit (.bool false)], args := [d1, d2, d3, d4] }
  | _ => none }
def ChainVerifiesWrongFalsely : Prop := chainVerifiesRow.holds Tryd.pinned (OpenSpec.ofChange chainVerifiesWrong)

/-- 'assayerlaw04.ChainGoes': WHATEVER THE INPUT: true; the input reads as it did. -/
def chainGoesSpec : ChangeSpec := { name := "chainGoes", fn := fun _ => fun
  | [d1, d2] => { results := [.lit (.bool true)], args := [d1, d2] }
  | _ => none }
def chainGoesRow : OpenClaim := { program := "ytfokemminjikpaadoor", sum := "9a91112a429ea93daa4a99ee4870f1ae2c44b1a58181746750a41176306d3233", func := "assayer/assayerlaw04.ChainGoes", spec := "chainGoes", unfollowed := true, recurses := true, named := ["assayer/sha.squareRoots", "assayer/sha.cubeRoots"], apart := false, laid := [("assayer/sha.squareRoots", laid_assayer_sha_squareRoots), ("assayer/sha.cubeRoots", laid_assayer_sha_cubeRoots)] }
def ChainGoesSaid : Prop := chainGoesRow.holds Tryd.pinned (OpenSpec.ofChange chainGoesSpec)

/-- ITS FALSE NEIGHBOUR: 'it returns false'. Refute it at one input. -/
def chainGoesWrong : ChangeSpec := { name := "chainGoes", fn := fun _ => fun
  | [d1, d2] => { results := [.lit (.bool false)], args := [d1, d2] }
  | _ => none }
def ChainGoesWrongFalsely : Prop := chainGoesRow.holds Tryd.pinned (OpenSpec.ofChange chainGoesWrong)

/-- 'assayerlaw04.ChainLong': WHATEVER THE INPUT: true; the input reads as it did. -/
def chainLongSpec : ChangeSpec := { name := "chainLong", fn := fun _ => fun
  | [d1, d2] => { results := [.lit (.bool true)], args := [d1, d2] }
  | _ => none }
def chainLongRow : OpenClaim := { program := "ytfokemminjikpaadoor", sum := "9a91112a429ea93daa4a99ee4870f1ae2c44b1a58181746750a41176306d3233", func := "assayer/assayerlaw04.ChainLong", spec := "chainLong", unfollowed := true, recurses := true, named := ["assayer/sha.squareRoots", "assayer/sha.cubeRoots"], apart := false, laid := [("assayer/sha.squareRoots", laid_assayer_sha_squareRoots), ("assayer/sha.cubeRoots", laid_assayer_sha_cubeRoots)] }
def ChainLongSaid : Prop := chainLongRow.holds Tryd.pinned (OpenSpec.ofChange chainLongSpec)

/-- ITS FALSE NEIGHBOUR: 'it returns false'. Refute it at one input. -/
def chainLongWrong : ChangeSpec := { name := "chainLong", fn := fun _ => fun
  | [d1, d2] => { results := [.lit (.bool false)], args := [d1, d2] }
  | _ => none }
def ChainLongWrongFalsely : Prop := chainLongRow.holds Tryd.pinned (OpenSpec.ofChange chainLongWrong)

/-- 'assayerlaw04.ChainSame': WHATEVER THE INPUT: true; the input reads as it did. -/
def chainSameSpec : ChangeSpec := { name := "chainSame", fn := fun _ => fun
  | [d1, d2, d3, d4, d5] => { results := [.lit (.bool true)], args := [d1, d2, d3, d4, d5] }
  | _ => none }
def chainSameRow : OpenClaim := { program := "ytfokemminjikpaadoor", sum := "9a91112a429ea93daa4a99ee4870f1ae2c44b1a58181746750a41176306d3233", func := "assayer/assayerlaw04.ChainSame", spec := "chainSame", unfollowed := true, recurses := true, named := ["assayer/sha.squareRoots", "assayer/sha.cubeRoots"], apart := false, laid := [("assayer/sha.squareRoots", laid_assayer_sha_squareRoots), ("assayer/sha.cubeRoots", laid_assayer_sha_cubeRoots)] }
def ChainSameSaid : Prop := chainSameRow.holds Tryd.pinned (OpenSpec.ofChange chainSameSpec)

/-- ITS FALSE NEIGHBOUR: 'it returns false'. Refute it at one input. -/
def chainSameWrong : ChangeSpec := { name := "chainSame", fn := fun _ => fun
  | [d1, d2, d3, d4, d5] => { results := [.lit (.bool false)], args := [d1, d2, d3, d4, d5] }
  | _ => none }
def ChainSameWrongFalsely : Prop := chainSameRow.holds Tryd.pinned (OpenSpec.ofChange chainSameWrong)

/-- 'assayerlaw04.ChainSteps': WHATEVER THE INPUT: true; the input reads as it did. -/
def chainStepsSpec : ChangeSpec := { name := "chainSteps", fn := fun _ => fun
  | [d1, d2, d3, d4] => { results := [.lit (.bool true)], args := [d1, d2, d3, d4] }
  | _ => none }
def chainStepsRow : OpenClaim := { program := "ytfokemminjikpaadoor", sum := "9a91112a429ea93daa4a99ee4870f1ae2c44b1a58181746750a41176306d3233", func := "assayer/assayerlaw04.ChainSteps", spec := "chainSteps", unfollowed := true, recurses := true, named := ["assayer/sha.squareRoots", "assayer/sha.cubeRoots"], apart := false, laid := [("assayer/sha.squareRoots", laid_assayer_sha_squareRoots), ("assayer/sha.cubeRoots", laid_assayer_sha_cubeRoots)] }
def ChainStepsSaid : Prop := chainStepsRow.holds Tryd.pinned (OpenSpec.ofChange chainStepsSpec)

/-- ITS FALSE NEIGHBOUR: 'it returns false'. Refute it at one input. -/
def chainStepsWrong : ChangeSpec := { name := "chainSteps", fn := fun _ => fun
  | [d1, d2, d3, d4] => { results := [.lit (.bool false)], args := [d1, d2, d3, d4] }
  | _ => none }
def ChainStepsWrongFalsely : Prop := chainStepsRow.holds Tryd.pinned (OpenSpec.ofChange chainStepsWrong)

/-- 'assayerlaw04.ChainWhole': WHATEVER THE INPUT: true; the input reads as it did. -/
def chainWholeSpec : ChangeSpec := { name := "chainWhole", fn := fun _ => fun
  | [d] => { results := [.lit (.bool true)], args := [d] }
  | _ => none }
def chainWholeRow : OpenClaim := { program := "ytfokemminjikpaadoor", sum := "9a91112a429ea93daa4a99ee4870f1ae2c44b1a58181746750a41176306d3233", func := "assayer/assayerlaw04.ChainWhole", spec := "chainWhole", unfollowed := true, recurses := true, named := ["assayer/sha.squareRoots", "assayer/sha.cubeRoots"], apart := false, laid := [("assayer/sha.squareRoots", laid_assayer_sha_squareRoots), ("assayer/sha.cubeRoots", laid_assayer_sha_cubeRoots)] }
def ChainWholeSaid : Prop := chainWholeRow.holds Tryd.pinned (OpenSpec.ofChange chainWholeSpec)

/-- ITS FALSE NEIGHBOUR: 'it returns false'. Refute it at one input. -/
def chainWholeWrong : ChangeSpec := { name := "chainWhole", fn := fun _ => fun
  | [d] => { results := [.lit (.bool false)], args := [d] }
  | _ => none }
def ChainWholeWrongFalsely : Prop := chainWholeRow.holds Tryd.pinned (OpenSpec.ofChange chainWholeWrong)

/- THE SECOND FORM. 'bulk': how many values and letters a reading holds, each counted each time it is reached (what is shared counts as often as it is met; a slice's spare places count too). A statement '..UptoSaid' is the law's where the arguments, and the package variables that the reading takes, are together of bulk at most 1048576: NARROWER than '..Said'. Prove '..Said' where nothing that the law and all that it calls make is longer than what came in: it says more and counts as full. Else prove '..UptoSaid'. A law counts once. -/
mutual
def uptoBulk {H : Type} : DataW H → Nat
  | .lit (.string bytes) => bytes.length + 1
  | .lit _ => 1
  | .nil => 1
  | .ptr d => uptoBulk d + 1
  | .slice elems spare => uptoBulkAll elems + uptoBulkAll spare + 1
  | .agg parts => uptoBulkAll parts + 1
  | .iface _ d => uptoBulk d + 1
  | .map entries => uptoBulkEntries entries + 1
  | .held _ => 1
def uptoBulkAll {H : Type} : List (DataW H) → Nat
  | [] => 0
  | d :: r => uptoBulk d + uptoBulkAll r
def uptoBulkEntries {H : Type} : List (Lit × DataW H) → Nat
  | [] => 0
  | x :: r => uptoBulkEntry x + uptoBulkEntries r
def uptoBulkEntry {H : Type} : Lit × DataW H → Nat
  | (.string bytes, d) => bytes.length + uptoBulk d + 1
  | (_, d) => uptoBulk d + 1
 end
def uptoSmall : (H : Type) → List (DataW H) → Bool := fun _ ds => decide (uptoBulkAll ds ≤ 1048576)
def OpenSpec.upto (s : _root_.Go.ChangeSpec) : _root_.Go.OpenSpec := { _root_.Go.OpenSpec.ofChange s with cond := some uptoSmall }

/-- 'assayerlaw02.ShaOf', WHERE WHAT IT READS IS OF BULK AT MOST 1048576: true; the input reads as it did. -/
def shaOfUptoRow : OpenClaim := { program := "ytfokemminjikpaadoor", sum := "9a91112a429ea93daa4a99ee4870f1ae2c44b1a58181746750a41176306d3233", func := "assayer/assayerlaw02.ShaOf", spec := "shaOf", named := ["assayer/sha.squareRoots", "assayer/sha.cubeRoots"], apart := false, laid := [("assayer/sha.squareRoots", laid_assayer_sha_squareRoots), ("assayer/sha.cubeRoots", laid_assayer_sha_cubeRoots)], narrowed := true }
def ShaOfUptoSaid : Prop := shaOfUptoRow.holds Tryd.pinned (OpenSpec.upto shaOfSpec)

/-- 'assayerlaw03.TreeRoots', WHERE WHAT IT READS IS OF BULK AT MOST 1048576: true; the input reads as it did. -/
def treeRootsUptoRow : OpenClaim := { program := "ytfokemminjikpaadoor", sum := "9a91112a429ea93daa4a99ee4870f1ae2c44b1a58181746750a41176306d3233", func := "assayer/assayerlaw03.TreeRoots", spec := "treeRoots", unfollowed := true, recurses := true, named := ["assayer/sha.squareRoots", "assayer/sha.cubeRoots"], apart := false, laid := [("assayer/sha.squareRoots", laid_assayer_sha_squareRoots), ("assayer/sha.cubeRoots", laid_assayer_sha_cubeRoots)], narrowed := true }
def TreeRootsUptoSaid : Prop := treeRootsUptoRow.holds Tryd.pinned (OpenSpec.upto treeRootsSpec)

/-- 'assayerlaw03.TreeVerifies', WHERE WHAT IT READS IS OF BULK AT MOST 1048576: true; the input reads as it did. -/
def treeVerifiesUptoRow : OpenClaim := { program := "ytfokemminjikpaadoor", sum := "9a91112a429ea93daa4a99ee4870f1ae2c44b1a58181746750a41176306d3233", func := "assayer/assayerlaw03.TreeVerifies", spec := "treeVerifies", unfollowed := true, recurses := true, named := ["assayer/sha.squareRoots", "assayer/sha.cubeRoots"], apart := false, laid := [("assayer/sha.squareRoots", laid_assayer_sha_squareRoots), ("assayer/sha.cubeRoots", laid_assayer_sha_cubeRoots)], narrowed := true }
def TreeVerifiesUptoSaid : Prop := treeVerifiesUptoRow.holds Tryd.pinned (OpenSpec.upto treeVerifiesSpec)

/-- 'assayerlaw04.ChainProofs', WHERE WHAT IT READS IS OF BULK AT MOST 1048576: true; the input reads as it did. -/
def chainProofsUptoRow : OpenClaim := { program := "ytfokemminjikpaadoor", sum := "9a91112a429ea93daa4a99ee4870f1ae2c44b1a58181746750a41176306d3233", func := "assayer/assayerlaw04.ChainProofs", spec := "chainProofs", unfollowed := true, recurses := true, named := ["assayer/sha.squareRoots", "assayer/sha.cubeRoots"], apart := false, laid := [("assayer/sha.squareRoots", laid_assayer_sha_squareRoots), ("assayer/sha.cubeRoots", laid_assayer_sha_cubeRoots)], narrowed := true }
def ChainProofsUptoSaid : Prop := chainProofsUptoRow.holds Tryd.pinned (OpenSpec.upto chainProofsSpec)

/-- 'assayerlaw04.ChainVerifies', WHERE WHAT IT READS IS OF BULK AT MOST 1048576: true; the input reads as it did. -/
def chainVerifiesUptoRow : OpenClaim := { program := "ytfokemminjikpaadoor", sum := "9a91112a429ea93daa4a99ee4870f1ae2c44b1a58181746750a41176306d3233", func := "assayer/assayerlaw04.ChainVerifies", spec := "chainVerifies", unfollowed := true, recurses := true, named := ["assayer/sha.squareRoots", "assayer/sha.cubeRoots"], apart := false, laid := [("assayer/sha.squareRoots", laid_assayer_sha_squareRoots), ("assayer/sha.cubeRoots", laid_assayer_sha_cubeRoots)], narrowed := true }
def ChainVerifiesUptoSaid : Prop := chainVerifiesUptoRow.holds Tryd.pinned (OpenSpec.upto chainVerifiesSpec)

/-- 'assayerlaw04.ChainGoes', WHERE WHAT IT READS IS OF BULK AT MOST 1048576: true; the input reads as it did. -/
def chainGoesUptoRow : OpenClaim := { program := "ytfokemminjikpaadoor", sum := "9a91112a429ea93daa4a99ee4870f1ae2c44b1a58181746750a41176306d3233", func := "assayer/assayerlaw04.ChainGoes", spec := "chainGoes", unfollowed := true, recurses := true, named := ["assayer/sha.squareRoots", "assayer/sha.cubeRoots"], apart := false, laid := [("assayer/sha.squareRoots", laid_assayer_sha_squareRoots), ("assayer/sha.cubeRoots", laid_assayer_sha_cubeRoots)], narrowed := true }
def ChainGoesUptoSaid : Prop := chainGoesUptoRow.holds Tryd.pinned (OpenSpec.upto chainGoesSpec)

/-- 'assayerlaw04.ChainLong', WHERE WHAT IT READS IS OF BULK AT MOST 1048576: true; the input reads as it did. -/
def chainLongUptoRow : OpenClaim := { program := "ytfokemminjikpaadoor", sum := "9a91112a429ea93daa4a99ee4870f1ae2c44b1a58181746750a41176306d3233", func := "assayer/assayerlaw04.ChainLong", spec := "chainLong", unfollowed := true, recurses := true, named := ["assayer/sha.squareRoots", "assayer/sha.cubeRoots"], apart := false, laid := [("assayer/sha.squareRoots", laid_assayer_sha_squareRoots), ("assayer/sha.cubeRoots", laid_assayer_sha_cubeRoots)], narrowed := true }
def ChainLongUptoSaid : Prop := chainLongUptoRow.holds Tryd.pinned (OpenSpec.upto chainLongSpec)

/-- 'assayerlaw04.ChainSame', WHERE WHAT IT READS IS OF BULK AT MOST 1048576: true; the input reads as it did. -/
def chainSameUptoRow : OpenClaim := { program := "ytfokemminjikpaadoor", sum := "9a91112a429ea93daa4a99ee4870f1ae2c44b1a58181746750a41176306d3233", func := "assayer/assayerlaw04.ChainSame", spec := "chainSame", unfollowed := true, recurses := true, named := ["assayer/sha.squareRoots", "assayer/sha.cubeRoots"], apart := false, laid := [("assayer/sha.squareRoots", laid_assayer_sha_squareRoots), ("assayer/sha.cubeRoots", laid_assayer_sha_cubeRoots)], narrowed := true }
def ChainSameUptoSaid : Prop := chainSameUptoRow.holds Tryd.pinned (OpenSpec.upto chainSameSpec)

/-- 'assayerlaw04.ChainSteps', WHERE WHAT IT READS IS OF BULK AT MOST 1048576: true; the input reads as it did. -/
def chainStepsUptoRow : OpenClaim := { program := "ytfokemminjikpaadoor", sum := "9a91112a429ea93daa4a99ee4870f1ae2c44b1a58181746750a41176306d3233", func := "assayer/assayerlaw04.ChainSteps", spec := "chainSteps", unfollowed := true, recurses := true, named := ["assayer/sha.squareRoots", "assayer/sha.cubeRoots"], apart := false, laid := [("assayer/sha.squareRoots", laid_assayer_sha_squareRoots), ("assayer/sha.cubeRoots", laid_assayer_sha_cubeRoots)], narrowed := true }
def ChainStepsUptoSaid : Prop := chainStepsUptoRow.holds Tryd.pinned (OpenSpec.upto chainStepsSpec)

/-- 'assayerlaw04.ChainWhole', WHERE WHAT IT READS IS OF BULK AT MOST 1048576: true; the input reads as it did. -/
def chainWholeUptoRow : OpenClaim := { program := "ytfokemminjikpaadoor", sum := "9a91112a429ea93daa4a99ee4870f1ae2c44b1a58181746750a41176306d3233", func := "assayer/assayerlaw04.ChainWhole", spec := "chainWhole", unfollowed := true, recurses := true, named := ["assayer/sha.squareRoots", "assayer/sha.cubeRoots"], apart := false, laid := [("assayer/sha.squareRoots", laid_assayer_sha_squareRoots), ("assayer/sha.cubeRoots", laid_assayer_sha_cubeRoots)], narrowed := true }
def ChainWholeUptoSaid : Prop := chainWholeUptoRow.holds Tryd.pinned (OpenSpec.upto chainWholeSpec)

end Rows
end Go.Proofs.YtfokemminjikpaaDoor
