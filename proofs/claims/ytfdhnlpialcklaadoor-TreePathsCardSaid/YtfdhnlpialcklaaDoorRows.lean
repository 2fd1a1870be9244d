/-
  NARROWER THAN 'FOR EVERY INPUT', by the rows' own cells (each row's printed sentence says how): ShaOf: laid · TreeRoots: laid · TreeVerifies: laid · TreePaths: laid · TreeParts: laid · TreeGrows: laid · TreePlaces: laid · TreeLong: laid.
  DERIVED. THE GIVEN ROWS OF THIS SEAT. 8 by the template 'for every input the law returns true; each argument reads behind the call as it read before'; 0 by the template 'total and deterministic' (their statements: YtfdhnlpialcklaaDoorTotals.lean).
  GIVEN WITH THE SEED: the statements are not yours to turn. If you find one false, say at which input.
  Laid BY PROGRAM, IN A SANDBOX (cutbox-rows.mjs): the forced cells as the released guide's own fill.sh prints them over the translation d44a9626c2b88e18… (all of the seat's roots in one cut). By AI agents, Wed Nov 11 2026. No macro, syntax, notation, axiom, sorry.
-/
import Derived.Test.YtfdhnlpialcklaaDoorChecked
import GoSem.Claim
import GoSem.ClaimJoined
import GoSem.ClaimMapViews
import Derived.JoinedTies
import Derived.KernelRfl
namespace Go.Proofs.YtfdhnlpialcklaaDoor
/- THE CELL 'sum', in the pinned program and in every row, IS THE sha256 OF THE DUMP (.gsa) THAT YtfdhnlpialcklaaDoorProg.lean LOADS. Nothing in Lean hashes anything: it is a label: what it is worth is what the hold of that sum in a sandbox is worth. -/
noncomputable def Tryd.pinned : Pinned := { name := "ytfdhnlpialcklaadoor", sum := "d44a9626c2b88e182cc27897f97eaeeb69d9dcc24d032593207e27509e9db70e", checked := Tryd.checked }
namespace Rows
def none {H : Type} : Left H := { results := [], args := [] }

/- WHAT THE LISTED PACKAGE-LEVEL VARIABLES READ AS WHEN THE CALL BEGINS. Each datum BY PROGRAM (the guide's laid-datum.mjs) off the statement by which the dump's own 'gosem.cut.vars' lays the variable. In a bare row this is a premise. The card (YtfdhnlpialcklaaDoorCards.lean) ties it to the program's text. -/
def laid_assayer_sha_squareRoots {H : Type} : DataW H := .agg [.lit (.int .u32 1779033703), .lit (.int .u32 3144134277), .lit (.int .u32 1013904242), .lit (.int .u32 2773480762), .lit (.int .u32 1359893119), .lit (.int .u32 2600822924), .lit (.int .u32 528734635), .lit (.int .u32 1541459225)]
def laid_assayer_sha_cubeRoots {H : Type} : DataW H := .agg [.lit (.int .u32 1116352408), .lit (.int .u32 1899447441), .lit (.int .u32 3049323471), .lit (.int .u32 3921009573), .lit (.int .u32 961987163), .lit (.int .u32 1508970993), .lit (.int .u32 2453635748), .lit (.int .u32 2870763221), .lit (.int .u32 3624381080), .lit (.int .u32 310598401), .lit (.int .u32 607225278), .lit (.int .u32 1426881987), .lit (.int .u32 1925078388), .lit (.int .u32 2162078206), .lit (.int .u32 2614888103), .lit (.int .u32 3248222580), .lit (.int .u32 3835390401), .lit (.int .u32 4022224774), .lit (.int .u32 264347078), .lit (.int .u32 604807628), .lit (.int .u32 770255983), .lit (.int .u32 1249150122), .lit (.int .u32 1555081692), .lit (.int .u32 1996064986), .lit (.int .u32 2554220882), .lit (.int .u32 2821834349), .lit (.int .u32 2952996808), .lit (.int .u32 3210313671), .lit (.int .u32 3336571891), .lit (.int .u32 3584528711), .lit (.int .u32 113926993), .lit (.int .u32 338241895), .lit (.int .u32 666307205), .lit (.int .u32 773529912), .lit (.int .u32 1294757372), .lit (.int .u32 1396182291), .lit (.int .u32 1695183700), .lit (.int .u32 1986661051), .lit (.int .u32 2177026350), .lit (.int .u32 2456956037), .lit (.int .u32 2730485921), .lit (.int .u32 2820302411), .lit (.int .u32 3259730800), .lit (.int .u32 3345764771), .lit (.int .u32 3516065817), .lit (.int .u32 3600352804), .lit (.int .u32 4094571909), .lit (.int .u32 275423344), .lit (.int .u32 430227734), .lit (.int .u32 506948616), .lit (.int .u32 659060556), .lit (.int .u32 883997877), .lit (.int .u32 958139571), .lit (.int .u32 1322822218), .lit (.int .u32 1537002063), .lit (.int .u32 1747873779), .lit (.int .u32 1955562222), .lit (.int .u32 2024104815), .lit (.int .u32 2227730452), .lit (.int .u32 2361852424), .lit (.int .u32 2428436474), .lit (.int .u32 2756734187), .lit (.int .u32 3204031479), .lit (.int .u32 3329325298)]

/-- 'assayerlaw02.ShaOf': WHATEVER THE INPUT: true; the input reads as it did. -/
def shaOfSpec : ChangeSpec := { name := "shaOf", fn := fun _ => fun
  | [d1, d2, d3] => { results := [.lit (.bool true)], args := [d1, d2, d3] }
  | _ => none }
def shaOfRow : OpenClaim := { program := "ytfdhnlpialcklaadoor", sum := "d44a9626c2b88e182cc27897f97eaeeb69d9dcc24d032593207e27509e9db70e", func := "assayer/assayerlaw02.ShaOf", spec := "shaOf", named := ["assayer/sha.squareRoots", "assayer/sha.cubeRoots"], apart := false, laid := [("assayer/sha.squareRoots", laid_assayer_sha_squareRoots), ("assayer/sha.cubeRoots", laid_assayer_sha_cubeRoots)] }
def ShaOfSaid : Prop := shaOfRow.holds Tryd.pinned (OpenSpec.ofChange shaOfSpec)

/-- ITS FALSE NEIGHBOUR: 'it returns false'. Refute it at one input. -/
def shaOfWrong : ChangeSpec := { name := "shaOf", fn := fun _ => fun
  | [d1, d2, d3] => { results := [.lit (.bool false)], args := [d1, d2, d3] }
  | _ => none }
def ShaOfWrongFalsely : Prop := shaOfRow.holds Tryd.pinned (OpenSpec.ofChange shaOfWrong)

/-- 'assayerlaw03.TreeRoots': WHATEVER THE INPUT: true; the input reads as it did. -/
def treeRootsSpec : ChangeSpec := { name := "treeRoots", fn := fun _ => fun
  | [d1, d2, d3] => { results := [.lit (.bool true)], args := [d1, d2, d3] }
  | _ => none }
def treeRootsRow : OpenClaim := { program := "ytfdhnlpialcklaadoor", sum := "d44a9626c2b88e182cc27897f97eaeeb69d9dcc24d032593207e27509e9db70e", func := "assayer/assayerlaw03.TreeRoots", spec := "treeRoots", unfollowed := true, recurses := true, named := ["assayer/sha.squareRoots", "assayer/sha.cubeRoots"], apart := false, laid := [("assayer/sha.squareRoots", laid_assayer_sha_squareRoots), ("assayer/sha.cubeRoots", laid_assayer_sha_cubeRoots)] }
def TreeRootsSaid : Prop := treeRootsRow.holds Tryd.pinned (OpenSpec.ofChange treeRootsSpec)

/-- ITS FALSE NEIGHBOUR: 'it returns false'. Refute it at one input. -/
def treeRootsWrong : ChangeSpec := { name := "treeRoots", fn := fun _ => fun
  | [d1, d2, d3] => { results := [.lit (.bool false)], args := [d1, d2, d3] }
  | _ => none }
def TreeRootsWrongFalsely : Prop := treeRootsRow.holds Tryd.pinned (OpenSpec.ofChange treeRootsWrong)

/-- 'assayerlaw03.TreeVerifies': WHATEVER THE INPUT: true; the input reads as it did. -/
def treeVerifiesSpec : ChangeSpec := { name := "treeVerifies", fn := fun _ => fun
  | [d1, d2, d3, d4, d5, d6] => { results := [.lit (.bool true)], args := [d1, d2, d3, d4, d5, d6] }
  | _ => none }
def treeVerifiesRow : OpenClaim := { program := "ytfdhnlpialcklaadoor", sum := "d44a9626c2b88e182cc27897f97eaeeb69d9dcc24d032593207e27509e9db70e", func := "assayer/assayerlaw03.TreeVerifies", spec := "treeVerifies", unfollowed := true, recurses := true, named := ["assayer/sha.squareRoots", "assayer/sha.cubeRoots"], apart := false, laid := [("assayer/sha.squareRoots", laid_assayer_sha_squareRoots), ("assayer/sha.cubeRoots", laid_assayer_sha_cubeRoots)] }
def TreeVerifiesSaid : Prop := treeVerifiesRow.holds Tryd.pinned (OpenSpec.ofChange treeVerifiesSpec)

/-- ITS FALSE NEIGHBOUR: 'it returns false'. Refute it at one input. -/
def treeVerifiesWrong : ChangeSpec := { name := "treeVerifies", fn := fun _ => fun
  | [d1, d2, d3, d4, d5, d6] => { results := [.lit (.bool false)], args := [d1, d2, d3, d4, d5, d6] }
  | _ => none }
def TreeVerifiesWrongFalsely : Prop := treeVerifiesRow.holds Tryd.pinned (OpenSpec.ofChange treeVerifiesWrong)

/-- 'assayerlaw03.TreePaths': WHATEVER THE INPUT: true; the input reads as it did. -/
def treePathsSpec : ChangeSpec := { name := "treePaths", fn := fun _ => fun
  | [d1, d2] => { results := [.lit (.bool true)], args := [d1, d2] }
  | _ => none }
def treePathsRow : OpenClaim := { program := "ytfdhnlpialcklaadoor", sum := "d44a9626c2b88e182cc27897f97eaeeb69d9dcc24d032593207e27509e9db70e", func := "assayer/assayerlaw03.TreePaths", spec := "treePaths", unfollowed := true, recurses := true, named := ["assayer/sha.squareRoots", "assayer/sha.cubeRoots"], apart := false, laid := [("assayer/sha.squareRoots", laid_assayer_sha_squareRoots), ("assayer/sha.cubeRoots", laid_assayer_sha_cubeRoots)] }
def TreePathsSaid : Prop := treePathsRow.holds Tryd.pinned (OpenSpec.ofChange treePathsSpec)

/-- ITS FALSE NEIGHBOUR: 'it returns false'. Refute it at one input. -/
def treePathsWrong : ChangeSpec := { name := "treePaths", fn := fun _ => fun
  | [d1, d2] => { results := [.lit (.bool false)], args := [d1, d2] }
  | _ => none }
def TreePathsWrongFalsely : Prop := treePathsRow.holds Tryd.pinned (OpenSpec.ofChange treePathsWrong)

/-- 'assayerlaw03.TreeParts': WHATEVER THE INPUT: true; the input reads as it did. -/
def treePartsSpec : ChangeSpec := { name := "treeParts", fn := fun _ => fun
  | [d1, d2] => { results := [.lit (.bool true)], args := [d1, d2] }
  | _ => none }
def treePartsRow : OpenClaim := { program := "ytfdhnlpialcklaadoor", sum := "d44a9626c2b88e182cc27897f97eaeeb69d9dcc24d032593207e27509e9db70e", func := "assayer/assayerlaw03.TreeParts", spec := "treeParts", unfollowed := true, recurses := true, named := ["assayer/sha.squareRoots", "assayer/sha.cubeRoots"], apart := false, laid := [("assayer/sha.squareRoots", laid_assayer_sha_squareRoots), ("assayer/sha.cubeRoots", laid_assayer_sha_cubeRoots)] }
def TreePartsSaid : Prop := treePartsRow.holds Tryd.pinned (OpenSpec.ofChange treePartsSpec)

/-- ITS FALSE NEIGHBOUR: 'it returns false'. Refute it at one input. -/
def treePartsWrong : ChangeSpec := { name := "treeParts", fn := fun _ => fun
  | [d1, d2] => { results := [.lit (.bool false)], args := [d1, d2] }
  | _ => none }
def TreePartsWrongFalsely : Prop := treePartsRow.holds Tryd.pinned (OpenSpec.ofChange treePartsWrong)

/-- 'assayerlaw03.TreeGrows': WHATEVER THE INPUT: true; the input reads as it did. -/
def treeGrowsSpec : ChangeSpec := { name := "treeGrows", fn := fun _ => fun
  | [d] => { results := [.lit (.bool true)], args := [d] }
  | _ => none }
def treeGrowsRow : OpenClaim := { program := "ytfdhnlpialcklaadoor", sum := "d44a9626c2b88e182cc27897f97eaeeb69d9dcc24d032593207e27509e9db70e", func := "assayer/assayerlaw03.TreeGrows", spec := "treeGrows", unfollowed := true, recurses := true, named := ["assayer/sha.squareRoots", "assayer/sha.cubeRoots"], apart := false, laid := [("assayer/sha.squareRoots", laid_assayer_sha_squareRoots), ("assayer/sha.cubeRoots", laid_assayer_sha_cubeRoots)] }
def TreeGrowsSaid : Prop := treeGrowsRow.holds Tryd.pinned (OpenSpec.ofChange treeGrowsSpec)

/-- ITS FALSE NEIGHBOUR: 'it returns false'. Refute it at one input. -/
def treeGrowsWrong : ChangeSpec := { name := "treeGrows", fn := fun _ => fun
  | [d] => { results := [.lit (.bool false)], args := [d] }
  | _ => none }
def TreeGrowsWrongFalsely : Prop := treeGrowsRow.holds Tryd.pinned (OpenSpec.ofChange treeGrowsWrong)

/-- 'assayerlaw03.TreePlaces': WHATEVER THE INPUT: true; the input reads as it did. -/
def treePlacesSpec : ChangeSpec := { name := "treePlaces", fn := fun _ => fun
  | [d1, d2, d3, d4, d5] => { results := [.lit (.bool true)], args := [d1, d2, d3, d4, d5] }
  | _ => none }
def treePlacesRow : OpenClaim := { program := "ytfdhnlpialcklaadoor", sum := "d44a9626c2b88e182cc27897f97eaeeb69d9dcc24d032593207e27509e9db70e", func := "assayer/assayerlaw03.TreePlaces", spec := "treePlaces", unfollowed := true, recurses := true, named := ["assayer/sha.squareRoots", "assayer/sha.cubeRoots"], apart := false, laid := [("assayer/sha.squareRoots", laid_assayer_sha_squareRoots), ("assayer/sha.cubeRoots", laid_assayer_sha_cubeRoots)] }
def TreePlacesSaid : Prop := treePlacesRow.holds Tryd.pinned (OpenSpec.ofChange treePlacesSpec)

/-- ITS FALSE NEIGHBOUR: 'it returns false'. Refute it at one input. -/
def treePlacesWrong : ChangeSpec := { name := "treePlaces", fn := fun _ => fun
  | [d1, d2, d3, d4, d5] => { results := [.lit (.bool false)], args := [d1, d2, d3, d4, d5] }
  | _ => none }
def TreePlacesWrongFalsely : Prop := treePlacesRow.holds Tryd.pinned (OpenSpec.ofChange treePlacesWrong)

/-- 'assayerlaw03.TreeLong': WHATEVER THE INPUT: true; the input reads as it did. -/
def treeLongSpec : ChangeSpec := { name := "treeLong", fn := fun _ => fun
  | [d1, d2] => { results := [.lit (.bool true)], args := [d1, d2] }
  | _ => none }
def treeLongRow : OpenClaim := { program := "ytfdhnlpialcklaadoor", sum := "d44a9626c2b88e182cc27897f97eaeeb69d9dcc24d032593207e27509e9db70e", func := "assayer/assayerlaw03.TreeLong", spec := "treeLong", unfollowed := true, recurses := true, named := ["assayer/sha.squareRoots", "assayer/sha.cubeRoots"], apart := false, laid := [("assayer/sha.squareRoots", laid_assayer_sha_squareRoots), ("assayer/sha.cubeRoots", laid_assayer_sha_cubeRoots)] }
def TreeLongSaid : Prop := treeLongRow.holds Tryd.pinned (OpenSpec.ofChange treeLongSpec)

/-- ITS FALSE NEIGHBOUR: 'it returns false'. Refute it at one input. -/
def treeLongWrong : ChangeSpec := { name := "treeLong", fn := fun _ => fun
  | [d1, d2] => { results := [.lit (.bool false)], args := [d1, d2] }
  | _ => none }
def TreeLongWrongFalsely : Prop := treeLongRow.holds Tryd.pinned (OpenSpec.ofChange treeLongWrong)

/- THE SECOND FORM. 'bulk': how many values and letters a reading holds, each counted each time it is reached (what is shared counts as often as it is met; a slice's spare places count too). A statement '..UptoSaid' is the law's where the arguments, and the package variables that the reading takes, are together of bulk at most 1048576: NARROWER than '..Said'. Prove '..Said' where nothing that the law and all that it calls make is longer than what came in: it says more and counts as full. Else prove '..UptoSaid'. A law counts once. -/
mutual
def uptoBulk {H : Type} : DataW H → Nat
  | .lit (.string bytes) => bytes.length + 1
  | .lit _ => 1
  | .nil => 1
  | .ptr d => uptoBulk d + 1
  | .slice elems spare => uptoBulkAll elems + uptoBulkAll spare + 1
  | .agg parts => uptoBulkAll parts + 1
  | .iface _ d => uptoBulk d + 1
  | .map entries => uptoBulkEntries entries + 1
  | .held _ => 1
def uptoBulkAll {H : Type} : List (DataW H) → Nat
  | [] => 0
  | d :: r => uptoBulk d + uptoBulkAll r
def uptoBulkEntries {H : Type} : List (Lit × DataW H) → Nat
  | [] => 0
  | x :: r => uptoBulkEntry x + uptoBulkEntries r
def uptoBulkEntry {H : Type} : Lit × DataW H → Nat
  | (.string bytes, d) => bytes.length + uptoBulk d + 1
  | (_, d) => uptoBulk d + 1
 end
def uptoSmall : (H : Type) → List (DataW H) → Bool := fun _ ds => decide (uptoBulkAll ds ≤ 1048576)
def OpenSpec.upto (s : _root_.Go.ChangeSpec) : _root_.Go.OpenSpec := { _root_.Go.OpenSpec.ofChange s with cond := some uptoSmall }

/-- 'assayerlaw02.ShaOf', WHERE WHAT IT READS IS OF BULK AT MOST 1048576: true; the input reads as it did. -/
def shaOfUptoRow : OpenClaim := { program := "ytfdhnlpialcklaadoor", sum := "d44a9626c2b88e182cc27897f97eaeeb69d9dcc24d032593207e27509e9db70e", func := "assayer/assayerlaw02.ShaOf", spec := "shaOf", named := ["assayer/sha.squareRoots", "assayer/sha.cubeRoots"], apart := false, laid := [("assayer/sha.squareRoots", laid_assayer_sha_squareRoots), ("assayer/sha.cubeRoots", laid_assayer_sha_cubeRoots)], narrowed := true }
def ShaOfUptoSaid : Prop := shaOfUptoRow.holds Tryd.pinned (OpenSpec.upto shaOfSpec)

/-- 'assayerlaw03.TreeRoots', WHERE WHAT IT READS IS OF BULK AT MOST 1048576: true; the input reads as it did. -/
def treeRootsUptoRow : OpenClaim := { program := "ytfdhnlpialcklaadoor", sum := "d44a9626c2b88e182cc27897f97eaeeb69d9dcc24d032593207e27509e9db70e", func := "assayer/assayerlaw03.TreeRoots", spec := "treeRoots", unfollowed := true, recurses := true, named := ["assayer/sha.squareRoots", "assayer/sha.cubeRoots"], apart := false, laid := [("assayer/sha.squareRoots", laid_assayer_sha_squareRoots), ("assayer/sha.cubeRoots", laid_assayer_sha_cubeRoots)], narrowed := true }
def TreeRootsUptoSaid : Prop := treeRootsUptoRow.holds Tryd.pinned (OpenSpec.upto treeRootsSpec)

/-- 'assayerlaw03.TreeVerifies', WHERE WHAT IT READS IS OF BULK AT MOST 1048576: true; the input reads as it did. -/
def treeVerifiesUptoRow : OpenClaim := { program := "ytfdhnlpialcklaadoor", sum := "d44a9626c2b88e182cc27897f97eaeeb69d9dcc24d032593207e27509e9db70e", func := "assayer/assayerlaw03.TreeVerifies", spec := "treeVerifies", unfollowed := true, recurses := true, named := ["assayer/sha.squareRoots", "assayer/sha.cubeRoots"], apart := false, laid := [("assayer/sha.squareRoots", laid_assayer_sha_squareRoots), ("assayer/sha.cubeRoots", laid_assayer_sha_cubeRoots)], narrowed := true }
def TreeVerifiesUptoSaid : Prop := treeVerifiesUptoRow.holds Tryd.pinned (OpenSpec.upto treeVerifiesSpec)

/-- 'assayerlaw03.TreePaths', WHERE WHAT IT READS IS OF BULK AT MOST 1048576: true; the input reads as it did. -/
def treePathsUptoRow : OpenClaim := { program := "ytfdhnlpialcklaadoor", sum := "d44a9626c2b88e182cc27897f97eaeeb69d9dcc24d032593207e27509e9db70e", func := "assayer/assayerlaw03.TreePaths", spec := "treePaths", unfollowed := true, recurses := true, named := ["assayer/sha.squareRoots", "assayer/sha.cubeRoots"], apart := false, laid := [("assayer/sha.squareRoots", laid_assayer_sha_squareRoots), ("assayer/sha.cubeRoots", laid_assayer_sha_cubeRoots)], narrowed := true }
def TreePathsUptoSaid : Prop := treePathsUptoRow.holds Tryd.pinned (OpenSpec.upto treePathsSpec)

/-- 'assayerlaw03.TreeParts', WHERE WHAT IT READS IS OF BULK AT MOST 1048576: true; the input reads as it did. -/
def treePartsUptoRow : OpenClaim := { program := "ytfdhnlpialcklaadoor", sum := "d44a9626c2b88e182cc27897f97eaeeb69d9dcc24d032593207e27509e9db70e", func := "assayer/assayerlaw03.TreeParts", spec := "treeParts", unfollowed := true, recurses := true, named := ["assayer/sha.squareRoots", "assayer/sha.cubeRoots"], apart := false, laid := [("assayer/sha.squareRoots", laid_assayer_sha_squareRoots), ("assayer/sha.cubeRoots", laid_assayer_sha_cubeRoots)], narrowed := true }
def TreePartsUptoSaid : Prop := treePartsUptoRow.holds Tryd.pinned (OpenSpec.upto treePartsSpec)

/-- 'assayerlaw03.TreeGrows', WHERE WHAT IT READS IS OF BULK AT MOST 1048576: true; the input reads as it did. -/
def treeGrowsUptoRow : OpenClaim := { program := "ytfdhnlpialcklaadoor", sum := "d44a9626c2b88e182cc27897f97eaeeb69d9dcc24d032593207e27509e9db70e", func := "assayer/assayerlaw03.TreeGrows", spec := "treeGrows", unfollowed := true, recurses := true, named := ["assayer/sha.squareRoots", "assayer/sha.cubeRoots"], apart := false, laid := [("assayer/sha.squareRoots", laid_assayer_sha_squareRoots), ("assayer/sha.cubeRoots", laid_assayer_sha_cubeRoots)], narrowed := true }
def TreeGrowsUptoSaid : Prop := treeGrowsUptoRow.holds Tryd.pinned (OpenSpec.upto treeGrowsSpec)

/-- 'assayerlaw03.TreePlaces', WHERE WHAT IT READS IS OF BULK AT MOST 1048576: true; the input reads as it did. -/
def treePlacesUptoRow : OpenClaim := { program := "ytfdhnlpialcklaadoor", sum := "d44a9626c2b88e182cc27897f97eaeeb69d9dcc24d032593207e27509e9db70e", func := "assayer/assayerlaw03.TreePlaces", spec := "treePlaces", unfollowed := true, recurses := true, named := ["assayer/sha.squareRoots", "assayer/sha.cubeRoots"], apart := false, laid := [("assayer/sha.squareRoots", laid_assayer_sha_squareRoots), ("assayer/sha.cubeRoots", laid_assayer_sha_cubeRoots)], narrowed := true }
def TreePlacesUptoSaid : Prop := treePlacesUptoRow.holds Tryd.pinned (OpenSpec.upto treePlacesSpec)

/-- 'assayerlaw03.TreeLong', WHERE WHAT IT READS IS OF BULK AT MOST 1048576: true; the input reads as it did. -/
def treeLongUptoRow : OpenClaim := { program := "ytfdhnlpialcklaadoor", sum := "d44a9626c2b88e182cc27897f97eaeeb69d9dcc24d032593207e27509e9db70e", func := "assayer/assayerlaw03.TreeLong", spec := "treeLong", unfollowed := true, recurses := true, named := ["assayer/sha.squareRoots", "assayer/sha.cubeRoots"], apart := false, laid := [("assayer/sha.squareRoots", laid_assayer_sha_squareRoots), ("assayer/sha.cubeRoots", laid_assayer_sha_cubeRoots)], narrowed := true }
def TreeLongUptoSaid : Prop := treeLongUptoRow.holds Tryd.pinned (OpenSpec.upto treeLongSpec)

end Rows
end Go.Proofs.YtfdhnlpialcklaaDoor
