/-
  The law's walk, at the landed gossip.
-/
import Derived.Test.YtmhbfchhooggjaaGoRo
import Derived.Test.YtmhbfchhooggjaaGoE
import Derived.Test.YtmhbfchhooggjaaGsD
namespace Go.Proofs.Ytmhbfchhooggjaa
open Go.RowKit Go.BigFrame
end Go.Proofs.Ytmhbfchhooggjaa
