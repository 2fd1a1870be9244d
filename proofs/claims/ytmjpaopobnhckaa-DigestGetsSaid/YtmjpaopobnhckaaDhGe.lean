/-
  The law's walk, at the landed digest.
-/
import Derived.Test.YtmjpaopobnhckaaDgGe
import Derived.Test.YtmjpaopobnhckaaDgE
import Derived.Test.YtmjpaopobnhckaaDhG
namespace Go.Proofs.Ytmjpaopobnhckaa
open Go.RowKit Go.BigFrame
end Go.Proofs.Ytmjpaopobnhckaa
