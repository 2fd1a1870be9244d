/-
  The law's walk, at the landed table.
-/
import Derived.Test.YthnpgiagajfaiaaFtDo
import Derived.Test.YthnpgiagajfaiaaFcZ
namespace Go.Proofs.Ythnpgiagajfaiaa
open Go.RowKit Go.BigFrame
end Go.Proofs.Ythnpgiagajfaiaa
