/-
  Slices of wants among the arguments.
-/
import Derived.Test.YthnpgiagajfaiaaOpenK
namespace Go.Proofs.Ythnpgiagajfaiaa
open Go.RowKit Go.ChangeShapes Go.WideShapes Go.Deep
set_option linter.unusedVariables false

abbrev IsActs (w : World) (a : Option Addr) (len cap : Nat) (xs : List Ft.Wn) : Prop := IsList wcs Ft.Wn.Ok 66 w a len cap xs
theorem open_acts {H : Type} {enc : TypeId × Value → H} {w : World} {base : Nat} {held : Bool} {fuel : Nat} {a : Option Addr} {len cap : Nat} {x : DataW H × List MemPlace}
    (h : DataW.trod enc Try.prog w base (fun _ => true) held fuel 47 [.slice a len cap] = some x) : ∃ xs, IsActs w a len cap xs :=
  open_list Try.underlying47 cells_want_18 (fun x h => wcs_length h) (fun h => want_cells18 h) h
end Go.Proofs.Ythnpgiagajfaiaa
