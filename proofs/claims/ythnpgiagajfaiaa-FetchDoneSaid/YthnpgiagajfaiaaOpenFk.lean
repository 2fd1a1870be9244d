/-
  Slices of keys among the arguments.
-/
import Derived.Test.YthnpgiagajfaiaaOpenK
namespace Go.Proofs.Ythnpgiagajfaiaa
open Go.RowKit Go.ChangeShapes Go.WideShapes Go.Deep
set_option linter.unusedVariables false

abbrev IsActs (w : World) (a : Option Addr) (len cap : Nat) (xs : List Ft.Key) : Prop := IsList kcs Ft.Key.Ok 33 w a len cap xs
theorem open_acts {H : Type} {enc : TypeId × Value → H} {w : World} {base : Nat} {held : Bool} {fuel : Nat} {a : Option Addr} {len cap : Nat} {x : DataW H × List MemPlace}
    (h : DataW.trod enc Try.prog w base (fun _ => true) held fuel 57 [.slice a len cap] = some x) : ∃ xs, IsActs w a len cap xs :=
  open_list Try.underlying57 cells_key_18 (fun x h => kcs_length h.2) (fun h => key_cells18 h) h
end Go.Proofs.Ythnpgiagajfaiaa
