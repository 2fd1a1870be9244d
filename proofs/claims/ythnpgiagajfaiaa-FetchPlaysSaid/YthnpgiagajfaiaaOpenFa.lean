/-
  Slices of acts (a kind and a want) among the arguments.
-/
import Derived.Test.YthnpgiagajfaiaaOpenK
namespace Go.Proofs.Ythnpgiagajfaiaa
open Go.RowKit Go.ChangeShapes Go.WideShapes Go.Deep
set_option linter.unusedVariables false

/-- An act: its kind, its want. -/
abbrev ActOf := Int × Ft.Wn
def acs (a : ActOf) : List Value := .int .i64 a.1 :: wcs a.2
def ActOf.Ok (a : ActOf) : Prop := (Lit.int .i64 a.1).wf = true ∧ Ft.Wn.Ok a.2
theorem acs_length (a : ActOf) (h : ActOf.Ok a) : (acs a).length = 67 := by unfold acs; rw [List.length_cons, wcs_length h.2]
theorem cells_act_18 : Try.prog.cellsOf 43 = 67 := by kernel_rfl
abbrev IsActs (w : World) (a : Option Addr) (len cap : Nat) (xs : List ActOf) : Prop := IsList acs ActOf.Ok 67 w a len cap xs
theorem act_cells18 {H : Type} {enc : TypeId × Value → H} {w : World} {base : Nat} {spare : Nat → Bool} {held : Bool} {fuel : Nat} {cs : List Value} {x : DataW H × List MemPlace} (h : DataW.trod enc Try.prog w base spare held fuel 43 cs = some x) :
    ∃ k : ActOf, ActOf.Ok k ∧ cs = acs k := by
  obtain ⟨y0, y1, m, _, hl, h0, h1⟩ := trod_struct2 Try.underlying43 h
  obtain ⟨n, e0, _, hw⟩ := DataW.trod_int Try.underlying3 h0
  obtain ⟨k1, ok1, e1⟩ := want_cells18 h1
  rw [cells_int_18] at e0
  rw [cells_want_18] at e1
  rw [cells_act_18] at hl
  have e0' : (cs.drop 0).take 1 = [.int .i64 n] := e0
  have e1' : (cs.drop 1).take 66 = wcs k1 := e1
  refine ⟨(n, k1), ⟨hw, ok1⟩, ?_⟩
  have h3 : (cs.drop 1).take 66 = cs.drop 1 := List.take_of_length_le (by rw [List.length_drop]; omega)
  rw [h3] at e1'
  rw [List.drop_zero] at e0'
  have h4 := List.take_append_drop 1 cs
  rw [e0', e1'] at h4
  exact h4.symm
theorem open_acts {H : Type} {enc : TypeId × Value → H} {w : World} {base : Nat} {held : Bool} {fuel : Nat} {a : Option Addr} {len cap : Nat} {x : DataW H × List MemPlace}
    (h : DataW.trod enc Try.prog w base (fun _ => true) held fuel 23 [.slice a len cap] = some x) : ∃ xs, IsActs w a len cap xs :=
  open_list Try.underlying23 cells_act_18 acs_length (fun h => act_cells18 h) h
end Go.Proofs.Ythnpgiagajfaiaa
