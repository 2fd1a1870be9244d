/-
  Slices of keys, of hashes, among the arguments.
-/
import Derived.Test.YtmjpaopobnhckaaOpLi
namespace Go.Proofs.Ytmjpaopobnhckaa
open Go.RowKit Go.ChangeShapes Go.WideShapes Go.Deep
set_option linter.unusedVariables false

abbrev IsActs (w : World) (a : Option Addr) (len cap : Nat) (xs : List Ft.Key) : Prop := IsList kcs Ft.Key.Ok 33 w a len cap xs
theorem open_acts {H : Type} {enc : TypeId × Value → H} {w : World} {base : Nat} {held : Bool} {fuel : Nat} {a : Option Addr} {len cap : Nat} {x : DataW H × List MemPlace}
    (h : DataW.trod enc Try.prog w base (fun _ => true) held fuel 22 [.slice a len cap] = some x) : ∃ xs, IsActs w a len cap xs :=
  open_list Try.underlying22 cells_key_18 (fun x h => kcs_length h.2) (fun h => key_cells18 h) h
abbrev IsHashes (w : World) (a : Option Addr) (len cap : Nat) (xs : List (List UInt8)) : Prop := IsList bvs (fun h => h.length = 32) 32 w a len cap xs
theorem open_hashes {H : Type} {enc : TypeId × Value → H} {w : World} {base : Nat} {held : Bool} {fuel : Nat} {a : Option Addr} {len cap : Nat} {x : DataW H × List MemPlace}
    (h : DataW.trod enc Try.prog w base (fun _ => true) held fuel 23 [.slice a len cap] = some x) : ∃ xs, IsHashes w a len cap xs :=
  open_list Try.underlying23 cells_h18 (fun x h => by rw [bvs_length]; exact h) (fun h => by obtain ⟨l, h1, h2⟩ := hash_cells18 h; exact ⟨l, h1, h2⟩) h
end Go.Proofs.Ytmjpaopobnhckaa
