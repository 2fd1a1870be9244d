/-
  Hashes that came in, as a path.
-/
import Derived.Test.YtjblnjeloimbgaaDoorOpens
import Derived.Test.YtjblnjeloimbgaaDoorTrG
namespace Go.Proofs.YtjblnjeloimbgaaDoor
open Go.RowKit Go.BigFrame
set_option linter.unusedVariables false

theorem PathAt.of_hs {w : World} {A : Option Addr} {len cap : Nat} {hs : List (List UInt8)} (h : IsHashes w A len cap hs) : PathAt w A hs := by
  obtain ⟨h1, h2, h3, h4, h5⟩ := h
  refine ⟨h4, fun i p hp => ?_⟩
  obtain ⟨hi, e⟩ := List.getElem?_eq_some_iff.1 hp
  obtain ⟨b, o, ha, hc⟩ := h5 i hi
  refine ⟨b, o, ha, fun j v hv => ?_⟩
  rw [bvs_get] at hv
  obtain ⟨c, hc1, rfl⟩ := Option.map_eq_some_iff.1 hv
  have := hc j c (by rw [e]; exact hc1)
  rwa [← Nat.add_assoc] at this
end Go.Proofs.YtjblnjeloimbgaaDoor
