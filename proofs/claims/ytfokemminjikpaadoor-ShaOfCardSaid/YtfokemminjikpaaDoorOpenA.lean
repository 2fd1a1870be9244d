/-
  Arrays of 32 bytes among the arguments: one by value. Plain of any function.
-/
import Derived.Test.YtfokemminjikpaaDoorRows
import Derived.Test.YtfokemminjikpaaDoorRowU
import Derived.Deep.Slices
import Derived.OpenShut
namespace Go.Proofs.YtfokemminjikpaaDoor
open Go.RowKit Go.ChangeShapes Go.WideShapes Go.Deep
set_option linter.unusedVariables false

theorem info_hash_cells : Tryd.prog.cellsOf 24 = 32 := by kernel_rfl
theorem info_u8_cells : Tryd.prog.cellsOf 5 = 1 := by kernel_rfl

section
variable {H : Type} {enc : TypeId × Value → H} {w : World} {base : Nat} {spare : Nat → Bool} {held : Bool}
/-- The cells of an array of 32 bytes: 32 bytes. -/
theorem hash_cells {fuel : Nat} {cs : List Value} {x : DataW H × List MemPlace} (h : DataW.trod enc Tryd.prog w base spare held fuel 24 cs = some x) :
    ∃ l : List UInt8, l.length = 32 ∧ cs = bvs l := by
  obtain ⟨xs, m, _, _, hl, hn, he⟩ := DataW.trod_array Tryd.underlying24 h
  rw [info_hash_cells] at hl
  rw [info_u8_cells] at he
  have each : ∀ i, i < 32 → ∃ c : UInt8, cs[i]? = some (bv c) := by
    intro i hi
    have h1 := he i hi
    rw [List.getElem?_eq_getElem (by omega)] at h1
    obtain ⟨n, h2, _, hw⟩ := DataW.trod_int Tryd.underlying5 h1
    refine ⟨UInt8.ofNat n.toNat, ?_⟩
    rw [bv_ofInt n hw]
    have h3 : ((cs.drop (i * 1)).take 1)[0]? = some (.int .u8 n) := by rw [h2]; rfl
    rw [List.getElem?_take, if_pos (by omega), List.getElem?_drop] at h3
    simpa using h3
  obtain ⟨f, hf⟩ := choose_lt (p := fun i c => cs[i]? = some (bv c)) each
  refine ⟨(List.range 32).map f, by simp, ?_⟩
  apply List.ext_getElem?
  intro i
  by_cases hi : i < 32
  · rw [hf i hi, bvs_get, List.getElem?_map, List.getElem?_range hi]
    rfl
  · rw [List.getElem?_eq_none (by omega), List.getElem?_eq_none (by rw [bvs_length]; simp; omega)]
end

/-- A hash by value that came in: 32 bytes. -/
theorem open_hash {H : Type} {enc : TypeId × Value → H} {w : World} {base : Nat} {spare : Nat → Bool} {held : Bool} {r : Reach} {b0 : Nat} {v : Value} {d : DataW H} {p : List MemPlace}
    (hv : Value.okWide Tryd.prog w r b0 24 v) (h : DataW.Trod enc Tryd.prog w base spare held 24 v d p) : ∃ z : List UInt8, z.length = 32 ∧ v = .agg (bvs z).toArray := by
  obtain ⟨cs, rfl⟩ : ∃ cs, v = .agg cs := by
    simp only [Value.okWide, Tryd.underlying24] at hv
    obtain ⟨cs, h1, _⟩ := hv
    exact ⟨cs, h1⟩
  obtain ⟨fuel, hf⟩ := h
  obtain ⟨z, h1, h2⟩ := hash_cells hf
  have h3 : cs.toList = bvs z := h2
  exact ⟨z, h1, by rw [← h3]⟩

end Go.Proofs.YtfokemminjikpaaDoor
