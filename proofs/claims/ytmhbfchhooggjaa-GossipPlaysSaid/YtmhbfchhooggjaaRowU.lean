/-
  Slices of integers that came in. No number of any translation stands here.
-/
import Derived.Test.YtmhbfchhooggjaaBase
import Derived.Test.YtmhbfchhooggjaaRows
import Derived.Deep.Slices
import Derived.OpenShut
namespace Go.Proofs.Ytmhbfchhooggjaa
open Go.RowKit
set_option linter.unusedVariables false

/-- A slice of bytes that came in: its bytes. -/
def IsRowU (k : IntKind) (w : World) (a : Option Addr) (len cap : Nat) (zs : List Int) : Prop :=
  (a = none ∧ len = 0 ∧ cap = 0 ∧ zs = []) ∨
  ∃ x, a = some x ∧ len ≤ cap ∧ cap ≤ maxLen ∧ zs.length = cap ∧ (∀ i, i < zs.length → w.cell? (x.add i) = some (.int k (zs.getD i 0))) ∧ ∀ n ∈ zs, (Lit.int k n).wf = true
theorem IsRowU.src {w : World} {a : Option Addr} {len cap : Nat} {zs : List Int} (h : IsRowU .u8 w a len cap zs) :
    ∃ xs : List UInt8, xs.length = len ∧ Src w a (bvs xs) ∧ len ≤ cap ∧ cap ≤ 9223372036854775807 := by
  rcases h with ⟨rfl, rfl, rfl, rfl⟩ | ⟨x, rfl, hl, hm, hz, hc, hw⟩
  · exact ⟨[], rfl, Src.nil _ _, Nat.le_refl _, by omega⟩
  · refine ⟨(zs.take len).map (fun n => UInt8.ofNat n.toNat), ?_, ?_, hl, by unfold maxLen at hm; omega⟩
    · rw [List.length_map, List.length_take]; omega
    · intro j u hu
      refine ⟨x, rfl, ?_⟩
      rw [bvs_get, List.getElem?_map] at hu
      have hj : j < len := by
        rcases Nat.lt_or_ge j len with h | h
        · exact h
        · rw [List.getElem?_eq_none (by rw [List.length_take]; omega)] at hu; simp at hu
      have hjz : j < zs.length := by omega
      rw [List.getElem?_take, if_pos hj, List.getElem?_eq_getElem hjz] at hu
      simp only [Option.map_some, Option.some.injEq] at hu
      rw [hc j hjz, ← hu, bv_ofInt _ (hw _ (List.getElem_mem hjz))]
      simp [List.getD, hjz]

/-- A slice of integers of kind k that came in. -/
theorem IsRowU.ints {k : IntKind} {w : World} {a : Option Addr} {len cap : Nat} {zs : List Int} (h : IsRowU k w a len cap zs) :
    ∃ ls : List Int, ls.length = len ∧ Src w a (ls.map (Value.int k)) ∧ (∀ x ∈ ls, (Lit.int k x).wf = true) ∧ len ≤ cap ∧ cap ≤ 9223372036854775807 := by
  rcases h with ⟨rfl, rfl, rfl, rfl⟩ | ⟨x, rfl, hl, hm, hz, hc, hw⟩
  · exact ⟨[], rfl, Src.nil _ _, by simp, Nat.le_refl _, by omega⟩
  · refine ⟨zs.take len, ?_, ?_, fun y hy => hw y (List.mem_of_mem_take hy), hl, by unfold maxLen at hm; omega⟩
    · rw [List.length_take]; omega
    · intro j u hu
      refine ⟨x, rfl, ?_⟩
      rw [List.getElem?_map] at hu
      have hj : j < len := by
        rcases Nat.lt_or_ge j len with h | h
        · exact h
        · rw [List.getElem?_eq_none (by rw [List.length_take]; omega)] at hu; simp at hu
      have hjz : j < zs.length := by omega
      rw [List.getElem?_take, if_pos hj, List.getElem?_eq_getElem hjz] at hu
      simp only [Option.map_some, Option.some.injEq] at hu
      rw [hc j hjz, ← hu]
      simp [List.getD, hjz]

end Go.Proofs.Ytmhbfchhooggjaa
