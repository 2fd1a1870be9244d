/-
  What several laws on disks want: bytes that are noughts, what is left of a division.
-/
import Derived.Test.YtnhegnncmjmafaaDkV
import Derived.Below
namespace Go.Proofs.Ytnhegnncmjmafaa
open Go.RowKit Go.BigFrame
set_option linter.unusedVariables false

theorem keeps_belowD {w w' : World} (h : Keeps (fun _ => False) w w') : Below w.heap.size w w' := h.below (Nat.le_refl _) (fun _ _ => id)
theorem made_zeros (m : Nat) : madeCells (Value.int .u8 0).cells (m * 1) = (bvs (List.replicate m 0)).toArray := by
  apply Array.ext
  · rw [size_madeCells, List.size_toArray, bvs_length, List.length_replicate, Nat.mul_one]
  · intro i h1 h2
    have e : (#[Value.int .u8 0] : Array Value)[i % 1]! = Value.int .u8 0 := by rw [Nat.mod_one]; rfl
    simp only [madeCells, Value.cells, bvs, bv, List.getElem_toArray, List.getElem_map, List.getElem_replicate, Array.getElem_map, Array.getElem_range]
    exact e
/-- What is left of a division. -/
theorem rest_of (n : Int) (b : Nat) (hb : 0 < b) (hb2 : b ≤ 100000) (hn : 0 ≤ n) : ∃ a : Nat, n % (b : Int) = (a : Int) ∧ n.tmod (b : Int) = (a : Int) ∧ a < b ∧ wrap64 (a : Int) = (a : Int) := by
  have h1 := Int.emod_nonneg n (show (b : Int) ≠ 0 by omega)
  have h2 := Int.emod_lt_of_pos n (show (0 : Int) < b by omega)
  have h3 : n.tmod (b : Int) = n % (b : Int) := Int.tmod_eq_emod_of_nonneg hn
  rw [h3]
  generalize n % (b : Int) = x at h1 h2
  refine ⟨x.toNat, by omega, by omega, by omega, ?_⟩
  rw [show ((x.toNat : Nat) : Int) = x by omega]
  clear h3 hn
  exact IntWalk.wrap64_in _ (by omega)
theorem make_zeros (m : Nat) (hm : m ≤ 100000) (V : World) : (Instr.makeSlice 33 (.int .i64 (m : Int)) (.int .i64 (m : Int))).run Try.prog V = .ok (.slice (some ⟨V.heap.size, 0, none⟩) m m) (V.alloc (.cells (bvs (List.replicate m 0)).toArray 5)) := by
  obtain ⟨i0, hi, hz0, hz1, hz2⟩ := info_parts info_u8d
  rw [run_make (P := Try.prog) V 33 5 i0 (.int .u8 0) Try.underlying33 hi hz0 .i64 .i64 (m : Int) (m : Int) (by omega) (by omega) (by rw [hz2]; omega) (by omega), hz1, Int.toNat_natCast, made_zeros]
theorem below_F {w w1 w2 : World} {F : Nat → Prop} (h : Keeps (fun _ => False) w w1) (k : Keeps F w1 w2) (hF : ∀ i, F i → w.heap.size ≤ i) : Keeps (fun _ => False) w w2 := h.trans' k (fun i hi hf => by have := hF i hf; omega)

end Go.Proofs.Ytnhegnncmjmafaa
