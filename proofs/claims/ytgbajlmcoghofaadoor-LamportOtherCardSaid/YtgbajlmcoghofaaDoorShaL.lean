/-
  The tables as the program's own text lays them: from the row's condition to the walks' words, and a world that meets it.
-/
import Derived.Test.YtgbajlmcoghofaaDoorShaC
import Derived.LaidMore
import Derived.OpenShut
import Derived.Stop.Joined
namespace Go.Proofs.YtgbajlmcoghofaaDoor
open Go.RowKit Go.ChangeShapes Go.WideShapes
set_option linter.unusedVariables false

def laidSha : List (String × DataW Unit) := [("assayer/sha.squareRoots", Rows.laid_assayer_sha_squareRoots), ("assayer/sha.cubeRoots", Rows.laid_assayer_sha_cubeRoots)]
theorem gSquare : Tryd.prog.globalNamed "assayer/sha.squareRoots" = some 0 := by kernel_rfl
theorem gCube : Tryd.prog.globalNamed "assayer/sha.cubeRoots" = some 1 := by kernel_rfl
theorem tSquare : (Tryd.prog.globals[0]?).map (·.type) = some 55 := by kernel_rfl
theorem tCube : (Tryd.prog.globals[1]?).map (·.type) = some 78 := by kernel_rfl
theorem cells_u32 : Tryd.prog.cellsOf 42 = 1 := by kernel_rfl
theorem cells_w8 : Tryd.prog.cellsOf 55 = 8 := by kernel_rfl
theorem cells_w64 : Tryd.prog.cellsOf 78 = 64 := by kernel_rfl

set_option maxRecDepth 100000 in
theorem cells_of_agg {H : Type} {enc : TypeId × Value → H} {W : World} {base : Nat} {spare : Nat → Bool} {held : Bool} {T n fuel : Nat} {cs : List Value} {p : List MemPlace} (ht : Tryd.prog.underlying T = some (.array n 42)) (hT : Tryd.prog.cellsOf T = n) (ns : List UInt32)
    (h : DataW.trod enc Tryd.prog W base spare held fuel T cs = some (.agg (ns.map fun x => .lit (.int .u32 (wi x))), p)) : cs = wvs ns := by
  obtain ⟨xs, m, rfl, hx, hlen, hn, hel⟩ := DataW.trod_array ht h
  injection hx with hx _
  injection hx with hx
  have hl : ns.length = n := by
    have := congrArg List.length hx
    simp only [List.length_map] at this
    omega
  rw [hT] at hlen
  apply List.ext_getElem?
  intro i
  by_cases hi : i < n
  · have h1 := hel i hi
    rw [cells_u32, List.getElem?_eq_getElem (by omega)] at h1
    obtain ⟨k, e1, e2, _⟩ := DataW.trod_int Tryd.underlying42 h1
    have h2 : ((cs.drop (i * 1)).take 1)[0]? = some (.int .u32 k) := by rw [e1]; rfl
    rw [List.getElem?_take, if_pos (by omega), List.getElem?_drop] at h2
    have h3 := congrArg (fun l => l[i]?) hx
    simp only [List.getElem?_map] at h3
    rw [List.getElem?_eq_getElem (by omega), List.getElem?_eq_getElem (by omega), e2] at h3
    simp only [Option.map_some, Option.some.injEq, DataW.lit.injEq, Lit.int.injEq, true_and] at h3
    rw [wvs_at ns (by omega), h3]
    simpa using h2
  · rw [List.getElem?_eq_none (by omega), List.getElem?_eq_none (by rw [wvs_length]; omega)]
theorem heap_of_var {P : Program} {w : World} {n : String} {g : Nat} {cs : Array Value} (hg : P.globalNamed n = some g) (h : w.var? P n = some cs) : ∃ t fr, w.heap[g]? = some (.cells cs t fr) := by
  simp only [World.var?, hg, Option.bind_some] at h
  split at h
  · rename_i cs' t fr e
    injection h with h
    subst h
    exact ⟨t, fr, e⟩
  · cases h
theorem square_data : (Rows.laid_assayer_sha_squareRoots : DataW Unit) = .agg (Sh.st0.list.map fun x => .lit (.int .u32 (wi x))) := by kernel_rfl
theorem cube_data : (Rows.laid_assayer_sha_cubeRoots : DataW Unit) = .agg (Sh.roots.map fun x => .lit (.int .u32 (wi x))) := by kernel_rfl
set_option maxRecDepth 100000 in
/-- What the condition gives the walks. -/
theorem tabs_of_laid {W : World} (h : laidMetH Tryd.prog laidSha W) : Tabs W := by
  rw [MakeChecks.laidMetH_plain _ _ _ (by kernel_rfl)] at h
  obtain ⟨ps, ⟨g0, t0, cs0, f0, p0, q0, hg0, ht0, hv0, hd0, ⟨g1, t1, cs1, f1, p1, q1, hg1, ht1, hv1, hd1, _, _⟩, _⟩, _, _⟩ := h
  obtain rfl := Option.some.inj (gSquare.symm.trans hg0)
  obtain rfl := Option.some.inj (gCube.symm.trans hg1)
  obtain rfl := Option.some.inj (tSquare.symm.trans ht0)
  obtain rfl := Option.some.inj (tCube.symm.trans ht1)
  rw [square_data] at hd0
  rw [cube_data] at hd1
  have e0 := cells_of_agg Tryd.underlying55 cells_w8 _ hd0
  have e1 := cells_of_agg Tryd.underlying78 cells_w64 _ hd1
  obtain ⟨a0, b0, h0⟩ := heap_of_var hg0 hv0
  obtain ⟨a1, b1, h1⟩ := heap_of_var hg1 hv1
  exact ⟨⟨a0, b0, by rw [h0, ← e0]⟩, ⟨a1, b1, by rw [h1, ← e1]⟩⟩
/-- The heap that the program's own start lays meets the condition. -/
theorem door_met (os : Os) (args : Array Value) : laidMetH Tryd.prog laidSha ((World.doorLaid Tryd.prog 19 os).forCall (fun _ _ => 0) ⟨#[], args, []⟩).memory :=
  laidMetH_of_parts3 (fuel := 8) (laidMet_of_run' 8 (by kernel_rfl) (by kernel_rfl)) (by kernel_rfl) (by kernel_rfl)
end Go.Proofs.YtgbajlmcoghofaaDoor
