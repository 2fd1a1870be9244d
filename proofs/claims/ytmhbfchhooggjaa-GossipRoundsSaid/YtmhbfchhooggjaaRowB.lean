/-
  A block that holds just these cells. No number of any translation stands here.
-/
import Derived.Test.YtmhbfchhooggjaaBase
import Derived.Deep.RegionLaw
import Derived.Laws.CopyOwn
import Derived.Deep.DrawnRows
import Derived.Deep.RegionHeld3
import Derived.Deep.WholeRow
import Derived.Deep.Light
import Derived.IntWalk
namespace Go.Proofs.Ytmhbfchhooggjaa
open Go.RowKit
set_option linter.unusedVariables false

/-- Block g holds just xs. -/
def Row (w : World) (g : Nat) (t : TypeId) (xs : List Value) : Prop := w.heap[g]? = some (.cells xs.toArray t (0, 0))
section
variable {w w' : World} {g : Nat} {t : TypeId} {xs : List Value}
theorem Row.lt (h : Row w g t xs) : g < w.heap.size := (Array.getElem?_eq_some_iff.1 h).1
theorem Row.cell (h : Row w g t xs) (i : Nat) : w.cell? ⟨g, i, none⟩ = xs[i]? := by
  rw [cell_of_row w g i xs.toArray t (0, 0) h]; simp
theorem Row.frozen (h : Row w g t xs) (i : Nat) : w.frozen? ⟨g, i, none⟩ = false := by
  unfold Row at h; simp [World.frozen?, h]
theorem Row.keeps {S : Nat → Prop} (h : Row w g t xs) (hk : Keeps S w w') (hs : ¬ S g) : Row w' g t xs := (hk.block g h.lt hs).trans h
theorem Row.set (h : Row w g t xs) (i : Nat) (u : Value) : Row (w.setCell ⟨g, i, none⟩ u) g t (xs.set i u) := by
  unfold Row at h ⊢
  simp [World.setCell, Array.getElem?_modify, h]
theorem Row.set_other (h : Row w g t xs) {p : Addr} (hp : g ≠ p.block) (u : Value) : Row (w.setCell p u) g t xs := (Below.heap_setCell _ _ _ _ hp).trans h
theorem Row.drewN (h : Row w g t xs) (n : Nat) : Row (w.drewN n) g t xs := h
theorem Row.drew (h : Row w g t xs) : Row w.drew g t xs := h
end
/-- What a cell holds, by a name that no walk lays open. -/
def cellOr (w : World) (a : Addr) : Value := (w.cell? a).getD undef
theorem cellOr_of {w : World} {a : Addr} {v : Value} (h : w.cell? a = some v) : w.cell? a = some (cellOr w a) := by unfold cellOr; rw [h]; rfl
theorem cellOr_set {w : World} {a : Addr} {v u : Value} (h : w.cell? a = some v) : (w.setCell a u).cell? a = some (cellOr (w.setCell a u) a) := cellOr_of (v := u) (by apply World.cell?_setCell_same; exact h)
theorem keep_at {w : World} {a q : Addr} {u v : Value} (h : w.cell? q = some v) (hne : a ≠ q) : (w.setCell a u).cell? q = some v := by rw [← h]; apply World.cell?_setCell_other; exact hne
theorem keep_atD {w : World} {n : Nat} {a q : Addr} {u v : Value} (h : w.cell? q = some v) (hne : a ≠ q) : ((w.drewN n).setCell a u).cell? q = some v := keep_at (w := w.drewN n) h hne
theorem cellOr_setD {w : World} {n : Nat} {a : Addr} {v u : Value} (h : w.cell? a = some v) : ((w.drewN n).setCell a u).cell? a = some (cellOr ((w.drewN n).setCell a u) a) := cellOr_set (w := w.drewN n) (v := v) h
theorem frozen_setD {w : World} {n : Nat} {a b : Addr} {u : Value} (h : w.frozen? b = false) : ((w.drewN n).setCell a u).frozen? b = false := by rw [World.frozen?_setCell]; exact h
theorem off_ne {g i j : Nat} (h : i ≠ j) : (⟨g, i, none⟩ : Addr) ≠ ⟨g, j, none⟩ := fun e => h (by injection e)
end Go.Proofs.Ytmhbfchhooggjaa
