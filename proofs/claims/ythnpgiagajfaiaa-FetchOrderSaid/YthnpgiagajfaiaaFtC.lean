/-
  What the program's table of what is asked for keeps, whatever it is made of: its contracts, as one structure that the laws' walks take; a code of one's own proves it once ('At' tells how a table lies in memory).
-/
import Derived.Test.YthnpgiagajfaiaaFtA
import Derived.Test.YthnpgiagajfaiaaDiA
namespace Go.Proofs.Ythnpgiagajfaiaa
open Go.RowKit Go.BigFrame
set_option linter.unusedVariables false

namespace Ft
/-- A table: its numbers, what is asked for, in order. -/
structure Tb where
  base : Nat
  most : Nat
  budget : Nat
  l : List Q
def Tb.In (t : Tb) : Prop := (1 ≤ t.base ∧ t.base ≤ 100) ∧ (t.base ≤ t.most ∧ t.most ≤ 1000) ∧ (1 ≤ t.budget ∧ t.budget ≤ 20)
/-- One that calls make. -/
structure Tb.Ok (t : Tb) : Prop where
  inn : t.In
  sorted : Sorted t.l
  fine : ∀ q ∈ t.l, Q.Ok q ∧ q.tries ≤ t.budget ∧ 1 ≤ q.left ∧ q.left ≤ 1100
def Tb.tk (t : Tb) (s : BitVec 64) : Tk := tick t.base t.most t.budget s t.l
/-- Wants' keys. -/
def keys (l : List Q) : List Wn := l.map (·.key)
end Ft
/-- The program's table, by its contracts. At w F g t: a table t stands at g, within the blocks F. -/
structure Fetch (At : World → (Nat → Prop) → Nat → Ft.Tb → Prop) : Prop where
  ok : ∀ {w F g t}, At w F g t → Ft.Tb.Ok t
  lt : ∀ {w F g t}, At w F g t → ∀ b, F b → b < w.heap.size
  keeps : ∀ {w w' S F g t}, At w F g t → Keeps S w w' → (∀ b, S b → ¬ F b) → At w' F g t
  new_on : ∀ (w : World) (base most budget : Nat), (1 ≤ base ∧ base ≤ 100) ∧ (base ≤ most ∧ most ≤ 1000) ∧ (1 ≤ budget ∧ budget ≤ 20) →
    Calls Try.prog 9 #[.int .i64 (base : Int), .int .i64 (most : Int), .int .i64 (budget : Int)] w fun e w' => ∃ g F, e = .returned (.tuple #[.pointer (some ⟨g, 0, none⟩), .int .i64 0]) ∧ At w' F g ⟨base, most, budget, []⟩ ∧ (∀ b, F b → w.heap.size ≤ b) ∧ Keeps (fun _ => False) w w'
  new_off : ∀ (w : World) (base most budget : Int), ¬ ((1 ≤ base ∧ base ≤ 100) ∧ (base ≤ most ∧ most ≤ 1000) ∧ (1 ≤ budget ∧ budget ≤ 20)) →
    Calls Try.prog 9 #[.int .i64 base, .int .i64 most, .int .i64 budget] w fun e w' => e = .returned (.tuple #[.pointer none, .int .i64 1]) ∧ Keeps (fun _ => False) w w'
  start : ∀ {w F g t} (k : Ft.Wn), At w F g t → Ft.Wn.Ok k →
    Calls Try.prog 12 #[.pointer (some ⟨g, 0, none⟩), .agg (wcs k).toArray] w fun e w' => ∃ F', e = .returned (.bool (!Ft.has t.l k)) ∧ At w' F' g { t with l := Ft.start t.l k } ∧ (∀ b, F' b → F b ∨ w.heap.size ≤ b) ∧ Keeps F w w'
  done : ∀ {w F g t} (k : Ft.Wn), At w F g t → Ft.Wn.Ok k →
    Calls Try.prog 14 #[.pointer (some ⟨g, 0, none⟩), .agg (wcs k).toArray] w fun e w' => ∃ F', e = .returned (.bool (Ft.has t.l k)) ∧ At w' F' g { t with l := Ft.done t.l k } ∧ (∀ b, F' b → F b ∨ w.heap.size ≤ b) ∧ Keeps F w w'
  has : ∀ {w F g t} (k : Ft.Wn), At w F g t → Ft.Wn.Ok k →
    Calls Try.prog 20 #[.pointer (some ⟨g, 0, none⟩), .agg (wcs k).toArray] w fun e w' => e = .returned (.bool (Ft.has t.l k)) ∧ Keeps (fun _ => False) w w'
  «open» : ∀ {w F g t}, At w F g t → t.l.length ≤ 1000 →
    Calls Try.prog 19 #[.pointer (some ⟨g, 0, none⟩)] w fun e w' => ∃ A c, e = .returned (.slice A t.l.length c) ∧ w'.ownsRow w.heap.size 41 66 (.slice A t.l.length c) t.l.length (wfl (Ft.keys t.l)) ∧ Keeps (fun _ => False) w w'
  tick : ∀ {w F g t} (d : Nat) (s : BitVec 64), At w F g t → t.l.length ≤ 1000 → DiceAt w d s → ¬ F d →
    Calls Try.prog 16 #[.pointer (some ⟨g, 0, none⟩), .pointer (some ⟨d, 0, none⟩)] w fun e w' => ∃ F' A c A' c', e = .returned (.tuple #[.slice A (t.tk s).asks.length c, .slice A' (t.tk s).lost.length c']) ∧ At w' F' g { t with l := (t.tk s).l } ∧ DiceAt w' d (t.tk s).s ∧
      w'.ownsRow w.heap.size 41 66 (.slice A (t.tk s).asks.length c) (t.tk s).asks.length (wfl (Ft.keys (t.tk s).asks)) ∧ w'.ownsRow w.heap.size 41 66 (.slice A' (t.tk s).lost.length c') (t.tk s).lost.length (wfl (Ft.keys (t.tk s).lost)) ∧
      (∀ b, F' b → F b ∨ w.heap.size ≤ b) ∧ ¬ F' d ∧ Keeps (fun b => F b ∨ b = d) w w'
  start_none : ∀ (w : World) (k : Ft.Wn), Ft.Wn.Ok k → Calls Try.prog 12 #[.pointer none, .agg (wcs k).toArray] w fun e w' => e = .returned (.bool false) ∧ Keeps (fun _ => False) w w'
  done_none : ∀ (w : World) (k : Ft.Wn), Ft.Wn.Ok k → Calls Try.prog 14 #[.pointer none, .agg (wcs k).toArray] w fun e w' => e = .returned (.bool false) ∧ Keeps (fun _ => False) w w'
  has_none : ∀ (w : World) (k : Ft.Wn), Ft.Wn.Ok k → Calls Try.prog 20 #[.pointer none, .agg (wcs k).toArray] w fun e w' => e = .returned (.bool false) ∧ Keeps (fun _ => False) w w'
  open_none : ∀ (w : World), Calls Try.prog 19 #[.pointer none] w fun e w' => ∃ A c, e = .returned (.slice A 0 c) ∧ Keeps (fun _ => False) w w'
  tick_none : ∀ (w : World) (d : Nat), Calls Try.prog 16 #[.pointer none, .pointer (some ⟨d, 0, none⟩)] w fun e w' => ∃ A c A' c', e = .returned (.tuple #[.slice A 0 c, .slice A' 0 c']) ∧ Keeps (fun _ => False) w w'
end Go.Proofs.Ythnpgiagajfaiaa
