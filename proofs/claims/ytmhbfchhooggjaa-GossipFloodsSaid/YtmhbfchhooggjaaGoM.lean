/-
  Whom an auditor tells, plainly. No number of any translation stands here.
-/
import Derived.Test.YtmhbfchhooggjaaDgM
import Derived.Test.YtmhbfchhooggjaaDiM
namespace Go.Proofs.Ytmhbfchhooggjaa
set_option linter.unusedVariables false

namespace Gp
/-- One auditor's: who it is, of how many, how many it tells at a time; its dice; what was told on. -/
structure G where
  me : Nat
  many : Nat
  fan : Nat
  s : BitVec 64
  told : List (List UInt8)
def In (me many fan : Int) : Prop := (1 ≤ many ∧ many ≤ 64) ∧ (0 ≤ me ∧ me < many) ∧ (1 ≤ fan ∧ fan ≤ many)
structure G.Ok (g : G) : Prop where
  inn : In g.me g.many g.fan
  told : ∀ h ∈ g.told, h.length = 32
/-- May be told (but one). -/
def can (g : G) (but x : Int) : Bool := decide (0 ≤ x) && (decide (x < (g.many : Int)) && (!decide (x = (g.me : Int)) && !decide (x = but)))
/-- The others of a row, but one, each once. -/
def oth (g : G) (l : List Int) (but : Int) : List Int := (Dg.knot l []).filter (can g but)
theorem oth_nil (g : G) (but : Int) : oth g [] but = [] := rfl
theorem oth_snoc (g : G) (l : List Int) (but x : Int) : oth g (l ++ [x]) but = if (can g but x && !decide (x ∈ l)) = true then oth g l but ++ [x] else oth g l but := by
  unfold oth
  rw [Dg.knot_snoc]
  by_cases hx : x ∈ l
  · rw [if_pos (.inr hx), if_neg (by simp [hx])]
  · rw [if_neg (by simp [hx]), List.filter_append]
    by_cases hc : can g but x = true
    · rw [if_pos (by simp [hx, hc])]; simp [hc]
    · rw [if_neg (by simp [hc])]; simp [hc]
theorem mem_oth {g : G} {l : List Int} {but x : Int} : x ∈ oth g l but ↔ x ∈ l ∧ can g but x = true := by
  unfold oth
  rw [List.mem_filter, Dg.mem_knot]
  simp
theorem oth_nodup (g : G) (l : List Int) (but : Int) : (oth g l but).Nodup := List.Pairwise.filter _ (Dg.knot_nodup [] l)
theorem oth_le (g : G) (l : List Int) (but : Int) : (oth g l but).length ≤ l.length := Nat.le_trans (List.length_filter_le _ _) (Dg.knot_le [] l)
/-- A round; a thing that is told on. -/
def round (g : G) (l : List Int) : G × List Int := ({ g with s := (Di.pick g.s (oth g l (-1)) g.fan).s }, (Di.pick g.s (oth g l (-1)) g.fan).out)
def flood (g : G) (id : List UInt8) (l : List Int) (but : Int) : G × List Int := if id ∈ g.told then (g, []) else ({ g with told := g.told ++ [id] }, oth g l but)
theorem round_ok {g : G} (h : g.Ok) (l : List Int) : (round g l).1.Ok := ⟨h.inn, h.told⟩
theorem flood_ok {g : G} (h : g.Ok) {id : List UInt8} (hi : id.length = 32) (l : List Int) (but : Int) : (flood g id l but).1.Ok := by
  unfold flood
  split
  · exact h
  · exact ⟨h.inn, fun x hx => by
      rcases List.mem_append.1 hx with hx | hx
      · exact h.told x hx
      · rw [List.mem_singleton] at hx; rw [hx]; exact hi⟩
end Gp
end Go.Proofs.Ytmhbfchhooggjaa
