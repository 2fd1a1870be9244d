/-
  The document's own reader (assayerref01.Raw): what is left as a string, the first error.
-/
import Derived.Test.YtmjpaopobnhckaaEq
import Derived.Test.YtmjpaopobnhckaaRdP
import Derived.Test.YtmjpaopobnhckaaWrA
import Derived.Handy
import Derived.Laws.Concat
import Derived.Deep.LoopGhost
namespace Go.Proofs.Ytmjpaopobnhckaa
open Go.RowKit
set_option linter.unusedVariables false

/-- A reader by value. -/
def RV (s : RS) : Value := .agg #[.string (strOf s.1), .int .i64 s.2]
theorem RV_mk (l : List UInt8) (e : Int) : RV (l, e) = .agg #[.string (strOf l), .int .i64 e] := rfl

theorem strOf_take (l : List UInt8) (n : Nat) : (strOf l).extract 0 n = strOf (l.take n) := by
  unfold strOf
  rw [ByteArray.extract_mk]
  simp
theorem strOf_drop (l : List UInt8) (n m : Nat) (h : m = l.length) : (strOf l).extract n m = strOf (l.drop n) := by
  unfold strOf
  rw [ByteArray.extract_mk, h, List.take_of_length_le (by simp)]

theorem Try.results41 : Try.f41.results = #[.cell 4 76, .tmp 5] := rfl
theorem Try.results40 : Try.f40.results = #[.cell 4 76, .tmp 5] := rfl

/-- What a reference function tells. -/
def Said2 (v u : Value) (w : World) (e : Ending) (w' : World) : Prop := e = .returned (.tuple #[v, u]) ∧ Below w.heap.size w w'

set_option maxHeartbeats 1000000 in
theorem refRaw_any (n : Int) (s : RS) (w : World) (hl : s.1.length ≤ 100000000) :
    Calls Try.prog 41 #[RV s, .int .i64 n] w (Said2 (RV (rraw n s).1) (.string (strOf (rraw n s).2)) w) := by
  obtain ⟨l, e⟩ := s
  rw [RV_mk]
  have hz : (strOf l).size = l.length := rfl
  have hl' : l.length ≤ 100000000 := hl
  by_cases he : e = 0
  · subst he
    by_cases hn : n < 0
    · have fin : rraw n (l, 0) = ((l, 1), []) := by unfold rraw; rw [if_pos hn]; rfl
      rw [fin, RV_mk]
      clear fin hl
      go_enter Try.func41, Try.ntmps41
      go_wp2
      go_returns
      exact ⟨rfl, by go_grown⟩
    · obtain ⟨k, rfl⟩ := Int.eq_ofNat_of_zero_le (show 0 ≤ n by omega)
      by_cases hk : l.length < k
      · have fin : rraw k (l, 0) = ((l, 10), []) := by unfold rraw tk; rw [if_neg (by omega)]; simp [hk]
        rw [fin, RV_mk]
        clear fin hl
        go_enter Try.func41, Try.ntmps41
        go_wp2
        go_returns
        exact ⟨rfl, by go_grown⟩
      · have fin : rraw k (l, 0) = ((l.drop k, 0), l.take k) := by unfold rraw tk; rw [if_neg (by omega)]; simp [hk]
        rw [fin, RV_mk]
        clear fin hl
        go_enter Try.func41, Try.ntmps41
        go_wp2
        go_returns
        refine ⟨?_, by go_grown⟩
        rw [strOf_take, strOf_drop _ _ _ rfl]
  · have fin : rraw n (l, e) = ((l, e), []) := by unfold rraw failS tk; simp [he]
    rw [fin, RV_mk]
    have hb : (e != 0) = true := by simpa using he
    clear fin hl
    go_enter Try.func41, Try.ntmps41
    go_wp2
    go_returns
    exact ⟨rfl, by go_grown⟩
end Go.Proofs.Ytmjpaopobnhckaa
