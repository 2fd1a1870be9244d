/-
  The document's own reader: its end.
-/
import Derived.Test.YtmjpaopobnhckaaRefN
namespace Go.Proofs.Ytmjpaopobnhckaa
open Go.RowKit
set_option linter.unusedVariables false

theorem refEnd_any (s : RS) (w : World) :
    Calls Try.prog 43 #[RV s] w fun e w' => e = .returned (.int .i64 (rend s)) ∧ Below w.heap.size w w' := by
  obtain ⟨l, e⟩ := s
  rw [RV_mk]
  by_cases he : e = 0
  · subst he
    cases l with
    | nil =>
      have fin : rend ([], 0) = 0 := rfl
      rw [fin]
      clear fin
      have hne : (strOf []).toList.isEmpty = true := by simp [strOf, ByteArray.toList_mk]
      go_enter Try.func43, Try.ntmps43
      go_wp2
      go_ret
      exact ⟨rfl, by go_grown⟩
    | cons c l =>
      have fin : rend (c :: l, 0) = 12 := by simp [rend]
      rw [fin]
      clear fin
      have hne : (strOf (c :: l)).toList.isEmpty = false := by simp [strOf, ByteArray.toList_mk]
      go_enter Try.func43, Try.ntmps43
      go_wp2
      go_ret
      exact ⟨rfl, by go_grown⟩
  · have fin : rend (l, e) = e := by simp [rend, he]
    rw [fin]
    have hb : (e == 0) = false := by simpa using he
    clear fin he
    go_enter Try.func43, Try.ntmps43
    go_wp2
    go_ret
    exact ⟨rfl, by go_grown⟩
end Go.Proofs.Ytmjpaopobnhckaa
