/-
  Two rows of bytes are held against one another (bytes.Equal).
-/
import Derived.Test.YtnhegnncmjmafaaEq
import Derived.Test.YtnhegnncmjmafaaRows
import Derived.WalkSpells
namespace Go.Proofs.Ytnhegnncmjmafaa
open Go.RowKit
set_option linter.unusedVariables false

/-- Two rows of bytes are held against one another. -/
theorem strOf_eq (xs ys : List UInt8) : ((strOf xs).toList == (strOf ys).toList) = (xs == ys) := by
  rw [Go.ByteArray.toList_eq, Go.ByteArray.toList_eq]
  rfl
set_option maxRecDepth 100000 in
theorem equal_any (A B : Option Addr) (c d : Nat) (xs ys : List UInt8) (w : World) (h1 : Src w A (bvs xs)) (h2 : Src w B (bvs ys)) :
    Calls Try.prog 64 #[.slice A xs.length c, .slice B ys.length d] w fun e w' => e = .returned (.bool (xs == ys)) ∧ w' = w := by
  have e1 := run_string_src (P := Try.prog) w 33 9 5 Try.underlying33 Try.underlying5 Try.underlying9 A xs c h1
  have e2 := run_string_src (P := Try.prog) w 33 9 5 Try.underlying33 Try.underlying5 Try.underlying9 B ys d h2
  have hb := strOf_eq xs ys
  obtain ⟨x, hx⟩ : ∃ x, (xs == ys) = x := ⟨_, rfl⟩
  obtain ⟨s1, hs1⟩ : ∃ s, strOf xs = s := ⟨_, rfl⟩
  obtain ⟨s2, hs2⟩ : ∃ s, strOf ys = s := ⟨_, rfl⟩
  obtain ⟨n, hn⟩ : ∃ n, xs.length = n := ⟨_, rfl⟩
  obtain ⟨m, hm⟩ : ∃ n, ys.length = n := ⟨_, rfl⟩
  rw [hs1, hs2, hx] at hb
  rw [hs1, hn] at e1
  rw [hs2, hm] at e2
  rw [hx, hn, hm]
  clear h1 h2 hs1 hs2 hx hn hm
  go_enter Try.func64, Try.ntmps64
  go_wp2
  go_ret
  exact ⟨rfl, rfl⟩
end Go.Proofs.Ytnhegnncmjmafaa
