/- The law ShaRows walked: however bytes are cut into rows, the hash is that of all of them. -/
import Derived.Test.YtahjmlhomaommaaDoorRowsS
import Derived.Test.YtahjmlhomaommaaDoorRowsN
namespace Go.Proofs.YtahjmlhomaommaaDoor
open Go.RowKit Go.BigFrame
set_option linter.unusedVariables false
/-- All. -/
theorem rows_all (A : Option Addr) (len c : Nat) (zs : List Int) (x1 x2 : Int) (W : World) (hT : Tabs W) (h0 : IsRowU .u8 W A len c zs) (h1 : (Lit.int .u16 x1).wf = true) (h2 : (Lit.int .u16 x2).wf = true) :
    Calls Tryd.prog 4 #[.slice A len c, .int .u16 x1, .int .u16 x2] W fun e W' => e = .returned (.bool true) ∧ Below W.heap.size W W' := by
  have b1 := bounds_u16 h1
  have b2 := bounds_u16 h2
  obtain ⟨xs, hl, hs, hcap, hmax⟩ := h0.src
  by_cases hlen : 500 < len
  · exact rows_long A len c x1 x2 W hT hlen (by omega)
  · rcases h0 with ⟨rfl, rfl, rfl, _⟩ | ⟨a, rfl, _⟩
    · exact rows_none xs x1 x2 W hT hs hl b1.1 b1.2 b2.1 b2.2
    · subst hl
      have e1 : x1.tmod ((xs.length : Int) + 1) = x1 % ((xs.length : Int) + 1) := Int.tmod_eq_emod_of_nonneg b1.1
      have p1 := Int.emod_nonneg x1 (show ((xs.length : Int) + 1) ≠ 0 by omega)
      have q1 := Int.emod_lt_of_pos x1 (show (0 : Int) < (xs.length : Int) + 1 by omega)
      obtain ⟨i, hi⟩ := Int.eq_ofNat_of_zero_le p1
      have hin : i ≤ xs.length := by omega
      have e2 : x2.tmod ((xs.length : Int) - (i : Int) + 1) = x2 % ((xs.length : Int) - (i : Int) + 1) := Int.tmod_eq_emod_of_nonneg b2.1
      have p2 := Int.emod_nonneg x2 (show ((xs.length : Int) - (i : Int) + 1) ≠ 0 by omega)
      have q2 := Int.emod_lt_of_pos x2 (show (0 : Int) < (xs.length : Int) - (i : Int) + 1 by omega)
      obtain ⟨m, hm⟩ := Int.eq_ofNat_of_zero_le p2
      exact rows_some a xs.length c i m xs x1 x2 W hT hs rfl (by omega) hcap hmax b1.1 b1.2 b2.1 b2.2 (e1.trans hi) hin (e2.trans hm) (by omega)
end Go.Proofs.YtahjmlhomaommaaDoor
