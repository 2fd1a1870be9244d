/-
  The law's walk, at the landed digest.
-/
import Derived.Test.YtmjpaopobnhckaaDgLa
import Derived.Test.YtmjpaopobnhckaaDgE
import Derived.Test.YtmjpaopobnhckaaDhG
namespace Go.Proofs.Ytmjpaopobnhckaa
open Go.RowKit Go.BigFrame
theorem dlast_all (n m : Int) (W : World) (h1 : (Lit.int .u8 n).wf = true) (h2 : (Lit.int .u8 m).wf = true) :
    Calls Try.prog 7 #[.int .u8 n, .int .u8 m] W fun e w' => e = .returned (.bool true) ∧ Below W.heap.size W w' := by
  have b1 := bounds_u8 h1
  have b2 := bounds_u8 h2
  obtain ⟨a, rfl⟩ := Int.eq_ofNat_of_zero_le b1.1
  obtain ⟨b, rfl⟩ := Int.eq_ofNat_of_zero_le b2.1
  exact dlast_walk digs_ok (awake19_all digs_ok) a b W (by omega) (by omega)
end Go.Proofs.Ytmjpaopobnhckaa
