/-
  WalSure's walk: fronts enough or not.
-/
import Derived.Test.YtnhegnncmjmafaaWlSs
namespace Go.Proofs.Ytnhegnncmjmafaa
open Go.RowKit Go.BigFrame
set_option linter.unusedVariables false
set_option linter.unusedSimpArgs false
set_option maxRecDepth 100000 in
set_option maxHeartbeats 4000000 in
theorem sure_skip (S : Option Addr) (len cS : Nat) (T : Option Addr) (nt cT : Nat) (w : World) (hlt : nt < len) :
    Calls Try.prog 3 #[.slice S len cS, .slice T nt cT] w fun e w' => e = .returned (.bool true) ∧ Keeps (fun _ => False) w w' := by
  have HAW := Lib.hid (awake12_any w)
  have hl2 : (nt : Int) < (len : Int) := by omega
  go_enter Try.func3, Try.ntmps3
  go_wp2_with fail
  refine HAW.out.mono ?_
  rintro e w0 ⟨rfl, k0⟩
  have K0 := Lib.hid k0
  clear k0 HAW
  go_wp2
  go_ret
  exact ⟨rfl, K0.out⟩
theorem sure_walk (S : Option Addr) (len cS : Nat) (acts : List ActOf) (T : Option Addr) (nt cT : Nat) (rt : List RowOf) (W : World) (h0 : IsActs W S len cS acts) (h1 : IsRows W T nt cT rt) :
    Calls Try.prog 3 #[.slice S len cS, .slice T nt cT] W fun e W' => e = .returned (.bool true) ∧ Below W.heap.size W W' := by
  obtain ⟨hn, -, -, hR⟩ := h1
  suffices hgo : Calls Try.prog 3 #[.slice S len cS, .slice T nt cT] W fun e w2 => e = .returned (.bool true) ∧ Keeps (fun _ => False) W w2 from hgo.mono (fun e w2 h => ⟨h.1, h.2.below (Nat.le_refl _) (fun _ _ => id)⟩)
  by_cases hle : len ≤ nt
  · exact sure_go S len cS acts T nt cT rt W h0 hR hn hle
  · exact sure_skip S len cS T nt cT W (by omega)
end Go.Proofs.Ytnhegnncmjmafaa
