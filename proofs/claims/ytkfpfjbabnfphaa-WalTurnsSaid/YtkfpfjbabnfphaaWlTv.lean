/-
  WalTurns' walk: few rows or not.
-/
import Derived.Test.YtkfpfjbabnfphaaWlTu
namespace Go.Proofs.Ytkfpfjbabnfphaa
open Go.RowKit Go.BigFrame
set_option linter.unusedVariables false
set_option linter.unusedSimpArgs false
set_option maxRecDepth 100000 in
set_option maxHeartbeats 4000000 in
theorem turns_skip (A : Option Addr) (na ca : Nat) (Af : Option Addr) (nf cf : Nat) (w : World) (q1 : Bool) (hq : q1 = false ∨ 20 < nf)
    (H1 : Hid (∀ V, Keeps (fun _ => False) w V → Calls Try.prog 12 #[.slice A na ca] V fun e w' => e = .returned (.bool q1) ∧ w' = V)) :
    Calls Try.prog 8 #[.slice A na ca, .slice Af nf cf] w fun e w' => e = .returned (.bool true) ∧ Keeps (fun _ => False) w w' := by
  have haw := awake12_any w
  have HAW := Lib.hid haw
  have HQ := Lib.hid hq
  clear haw hq
  go_enter Try.func8, Try.ntmps8
  go_wp2_with fail
  refine HAW.out.mono ?_
  rintro e w0 ⟨rfl, k0⟩
  have G1 := Lib.hid (H1.out w0 k0)
  have K0 := Lib.hid k0
  clear k0 HAW H1
  go_wp2_with fail
  refine G1.out.mono ?_
  rintro e wx ⟨rfl, hx⟩
  obtain rfl : w0 = wx := hx.symm
  cases q1 with
  | false =>
    go_wp2
    go_ret
    exact ⟨rfl, K0.out⟩
  | true =>
    have h3 : (20 : Int) < (nf : Int) := by have := HQ.out; simp at this; omega
    go_wp2
    go_ret
    exact ⟨rfl, K0.out⟩
theorem turns_walk (A : Option Addr) (na ca : Nat) (ra : List RowOf) (Af : Option Addr) (nf cf : Nat) (zs : List Int) (W : World) (h0 : IsRows W A na ca ra) (h3 : IsRowU .u8 W Af nf cf zs) :
    Calls Try.prog 8 #[.slice A na ca, .slice Af nf cf] W fun e W' => e = .returned (.bool true) ∧ Below W.heap.size W W' := by
  obtain ⟨rfl, ha, ha2, hA⟩ := h0
  obtain ⟨f, rfl, hf, -, -⟩ := h3.src
  have fa : ∀ V, Keeps (fun _ => False) W V → Calls Try.prog 12 #[.slice A ra.length ca] V fun e w' => e = .returned (.bool (few12B ra)) ∧ w' = V := fun V hk => few12_any A ca ra V (hA.keeps hk (fun _ _ => id)) (by omega)
  suffices hgo : Calls Try.prog 8 #[.slice A ra.length ca, .slice Af f.length cf] W fun e w' => e = .returned (.bool true) ∧ Keeps (fun _ => False) W w' from hgo.mono (fun e w' h => ⟨h.1, h.2.below (Nat.le_refl _) (fun _ _ => id)⟩)
  by_cases hall : few12B ra = true ∧ f.length ≤ 20
  · exact turns_go A ca ra Af cf f W hA ⟨ha, ha2⟩ hall.1 hf hall.2
  · refine turns_skip A _ ca Af _ cf W _ ?_ (Lib.hid fa)
    cases h1 : few12B ra with
    | false => exact .inl rfl
    | true => exact .inr (by rw [h1] at hall; simp at hall; omega)
end Go.Proofs.Ytkfpfjbabnfphaa
