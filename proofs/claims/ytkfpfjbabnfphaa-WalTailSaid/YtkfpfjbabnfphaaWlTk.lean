/-
  WalTail's walk: few rows or not.
-/
import Derived.Test.YtkfpfjbabnfphaaWlTl
namespace Go.Proofs.Ytkfpfjbabnfphaa
open Go.RowKit Go.BigFrame
set_option linter.unusedVariables false
set_option linter.unusedSimpArgs false
set_option maxRecDepth 100000 in
set_option maxHeartbeats 4000000 in
theorem tail_skip (A : Option Addr) (na ca : Nat) (B : Option Addr) (nb cb : Nat) (C : Option Addr) (nc cc : Nat) (Af : Option Addr) (nf cf : Nat) (w : World) (q1 q2 q3 : Bool) (hq : q1 = false ∨ q2 = false ∨ q3 = false ∨ 60 < nf)
    (H1 : Hid (∀ V, Keeps (fun _ => False) w V → Calls Try.prog 12 #[.slice A na ca] V fun e w' => e = .returned (.bool q1) ∧ w' = V))
    (H2 : Hid (∀ V, Keeps (fun _ => False) w V → Calls Try.prog 12 #[.slice B nb cb] V fun e w' => e = .returned (.bool q2) ∧ w' = V))
    (H3 : Hid (∀ V, Keeps (fun _ => False) w V → Calls Try.prog 12 #[.slice C nc cc] V fun e w' => e = .returned (.bool q3) ∧ w' = V)) :
    Calls Try.prog 5 #[.slice A na ca, .slice B nb cb, .slice C nc cc, .slice Af nf cf] w fun e w' => e = .returned (.bool true) ∧ Keeps (fun _ => False) w w' := by
  have haw := awake12_any w
  have HAW := Lib.hid haw
  have HQ := Lib.hid hq
  clear haw hq
  go_enter Try.func5, Try.ntmps5
  go_wp2_with fail
  refine HAW.out.mono ?_
  rintro e w0 ⟨rfl, k0⟩
  have G1 := Lib.hid (H1.out w0 k0)
  have G2 := Lib.hid (H2.out w0 k0)
  have G3 := Lib.hid (H3.out w0 k0)
  have K0 := Lib.hid k0
  clear k0 HAW H1 H2 H3
  go_wp2_with fail
  refine G1.out.mono ?_
  rintro e wx ⟨rfl, hx⟩
  obtain rfl : w0 = wx := hx.symm
  go_wp2_with fail
  refine G2.out.mono ?_
  rintro e wx ⟨rfl, hx⟩
  obtain rfl : w0 = wx := hx.symm
  go_wp2_with fail
  refine G3.out.mono ?_
  rintro e wx ⟨rfl, hx⟩
  obtain rfl : w0 = wx := hx.symm
  cases q1 with
  | false =>
    go_wp2
    go_ret
    exact ⟨rfl, K0.out⟩
  | true =>
    cases q2 with
    | false =>
      go_wp2
      go_ret
      exact ⟨rfl, K0.out⟩
    | true =>
      cases q3 with
      | false =>
        go_wp2
        go_ret
        exact ⟨rfl, K0.out⟩
      | true =>
        have h3 : (60 : Int) < (nf : Int) := by have := HQ.out; simp at this; omega
        go_wp2
        go_ret
        exact ⟨rfl, K0.out⟩
theorem tail_walk (A : Option Addr) (na ca : Nat) (ra : List RowOf) (B : Option Addr) (nb cb : Nat) (rb : List RowOf) (C : Option Addr) (nc cc : Nat) (rc : List RowOf) (Af : Option Addr) (nf cf : Nat) (zs : List Int) (W : World) (h0 : IsRows W A na ca ra) (h1 : IsRows W B nb cb rb) (h2 : IsRows W C nc cc rc) (h3 : IsRowU .u8 W Af nf cf zs) :
    Calls Try.prog 5 #[.slice A na ca, .slice B nb cb, .slice C nc cc, .slice Af nf cf] W fun e W' => e = .returned (.bool true) ∧ Below W.heap.size W W' := by
  obtain ⟨rfl, ha, ha2, hA⟩ := h0
  obtain ⟨rfl, hb, hb2, hB⟩ := h1
  obtain ⟨rfl, hc, hc2, hC⟩ := h2
  obtain ⟨f, rfl, hf, -, -⟩ := h3.src
  have fa : ∀ V, Keeps (fun _ => False) W V → Calls Try.prog 12 #[.slice A ra.length ca] V fun e w' => e = .returned (.bool (few12B ra)) ∧ w' = V := fun V hk => few12_any A ca ra V (hA.keeps hk (fun _ _ => id)) (by omega)
  have fb : ∀ V, Keeps (fun _ => False) W V → Calls Try.prog 12 #[.slice B rb.length cb] V fun e w' => e = .returned (.bool (few12B rb)) ∧ w' = V := fun V hk => few12_any B cb rb V (hB.keeps hk (fun _ _ => id)) (by omega)
  have fc : ∀ V, Keeps (fun _ => False) W V → Calls Try.prog 12 #[.slice C rc.length cc] V fun e w' => e = .returned (.bool (few12B rc)) ∧ w' = V := fun V hk => few12_any C cc rc V (hC.keeps hk (fun _ _ => id)) (by omega)
  suffices hgo : Calls Try.prog 5 #[.slice A ra.length ca, .slice B rb.length cb, .slice C rc.length cc, .slice Af f.length cf] W fun e w' => e = .returned (.bool true) ∧ Keeps (fun _ => False) W w' from hgo.mono (fun e w' h => ⟨h.1, h.2.below (Nat.le_refl _) (fun _ _ => id)⟩)
  by_cases hall : few12B ra = true ∧ few12B rb = true ∧ few12B rc = true ∧ f.length ≤ 60
  · exact tail_go A ca ra B cb rb C cc rc Af cf f W hA hB hC hall.1 hall.2.1 hall.2.2.1 hf hall.2.2.2
  · refine tail_skip A _ ca B _ cb C _ cc Af _ cf W _ _ _ ?_ (Lib.hid fa) (Lib.hid fb) (Lib.hid fc)
    cases h1 : few12B ra with
    | false => exact .inl rfl
    | true =>
      cases h2 : few12B rb with
      | false => exact .inr (.inl rfl)
      | true =>
        cases h3 : few12B rc with
        | false => exact .inr (.inr (.inl rfl))
        | true => exact .inr (.inr (.inr (by rw [h1, h2, h3] at hall; simp at hall; omega)))
end Go.Proofs.Ytkfpfjbabnfphaa
