/-
  The landed table keeps its contracts.
-/
import Derived.Test.YthnpgiagajfaiaaFcX
namespace Go.Proofs.Ythnpgiagajfaiaa
open Go.RowKit Go.BigFrame
set_option linter.unusedVariables false
set_option linter.unusedSimpArgs false

set_option maxHeartbeats 1000000 in
theorem ftick_none (w : World) (d : Nat) : Calls Try.prog 16 #[.pointer none, .pointer (some ⟨d, 0, none⟩)] w fun e w' => ∃ A c A' c', e = .returned (.tuple #[.slice A 0 c, .slice A' 0 c']) ∧ Keeps (fun _ => False) w w' := by
  have HO := Lib.hid (fopen_none w)
  go_enter Try.func16, Try.ntmps16
  go_wp2_with fail
  refine HO.out.mono ?_
  rintro e w1 ⟨rfl, h1⟩
  obtain rfl : w = w1 := h1.symm
  go_wp2
  go_loopw [6, 7, 14] (fun nv ov iv wr => nv = .slice none 0 0 ∧ ov = .slice none 0 0 ∧ iv = .int .i64 0 ∧ Hid (wr = w)) (fun _ _ _ _ => 0)
  case atStart => exact ⟨rfl, rfl, rfl, Lib.hid rfl⟩
  case round =>
    obtain ⟨rfl, rfl, rfl, HW⟩ := hrel
    obtain rfl : wr = w := HW.out
    go_wp2
    go_ret2
    first | exact ⟨none, 0, none, 0, rfl, Keeps.refl _ _⟩ | exact ⟨⟨none, 0, none, 0, rfl⟩, Keeps.refl _ _⟩
theorem fetch_ok : Fetch FAt where
  ok := fun h => by obtain ⟨_, h⟩ := h; exact h.ok
  lt := fun h => h.lt
  keeps := fun h hk hs => by obtain ⟨b, h⟩ := h; exact ⟨b, h.keeps hk hs⟩
  new_on := fun w base most budget h => fnew_on w base most budget h
  new_off := fun w base most budget h => fnew_off w base most budget h
  start := fun {w F g t} k h hk => (fstart_any w F g t k h hk).mono (fun e w' ⟨h1, h2, h3⟩ => ⟨F, h1, h2, fun b hb => .inl hb, h3⟩)
  done := fun {w F g t} k h hk => (fdone_any w F g t k h hk).mono (fun e w' ⟨h1, h2, h3⟩ => ⟨F, h1, h2, fun b hb => .inl hb, h3⟩)
  has := fun {w F g t} k h hk => fhas_any w F g t k h hk
  «open» := fun {w F g t} h hl => fopen_any w F g t h hl
  tick := fun {w F g t} d s h hl hd hF => (ftick_any w F g t d s h hl hd hF).mono (fun e w' ⟨A, c, A', c', h1, h2, h3, h4, h5, h6⟩ => ⟨F, A, c, A', c', h1, h2, h3, h4, h5, fun b hb => .inl hb, hF, h6⟩)
  start_none := fun w k hk => fstart_none w k hk
  done_none := fun w k hk => fdone_none w k hk
  has_none := fun w k hk => fhas_none w k hk
  open_none := fun w => (fopen_none w).mono (fun e w' ⟨h1, h2⟩ => ⟨none, 0, h1, by rw [h2]; exact Keeps.refl _ _⟩)
  tick_none := fun w d => ftick_none w d
end Go.Proofs.Ythnpgiagajfaiaa
