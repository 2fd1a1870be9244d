/-
  The calls, whatever they are handed; the document's example.
-/
import Derived.Test.YtdihkbkcefjeoaaScG
namespace Go.Proofs.Ytdihkbkcefjeoaa
open Go.RowKit Go.BigFrame
set_option linter.unusedVariables false
set_option linter.unusedSimpArgs false

theorem blame_tab (w : World) (g b : Nat) (s : Sc.Tb) (k n : Int) (h : TabAt w g b s) (hn : n ≤ 9223372036854775807) :
    Calls Try.prog 10 #[.pointer (some ⟨g, 0, none⟩), .int .i64 k, .int .i64 n] w fun e w' => e = .returned (.bool (Sc.hit s k n)) ∧ TabAt w' g b (Sc.blame s k n) ∧ Keeps (fun j => j = b) w w' := by
  cases hm : Sc.may s k n with
  | true =>
    obtain ⟨⟨h0, _⟩, _⟩ := of_decide_eq_true hm
    obtain ⟨i, rfl⟩ := Int.eq_ofNat_of_zero_le h0
    exact blame_on w g b s i n h hm hn
  | false =>
    have hh : Sc.hit s k n = false := by unfold Sc.hit; rw [hm]; rfl
    have hb : Sc.blame s k n = s := by unfold Sc.blame; rw [if_neg (by rw [hm]; decide)]
    rw [hh, hb]
    have hoff : Sc.has s k = false ∨ 0 < (Sc.get s k).2 ∨ n < 1 := by
      have hm' := of_decide_eq_false hm
      by_cases h1 : 0 ≤ k ∧ k < (s.ps.length : Int)
      · by_cases h2 : 0 < (Sc.get s k).2
        · exact .inr (.inl h2)
        · exact .inr (.inr (by
            refine Int.lt_of_not_ge fun h3 => hm' ⟨h1, by omega, by omega⟩))
      · exact .inl (decide_eq_false h1)
    refine (blame_off _ w (Sc.get s k) (Sc.has s k) k n hoff (peer_any w g b s k h)).mono ?_
    rintro e w' ⟨h1, h2⟩
    exact ⟨h1, h.later h2, h2.mono (fun _ _ h => h.elim)⟩
theorem blame_none (w : World) (k n : Int) : Calls Try.prog 10 #[.pointer none, .int .i64 k, .int .i64 n] w fun e w' => e = .returned (.bool false) ∧ Keeps (fun _ => False) w w' :=
  blame_off _ w (0, 0) false k n (.inl rfl) (peer_none k w)
theorem set_tab (w : World) (g b : Nat) (s : Sc.Tb) (k : Int) (c : Int × Int) (h : TabAt w g b s) :
    Calls Try.prog 12 #[.pointer (some ⟨g, 0, none⟩), .int .i64 k, .agg (pc c)] w fun e w' => e = .returned (.int .i64 (Sc.setE s k c)) ∧ TabAt w' g b (Sc.set s k c) ∧ Keeps (fun j => j = b) w w' := by
  by_cases h1 : 0 ≤ k ∧ k < (s.ps.length : Int)
  · obtain ⟨i, rfl⟩ := Int.eq_ofNat_of_zero_le h1.1
    exact set_on w g b s i c h (by omega)
  · have hf : Sc.fits s k c = false := decide_eq_false (fun hh => h1 hh.1)
    have he : Sc.setE s k c = 1 := by unfold Sc.setE; rw [if_neg (by rw [hf]; decide)]
    have hs : Sc.set s k c = s := by unfold Sc.set; rw [if_neg (by rw [hf]; decide)]
    rw [he, hs]
    have hhas : Sc.has s k = false := decide_eq_false h1
    refine (set_off _ w k (Sc.get s k) c (fun V hV => ?_)).mono ?_
    · have := peer_any V g b s k (h.later hV)
      rwa [hhas] at this
    · rintro e w' ⟨h1, h2⟩
      exact ⟨h1, h.later h2, h2.mono (fun _ _ h => h.elim)⟩
theorem set_none (w : World) (k : Int) (c : Int × Int) : Calls Try.prog 12 #[.pointer none, .int .i64 k, .agg (pc c)] w fun e w' => e = .returned (.int .i64 1) ∧ Keeps (fun _ => False) w w' :=
  set_off _ w k (0, 0) c (fun V _ => peer_none k V)
theorem open_none (w : World) : Calls Try.prog 17 #[.pointer none] w fun e w' => e = .returned (.slice none 0 0) ∧ Keeps (fun _ => False) w w' := by
  have HA := Lib.hid (all_none w)
  go_enter Try.func17, Try.ntmps17
  go_wp2_with fail
  refine HA.out.mono ?_
  rintro e w1 ⟨rfl, e1⟩
  obtain rfl : w = w1 := e1.symm
  go_wp2
  go_loopw [3, 9] (fun lv iv wr => lv = .slice none 0 0 ∧ iv = .int .i64 0 ∧ wr = w) (fun _ _ _ => 0)
  case atStart => exact ⟨rfl, rfl, rfl⟩
  case round =>
    obtain ⟨rfl, rfl, rfl⟩ := hrel
    go_wp2
    go_ret
    exact ⟨rfl, Keeps.refl _ _⟩
theorem tick_none (w : World) : Calls Try.prog 14 #[.pointer none] w fun e w' => e = .returned (.slice none 0 0) ∧ Keeps (fun _ => False) w w' := by
  have HA := Lib.hid (all_none w)
  go_enter Try.func14, Try.ntmps14
  go_wp2_with fail
  refine HA.out.mono ?_
  rintro e w1 ⟨rfl, e1⟩
  obtain rfl : w = w1 := e1.symm
  go_wp2
  go_loopw [3, 10] (fun lv iv wr => lv = .slice none 0 0 ∧ iv = .int .i64 0 ∧ wr = w) (fun _ _ _ => 0)
  case atStart => exact ⟨rfl, rfl, rfl⟩
  case round =>
    obtain ⟨rfl, rfl, rfl⟩ := hrel
    go_wp2
    go_ret
    exact ⟨rfl, Keeps.refl _ _⟩
end Go.Proofs.Ytdihkbkcefjeoaa
