/-
  Calls on a disk that may fail; plain.
-/
import Derived.Test.YtnhegnncmjmafaaWlCl
namespace Go.Proofs.Ytnhegnncmjmafaa
open Go.RowKit
set_option linter.unusedVariables false
namespace Wl
open Dk (Blk put over)
theorem cntE_two (s : Dk.St) : Dk.cntE s = 0 ∨ Dk.cntE s = 30 := by unfold Dk.cntE; split <;> simp
theorem live_wr {s : Dk.St} (h : s.dead = false) (i : Nat) (b : Blk) (hi : i < s.n) : (Dk.wrE s (i : Int) 256 = 0 ∧ (Dk.wr s (i : Int) 256 b).dead = false) ∨ Dk.wrE s (i : Int) 256 = 30 := by
  have ha := Dk.atE_in h hi
  have e : Dk.wrE s (i : Int) 256 = Dk.cntE s := by unfold Dk.wrE; rw [if_neg (by rw [ha]; exact fun h => h rfl), if_neg (fun h => h rfl)]
  rw [e]
  by_cases hg : Dk.goes s = true
  · left
    refine ⟨by unfold Dk.cntE; rw [if_pos hg], ?_⟩
    unfold Dk.wr
    rw [if_neg (by rw [ha]; exact fun h => h.elim (fun h => h rfl) (fun h => h rfl)), if_pos hg]
    show (Dk.cnt s).dead = false
    rw [Dk.cnt_dead s hg]; exact h
  · right; unfold Dk.cntE; rw [if_neg hg]
theorem live_sy {s : Dk.St} (h : s.dead = false) : (Dk.syE s = 0 ∧ (Dk.sy s).dead = false ∧ (Dk.sy s).loose = []) ∨ Dk.syE s = 30 := by
  have hd : ¬ s.dead = true := by rw [h]; decide
  have e : Dk.syE s = Dk.cntE s := by unfold Dk.syE; rw [if_neg hd]
  rw [e]
  by_cases hg : Dk.goes s = true
  · left
    unfold Dk.sy
    rw [if_neg hd, if_pos hg]
    exact ⟨by unfold Dk.cntE; rw [if_pos hg], by show (Dk.cnt s).dead = false; rw [Dk.cnt_dead s hg]; exact h, rfl⟩
  · right; unfold Dk.cntE; rw [if_neg hg]
theorem live_wst {s : Dk.St} (h : s.dead = false) (i0 : Nat) (b : Bs) : ∀ m, i0 + m ≤ s.n → ((wst s i0 b m).1 = 0 ∧ (wst s i0 b m).2.dead = false) ∨ (wst s i0 b m).1 = 30
  | 0, _ => .inl ⟨rfl, h⟩
  | m + 1, hm => by
    have ih := live_wst h i0 b m (by omega)
    have hn := wst_n s i0 b m
    unfold wst
    split
    · rename_i hh
      rcases ih with ih | ih
      · exact absurd ih.1 hh
      · exact .inr ih
    · rename_i hh
      rcases ih with ih | ih
      · exact live_wr ih.2 (i0 + m) (blk b m) (by omega)
      · rw [ih] at hh; exact absurd (fun h : (30 : Int) = 0 => by cases h) hh
theorem live_stamp {s : Dk.St} (h : s.dead = false) (hn : 2 ≤ s.n) (l : St) (a n : Nat) : ((stamp l s a n).1 = 0 ∧ (stamp l s a n).2.dead = false ∧ (stamp l s a n).2.loose = [] ∧ (stamp l s a n).2.n = s.n) ∨ ((stamp l s a n).1 = 30 ∧ (stamp l s a n).2.n = s.n) := by
  rcases live_sy h with ⟨h1, h2, h3⟩ | h1
  · have n1 := Dk.sy_n s
    rcases live_wr h2 ((l.turn + 1) % 2) (sup (l.turn + 1) a n) (by omega) with ⟨h4, h5⟩ | h4
    · have e := stamp2 (l := l) (a := a) (tail := n) h1 h4
      have n2 := Dk.wr_n (Dk.sy s) (((l.turn + 1) % 2 : Nat) : Int) 256 (sup (l.turn + 1) a n)
      rw [e]
      rcases live_sy h5 with ⟨h6, h7, h8⟩ | h6
      · exact .inl ⟨h6, h7, h8, (Dk.sy_n _).trans (n2.trans n1)⟩
      · exact .inr ⟨h6, (Dk.sy_n _).trans (n2.trans n1)⟩
    · have e := stamp1 (l := l) (a := a) (tail := n) h1 (by rw [h4]; decide)
      rw [e]
      exact .inr ⟨h4, (Dk.wr_n _ _ _ _).trans n1⟩
  · have e := stamp0 (l := l) (a := a) (tail := n) (by rw [h1]; decide)
    rw [e]
    exact .inr ⟨h1, Dk.sy_n s⟩
theorem live_ap {l : St} {s : Dk.St} (he : l.err = 0) (ho : Ok l) (h : s.dead = false) (hn : 2 + 2 * l.k ≤ s.n) (b : Bs) (h1 : b.length ≤ 16384) (h2 : (hv l).length + (8 + b.length) ≤ 256 * l.k) :
    ∃ s', s'.n = s.n ∧ s'.loose.length ≤ s.loose.length + 66 ∧ ((ap l s b = (0, { l with rows := l.rows ++ [b] }, s') ∧ s'.dead = false) ∨ ap l s b = (30, { l with err := 30 }, s')) := by
  obtain ⟨c, hc⟩ : ∃ c, (hv l ++ frame b).drop (256 * ((hv l).length / 256)) = c := ⟨_, rfl⟩
  have hcl : c.length = (hv l).length + (8 + b.length) - 256 * ((hv l).length / 256) := by rw [← hc, List.length_drop, List.length_append, frame_length]
  have hnc : (hv l).length / 256 + nch c ≤ l.k := by unfold nch; omega
  have hn66 : nch c ≤ 66 := by unfold nch; omega
  have hin : 2 + l.area * l.k + l.k ≤ s.n := by
    have := ho.area
    rcases (show l.area = 0 ∨ l.area = 1 by omega) with hh | hh <;> rw [hh] <;> omega
  have hw := live_wst h (2 + l.area * l.k + (hv l).length / 256) c (nch c) (by omega)
  obtain ⟨r, hr⟩ : ∃ r, wst s (2 + l.area * l.k + (hv l).length / 256) c (nch c) = r := ⟨_, rfl⟩
  have hrn : r.2.n = s.n := by rw [← hr]; exact wst_n _ _ _ _
  have hrl : r.2.loose.length ≤ s.loose.length + 66 := by have := wst_length s (2 + l.area * l.k + (hv l).length / 256) c (nch c); rw [hr] at this; omega
  rw [hr] at hw
  have e : ap l s b = if r.1 ≠ 0 then (r.1, { l with err := r.1 }, r.2) else (0, { l with rows := l.rows ++ [b] }, r.2) := by
    unfold ap
    rw [if_neg (by rw [he]; exact fun h => h rfl), if_neg (by omega), if_neg (by omega)]
    simp only [hc, hr]
  refine ⟨r.2, hrn, hrl, ?_⟩
  rw [e]
  rcases hw with ⟨h3, h4⟩ | h3
  · left; rw [if_neg (fun hh => hh h3)]; exact ⟨rfl, h4⟩
  · right; rw [if_pos (by rw [h3]; decide), h3]
theorem live_sync {l : St} {s : Dk.St} (he : l.err = 0) (h : s.dead = false) (hn : 2 ≤ s.n) (hs : l.sure ≠ l.rows.length) :
    ∃ s', s'.n = s.n ∧ ((sy l s = (0, { l with turn := l.turn + 1, sure := l.rows.length }, s') ∧ s'.dead = false ∧ s'.loose = []) ∨ sy l s = (30, { l with err := 30 }, s')) := by
  have hst := live_stamp h hn l l.area (hv l).length
  obtain ⟨r, hr⟩ : ∃ r, stamp l s l.area (hv l).length = r := ⟨_, rfl⟩
  rw [hr] at hst
  have e : sy l s = if r.1 ≠ 0 then (r.1, { l with err := r.1 }, r.2) else (0, { l with turn := l.turn + 1, sure := l.rows.length }, r.2) := by
    unfold sy
    rw [if_neg (by rw [he]; exact fun h => h rfl), if_neg hs]
    simp only [hr]
  rw [e]
  rcases hst with ⟨h1, h2, h3, h4⟩ | ⟨h1, h2⟩
  · exact ⟨r.2, h4, .inl ⟨by rw [if_neg (fun hh => hh h1)], h2, h3⟩⟩
  · exact ⟨r.2, h2, .inr (by rw [if_pos (by rw [h1]; decide), h1])⟩
end Wl
end Go.Proofs.Ytnhegnncmjmafaa
