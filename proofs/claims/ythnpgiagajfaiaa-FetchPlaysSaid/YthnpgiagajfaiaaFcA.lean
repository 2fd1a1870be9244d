/-
  Worlds that have only grown; the program's order of keys and of wants.
-/
import Derived.Test.YthnpgiagajfaiaaFtK
import Derived.Test.YthnpgiagajfaiaaClsW
import Derived.Sort.Grow
import Derived.Lib.BytesEntry
namespace Go.Proofs.Ythnpgiagajfaiaa
open Go.RowKit Go.BigFrame
set_option linter.unusedVariables false
set_option linter.unusedSimpArgs false

/-- Nothing that lay there has turned; draws and blocks have come. -/
structure Gr (w w' : World) : Prop where
  keeps : Keeps (fun _ => False) w w'
  drawn : w.drawn ≤ w'.drawn
section
variable {w w' v : World}
theorem Gr.refl (w : World) : Gr w w := ⟨Keeps.refl _ _, Nat.le_refl _⟩
theorem Gr.trans (h : Gr w v) (k : Gr v w') : Gr w w' := ⟨h.keeps.trans k.keeps, Nat.le_trans h.drawn k.drawn⟩
theorem Gr.alloc (h : Gr w v) (o : Obj) : Gr w (v.alloc o) := ⟨h.keeps.alloc o, h.drawn⟩
theorem Gr.drew (h : Gr w v) : Gr w v.drew := ⟨h.keeps.drew, Nat.le_trans h.drawn (Nat.le_succ _)⟩
theorem Gr.drewN (h : Gr w v) (n : Nat) : Gr w (v.drewN n) := ⟨h.keeps.drewN n, Nat.le_trans h.drawn (Nat.le_add_right _ _)⟩
theorem Gr.eq (h : Gr w w') : ∃ q os, w' = Sort.grow (w.drewN q) os := by
  refine ⟨w'.drawn - w.drawn, w'.heap.extract w.heap.size w'.heap.size, ?_⟩
  have h1 := h.keeps.size
  have h2 := h.drawn
  have hh : w.heap ++ w'.heap.extract w.heap.size w'.heap.size = w'.heap := by
    apply Array.ext_getElem?
    intro k
    rw [Array.getElem?_append]
    split
    · rename_i hk
      exact (h.keeps.block k hk id).symm
    · rename_i hk
      by_cases hk2 : k < w'.heap.size
      · rw [Array.getElem?_extract, if_pos (by omega)]
        congr 1
        omega
      · rw [Array.getElem?_extract, if_neg (by omega), Array.getElem?_eq_none (by omega)]
  have e1 := h.keeps.os
  have e2 := h.keeps.tape
  have e3 := h.keeps.output
  cases w
  cases w'
  simp only [Sort.grow, World.drewN, World.mk.injEq] at *
  exact ⟨hh.symm, e2, by omega, e1, e3⟩
end
/-- A class of worlds, by a name that no walk lays open. -/
structure LaterG (w V : World) : Prop where
  out : Gr w V

namespace Ft
/-- Two numbers held against one another. -/
def ucmp (a b : Nat) : Int := if a < b then -1 else if b < a then 1 else 0
def orI (x y : Int) : Int := if x ≠ 0 then x else y
def hcmp (a b : Key) : Int := orI (ucmp a.1 b.1) (Lib.compareBytes a.2 b.2)
def ord (a b : Key) : Int := if kless a b = true then -1 else if kless b a = true then 1 else 0
def wcmp (a b : Wn) : Int := orI (ord a.1 b.1) (ord a.2 b.2)
theorem compareBytes_neg : ∀ xs ys : List UInt8, decide (Lib.compareBytes xs ys < 0) = Op.bytesLess xs ys
  | [], [] => by simp [Lib.compareBytes, Op.bytesLess]
  | [], _ :: _ => by simp [Lib.compareBytes, Op.bytesLess]
  | _ :: _, [] => by simp [Lib.compareBytes, Op.bytesLess]
  | x :: xs, y :: ys => by
    have ih := compareBytes_neg xs ys
    unfold Lib.compareBytes Op.bytesLess
    by_cases h1 : x < y
    · rw [if_pos h1]
      simp [h1]
    · rw [if_neg h1]
      by_cases h2 : y < x
      · have hne : x ≠ y := fun e => by subst e; exact UInt8.lt_irrefl x h2
        rw [if_pos h2]
        simp [h1, hne]
      · have : x = y := UInt8.le_antisymm (UInt8.not_lt.1 h2) (UInt8.not_lt.1 h1)
        subst this
        rw [if_neg h2, ih]
        simp
theorem hcmp_neg (a b : Key) : decide (hcmp a b < 0) = kless a b := by
  unfold hcmp kless orI ucmp
  by_cases h1 : a.1 < b.1
  · rw [if_neg (by omega : ¬ a.1 = b.1)]
    simp [h1]
  · by_cases h2 : b.1 < a.1
    · rw [if_neg (by omega : ¬ a.1 = b.1)]
      simp [h1, h2]
    · rw [if_pos (by omega : a.1 = b.1)]
      simp only [h1, h2, if_false, ne_eq, not_true_eq_false]
      exact compareBytes_neg _ _
theorem ord_neg (a b : Key) : decide (ord a b < 0) = kless a b := by
  unfold ord
  by_cases h : kless a b = true
  · rw [if_pos h, h]; rfl
  · rw [if_neg h]
    have h' : kless a b = false := by simpa using h
    rw [h']
    by_cases h2 : kless b a = true
    · rw [if_pos h2]; rfl
    · rw [if_neg h2]; rfl
theorem ord_zero {a b : Key} : ord a b = 0 ↔ a = b := by
  unfold ord
  by_cases h : kless a b = true
  · rw [if_pos h]
    refine ⟨(fun e => by cases e), fun e => ?_⟩
    subst e
    rw [kless_irrefl] at h
    cases h
  · rw [if_neg h]
    by_cases h2 : kless b a = true
    · rw [if_pos h2]
      refine ⟨(fun e => by cases e), fun e => ?_⟩
      subst e
      rw [kless_irrefl] at h2
      cases h2
    · rw [if_neg h2]
      exact ⟨fun _ => kless_tri (by simpa using h) (by simpa using h2), fun _ => rfl⟩
theorem wcmp_neg (a b : Wn) : decide (wcmp a b < 0) = wless a b := by
  unfold wcmp wless orI
  by_cases h : a.1 = b.1
  · rw [if_pos h, if_neg (by rw [ne_eq, ord_zero]; simp [h])]
    exact ord_neg _ _
  · rw [if_neg h, if_pos (by rw [ne_eq, ord_zero]; exact h)]
    exact ord_neg _ _
end Ft
theorem nan_any (x : Int) (w : World) : Calls Try.prog 62 #[.int .u64 x] w fun e w' => e = .returned (.bool false) ∧ w' = w := by
  go_enter Try.func62, Try.ntmps62
  go_wp2
  go_ret
  exact ⟨by simp, rfl⟩
theorem ucmp_any (a b : Nat) (w : World) : Calls Try.prog 59 #[.int .u64 (a : Int), .int .u64 (b : Int)] w fun e w' => e = .returned (.int .i64 (Ft.ucmp a b)) ∧ w' = w := by
  have HA := Lib.hid (nan_any (a : Int) w)
  have HB := Lib.hid (nan_any (b : Int) w)
  obtain ⟨x, hx⟩ : ∃ x : Int, (a : Int) = x := ⟨_, rfl⟩
  obtain ⟨y, hy⟩ : ∃ y : Int, (b : Int) = y := ⟨_, rfl⟩
  obtain ⟨r, hr⟩ : ∃ r, Ft.ucmp a b = r := ⟨_, rfl⟩
  have hru : r = if x < y then -1 else if y < x then 1 else 0 := by
    subst hr
    unfold Ft.ucmp
    by_cases h1 : a < b
    · rw [if_pos h1, if_pos (by omega)]
    · by_cases h2 : b < a
      · rw [if_neg h1, if_pos h2, if_neg (by omega), if_pos (by omega)]
      · rw [if_neg h1, if_neg h2, if_neg (by omega), if_neg (by omega)]
  rw [hx] at HA ⊢
  rw [hy] at HB ⊢
  rw [hr]
  clear hx hy hr
  by_cases h1 : x < y
  · rw [if_pos h1] at hru
    subst hru
    go_enter Try.func59, Try.ntmps59
    go_wp2_with fail
    refine HA.out.mono ?_
    rintro e w1 ⟨rfl, rfl⟩
    go_wp2_with fail
    refine HB.out.mono ?_
    rintro e w2 ⟨rfl, rfl⟩
    go_wp2
    go_ret
    exact ⟨rfl, rfl⟩
  · by_cases h2 : y < x
    · rw [if_neg h1, if_pos h2] at hru
      subst hru
      go_enter Try.func59, Try.ntmps59
      go_wp2_with fail
      refine HA.out.mono ?_
      rintro e w1 ⟨rfl, rfl⟩
      go_wp2_with fail
      refine HB.out.mono ?_
      rintro e w2 ⟨rfl, rfl⟩
      go_wp2
      go_ret
      exact ⟨rfl, rfl⟩
    · rw [if_neg h1, if_neg h2] at hru
      subst hru
      go_enter Try.func59, Try.ntmps59
      go_wp2_with fail
      refine HA.out.mono ?_
      rintro e w1 ⟨rfl, rfl⟩
      go_wp2_with fail
      refine HB.out.mono ?_
      rintro e w2 ⟨rfl, rfl⟩
      go_wp2
      go_ret
      exact ⟨rfl, rfl⟩
theorem or_any (x y : Int) (w : World) (b c : Nat) (hx : w.cell? ⟨b, 0, none⟩ = some (.int .i64 x)) (hy : w.cell? ⟨b, 1, none⟩ = some (.int .i64 y)) :
    Calls Try.prog 36 #[.slice (some ⟨b, 0, none⟩) 2 c] w fun e w' => e = .returned (.int .i64 (Ft.orI x y)) ∧ w' = w := by
  by_cases h1 : x = 0
  · by_cases h2 : y = 0
    · subst h1
      subst h2
      have hr : Ft.orI 0 0 = 0 := rfl
      rw [hr]
      clear hr
      go_enter Try.func36, Try.ntmps36
      go_wp2
      go_loopw [5, 8] (fun _ iv wr => ∃ i : Int, iv = .int .i64 i ∧ Hid (wr = w) ∧ (i = 0 ∨ i = 1 ∨ i = 2)) (fun _ iv _ => 2 - (intOf iv).toNat)
      case atStart => exact ⟨0, rfl, Lib.hid rfl, .inl rfl⟩
      case round =>
        obtain ⟨i, rfl, HW, hi⟩ := hrel
        obtain rfl : wr = w := HW.out
        rcases hi with rfl | rfl | rfl
        · go_wp2
          go_roundw
          case rel => exact ⟨1, rfl, Lib.hid trivial, .inr (.inl rfl)⟩
          case measure => simp [intOf]
        · go_wp2
          go_roundw
          case rel => exact ⟨2, rfl, Lib.hid trivial, .inr (.inr rfl)⟩
          case measure => simp [intOf]
        · go_wp2
          go_ret
          exact ⟨rfl, rfl⟩
    · subst h1
      have hr : Ft.orI 0 y = y := rfl
      rw [hr]
      clear hr
      have hne : decide (y = 0) = false := decide_eq_false h2
      go_enter Try.func36, Try.ntmps36
      go_wp2
      go_loopw [5, 8] (fun _ iv wr => ∃ i : Int, iv = .int .i64 i ∧ Hid (wr = w) ∧ (i = 0 ∨ i = 1)) (fun _ iv _ => 2 - (intOf iv).toNat)
      case atStart => exact ⟨0, rfl, Lib.hid rfl, .inl rfl⟩
      case round =>
        obtain ⟨i, rfl, HW, hi⟩ := hrel
        obtain rfl : wr = w := HW.out
        rcases hi with rfl | rfl
        · go_wp2
          go_roundw
          case rel => exact ⟨1, rfl, Lib.hid trivial, .inr rfl⟩
          case measure => simp [intOf]
        · go_wp2
          go_ret
          exact ⟨rfl, rfl⟩
  · have hr : Ft.orI x y = x := by unfold Ft.orI; rw [if_pos h1]
    rw [hr]
    clear hr
    have hne : decide (x = 0) = false := decide_eq_false h1
    go_enter Try.func36, Try.ntmps36
    go_wp2
    go_loopw [5, 8] (fun _ iv wr => iv = .int .i64 0 ∧ Hid (wr = w)) (fun _ iv _ => 2 - (intOf iv).toNat)
    case atStart => exact ⟨rfl, Lib.hid rfl⟩
    case round =>
      obtain ⟨rfl, HW⟩ := hrel
      obtain rfl : wr = w := HW.out
      go_wp2
      go_ret
      exact ⟨rfl, rfl⟩
end Go.Proofs.Ythnpgiagajfaiaa
