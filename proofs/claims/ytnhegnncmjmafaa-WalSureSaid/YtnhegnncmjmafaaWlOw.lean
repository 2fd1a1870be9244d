/-
  A slice that grows while another, a front of it, is kept: where the longer one lies.
-/
import Derived.Test.YtnhegnncmjmafaaWlTx
namespace Go.Proofs.Ytnhegnncmjmafaa
open Go.RowKit Go.BigFrame
set_option linter.unusedVariables false
/-- A front of what is owned is owned. -/
theorem own_front12 {w : World} {base n c : Nat} {e : TypeId} {A : Option Addr} {xs : List Value} (h : w.ownsRow base e 1 (.slice A n c) n xs) (k : Nat) (hk : k ≤ n) : w.ownsRow base e 1 (.slice A k c) k (xs.take k) := by
  have hl := h.1
  refine ⟨by rw [List.length_take]; omega, ?_⟩
  rcases h.2 with ⟨h1, h2⟩ | ⟨g, cap, cur, h1, hb, hg, hnc, hcm, hcs, ht⟩
  · injection h1 with a1 a2 a3
    subst a1 a3
    left
    exact ⟨by rw [show k = 0 by omega], by omega⟩
  · injection h1 with a1 a2 a3
    subst a1 a3
    right
    exact ⟨g, c, cur, rfl, hb, hg, by omega, hcm, hcs, by rw [← ht, List.take_take]; congr 1; omega⟩
/-- One thing more: in the old row, or in a new one; then the old row stays as it was. -/
theorem run_append_two {P : Program} (w : World) (base : Nat) (t ty e : TypeId) (i : TypeInfo) (z : Value) (bytes : Nat) (ht : P.underlying t = some (.slice e)) (hi : P.info? e = some i) (hz : i.zero = some z)
    (hsize : i.size = 1) (hby : i.bytes = bytes) (hzs : z.cells.size = 1) (A : Option Addr) (n c : Nat) (xs : List Value) (hown : w.ownsRow base e 1 (.slice A n c) n xs)
    (a : Addr) (c1 : Nat) (x : Value) (hx : ∀ j u, [x][j]? = some u → w.cell? (a.add j) = some u) (h1 : x.oneCell' = true) (h63 : n + 1 ≤ 100000) (hb : bytes ≤ 1000) (hbase : base ≤ w.heap.size) :
    ∃ A' c' w', (Builtin.append_ #[t, t] ty #[.slice A n c, .slice (some a) 1 c1]).run P w = .ok (.slice A' (n + 1) c') w' ∧ w'.ownsRow base e 1 (.slice A' (n + 1) c') (n + 1) (xs ++ [x]) ∧
      ((A' = A ∧ c' = c ∧ (∃ g, A = some ⟨g, 0, none⟩) ∧ w.grownBy w' (Value.slice A n c).ownBlock) ∨ ((Value.slice A' (n + 1) c').ownBlock = some w.heap.size ∧ w.grownBy w' none)) := by
  have hbb : (n + 1) * bytes ≤ 100000 * 1000 := Nat.mul_le_mul h63 hb
  obtain ⟨v, w', hr, h2, h3, -, -⟩ := run_append_own_at (P := P) w base t ty e i z 1 bytes ht hi hz hsize hby hzs (by decide) (.slice A n c) n xs hown a 1 c1 [x] rfl hx (by intro u hu; cases hu with | head => exact h1 | tail _ h => cases h) (by unfold maxLen; omega) (by omega) hbase
  rcases hown.2 with ⟨e1, e2⟩ | ⟨g, cap, cur, e1, hbg, hg, hnc, hcm, hcs, htake⟩
  · injection e1 with e3 e4 e5
    subst e3 e4 e5
    have hq := run_append_nil (P := P) w t ty e i z ht hi hz a 1 c1 [x] (by rw [hsize]; rfl) hx (by decide) (by decide) (by rw [hby]; omega)
    rw [hr] at hq
    injection hq with q1 q2
    subst q1 q2
    exact ⟨_, _, _, hr, h2, .inr ⟨rfl, ⟨rfl, rfl, rfl, by simp, fun k hk _ => heap_alloc_old w.drew _ hk⟩⟩⟩
  · injection e1 with e3 e4 e5
    subst e3 e5
    by_cases hroom : n + 1 ≤ c
    · have hq := run_append_room (P := P) w t ty e i ht hi g n c cur hg a 1 c1 [x] (by rw [hsize]; rfl) hx (by intro u hu; cases hu with | head => exact h1 | tail _ h => cases h) hroom (by rw [hsize, hcs]; show n * 1 + 1 ≤ c * 1; omega)
      rw [hr] at hq
      injection hq with q1 q2
      subst q1 q2
      exact ⟨_, _, _, hr, h2, .inl ⟨rfl, rfl, ⟨g, rfl⟩, h3⟩⟩
    · have hq := run_append_grow (P := P) w t ty e i z ht hi hz ⟨g, 0, none⟩ n c xs (by rw [hsize]; exact hown.1) (fun j u hj => hown.cells (g := g) rfl j u hj) a 1 c1 [x] (by rw [hsize]; rfl) hx (by omega) (by omega) (growslice_fits (by omega) (by rw [hby]; omega))
      rw [hr] at hq
      injection hq with q1 q2
      subst q1 q2
      exact ⟨_, _, _, hr, h2, .inr ⟨rfl, ⟨rfl, rfl, rfl, by simp, fun k hk _ => heap_alloc_old w.drew _ hk⟩⟩⟩
end Go.Proofs.Ytnhegnncmjmafaa
