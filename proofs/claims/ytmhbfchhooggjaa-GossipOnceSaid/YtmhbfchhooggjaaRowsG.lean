/-
  Rows of bytes that lie behind one another. No number of any translation stands here.
-/
import Derived.Test.YtmhbfchhooggjaaBase
namespace Go.Proofs.Ytmhbfchhooggjaa
open Go.RowKit
set_option linter.unusedVariables false

/-- A row of bytes: where it lies, how many it has room for, what it holds. -/
abbrev RowOf := Option Addr × Nat × List UInt8
/-- Rows of bytes that lie behind one another from a on. -/
structure RowsAt (w : World) (a : Option Addr) (rs : List RowOf) : Prop where
  cell : ∀ i r, rs[i]? = some r → ∃ ad, a = some ad ∧ w.cell? (ad.add i) = some (.slice r.1 r.2.2.length r.2.1)
  src : ∀ r ∈ rs, Src w r.1 (bvs r.2.2)
  cap : ∀ r ∈ rs, r.2.2.length ≤ r.2.1 ∧ r.2.1 ≤ 9223372036854775807
theorem RowsAt.nil (w : World) (a : Option Addr) : RowsAt w a [] := ⟨fun i r h => by simp at h, fun r h => by simp at h, fun r h => by simp at h⟩
def bytesOf (rs : List RowOf) : List UInt8 := rs.flatMap fun r => r.2.2
theorem bytesOf_take (rs : List RowOf) (i : Nat) (r : RowOf) (h : rs[i]? = some r) : bytesOf (rs.take (i + 1)) = bytesOf (rs.take i) ++ r.2.2 := by
  have hi := (List.getElem?_eq_some_iff.1 h).1
  have e : rs[i] = r := by rw [List.getElem?_eq_getElem hi] at h; exact Option.some.inj h
  rw [List.take_succ_eq_append_getElem hi]
  unfold bytesOf
  rw [List.flatMap_append, e]
  simp
theorem RowsAt.keeps {S : Nat → Prop} {w w' : World} {a : Option Addr} {rs : List RowOf} (h : RowsAt w a rs) (hk : Keeps S w w') (hs : ∀ k, k < w.heap.size → ¬ S k) : RowsAt w' a rs := by
  refine ⟨fun i r hr => ?_, fun r hr => (h.src r hr).keeps hk (fun a _ hl => hs _ hl), h.cap⟩
  obtain ⟨ad, e, hc⟩ := h.cell i r hr
  have hl := World.block_lt_of_cell? w _ hc
  exact ⟨ad, e, (hk.cell hl (hs _ hl)).trans hc⟩
theorem rowsAt_one {w : World} {a : Addr} {r : RowOf} (h0 : w.cell? (a.add 0) = some (.slice r.1 r.2.2.length r.2.1)) (hr : Src w r.1 (bvs r.2.2)) (cr : r.2.2.length ≤ r.2.1 ∧ r.2.1 ≤ 9223372036854775807) : RowsAt w (some a) [r] := by
  refine ⟨fun i x hx => ⟨a, rfl, ?_⟩, fun x hx => ?_, fun x hx => ?_⟩
  · match i, hx with
    | 0, hx => cases hx; exact h0
  · rw [List.mem_singleton] at hx; subst hx; exact hr
  · rw [List.mem_singleton] at hx; subst hx; exact cr
theorem rowsAt_two {w : World} {a : Addr} {r s : RowOf} (h0 : w.cell? (a.add 0) = some (.slice r.1 r.2.2.length r.2.1)) (h1 : w.cell? (a.add 1) = some (.slice s.1 s.2.2.length s.2.1))
    (hr : Src w r.1 (bvs r.2.2)) (hs : Src w s.1 (bvs s.2.2)) (cr : r.2.2.length ≤ r.2.1 ∧ r.2.1 ≤ 9223372036854775807) (cs : s.2.2.length ≤ s.2.1 ∧ s.2.1 ≤ 9223372036854775807) : RowsAt w (some a) [r, s] := by
  refine ⟨fun i x hx => ⟨a, rfl, ?_⟩, fun x hx => ?_, fun x hx => ?_⟩
  · match i, hx with
    | 0, hx => cases hx; exact h0
    | 1, hx => cases hx; exact h1
  · rcases List.mem_cons.1 hx with rfl | hx
    · exact hr
    · rw [List.mem_singleton] at hx; subst hx; exact hs
  · rcases List.mem_cons.1 hx with rfl | hx
    · exact cr
    · rw [List.mem_singleton] at hx; subst hx; exact cs
theorem rowsAt_three {w : World} {a : Addr} {r s u : RowOf} (h0 : w.cell? (a.add 0) = some (.slice r.1 r.2.2.length r.2.1)) (h1 : w.cell? (a.add 1) = some (.slice s.1 s.2.2.length s.2.1)) (h2 : w.cell? (a.add 2) = some (.slice u.1 u.2.2.length u.2.1))
    (hr : Src w r.1 (bvs r.2.2)) (hs : Src w s.1 (bvs s.2.2)) (hu : Src w u.1 (bvs u.2.2)) (cr : r.2.2.length ≤ r.2.1 ∧ r.2.1 ≤ 9223372036854775807) (cs : s.2.2.length ≤ s.2.1 ∧ s.2.1 ≤ 9223372036854775807) (cu : u.2.2.length ≤ u.2.1 ∧ u.2.1 ≤ 9223372036854775807) : RowsAt w (some a) [r, s, u] := by
  refine ⟨fun i x hx => ⟨a, rfl, ?_⟩, fun x hx => ?_, fun x hx => ?_⟩
  · match i, hx with
    | 0, hx => cases hx; exact h0
    | 1, hx => cases hx; exact h1
    | 2, hx => cases hx; exact h2
  · rcases List.mem_cons.1 hx with rfl | hx
    · exact hr
    · rcases List.mem_cons.1 hx with rfl | hx
      · exact hs
      · rw [List.mem_singleton] at hx; subst hx; exact hu
  · rcases List.mem_cons.1 hx with rfl | hx
    · exact cr
    · rcases List.mem_cons.1 hx with rfl | hx
      · exact cs
      · rw [List.mem_singleton] at hx; subst hx; exact cu
theorem src_blk {w : World} {g : Nat} {t : TypeId} {fr : Nat × Nat} {xs : List Value} (h : w.heap[g]? = some (.cells xs.toArray t fr)) : Src w (some ⟨g, 0, none⟩) xs := fun j u hu => ⟨_, rfl, by
  rw [add_plain, Nat.zero_add, cell_of_row w g j xs.toArray t fr h]
  simpa using hu⟩
theorem Src.drop {w : World} {A : Option Addr} {xs : List Value} (h : Src w A xs) (n cap : Nat) (hc : xs.length ≤ cap) : Src w (if cap = n then A else A.map (·.add n)) (xs.drop n) := fun j u hu => by
  rw [List.getElem?_drop] at hu
  obtain ⟨a, e, hcell⟩ := h _ u hu
  have hlt := (List.getElem?_eq_some_iff.1 hu).1
  rw [if_neg (by omega)]
  refine ⟨a.add n, by rw [e]; rfl, ?_⟩
  rw [Addr.add_add]
  exact hcell
end Go.Proofs.Ytmhbfchhooggjaa
