/-
  Arrays of 32 bytes among the arguments: a slice of them. Plain of any function.
-/
import Derived.Test.YtfdhnlpialcklaaDoorOpenA
namespace Go.Proofs.YtfdhnlpialcklaaDoor
open Go.RowKit Go.ChangeShapes Go.WideShapes Go.Deep
set_option linter.unusedVariables false

/-- A slice of hashes that came in. -/
def IsHashes (w : World) (a : Option Addr) (len cap : Nat) (hs : List (List UInt8)) : Prop :=
  hs.length = len ∧ len ≤ cap ∧ cap ≤ 9223372036854775807 ∧ (∀ h ∈ hs, h.length = 32) ∧
  ∀ i (hi : i < hs.length), ∃ b o, a = some ⟨b, o, none⟩ ∧ ∀ j c, hs[i][j]? = some c → w.cell? ⟨b, o + (i * 32 + j), none⟩ = some (bv c)

theorem open_hashes {H : Type} {enc : TypeId × Value → H} {w : World} {base : Nat} {spare : Nat → Bool} {held : Bool} {fuel : Nat} {a : Option Addr} {len cap : Nat} {x : DataW H × List MemPlace}
    (h : DataW.trod enc Tryd.prog w base spare held fuel 37 [.slice a len cap] = some x) : ∃ hs, IsHashes w a len cap hs := by
  rcases open_slice Tryd.underlying37 h with ⟨hcs, _⟩ | ⟨ad, l, c, m, n, D, Pl, hcs, _, hl, hm, hmm, _, he⟩
  · simp at hcs
    obtain ⟨rfl, rfl, rfl⟩ := hcs
    exact ⟨[], rfl, Nat.le_refl _, by omega, by simp, fun i hi => absurd hi (by simp)⟩
  · simp at hcs
    obtain ⟨rfl, rfl, rfl⟩ := hcs
    have hlm : len ≤ m := by rw [hmm]; split <;> omega
    rw [info_hash_cells] at he
    have each : ∀ i, i < len → ∃ g : List UInt8, g.length = 32 ∧ ∀ j c, g[j]? = some c → w.cell? (ad.add (i * 32 + j)) = some (bv c) := by
      intro i hi
      obtain ⟨cs', h1, h2⟩ := he i (by omega)
      obtain ⟨g, hg, rfl⟩ := hash_cells h2
      refine ⟨g, hg, fun j c hj => ?_⟩
      have hjl : j < 32 := by rw [← hg]; exact (List.getElem?_eq_some_iff.1 hj).1
      obtain ⟨_, _, h3⟩ := World.cells?_some h1
      have h4 := h3 j hjl
      rw [add_add] at h4
      rw [h4, bvs_get, hj]
      rfl
    obtain ⟨f, hf⟩ := choose_lt (p := fun i (g : List UInt8) => g.length = 32 ∧ ∀ j c, g[j]? = some c → w.cell? (ad.add (i * 32 + j)) = some (bv c)) each
    refine ⟨(List.range len).map f, by simp, hl, by unfold maxLen at hm; omega, ?_, ?_⟩
    · intro g hg
      obtain ⟨i, hi, rfl⟩ := List.mem_map.1 hg
      exact (hf i (List.mem_range.1 hi)).1
    · intro i hi
      have hi' : i < len := by simpa using hi
      have hgi : ((List.range len).map f)[i] = f i := by simp
      rw [hgi]
      obtain ⟨hg32, hgc⟩ := hf i hi'
      obtain ⟨b, o, sp⟩ := ad
      have hsp : sp = none := by
        have h0 := (hf 0 (by omega)).2 0 ((f 0)[0]'(by rw [(hf 0 (by omega)).1]; omega)) (by simp)
        simpa [Addr.add] using World.cell?_spot h0
      subst hsp
      refine ⟨b, o, rfl, fun j c hj => ?_⟩
      have := hgc j c hj
      rwa [add_plain] at this
end Go.Proofs.YtfdhnlpialcklaaDoor
