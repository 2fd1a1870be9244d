/-
  Slices of integers that came in. No number of any translation stands here.
  Arrays of 32 bytes among the arguments: one by value. Plain of any function.
  Arrays of 32 bytes among the arguments: a slice of them. Plain of any function.
  Slices of slices of bytes among the arguments.
-/
import Derived.Test.YtgbajlmcoghofaaDoorBase
import Derived.Test.YtgbajlmcoghofaaDoorRows
import Derived.Deep.Slices
import Derived.OpenShut
import Derived.Test.YtgbajlmcoghofaaDoorShaG
import Derived.Deep.Matrix
namespace Go.Proofs.YtgbajlmcoghofaaDoor
open Go.RowKit
set_option linter.unusedVariables false

/-- A slice of bytes that came in: its bytes. -/
def IsRowU (k : IntKind) (w : World) (a : Option Addr) (len cap : Nat) (zs : List Int) : Prop :=
  (a = none ∧ len = 0 ∧ cap = 0 ∧ zs = []) ∨
  ∃ x, a = some x ∧ len ≤ cap ∧ cap ≤ maxLen ∧ zs.length = cap ∧ (∀ i, i < zs.length → w.cell? (x.add i) = some (.int k (zs.getD i 0))) ∧ ∀ n ∈ zs, (Lit.int k n).wf = true
theorem IsRowU.src {w : World} {a : Option Addr} {len cap : Nat} {zs : List Int} (h : IsRowU .u8 w a len cap zs) :
    ∃ xs : List UInt8, xs.length = len ∧ Src w a (bvs xs) ∧ len ≤ cap ∧ cap ≤ 9223372036854775807 := by
  rcases h with ⟨rfl, rfl, rfl, rfl⟩ | ⟨x, rfl, hl, hm, hz, hc, hw⟩
  · exact ⟨[], rfl, Src.nil _ _, Nat.le_refl _, by omega⟩
  · refine ⟨(zs.take len).map (fun n => UInt8.ofNat n.toNat), ?_, ?_, hl, by unfold maxLen at hm; omega⟩
    · rw [List.length_map, List.length_take]; omega
    · intro j u hu
      refine ⟨x, rfl, ?_⟩
      rw [bvs_get, List.getElem?_map] at hu
      have hj : j < len := by
        rcases Nat.lt_or_ge j len with h | h
        · exact h
        · rw [List.getElem?_eq_none (by rw [List.length_take]; omega)] at hu; simp at hu
      have hjz : j < zs.length := by omega
      rw [List.getElem?_take, if_pos hj, List.getElem?_eq_getElem hjz] at hu
      simp only [Option.map_some, Option.some.injEq] at hu
      rw [hc j hjz, ← hu, bv_ofInt _ (hw _ (List.getElem_mem hjz))]
      simp [List.getD, hjz]

/-- A slice of integers of kind k that came in. -/
theorem IsRowU.ints {k : IntKind} {w : World} {a : Option Addr} {len cap : Nat} {zs : List Int} (h : IsRowU k w a len cap zs) :
    ∃ ls : List Int, ls.length = len ∧ Src w a (ls.map (Value.int k)) ∧ (∀ x ∈ ls, (Lit.int k x).wf = true) ∧ len ≤ cap ∧ cap ≤ 9223372036854775807 := by
  rcases h with ⟨rfl, rfl, rfl, rfl⟩ | ⟨x, rfl, hl, hm, hz, hc, hw⟩
  · exact ⟨[], rfl, Src.nil _ _, by simp, Nat.le_refl _, by omega⟩
  · refine ⟨zs.take len, ?_, ?_, fun y hy => hw y (List.mem_of_mem_take hy), hl, by unfold maxLen at hm; omega⟩
    · rw [List.length_take]; omega
    · intro j u hu
      refine ⟨x, rfl, ?_⟩
      rw [List.getElem?_map] at hu
      have hj : j < len := by
        rcases Nat.lt_or_ge j len with h | h
        · exact h
        · rw [List.getElem?_eq_none (by rw [List.length_take]; omega)] at hu; simp at hu
      have hjz : j < zs.length := by omega
      rw [List.getElem?_take, if_pos hj, List.getElem?_eq_getElem hjz] at hu
      simp only [Option.map_some, Option.some.injEq] at hu
      rw [hc j hjz, ← hu]
      simp [List.getD, hjz]

end Go.Proofs.YtgbajlmcoghofaaDoor
namespace Go.Proofs.YtgbajlmcoghofaaDoor
open Go.RowKit Go.ChangeShapes Go.WideShapes Go.Deep
set_option linter.unusedVariables false

theorem info_hash_cells : Tryd.prog.cellsOf 23 = 32 := by kernel_rfl
theorem info_u8_cells : Tryd.prog.cellsOf 5 = 1 := by kernel_rfl

section
variable {H : Type} {enc : TypeId × Value → H} {w : World} {base : Nat} {spare : Nat → Bool} {held : Bool}
/-- The cells of an array of 32 bytes: 32 bytes. -/
theorem hash_cells {fuel : Nat} {cs : List Value} {x : DataW H × List MemPlace} (h : DataW.trod enc Tryd.prog w base spare held fuel 23 cs = some x) :
    ∃ l : List UInt8, l.length = 32 ∧ cs = bvs l := by
  obtain ⟨xs, m, _, _, hl, hn, he⟩ := DataW.trod_array Tryd.underlying23 h
  rw [info_hash_cells] at hl
  rw [info_u8_cells] at he
  have each : ∀ i, i < 32 → ∃ c : UInt8, cs[i]? = some (bv c) := by
    intro i hi
    have h1 := he i hi
    rw [List.getElem?_eq_getElem (by omega)] at h1
    obtain ⟨n, h2, _, hw⟩ := DataW.trod_int Tryd.underlying5 h1
    refine ⟨UInt8.ofNat n.toNat, ?_⟩
    rw [bv_ofInt n hw]
    have h3 : ((cs.drop (i * 1)).take 1)[0]? = some (.int .u8 n) := by rw [h2]; rfl
    rw [List.getElem?_take, if_pos (by omega), List.getElem?_drop] at h3
    simpa using h3
  obtain ⟨f, hf⟩ := choose_lt (p := fun i c => cs[i]? = some (bv c)) each
  refine ⟨(List.range 32).map f, by simp, ?_⟩
  apply List.ext_getElem?
  intro i
  by_cases hi : i < 32
  · rw [hf i hi, bvs_get, List.getElem?_map, List.getElem?_range hi]
    rfl
  · rw [List.getElem?_eq_none (by omega), List.getElem?_eq_none (by rw [bvs_length]; simp; omega)]
end

set_option maxRecDepth 100000 in
/-- A hash by value that came in: 32 bytes. -/
theorem open_hash {H : Type} {enc : TypeId × Value → H} {w : World} {base : Nat} {spare : Nat → Bool} {held : Bool} {r : Reach} {b0 : Nat} {v : Value} {d : DataW H} {p : List MemPlace}
    (hv : Value.okWide Tryd.prog w r b0 23 v) (h : DataW.Trod enc Tryd.prog w base spare held 23 v d p) : ∃ z : List UInt8, z.length = 32 ∧ v = .agg (bvs z).toArray := by
  obtain ⟨cs, rfl⟩ : ∃ cs, v = .agg cs := by
    simp only [Value.okWide, Tryd.underlying23] at hv
    obtain ⟨cs, h1, _⟩ := hv
    exact ⟨cs, h1⟩
  obtain ⟨fuel, hf⟩ := h
  obtain ⟨z, h1, h2⟩ := hash_cells hf
  have h3 : cs.toList = bvs z := h2
  exact ⟨z, h1, by rw [← h3]⟩

end Go.Proofs.YtgbajlmcoghofaaDoor
namespace Go.Proofs.YtgbajlmcoghofaaDoor
open Go.RowKit Go.ChangeShapes Go.WideShapes Go.Deep
set_option linter.unusedVariables false

/-- A slice of hashes that came in. -/
def IsHashes (w : World) (a : Option Addr) (len cap : Nat) (hs : List (List UInt8)) : Prop :=
  hs.length = len ∧ len ≤ cap ∧ cap ≤ 9223372036854775807 ∧ (∀ h ∈ hs, h.length = 32) ∧
  ∀ i (hi : i < hs.length), ∃ b o, a = some ⟨b, o, none⟩ ∧ ∀ j c, hs[i][j]? = some c → w.cell? ⟨b, o + (i * 32 + j), none⟩ = some (bv c)

theorem open_hashes {H : Type} {enc : TypeId × Value → H} {w : World} {base : Nat} {spare : Nat → Bool} {held : Bool} {fuel : Nat} {a : Option Addr} {len cap : Nat} {x : DataW H × List MemPlace}
    (h : DataW.trod enc Tryd.prog w base spare held fuel 31 [.slice a len cap] = some x) : ∃ hs, IsHashes w a len cap hs := by
  rcases open_slice Tryd.underlying31 h with ⟨hcs, _⟩ | ⟨ad, l, c, m, n, D, Pl, hcs, _, hl, hm, hmm, _, he⟩
  · simp at hcs
    obtain ⟨rfl, rfl, rfl⟩ := hcs
    exact ⟨[], rfl, Nat.le_refl _, by omega, by simp, fun i hi => absurd hi (by simp)⟩
  · simp at hcs
    obtain ⟨rfl, rfl, rfl⟩ := hcs
    have hlm : len ≤ m := by rw [hmm]; split <;> omega
    rw [info_hash_cells] at he
    have each : ∀ i, i < len → ∃ g : List UInt8, g.length = 32 ∧ ∀ j c, g[j]? = some c → w.cell? (ad.add (i * 32 + j)) = some (bv c) := by
      intro i hi
      obtain ⟨cs', h1, h2⟩ := he i (by omega)
      obtain ⟨g, hg, rfl⟩ := hash_cells h2
      refine ⟨g, hg, fun j c hj => ?_⟩
      have hjl : j < 32 := by rw [← hg]; exact (List.getElem?_eq_some_iff.1 hj).1
      obtain ⟨_, _, h3⟩ := World.cells?_some h1
      have h4 := h3 j hjl
      rw [add_add] at h4
      rw [h4, bvs_get, hj]
      rfl
    obtain ⟨f, hf⟩ := choose_lt (p := fun i (g : List UInt8) => g.length = 32 ∧ ∀ j c, g[j]? = some c → w.cell? (ad.add (i * 32 + j)) = some (bv c)) each
    refine ⟨(List.range len).map f, by simp, hl, by unfold maxLen at hm; omega, ?_, ?_⟩
    · intro g hg
      obtain ⟨i, hi, rfl⟩ := List.mem_map.1 hg
      exact (hf i (List.mem_range.1 hi)).1
    · intro i hi
      have hi' : i < len := by simpa using hi
      have hgi : ((List.range len).map f)[i] = f i := by simp
      rw [hgi]
      obtain ⟨hg32, hgc⟩ := hf i hi'
      obtain ⟨b, o, sp⟩ := ad
      have hsp : sp = none := by
        have h0 := (hf 0 (by omega)).2 0 ((f 0)[0]'(by rw [(hf 0 (by omega)).1]; omega)) (by simp)
        simpa [Addr.add] using World.cell?_spot h0
      subst hsp
      refine ⟨b, o, rfl, fun j c hj => ?_⟩
      have := hgc j c hj
      rwa [add_plain] at this
end Go.Proofs.YtgbajlmcoghofaaDoor
namespace Go.Proofs.YtgbajlmcoghofaaDoor
open Go.RowKit Go.ChangeShapes Go.WideShapes Go.Deep
set_option linter.unusedVariables false

theorem info_row_cells : Tryd.prog.cellsOf 24 = 1 := by kernel_rfl
theorem info_u8_cells1 : Tryd.prog.cellsOf 5 = 1 := by kernel_rfl

/-- Rows of bytes that came in. -/
structure IsRows (w : World) (a : Option Addr) (len cap : Nat) (rs : List RowOf) : Prop where
  many : rs.length = len
  le : len ≤ cap
  max : cap ≤ 9223372036854775807
  rows : RowsAt w a rs

theorem open_rows {H : Type} {enc : TypeId × Value → H} {w : World} {base : Nat} {held : Bool} {fuel : Nat} {a : Option Addr} {len cap : Nat} {x : DataW H × List MemPlace}
    (h : DataW.trod enc Tryd.prog w base (fun _ => true) held fuel 54 [.slice a len cap] = some x) : ∃ rs, IsRows w a len cap rs := by
  rcases open_int_rows Tryd.underlying54 Tryd.underlying24 Tryd.underlying5 info_row_cells info_u8_cells1 h with ⟨hcs, _⟩ | ⟨ad, l, c, A, L, C, Z, hcs, _, hl, hm, _, he⟩
  · simp at hcs
    obtain ⟨rfl, rfl, rfl⟩ := hcs
    exact ⟨[], rfl, Nat.le_refl _, by omega, RowsAt.nil _ _⟩
  · simp at hcs
    obtain ⟨rfl, rfl, rfl⟩ := hcs
    have each : ∀ r, r < len → ∃ xs : List UInt8, xs.length = L r ∧ Src w (A r) (bvs xs) ∧ L r ≤ C r ∧ C r ≤ 9223372036854775807 := by
      intro r hr
      obtain ⟨_, h1, h2, h3, h4, h5, h6⟩ := he r (by omega)
      have : IsRowU .u8 w (A r) (L r) (C r) (Z r) := by
        cases hA : A r with
        | none =>
          have := h5 hA
          exact .inl ⟨rfl, by omega, this, List.eq_nil_of_length_eq_zero (by omega)⟩
        | some y => exact .inr ⟨y, rfl, h1, h2, h3, fun i hi => (h6 y hA).2 i (by omega), h4⟩
      exact this.src
    obtain ⟨f, hf⟩ := choose_lt (p := fun r (xs : List UInt8) => xs.length = L r ∧ Src w (A r) (bvs xs) ∧ L r ≤ C r ∧ C r ≤ 9223372036854775807) each
    refine ⟨(List.range len).map fun r => (A r, C r, f r), by simp, hl, by unfold maxLen at hm; omega, fun i r hr => ?_, fun r hr => ?_, fun r hr => ?_⟩
    · rw [List.getElem?_map] at hr
      have hi : i < len := by
        rcases Nat.lt_or_ge i len with h | h
        · exact h
        · rw [List.getElem?_eq_none (by simpa using h)] at hr; cases hr
      rw [List.getElem?_range hi] at hr
      cases hr
      exact ⟨ad, rfl, by rw [(he i (by omega)).1]; simp only [(hf i hi).1]⟩
    · obtain ⟨i, hi, rfl⟩ := List.mem_map.1 hr
      exact (hf i (List.mem_range.1 hi)).2.1
    · obtain ⟨i, hi, rfl⟩ := List.mem_map.1 hr
      obtain ⟨h1, _, h2, h3⟩ := hf i (List.mem_range.1 hi)
      exact ⟨by show (f i).length ≤ C i; omega, h3⟩
end Go.Proofs.YtgbajlmcoghofaaDoor
