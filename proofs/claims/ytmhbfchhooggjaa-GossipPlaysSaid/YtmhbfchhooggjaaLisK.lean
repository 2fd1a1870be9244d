/-
  Slices of structs or arrays that came in: where their elements lie; hashes among them.
-/
import Derived.Test.YtmhbfchhooggjaaHashK
import Derived.Test.YtmhbfchhooggjaaRowU
import Derived.Deep.Matrix
import Derived.Deep.SlicePairs
import Derived.ChangeSame
namespace Go.Proofs.Ytmhbfchhooggjaa
open Go.RowKit Go.ChangeShapes Go.WideShapes Go.Deep
set_option linter.unusedVariables false

theorem cells_h18 : Try.prog.cellsOf 36 = 32 := by kernel_rfl
theorem cells_u8_18 : Try.prog.cellsOf 5 = 1 := by kernel_rfl

section
variable {H : Type} {enc : TypeId × Value → H} {w : World} {base : Nat} {spare : Nat → Bool} {held : Bool}
theorem hash_cells18 {fuel : Nat} {cs : List Value} {x : DataW H × List MemPlace} (h : DataW.trod enc Try.prog w base spare held fuel 36 cs = some x) :
    ∃ l : List UInt8, l.length = 32 ∧ cs = bvs l := by
  obtain ⟨xs, m, _, _, hl, hn, he⟩ := DataW.trod_array Try.underlying36 h
  rw [cells_h18] at hl
  rw [cells_u8_18] at he
  have each : ∀ i, i < 32 → ∃ c : UInt8, cs[i]? = some (bv c) := by
    intro i hi
    have h1 := he i hi
    rw [List.getElem?_eq_getElem (by omega)] at h1
    obtain ⟨n, h2, _, hw⟩ := DataW.trod_int Try.underlying5 h1
    refine ⟨UInt8.ofNat n.toNat, ?_⟩
    rw [bv_ofInt n hw]
    have h3 : ((cs.drop (i * 1)).take 1)[0]? = some (.int .u8 n) := by rw [h2]; rfl
    rw [List.getElem?_take, if_pos (by omega), List.getElem?_drop] at h3
    simpa using h3
  obtain ⟨f, hf⟩ := choose_lt (p := fun i c => cs[i]? = some (bv c)) each
  refine ⟨(List.range 32).map f, by simp, ?_⟩
  apply List.ext_getElem?
  intro i
  by_cases hi : i < 32
  · rw [hf i hi, bvs_get, List.getElem?_map, List.getElem?_range hi]
    rfl
  · rw [List.getElem?_eq_none (by omega), List.getElem?_eq_none (by rw [bvs_length]; simp; omega)]
/-- Such a slice: what is told of one's cells. -/
structure IsList {α : Type} (enc : α → List Value) (ok : α → Prop) (n : Nat) (w : World) (a : Option Addr) (len cap : Nat) (xs : List α) : Prop where
  many : xs.length = len
  le : len ≤ cap
  max : cap ≤ 9223372036854775807
  nil : a = none → cap = 0
  at_ : ∀ j x, xs[j]? = some x → ok x ∧ ∃ ad, a = some ad ∧ ∀ q u, (enc x)[q]? = some u → w.cell? (ad.add (j * n + q)) = some u
theorem open_list {α : Type} [Inhabited α] {e : α → List Value} {ok : α → Prop} {n : Nat} {ts t : TypeId} (hts : Try.prog.underlying ts = some (.slice t)) (hn : Try.prog.cellsOf t = n) (hlen : ∀ x, ok x → (e x).length = n)
    (hc : ∀ {fuel : Nat} {cs : List Value} {x : DataW H × List MemPlace}, DataW.trod enc Try.prog w base (fun _ => true) held fuel t cs = some x → ∃ k, ok k ∧ cs = e k)
    {fuel : Nat} {a : Option Addr} {len cap : Nat} {x : DataW H × List MemPlace} (h : DataW.trod enc Try.prog w base (fun _ => true) held fuel ts [.slice a len cap] = some x) : ∃ xs, IsList e ok n w a len cap xs := by
  rcases open_slice hts h with ⟨hcs, _⟩ | ⟨ad, l, c, m, n', D, Pl, hcs, _, hl, hm, hmm, _, hx⟩
  · simp at hcs
    obtain ⟨rfl, rfl, rfl⟩ := hcs
    exact ⟨[], rfl, Nat.le_refl _, by omega, fun _ => rfl, fun j x hx => by simp at hx⟩
  · simp at hcs
    obtain ⟨rfl, rfl, rfl⟩ := hcs
    simp only [if_true] at hmm
    subst hmm
    have each : ∀ j, j < len → ∃ y : α, ok y ∧ ∀ q u, (e y)[q]? = some u → w.cell? (ad.add (j * n + q)) = some u := by
      intro j hj
      obtain ⟨cs', h1, h2⟩ := hx j (by omega)
      rw [hn] at h1
      obtain ⟨k, hk, rfl⟩ := hc h2
      refine ⟨k, hk, fun q u hq => ?_⟩
      have hql : q < n := by rw [← hlen k hk]; exact (List.getElem?_eq_some_iff.1 hq).1
      obtain ⟨_, _, h3⟩ := World.cells?_some h1
      have h4 := h3 q hql
      rw [add_add] at h4
      rw [h4, hq]
    obtain ⟨f, hf⟩ := choose_lt each
    refine ⟨(List.range len).map f, by simp, hl, by unfold maxLen at hm; omega, (fun h => by cases h), fun j x hx => ?_⟩
    rw [List.getElem?_map] at hx
    have hj : j < len := by
      rcases Nat.lt_or_ge j len with h | h
      · exact h
      · rw [List.getElem?_eq_none (by simpa using h)] at hx; cases hx
    rw [List.getElem?_range hj] at hx
    cases hx
    exact ⟨(hf j hj).1, ad, rfl, (hf j hj).2⟩
end
end Go.Proofs.Ytmhbfchhooggjaa
