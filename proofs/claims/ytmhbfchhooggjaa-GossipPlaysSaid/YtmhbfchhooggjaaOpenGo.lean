/-
  Slices of gossip's acts (a byte, a slice of integers, a hash, an integer each) among the arguments.
-/
import Derived.Test.YtmhbfchhooggjaaRowU
import Derived.Test.YtmhbfchhooggjaaLisA
import Derived.Test.YtmhbfchhooggjaaDiB
import Derived.Deep.Matrix
import Derived.Deep.SlicePairs
import Derived.Deep.MidRow
namespace Go.Proofs.Ytmhbfchhooggjaa
open Go.RowKit Go.ChangeShapes Go.WideShapes Go.Deep
set_option linter.unusedVariables false

structure ActOf where
  k : Int
  A : Option Addr
  C : Nat
  l : List Int
  id : List UInt8
  f : Int
def ActOf.cells (x : ActOf) : List Value := .int .u8 x.k :: .slice x.A x.l.length x.C :: (bvs x.id ++ [.int .i64 x.f])
instance : Inhabited ActOf := ⟨⟨0, none, 0, [], List.replicate 32 0, 0⟩⟩
structure ActOf.Ok (w : World) (x : ActOf) : Prop where
  src : Src w x.A (ivs x.l)
  le : x.l.length ≤ x.C
  max : x.C ≤ 9223372036854775807
  nil : x.A = none → x.C = 0
  k : (Lit.int .u8 x.k).wf = true
  id : x.id.length = 32
  f : (Lit.int .i64 x.f).wf = true
/-- Acts that came in. -/
structure IsActs (w : World) (a : Option Addr) (len cap : Nat) (xs : List ActOf) : Prop where
  many : xs.length = len
  le : len ≤ cap
  max : cap ≤ 9223372036854775807
  at_ : ∀ j x, xs[j]? = some x → ∃ ad, a = some ad ∧ (∀ q u, x.cells[q]? = some u → w.cell? (ad.add (j * 35 + q)) = some u) ∧ x.Ok w
theorem act_cells : Try.prog.cellsOf 38 = 35 := by kernel_rfl
theorem int_cells : Try.prog.cellsOf 3 = 1 := by kernel_rfl
theorem ints_cells : Try.prog.cellsOf 34 = 1 := by kernel_rfl
theorem u8_cells1 : Try.prog.cellsOf 5 = 1 := by kernel_rfl
theorem hash_cells21 : Try.prog.cellsOf 36 = 32 := by kernel_rfl
theorem open_acts {H : Type} {enc : TypeId × Value → H} {w : World} {base : Nat} {held : Bool} {fuel : Nat} {a : Option Addr} {len cap : Nat} {x : DataW H × List MemPlace}
    (h : DataW.trod enc Try.prog w base (fun _ => true) held fuel 23 [.slice a len cap] = some x) : ∃ xs, IsActs w a len cap xs := by
  rcases open_slice Try.underlying23 h with ⟨hcs, _⟩ | ⟨ad, l, c, m, n, D, Pl, hcs, _, hl, hm, hmm, _, hx⟩
  · simp at hcs
    obtain ⟨rfl, rfl, rfl⟩ := hcs
    exact ⟨[], rfl, Nat.le_refl _, by omega, fun j x hx => by simp at hx⟩
  · simp at hcs
    obtain ⟨rfl, rfl, rfl⟩ := hcs
    simp only [if_true] at hmm
    subst hmm
    have each : ∀ j, j < len → ∃ y : ActOf, (∀ q u, y.cells[q]? = some u → w.cell? (ad.add (j * 35 + q)) = some u) ∧ y.Ok w := by
      intro j hj
      obtain ⟨cs', h1, h2⟩ := hx j (by omega)
      rw [act_cells] at h1
      obtain ⟨_, hlen, hcell⟩ := World.cells?_some h1
      obtain ⟨ys, k, hk, _, _, hyl, hf⟩ := DataW.trod_struct Try.underlying38 h2
      match ys, hyl with
      | [y0, y1, y2, y3], _ =>
        have g0 : DataW.trod enc Try.prog w base (fun _ => true) held k 5 ((cs'.drop 0).take (Try.prog.cellsOf 5)) = some y0 := hf 0 _ rfl
        have g1 : DataW.trod enc Try.prog w base (fun _ => true) held k 34 ((cs'.drop 1).take (Try.prog.cellsOf 34)) = some y1 := hf 1 _ rfl
        have g2 : DataW.trod enc Try.prog w base (fun _ => true) held k 36 ((cs'.drop 2).take (Try.prog.cellsOf 36)) = some y2 := hf 2 _ rfl
        have g3 : DataW.trod enc Try.prog w base (fun _ => true) held k 3 ((cs'.drop 34).take (Try.prog.cellsOf 3)) = some y3 := hf 3 _ rfl
        rw [u8_cells1] at g0; rw [ints_cells] at g1; rw [hash_cells21] at g2; rw [int_cells] at g3
        obtain ⟨z0, e0, _, w0⟩ := DataW.trod_int Try.underlying5 g0
        obtain ⟨z3, e3, _, w3⟩ := DataW.trod_int Try.underlying3 g3
        obtain ⟨z2, w2, e2⟩ := hash_cells18 g2
        obtain ⟨B, L, C, zs, e1, hr⟩ : ∃ (B : Option Addr) (L C : Nat) (zs : List Int), (cs'.drop 1).take 1 = [.slice B L C] ∧ IsRowU .i64 w B L C zs := by
          rcases open_ints Try.underlying34 Try.underlying3 int_cells g1 with ⟨hc3, _⟩ | ⟨b3, l3, c3, zs, hc3, _, hl3, hm3, hz3, _, hcell3, hw3⟩
          · exact ⟨none, 0, 0, [], hc3, .inl ⟨rfl, rfl, rfl, rfl⟩⟩
          · exact ⟨some b3, l3, c3, zs, hc3, .inr ⟨b3, rfl, hl3, hm3, by simpa using hz3, hcell3, hw3⟩⟩
        have hnil : B = none → C = 0 := fun e => by
          rcases hr with ⟨_, _, h, _⟩ | ⟨x, h, _⟩
          · exact h
          · rw [e] at h; cases h
        obtain ⟨bs, hb1, hb2, _, hb3, hb4⟩ := hr.ints
        have ecs : cs' = ActOf.cells ⟨z0, B, C, bs, z2, z3⟩ := by
          have hp : cs' = cs'.take 1 ++ ((cs'.drop 1).take 1 ++ ((cs'.drop 2).take 32 ++ (cs'.drop 34).take 1)) := by
            have h4 : (cs'.drop 34).take 1 = cs'.drop 34 := List.take_of_length_le (by rw [List.length_drop]; omega)
            rw [h4]
            have h3 : cs'.drop 34 = (cs'.drop 2).drop 32 := by rw [List.drop_drop]
            rw [h3, List.take_append_drop]
            have h2 : cs'.drop 2 = (cs'.drop 1).drop 1 := by rw [List.drop_drop]
            rw [h2, List.take_append_drop, List.take_append_drop]
          have e0' : cs'.take 1 = [.int .u8 z0] := e0
          have e2' : (cs'.drop 2).take 32 = bvs z2 := e2
          have e3' : (cs'.drop 34).take 1 = [.int .i64 z3] := e3
          rw [hp, e0', e1, e2', e3']
          unfold ActOf.cells
          rw [hb1]
          rfl
        refine ⟨⟨z0, B, C, bs, z2, z3⟩, fun q u hq => ?_, ⟨hb2, by rw [hb1]; exact hb3, hb4, hnil, w0, w2, w3⟩⟩
        rw [← ecs] at hq
        have hq4 : q < 35 := by
          rcases Nat.lt_or_ge q 35 with h | h
          · exact h
          · rw [List.getElem?_eq_none (by omega)] at hq; cases hq
        have hc := hcell q (by omega)
        rw [add_add] at hc
        rw [hc, hq]
    obtain ⟨f, hf⟩ := choose_lt each
    refine ⟨(List.range len).map f, by simp, hl, by unfold maxLen at hm; omega, fun j x hx => ?_⟩
    rw [List.getElem?_map] at hx
    have hj : j < len := by
      rcases Nat.lt_or_ge j len with h | h
      · exact h
      · rw [List.getElem?_eq_none (by simpa using h)] at hx; cases hx
    rw [List.getElem?_range hj] at hx
    cases hx
    obtain ⟨h1, h2⟩ := hf j hj
    exact ⟨ad, rfl, h1, h2⟩
end Go.Proofs.Ytmhbfchhooggjaa
