/-
  Rows of truths: which numbers stand in a list, which bytes were told on; numbers as the laws of gossip draw them.
-/
import Derived.Test.YtmhbfchhooggjaaGoE
import Derived.Test.YtmhbfchhooggjaaGoP
import Derived.Test.YtmhbfchhooggjaaRowU
namespace Go.Proofs.Ytmhbfchhooggjaa
open Go.RowKit Go.BigFrame
set_option linter.unusedVariables false
set_option linter.unusedSimpArgs false

/-- Of the numbers below n: which are in a list. -/
def tn (n : Nat) (L : List Int) : List Value := (List.range n).map (fun k : Nat => Value.bool (decide ((k : Int) ∈ L)))
theorem tn_length (n : Nat) (L : List Int) : (tn n L).length = n := by simp [tn]
theorem tn_at (n : Nat) (L : List Int) {k : Nat} (h : k < n) : (tn n L)[k]? = some (.bool (decide ((k : Int) ∈ L))) := by
  unfold tn
  rw [List.getElem?_map, List.getElem?_range h]
  rfl
theorem tn_set (n : Nat) (L : List Int) {k : Nat} (h : k < n) : (tn n L).set k (.bool true) = tn n (L ++ [(k : Int)]) := by
  apply List.ext_getElem?
  intro i
  rw [List.getElem?_set]
  by_cases hi : k = i
  · subst hi
    rw [if_pos rfl, if_pos (by rw [tn_length]; exact h), tn_at n _ h, decide_eq_true (by simp)]
  · rw [if_neg hi]
    by_cases h2 : i < n
    · rw [tn_at n _ h2, tn_at n _ h2]
      congr 2
      rw [decide_eq_decide, List.mem_append, List.mem_singleton]
      constructor
      · exact .inl
      · rintro (h | h)
        · exact h
        · exact absurd (by omega) hi
    · rw [List.getElem?_eq_none (by rw [tn_length]; omega), List.getElem?_eq_none (by rw [tn_length]; omega)]
theorem tn_nil (n : Nat) : tn n [] = List.replicate n (.bool false) := by
  unfold tn
  rw [show (fun k : Nat => Value.bool (decide ((k : Int) ∈ ([] : List Int)))) = fun _ => Value.bool false from by funext k; simp]
  simp [List.map_const']
set_option maxRecDepth 100000 in
theorem make_bools (n : Nat) (h : n ≤ 20) (V : World) : (Instr.makeSlice 49 (.int .i64 (n : Int)) (.int .i64 (n : Int))).run Try.prog V = .ok (.slice (some ⟨V.heap.size, 0, none⟩) n n) (V.alloc (.cells (tn n []).toArray 4)) := by
  rw [tn_nil]
  rcases (show (((n = 0 ∨ n = 1 ∨ n = 2) ∨ n = 3 ∨ n = 4 ∨ n = 5) ∨ (n = 6 ∨ n = 7 ∨ n = 8) ∨ n = 9 ∨ n = 10) ∨ ((n = 11 ∨ n = 12) ∨ n = 13 ∨ n = 14 ∨ n = 15) ∨ (n = 16 ∨ n = 17) ∨ n = 18 ∨ n = 19 ∨ n = 20 by omega) with (((h | h | h) | h | h | h) | (h | h | h) | h | h) | ((h | h) | h | h | h) | (h | h) | h | h | h <;> subst h <;> kernel_rfl
namespace Gp
/-- What was told on behind a byte's hash. -/
def tol (L : List (List UInt8)) (x : UInt8) : List (List UInt8) := if hb x ∈ L then L else L ++ [hb x]
theorem mem_tol (L : List (List UInt8)) (x y : UInt8) : hb y ∈ tol L x ↔ hb y ∈ L ∨ y = x := by
  unfold tol
  split
  · rename_i h
    constructor
    · exact .inl
    · rintro (h1 | h1)
      · exact h1
      · rw [h1]; exact h
  · rw [List.mem_append, List.mem_singleton, hb_inj]
end Gp
/-- Which bytes were told on, as a row of 256 truths. -/
def bq (L : List (List UInt8)) : List Value := (List.range 256).map (fun k => Value.bool (decide (hb (UInt8.ofNat k) ∈ L)))
theorem bq_length (L : List (List UInt8)) : (bq L).length = 256 := by simp [bq]
theorem bq_at (L : List (List UInt8)) (x : UInt8) : (bq L)[x.toNat]? = some (.bool (decide (hb x ∈ L))) := by
  unfold bq
  rw [List.getElem?_map, List.getElem?_range (by have := x.toNat_lt; omega)]
  simp
theorem bq_set (L : List (List UInt8)) (x : UInt8) : (bq L).set x.toNat (.bool true) = bq (Gp.tol L x) := by
  apply List.ext_getElem?
  intro i
  rw [List.getElem?_set]
  have hx := x.toNat_lt
  by_cases hi : x.toNat = i
  · subst hi
    rw [if_pos rfl, if_pos (by rw [bq_length]; omega), bq_at, decide_eq_true ((Gp.mem_tol L x x).2 (.inr rfl))]
  · rw [if_neg hi]
    by_cases h2 : i < 256
    · have e : i = (UInt8.ofNat i).toNat := by rw [UInt8.toNat_ofNat']; omega
      rw [e, bq_at, bq_at]
      congr 2
      rw [decide_eq_decide, Gp.mem_tol]
      constructor
      · exact .inl
      · rintro (h | h)
        · exact h
        · exact absurd (by rw [← h, ← e]) hi
    · rw [List.getElem?_eq_none (by rw [bq_length]; omega), List.getElem?_eq_none (by rw [bq_length]; omega)]
theorem make_256 (V : World) : (Instr.makeSlice 49 (.int .i64 256) (.int .i64 256)).run Try.prog V = .ok (.slice (some ⟨V.heap.size, 0, none⟩) 256 256) (V.alloc (.cells (List.replicate 256 (Value.bool false)).toArray 4)) := by kernel_rfl
theorem bq_nil : bq [] = List.replicate 256 (.bool false) := by
  unfold bq
  rw [show (fun k => Value.bool (decide (hb (UInt8.ofNat k) ∈ ([] : List (List UInt8))))) = fun _ => Value.bool false from by funext k; simp]
  simp [List.map_const']
theorem byte_at21 {w : World} {A : Option Addr} {xs : List UInt8} (h : Src w A (bvs xs)) {i : Nat} {x : UInt8} (hx : xs[i]? = some x) : ∃ ad, A = some ad ∧ w.cell? (ad.add i) = some (.int .u8 (x.toNat : Int)) :=
  h i (bv x) (by rw [bvs_get, hx]; rfl)
/-- A rest, as a walk spells it. -/
theorem rest_of21 (a b : Nat) (hb : 0 < b) (hb2 : b ≤ 1000) (ha : a < 256) : ∃ k : Nat, ((a : Int) % (b : Int) = (k : Int) ∧ (a : Int).tmod (b : Int) = (k : Int)) ∧ k < b ∧ wrap64 ((a : Int).tmod (b : Int)) = (k : Int) := by
  have h0 : (a : Int).tmod (b : Int) = (a : Int) % (b : Int) := Int.tmod_eq_emod_of_nonneg (by omega)
  have h1 : (a : Int) % (b : Int) = ((a % b : Nat) : Int) := by omega
  have h2 := Nat.mod_lt a hb
  refine ⟨a % b, ⟨h1, h0.trans h1⟩, h2, ?_⟩
  rw [h0, h1]
  unfold wrap64
  omega
/-- Where what came in lies. -/
theorem src_lt {w : World} {A : Option Addr} {l : List Int} {n : Nat} (h : Src w A (ivs l)) (hl : l.length = n) : ∀ ad, A = some ad → 0 < n → ad.block < w.heap.size := fun ad e hn => by
  obtain ⟨a2, e2, hc⟩ := src_at21 h (i := 0) (List.getElem?_eq_getElem (by omega))
  rw [e] at e2
  injection e2 with e2
  subst e2
  have := World.block_lt_of_cell? _ _ hc
  rwa [show (ad.add 0).block = ad.block from by unfold Addr.add; split <;> rfl] at this
theorem oth_take (g : Gp.G) (ls : List Int) (i : Nat) (x : Int) (but : Int) (h : ls[i]? = some x) : Gp.oth g (ls.take (i + 1)) but = if (Gp.can g but x && !decide (x ∈ ls.take i)) = true then Gp.oth g (ls.take i) but ++ [x] else Gp.oth g (ls.take i) but := by
  rw [← Gp.oth_snoc, List.take_add_one, h]
  rfl
theorem row_nil {k : IntKind} {w : World} {A : Option Addr} {n c : Nat} {zs : List Int} (h : IsRowU k w A n c zs) : A = none → c = 0 := fun e => by
  rcases h with ⟨_, _, h, _⟩ | ⟨x, h, _⟩
  · exact h
  · rw [e] at h; cases h
theorem byte_of21 {x : Int} (h : (Lit.int .u8 x).wf = true) : ∃ k : Nat, x = (k : Int) ∧ k < 256 := by
  simp [Lit.wf, IntKind.min, IntKind.max, IntKind.signed, IntKind.bits] at h
  exact ⟨x.toNat, by omega, by omega⟩
end Go.Proofs.Ytmhbfchhooggjaa
