/-
  Keys (a size and a root): a root is stored into one; keys by value among the arguments.
-/
import Derived.Test.YtfokemminjikpaaDoorChW
import Derived.Test.YtfokemminjikpaaDoorOpens
import Derived.ChangeSame
import Derived.Deep.MidRow
namespace Go.Proofs.YtfokemminjikpaaDoor
open Go.RowKit Go.ChangeShapes Go.WideShapes Go.Deep
set_option linter.unusedVariables false

theorem keeps_setCells {S : Nat → Prop} {a : World} (b : Nat) (hb : b < a.heap.size → S b) : ∀ (vs : List Value) (o : Nat) (w : World), Keeps S a w → Keeps S a (w.setCells b o vs)
  | [], _, _, h => h
  | v :: r, o, w, h => by
    rw [World.setCells]
    exact keeps_setCells b hb r (o + 1) _ (h.setCell (p := ⟨b, o, none⟩) hb v)
theorem row_setCells (b : Nat) (t : TypeId) (post : List Value) : ∀ (vs old pre : List Value) (w : World), old.length = vs.length → Row w b t (pre ++ old ++ post) → Row (w.setCells b pre.length vs) b t (pre ++ vs ++ post)
  | [], [], _, _, _, h => h
  | [], _ :: _, _, _, hl, _ => by simp at hl
  | _ :: _, [], _, _, hl, _ => by simp at hl
  | v :: r, y :: old, pre, w, hl, h => by
    rw [World.setCells]
    have h1 := h.set pre.length v
    have e : (pre ++ y :: old ++ post).set pre.length v = (pre ++ [v]) ++ old ++ post := by simp
    rw [e] at h1
    have h2 := row_setCells b t post r old (pre ++ [v]) _ (by simpa using hl) h1
    rw [List.length_append] at h2
    have e2 : (pre ++ [v]) ++ r ++ post = pre ++ (v :: r) ++ post := by simp
    rw [e2] at h2
    exact h2
theorem key_set {w : World} {b s : Nat} {r x : List UInt8} (h : Row w b 55 (keyCells s r)) (hr : r.length = 32) (hx : x.length = 32) : Row (w.setCells b 1 (bvs x)) b 55 (keyCells s x) := by
  have h1 := row_setCells b 55 [] (bvs x) (bvs r) [.int .u64 (s : Int)] w (by rw [bvs_length, bvs_length, hr, hx]) (by rw [List.append_nil]; exact h)
  rw [List.append_nil] at h1
  exact h1
theorem key_there {w : World} {b s : Nat} {r : List UInt8} (h : Row w b 55 (keyCells s r)) (n : Nat) (hr : r.length = n) : w.there b 1 n := fun j hj => by
  refine ⟨?_, h.frozen _⟩
  rw [h.cell, Nat.add_comm]
  unfold keyCells
  rw [List.getElem?_cons_succ, List.getElem?_eq_getElem (by rw [bvs_length]; omega)]
  rfl
theorem cells_key : Tryd.prog.cellsOf 55 = 33 := by kernel_rfl
theorem cells_u64 : Tryd.prog.cellsOf 33 = 1 := by kernel_rfl
/-- A key by value that came in. -/
theorem open_key {H : Type} {enc : TypeId × Value → H} {w : World} {base : Nat} {spare : Nat → Bool} {held : Bool} {r : Reach} {b0 : Nat} {v : Value} {d : DataW H} {p : List MemPlace}
    (hv : Value.okWide Tryd.prog w r b0 55 v) (h : DataW.Trod enc Tryd.prog w base spare held 55 v d p) : ∃ z : Nat × List UInt8, (z.1 ≤ 18446744073709551615 ∧ z.2.length = 32) ∧ v = .agg (keyCells z.1 z.2).toArray := by
  obtain ⟨cs, rfl⟩ : ∃ cs, v = .agg cs := by
    simp only [Value.okWide, Tryd.underlying55] at hv
    obtain ⟨cs, h1, _⟩ := hv
    exact ⟨cs, h1⟩
  obtain ⟨fuel, hf⟩ := h
  obtain ⟨y0, y1, m, _, hl, h0, h1⟩ := trod_struct2 Tryd.underlying55 hf
  obtain ⟨n, e0, _, hw⟩ := DataW.trod_int Tryd.underlying33 h0
  obtain ⟨z, hz, e1⟩ := hash_cells h1
  rw [cells_u64] at e0
  rw [info_hash_cells] at e1
  rw [cells_key] at hl
  have hl' : cs.toList.length = 33 := hl
  have e0' : (cs.toList.drop 0).take 1 = [.int .u64 n] := e0
  have e1' : (cs.toList.drop 1).take 32 = bvs z := e1
  obtain ⟨s, rfl⟩ : ∃ s : Nat, n = s := Int.eq_ofNat_of_zero_le (bounds_u64 hw).1
  refine ⟨(s, z), ⟨by have := (bounds_u64 hw).2; show s ≤ _; omega, hz⟩, ?_⟩
  have e : cs.toList = keyCells s z := by
    have h3 : (cs.toList.drop 1).take 32 = cs.toList.drop 1 := List.take_of_length_le (by rw [List.length_drop]; omega)
    rw [h3] at e1'
    rw [List.drop_zero] at e0'
    have h4 := List.take_append_drop 1 cs.toList
    rw [e0', e1'] at h4
    exact h4.symm
  show Value.agg cs = Value.agg (keyCells s z).toArray
  rw [← e]
end Go.Proofs.YtfokemminjikpaaDoor
