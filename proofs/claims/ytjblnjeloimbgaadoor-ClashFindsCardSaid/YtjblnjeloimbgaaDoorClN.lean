/-
  For the law ClashFinds: what two paths show that differ in their entries alone; bytes that are one's own as hashes; sums of strings.
-/
import Derived.Test.YtjblnjeloimbgaaDoorClSh
import Derived.Test.YtjblnjeloimbgaaDoorWalkE
import Derived.Laws.Concat
namespace Go.Proofs.YtjblnjeloimbgaaDoor
namespace Cl
theorem paths_same (k n i : Nat) (a : Bytes) (p q : List Bytes) : paths k n i a a p q = none := by unfold paths; rw [if_pos rfl]
theorem high_heads (x y : Bytes) (R : List Bytes) (h : x ≠ y) : high (x :: R) (y :: R) = (x, y) := by
  unfold high
  rw [List.reverse_cons, List.reverse_cons, highR_same]
  show (if x = y then _ else _) = _
  rw [if_neg h]
theorem prow_in' {k n i : Nat} {p : List Bytes} (hi : i < n) (hl : p.length = Tr.steps n i) (e : Bytes) : prow k n i e p = (leafRow e :: rowsOf k (nar k (leafRow e)) (p.zip (Tr.lefts n i).reverse), rootOf k (nar k (leafRow e)) (p.zip (Tr.lefts n i).reverse), 0) := by
  have h0 : ¬ n ≤ i := by omega
  unfold prow
  rw [if_neg h0, if_pos hl]
theorem paths_two {k n i : Nat} {a b : Bytes} {p : List Bytes} (hi : i < n) (hl : p.length = Tr.steps n i) (hab : a ≠ b) (hn : nar k (leafRow a) = nar k (leafRow b)) : paths k n i a b p p = some (leafRow a, leafRow b) := by
  have hne : leafRow a ≠ leafRow b := fun e => hab (List.cons.inj e).2
  unfold paths
  rw [if_neg hab, prow_in' hi hl a, prow_in' hi hl b, hn]
  simp only [ne_eq, not_true_eq_false, or_self, if_false, high_heads _ _ _ hne]
theorem prow_not {k n i : Nat} {p : List Bytes} (hi : i < n) (hl : p.length ≠ Tr.steps n i) (e : Bytes) : prow k n i e p = ([], List.replicate 32 0, 20) := by
  have h0 : ¬ n ≤ i := by omega
  unfold prow
  rw [if_neg h0, if_neg hl]
end Cl
open Go.RowKit Go.BigFrame
set_option linter.unusedVariables false

theorem flat_bvs (ps : List (List UInt8)) : flat ps = bvs ps.flatten := by
  unfold flat
  induction ps with
  | nil => rfl
  | cons p ps ih => rw [List.flatMap_cons, ih, List.flatten_cons, bvs_append]
theorem flatten_length (ps : List (List UInt8)) (h : ∀ p ∈ ps, p.length = 32) : ps.flatten.length = ps.length * 32 := by
  rw [← flat_length ps h, flat_bvs, bvs_length]
theorem bvs_set (l : List UInt8) (i : Nat) (b : UInt8) : (bvs l).set i (bv b) = bvs (l.set i b) := by simp [bvs, List.map_set]
/-- Bytes that are one's own, as hashes. -/
theorem own_path {w : World} {base j c : Nat} {e : TypeId} {A : Option Addr} {xs : List UInt8} (h : w.ownsRow base e 32 (.slice A j c) j (bvs xs)) (hx : xs.length = j * 32) : ∃ qs, PathAt w A qs ∧ qs.length = j := by
  refine ⟨(List.range j).map (fun i => (xs.drop (i * 32)).take 32), ⟨fun p hp => ?_, fun i p hp => ?_⟩, by simp⟩
  · obtain ⟨i, hi, rfl⟩ := List.mem_map.1 hp
    have hi := List.mem_range.1 hi
    rw [List.length_take, List.length_drop, hx]
    omega
  · rw [List.getElem?_map] at hp
    obtain ⟨i', hi', rfl⟩ := Option.map_eq_some_iff.1 hp
    have hij : i < j := by
      rcases Nat.lt_or_ge i j with q | q
      · exact q
      · rw [List.getElem?_eq_none (by simpa using q)] at hi'; cases hi'
    rw [List.getElem?_range hij] at hi'
    obtain rfl : i = i' := Option.some.inj hi'
    rcases h.2 with ⟨_, h0⟩ | ⟨g, cap, cur, hv, _⟩
    · omega
    · injection hv with hv1 hv2 hv3
      subst hv1
      subst hv3
      refine ⟨g, 0, rfl, fun t v hv => ?_⟩
      rw [bvs_get] at hv
      obtain ⟨b, hb, rfl⟩ := Option.map_eq_some_iff.1 hv
      have ht : t < 32 := by
        have := (List.getElem?_eq_some_iff.1 hb).1
        rw [List.length_take] at this
        omega
      rw [List.getElem?_take, if_pos ht, List.getElem?_drop] at hb
      rw [Nat.zero_add, h.cellAt (i * 32 + t) (by omega), bvs_get, hb]
      rfl
theorem cinfo_hash : ∃ i z, Tryd.prog.info? 26 = some i ∧ i.zero = some z ∧ i.size = 32 ∧ i.bytes = 32 ∧ z.cells.size = 32 := by
  rcases hi : Tryd.prog.info? 26 with _ | i
  · exact absurd hi (by decide)
  · have h : (Tryd.prog.info? 26).map (fun i => (i.zero.map (·.cells.size), i.size, i.bytes)) = some (some 32, 32, 32) := by kernel_rfl
    rw [hi] at h
    simp only [Option.map_some, Option.some.injEq, Prod.mk.injEq] at h
    obtain ⟨h1, h2, h3⟩ := h
    rcases hz : i.zero with _ | z
    · rw [hz] at h1; simp at h1
    · rw [hz] at h1
      exact ⟨i, z, rfl, hz, h2, h3, by simpa using h1⟩
/-- A path is appended to nothing. -/
theorem app_path (w : World) (A : Option Addr) (c j : Nat) (ps : List (List UInt8)) (hP : PathAt w A ps) (hl : ps.length = j) (hj : j ≤ 1000) : ∃ v' w', (Builtin.append_ #[24, 24] 24 #[.slice none 0 0, .slice A j c]).run Tryd.prog w = .ok v' w' ∧ w'.ownsRow w.heap.size 26 32 v' j (bvs ps.flatten) ∧ Keeps (fun _ => False) w w' := by
  obtain ⟨i, z, hi, hz, hs, hb, hzs⟩ := cinfo_hash
  cases A with
  | none =>
    have hps : ps = [] := by
      cases ps with
      | nil => rfl
      | cons p ps => obtain ⟨b, o, e, _⟩ := hP.lie 0 p rfl; cases e
    subst hps
    obtain rfl : j = 0 := by simpa using hl.symm
    refine ⟨.slice none 0 0, w, ?_, World.ownsRow_nil _ _ _ _, Keeps.refl _ _⟩
    simp [Builtin.append_, run_underlying Tryd.underlying24, sizeOf, typeInfo, hi, Builtin.lenOf, Builtin.firstCells]
  | some a =>
    obtain ⟨v', w', hr, h2, h3, _⟩ := run_append_own (P := Tryd.prog) w w.heap.size 24 24 26 i z 32 32 Tryd.underlying24 hi hz hs hb hzs (by omega) (.slice none 0 0) 0 [] (World.ownsRow_nil _ _ _ _) a j c (flat ps)
      (by rw [flat_length ps hP.all, hl]) (fun t u hu => by
        rw [flat_bvs, bvs_get] at hu
        obtain ⟨b, hb', rfl⟩ := Option.map_eq_some_iff.1 hu
        have ht : t < ps.length * 32 := by rw [← flatten_length ps hP.all]; exact (List.getElem?_eq_some_iff.1 hb').1
        obtain ⟨p, hp⟩ : ∃ p, ps[t / 32]? = some p := ⟨_, List.getElem?_eq_getElem (by omega)⟩
        obtain ⟨g, o, e, hg⟩ := hP.lie (t / 32) p hp
        cases e
        have hpt : p[t % 32]? = some b := by
          have h0 : ps = ps.take (t / 32) ++ ps[t / 32]'(by omega) :: ps.drop (t / 32 + 1) := by
            rw [← List.drop_eq_getElem_cons (by omega), List.take_append_drop]
          have h1 : ps.flatten = (ps.take (t / 32)).flatten ++ (ps[t / 32]'(by omega) ++ (ps.drop (t / 32 + 1)).flatten) := by
            have h1 := congrArg List.flatten h0
            rw [List.flatten_append, List.flatten_cons] at h1
            exact h1
          have hpe : ps[t / 32]'(by omega) = p := by rw [List.getElem?_eq_getElem (by omega)] at hp; exact Option.some.inj hp
          have hl1 : (ps.take (t / 32)).flatten.length = t / 32 * 32 := by rw [flatten_length _ (fun x hx => hP.all x (List.mem_of_mem_take hx)), List.length_take]; omega
          have hl2 : p.length = 32 := hP.all p (List.mem_of_getElem? hp)
          rw [h1, hpe, List.getElem?_append_right (by omega), hl1, List.getElem?_append_left (by omega)] at hb'
          rw [← hb']
          congr 1
          omega
        have hc := hg (t % 32) (bv b) (by rw [bvs_get, hpt]; rfl)
        rw [show (⟨g, o, none⟩ : Addr).add t = ⟨g, o + t / 32 * 32 + t % 32, none⟩ by rw [add_plain]; congr 1; omega]
        exact hc) (flat_one ps) (by simp only [maxLen]; omega) (by omega) (Nat.le_refl _)
    rw [Nat.zero_add, List.nil_append, flat_bvs] at h2
    exact ⟨v', w', hr, h2, (Keeps.refl _ _).grown h3 (fun k _ e => by cases e)⟩
theorem cstr_app (a b : List UInt8) : strOf a ++ strOf b = strOf (a ++ b) := by simp [strOf, ByteArray.mk_append_mk]
theorem cstr_size (l : List UInt8) : (strOf l).size = l.length := rfl
theorem add_leaf (x : List UInt8) (hx : x.length ≤ 100) (V : World) : (Op.stringOp .add (ByteArray.mk #[0]) (strOf x)).run Tryd.prog V = .ok (.string (strOf (Cl.leafRow x))) V := by
  rw [run_string_add_sum V _ _ (by rw [cstr_size]; show 1 + x.length ≤ _; omega)]
  exact congrArg (fun s => Result.ok (Value.string s) V) (cstr_app [0] x)
theorem xor_byte (c : UInt8) : bits .xor .u8 (c.toNat : Int) 1 = ((c ^^^ 1).toNat : Int) := by
  have h := u8_xor_nat c.toNat 1 (UInt8.toNat_lt _) (by omega)
  rw [UInt8.toNat_xor]
  exact h
end Go.Proofs.YtjblnjeloimbgaaDoor
