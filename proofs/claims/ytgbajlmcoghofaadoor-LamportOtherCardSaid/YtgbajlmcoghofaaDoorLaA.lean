/-
  Arrays of arrays as values and as blocks: a signature's places, read and set; arr_hash. Types by name, no function.
-/
import Derived.Test.YtgbajlmcoghofaaDoorLaM
import Derived.Test.YtgbajlmcoghofaaDoorShaNa
import Derived.Test.YtgbajlmcoghofaaDoorShaC
import Derived.Deep.MidRow
namespace Go.Proofs.YtgbajlmcoghofaaDoor
open Go.RowKit Go.BigFrame
set_option linter.unusedVariables false

theorem rowsAt_only {w : World} {a : Addr} {r : RowOf} (h0 : w.cell? (a.add 0) = some (.slice r.1 r.2.2.length r.2.1)) (hr : Src w r.1 (bvs r.2.2)) (cr : r.2.2.length ≤ r.2.1 ∧ r.2.1 ≤ 9223372036854775807) : RowsAt w (some a) [r] := by
  refine ⟨fun i x hx => ⟨a, rfl, ?_⟩, fun x hx => ?_, fun x hx => ?_⟩
  · match i, hx with
    | 0, hx => cases hx; exact h0
  · rw [List.mem_singleton] at hx; subst hx; exact hr
  · rw [List.mem_singleton] at hx; subst hx; exact cr
theorem hash_arr (L : List UInt8) (hL : L.length = 32) : (Tryd.prog.info? 23).map (·.size) = some (bvs L).toArray.size ∧ (bvs L).toArray.size = 32 ∧ (bvs L).toArray.all (·.oneCell') = true :=
  ⟨by rw [List.size_toArray, bvs_length, hL]; exact size_hash', by rw [List.size_toArray, bvs_length, hL], bvs_all _⟩
theorem size_pair : (Tryd.prog.info? 27).map (·.size) = some 64 := by kernel_rfl
theorem size_sig : (Tryd.prog.info? 29).map (·.size) = some 4096 := by kernel_rfl
theorem pair_arr (L : List UInt8) (hL : L.length = 64) : (Tryd.prog.info? 27).map (·.size) = some (bvs L).toArray.size ∧ (bvs L).toArray.size = 64 ∧ (bvs L).toArray.all (·.oneCell') = true :=
  ⟨by rw [List.size_toArray, bvs_length, hL]; exact size_pair, by rw [List.size_toArray, bvs_length, hL], bvs_all _⟩
theorem sig_arr (L : List UInt8) (hL : L.length = 4096) : (Tryd.prog.info? 29).map (·.size) = some (bvs L).toArray.size ∧ (bvs L).toArray.size = 4096 ∧ (bvs L).toArray.all (·.oneCell') = true :=
  ⟨by rw [List.size_toArray, bvs_length, hL]; exact size_sig, by rw [List.size_toArray, bvs_length, hL], bvs_all _⟩
theorem zero_hash (w : World) : (zeroValue 23).run Tryd.prog w = .ok (.agg (bvs (List.replicate 32 0)).toArray) w := by kernel_rfl
theorem zero_pair (w : World) : (zeroValue 27).run Tryd.prog w = .ok (.agg (bvs (List.replicate 64 0)).toArray) w := by kernel_rfl
theorem zero_sig (w : World) : (zeroValue 29).run Tryd.prog w = .ok (.agg (bvs (List.replicate 4096 0)).toArray) w := by kernel_rfl

/-- An element that is an array itself. -/
theorem run_index_agg {P : Program} (W : World) (t e f : TypeId) (n m : Nat) {inf : TypeInfo} (ht : P.underlying t = some (.array n e)) (he : P.underlying e = some (.array m f)) (hi : P.info? e = some inf) (cs : Array Value) (k : IntKind) (j : Nat) (hj : j < n) :
    (Instr.index t (.agg cs) (.int k (j : Int))).run P W = .ok (.agg (cs.extract (j * inf.size) (j * inf.size + inf.size))) W := by
  have hagg : (isAgg e).run P W = .ok true W := by
    unfold isAgg
    rw [Sem.run_bind, run_underlying he W]
    simp
  simp [Instr.index, asIntOf, run_underlying ht, sizeOf, typeInfo, hi, hj, Go.part, hagg]
theorem bvs_extract (L : List UInt8) (o n : Nat) : (bvs L).toArray.extract o (o + n) = (bvs ((L.drop o).take n)).toArray := by
  rw [← bvs_take, ← bvs_drop]
  simp
theorem index_sig (h : Nat → List UInt8) (hh : ∀ i, i < 128 → (h i).length = 32) (j : Nat) (hj : j < 64) (W : World) :
    (Instr.index 29 (.agg (bvs (Lm.cat h 128)).toArray) (.int .i64 (j : Int))).run Tryd.prog W = .ok (.agg (bvs (h (2 * j) ++ h (2 * j + 1))).toArray) W := by
  obtain ⟨i0, hi0, hs⟩ : ∃ i, Tryd.prog.info? 27 = some i ∧ i.size = 64 := by
    have h := size_pair
    cases hq : Tryd.prog.info? 27 with
    | none => rw [hq] at h; cases h
    | some i => rw [hq] at h; exact ⟨i, rfl, Option.some.inj h⟩
  rw [run_index_agg W 29 27 23 64 2 Tryd.underlying29 Tryd.underlying27 hi0 _ .i64 j hj, hs, bvs_extract]
  have e : ((Lm.cat h 128).drop (j * 64)).take 64 = h (2 * j) ++ h (2 * j + 1) := by
    have h1 : ((Lm.cat h 128).drop (j * 64)).take 64 = Lm.part (Lm.cat h 128) (2 * j) ++ Lm.part (Lm.cat h 128) (2 * j + 1) := by
      unfold Lm.part
      rw [show j * 64 = 32 * (2 * j) by omega, show (64 : Nat) = 32 + 32 by rfl, List.take_add, List.drop_drop, show 32 * (2 * j) + 32 = 32 * (2 * j + 1) by omega]
    rw [h1, Lm.part_cat h 128 _ hh (by omega), Lm.part_cat h 128 _ hh (by omega)]
  rw [e]
theorem index_pair (x y : List UInt8) (hx : x.length = 32) (hy : y.length = 32) (j : Nat) (hj : j < 2) (W : World) :
    (Instr.index 27 (.agg (bvs (x ++ y)).toArray) (.int .i64 (j : Int))).run Tryd.prog W = .ok (.agg (bvs (if j = 0 then x else y)).toArray) W := by
  obtain ⟨i0, hi0, hs⟩ : ∃ i, Tryd.prog.info? 23 = some i ∧ i.size = 32 := by
    have h := size_hash'
    cases hq : Tryd.prog.info? 23 with
    | none => rw [hq] at h; cases h
    | some i => rw [hq] at h; exact ⟨i, rfl, Option.some.inj h⟩
  rw [run_index_agg W 27 23 5 2 32 Tryd.underlying27 Tryd.underlying23 hi0 _ .i64 j hj, hs, bvs_extract]
  have e : ((x ++ y).drop (j * 32)).take 32 = if j = 0 then x else y := by
    have h01 : j = 0 ∨ j = 1 := by omega
    rcases h01 with rfl | rfl
    · rw [if_pos rfl, Nat.zero_mul, List.drop_zero, ← hx, List.take_left]
    · rw [if_neg (by omega), Nat.one_mul, ← hx, List.drop_left, hx, ← hy, List.take_length]
  rw [e]

/-- What was a row is a row, in its midst what was stored. -/
theorem row_midst (b : Nat) (t : TypeId) (post : List Value) : ∀ (vs old pre : List Value) (w : World), old.length = vs.length → Row w b t (pre ++ old ++ post) → Row (w.setCells b pre.length vs) b t (pre ++ vs ++ post)
  | [], [], _, _, _, h => h
  | [], _ :: _, _, _, hl, _ => by simp at hl
  | _ :: _, [], _, _, hl, _ => by simp at hl
  | v :: r, y :: old, pre, w, hl, h => by
    rw [World.setCells]
    have h1 := h.set pre.length v
    have e : (pre ++ y :: old ++ post).set pre.length v = (pre ++ [v]) ++ old ++ post := by simp
    rw [e] at h1
    have h2 := row_midst b t post r old (pre ++ [v]) _ (by simpa using hl) h1
    rw [List.length_append] at h2
    have e2 : (pre ++ [v]) ++ r ++ post = pre ++ (v :: r) ++ post := by simp
    rw [e2] at h2
    exact h2
theorem there_row {w : World} {b : Nat} {t : TypeId} {cs : List Value} (h : Row w b t cs) (o n : Nat) (hn : o + n ≤ cs.length) : w.there b o n := fun j hj => by
  refine ⟨?_, h.frozen _⟩
  rw [h.cell, List.getElem?_eq_getElem (by omega)]
  rfl
theorem sig_set {w : World} {b : Nat} {t : TypeId} {h : Nat → List UInt8} {x : List UInt8} {j : Nat} (hR : Row w b t (bvs (Lm.cat h 128))) (hh : ∀ i, i < 128 → (h i).length = 32) (hx : x.length = 32) (hj : j < 128) :
    Row (w.setCells b (32 * j) (bvs x)) b t (bvs (Lm.cat (Lm.ups h j x) 128)) := by
  obtain ⟨m, hm⟩ : ∃ m, 128 = j + 1 + m := ⟨127 - j, by omega⟩
  have e1 : Lm.cat (Lm.ups h j x) 128 = Lm.cat h j ++ x ++ Lm.cat (fun i => h (j + 1 + i)) m := by
    rw [hm, Lm.cat_split, Lm.ups_same, Lm.cat_congr (Lm.ups h j x) h j (fun i hi => Lm.ups_other _ _ _ (by omega)), Lm.cat_congr (fun i => Lm.ups h j x (j + 1 + i)) (fun i => h (j + 1 + i)) m (fun i _ => Lm.ups_other _ _ _ (by omega))]
  rw [hm, Lm.cat_split, ← bvs_append, ← bvs_append] at hR
  rw [e1, ← bvs_append, ← bvs_append]
  have hl : (bvs (Lm.cat h j)).length = 32 * j := by rw [bvs_length, Lm.cat_length _ _ (fun i hi => hh i (by omega))]
  have := row_midst b t (bvs (Lm.cat (fun i => h (j + 1 + i)) m)) (bvs x) (bvs (h j)) (bvs (Lm.cat h j)) w (by rw [bvs_length, bvs_length, hh j hj, hx]) hR
  rw [hl] at this
  exact this
theorem sig_there {w : World} {b : Nat} {t : TypeId} {h : Nat → List UInt8} {j : Nat} (hR : Row w b t (bvs (Lm.cat h 128))) (hh : ∀ i, i < 128 → (h i).length = 32) (hj : j < 128) : w.there b (32 * j) 32 :=
  there_row hR _ _ (by rw [bvs_length, Lm.cat_length _ _ hh]; omega)
/-- Place j lies where it should. -/
theorem sig_at {w : World} {b : Nat} {t : TypeId} {h : Nat → List UInt8} {j : Nat} (hR : Row w b t (bvs (Lm.cat h 128))) (hh : ∀ i, i < 128 → (h i).length = 32) (hj : j < 128) : w.rangeAt b (32 * j) (bvs (h j)) := fun i v hv => by
  have hi : i < 32 := by have := (List.getElem?_eq_some_iff.1 hv).1; rwa [bvs_length, hh j hj] at this
  rw [hR.cell, bvs_get]
  rw [bvs_get] at hv
  have e := Lm.part_cat h 128 j hh hj
  rw [← e] at hv
  unfold Lm.part at hv
  rw [List.getElem?_take, if_pos hi, List.getElem?_drop] at hv
  exact hv
/-- Both places of a bit lie where they should. -/
theorem sig_two {w : World} {b : Nat} {t : TypeId} {h : Nat → List UInt8} {k : Nat} (hR : Row w b t (bvs (Lm.cat h 128))) (hh : ∀ i, i < 128 → (h i).length = 32) (hk : k < 64) : w.rangeAt b (64 * k) (bvs (h (2 * k) ++ h (2 * k + 1))) := fun i v hv => by
  have h1 := sig_at hR hh (show 2 * k < 128 by omega)
  have h2 := sig_at hR hh (show 2 * k + 1 < 128 by omega)
  rw [← bvs_append] at hv
  by_cases hi : i < 32
  · rw [List.getElem?_append_left (by rw [bvs_length, hh _ (by omega)]; exact hi)] at hv
    have := h1 i v hv
    rwa [show 32 * (2 * k) = 64 * k by omega] at this
  · rw [List.getElem?_append_right (by rw [bvs_length, hh _ (by omega)]; omega), bvs_length, hh _ (by omega)] at hv
    have := h2 (i - 32) v hv
    rwa [show 32 * (2 * k + 1) + (i - 32) = 64 * k + i by omega] at this
end Go.Proofs.YtgbajlmcoghofaaDoor
