/-
  Arrays of arrays held against themselves.
-/
import Derived.Test.YtgbajlmcoghofaaDoorLaA
import Derived.Test.YtgbajlmcoghofaaDoorEq
namespace Go.Proofs.YtgbajlmcoghofaaDoor
open Go.RowKit
set_option linter.unusedVariables false

section
variable {P : Program} (w : World)
theorem run_eqItems_refl (d : Nat) (e : TypeId) (s : Nat) (xs : Array Value) : ∀ (is : List Nat), (∀ k ∈ is, ∃ v, (Go.part e xs (k * s)).run P w = .ok v w ∧ (Op.equalIn d e v v).run P w = .ok true w) →
    (Op.eqItems d e s xs xs is).run P w = .ok true w
  | [], _ => by simp [Op.eqItems]
  | k :: is, h => by
    obtain ⟨v, h1, h2⟩ := h k (by simp)
    have ih := run_eqItems_refl d e s xs is (fun j hj => h j (by simp [hj]))
    simp only [Op.eqItems, Sem.run_bind, h1, Result.andThen_ok, h2]
    simp [ih]
theorem run_part_agg (e f : TypeId) (m : Nat) {inf : TypeInfo} (he : P.underlying e = some (.array m f)) (hi : P.info? e = some inf) (cs : Array Value) (o : Nat) : (Go.part e cs o).run P w = .ok (.agg (cs.extract o (o + inf.size))) w := by
  have hagg : (isAgg e).run P w = .ok true w := by
    unfold isAgg
    rw [Sem.run_bind, run_underlying he w]
    simp
  simp [Go.part, sizeOf, typeInfo, hi, hagg]
theorem equalIn_bytes_at (d : Nat) (t e : TypeId) (n : Nat) {i : TypeInfo} (ht : P.underlying t = some (.array n e)) (he : P.underlying e = some (.int .u8)) (hi : P.info? e = some i) (hk : P.plainKey e = true) (hc : P.cellsOf e = 1) (xs ys : List UInt8) (hx : xs.length = n) (hy : ys.length = n) :
    (Op.equalIn (d + 2) t (.agg (bvs xs).toArray) (.agg (bvs ys).toArray)).run P w = .ok (xs == ys) w := by
  rw [run_equalIn_array w (d + 1) _ _ ht hi, List.range_eq_range', run_eqItems_bytes w d he hk hc xs ys (by omega) n 0 (by omega)]
  simp
end
theorem info_u8q : (Tryd.prog.info? 5).map (fun i => (i.zero, i.size, i.bytes)) = some (some (.int .u8 0), 1, 1) := by kernel_rfl
theorem hash_same (d : Nat) (x : List UInt8) (hx : x.length = 32) (w : World) : (Op.equalIn (d + 2) 23 (.agg (bvs x).toArray) (.agg (bvs x).toArray)).run Tryd.prog w = .ok true w := by
  obtain ⟨i0, hi, _⟩ := info_parts info_u8q
  rw [equalIn_bytes_at w d 23 5 32 Tryd.underlying23 Tryd.underlying5 hi (by kernel_rfl) (by kernel_rfl) x x hx hx, beq_self_eq_true]
theorem pair_same (d : Nat) (x : List UInt8) (hx : x.length = 64) (w : World) : (Op.equalIn (d + 3) 27 (.agg (bvs x).toArray) (.agg (bvs x).toArray)).run Tryd.prog w = .ok true w := by
  obtain ⟨i0, hi0, hs⟩ : ∃ i, Tryd.prog.info? 23 = some i ∧ i.size = 32 := by
    have h := size_hash'
    cases hq : Tryd.prog.info? 23 with
    | none => rw [hq] at h; cases h
    | some i => rw [hq] at h; exact ⟨i, rfl, Option.some.inj h⟩
  rw [run_equalIn_array w (d + 2) _ _ Tryd.underlying27 hi0]
  refine run_eqItems_refl w _ _ _ _ _ fun k hk => ?_
  have hk2 : k < 2 := List.mem_range.1 hk
  refine ⟨_, run_part_agg w 23 5 32 Tryd.underlying23 hi0 _ _, ?_⟩
  rw [hs, bvs_extract]
  refine hash_same d _ ?_ w
  rw [show Tryd.prog.cellsOf 23 = 32 by kernel_rfl, List.length_take, List.length_drop, hx]
  omega
theorem sig_same (d : Nat) (x : List UInt8) (hx : x.length = 4096) (w : World) : (Op.equalIn (d + 4) 29 (.agg (bvs x).toArray) (.agg (bvs x).toArray)).run Tryd.prog w = .ok true w := by
  obtain ⟨i0, hi0, hs⟩ : ∃ i, Tryd.prog.info? 27 = some i ∧ i.size = 64 := by
    have h := size_pair
    cases hq : Tryd.prog.info? 27 with
    | none => rw [hq] at h; cases h
    | some i => rw [hq] at h; exact ⟨i, rfl, Option.some.inj h⟩
  rw [run_equalIn_array w (d + 3) _ _ Tryd.underlying29 hi0]
  refine run_eqItems_refl w _ _ _ _ _ fun k hk => ?_
  have hk2 : k < 64 := List.mem_range.1 hk
  refine ⟨_, run_part_agg w 27 23 2 Tryd.underlying27 hi0 _ _, ?_⟩
  rw [hs, bvs_extract]
  refine pair_same d _ ?_ w
  rw [show Tryd.prog.cellsOf 27 = 64 by kernel_rfl, List.length_take, List.length_drop, hx]
  omega
theorem eq_sig (x : List UInt8) (hx : x.length = 4096) (w : World) : (binOp .eql 29 (.agg (bvs x).toArray) (.agg (bvs x).toArray)).run Tryd.prog w = .ok (.bool true) w := by
  rw [run_eql_struct, sig_same 9996 x hx w]
  rfl
theorem ne_pair (x : List UInt8) (hx : x.length = 64) (w : World) : (binOp .neq 27 (.agg (bvs x).toArray) (.agg (bvs x).toArray)).run Tryd.prog w = .ok (.bool false) w := by
  rw [run_neq_struct, pair_same 9997 x hx w]
  rfl
end Go.Proofs.YtgbajlmcoghofaaDoor
