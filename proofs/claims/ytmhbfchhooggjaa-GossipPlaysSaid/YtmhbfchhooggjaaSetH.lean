/-
  A map of hashes to nothing.
-/
import Derived.Test.YtmhbfchhooggjaaSetM
import Derived.Test.YtmhbfchhooggjaaHashK
namespace Go.Proofs.Ytmhbfchhooggjaa
open Go.RowKit Go.BigFrame
set_option linter.unusedVariables false
set_option linter.unusedSimpArgs false

theorem run_check_u8h (em : Bool) (d : Nat) (v : Value) (w : World) : (Instr.checkKey em (d + 1) 5 v).run Try.prog w = .ok () w := by
  simp only [Instr.checkKey, Sem.run_bind, run_underlying Try.underlying5, Result.andThen_ok]
  cases v <;> rfl
set_option maxRecDepth 100000 in
theorem run_check_hashh (em : Bool) (d : Nat) (xs : List UInt8) (hx : xs.length = 32) (w : World) : (Instr.checkKey em (d + 2) 36 (.agg (bvs xs).toArray)).run Try.prog w = .ok () w := by
  obtain ⟨iu, hiu, hsu⟩ := Option.map_eq_some_iff.1 info_u8k
  have hsz : (Go.sizeOf 5).run Try.prog w = .ok 1 w := Try.sizeOf5 w
  simp only [Instr.checkKey, Sem.run_bind, run_underlying Try.underlying36, Result.andThen_ok]
  simp only [Std.Legacy.Range.forIn_eq_forIn_range', Std.Legacy.Range.size, Nat.sub_zero, Nat.add_one_sub_one, Nat.div_one]
  have each : ∀ i ∈ List.range' 0 32, i < 32 := fun i hi => by simpa using hi
  generalize List.range' 0 32 = is at each
  induction is with
  | nil => simp
  | cons i is ih =>
    have hi : i < 32 := each i (by simp)
    have hp : (part 5 (bvs xs).toArray (i * 1)).run Try.prog w = .ok (.int .u8 (xs[i].toNat : Int)) w := part_cell17 w 5 Try.underlying5 rfl _ _ _ (by rw [Nat.mul_one, List.getElem?_toArray]; exact bvs_at xs (by omega))
    simp only [List.forIn_cons, Sem.run_bind, hsz, Result.andThen_ok, hp, run_check_u8h, Sem.run_pure]
    exact ih (fun y hy => each y (by simp [hy]))
theorem bvs_ints (a : List UInt8) : ∀ u ∈ bvs a, ∃ (q : IntKind) (x : Int), u = .int q x := fun u hu => by
  obtain ⟨c, _, rfl⟩ := List.mem_map.1 hu
  exact ⟨_, _, rfl⟩
theorem hashes_T : KeyT bvs (fun h => h.length = 32) 36 56 63 where
  inj := fun a b h => bvs_inj h
  ints := bvs_ints
  eq := fun a b V ha hb => run_eq_hash 9998 a b ha hb V
  check := fun em a V ha => run_check_hashh em 9998 a ha V
  wide := by kernel_rfl
  und := by kernel_rfl
  zero := fun V => by kernel_rfl
theorem zero_S (V : World) : (zeroValue 63).run Try.prog V = .ok (.agg #[]) V := by kernel_rfl
theorem build_S (V : World) : (Instr.build 63 #[]).run Try.prog V = .ok (.agg #[]) V := by kernel_rfl
theorem info_S : (Try.prog.info? 63).map (·.size) = some 0 := by kernel_rfl
end Go.Proofs.Ytmhbfchhooggjaa
