/-
  Hashes as values; parts of structs and arrays; two hashes held against one another.
-/
import Derived.Test.YtmhbfchhooggjaaEq
import Derived.Test.YtmhbfchhooggjaaRows
namespace Go.Proofs.Ytmhbfchhooggjaa
open Go.RowKit
set_option linter.unusedVariables false
set_option linter.unusedSimpArgs false

theorem bvs_inj : ∀ {a b : List UInt8}, bvs a = bvs b → a = b
  | [], [], _ => rfl
  | [], _ :: _, h => by simp [bvs] at h
  | _ :: _, [], h => by simp [bvs] at h
  | x :: a, y :: b, h => by
    simp only [bvs, List.map_cons, List.cons.injEq] at h
    obtain ⟨h1, h2⟩ := h
    unfold bv at h1
    injection h1 with _ h1
    rw [UInt8.toNat_inj.1 (show x.toNat = y.toNat by omega), bvs_inj h2]
section
variable {P : Program} (w : World)
theorem eqFields_two (d : Nat) (xs ys : Array Value) (fs : List Field) (t0 t1 : TypeId) (o0 o1 : Nat) (h : fs.map (fun f => (f.name == "_", f.type, f.offset)) = [(false, t0, o0), (false, t1, o1)]) (a0 b0 a1 b1 : Value) (r0 r1 : Bool)
    (pa0 : (Go.part t0 xs o0).run P w = .ok a0 w) (pb0 : (Go.part t0 ys o0).run P w = .ok b0 w) (pa1 : (Go.part t1 xs o1).run P w = .ok a1 w) (pb1 : (Go.part t1 ys o1).run P w = .ok b1 w)
    (e0 : (Op.equalIn d t0 a0 b0).run P w = .ok r0 w) (e1 : (Op.equalIn d t1 a1 b1).run P w = .ok r1 w) : (Op.eqFields d xs ys fs).run P w = .ok (r0 && r1) w := by
  obtain ⟨f0, l0, rfl, h0, h⟩ := List.map_eq_cons_iff.1 h
  obtain ⟨f1, l1, rfl, h1, h⟩ := List.map_eq_cons_iff.1 h
  have hl : l1 = [] := List.map_eq_nil_iff.1 h
  subst hl
  simp only [Prod.mk.injEq, beq_eq_false_iff_ne] at h0 h1
  obtain ⟨n0, rfl, rfl⟩ := h0
  obtain ⟨n1, rfl, rfl⟩ := h1
  cases r0 with
  | false => simp [Op.eqFields, n0, pa0, pb0, e0]
  | true => cases r1 <;> simp [Op.eqFields, n0, n1, pa0, pb0, e0, pa1, pb1, e1]
theorem equalIn_bytes_at17 (d : Nat) (t e : TypeId) (n : Nat) {i : TypeInfo} (ht : P.underlying t = some (.array n e)) (he : P.underlying e = some (.int .u8)) (hi : P.info? e = some i) (hk : P.plainKey e = true) (hc : P.cellsOf e = 1) (xs ys : List UInt8) (hx : xs.length = n) (hy : ys.length = n) :
    (Op.equalIn (d + 2) t (.agg (bvs xs).toArray) (.agg (bvs ys).toArray)).run P w = .ok (xs == ys) w := by
  rw [run_equalIn_array w (d + 1) _ _ ht hi, List.range_eq_range', run_eqItems_bytes w d he hk hc xs ys (by omega) n 0 (by omega)]
  simp
theorem part_agg17 (e : TypeId) {d : TypeDesc} {inf : TypeInfo} (he : P.underlying e = some d) (hd : (match d with | .struct _ | .array _ _ => true | _ => false) = true) (hi : P.info? e = some inf) (cs : Array Value) (o : Nat) : (Go.part e cs o).run P w = .ok (.agg (cs.extract o (o + inf.size))) w := by
  have hagg : (isAgg e).run P w = .ok true w := by
    unfold isAgg
    rw [Sem.run_bind, run_underlying he w]
    cases d <;> simp_all
  simp [Go.part, sizeOf, typeInfo, hi, hagg]
theorem part_cell17 (e : TypeId) {d : TypeDesc} (he : P.underlying e = some d) (hd : (match d with | .struct _ | .array _ _ => true | _ => false) = false) (cs : Array Value) (o : Nat) (v : Value) (hv : cs[o]? = some v) : (Go.part e cs o).run P w = .ok v w := by
  have hagg : (isAgg e).run P w = .ok false w := by
    unfold isAgg
    rw [Sem.run_bind, run_underlying he w]
    cases d <;> simp_all
  simp [Go.part, hagg, hv]
end
theorem info_h : (Try.prog.info? 36).map (·.size) = some 32 := by kernel_rfl
theorem info_u8k : (Try.prog.info? 5).map (·.size) = some 1 := by kernel_rfl
set_option maxRecDepth 100000 in
theorem run_eq_hash (d : Nat) (a b : List UInt8) (ha : a.length = 32) (hb : b.length = 32) (w : World) : (Op.equalIn (d + 2) 36 (.agg (bvs a).toArray) (.agg (bvs b).toArray)).run Try.prog w = .ok (decide (a = b)) w := by
  obtain ⟨iu, hiu, hsu⟩ := Option.map_eq_some_iff.1 info_u8k
  rw [equalIn_bytes_at17 w d 36 5 32 Try.underlying36 Try.underlying5 hiu (by kernel_rfl) (by kernel_rfl) a b ha hb]
  congr 1
  rw [Bool.eq_iff_iff]
  simp
theorem run_eql_hash (a b : List UInt8) (ha : a.length = 32) (hb : b.length = 32) (w : World) : (binOp .eql 36 (.agg (bvs a).toArray) (.agg (bvs b).toArray)).run Try.prog w = .ok (.bool (decide (a = b))) w := by
  rw [run_eql_struct, run_eq_hash 9998 a b ha hb w]; rfl
theorem run_neq_hash (a b : List UInt8) (ha : a.length = 32) (hb : b.length = 32) (w : World) : (binOp .neq 36 (.agg (bvs a).toArray) (.agg (bvs b).toArray)).run Try.prog w = .ok (.bool (!decide (a = b))) w := by
  rw [run_neq_struct, run_eq_hash 9998 a b ha hb w]; rfl
end Go.Proofs.Ytmhbfchhooggjaa
