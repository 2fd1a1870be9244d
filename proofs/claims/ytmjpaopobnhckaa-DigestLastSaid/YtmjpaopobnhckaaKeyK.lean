/-
  Keys as values; two of them held against one another.
-/
import Derived.Test.YtmjpaopobnhckaaFtM
import Derived.Test.YtmjpaopobnhckaaEq
import Derived.Test.YtmjpaopobnhckaaRows
namespace Go.Proofs.Ytmjpaopobnhckaa
open Go.RowKit
set_option linter.unusedVariables false
set_option linter.unusedSimpArgs false

/-- A key's cells; a want's. -/
def kcs (k : Ft.Key) : List Value := .int .u64 (k.1 : Int) :: bvs k.2
theorem kcs_length {k : Ft.Key} (h : k.2.length = 32) : (kcs k).length = 33 := by simp [kcs, bvs_length, h]
theorem kcs_one (k : Ft.Key) : ∀ u ∈ kcs k, u.oneCell' = true := by
  intro u hu
  rcases List.mem_cons.1 hu with rfl | h
  · rfl
  · exact bvs_one _ u h
theorem bvs_inj : ∀ {a b : List UInt8}, bvs a = bvs b → a = b
  | [], [], _ => rfl
  | [], _ :: _, h => by simp [bvs] at h
  | _ :: _, [], h => by simp [bvs] at h
  | x :: a, y :: b, h => by
    simp only [bvs, List.map_cons, List.cons.injEq] at h
    obtain ⟨h1, h2⟩ := h
    unfold bv at h1
    injection h1 with _ h1
    rw [UInt8.toNat_inj.1 (show x.toNat = y.toNat by omega), bvs_inj h2]
theorem kcs_inj {a b : Ft.Key} (h : kcs a = kcs b) : a = b := by
  unfold kcs at h
  injection h with h1 h2
  injection h1 with _ h1
  exact Prod.ext (by omega) (bvs_inj h2)
section
variable {P : Program} (w : World)
theorem eqFields_two (d : Nat) (xs ys : Array Value) (fs : List Field) (t0 t1 : TypeId) (o0 o1 : Nat) (h : fs.map (fun f => (f.name == "_", f.type, f.offset)) = [(false, t0, o0), (false, t1, o1)]) (a0 b0 a1 b1 : Value) (r0 r1 : Bool)
    (pa0 : (Go.part t0 xs o0).run P w = .ok a0 w) (pb0 : (Go.part t0 ys o0).run P w = .ok b0 w) (pa1 : (Go.part t1 xs o1).run P w = .ok a1 w) (pb1 : (Go.part t1 ys o1).run P w = .ok b1 w)
    (e0 : (Op.equalIn d t0 a0 b0).run P w = .ok r0 w) (e1 : (Op.equalIn d t1 a1 b1).run P w = .ok r1 w) : (Op.eqFields d xs ys fs).run P w = .ok (r0 && r1) w := by
  obtain ⟨f0, l0, rfl, h0, h⟩ := List.map_eq_cons_iff.1 h
  obtain ⟨f1, l1, rfl, h1, h⟩ := List.map_eq_cons_iff.1 h
  have hl : l1 = [] := List.map_eq_nil_iff.1 h
  subst hl
  simp only [Prod.mk.injEq, beq_eq_false_iff_ne] at h0 h1
  obtain ⟨n0, rfl, rfl⟩ := h0
  obtain ⟨n1, rfl, rfl⟩ := h1
  cases r0 with
  | false => simp [Op.eqFields, n0, pa0, pb0, e0]
  | true => cases r1 <;> simp [Op.eqFields, n0, n1, pa0, pb0, e0, pa1, pb1, e1]
theorem equalIn_bytes_at17 (d : Nat) (t e : TypeId) (n : Nat) {i : TypeInfo} (ht : P.underlying t = some (.array n e)) (he : P.underlying e = some (.int .u8)) (hi : P.info? e = some i) (hk : P.plainKey e = true) (hc : P.cellsOf e = 1) (xs ys : List UInt8) (hx : xs.length = n) (hy : ys.length = n) :
    (Op.equalIn (d + 2) t (.agg (bvs xs).toArray) (.agg (bvs ys).toArray)).run P w = .ok (xs == ys) w := by
  rw [run_equalIn_array w (d + 1) _ _ ht hi, List.range_eq_range', run_eqItems_bytes w d he hk hc xs ys (by omega) n 0 (by omega)]
  simp
theorem part_agg17 (e : TypeId) {d : TypeDesc} {inf : TypeInfo} (he : P.underlying e = some d) (hd : (match d with | .struct _ | .array _ _ => true | _ => false) = true) (hi : P.info? e = some inf) (cs : Array Value) (o : Nat) : (Go.part e cs o).run P w = .ok (.agg (cs.extract o (o + inf.size))) w := by
  have hagg : (isAgg e).run P w = .ok true w := by
    unfold isAgg
    rw [Sem.run_bind, run_underlying he w]
    cases d <;> simp_all
  simp [Go.part, sizeOf, typeInfo, hi, hagg]
theorem part_cell17 (e : TypeId) {d : TypeDesc} (he : P.underlying e = some d) (hd : (match d with | .struct _ | .array _ _ => true | _ => false) = false) (cs : Array Value) (o : Nat) (v : Value) (hv : cs[o]? = some v) : (Go.part e cs o).run P w = .ok v w := by
  have hagg : (isAgg e).run P w = .ok false w := by
    unfold isAgg
    rw [Sem.run_bind, run_underlying he w]
    cases d <;> simp_all
  simp [Go.part, hagg, hv]
end
theorem fields_key : (Try.prog.fieldsOf 54).toList.map (fun f => (f.name == "_", f.type, f.offset)) = [(false, 50, 0), (false, 52, 1)] := by kernel_rfl
theorem info_h : (Try.prog.info? 52).map (·.size) = some 32 := by kernel_rfl
theorem info_k : (Try.prog.info? 54).map (·.size) = some 33 := by kernel_rfl
theorem info_u8k : (Try.prog.info? 5).map (·.size) = some 1 := by kernel_rfl
theorem key_root {k : Ft.Key} (h : k.2.length = 32) : (kcs k).toArray.extract 1 (1 + 32) = (bvs k.2).toArray := by
  apply Array.ext'
  simp [kcs]
  rw [List.take_of_length_le (by rw [bvs_length]; omega)]
theorem key_beq (a b : Ft.Key) : (((a.1 : Int) == (b.1 : Int)) && (a.2 == b.2)) = decide (a = b) := by
  obtain ⟨a1, a2⟩ := a
  obtain ⟨b1, b2⟩ := b
  rw [Bool.eq_iff_iff]
  simp only [Bool.and_eq_true, beq_iff_eq, decide_eq_true_eq, Prod.mk.injEq]
  exact ⟨fun h => ⟨Int.ofNat.inj h.1, h.2⟩, fun h => ⟨congrArg Int.ofNat h.1, h.2⟩⟩
/-- Two keys. -/
theorem run_eq_key (d : Nat) (a b : Ft.Key) (ha : Ft.Key.Ok a) (hb : Ft.Key.Ok b) (w : World) : (Op.equalIn (d + 3) 54 (.agg (kcs a).toArray) (.agg (kcs b).toArray)).run Try.prog w = .ok (decide (a = b)) w := by
  obtain ⟨ih, hih, hsh⟩ := Option.map_eq_some_iff.1 info_h
  obtain ⟨iu, hiu, hsu⟩ := Option.map_eq_some_iff.1 info_u8k
  have pa := part_agg17 (P := Try.prog) w 52 Try.underlying52 rfl hih (kcs a).toArray 1
  have pb := part_agg17 (P := Try.prog) w 52 Try.underlying52 rfl hih (kcs b).toArray 1
  rw [hsh, key_root ha.2] at pa
  rw [hsh, key_root hb.2] at pb
  rw [run_equalIn_struct w (d + 2) 54 _ _ (by kernel_rfl) (by kernel_rfl)]
  rw [eqFields_two w (d + 2) _ _ _ _ _ _ _ fields_key (.int .u64 (a.1 : Int)) (.int .u64 (b.1 : Int)) _ _ ((a.1 : Int) == (b.1 : Int)) (a.2 == b.2)
    (part_cell17 w 50 Try.underlying50 rfl _ 0 _ rfl) (part_cell17 w 50 Try.underlying50 rfl _ 0 _ rfl) pa pb
    (run_equalIn_int w (d + 1) 50 .u64 .u64 _ _ Try.underlying50)
    (equalIn_bytes_at17 w d 52 5 32 Try.underlying52 Try.underlying5 hiu (by kernel_rfl) (by kernel_rfl) a.2 b.2 ha.2 hb.2)]
  rw [key_beq]
theorem run_eql_key (a b : Ft.Key) (ha : Ft.Key.Ok a) (hb : Ft.Key.Ok b) (w : World) : (binOp .eql 54 (.agg (kcs a).toArray) (.agg (kcs b).toArray)).run Try.prog w = .ok (.bool (decide (a = b))) w := by
  rw [run_eql_struct, run_eq_key 9997 a b ha hb w]; rfl
theorem run_neq_key (a b : Ft.Key) (ha : Ft.Key.Ok a) (hb : Ft.Key.Ok b) (w : World) : (binOp .neq 54 (.agg (kcs a).toArray) (.agg (kcs b).toArray)).run Try.prog w = .ok (.bool (!decide (a = b))) w := by
  rw [run_neq_struct, run_eq_key 9997 a b ha hb w]; rfl
end Go.Proofs.Ytmjpaopobnhckaa
