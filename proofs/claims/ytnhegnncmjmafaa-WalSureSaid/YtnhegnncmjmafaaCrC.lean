/-
  The sum of rows of bytes (crc.Of), half a byte at once out of an array that is made first (crc.halfMore, crc.bitMore).
-/
import Derived.Test.YtnhegnncmjmafaaCrA
import Derived.Test.YtnhegnncmjmafaaEq
import Derived.Test.YtnhegnncmjmafaaRows
import Derived.Test.YtnhegnncmjmafaaCrM
import Derived.Test.YtnhegnncmjmafaaRowB
import Derived.Test.YtnhegnncmjmafaaRowsG
namespace Go.Proofs.Ytnhegnncmjmafaa
open Go.RowKit Go.BigFrame
set_option linter.unusedVariables false

/-- What four bits come to, as far as so many are made. -/
def fours (n : Nat) : List Value := (List.range 16).map fun j => if j < n then cv (Cr.bbs 4 (BitVec.ofNat 32 j)) else cv 0#32
theorem fours_length (n : Nat) : (fours n).length = 16 := by simp [fours]
theorem fours_zero : fours 0 = List.replicate 16 (.int .u32 0) := by unfold fours; simp only [Nat.not_lt_zero, if_false]; rfl
theorem fours_get (n j : Nat) (h : j < 16) : (fours n)[j]? = some (if j < n then cv (Cr.bbs 4 (BitVec.ofNat 32 j)) else cv 0#32) := by
  unfold fours; rw [List.getElem?_map, List.getElem?_range h]; rfl
theorem fours_succ (n : Nat) (h : n < 16) : (fours n).set n (cv (Cr.bbs 4 (BitVec.ofNat 32 n))) = fours (n + 1) := by
  apply List.ext_getElem?
  intro j
  rw [List.getElem?_set]
  by_cases hj : j < 16
  · rw [fours_get _ _ hj, fours_get _ _ hj, fours_length]
    by_cases e : n = j
    · subst e; rw [if_pos rfl, if_pos h, if_pos (by omega)]
    · rw [if_neg e]
      by_cases h1 : j < n
      · rw [if_pos h1, if_pos (by omega)]
      · rw [if_neg h1, if_neg (by omega)]
  · rw [List.getElem?_eq_none (by rw [fours_length]; omega), List.getElem?_eq_none (by rw [fours_length]; omega), fours_length]
    by_cases e : n = j
    · omega
    · rw [if_neg e]
theorem fours_one (n : Nat) : ∀ u ∈ fours n, u.oneCell' = true := by
  intro u hu
  obtain ⟨j, _, rfl⟩ := List.mem_map.1 hu
  by_cases h : j < n
  · simp only [h, if_true]; rfl
  · simp only [h, if_false]; rfl
theorem low15 (x : BitVec 32) : ∃ j : Nat, j < 16 ∧ ci (x &&& 15#32) = j ∧ x &&& 15#32 = BitVec.ofNat 32 j := by
  refine ⟨(x &&& 15#32).toNat, ?_, rfl, by simp⟩
  rw [BitVec.toNat_and]
  exact Nat.lt_of_le_of_lt Nat.and_le_right (by decide)
/-- Half a byte more, as the program spells it. -/
theorem four_step (x : BitVec 32) (j : Nat) (hj : x &&& 15#32 = BitVec.ofNat 32 j) : bits .xor .u32 (ci x / 16) (ci (Cr.bbs 4 (BitVec.ofNat 32 j))) = ci (Cr.bbs 4 x) := by
  rw [ci_four, ci_xor, ← hj, ← Cr.bbs_four]
theorem ci_and1 (x : BitVec 32) : bits .and .u32 (ci x) 1 = ci x % (2 : Int) := by
  rw [show (1 : Int) = ci 1#32 from rfl, ci_and]
  unfold ci
  rw [BitVec.toNat_and, show (1#32 : BitVec 32).toNat = 1 from rfl, Nat.and_one_is_mod]
  simp
theorem ca_one {x : BitVec 32} (h : (bits .and .u32 (ci x) 1 == 1) = true) : bits .xor .u32 (ci x / 2) 3988292384 = ci (Cr.bb x) := ci_one (by rw [← ci_and1]; exact eq_of_beq h)
theorem ca_none {x : BitVec 32} (h : (bits .and .u32 (ci x) 1 == 1) = false) : ci x / 2 = ci (Cr.bb x) := ci_none (by rw [← ci_and1]; exact ne_of_beq_false h)
theorem run_rows (x : BitVec 32) (rs : List RowOf) (i : Nat) (r : RowOf) (h : rs[i]? = some r) : Cr.run x (bytesOf (rs.take (i + 1))) = Cr.run (Cr.run x (bytesOf (rs.take i))) r.2.2 := by
  rw [bytesOf_take rs i r h, Cr.run_append]

theorem unop_not (x : BitVec 32) (W : World) : (Op.unary .xor (.int .u32 (ci x))).run Try.prog W = .ok (.int .u32 (ci (~~~ x))) W := by
  have h : bits .xor .u32 (if IntKind.u32.signed = true then -1 else IntKind.u32.max) (ci x) = ci (~~~ x) := by
    rw [show (if IntKind.u32.signed = true then -1 else IntKind.u32.max) = ci 4294967295#32 by decide +kernel, ci_xor]
    exact congrArg ci (show BitVec.allOnes 32 ^^^ x = _ from BitVec.allOnes_xor)
  rw [← h]
  rfl
/-- All bits of a number are turned, by its run. -/
theorem wpList_unop_run {P : Program} {ops : Array Oper} {rest : List Oper} {o : Oper} {a : Act} {w : World} {Q : Exit → Act → World → Prop} (hgd : o.guard = none) (u : UnOp) (t : TypeId) (x : Operand) (ho : o.op = .unOp u t x)
    (vx v : Value) (hx : a.eval x = vx) (hrun : (Op.unary u vx).run P w = .ok v w) (h : wpList P ops Q rest (a.put o.dst v) w) : wpList P ops Q (o :: rest) a w := by
  refine wpList_plain hgd fun _ hK => ?_
  unfold Oper.wp execOp
  simp only [ho, Sem.run_bind, Sem.run_pure, Result.andThen_ok, hx, hrun]
  exact hK _ _ h
theorem low16 (x : BitVec 32) : ∃ j : Nat, j < 16 ∧ ci x % (16 : Int) = (j : Int) ∧ (ci x).tmod (16 : Int) = (j : Int) ∧ x &&& 15#32 = BitVec.ofNat 32 j := by
  have e : x.toNat % 16 = x.toNat &&& 15 := (Nat.and_two_pow_sub_one_eq_mod x.toNat 4).symm
  refine ⟨x.toNat % 16, by omega, by unfold ci; omega, by rw [Int.tmod_eq_emod_of_nonneg (ci_nonneg x)]; unfold ci; omega, ?_⟩
  apply BitVec.eq_of_toNat_eq
  rw [BitVec.toNat_and]
  show x.toNat &&& 15 = (x.toNat % 16) % 2 ^ 32
  rw [Nat.mod_eq_of_lt (by omega : x.toNat % 16 < 2 ^ 32), e]
theorem bitMore_any (x : BitVec 32) (w : World) :
    Calls Try.prog 71 #[.int .u32 (ci x)] w fun e w' => e = .returned (.int .u32 (ci (Cr.bb x))) ∧ w' = w := by
  cases h1 : (bits .and .u32 (ci x) 1 == 1) with
  | true =>
    have HO := Lib.hid (ca_one h1)
    go_enter Try.func71, Try.ntmps71
    go_wp2_with fail
    go_ret
    exact ⟨by rw [← HO.out]; rfl, rfl⟩
  | false =>
    have HO := Lib.hid (ca_none h1)
    go_enter Try.func71, Try.ntmps71
    go_wp2_with fail
    go_ret
    exact ⟨by rw [← HO.out]; rfl, rfl⟩
theorem fours_all (n : Nat) : (fours n).toArray.all (·.oneCell') = true := by
  rw [Array.all_eq_true_iff_forall_mem]
  intro v hv
  exact fours_one n v (by simpa using hv)
theorem zero_fours (w : World) : (zeroValue 107).run Try.prog w = .ok (.agg (fours 0).toArray) w := by rw [fours_zero]; kernel_rfl
theorem size_fours : (Try.prog.info? 107).map (·.size) = some 16 := by kernel_rfl
set_option maxRecDepth 100000 in
set_option maxHeartbeats 2000000 in
theorem halfMore_any (w : World) :
    Calls Try.prog 69 #[] w fun e w' => e = .returned (.agg (fours 16).toArray) ∧ Keeps (fun _ => False) w w' := by
  obtain ⟨Y, hY⟩ : ∃ Y : Array Value, (fours 0).toArray = Y := ⟨_, rfl⟩
  have hy : ∀ w : World, (zeroValue 107).run Try.prog w = .ok (.agg Y) w := fun w => by rw [← hY]; exact zero_fours w
  obtain ⟨W1, hW1⟩ : ∃ W, w.alloc (.cells Y 107) = W := ⟨_, rfl⟩
  obtain ⟨B, hB⟩ : ∃ b, W1.heap.size = b := ⟨_, rfl⟩
  obtain ⟨W2, hW2⟩ : ∃ W, W1.alloc (.cells Y 107) = W := ⟨_, rfl⟩
  have k1 : Keeps (fun _ => False) w W1 := by rw [← hW1]; exact (Keeps.refl _ _).alloc _
  have k2 : Keeps (fun _ => False) W1 W2 := by rw [← hW2]; exact (Keeps.refl _ _).alloc _
  have r1 : Row W1 w.heap.size 107 (fours 0) := by rw [← hW1, ← hY]; exact heap_alloc_new w _
  have r2 : Row W2 B 107 (fours 0) := by rw [← hW2, ← hB, ← hY]; exact heap_alloc_new W1 _
  have ra : Row W2 w.heap.size 107 (fours 0) := r1.keeps k2 id
  have kl : w.heap.size < B := by rw [← hB, ← hW1]; simp
  have RA := Lib.hid ra
  have RB := Lib.hid r2
  have KK := Lib.hid (k1.trans k2)
  clear r1 r2 ra k1 k2 hY
  go_enter Try.func69, Try.ntmps69
  go_wp2_with fail
  go_loopw [4] (fun iv wr => ∃ i : Nat, i ≤ 16 ∧ iv = .int .u32 (i : Int) ∧ Hid (Row wr w.heap.size 107 (fours 0)) ∧ Hid (Row wr B 107 (fours i)) ∧ Keeps (fun _ => False) w wr) (fun iv _ => 16 - (intOf iv).toNat)
  case atStart => exact ⟨0, by omega, rfl, RA, RB, KK.out⟩
  case round =>
    clear RA RB KK
    obtain ⟨i, hi, rfl, HA, HB, hkp⟩ := hrel
    obtain ⟨w1, rfl⟩ : ∃ V, V = wr := ⟨wr, rfl⟩
    by_cases hlt : i < 16
    · have hii : (i : Int) < 16 := by omega
      have hin : (i : Int) = ci (BitVec.ofNat 32 i) := by
        unfold ci; rw [BitVec.toNat_ofNat, Nat.mod_eq_of_lt (by omega : i < 2 ^ 32)]
      have HIN := Lib.hid hin
      clear hin
      go_wp2_with fail
      go_loopw [3, 8] (fun x kk ww => ∃ k : Nat, k ≤ 4 ∧ kk = .int .i64 (k : Int) ∧ x = .int .u32 (ci (Cr.bbs k (BitVec.ofNat 32 i))) ∧ ww = w1) (fun _ kk _ => 4 - (intOf kk).toNat)
      case atStart => exact ⟨0, by omega, rfl, congrArg (Value.int .u32) HIN.out, rfl⟩
      case round =>
        obtain ⟨k, hk, rfl, rfl, hw⟩ := hrel
        obtain rfl : w1 = wr := hw.symm
        by_cases hlk : k < 4
        · have hki : (k : Int) < 4 := by omega
          have hs := bbs_succ' k (BitVec.ofNat 32 i)
          obtain ⟨y, hy2⟩ : ∃ y, Cr.bbs k (BitVec.ofNat 32 i) = y := ⟨_, rfl⟩
          rw [hy2] at hs
          rw [hy2]
          have HS := Lib.hid hs
          clear hs hy2
          go_wp2_with fail
          refine (bitMore_any y w1).mono ?_
          rintro e w2 ⟨rfl, rfl⟩
          go_wp2_with fail
          go_roundw
          case rel => exact ⟨k + 1, by omega, by go_num, by rw [HS.out], by first | rfl | trivial⟩
          case measure => simp [intOf]; omega
        · have hk4 : k = 4 := by omega
          subst hk4
          obtain ⟨y, hy2⟩ : ∃ y, Cr.bbs 4 (BitVec.ofNat 32 i) = y := ⟨_, rfl⟩
          have hst := (HB.out : Row _ _ _ _).set i (cv (Cr.bbs 4 (BitVec.ofNat 32 i)))
          rw [fours_succ i hlt] at hst
          rw [hy2] at hst
          rw [hy2]
          have hcell : w1.cell? ⟨B, i, none⟩ = some (.int .u32 0) := by
            rw [(HB.out : Row _ _ _ _).cell, fours_get _ _ hlt, if_neg (by omega)]; rfl
          have hfr := (HB.out : Row _ _ _ _).frozen i
          have HST := Lib.hid hst
          clear hst hy2
          go_wp2
          go_roundw
          case rel =>
            refine ⟨i + 1, by omega, by go_num, Lib.hid (HA.out.set_other (by show w.heap.size ≠ B; omega) _), ?_, hkp.setCell (fun h => absurd h (by show ¬ B < w.heap.size; omega)) _⟩
            exact HST
          case measure => simp [intOf]; omega
    · obtain rfl : i = 16 := by omega
      obtain ⟨R2, hR2⟩ : ∃ R, (fours 16).toArray = R := ⟨_, rfl⟩
      have S1 : Hid ((Try.prog.info? 107).map (·.size) = some R2.size) := Lib.hid (by rw [← hR2, List.size_toArray, fours_length]; exact size_fours)
      have S2 : Hid ((fours 0).toArray.size = R2.size) := Lib.hid (by rw [← hR2, List.size_toArray, List.size_toArray, fours_length, fours_length])
      have S3 : Hid (R2.all (·.oneCell') = true) := Lib.hid (by rw [← hR2]; exact fours_all _)
      have H2 : Hid (w1.heap[B]? = some (.cells R2 107 (0, 0))) := Lib.hid (by rw [← hR2]; exact HB.out)
      have H1 : Hid (w1.heap[w.heap.size]? = some (.cells (fours 0).toArray 107 (0, 0))) := Lib.hid HA.out
      have HR2 := Lib.hid hR2
      clear HA HB hR2
      go_wp2_with (first
        | (refine wpList_load_row rfl 107 _ rfl B rfl 107 R2 (0, 0) _ H2.out Try.underlying107 rfl S1.out ?_)
        | (refine wpList_store_row rfl 107 _ _ rfl w.heap.size R2 rfl rfl 107 (fours 0).toArray H1.out S1.out S2.out S3.out ?_))
      refine bodyPost_ret (results_cell_row rfl _ _ w.heap.size 107 R2 (0, 0) _ rfl (setRow_heap _ _ _ _ _ _ H1.out) Try.underlying107 rfl S1.out) rfl ?_
      exact ⟨by rw [HR2.out], hkp.trans' (Keeps.setRow w.heap.size R2) (fun i hi h => by omega)⟩
set_option maxRecDepth 100000 in
set_option maxHeartbeats 2000000 in
theorem crc_any (A : Option Addr) (c : Nat) (rs : List RowOf) (w : World) (hR : RowsAt w A rs) (hn : rs.length ≤ 9223372036854775807) (hl : ∀ r ∈ rs, r.2.2.length ≤ 9223372036854775807) :
    Calls Try.prog 55 #[.slice A rs.length c] w fun e w' => e = .returned (cv (Cr.sum (bytesOf rs))) ∧ Keeps (fun _ => False) w w' := by
  obtain ⟨Y, hY⟩ : ∃ Y : Array Value, (fours 0).toArray = Y := ⟨_, rfl⟩
  have hy : ∀ w : World, (zeroValue 107).run Try.prog w = .ok (.agg Y) w := fun w => by rw [← hY]; exact zero_fours w
  have HRL := Lib.hid hl
  have HR0 := Lib.hid hR
  obtain ⟨R2, hR2⟩ : ∃ R, (fours 16).toArray = R := ⟨_, rfl⟩
  have hhm := halfMore_any w
  rw [hR2] at hhm
  have HHM := Lib.hid hhm
  have S1 : Hid ((Try.prog.info? 107).map (·.size) = some R2.size) := Lib.hid (by rw [← hR2, List.size_toArray, fours_length]; exact size_fours)
  have S2 : Hid (Y.size = R2.size) := Lib.hid (by rw [← hR2, ← hY, List.size_toArray, List.size_toArray, fours_length, fours_length])
  have S3 : Hid (R2.all (·.oneCell') = true) := Lib.hid (by rw [← hR2]; exact fours_all _)
  have HR2 := Lib.hid hR2
  clear hR hl hhm hR2 hY
  go_enter Try.func55, Try.ntmps55
  go_wp2_with fail
  refine HHM.out.mono ?_
  rintro e w3 ⟨rfl, k3⟩
  clear HHM
  obtain ⟨B, hB⟩ : ∃ b, w3.heap.size = b := ⟨_, rfl⟩
  obtain ⟨W4, hW4⟩ : ∃ W, w3.alloc (.cells Y 107) = W := ⟨_, rfl⟩
  obtain ⟨w1, hw1⟩ : ∃ W, W4.setRow B R2 = W := ⟨_, rfl⟩
  have r4 : W4.heap[B]? = some (.cells Y 107 (0, 0)) := by rw [← hW4, ← hB]; exact heap_alloc_new w3 _
  have r1 : Row w1 B 107 (fours 16) := by rw [← hw1]; have := setRow_heap W4 B Y R2 _ _ r4; rw [← HR2.out] at this; rw [← HR2.out]; exact this
  have k34 : Keeps (fun _ => False) w3 W4 := by rw [← hW4]; exact (Keeps.refl _ _).alloc _
  have k41 : Keeps (fun k => k = B) W4 w1 := by rw [← hw1]; exact Keeps.setRow _ _
  have kw : Keeps (fun _ => False) w w1 := k3.trans (k34.trans' k41 (fun i hi h => by omega))
  have HB := Lib.hid r1
  have R4 := Lib.hid r4
  have HR1 : Hid (RowsAt w1 A rs) := Lib.hid (HR0.out.keeps kw (fun _ _ => id))
  have HKE := Lib.hid kw
  clear r1 r4 k34 k41 kw k3 HR0 HR2
  go_wp2_with (refine wpList_store_row rfl 107 _ _ rfl B R2 rfl rfl 107 Y R4.out S1.out S2.out S3.out ?_; rw [hw1])
  clear R4 S1 S2 S3 hw1 hW4 hy
  go_loopw [4, 6, 8, 12] (fun x _ _ iv ww => ∃ i : Nat, i ≤ rs.length ∧ iv = .int .i64 i ∧ x = .int .u32 (ci (Cr.run 4294967295#32 (bytesOf (rs.take i)))) ∧ ww = w1) (fun _ _ _ iv _ => rs.length - (intOf iv).toNat)
  case atStart => exact ⟨0, by omega, rfl, rfl, rfl⟩
  case round =>
    obtain ⟨i, hi, rfl, rfl, hw⟩ := hrel
    obtain rfl : w1 = wr := hw.symm
    by_cases hlt : i < rs.length
    · have hii : (i : Int) < rs.length := by omega
      obtain ⟨r, hr⟩ : ∃ r, rs[i]? = some r := ⟨_, List.getElem?_eq_getElem hlt⟩
      obtain ⟨ad, ha, hc⟩ := HR1.out.cell i r hr
      subst ha
      have hmem : r ∈ rs := List.mem_of_getElem? hr
      have hsrc := HR1.out.src r hmem
      have hrl := HRL.out r hmem
      have hrun := run_rows 4294967295#32 rs i r hr
      obtain ⟨x0, hx0⟩ : ∃ x, Cr.run 4294967295#32 (bytesOf (rs.take i)) = x := ⟨_, rfl⟩
      rw [hx0] at hrun
      rw [hx0]
      obtain ⟨A1, c1, xs⟩ := r
      simp only at hc hsrc hrl hrun
      have HSR := Lib.hid hsrc
      have HRUN := Lib.hid hrun
      clear hr hmem hsrc hrun hx0
      go_wp2_with fail
      go_loopw [4, 8, 18] (fun x _ jv ww => ∃ j : Nat, j ≤ xs.length ∧ jv = .int .i64 j ∧ x = .int .u32 (ci (Cr.run x0 (xs.take j))) ∧ ww = w1) (fun _ _ jv _ => xs.length - (intOf jv).toNat)
      case atStart => exact ⟨0, by omega, rfl, rfl, rfl⟩
      case round =>
        obtain ⟨j, hj, rfl, rfl, hw⟩ := hrel
        obtain rfl : w1 = wr := hw.symm
        by_cases hlj : j < xs.length
        · have hji : (j : Int) < xs.length := by omega
          obtain ⟨cb, hcb⟩ : ∃ c, xs[j]? = some c := ⟨_, List.getElem?_eq_getElem hlj⟩
          obtain ⟨a1, ha1, hc1⟩ := HSR.out j (bv cb) (by rw [bvs_get, hcb]; rfl)
          subst ha1
          have hc2 : w1.cell? (a1.add j) = some (.int .u8 (cb.toNat : Int)) := hc1
          have ht := run_take x0 xs j cb hcb
          obtain ⟨x, hx⟩ : ∃ x, Cr.run x0 (xs.take j) = x := ⟨_, rfl⟩
          rw [hx] at ht
          rw [hx]
          obtain ⟨y1, hy1⟩ : ∃ y, x ^^^ BitVec.ofNat 32 cb.toNat = y := ⟨_, rfl⟩
          have e1 : bits .xor .u32 (ci x) ((cb.toNat : Int) % 4294967296) = ci y1 := by rw [ci_byte', ci_xor, hy1]
          obtain ⟨j1, hj1, ea1, ta1, eb1⟩ := low16 y1
          have e2 := four_step y1 j1 eb1
          obtain ⟨y2, hy2⟩ : ∃ y, Cr.bbs 4 y1 = y := ⟨_, rfl⟩
          rw [hy2] at e2
          obtain ⟨j2, hj2, ea2, ta2, eb2⟩ := low16 y2
          have e3 := four_step y2 j2 eb2
          have e4 : Cr.bbs 4 y2 = Cr.run x0 (xs.take (j + 1)) := by
            rw [ht]; unfold Cr.by1; rw [hy1, ← hy2, ← Cr.bbs_add]
          rw [e4] at e3
          have l1 : w1.cell? ⟨B, j1, none⟩ = some (.int .u32 (ci (Cr.bbs 4 (BitVec.ofNat 32 j1)))) := by rw [(HB.out : Row _ _ _ _).cell, fours_get _ _ hj1, if_pos hj1]; rfl
          have l2 : w1.cell? ⟨B, j2, none⟩ = some (.int .u32 (ci (Cr.bbs 4 (BitVec.ofNat 32 j2)))) := by rw [(HB.out : Row _ _ _ _).cell, fours_get _ _ hj2, if_pos hj2]; rfl
          obtain ⟨q1, hq1⟩ : ∃ q, ci (Cr.bbs 4 (BitVec.ofNat 32 j1)) = q := ⟨_, rfl⟩
          obtain ⟨q2, hq2⟩ : ∃ q, ci (Cr.bbs 4 (BitVec.ofNat 32 j2)) = q := ⟨_, rfl⟩
          rw [hq1] at e2 l1
          rw [hq2] at e3 l2
          clear hcb hc1 ht hx hy1 hy2 eb1 eb2 e4 hq1 hq2
          have E1 := Lib.hid e1
          go_wp2_with fail
          go_roundw
          case rel => exact ⟨j + 1, by omega, by go_num, by rw [← e3], by first | rfl | trivial⟩
          case measure => simp [intOf]; omega
        · have hj' : j = xs.length := by omega
          have hji : ¬ (j : Int) < (xs.length : Int) := by omega
          have fin : Cr.run x0 (xs.take j) = Cr.run 4294967295#32 (bytesOf (rs.take (i + 1))) := by rw [hj', List.take_length]; exact HRUN.out.symm
          rw [fin]
          clear fin hj'
          go_wp2_with fail
          go_roundw
          case rel => exact ⟨i + 1, by omega, by go_num, rfl, by first | rfl | trivial⟩
          case measure => simp [intOf]; omega
    · have hi' : i = rs.length := by omega
      have hii : ¬ (i : Int) < (rs.length : Int) := by omega
      have fin : ~~~ Cr.run 4294967295#32 (bytesOf (rs.take i)) = Cr.sum (bytesOf rs) := by
        rw [hi', List.take_length]; rfl
      have FIN := Lib.hid fin
      clear fin hi'
      obtain ⟨x, hx0⟩ : ∃ x, Cr.run 4294967295#32 (bytesOf (rs.take i)) = x := ⟨_, rfl⟩
      rw [hx0] at FIN
      rw [hx0]
      clear hx0
      have HN := Lib.hid (fun W => unop_not x W)
      go_wp2_with (refine wpList_unop_run rfl .xor 90 (.tmp 42) rfl (.int .u32 (ci x)) (.int .u32 (ci (~~~ x))) rfl (HN.out _) ?_)
      go_ret
      exact ⟨by rw [FIN.out]; rfl, HKE.out⟩
end Go.Proofs.Ytnhegnncmjmafaa
