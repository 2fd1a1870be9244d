/-
  What ends the bytes that are hashed (sha.mixer's finish).
-/
import Derived.Test.YtgbajlmcoghofaaDoorShaD
import Derived.Test.YtgbajlmcoghofaaDoorShaF
namespace Go.Proofs.YtgbajlmcoghofaaDoor
open Go.RowKit Go.BigFrame
set_option linter.unusedVariables false

def zeros (n : Nat) : Nat := (119 - n % 64) % 64
theorem zeros_lt (n : Nat) : zeros n < 64 := by unfold zeros; omega
theorem zeros_int (n : Nat) (h : n ≤ 100000000) : (IntKind.u64.wrap (55 - (n : Int))).tmod 64 = (zeros n : Int) := by
  rw [IntKind.wrap_u64, Int.tmod_eq_emod_of_nonneg (by omega)]
  unfold zeros
  omega
/-- The tail, as its array holds it. -/
def tailOf (n : Nat) : List UInt8 := Sh.padL n ++ List.replicate (63 - zeros n) 0
theorem padL_len (n : Nat) : (Sh.padL n).length = 1 + zeros n + 8 := by rw [Sh.padL_length]; unfold zeros; omega
theorem tailOf_length (n : Nat) : (tailOf n).length = 72 := by
  have := zeros_lt n
  unfold tailOf
  rw [List.length_append, padL_len, List.length_replicate]
  omega
theorem padL_eq (n : Nat) : Sh.padL n = (128 :: List.replicate (zeros n) 0) ++ (List.range 8).map fun i => UInt8.ofNat (8 * n / 256 ^ (7 - i)) := rfl
theorem tailOf_start (n : Nat) : front (tailOf n) 72 (1 + zeros n) = 128 :: List.replicate 71 0 := by
  have := zeros_lt n
  unfold front tailOf
  have h1 : (128 :: List.replicate (zeros n) (0 : UInt8)).length = 1 + zeros n := by simp; omega
  rw [padL_eq, List.append_assoc, List.take_append_of_le_length (by omega), List.take_of_length_le (by omega), List.cons_append, List.replicate_append_replicate]
  congr 2
  omega
theorem tailOf_at (n k : Nat) (h : k < 8) : (tailOf n)[1 + zeros n + k]? = some (UInt8.ofNat (8 * n / 256 ^ (7 - k))) := by
  have h1 : (128 :: List.replicate (zeros n) (0 : UInt8)).length = 1 + zeros n := by simp; omega
  unfold tailOf
  rw [List.getElem?_append_left (by rw [padL_len]; omega), padL_eq, List.getElem?_append_right (by omega), h1, Nat.add_sub_cancel_left, List.getElem?_map, List.getElem?_range h]
  rfl
theorem tailOf_front (n : Nat) : front (tailOf n) 72 (1 + zeros n + 8) = tailOf n := by
  have := zeros_lt n
  unfold front
  have h : tailOf n = Sh.padL n ++ List.replicate (72 - (1 + zeros n + 8)) 0 := by
    unfold tailOf
    congr 2
    omega
  rw [h, List.take_append_of_le_length (by rw [padL_len]; exact Nat.le_refl _), List.take_of_length_le (by rw [padL_len]; exact Nat.le_refl _)]
theorem len_byte (n k : Nat) (h : k < 8) : (8 * (n : Int)) / 2 ^ (8 * (7 - k)) % 256 = ((UInt8.ofNat (8 * n / 256 ^ (7 - k))).toNat : Int) := by
  have e : (2 : Nat) ^ (8 * (7 - k)) = 256 ^ (7 - k) := by rw [Nat.pow_mul]
  rw [UInt8.toNat_ofNat', ← e]
  simp
/-- 'x[:h]' of an array. -/
theorem run_slice_arr {P : Program} (W : World) (t e : TypeId) (n : Nat) {inf : TypeInfo} (ht : P.underlying t = some (.array n e)) (hi : P.info? e = some inf) (a : Addr) (k : IntKind) (h : Nat) (hh : h ≤ n) :
    (Instr.sliceAt t (.pointer (some a)) none (some (.int k (h : Int))) none).run P W = .ok (.slice (some a) h n) W := by
  have h1 : (h : Int) ≤ (n : Int) := by omega
  simp [Instr.sliceAt, Instr.sliceBounds, Instr.sliceBound, Instr.sureAddr, asIntOf, run_underlying ht, sizeOf, typeInfo, hi, hh, Addr.add]
structure Zeros72 (Z : List Value) : Prop where
  out : bvs (List.replicate 72 0) = Z

theorem info_u8' : (Tryd.prog.info? 5).map (fun i => (i.zero, i.size, i.bytes)) = some (some (.int .u8 0), 1, 1) := by kernel_rfl
set_option maxRecDepth 100000 in
set_option maxHeartbeats 2000000 in
theorem finish_any (b : Nat) (l : List UInt8) (w : World) (hT : Tabs w) (hM : MxM w b l l.length) (hl : l.length ≤ 100000000) :
    Calls Tryd.prog 28 #[.pointer (some ⟨b, 0, none⟩)] w fun e w' => e = .returned (.tuple #[]) ∧ (∃ many, MxM w' b (Sh.pad l) many) ∧ Keeps (fun k => k = b) w w' := by
  have hbl := hM.lt
  have HM := Lib.hid hM
  obtain ⟨blk, hr, hMx⟩ := hM
  have hb1 := hMx.2.1
  have c73 := (hMx.2.2.cell 73).trans (mcells_many hMx.1)
  obtain ⟨n, hn⟩ : ∃ n, l.length = n := ⟨_, rfl⟩
  rw [hn] at c73 hl
  have HN := Lib.hid hn
  clear hr hMx hn
  obtain ⟨Z, hZ⟩ : ∃ Z, bvs (List.replicate 72 0) = Z := ⟨_, rfl⟩
  have hz72 : ∀ w : World, (zeroValue 73).run Tryd.prog w = .ok (.agg Z.toArray) w := fun _ => by subst hZ; kernel_rfl
  have hZ0 : Z[0]? = some (.int .u8 0) := by subst hZ; rfl
  have HZ : Zeros72 Z := ⟨hZ⟩
  have hsz := zeros_int n hl
  have hzl := zeros_lt n
  have htail := tailOf_start n
  have hat : ∀ k, k < 8 → (tailOf n)[1 + zeros n + k]? = some (UInt8.ofNat (8 * n / 256 ^ (7 - k))) := fun k h => tailOf_at n k h
  have hfr := tailOf_front n
  have hplen := padL_len n
  have HTAIL := Lib.hid htail
  have HAT := Lib.hid hat
  have HFR := Lib.hid hfr
  have HPL := Lib.hid hplen
  clear hZ htail hat hfr hplen
  generalize zeros n = z at *
  go_enter Tryd.func28, Tryd.ntmps28
  go_wp2_with fail
  clear hz72 hZ0 hsz c73
  obtain ⟨W, hW⟩ : ∃ W, w.alloc (.cells (Z.set 0 (.int .u8 128)).toArray 73) = W := ⟨_, rfl⟩
  have r0 : Row W w.heap.size 73 (bvs (front (tailOf n) 72 (1 + z))) := by
    have e : Z.set 0 (.int .u8 128) = bvs (front (tailOf n) 72 (1 + z)) := by rw [HTAIL.out, ← HZ.out]; rfl
    rw [← hW, e]
    exact heap_alloc_new w _
  have kW : Keeps (fun _ => False) w W := by rw [← hW]; exact (Keeps.refl _ _).alloc _
  rw [hW]
  clear hW
  go_loopw [19] (fun i wr => ∃ k : Nat, k ≤ 8 ∧ i = .int .u64 k ∧ Hid (Row wr w.heap.size 73 (bvs (front (tailOf n) 72 (1 + z + k)))) ∧ Keeps (fun _ => False) w wr) (fun i _ => 8 - (intOf i).toNat)
  case atStart => exact ⟨0, by omega, rfl, r0, kW⟩
  case round =>
    clear r0 kW
    obtain ⟨k, hk, rfl, H1, hkp⟩ := hrel
    by_cases hlt : k < 8
    · obtain ⟨y, hy⟩ := front_cell H1.out (tailOf_length n) (show 1 + z + k < 72 by omega)
      have hf := H1.out.frozen (1 + z + k)
      have l7 : (k : Int) ≤ 7 := by omega
      have lz : (z : Int) ≤ 63 := by omega
      go_wp2
      go_roundw
      case rel =>
        go_light
        have hb := front_set (tailOf n) 72 (1 + z + k) _ (tailOf_length n) (by omega) (HAT.out k hlt)
        have hv := len_byte n k hlt
        refine ⟨k + 1, by omega, by go_num, Lib.hid ?_, ?_⟩
        · rw [hv, show 1 + z + (k + 1) = 1 + z + k + 1 by omega, ← hb]
          exact H1.out.set _ _
        · exact hkp.setCell (fun h => absurd h (by simp)) _
      case measure => simp [intOf]; omega
    · have ek : 1 + z + k = 1 + z + 8 := by omega
      rw [ek, HFR.out] at H1
      clear ek
      have lz : (z : Int) ≤ 63 := by omega
      have hsrc : Src wr (some ⟨w.heap.size, 0, none⟩) (bvs (Sh.padL n)) := fun j u hu => ⟨_, rfl, by
        rw [add_plain, Nat.zero_add, H1.out.cell]
        unfold tailOf
        rw [← bvs_append, List.getElem?_append_left (List.getElem?_eq_some_iff.1 hu).1]
        exact hu⟩
      have hadd := add_any b l (Sh.padL n) n (some ⟨w.heap.size, 0, none⟩) 72 wr (hT.keeps hkp id id) (by rw [← HN.out]; exact HM.out.keeps hkp id) hsrc (fun _ a ha => by injection ha with ha; rw [← ha]; show w.heap.size ≠ b; omega) (by rw [HPL.out]; omega) (by omega) (by omega) (by rw [HPL.out]; omega)
      rw [HPL.out] at hadd
      have HADD := Lib.hid hadd
      clear hadd hsrc H1
      obtain ⟨i0, hi0, _⟩ := info_parts info_u8'
      have hsl : ∀ W, (Instr.sliceAt 73 (.pointer (some ⟨w.heap.size, 0, none⟩)) none (some (.int .u64 (1 + (z : Int) + 8))) none).run Tryd.prog W = .ok (.slice (some ⟨w.heap.size, 0, none⟩) (1 + z + 8) 72) W := fun W => by
        have := run_slice_arr (P := Tryd.prog) W 73 5 72 Tryd.underlying73 hi0 ⟨w.heap.size, 0, none⟩ .u64 (1 + z + 8) (by omega)
        rw [← this]
        rfl
      clear hi0
      go_wp2_with fail
      refine HADD.out.mono ?_
      rintro e w2 ⟨rfl, hM2, k2⟩
      go_wp2
      go_end0
      refine ⟨rfl, ⟨(n : Int) + ((1 + z + 8 : Nat) : Int), ?_⟩, (hkp.mono (fun _ _ h => h.elim)).trans k2⟩
      unfold Sh.pad
      rw [HN.out]
      exact hM2
end Go.Proofs.YtgbajlmcoghofaaDoor
