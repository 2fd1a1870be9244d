/-
  The law's blocks out of raw bytes.
-/
import Derived.Test.YtonokeldlknadaaDkG
namespace Go.Proofs.Ytonokeldlknadaa
open Go.RowKit Go.BigFrame
set_option linter.unusedVariables false

namespace Dk
/-- A block that is filled from the front, again and again. -/
def filling (l : List UInt8) (k : Nat) : Blk := (List.range 256).map (fun i => if i < k then l.getD (i % l.length) 0 else 0)
def fill (l : List UInt8) : Blk := filling l 256
theorem filling_length (l : List UInt8) (k : Nat) : (filling l k).length = 256 := by unfold filling; rw [List.length_map, List.length_range]
theorem fill_length (l : List UInt8) : (fill l).length = 256 := filling_length l 256
theorem filling_get (l : List UInt8) (k i : Nat) (hi : i < 256) : (filling l k)[i]? = some (if i < k then l.getD (i % l.length) 0 else 0) := by
  unfold filling
  rw [List.getElem?_map, List.getElem?_range hi]
  rfl
theorem fill_get (l : List UInt8) (i : Nat) (hi : i < 256) : (fill l)[i]? = some (l.getD (i % l.length) 0) := by
  unfold fill
  rw [filling_get l 256 i hi, if_pos hi]
theorem filling_zero (l : List UInt8) : filling l 0 = nought := by
  apply List.ext_getElem?
  intro i
  by_cases hi : i < 256
  · rw [filling_get l 0 i hi, if_neg (by omega)]
    unfold nought
    rw [List.getElem?_replicate, if_pos hi]
  · rw [List.getElem?_eq_none (by rw [filling_length]; omega), List.getElem?_eq_none (by unfold nought; rw [List.length_replicate]; omega)]
theorem filling_nil (k : Nat) : filling [] k = nought := by
  rw [← filling_zero []]
  unfold filling
  apply List.map_congr_left
  intro i _
  simp
theorem filling_set (l : List UInt8) (k : Nat) (c : UInt8) (hc : l.getD (k % l.length) 0 = c) (hk : k < 256) : (filling l k).set k c = filling l (k + 1) := by
  apply List.ext_getElem?
  intro i
  by_cases hi : i < 256
  · rw [List.getElem?_set, filling_get l (k + 1) i hi]
    by_cases hik : k = i
    · subst hik
      rw [if_pos rfl, if_pos (by rw [filling_length]; exact hk), if_pos (by omega), hc]
    · rw [if_neg hik, filling_get l k i hi]
      by_cases h : i < k
      · rw [if_pos h, if_pos (by omega)]
      · rw [if_neg h, if_neg (by omega)]
  · rw [List.getElem?_eq_none (by rw [List.length_set, filling_length]; omega), List.getElem?_eq_none (by rw [filling_length]; omega)]
end Dk
theorem bvs_set (l : List UInt8) (i : Nat) (c : UInt8) : (bvs l).set i (bv c) = bvs (l.set i c) := by simp [bvs, List.map_set]
theorem made_256 : madeCells (Value.int .u8 0).cells (Int.toNat 256 * 1) = (List.replicate 256 (Value.int .u8 0)).toArray := by kernel_rfl
theorem make_block (V : World) : (Instr.makeSlice 34 (.int .i64 256) (.int .i64 256)).run Try.prog V = .ok (.slice (some ⟨V.heap.size, 0, none⟩) 256 256) (V.alloc (.cells (bvs Dk.nought).toArray 5)) := by
  obtain ⟨i0, hi, hz0, hz1, hz2⟩ := info_parts info_u8d
  have h : (bvs Dk.nought).toArray = (List.replicate 256 (Value.int .u8 0)).toArray := by
    have h := arrv_nought
    unfold arrv at h
    injection h
  rw [run_make (P := Try.prog) V 34 5 i0 (.int .u8 0) Try.underlying34 hi hz0 .i64 .i64 256 256 (by omega) (by omega) (by rw [hz2]; decide) (by omega), hz1, h, made_256]
  rfl
set_option maxRecDepth 100000 in
set_option maxHeartbeats 2000000 in
theorem full_any (A : Option Addr) (c : Nat) (l : List UInt8) (odd : Bool) (m : Nat) (hm : (if odd then 255 else 256) = m) (w : World) (hS : Src w A (bvs l)) (hl : l.length ≤ 9223372036854775807) :
    Calls Try.prog 12 #[.slice A l.length c, .bool odd] w fun e w' => e = .returned (.slice (some ⟨w.heap.size, 0, none⟩) m 256) ∧ Row w' w.heap.size 5 (bvs (Dk.fill l)) ∧ Keeps (fun _ => False) w w' := by
  obtain ⟨Z, hZ⟩ : ∃ Z, (bvs Dk.nought).toArray = Z := ⟨_, rfl⟩
  have hmk : ∀ V : World, (Instr.makeSlice 34 (.int .i64 256) (.int .i64 256)).run Try.prog V = .ok (.slice (some ⟨V.heap.size, 0, none⟩) 256 256) (V.alloc (.cells Z 5)) := fun V => by rw [← hZ]; exact make_block V
  obtain ⟨W1, hW1⟩ : ∃ W, w.alloc (.cells Z 5) = W := ⟨_, rfl⟩
  obtain ⟨B, hB⟩ : ∃ b, w.heap.size = b := ⟨_, rfl⟩
  have k1 : Keeps (fun _ => False) w W1 := by rw [← hW1]; exact (Keeps.refl _ _).alloc _
  have r1 : Row W1 B 5 (bvs (Dk.filling l 0)) := by rw [Dk.filling_zero, ← hW1, ← hB, ← hZ]; exact heap_alloc_new w _
  have HS := Lib.hid hS
  have K1 := Lib.hid k1
  have R1 := Lib.hid r1
  have HM := Lib.hid hm
  have HL := Lib.hid hl
  obtain ⟨n, hn⟩ : ∃ n, l.length = n := ⟨_, rfl⟩
  have HN := Lib.hid hn
  rw [hn] at hl ⊢
  rw [hB]
  have HB := Lib.hid hB
  clear hS k1 r1 hm hn hZ
  go_enter Try.func12, Try.ntmps12
  go_wp2_with fail
  go_loopw [6] (fun iv wr => ∃ k : Nat, k ≤ 256 ∧ iv = .int .i64 (k : Int) ∧ Hid (Row wr B 5 (bvs (Dk.filling l k))) ∧ Keeps (fun _ => False) w wr) (fun iv _ => 256 - (intOf iv).toNat)
  case atStart => exact ⟨0, by omega, rfl, R1, K1.out⟩
  case round =>
    clear R1 K1
    obtain ⟨k, hk, rfl, HR, hkp⟩ := hrel
    by_cases hlt : k < 256 ∧ 0 < n
    · obtain ⟨hlt, hn0⟩ := hlt
      have hki : (k : Int) < 256 := by omega
      have hn1 : (n : Int) > 0 := by omega
      have hq : k % n < n := Nat.mod_lt _ hn0
      obtain ⟨q, hqe⟩ : ∃ q, k % n = q := ⟨_, rfl⟩
      rw [hqe] at hq
      obtain ⟨cb, hcb⟩ : ∃ c, l[q]? = some c := ⟨_, List.getElem?_eq_getElem (by rw [HN.out]; exact hq)⟩
      obtain ⟨a, ha, hc⟩ := (HS.out.keeps hkp (fun _ _ _ => id)) q (bv cb) (by rw [bvs_get, hcb]; rfl)
      subst ha
      have hc' : wr.cell? (a.add q) = some (.int .u8 (cb.toNat : Int)) := hc
      have e1 : (k : Int) % (n : Int) = (q : Int) := by rw [← hqe]; omega
      have e2 : (k : Int).tmod (n : Int) = (q : Int) := by rw [Int.tmod_eq_emod_of_nonneg (by omega)]; exact e1
      have e3 : IntKind.i64.wrap (q : Int) = (q : Int) := IntWalk.i64_in _ (by omega)
      have hqi : (q : Int) < (n : Int) := by omega
      have hold : wr.cell? ⟨B, k, none⟩ = some (.int .u8 0) := by rw [HR.out.cell, bvs_get, Dk.filling_get l k k hlt, if_neg (by omega)]; rfl
      have hfr := HR.out.frozen k
      have hst := HR.out.set k (bv cb)
      rw [bvs_set, Dk.filling_set l k cb (by rw [HN.out, hqe]; unfold List.getD; rw [hcb]; rfl) hlt] at hst
      have HST : Hid (Row (wr.setCell ⟨B, k, none⟩ (.int .u8 (cb.toNat : Int))) B 5 (bvs (Dk.filling l (k + 1)))) := Lib.hid hst
      have hnn : ¬ ((n : Int) = 0) := by omega
      have hgt : decide ((n : Int) > 0) = true := decide_eq_true hn1
      clear hst hcb hc HR hqe
      go_wp2
      go_roundw
      case rel => exact ⟨k + 1, by omega, by go_num, HST, hkp.setCell (fun h => absurd h (by show ¬ B < w.heap.size; have := HB.out; omega)) _⟩
      case measure => simp [intOf]; omega
    · have hfin : Dk.filling l k = Dk.fill l := by
        by_cases hn0 : n = 0
        · have hl0 : l = [] := List.eq_nil_of_length_eq_zero (by rw [HN.out]; exact hn0)
          unfold Dk.fill
          rw [hl0, Dk.filling_nil, Dk.filling_nil]
        · have : k = 256 := by omega
          rw [this]; rfl
      rw [hfin] at HR
      have FIN := Lib.hid (And.intro HR.out hkp)
      clear hfin HR hkp
      cases odd with
      | true =>
        have hm2 : m = 255 := HM.out.symm
        subst hm2
        by_cases h1 : k < 256
        · have hn0 : n = 0 := by omega
          subst hn0
          have hki : (k : Int) < 256 := by omega
          go_wp2
          go_ret
          exact ⟨rfl, FIN.out.1, FIN.out.2⟩
        · have hki : ¬ (k : Int) < 256 := by omega
          go_wp2
          go_ret
          exact ⟨rfl, FIN.out.1, FIN.out.2⟩
      | false =>
        have hm2 : m = 256 := HM.out.symm
        subst hm2
        by_cases h1 : k < 256
        · have hn0 : n = 0 := by omega
          subst hn0
          have hki : (k : Int) < 256 := by omega
          go_wp2
          go_ret
          exact ⟨rfl, FIN.out.1, FIN.out.2⟩
        · have hki : ¬ (k : Int) < 256 := by omega
          go_wp2
          go_ret
          exact ⟨rfl, FIN.out.1, FIN.out.2⟩
end Go.Proofs.Ytonokeldlknadaa
