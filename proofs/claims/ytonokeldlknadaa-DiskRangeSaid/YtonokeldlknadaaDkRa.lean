/-
  The law DiskRange walked: of blocks that there aren't, and of bytes that are no block's, nothing is written.
-/
import Derived.Test.YtonokeldlknadaaDkW
import Derived.Below
namespace Go.Proofs.Ytonokeldlknadaa
open Go.RowKit Go.BigFrame
set_option linter.unusedVariables false

theorem keeps_belowD {w w' : World} (h : Keeps (fun _ => False) w w') : Below w.heap.size w w' := h.below (Nat.le_refl _) (fun _ _ => id)
theorem made_zeros (m : Nat) : madeCells (Value.int .u8 0).cells (m * 1) = (bvs (List.replicate m 0)).toArray := by
  apply Array.ext
  · rw [size_madeCells, List.size_toArray, bvs_length, List.length_replicate, Nat.mul_one]
  · intro i h1 h2
    have e : (#[Value.int .u8 0] : Array Value)[i % 1]! = Value.int .u8 0 := by rw [Nat.mod_one]; rfl
    simp only [madeCells, Value.cells, bvs, bv, List.getElem_toArray, List.getElem_map, List.getElem_replicate, Array.getElem_map, Array.getElem_range]
    exact e
/-- What is left of a division. -/
theorem rest_of (n : Int) (b : Nat) (hb : 0 < b) (hb2 : b ≤ 100000) (hn : 0 ≤ n) : ∃ a : Nat, n % (b : Int) = (a : Int) ∧ n.tmod (b : Int) = (a : Int) ∧ a < b ∧ wrap64 (a : Int) = (a : Int) := by
  have h1 := Int.emod_nonneg n (show (b : Int) ≠ 0 by omega)
  have h2 := Int.emod_lt_of_pos n (show (0 : Int) < b by omega)
  have h3 : n.tmod (b : Int) = n % (b : Int) := Int.tmod_eq_emod_of_nonneg hn
  rw [h3]
  generalize n % (b : Int) = x at h1 h2
  refine ⟨x.toNat, by omega, by omega, by omega, ?_⟩
  rw [show ((x.toNat : Nat) : Int) = x by omega]
  clear h3 hn
  exact IntWalk.wrap64_in _ (by omega)
theorem make_zeros (m : Nat) (hm : m ≤ 100000) (V : World) : (Instr.makeSlice 34 (.int .i64 (m : Int)) (.int .i64 (m : Int))).run Try.prog V = .ok (.slice (some ⟨V.heap.size, 0, none⟩) m m) (V.alloc (.cells (bvs (List.replicate m 0)).toArray 5)) := by
  obtain ⟨i0, hi, hz0, hz1, hz2⟩ := info_parts info_u8d
  rw [run_make (P := Try.prog) V 34 5 i0 (.int .u8 0) Try.underlying34 hi hz0 .i64 .i64 (m : Int) (m : Int) (by omega) (by omega) (by rw [hz2]; omega) (by omega), hz1, Int.toNat_natCast, made_zeros]
theorem below_F {w w1 w2 : World} {F : Nat → Prop} (h : Keeps (fun _ => False) w w1) (k : Keeps F w1 w2) (hF : ∀ i, F i → w.heap.size ≤ i) : Keeps (fun _ => False) w w2 := h.trans' k (fun i hi hf => by have := hF i hf; omega)

set_option maxRecDepth 100000 in
set_option maxHeartbeats 2000000 in
theorem drange_walk (n i long : Int) (W : World) (hn : (Lit.int .u8 n).wf = true) (hi : (Lit.int .i64 i).wf = true) (hlong : (Lit.int .u16 long).wf = true) :
    Calls Try.prog 7 #[.int .u8 n, .int .i64 i, .int .u16 long] W fun e W' => e = .returned (.bool true) ∧ Below W.heap.size W W' := by
  have haw := awake11_any W
  have HAW := Lib.hid haw
  clear haw
  have bn := bounds_u8 hn
  have bl := bounds_u16 hlong
  obtain ⟨a, ha, ha', hab, e1⟩ := rest_of n 50 (by decide) (by decide) bn.1
  obtain ⟨m, hm, hm', hmb, e2⟩ := rest_of long 300 (by decide) (by decide) bl.1
  obtain ⟨k, hk⟩ : ∃ k : Nat, a + 1 = k := ⟨_, rfl⟩
  have hkb : 1 ≤ k ∧ k ≤ 50 := by clear ha ha' hm hm' bl bn e1 e2; omega
  have he1 : wrap64 (wrap64 (n.tmod 50) + 1) = (k : Int) := by
    rw [show n.tmod 50 = (a : Int) from ha', e1]
    clear ha ha' hm hm' bl bn e1 e2
    rw [IntWalk.wrap64_in _ (by omega)]; omega
  have he2 : wrap64 (long.tmod 300) = (m : Int) := by rw [show long.tmod 300 = (m : Int) from hm', e2]
  have HE1 := Lib.hid he1
  have HE2 := Lib.hid he2
  have HMK := Lib.hid (make_zeros m (Nat.le_trans (Nat.le_of_lt hmb) (by decide)))
  have HMB := Lib.hid hmb
  have HKB := Lib.hid hkb
  have HI := Lib.hid hi
  clear hn hi hlong hk bn bl ha ha' hm hm' e1 e2 hab hmb hkb he1 he2
  go_enter Try.func7, Try.ntmps7
  go_wp2_with fail
  refine HAW.out.mono ?_
  rintro e w0 ⟨rfl, k0⟩
  clear HAW
  have hnew := new_disk k w0 HKB.out.1 (Nat.le_trans HKB.out.2 (by decide))
  have HNEW := Lib.hid hnew
  have K0 := Lib.hid k0
  clear hnew k0
  go_wp2_with fail
  rw [HE1.out, HE2.out]
  refine HNEW.out.mono ?_
  rintro e w1 ⟨g, rfl, hg, d1, k1⟩
  clear HE1 HE2 HNEW
  have hF : ∀ i, w0.heap.size ≤ i → W.heap.size ≤ i := fun i hi => Nat.le_trans K0.out.size hi
  have hlen := len_any w1 _ g _ d1
  have HLEN : Hid (Calls Try.prog 23 #[.pointer (some ⟨g, 0, none⟩)] w1 fun e w' => e = .returned (.int .i64 (k : Int)) ∧ w' = w1) := Lib.hid hlen
  have D1 := Lib.hid d1
  have K1 := Lib.hid (K0.out.trans k1)
  have G1 := Lib.hid (And.intro hg k1.size)
  clear hlen d1 k1 hg
  go_wp2_with fail
  refine HLEN.out.mono ?_
  rintro e w2 ⟨rfl, h2⟩
  obtain rfl : w1 = w2 := h2.symm
  clear HLEN
  obtain ⟨Z3, hZ3⟩ : ∃ Z, (bvs (List.replicate m 0)).toArray = Z := ⟨_, rfl⟩
  obtain ⟨W3, hW3⟩ : ∃ W, w1.alloc (.cells Z3 5) = W := ⟨_, rfl⟩
  have hmk : ∀ V : World, (Instr.makeSlice 34 (.int .i64 (m : Int)) (.int .i64 (m : Int))).run Try.prog V = .ok (.slice (some ⟨V.heap.size, 0, none⟩) m m) (V.alloc (.cells Z3 5)) := by rw [← hZ3]; exact HMK.out
  have k3 : Keeps (fun _ => False) w1 W3 := by rw [← hW3]; exact (Keeps.refl _ _).alloc _
  have r3 : Row W3 w1.heap.size 5 (bvs (List.replicate m 0)) := by rw [← hW3, ← hZ3]; exact heap_alloc_new w1 _
  have D3 := D1.out.later k3
  clear hZ3 HMK
  have K3 := Lib.hid (K1.out.trans k3)
  -- WAYS
  rcases (by omega : i < 0 ∨ (k : Int) ≤ i ∨ (0 ≤ i ∧ i < (k : Int))) with hlo0 | hhi0 | hin
  · have hg0 : ¬ 0 ≤ i := by omega
    have hat : Dk.atE (Dk.fresh k) i = 15 := by unfold Dk.atE; rw [if_neg (by show ¬ (false = true); decide), if_pos (by show i < 0 ∨ (k : Int) ≤ i; omega)]
    have hwr := write_at W3 _ g _ i (.slice (some ⟨w1.heap.size, 0, none⟩) m m) D3 (by rw [hat]; decide)
    have hrd := read_at W3 _ g _ i D3 (by rw [hat]; decide)
    have hlo := loose_any W3 _ g _ D3
    rw [hat] at hwr hrd
    have HWR := Lib.hid hwr
    have HRD := Lib.hid hrd
    have HLO : Hid (Calls Try.prog 24 #[.pointer (some ⟨g, 0, none⟩)] W3 fun e w' => e = .returned (.int .i64 0) ∧ w' = W3) := Lib.hid hlo
    have hge : decide (i ≥ 0) = false := decide_eq_false hg0
    have FIN := Lib.hid (keeps_belowD K3.out)
    clear hwr hrd hlo r3 D3 k3 D1 hat K3 K1 HI
    go_wp2_with fail
    refine HWR.out.mono ?_
    rintro e w4 ⟨rfl, h4⟩
    obtain rfl : W3 = w4 := h4.symm
    go_wp2_with fail
    refine HRD.out.mono ?_
    rintro e w4 ⟨rfl, h4⟩
    obtain rfl : W3 = w4 := h4.symm
    go_wp2_with fail
    refine HLO.out.mono ?_
    rintro e w4 ⟨rfl, h4⟩
    obtain rfl : W3 = w4 := h4.symm
    go_wp2
    go_ret
    exact ⟨rfl, FIN.out⟩
  · have hg0 : 0 ≤ i := by have := HKB.out; omega
    have hl0 : ¬ i < (k : Int) := by omega
    have hat : Dk.atE (Dk.fresh k) i = 15 := by unfold Dk.atE; rw [if_neg (by show ¬ (false = true); decide), if_pos (by show i < 0 ∨ (k : Int) ≤ i; omega)]
    have hwr := write_at W3 _ g _ i (.slice (some ⟨w1.heap.size, 0, none⟩) m m) D3 (by rw [hat]; decide)
    have hrd := read_at W3 _ g _ i D3 (by rw [hat]; decide)
    have hlo := loose_any W3 _ g _ D3
    rw [hat] at hwr hrd
    have HWR := Lib.hid hwr
    have HRD := Lib.hid hrd
    have HLO : Hid (Calls Try.prog 24 #[.pointer (some ⟨g, 0, none⟩)] W3 fun e w' => e = .returned (.int .i64 0) ∧ w' = W3) := Lib.hid hlo
    have hge : decide (i ≥ 0) = true := decide_eq_true hg0
    have hlt : decide (i < (k : Int)) = false := decide_eq_false hl0
    have FIN := Lib.hid (keeps_belowD K3.out)
    clear hwr hrd hlo r3 D3 k3 D1 hat K3 K1 HI
    go_wp2_with fail
    refine HWR.out.mono ?_
    rintro e w4 ⟨rfl, h4⟩
    obtain rfl : W3 = w4 := h4.symm
    go_wp2_with fail
    refine HRD.out.mono ?_
    rintro e w4 ⟨rfl, h4⟩
    obtain rfl : W3 = w4 := h4.symm
    go_wp2_with fail
    refine HLO.out.mono ?_
    rintro e w4 ⟨rfl, h4⟩
    obtain rfl : W3 = w4 := h4.symm
    go_wp2
    go_ret
    exact ⟨rfl, FIN.out⟩
  · obtain ⟨q, hq⟩ : ∃ q : Nat, i = (q : Int) := ⟨i.toNat, by omega⟩
    subst hq
    have hqk : q < k := by omega
    have hqi : (q : Int) < (k : Int) := hin.2
    have hlt : decide ((q : Int) < (k : Int)) = true := decide_eq_true hqi
    have hge : decide ((q : Int) ≥ 0) = true := decide_eq_true hin.1
    have hat : Dk.atE (Dk.fresh k) (q : Int) = 0 := by unfold Dk.atE; rw [if_neg (by show ¬ (false = true); decide), if_neg (by show ¬ ((q : Int) < 0 ∨ (k : Int) ≤ (q : Int)); omega)]
    by_cases hm : m = 256
    · subst hm
      rw [show ((256 : Nat) : Int) = 256 from rfl] at hmk
      have hwr := write_in w1 _ g _ D1.out (fun i hi => by have := G1.out.2; omega) W3 k3 w1.heap.size 256 5 (List.replicate 256 0) (Nat.le_refl _) r3 q hqk rfl rfl (by rw [List.length_replicate]) (by show 0 ≤ 1000; omega)
      have HWR := Lib.hid hwr
      clear hwr r3 D3 k3 D1 hat hin HI K1
      go_wp2_with fail
      refine HWR.out.mono ?_
      rintro e w4 ⟨rfl, d4, k4⟩
      have hrd := read_ok w4 _ g _ d4 q hqk rfl
      have HRD := Lib.hid hrd
      have D4 := Lib.hid d4
      have K4 := Lib.hid (below_F K3.out k4 hF)
      clear HWR hrd d4 k4 K3
      go_wp2_with fail
      refine HRD.out.mono ?_
      rintro e w5 ⟨rfl, _, k5⟩
      have hlo := loose_any w5 _ g _ (D4.out.later k5)
      have HLO : Hid (Calls Try.prog 24 #[.pointer (some ⟨g, 0, none⟩)] w5 fun e w' => e = .returned (.int .i64 1) ∧ w' = w5) := Lib.hid hlo
      have FIN := Lib.hid (keeps_belowD (K4.out.trans k5))
      clear hlo k5 D4 K4 HRD
      go_wp2_with fail
      refine HLO.out.mono ?_
      rintro e w6 ⟨rfl, h6⟩
      obtain rfl : w5 = w6 := h6.symm
      go_wp2
      go_ret
      exact ⟨rfl, FIN.out⟩
    · have hwr := write_arg W3 _ g _ (q : Int) (some ⟨w1.heap.size, 0, none⟩) m m D3 hat hm
      have hrd := read_ok W3 _ g _ D3 q hqk rfl
      have HWR := Lib.hid hwr
      have HRD := Lib.hid hrd
      have D3' := Lib.hid D3
      have hme : ((m : Int) == 256) = false := by rw [beq_eq_false_iff_ne]; omega
      clear hwr r3 D3 k3 D1 hat hin HI K1 hrd hm
      go_wp2_with fail
      refine HWR.out.mono ?_
      rintro e w4 ⟨rfl, h4⟩
      obtain rfl : W3 = w4 := h4.symm
      go_wp2_with fail
      refine HRD.out.mono ?_
      rintro e w5 ⟨rfl, _, k5⟩
      have hlo := loose_any w5 _ g _ (D3'.out.later k5)
      have HLO : Hid (Calls Try.prog 24 #[.pointer (some ⟨g, 0, none⟩)] w5 fun e w' => e = .returned (.int .i64 0) ∧ w' = w5) := Lib.hid hlo
      have FIN := Lib.hid (keeps_belowD (K3.out.trans k5))
      clear hlo k5 D3' K3 HRD
      go_wp2_with fail
      refine HLO.out.mono ?_
      rintro e w6 ⟨rfl, h6⟩
      obtain rfl : w5 = w6 := h6.symm
      go_wp2
      go_ret
      exact ⟨rfl, FIN.out⟩
end Go.Proofs.Ytonokeldlknadaa
