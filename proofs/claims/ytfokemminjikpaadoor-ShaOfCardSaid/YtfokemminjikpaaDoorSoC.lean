/-
  The document's own answers for sha (assayerref02): a hash's text.
-/
import Derived.Test.YtfokemminjikpaaDoorSoB
namespace Go.Proofs.YtfokemminjikpaaDoor
open Go.RowKit
set_option linter.unusedVariables false

def digitsStr : ByteArray := ⟨#[48, 49, 50, 51, 52, 53, 54, 55, 56, 57, 97, 98, 99, 100, 101, 102]⟩
theorem digit_cut (a : Nat) (h : a < 16) : digitsStr.extract a (a + 1) = strOf [digit a] := by
  match a, h with
  | 0, _ => rfl
  | 1, _ => rfl
  | 2, _ => rfl
  | 3, _ => rfl
  | 4, _ => rfl
  | 5, _ => rfl
  | 6, _ => rfl
  | 7, _ => rfl
  | 8, _ => rfl
  | 9, _ => rfl
  | 10, _ => rfl
  | 11, _ => rfl
  | 12, _ => rfl
  | 13, _ => rfl
  | 14, _ => rfl
  | 15, _ => rfl
  | n + 16, h => exact absurd h (by omega)
set_option maxRecDepth 100000 in
set_option maxHeartbeats 800000 in
theorem rtext_any (xs : List UInt8) (w : World) (hx : xs.length = 32) :
    Calls Tryd.prog 21 #[.agg (bvs xs).toArray] w fun e w' => e = .returned (.string (strOf (hex xs))) ∧ Keeps (fun _ => False) w w' := by
  obtain ⟨X, hX⟩ : ∃ X : Array Value, (bvs xs).toArray = X := ⟨_, rfl⟩
  rw [hX]
  obtain ⟨W1, hW1⟩ : ∃ V, w.alloc (.cells X 24) = V := ⟨_, rfl⟩
  have k1 : Keeps (fun _ => False) w W1 := by rw [← hW1]; exact (Keeps.refl _ _).alloc _
  have r1 : Row W1 w.heap.size 24 (bvs xs) := by rw [← hW1, ← hX]; exact heap_alloc_new w _
  have R1 := Lib.hid r1
  have HX := Lib.hid hx
  clear hX r1 hx
  go_enter Tryd.func21, Tryd.ntmps21
  go_wp2_with fail
  clear hW1
  go_loopw [4, 5] (fun s i wr => ∃ k : Nat, k ≤ 32 ∧ i = .int .i64 k ∧ s = .string (strOf (hex (xs.take k))) ∧ Keeps (fun _ => False) W1 wr) (fun _ i _ => 32 - (intOf i).toNat)
  case atStart => exact ⟨0, by omega, rfl, rfl, Keeps.refl _ _⟩
  case round =>
    obtain ⟨k, hk, rfl, rfl, hkp⟩ := hrel
    by_cases hlt : k < 32
    · have hkl : k < xs.length := by rw [HX.out]; exact hlt
      have hcell : wr.cell? ⟨w.heap.size, k, none⟩ = some (.int .u8 (xs[k].toNat : Int)) := by
        have h : Row wr w.heap.size 24 (bvs xs) := R1.out.keeps hkp id
        rw [h.cell, bvs_at xs hkl]
      have htk := hex_take xs k hkl
      have hl : (hex (xs.take k)).length = 2 * k := by rw [hex_length, List.length_take]; omega
      have hb := xs[k].toNat_lt
      obtain ⟨c, hc⟩ : ∃ c, xs[k].toNat = c := ⟨_, rfl⟩
      rw [hc] at hcell htk hb
      obtain ⟨a, ha⟩ : ∃ a, c / 16 = a := ⟨_, rfl⟩
      obtain ⟨b, hb2⟩ : ∃ b, c % 16 = b := ⟨_, rfl⟩
      rw [ha, hb2] at htk
      have qa : (c : Int) / 16 = (a : Int) := by omega
      have qb : (c : Int) % 16 = (b : Int) := by omega
      have a0 : a < 16 := by omega
      have b0 : b < 16 := by omega
      have a1 : (a : Int) + 1 ≤ 16 := by omega
      have b1 : (b : Int) + 1 ≤ 16 := by omega
      obtain ⟨ys, hy⟩ : ∃ ys, hex (xs.take k) = ys := ⟨_, rfl⟩
      rw [hy] at htk hl ⊢
      have HTK := Lib.hid htk
      have z1 : (strOf [digit a]).size + (strOf [digit b]).size ≤ 2 := by rw [str_size, str_size]; exact Nat.le_refl 2
      have z2 : (strOf ys).size + (strOf [digit a] ++ strOf [digit b]).size ≤ 66 := by rw [str_app, str_size, str_size, hl]; simp; omega
      have hs : ∀ (d : Nat), d < 16 → ∀ W : World, (Instr.slice 9 (.string { data := #[48, 49, 50, 51, 52, 53, 54, 55, 56, 57, 97, 98, 99, 100, 101, 102] }) (some (.int .i64 (d : Int))) (some (.int .i64 ((d : Int) + 1))) none).run Tryd.prog W = .ok (.string (strOf [digit d])) W := fun d hd W => by
        have h := run_slice_string (P := Tryd.prog) (w := W) 9 digitsStr .i64 .i64 (d : Int) ((d : Int) + 1) Tryd.underlying9 (by omega) (by omega) (by show (d : Int) + 1 ≤ 16; omega)
        rw [show ((d : Int)).toNat = d by omega, show ((d : Int) + 1).toNat = d + 1 by omega, digit_cut d hd] at h
        exact h
      have hs1 := hs a a0
      have hs2 := hs b b0
      have KP := Lib.hid hkp
      clear hs htk hc hy hl hkp hb ha hb2 a0 b0
      go_wp2_with fail
      go_quiet (fail)
      go_wp2
      go_roundw
      case rel => exact ⟨k + 1, by omega, by go_num, by rw [HTK.out, str_app, str_app]; rfl, by first | exact KP.out.drewN _ | exact KP.out⟩
      case measure => simp [intOf]; omega
    · have e3 : xs.take k = xs := List.take_of_length_le (by rw [HX.out]; omega)
      rw [e3]
      go_wp2
      go_ret
      exact ⟨rfl, k1.trans hkp⟩
end Go.Proofs.YtfokemminjikpaaDoor
