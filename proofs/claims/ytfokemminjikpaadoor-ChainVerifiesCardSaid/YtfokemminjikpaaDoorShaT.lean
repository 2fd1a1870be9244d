/-
  A hash's digits of 16 (sha.Text).
-/
import Derived.Test.YtfokemminjikpaaDoorShaG
import Derived.Deep.AppendLies
namespace Go.Proofs.YtfokemminjikpaaDoor
open Go.RowKit Go.BigFrame
set_option linter.unusedVariables false

def digit (n : Nat) : UInt8 := ([48, 49, 50, 51, 52, 53, 54, 55, 56, 57, 97, 98, 99, 100, 101, 102] : List UInt8).getD n 0
def hex (l : List UInt8) : List UInt8 := l.flatMap fun c => [digit (c.toNat / 16), digit (c.toNat % 16)]

theorem hex_take (xs : List UInt8) (k : Nat) (h : k < xs.length) : hex (xs.take (k + 1)) = hex (xs.take k) ++ [digit (xs[k].toNat / 16), digit (xs[k].toNat % 16)] := by
  rw [List.take_succ_eq_append_getElem h]
  unfold hex
  rw [List.flatMap_append]
  simp
theorem hex_length (xs : List UInt8) : (hex xs).length = 2 * xs.length := by
  unfold hex
  induction xs with
  | nil => rfl
  | cons x l ih => rw [List.flatMap_cons, List.length_append, ih, List.length_cons]; simp; omega
theorem info_u8t : (Tryd.prog.info? 5).map (fun i => (i.zero, i.size, i.bytes)) = some (some (.int .u8 0), 1, 1) := by kernel_rfl
def digits16 : List UInt8 := [48, 49, 50, 51, 52, 53, 54, 55, 56, 57, 97, 98, 99, 100, 101, 102]
theorem run_index_str {P : Program} (W : World) (t : TypeId) (ht : P.underlying t = some .string) (s : ByteArray) (k : IntKind) (i : Nat) (c : UInt8) (h : s[i]? = some c) :
    (Instr.index t (.string s) (.int k (i : Int))).run P W = .ok (.int .u8 (c.toNat : Int)) W := by
  simp [Instr.index, asIntOf, run_underlying ht, h]
theorem digit_at : ∀ i : Fin 16, ((⟨#[48, 49, 50, 51, 52, 53, 54, 55, 56, 57, 97, 98, 99, 100, 101, 102]⟩ : ByteArray)[i.val]?) = some (digit i.val) := by decide
theorem index_high (W : World) (y : UInt8) : (Instr.index 9 (.string ⟨#[48, 49, 50, 51, 52, 53, 54, 55, 56, 57, 97, 98, 99, 100, 101, 102]⟩) (.int .u8 ((y.toNat : Int) / 16))).run Tryd.prog W = .ok (.int .u8 ((digit (y.toNat / 16)).toNat : Int)) W := by
  have h := y.toNat_lt
  exact run_index_str (P := Tryd.prog) W 9 Tryd.underlying9 _ .u8 (y.toNat / 16) _ (digit_at ⟨y.toNat / 16, by omega⟩)
theorem index_low (W : World) (y : UInt8) : (Instr.index 9 (.string ⟨#[48, 49, 50, 51, 52, 53, 54, 55, 56, 57, 97, 98, 99, 100, 101, 102]⟩) (.int .u8 (bits .and .u8 (y.toNat : Int) 15))).run Tryd.prog W = .ok (.int .u8 ((digit (y.toNat % 16)).toNat : Int)) W := by
  have h := y.toNat_lt
  have e : bits .and .u8 (y.toNat : Int) (15 : Int) = (y.toNat : Int) % 16 := u8_and15 _ (by omega) (by omega)
  rw [e]
  exact run_index_str (P := Tryd.prog) W 9 Tryd.underlying9 _ .u8 (y.toNat % 16) _ (digit_at ⟨y.toNat % 16, by omega⟩)
set_option maxRecDepth 100000 in
set_option maxHeartbeats 1000000 in
theorem text_any (xs : List UInt8) (w : World) (hx : xs.length = 32) :
    Calls Tryd.prog 20 #[.agg (bvs xs).toArray] w fun e w' => e = .returned (.string (strOf (hex xs))) ∧ Keeps (fun _ => False) w w' := by
  obtain ⟨i0, hi0, hz0, hs0, hb0⟩ := info_parts info_u8t
  obtain ⟨R, hR⟩ : ∃ R, (bvs xs).toArray = R := ⟨_, rfl⟩
  have hsz : (Tryd.prog.info? 24).map (·.size) = some R.size := by rw [← hR, List.size_toArray, bvs_length, hx]; exact size_hash'
  have hix : ∀ (j : Nat) (v : Value), j < 32 → R[j]? = some v → ∀ W, (Instr.index 24 (.agg R) (.int .i64 (j : Int))).run Tryd.prog W = .ok v W := fun j v hj hv W =>
    run_index_row W 24 5 32 Tryd.underlying24 hi0 hs0 (by kernel_rfl) R .i64 j v hj hv
  have HIX := Lib.hid hix
  have HSZ := Lib.hid hsz
  rw [hR]
  have HR := Lib.hid hR
  obtain ⟨Z, hZ⟩ : ∃ Z : Array Value, (bvs (List.replicate 64 0)).toArray = Z := ⟨_, rfl⟩
  have hmk : ∀ W : World, (Instr.makeSlice 22 (.int .i64 0) (.int .i64 64)).run Tryd.prog W = .ok (.slice (some ⟨W.heap.size, 0, none⟩) 0 64) (W.alloc (.cells Z 5)) := fun _ => by subst hZ; kernel_rfl
  have hZs : Z.size = 64 := by subst hZ; rfl
  have HZS := Lib.hid hZs
  have HX := Lib.hid hx
  obtain ⟨W1, hW1⟩ : ∃ W, w.alloc (.cells R 24) = W := ⟨_, rfl⟩
  obtain ⟨W2, hW2⟩ : ∃ W, W1.alloc (.cells Z 5) = W := ⟨_, rfl⟩
  have k1 : Keeps (fun _ => False) w W1 := by rw [← hW1]; exact (Keeps.refl _ _).alloc _
  have k2 : Keeps (fun _ => False) W1 W2 := by rw [← hW2]; exact (Keeps.refl _ _).alloc _
  have r1 : W2.heap[w.heap.size]? = some (.cells R 24 (0, 0)) := by rw [← hW2, ← hW1]; exact heap_alloc2_old w _ _
  have hown : W2.ownsRow w.heap.size 5 1 (.slice (some ⟨W1.heap.size, 0, none⟩) 0 64) 0 [] := by rw [← hW2]; exact World.ownsRow_made W1 Z 64 k1.size (by unfold maxLen; omega) (by rw [hZs])
  have R1 := Lib.hid r1
  have kk := k1.trans k2
  clear hsz hix hR hZ hZs hx r1 k1 k2
  go_enter Tryd.func20, Tryd.ntmps20
  go_wp2_with (refine wpList_load_row (by rfl) 24 (.tmp 1) (by rfl) w.heap.size (by rfl) 24 R (0, 0) _ R1.out Tryd.underlying24 rfl HSZ.out ?_)
  clear hmk hW1 hW2 R1 HZS HSZ
  go_loopw [3, 8] (fun v i wr => ∃ k : Nat, k ≤ 32 ∧ i = .int .i64 k ∧ Hid (wr.ownsRow w.heap.size 5 1 v (2 * k) (bvs (hex (xs.take k)))) ∧ Keeps (fun _ => False) w wr) (fun _ i _ => 32 - (intOf i).toNat)
  case atStart => exact ⟨0, by omega, rfl, hown, kk⟩
  case round =>
    clear hown kk
    obtain ⟨k, hk, rfl, HO, hkp⟩ := hrel
    obtain ⟨A, c, rfl, hc1, hc2, _⟩ := RowIn.of_own HO.out
    unfold maxLen at hc2
    by_cases hlt : k < 32
    · have hkl : k < xs.length := by rw [HX.out]; exact hlt
      have hht := hex_take xs k hkl
      have hin := HIX.out k (.int .u8 (xs[k].toNat : Int)) hlt (by rw [← HR.out, List.getElem?_toArray, bvs_get, List.getElem?_eq_getElem hkl]; rfl)
      obtain ⟨y, hy⟩ : ∃ y, xs[k] = y := ⟨_, rfl⟩
      rw [hy] at hht hin
      have HHT := Lib.hid hht
      have HIN := Lib.hid hin
      clear hht hin hy
      have y0 : (y.toNat : Int) < 256 := by have := y.toNat_lt; omega
      go_wp2_with (refine wpList_index_run (by rfl) 24 (.tmp 7) (.tmp 8) (by rfl) (.agg R) (.int .i64 (k : Int)) (.int .u8 (y.toNat : Int)) (by rfl) (by rfl) (HIN.out _) ?_)
      have hd1 := fun W => index_high W y
      have hd2 := fun W => index_low W y
      go_region_law (first
        | (refine step_append_lies _ (by rfl) (.tmp 11) (.tmp 18) 22 (by rfl) w.heap.size 5 i0 (.int .u8 0) 1 1 Tryd.underlying22 hi0 hz0 hs0 hb0 (by rfl) (by decide) (.slice A (2 * k) c) (2 * k) (bvs (hex (xs.take k))) (by rfl) (HO.out.drew.alloc _) ⟨wr.heap.size, 0, none⟩ 2 2 (bvs [digit (y.toNat / 16), digit (y.toNat % 16)]) (by rfl) (by rfl) (World.news_of_block (heap_alloc_new wr.drew _)) (bvs_one _) (by decide) (by unfold maxLen; omega) (by omega) (by have := hkp.size; simp; omega) (wr.heap.size + 1) (by simp) ?_; intro g cap w4 hown4 hgrow hat hlt4))
      all_goals
        clear hd1 hd2 y0 hi0
        go_wp2
        go_roundw
        case rel =>
          go_light
          refine ⟨k + 1, by omega, by go_num, Lib.hid ?_, ?_⟩
          · rw [HHT.out, ← bvs_append]
            exact hown4
          · refine (hkp.drew.alloc _).grown hgrow (fun q hq hr => ?_)
            have := (HO.out.lt q hr).1
            omega
        case measure => simp [intOf]; omega
    · have e2 : 2 * k = (hex xs).length := by rw [hex_length, HX.out]; omega
      have e3 : xs.take k = xs := List.take_of_length_le (by rw [HX.out]; omega)
      rw [e3] at HO
      have hcv := run_string_src (P := Tryd.prog) wr 22 9 5 Tryd.underlying22 Tryd.underlying5 Tryd.underlying9 A (hex xs) c (by have := Src.of_own HO.out; exact this)
      rw [← e2] at hcv
      clear e2 e3 HO
      go_wp2
      go_ret
      exact ⟨rfl, hkp⟩
end Go.Proofs.YtfokemminjikpaaDoor
