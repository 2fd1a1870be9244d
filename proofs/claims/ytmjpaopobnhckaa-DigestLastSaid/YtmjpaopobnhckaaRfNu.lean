/-
  The document's own answers for octet (assayerref01): numbers and bytes as strings.
-/
import Derived.Test.YtmjpaopobnhckaaWrB
import Derived.Test.YtmjpaopobnhckaaEq
import Derived.Laws.Concat
import Derived.Deep.LoopGhost
namespace Go.Proofs.Ytmjpaopobnhckaa
open Go.RowKit
set_option linter.unusedVariables false

theorem nb_cons (x : Int) (k : Nat) : nb x (k + 1) = UInt8.ofNat (x / 256 ^ k).toNat :: nb x k := by
  unfold nb
  rw [List.range_succ_eq_map, List.map_cons, List.map_map]
  congr 1
  · unfold nbAt
    have e : 8 * (k + 1 - 1 - 0) = 8 * k := by omega
    rw [e, Int.pow_mul]
    rfl
  · apply List.map_congr_left
    intro i hi
    have hi' : i < k := List.mem_range.1 hi
    show nbAt x (k + 1) (i + 1) = nbAt x k i
    unfold nbAt
    have e : 8 * (k + 1 - 1 - (i + 1)) = 8 * (k - 1 - i) := by omega
    rw [e]
theorem str_add {P : Program} (W : World) (t : TypeId) (a b : List UInt8) (ha : a.length ≤ 8388608) (hb : b.length ≤ 8388608) :
    (binOp .add t (.string (strOf a)) (.string (strOf b))).run P W = .ok (.string (strOf (a ++ b))) W := by
  have := run_string_add_lists (P := P) W a b (by omega) (by omega)
  simp only [binOp]
  exact this
theorem strOf_append (a b : List UInt8) : strOf a ++ strOf b = strOf (a ++ b) := by simp [strOf, ByteArray.mk_append_mk]
theorem strOf_size (l : List UInt8) : (strOf l).size = l.length := rfl

theorem refNum_ok (x : Int) (n : Nat) (w : World) (hx : 0 ≤ x) (hx1 : x < 18446744073709551616) (h1 : 1 ≤ n) (h8 : n ≤ 8) :
    Calls Try.prog 32 #[.int .u64 x, .int .i64 n] w fun e w' => e = .returned (.string (strOf (nb x n))) ∧ Below w.heap.size w w' := by
  obtain ⟨B, hB⟩ : ∃ B, w.heap.size = B := ⟨_, rfl⟩
  have hBle : B ≤ w.heap.size := by omega
  rw [hB]
  clear hB
  go_enter Try.func32, Try.ntmps32
  go_wp2_with fail
  go_loopw [0, 5, 6] (fun xv s i wr => ∃ k : Nat, k ≤ n ∧ i = .int .i64 k ∧ xv = .int .u64 (x / 256 ^ k) ∧ s = .string (strOf (nb x k)) ∧ Below B w wr) (fun _ _ i _ => n - (intOf i).toNat)
  case atStart => exact ⟨0, Nat.zero_le _, rfl, by simp, rfl, Below.refl _ _⟩
  case round =>
    obtain ⟨k, hk, rfl, rfl, rfl, hbl⟩ := hrel
    by_cases hlt : k < n
    · have hy0 : 0 ≤ x / 256 ^ k := Int.ediv_nonneg hx (Int.le_of_lt (Int.pow_pos (by decide)))
      have hy1 : x / 256 ^ k ≤ 18446744073709551615 := by
        have := Int.ediv_le_self (256 ^ k) hx
        omega
      have hnext : x / 256 ^ (k + 1) = x / 256 ^ k / 256 := by
        rw [Int.pow_succ, Int.ediv_ediv_of_nonneg (Int.le_of_lt (Int.pow_pos (by decide)))]
      have hc := nb_cons x k
      have hl := nb_length x k
      generalize x / 256 ^ k = y at *
      generalize nb x k = ys at *
      have hw8 := wrap_u8 y hy0
      obtain ⟨c, hcc⟩ : ∃ c, UInt8.ofNat y.toNat = c := ⟨_, rfl⟩
      rw [hcc] at hc hw8
      have HN := Lib.hid hnext
      have HC := Lib.hid hc
      have hcv := fun (W : World) => run_string_src (P := Try.prog) (W.alloc (.cells #[.int .u8 (c.toNat : Int)] 5)) 37 9 5 Try.underlying37 Try.underlying5 Try.underlying9 (some ⟨W.heap.size, 0, none⟩) [c] 1 (fun j u hu => ⟨_, rfl, World.news_of_block (heap_alloc_new W _) j u hu⟩)
      have HCV : ∀ W : World, (convert 37 9 (.slice (some ⟨W.heap.size, 0, none⟩) 1 1)).run Try.prog (W.alloc (.cells #[.int .u8 (c.toNat : Int)] 5)) = .ok (.string (strOf [c])) (W.alloc (.cells #[.int .u8 (c.toNat : Int)] 5)) := hcv
      have hsz1 : (strOf [c]).size + (strOf ys).size ≤ 9 := by rw [strOf_size, strOf_size, hl, List.length_singleton]; omega
      have hsz : Hid (Below B w (wr.alloc (.cells #[.int .u8 (c.toNat : Int)] 5))) := hbl.alloc (Nat.le_trans hBle hbl.size) _
      clear hnext hc hcc hcv hl
      go_wp2
      go_roundw
      case rel => exact ⟨k + 1, by omega, by go_num, by rw [HN.out], by rw [HC.out, strOf_append]; rfl, hsz.out⟩
      case measure => simp [intOf]; omega
    · go_wp2
      obtain rfl : k = n := by omega
      go_ret
      exact ⟨rfl, hbl⟩
end Go.Proofs.Ytmjpaopobnhckaa
