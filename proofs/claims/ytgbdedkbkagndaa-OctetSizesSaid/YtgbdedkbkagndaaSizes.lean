/-
  OctetSizes: a number is put in as many bytes as told, and read as its rest: for whatever number, and whatever size, the law returns true.
-/
import Derived.Test.YtgbdedkbkagndaaAwake
import Derived.Test.YtgbdedkbkagndaaNums
import Derived.Laws.BitsLemmas
import Derived.Lib.EndianBits
namespace Go.Proofs.Ytgbdedkbkagndaa
open Go.RowKit
set_option linter.unusedVariables false

theorem sizes_bad (x m : Int) (w : World) (hx : 0 ≤ x) (hm : m < 1 ∨ 8 < m) :
    Calls Try.prog 7 #[.int .u64 x, .int .i64 m] w fun e w' => e = .returned (.bool true) ∧ Below w.heap.size w w' := by
  obtain ⟨B, hB⟩ : ∃ B, w.heap.size = B := ⟨_, rfl⟩
  have hBle : B ≤ w.heap.size := by omega
  rw [hB]
  have hnum : numB x m = [] := by unfold numB; rw [if_neg (by omega)]
  have hrn : rnum m (List.replicate 9 0, 0) = ((List.replicate 9 0, 1), 0) := by
    have hb : (decide (1 ≤ m) && decide (m ≤ 8)) = false := by
      rcases hm with h | h
      · rw [decide_eq_false (by omega)]; rfl
      · rw [decide_eq_false (p := m ≤ 8) (by omega), Bool.and_false]
    unfold rnum
    rw [if_neg (by rw [hb]; decide)]
    rfl
  have HNUM := Lib.hid hnum
  have HRN := Lib.hid hrn
  have aw := awake_any w
  rw [hB] at aw
  have AW := Lib.hid aw
  clear hB hnum hrn aw
  go_enter Try.func7, Try.ntmps7
  go_wp2_with fail
  refine AW.out.mono ?_
  rintro e w1 ⟨rfl, k1⟩
  clear AW
  go_wp2_with fail
  refine (newWriterB B _ (Nat.le_trans hBle k1.size)).mono ?_
  rintro e w2 ⟨b, rfl, hw2, k2⟩
  go_wp2_with fail
  refine (wrNumB B b _ x m _ hw2 hx (by simp)).mono ?_
  rintro e w3 ⟨rfl, hw3, k3⟩
  rw [HNUM.out] at hw3
  have K3 := (k1.trans k2).trans k3
  clear k1 k2 k3 hw2 HNUM
  go_wp2_with fail
  refine (wrOutB B b _ _ hw3 (by simp)).mono ?_
  rintro e w4 ⟨A, c, rfl, hown, k4⟩
  have K4 := K3.trans (k4.below hw3.2.1 (fun _ _ => id))
  clear K3 k4 hw3 hown
  have hB4 : B ≤ w4.heap.size := by have := K4.size; omega
  have hmk : ∀ w, (Instr.makeSlice 23 (.int .i64 9) (.int .i64 9)).run Try.prog w = .ok (.slice (some ⟨w.heap.size, 0, none⟩) 9 9) (w.alloc (.cells (bvs (List.replicate 9 0)).toArray 5)) := fun _ => by kernel_rfl
  have hrd := newReaderB B (some ⟨w4.heap.size, 0, none⟩) 9 (List.replicate 9 0) (w4.alloc (.cells (bvs (List.replicate 9 0)).toArray 5)) (by simp; omega) (fun j u hu => ⟨_, rfl, World.news_of_block (heap_alloc_new w4 _) j u hu⟩) (by decide)
  have HRD := Lib.hid hrd
  have K5 := K4.alloc hB4 (.cells (bvs (List.replicate 9 0)).toArray 5)
  clear hrd
  rcases hm with hm | hm
  all_goals
    go_wp2_with fail
    refine HRD.out.mono ?_
    rintro e w5 ⟨rb, rfl, hr5, k5⟩
    have K6 := K5.trans k5
    go_wp2_with fail
    refine (rdNumB B rb m _ _ hr5).mono ?_
    rintro e w6 ⟨rfl, hr6, k6, _⟩
    have K7 := K6.trans k6
    rw [HRN.out] at hr6 ⊢
    clear K6 K5 k5 k6 hr5 hmk
    go_wp2_with fail
    refine (rdErrB B rb _ _ hr6).mono ?_
    rintro e w7 ⟨rfl, rfl⟩
    go_wp2
    go_ret
    exact ⟨rfl, K7⟩

theorem and_mask (x : Int) (n : Nat) (hx : 0 ≤ x) (h1 : x < 18446744073709551616) (hk : n < 8) : bits .and .u64 x (IntKind.u64.wrap (IntKind.u64.wrap (2 ^ (8 * n)) - 1)) = x % 256 ^ n := by
  have e : (2 : Int) ^ (8 * n) = 256 ^ n := by rw [Int.pow_mul]; rfl
  have h0 : (0 : Int) < 2 ^ (8 * n) := Int.pow_pos (by decide)
  have h2 : (2 : Int) ^ (8 * n) ≤ 72057594037927936 := by
    have : n = 0 ∨ n = 1 ∨ n = 2 ∨ n = 3 ∨ n = 4 ∨ n = 5 ∨ n = 6 ∨ n = 7 := by omega
    rcases this with rfl | rfl | rfl | rfl | rfl | rfl | rfl | rfl <;> decide
  rw [IntWalk.u64_in (2 ^ (8 * n)) (by omega), IntWalk.u64_in _ (by omega), ← e]
  refine bits_mask .u64 64 (by decide) wraps_u64 (8 * n) (by omega) x hx ?_
  have : (2 : Int) ^ 64 = 18446744073709551616 := by decide
  omega

theorem sizes_ok (x : Int) (n : Nat) (w : World) (hx : 0 ≤ x) (hx1 : x < 18446744073709551616) (h1 : 1 ≤ n) (h8 : n ≤ 8) :
    Calls Try.prog 7 #[.int .u64 x, .int .i64 n] w fun e w' => e = .returned (.bool true) ∧ Below w.heap.size w w' := by
  obtain ⟨B, hB⟩ : ∃ B, w.heap.size = B := ⟨_, rfl⟩
  have hBle : B ≤ w.heap.size := by omega
  rw [hB]
  have hnum : numB x n = nb x n := by unfold numB; rw [if_pos (by omega)]; rfl
  have hrn : rnum n (nb x n, 0) = (([], 0), x % 256 ^ n) := by
    have := rnum_front x n [] hx h1 h8
    rwa [List.append_nil] at this
  have hnl := nb_length x n
  have HNUM := Lib.hid hnum
  have HRN := Lib.hid hrn
  have HNL := Lib.hid hnl
  have aw := awake_any w
  rw [hB] at aw
  have AW := Lib.hid aw
  clear hB hnum hrn aw hnl
  go_enter Try.func7, Try.ntmps7
  go_wp2_with fail
  refine AW.out.mono ?_
  rintro e w1 ⟨rfl, k1⟩
  clear AW
  go_wp2_with fail
  refine (newWriterB B _ (Nat.le_trans hBle k1.size)).mono ?_
  rintro e w2 ⟨b, rfl, hw2, k2⟩
  go_wp2_with fail
  refine (wrNumB B b _ x n _ hw2 hx (by simp)).mono ?_
  rintro e w3 ⟨rfl, hw3, k3⟩
  rw [HNUM.out, List.nil_append] at hw3
  have K3 := (k1.trans k2).trans k3
  clear k1 k2 k3 hw2 HNUM
  go_wp2_with fail
  refine (wrOutB B b _ _ hw3 (by rw [HNL.out]; omega)).mono ?_
  rintro e w4 ⟨A, c, rfl, hown, k4⟩
  have K4 := K3.trans (k4.below hw3.2.1 (fun _ _ => id))
  have hB4 : B ≤ w4.heap.size := by have := K4.size; omega
  have hrd := newReaderB B A c (nb x n) w4 hB4 (Src.of_own hown) (by rw [HNL.out]; omega)
  rw [HNL.out] at hrd ⊢
  have HRD := Lib.hid hrd
  clear K3 k4 hw3 hown hrd
  by_cases hn8 : n < 8
  · have hm := and_mask x n hx hx1 hn8
    generalize hX : x % 256 ^ n = X at *
    clear hX
    go_wp2_with fail
    refine HRD.out.mono ?_
    rintro e w5 ⟨rb, rfl, hr5, k5⟩
    have K6 := K4.trans k5
    go_wp2_with fail
    refine (rdNumB B rb n _ _ hr5).mono ?_
    rintro e w6 ⟨rfl, hr6, k6, _⟩
    have K7 := K6.trans k6
    rw [HRN.out] at hr6 ⊢
    clear K6 k5 k6 hr5 hm
    go_wp2_with fail
    refine (rdEndB B rb _ _ hr6).mono ?_
    rintro e w7 ⟨rfl, rfl⟩
    go_wp2
    go_ret
    exact ⟨rfl, K7⟩
  · have hm : x % 256 ^ n = x := by
      have : n = 8 := by omega
      subst this
      exact Int.emod_eq_of_lt hx hx1
    have HM := Lib.hid hm
    clear hm
    go_wp2_with fail
    refine HRD.out.mono ?_
    rintro e w5 ⟨rb, rfl, hr5, k5⟩
    have K6 := K4.trans k5
    go_wp2_with fail
    refine (rdNumB B rb n _ _ hr5).mono ?_
    rintro e w6 ⟨rfl, hr6, k6, _⟩
    have K7 := K6.trans k6
    rw [HRN.out, HM.out] at hr6 ⊢
    clear K6 k5 k6 hr5
    go_wp2_with fail
    refine (rdEndB B rb _ _ hr6).mono ?_
    rintro e w7 ⟨rfl, rfl⟩
    go_wp2
    go_ret
    exact ⟨rfl, K7⟩

theorem sizes_walk (x m : Int) (hx : (Lit.int .u64 x).wf = true) (hm : (Lit.int .i64 m).wf = true) (w : World) :
    Calls Try.prog 7 #[.int .u64 x, .int .i64 m] w fun e w' => e = .returned (.bool true) ∧ Below w.heap.size w w' := by
  have hb := bounds_u64 hx
  by_cases h : 1 ≤ m ∧ m ≤ 8
  · obtain ⟨n, rfl⟩ := Int.eq_ofNat_of_zero_le (show 0 ≤ m by omega)
    exact sizes_ok x n w hb.1 (by omega) (by omega) (by omega)
  · exact sizes_bad x m w hb.1 (by omega)
end Go.Proofs.Ytgbdedkbkagndaa
