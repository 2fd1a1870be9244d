/-
  OctetBig: as many bytes as may be are read, one more is too many: for whatever bytes, and whatever number, the law returns true.
-/
import Derived.Test.YtgbdedkbkagndaaAwake
import Derived.Test.YtgbdedkbkagndaaNums
namespace Go.Proofs.Ytgbdedkbkagndaa
open Go.RowKit
set_option linter.unusedVariables false

theorem big_walk (A : Option Addr) (len cap : Nat) (zs : List Int) (most : Int) (w : World) (hr : IsRowU .u8 w A len cap zs) (hmw : (Lit.int .i64 most).wf = true) :
    Calls Try.prog 8 #[.slice A len cap, .int .i64 most] w fun e w' => e = .returned (.bool true) ∧ Below w.heap.size w w' := by
  obtain ⟨bs, rfl, hs, hlc, hcm⟩ := hr.src
  have AW := Lib.hid (awake_any w)
  by_cases hlen : bs.length ≤ 300
  · obtain ⟨ps, hps⟩ : ∃ ps, nb (bs.length : Int) 2 ++ bs = ps := ⟨_, rfl⟩
    have H0 : Hid (ps = (nb (bs.length : Int) 2 ++ bs) ++ []) := by show _ = _; rw [List.append_nil, hps]
    have hxl : ps.length ≤ 302 := by rw [← hps, List.length_append, nb_length]; omega
    have HPS := Lib.hid hps
    have HOK : Hid ((bs.length : Int) ≤ most → rbytes most (ps, 0) = (([], 0), bs)) := fun h => by
      rw [H0.out]; exact rbytes_ok bs [] most (by omega) h
    have HBIG : Hid (most < (bs.length : Int) → rbytes most (ps, 0) = ((bs, 13), [])) := fun h => by
      rw [H0.out, rbytes_big bs [] most (by omega) h, List.append_nil]
    clear hps
    go_enter Try.func8, Try.ntmps8
    go_wp2_with fail
    refine AW.out.mono ?_
    rintro e w1 ⟨rfl, k1⟩
    go_wp2_with fail
    refine (newWriterB w.heap.size _ k1.size).mono ?_
    rintro e w2 ⟨b, rfl, hw2, k2⟩
    go_wp2_with fail
    refine (wrBytesB b _ bs A cap w _ (k1.trans k2) hw2 hs hlc (by simp; omega) (by omega)).mono ?_
    rintro e w3 ⟨rfl, hw3, k3⟩
    rw [List.nil_append, HPS.out] at hw3
    have K3 := (k1.trans k2).trans k3
    clear k1 k2 k3 hw2
    go_wp2_with fail
    refine (wrOutB _ b _ _ hw3 (by omega)).mono ?_
    rintro e w4 ⟨A4, c4, rfl, hown, k4⟩
    have K4 := K3.trans (k4.below hw3.2.1 (fun _ _ => id))
    have hrd := newReaderB w.heap.size A4 c4 _ w4 K4.size (Src.of_own hown) (by omega)
    have HRD := Lib.hid hrd
    clear K3 k4 hw3 hown hrd
    go_wp2_with fail
    refine HRD.out.mono ?_
    rintro e w5 ⟨rb, rfl, hr5, k5⟩
    have K5 := K4.trans k5
    clear K4 k5
    go_wp2_with fail
    refine (rdBytesB _ rb most _ _ hr5 (by show ps.length ≤ _; omega)).mono ?_
    rintro e w6 ⟨A6, c6, rfl, hown6, hr6, k6, _⟩
    have K6 := K5.trans k6
    by_cases hm : most < (bs.length : Int)
    · rw [HBIG.out hm] at hr6 hown6 ⊢
      clear hr5 k6 K5 hown6
      go_wp2_with fail
      refine (rdErrB _ rb _ _ hr6).mono ?_
      rintro e w7 ⟨rfl, rfl⟩
      go_wp2_with fail
      refine (rdEndB _ rb _ _ hr6).mono ?_
      rintro e w7 ⟨rfl, rfl⟩
      go_wp2
      go_ret
      exact ⟨rfl, K6⟩
    · rw [HOK.out (by omega)] at hr6 hown6 ⊢
      have hs6 := run_string_src (P := Try.prog) w6 23 9 5 Try.underlying23 Try.underlying5 Try.underlying9 A6 bs c6 (Src.of_own hown6)
      have hsb := run_string_src (P := Try.prog) w6 23 9 5 Try.underlying23 Try.underlying5 Try.underlying9 A bs cap (hs.later K6)
      clear hr5 k6 K5 hown6
      go_wp2_with fail
      refine (rdEndB _ rb _ _ hr6).mono ?_
      rintro e w7 ⟨rfl, rfl⟩
      go_wp2
      go_ret
      exact ⟨rfl, K6⟩
  · go_enter Try.func8, Try.ntmps8
    go_wp2_with fail
    refine AW.out.mono ?_
    rintro e w1 ⟨rfl, k1⟩
    go_wp2
    go_ret
    exact ⟨rfl, k1⟩
end Go.Proofs.Ytgbdedkbkagndaa
