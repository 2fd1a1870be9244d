/-
  OctetBack: what is put is read as it was; cut anywhere it ends too early: for whatever numbers, bytes and place, the law returns true.
-/
import Derived.Test.YtgbdedkbkagndaaAwake
import Derived.Test.YtgbdedkbkagndaaNums
import Derived.Deep.LoopGhost
namespace Go.Proofs.Ytgbdedkbkagndaa
open Go.RowKit
set_option linter.unusedVariables false

theorem eights_take_len (ls : List Int) (k : Nat) : (eights (ls.take k)).length ≤ 8 * ls.length := by
  rw [eights_length, List.length_take]; omega

theorem back_walk (A : Option Addr) (len cap : Nat) (zs : List Int) (A2 : Option Addr) (len2 cap2 : Nat) (zs2 : List Int) (at_ : Int) (w : World) (hr : IsRowU .u64 w A len cap zs) (hr2 : IsRowU .u8 w A2 len2 cap2 zs2) (hat : (Lit.int .u16 at_).wf = true) :
    Calls Try.prog 5 #[.slice A len cap, .slice A2 len2 cap2, .int .u16 at_] w fun e w' => e = .returned (.bool true) ∧ Below w.heap.size w w' := by
  obtain ⟨ls, rfl, hs, hwf, hlc, hcm⟩ := hr.ints
  obtain ⟨bs, rfl, hs2, hlc2, hcm2⟩ := hr2.src
  have hb := bounds_u16 hat
  have AW := Lib.hid (awake_any w)
  clear hr hr2 hat
  by_cases hlen : ls.length ≤ 30
  · by_cases hlen2 : bs.length ≤ 200
    · obtain ⟨all, hall⟩ : ∃ all, eights ls ++ (nb (bs.length : Int) 2 ++ bs) = all := ⟨_, rfl⟩
      have hal : all.length = 8 * ls.length + 2 + bs.length := by rw [← hall, List.length_append, eights_length, List.length_append, nb_length]; omega
      obtain ⟨k, hk⟩ : ∃ k : Nat, at_ % ((all.length : Int) + 1) = k := Int.eq_ofNat_of_zero_le (Int.emod_nonneg _ (by omega))
      have hkl : k ≤ all.length := by have := Int.emod_lt_of_pos at_ (show (0 : Int) < (all.length : Int) + 1 by omega); omega
      have hal2 : all.length ≤ 442 := by omega
      have HALL := Lib.hid hall
      have HAL := Lib.hid hal
      clear hall hal
      have HKE := Lib.hid hk
      clear hk
      go_enter Try.func5, Try.ntmps5
      go_wp2_with fail
      refine AW.out.mono ?_
      rintro e w1 ⟨rfl, k1⟩
      go_wp2_with fail
      refine (newWriterB w.heap.size _ k1.size).mono ?_
      rintro e w2 ⟨b, rfl, hw2, k2⟩
      have K2 := k1.trans k2
      clear k1 k2
      go_wp2_with fail
      go_loopw [9] (fun i wr => ∃ j : Nat, j ≤ ls.length ∧ i = .int .i64 j ∧ WrB wr w.heap.size b (eights (ls.take j)) ∧ Below w.heap.size w wr) (fun i _ => ls.length - (intOf i).toNat)
      case atStart => exact ⟨0, Nat.zero_le _, rfl, hw2, K2⟩
      case round =>
        obtain ⟨j, hj, rfl, hwr, hbl⟩ := hrel
        by_cases hlt : j < ls.length
        · obtain ⟨a1, rfl⟩ := hs.addr (j := j) (by rw [List.length_map]; exact hlt)
          have hc := (hs.later hbl).at_ (j := j) (u := .int .u64 ls[j]) (by rw [List.getElem?_map, List.getElem?_eq_getElem hlt]; rfl)
          have hx := bounds_u64 (hwf _ (List.getElem_mem hlt))
          have hsn : Hid (eights (ls.take (j + 1)) = eights (ls.take j) ++ numB ls[j] 8) := eights_snoc ls j hlt
          have hel := eights_take_len ls j
          generalize ls[j] = x at *
          have HWF := Lib.hid hwf
          clear hwf
          go_wp2_with fail
          refine (wrNumB _ b _ x _ _ hwr hx.1 (by omega)).mono ?_
          rintro e w3 ⟨rfl, hw3, k3⟩
          go_wp2
          go_roundw
          case rel => exact ⟨j + 1, by omega, by go_num, by rw [hsn.out]; exact hw3, hbl.trans k3⟩
          case measure => simp [intOf]; omega
        · have hjl : ls.take j = ls := List.take_of_length_le (by omega)
          rw [hjl] at hwr
          clear hjl
          have hel := eights_length ls
          have HEL := Lib.hid hel
          clear hel
          go_wp2_with fail
          refine (wrBytesB b _ bs A2 cap2 w _ hbl hwr hs2 hlc2 (by rw [HEL.out]; omega) (by omega)).mono ?_
          rintro e w3 ⟨rfl, hw3, k3⟩
          rw [HALL.out] at hw3
          have K3 := hbl.trans k3
          clear hwr hbl k3
          go_wp2_with fail
          refine (wrOutB _ b _ _ hw3 (by omega)).mono ?_
          rintro e w4 ⟨A4, c4, rfl, hown, k4⟩
          have K4 := K3.trans (k4.below hw3.2.1 (fun _ _ => id))
          obtain ⟨_, _, hv, hlc4, hcm4, _⟩ := RowIn.of_own hown
          injection hv with q1 q2 q3
          subst q1 q3
          unfold maxLen at hcm4
          have hsr := (Src.of_own hown).take k
          rw [bvs_take] at hsr
          clear K3 k4 hw3 hown q2
          have hke := HKE.out
          have hkc : k ≤ c4 := by omega
          have hkt : (all.take k).length = k := by rw [List.length_take, Nat.min_eq_left hkl]
          have hrd := newReaderB w.heap.size A4 c4 (all.take k) w4 K4.size hsr (by omega)
          rw [hkt] at hrd
          have HRD := Lib.hid hrd
          have hdn : (all.take k).drop (8 * ls.length) = (nb (bs.length : Int) 2 ++ bs).take (k - 8 * ls.length) := by
            rw [List.drop_take, ← HALL.out, List.drop_append_of_le_length (by rw [HEL.out]; omega), List.drop_of_length_le (by rw [HEL.out]; omega), List.nil_append]
          have HDN := Lib.hid hdn
          have HAT : Hid (∀ i, (h : i < ls.length) → be ((all.drop (8 * i)).take 8) = ls[i]) := fun i h => by
            rw [← HALL.out, eights_at ls _ i h, be_u64 _ (hwf _ (List.getElem_mem h))]
          have HWF := Lib.hid hwf
          have h8 : 8 * ls.length + 2 ≤ all.length := by have := HAL.out; omega
          clear hkt hrd hsr hdn hwf
          go_wp2_with fail
          refine HRD.out.mono ?_
          rintro e w5 ⟨rb, rfl, hr5, k5⟩
          have K5 := K4.trans k5
          clear K4 k5 HRD
          go_wp2_with fail
          have hs0 := hs
          have HS := Lib.hid hs0
          clear hs hs0 hw2 K2
          obtain ⟨wo, rfl⟩ : ∃ wo : World, wo = wr := ⟨_, rfl⟩
          go_loopw [13, 14] (fun i _ wr => ∃ j : Nat, j ≤ ls.length ∧ 8 * j ≤ k ∧ i = .int .i64 j ∧ RdB wr w.heap.size rb ((all.take k).drop (8 * j), 0) ∧ Below w.heap.size w wr) (fun i _ _ => ls.length - (intOf i).toNat)
          case atStart => exact ⟨0, Nat.zero_le _, Nat.zero_le _, rfl, hr5, K5⟩
          case round =>
            obtain ⟨i, hi, h8i, rfl, hrd, hbl⟩ := hrel
            clear hr5 K5
            have hll : ((all.take k).drop (8 * i)).length ≤ 442 := by rw [List.length_drop, List.length_take]; omega
            by_cases hlt2 : i < ls.length
            · by_cases hsh : k < 8 * i + 8
              · have hst := cut_num_short all k i hkl hsh
                have HST := Lib.hid hst
                clear hst
                go_wp2_with fail
                refine (rdNumB _ rb _ _ _ hrd).mono ?_
                rintro e w6 ⟨rfl, hr6, k6, _⟩
                rw [HST.out] at hr6 ⊢
                have K6 := hbl.trans k6
                clear hrd hbl k6
                go_wp2_with fail
                refine (rdErrB _ rb _ _ hr6).mono ?_
                rintro e w7 ⟨rfl, rfl⟩
                go_wp2
                go_ret
                exact ⟨rfl, K6⟩
              · have hst := cut_num all k i hkl (by omega)
                rw [HAT.out i hlt2] at hst
                have HST := Lib.hid hst
                clear hst
                obtain ⟨a1, rfl⟩ := HS.out.addr (j := i) (by rw [List.length_map]; exact hlt2)
                have HC : Hid (∀ wx, Below w.heap.size w wx → wx.cell? (a1.add i) = some (.int .u64 ls[i])) := fun wx h => (HS.out.later h).at_ (j := i) (u := .int .u64 ls[i]) (by rw [List.getElem?_map, List.getElem?_eq_getElem hlt2]; rfl)
                generalize ls[i] = x at *
                go_wp2_with fail
                refine (rdNumB _ rb _ _ _ hrd).mono ?_
                rintro e w6 ⟨rfl, hr6, k6, _⟩
                rw [HST.out] at hr6 ⊢
                have K6 := hbl.trans k6
                have hc := HC.out _ K6
                clear hrd hbl k6
                go_wp2
                go_roundw
                case rel => exact ⟨i + 1, by omega, by omega, by go_num, hr6, K6⟩
                case measure => simp [intOf]; omega
            · obtain rfl : i = ls.length := by omega
              by_cases hcut : k < all.length
              · obtain ⟨l, hl1, hl2⟩ := rbytes_cut bs (k - 8 * ls.length) 200 (by omega) (by omega) (by have := HAL.out; omega)
                rw [← HDN.out] at hl1
                have HL1 := Lib.hid hl1
                clear hl1
                go_wp2_with fail
                refine (rdBytesB _ rb _ _ _ hrd (Nat.le_trans hll (by omega))).mono ?_
                rintro e w6 ⟨A6, c6, rfl, hown6, hr6, k6, _⟩
                rw [HL1.out] at hr6 ⊢
                have K6 := hbl.trans k6
                clear hrd hbl k6 hown6
                go_wp2_with fail
                refine (rdErrB _ rb _ _ hr6).mono ?_
                rintro e w7 ⟨rfl, rfl⟩
                go_wp2
                go_ret
                exact ⟨rfl, K6⟩
              · have hfull : rbytes 200 ((all.take k).drop (8 * ls.length), 0) = (([], 0), bs) := by
                  rw [HDN.out, List.take_of_length_le (by rw [List.length_append, nb_length]; have := HAL.out; omega)]
                  have := rbytes_ok bs [] 200 (by omega) (by omega)
                  rwa [List.append_nil] at this
                have HL1 := Lib.hid hfull
                clear hfull
                go_wp2_with fail
                refine (rdBytesB _ rb _ _ _ hrd (Nat.le_trans hll (by omega))).mono ?_
                rintro e w6 ⟨A6, c6, rfl, hown6, hr6, k6, _⟩
                rw [HL1.out] at hr6 hown6 ⊢
                have K6 := hbl.trans k6
                have hsa := run_string_src (P := Try.prog) w6 23 9 5 Try.underlying23 Try.underlying5 Try.underlying9 A6 bs c6 (Src.of_own hown6)
                have hsb := run_string_src (P := Try.prog) w6 23 9 5 Try.underlying23 Try.underlying5 Try.underlying9 A2 bs cap2 (hs2.later K6)
                clear hrd hbl k6 hown6
                go_wp2_with fail
                refine (rdEndB _ rb _ _ hr6).mono ?_
                rintro e w7 ⟨rfl, rfl⟩
                go_wp2
                go_ret
                exact ⟨rfl, K6⟩
    · go_enter Try.func5, Try.ntmps5
      go_wp2_with fail
      refine AW.out.mono ?_
      rintro e w1 ⟨rfl, k1⟩
      go_wp2
      go_ret
      exact ⟨rfl, k1⟩
  · go_enter Try.func5, Try.ntmps5
    go_wp2_with fail
    refine AW.out.mono ?_
    rintro e w1 ⟨rfl, k1⟩
    go_wp2
    go_ret
    exact ⟨rfl, k1⟩
end Go.Proofs.Ytgbdedkbkagndaa
