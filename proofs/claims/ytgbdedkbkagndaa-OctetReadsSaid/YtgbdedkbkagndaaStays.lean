/-
  OctetStays: behind an error nothing is read any more, and it stays: for whatever bytes, and whatever calls, the law returns true.
-/
import Derived.Test.YtgbdedkbkagndaaAwake
import Derived.Test.YtgbdedkbkagndaaNums
import Derived.Deep.LoopGhost
import Derived.Deep.DeepCutAuto
import Derived.Laws.BitsLemmas
namespace Go.Proofs.Ytgbdedkbkagndaa
open Go.RowKit
set_option linter.unusedVariables false

theorem failS_err (x : Int) (s : RS) (h : s.2 ≠ 0) : failS x s = s := by unfold failS; rw [if_neg h]
theorem tk_err (n : Nat) (s : RS) (h : s.2 ≠ 0) : tk n s = (s, []) := by unfold tk; rw [if_neg h]
theorem rnum_err (n : Int) (s : RS) (h : s.2 ≠ 0) : rnum n s = (s, 0) := by
  unfold rnum
  split
  · rw [tk_err _ s h]; rfl
  · rw [failS_err _ s h]
theorem rraw_err (n : Int) (s : RS) (h : s.2 ≠ 0) : rraw n s = (s, []) := by
  unfold rraw
  split
  · rw [failS_err _ s h]
  · exact tk_err _ s h
theorem rbytes_err (n : Int) (s : RS) (h : s.2 ≠ 0) : rbytes n s = (s, []) := by
  unfold rbytes
  rw [rnum_err 2 s h]
  split
  · rw [failS_err _ s h]
  · exact rraw_err _ s h
theorem rend_err (s : RS) (h : s.2 ≠ 0) : rend s = s.2 := by unfold rend; rw [if_neg h]
theorem rraw_left (n : Int) (s : RS) : (rraw n s).1.1.length ≤ s.1.length := by
  unfold rraw
  split
  · rw [failS_len]; exact Nat.le_refl _
  · exact tk_left _ _
theorem rbytes_left (n : Int) (s : RS) : (rbytes n s).1.1.length ≤ s.1.length := by
  unfold rbytes
  have := rnum_left 2 s
  split
  · rw [failS_len]; exact this
  · exact Nat.le_trans (rraw_left _ _) this

theorem and3 (c : UInt8) : bits .and .u8 (c.toNat : Int) 3 = (c.toNat : Int) % 4 := by
  have := c.toNat_lt
  exact bits_mask .u8 8 (by decide) wraps_u8 2 (by decide) _ (by omega) (by show (c.toNat : Int) < 256; omega)
theorem stays_walk (A : Option Addr) (len cap : Nat) (zs : List Int) (A2 : Option Addr) (len2 cap2 : Nat) (zs2 : List Int) (w : World) (hr : IsRowU .u8 w A len cap zs) (hr2 : IsRowU .u8 w A2 len2 cap2 zs2) :
    Calls Try.prog 6 #[.slice A len cap, .slice A2 len2 cap2] w fun e w' => e = .returned (.bool true) ∧ Below w.heap.size w w' := by
  obtain ⟨bs, rfl, hs, hlc, hcm⟩ := hr.src
  obtain ⟨cs, rfl, hs2, hlc2, hcm2⟩ := hr2.src
  have AW := Lib.hid (awake_any w)
  clear hr hr2
  by_cases hlen : bs.length ≤ 200
  · by_cases hlen2 : cs.length ≤ 40
    · go_enter Try.func6, Try.ntmps6
      go_wp2_with fail
      refine AW.out.mono ?_
      rintro e w1 ⟨rfl, k1⟩
      go_wp2_with fail
      refine (newReaderB w.heap.size A cap bs _ k1.size (hs.later k1) (by omega)).mono ?_
      rintro e w2 ⟨rb, rfl, hr5, k5⟩
      have K2 := k1.trans k5
      clear k1 k5
      go_wp2_with fail
      go_loopw [7, 8] (fun f i wr => ∃ (k : Nat) (l : List UInt8) (e : Int), k ≤ cs.length ∧ i = .int .i64 k ∧ f = .int .i64 e ∧ RdB wr w.heap.size rb (l, e) ∧ Below w.heap.size w wr ∧ l.length ≤ 200)
        (fun _ i _ => cs.length - (intOf i).toNat)
      case atStart => exact ⟨0, bs, 0, Nat.zero_le _, rfl, rfl, hr5, K2, hlen⟩
      case round =>
        obtain ⟨k, l, e, hk, rfl, rfl, hrd, hbl, hll⟩ := hrel
        by_cases hlt : k < cs.length
        · obtain ⟨a2, rfl⟩ := hs2.addr (j := k) (by rw [bvs_length]; exact hlt)
          have hc := (hs2.later hbl).at_ (bvs_at cs hlt)
          have hq := and3 cs[k]
          obtain ⟨c, hcc⟩ : ∃ c : Nat, cs[k].toNat = c := ⟨_, rfl⟩
          have hc0 : c < 256 := by have := cs[k].toNat_lt; omega
          rw [hcc] at hc hq
          clear hcc
          have HS2 := Lib.hid hs2
          have HS := Lib.hid hs
          clear hs2 hs hr5 K2
          by_cases q0 : c % 4 = 0
          · have hq0 : bits .and .u8 (c : Int) 3 = 0 := by rw [hq]; omega
            clear hq q0
            by_cases he : e = 0
            · subst he
              go_wp2_with fail
              refine (rdNumB _ rb _ _ _ hrd).mono ?_
              rintro e w6 ⟨rfl, hr6, k6, _⟩
              have hll6 := rnum_left ((c : Int) / 4) (l, 0)
              generalize rnum ((c : Int) / 4) (l, 0) = p at *
              have hll7 : p.1.1.length ≤ 200 := Nat.le_trans hll6 hll
              go_wp2_with fail
              refine (rdErrB _ rb _ _ hr6).mono ?_
              rintro e w7 ⟨rfl, rfl⟩
              go_wp2
              go_roundw
              case rel => exact ⟨k + 1, p.1.1, p.1.2, by omega, by go_num, rfl, hr6, hbl.trans k6, hll7⟩
              case measure => simp [intOf]; omega
            · have hb : (e != 0) = true := by simpa using he
              have HE : Hid ((l, e).2 ≠ 0) := he
              clear he
              go_wp2_with fail
              refine (rdNumB _ rb _ _ _ hrd).mono ?_
              rintro e6 w6 ⟨rfl, hr6, k6, _⟩
              rw [rnum_err _ _ HE.out] at hr6 ⊢
              go_wp2_with fail
              refine (rdErrB _ rb _ _ hr6).mono ?_
              rintro e7 w7 ⟨rfl, rfl⟩
              go_wp2_with fail
              refine (rdEndB _ rb _ _ hr6).mono ?_
              rintro e7 w7 ⟨rfl, rfl⟩
              rw [rend_err _ HE.out]
              go_wp2_with fail
              refine (rdErrB _ rb _ _ hr6).mono ?_
              rintro e7 w7 ⟨rfl, rfl⟩
              go_wp2
              go_roundw
              case rel => exact ⟨k + 1, l, e, by omega, by go_num, rfl, hr6, hbl.trans k6, hll⟩
              case measure => simp [intOf]; omega
          · by_cases q1 : c % 4 = 1
            · have hq0 : bits .and .u8 (c : Int) 3 = 1 := by rw [hq]; omega
              clear hq q0 q1
              by_cases he : e = 0
              · subst he
                go_wp2_with fail
                refine (rdRawB _ rb _ _ _ hrd (by show l.length ≤ _; omega)).mono ?_
                rintro e w6 ⟨A6, c6, rfl, hown6, hr6, k6, _⟩
                have hll6 := rraw_left ((c : Int) / 4) (l, 0)
                clear hown6
                generalize rraw ((c : Int) / 4) (l, 0) = p at *
                have hll7 : p.1.1.length ≤ 200 := Nat.le_trans hll6 hll
                go_wp2_with fail
                refine (rdErrB _ rb _ _ hr6).mono ?_
                rintro e w7 ⟨rfl, rfl⟩
                go_wp2
                go_roundw
                case rel => exact ⟨k + 1, p.1.1, p.1.2, by omega, by go_num, rfl, hr6, hbl.trans k6, hll7⟩
                case measure => simp [intOf]; omega
              · have hb : (e != 0) = true := by simpa using he
                have HE : Hid ((l, e).2 ≠ 0) := he
                clear he
                go_wp2_with fail
                refine (rdRawB _ rb _ _ _ hrd (by show l.length ≤ _; omega)).mono ?_
                rintro e6 w6 ⟨A6, c6, rfl, hown6, hr6, k6, _⟩
                clear hown6
                rw [rraw_err _ _ HE.out] at hr6 ⊢
                go_wp2_with fail
                refine (rdErrB _ rb _ _ hr6).mono ?_
                rintro e7 w7 ⟨rfl, rfl⟩
                go_wp2_with fail
                refine (rdEndB _ rb _ _ hr6).mono ?_
                rintro e7 w7 ⟨rfl, rfl⟩
                rw [rend_err _ HE.out]
                go_wp2_with fail
                refine (rdErrB _ rb _ _ hr6).mono ?_
                rintro e7 w7 ⟨rfl, rfl⟩
                go_wp2
                go_roundw
                case rel => exact ⟨k + 1, l, e, by omega, by go_num, rfl, hr6, hbl.trans k6, hll⟩
                case measure => simp [intOf]; omega
            · obtain ⟨q, hqq⟩ : ∃ q, bits .and .u8 (c : Int) 3 = q := ⟨_, rfl⟩
              have hqa : (q == 0) = false := by
                have : q ≠ 0 := by omega
                simpa using this
              have hqb : (q == 1) = false := by
                have : q ≠ 1 := by omega
                simpa using this
              clear hq q0 q1
              by_cases he : e = 0
              · subst he
                go_wp2_with fail
                refine (rdBytesB _ rb _ _ _ hrd (by show l.length ≤ _; omega)).mono ?_
                rintro e w6 ⟨A6, c6, rfl, hown6, hr6, k6, _⟩
                have hll6 := rbytes_left ((c : Int) / 4) (l, 0)
                clear hown6
                generalize rbytes ((c : Int) / 4) (l, 0) = p at *
                have hll7 : p.1.1.length ≤ 200 := Nat.le_trans hll6 hll
                go_wp2_with fail
                refine (rdErrB _ rb _ _ hr6).mono ?_
                rintro e w7 ⟨rfl, rfl⟩
                go_wp2
                go_roundw
                case rel => exact ⟨k + 1, p.1.1, p.1.2, by omega, by go_num, rfl, hr6, hbl.trans k6, hll7⟩
                case measure => simp [intOf]; omega
              · have hb : (e != 0) = true := by simpa using he
                have HE : Hid ((l, e).2 ≠ 0) := he
                clear he
                go_wp2_with fail
                refine (rdBytesB _ rb _ _ _ hrd (by show l.length ≤ _; omega)).mono ?_
                rintro e6 w6 ⟨A6, c6, rfl, hown6, hr6, k6, _⟩
                clear hown6
                rw [rbytes_err _ _ HE.out] at hr6 ⊢
                go_wp2_with fail
                refine (rdErrB _ rb _ _ hr6).mono ?_
                rintro e7 w7 ⟨rfl, rfl⟩
                go_wp2_with fail
                refine (rdEndB _ rb _ _ hr6).mono ?_
                rintro e7 w7 ⟨rfl, rfl⟩
                rw [rend_err _ HE.out]
                go_wp2_with fail
                refine (rdErrB _ rb _ _ hr6).mono ?_
                rintro e7 w7 ⟨rfl, rfl⟩
                go_wp2
                go_roundw
                case rel => exact ⟨k + 1, l, e, by omega, by go_num, rfl, hr6, hbl.trans k6, hll⟩
                case measure => simp [intOf]; omega
        · go_wp2
          go_ret
          exact ⟨rfl, hbl⟩
    · go_enter Try.func6, Try.ntmps6
      go_wp2_with fail
      refine AW.out.mono ?_
      rintro e w1 ⟨rfl, k1⟩
      go_wp2
      go_ret
      exact ⟨rfl, k1⟩
  · go_enter Try.func6, Try.ntmps6
    go_wp2_with fail
    refine AW.out.mono ?_
    rintro e w1 ⟨rfl, k1⟩
    go_wp2
    go_ret
    exact ⟨rfl, k1⟩
end Go.Proofs.Ytgbdedkbkagndaa
