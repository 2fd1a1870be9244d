/-
  The law FrontierGoes walked: one entry more lets just as many peaks be as bits that are 1 then.
-/
import Derived.Test.YtnnhbgaeohdojaaDoorFrW
import Derived.Test.YtnnhbgaeohdojaaDoorTrL
namespace Go.Proofs.YtnnhbgaeohdojaaDoor
open Go.RowKit Go.BigFrame
set_option linter.unusedVariables false

theorem fgoes_long (n : Int) (A : Option Addr) (l c : Nat) (x : Int) (W : World) (hT : Tabs W) (hl : 40 < l) (hmax : l ≤ 9223372036854775807) :
    Calls Tryd.prog 10 #[.int .u32 n, .slice A l c, .int .u8 x] W fun e W' => e = .returned (.bool true) ∧ Below W.heap.size W W' := by
  have HAW := Lib.hid (awake5_any W hT)
  have hl' : (40 : Int) < l := by omega
  clear hT
  go_enter Tryd.func10, Tryd.ntmps10
  go_wp2_with fail
  refine HAW.out.mono ?_
  rintro e1 w1 ⟨rfl, k1⟩
  go_wp2
  go_ret
  exact ⟨rfl, keeps_below3 k1⟩
theorem fgoes_not (n : Nat) (A : Option Addr) (l c : Nat) (x : Int) (W : World) (hT : Tabs W) (hn : n ≤ 4294967295) (hl : l ≤ 40) (hne : l ≠ On.ones 64 n) :
    Calls Tryd.prog 10 #[.int .u32 (n : Int), .slice A l c, .int .u8 x] W fun e W' => e = .returned (.bool true) ∧ Below W.heap.size W W' := by
  have HAW := Lib.hid (awake5_any W hT)
  have hl' : ¬ (40 : Int) < l := by omega
  have HF := Lib.hid (fun V => from_not n A l c V (by omega) (by omega) hne)
  clear hT hne
  go_enter Tryd.func10, Tryd.ntmps10
  go_wp2_with fail
  refine HAW.out.mono ?_
  rintro e1 w1 ⟨rfl, k1⟩
  go_wp2_with fail
  refine (HF.out w1).mono ?_
  rintro e2 w2 ⟨rfl, h2⟩
  obtain rfl : w1 = w2 := h2.symm
  go_wp2
  go_ret
  exact ⟨rfl, keeps_below3 k1⟩
set_option maxRecDepth 100000 in
set_option maxHeartbeats 4000000 in
theorem fgoes_in (n : Nat) (A : Option Addr) (ps : List (List UInt8)) (c : Nat) (x : Nat) (W : World) (hT : Tabs W) (hn : n ≤ 4294967295) (hP : PathAt W A ps) (hl : ps.length ≤ 40) (he : ps.length = On.ones 64 n) (hx : x ≤ 255) :
    Calls Tryd.prog 10 #[.int .u32 (n : Int), .slice A ps.length c, .int .u8 (x : Int)] W fun e W' => e = .returned (.bool true) ∧ Below W.heap.size W W' := by
  have HAW := Lib.hid (awake5_any W hT)
  have hfrom := fun V (hV : Keeps (fun _ => False) W V) => from_any n A c ps V (by omega) (hP.keeps hV (fun _ _ => id)) he
  obtain ⟨m, hm⟩ : ∃ m, ps.length = m := ⟨_, rfl⟩
  rw [hm] at hfrom hl ⊢
  have hl' : ¬ (40 : Int) < m := by omega
  have hld : decide ((40 : Int) < m) = false := by rw [decide_eq_false_iff_not]; exact hl'
  have HFR := Lib.hid hfrom
  have HT := Lib.hid hT
  have HE := Lib.hid he
  obtain ⟨k, hk⟩ : ∃ k : Nat, x % 20 = k := ⟨_, rfl⟩
  have hk20 : k < 20 := by omega
  have ht : Int.tmod (x : Int) 20 = (k : Int) := by rw [Int.tmod_eq_emod_of_nonneg (by omega)]; omega
  have hk0 : (0 : Int) ≤ k := by omega
  have hk1 : (k : Int) < 20 := by omega
  obtain ⟨b, hb⟩ : ∃ b, W.heap.size = b := ⟨_, rfl⟩
  have hb2 : 2 ≤ b := by have := hT.lt; omega
  have HB := Lib.hid hb
  clear hfrom hT he hP hm hb
  go_enter Tryd.func10, Tryd.ntmps10
  go_wp2_with fail
  refine HAW.out.mono ?_
  rintro e1 w1 ⟨rfl, k1⟩
  go_wp2_with fail
  refine (HFR.out w1 k1).mono ?_
  rintro e2 w2 ⟨g, rfl, hf2, k2⟩
  have hbw1 : b ≤ w1.heap.size := by rw [← HB.out]; exact k1.size
  obtain ⟨base, hbase⟩ : ∃ q, w1.heap.size = q := ⟨_, rfl⟩
  rw [hbase] at hf2 hbw1
  have HF2 := Lib.hid hf2
  have K2 := Lib.hid (k1.trans k2)
  have hgb := hf2.lo
  clear HAW HFR k1 k2 hf2 hbase
  go_wp2_with fail
  go_loopw [10, 11, 12] (fun iv nv xv wr => ∃ (i : Nat) (qs : List (List UInt8)), i ≤ k ∧ iv = .int .i64 (i : Int) ∧ Hid (qs.length = On.ones 64 (n + i) ∧ Fro wr base g (n + i) qs) ∧ Hid (Keeps (fun _ => False) W wr)) (fun iv _ _ _ => k - (intOf iv).toNat)
  case atStart => exact ⟨0, ps, by omega, rfl, Lib.hid ⟨HE.out, HF2.out⟩, K2⟩
  case round =>
    clear HF2 K2 HE
    obtain ⟨i, qs, hi, rfl, HF, HK⟩ := hrel
    by_cases hlt : i < k
    · have hw8 : IntKind.u8.wrap (i : Int) = (i : Int) := by rw [IntKind.wrap_u8]; omega
      have hik : (i : Int) < k := by omega
      have hi20 : (i : Int) < 20 := by omega
      have hbi : ((UInt8.ofNat i).toNat : Int) = (i : Int) := by rw [UInt8.toNat_ofNat', Nat.mod_eq_of_lt (by omega)]
      have hbv : bvs [UInt8.ofNat i] = [.int .u8 (i : Int)] := by unfold bvs bv; rw [List.map_cons, hbi]; rfl
      obtain ⟨V1, hV1⟩ : ∃ V, wr.alloc (.cells #[.int .u8 (i : Int)] 5) = V := ⟨_, rfl⟩
      have k1 : Keeps (fun _ => False) wr V1 := by rw [← hV1]; exact (Keeps.refl _ _).alloc _
      have r1 : Row V1 wr.heap.size 5 (bvs [UInt8.ofNat i]) := by rw [hbv, ← hV1]; exact heap_alloc_new wr _
      have hadd := fadd_any base g (n + i) qs (some ⟨wr.heap.size, 0, none⟩) 1 [UInt8.ofNat i] V1 (HT.out.keeps (HK.out.trans k1) id id) (HF.out.2.later k1) (src_blk r1) (Nat.le_refl _) (by omega) (by show (1 : Nat) ≤ 1000; omega) (by omega) HF.out.1 (by omega)
      have hpl := Tr.addP_length (n + i) qs (Tr.leaf [UInt8.ofNat i]) (by omega) HF.out.1
      rw [show ([UInt8.ofNat i] : List UInt8).length = 1 from rfl] at hadd
      obtain ⟨qs2, hqs2⟩ : ∃ q, Tr.addP (n + i) qs (Tr.leaf [UInt8.ofNat i]) = q := ⟨_, rfl⟩
      rw [hqs2] at hadd hpl
      have HADD := Lib.hid hadd
      have HPL := Lib.hid hpl
      have K1 := Lib.hid (HK.out.trans k1)
      clear hadd hpl k1 r1 hbv hbi hqs2
      go_wp2_with fail
      refine HADD.out.mono ?_
      rintro e w4 ⟨rfl, hf4, k4⟩
      have K4 := Lib.hid (K1.out.trans' k4 (fun q hq e => by have := HB.out; omega))
      have HF4 := Lib.hid hf4
      have HSZ := Lib.hid (fun V (hV : Keeps (fun _ => False) w4 V) => size_any base g (n + i + 1) qs2 V (hf4.later hV))
      have HPE := Lib.hid (fun V (hV : Keeps (fun _ => False) w4 V) => peaks_any base g (n + i + 1) qs2 V (hf4.later hV) (by rw [HPL.out]; have := On.ones_le 64 (n + i + 1); omega))
      obtain ⟨z, hz⟩ : ∃ z, n + i + 1 = z := ⟨_, rfl⟩
      obtain ⟨o, ho⟩ : ∃ o, On.ones 64 z = o := ⟨_, rfl⟩
      have ho64 : o ≤ 64 := by rw [← ho]; exact On.ones_le 64 z
      have hpl2 := HPL.out
      rw [hz, ho] at hpl2
      rw [hpl2] at HPE
      rw [hz] at HSZ HF4
      have HPL2 := Lib.hid hpl2
      have HO := Lib.hid ho
      have HZ := Lib.hid hz
      have hzi : (n : Int) + (i : Int) + 1 = (z : Int) := by omega
      have hz1 : (z : Int) < 4294967400 := by omega
      have hz2 : z < 4294967400 := by omega
      clear hf4 k4 HADD HPL ho hpl2 hz K1
      go_wp2_with fail
      refine (HSZ.out w4 (Keeps.refl _ _)).mono ?_
      rintro e w5 ⟨rfl, h5⟩
      obtain rfl : w4 = w5 := h5.symm
      go_wp2_with fail
      go_loopw [11, 12] (fun av xv wv => ∃ (a y : Nat), av = .int .i64 (a : Int) ∧ xv = .int .u64 (y : Int) ∧ Hid (a + On.ones 64 y = o) ∧ a ≤ 64 ∧ y < 4294967400 ∧ wv = w4) (fun _ xv _ => (intOf xv).toNat)
      case atStart => exact ⟨0, z, rfl, rfl, Lib.hid (by rw [HO.out]; omega), by omega, hz2, rfl⟩
      case round =>
        obtain ⟨a, y, rfl, rfl, HA, ha, hy, rfl⟩ := hrel
        by_cases hy0 : 0 < y
        · have hy0' : (0 : Int) < y := by omega
          obtain ⟨y2, hy2⟩ : ∃ q, y / 2 = q := ⟨_, rfl⟩
          obtain ⟨r2, hr2⟩ : ∃ q, y % 2 = q := ⟨_, rfl⟩
          have hq : (y : Int) / 2 = (y2 : Int) := by omega
          have hr : (y : Int) % 2 = (r2 : Int) := by omega
          have hqt : Int.tdiv (y : Int) 2 = (y2 : Int) := by rw [Int.tdiv_eq_ediv_of_nonneg (by omega)]; exact hq
          have hrt : Int.tmod (y : Int) 2 = (r2 : Int) := by rw [Int.tmod_eq_emod_of_nonneg (by omega)]; exact hr
          have hh := Tr.ones_half y (by omega)
          have hr1 : (r2 : Int) ≤ 1 := by omega
          have hyc : (y : Int) < 4294967400 := by omega
          rw [hy2, hr2] at hh
          have HA2 : Hid (a + r2 + On.ones 64 y2 = o) := Lib.hid (by have := HA.out; omega)
          have HA3 : a + r2 ≤ 64 := by have := HA2.out; omega
          clear hh HA
          go_wp2
          go_roundw
          case rel => exact ⟨a + r2, y2, by go_num, rfl, HA2, HA3, by omega, by first | rfl | trivial⟩
          case measure => simp [intOf]; omega
        · obtain rfl : y = 0 := by omega
          have hao : a = o := by have := HA.out; rw [Tr.ones_none] at this; omega
          subst hao
          have hzz : ((z : Int) != (z : Int)) = false := by simp
          have hoo : ((a : Int) != (a : Int)) = false := by simp
          clear HA
          go_wp2_with fail
          refine (HSZ.out _ (Keeps.refl _ _)).mono ?_
          rintro e w6 ⟨rfl, h6⟩
          obtain rfl : wr = w6 := h6.symm
          go_wp2_with fail
          refine (HPE.out _ (Keeps.refl _ _)).mono ?_
          rintro e w7 ⟨v, rfl, ho7, k7⟩
          obtain ⟨A7, c7, rfl⟩ := own_slice ho7
          have K7 := Lib.hid k7
          clear ho7 k7
          go_wp2
          go_roundw
          case rel => exact ⟨i + 1, qs2, by omega, by go_num, Lib.hid ⟨by rw [HPL2.out, ← HO.out, ← HZ.out]; rfl, by rw [show n + (i + 1) = z from HZ.out]; exact HF4.out.later K7.out⟩, Lib.hid (K4.out.trans K7.out)⟩
          case measure => simp [intOf]; omega
    · obtain rfl : i = k := by omega
      go_wp2
      go_ret
      exact ⟨rfl, keeps_below3 HK.out⟩
theorem fgoes_walk (n : Int) (A : Option Addr) (len c : Nat) (hs : List (List UInt8)) (x : Int) (W : World) (hT : Tabs W) (h0 : (Lit.int .u32 n).wf = true) (h1 : IsHashes W A len c hs) (h2 : (Lit.int .u8 x).wf = true) :
    Calls Tryd.prog 10 #[.int .u32 n, .slice A len c, .int .u8 x] W fun e W' => e = .returned (.bool true) ∧ Below W.heap.size W W' := by
  have b0 := bounds_u32 h0
  have b2 := bounds_u8 h2
  obtain ⟨n, rfl⟩ := Int.eq_ofNat_of_zero_le b0.1
  obtain ⟨x, rfl⟩ := Int.eq_ofNat_of_zero_le b2.1
  have hP := PathAt.of_hashes h1
  obtain ⟨rfl, hc, hm, _⟩ := h1
  rcases Nat.lt_or_ge 40 hs.length with h40 | h40
  · exact fgoes_long n A _ c x W hT h40 (by omega)
  · by_cases he : hs.length = On.ones 64 n
    · exact fgoes_in n A hs c x W hT (by omega) hP h40 he (by omega)
    · exact fgoes_not n A _ c x W hT (by omega) h40 he
end Go.Proofs.YtnnhbgaeohdojaaDoor
