/-
  The law CrcBurst walked: bytes that differ in up to 32 bits on end have different sums.
-/
import Derived.Test.YtfacjpdceennhaaCrRo
namespace Go.Proofs.Ytfacjpdceennhaa
open Go.RowKit Go.BigFrame
set_option linter.unusedVariables false

theorem flip_u8 (x : UInt8) (m : Nat) (hm : m < 8) : bits .xor .u8 (x.toNat : Int) ((2 : Int) ^ m % 256) = (((x ^^^ UInt8.ofNat (2 ^ m)).toNat : Nat) : Int) := by
  have h2 : 2 ^ m < 256 := Nat.lt_of_lt_of_le (Nat.pow_lt_pow_right (by decide) hm) (by decide)
  have e : ((2 : Int) ^ m % 256) = ((2 ^ m : Nat) : Int) := by
    rw [show (256 : Int) = ((256 : Nat) : Int) from rfl, show ((2 : Int) ^ m) = ((2 ^ m : Nat) : Int) by simp, ← Int.natCast_emod, Nat.mod_eq_of_lt h2]
  rw [e, u8_xor_nat _ _ x.toNat_lt h2, UInt8.toNat_xor, UInt8.toNat_ofNat_of_lt' h2]
theorem bit_u32 (b i : Nat) (hb : b < 2 ^ 32) : (bits .and .u32 ((b : Int) / 2 ^ i) 1 == 1) = b.testBit i := by
  have h1 : ((b : Int) / 2 ^ i) = ((b / 2 ^ i : Nat) : Int) := by simp
  have h2 : b / 2 ^ i < 2 ^ 32 := Nat.lt_of_le_of_lt (Nat.div_le_self _ _) hb
  rw [h1, show (1 : Int) = ((1 : Nat) : Int) from rfl, u32_and_nat _ _ h2 (by decide), Nat.and_one_is_mod, Nat.testBit_eq_decide_div_mod_eq]
  rw [Bool.eq_iff_iff]
  simp
  omega
set_option maxRecDepth 100000 in
set_option maxHeartbeats 1000000 in
theorem cbu_short (A : Option Addr) (len c : Nat) (at0 bu : Int) (W : World) (hlen : len < 4) :
    Calls Try.prog 4 #[.slice A len c, .int .u16 at0, .int .u32 bu] W fun e W' => e = .returned (.bool true) ∧ Below W.heap.size W W' := by
  have HAW := Lib.hid (awake10_any W)
  have hl' : (len : Int) < 4 := by omega
  go_enter Try.func4, Try.ntmps4
  go_wp2_with fail
  refine HAW.out.mono ?_
  rintro e w3 ⟨rfl, k3⟩
  go_wp2
  go_ret
  exact ⟨rfl, keeps_belowC k3⟩
set_option maxRecDepth 100000 in
set_option maxHeartbeats 1000000 in
theorem cbu_long (A : Option Addr) (len c : Nat) (at0 bu : Int) (W : World) (hlen : 300 < len) (hmax : len ≤ 9223372036854775807) :
    Calls Try.prog 4 #[.slice A len c, .int .u16 at0, .int .u32 bu] W fun e W' => e = .returned (.bool true) ∧ Below W.heap.size W W' := by
  have HAW := Lib.hid (awake10_any W)
  have hl' : (300 : Int) < len := by omega
  have hl2 : ¬ (len : Int) < 4 := by omega
  go_enter Try.func4, Try.ntmps4
  go_wp2_with fail
  refine HAW.out.mono ?_
  rintro e w3 ⟨rfl, k3⟩
  go_wp2
  go_ret
  exact ⟨rfl, keeps_belowC k3⟩
set_option maxRecDepth 100000 in
set_option maxHeartbeats 2000000 in
theorem cbu_in (A : Option Addr) (c n : Nat) (at0 bu : Nat) (xs : List UInt8) (W : World) (hs : Src W A (bvs xs)) (hxn : xs.length = n) (hlo : 4 ≤ n) (hlen : n ≤ 300) (hcap : n ≤ c) (hmax : c ≤ 9223372036854775807) (hat : at0 < 65536) (hbu : bu < 2 ^ 32) :
    Calls Try.prog 4 #[.slice A n c, .int .u16 (at0 : Int), .int .u32 (bu : Int)] W fun e W' => e = .returned (.bool true) ∧ Below W.heap.size W W' := by
  obtain ⟨i0, hi0, hz0, hs0, hb0⟩ := info_parts info_u8c
  have HAW := Lib.hid (awake10_any W)
  have hn1 : ¬ (n : Int) < 4 := by omega
  have hn2 : ¬ (300 : Int) < (n : Int) := by omega
  obtain ⟨k, hk⟩ : ∃ k : Nat, at0 % (8 * n - 31) = k := ⟨_, rfl⟩
  have hkn : k + 32 ≤ 8 * n := by have := Nat.mod_lt at0 (show 0 < 8 * n - 31 by omega); omega
  have hki : (at0 : Int).tmod (8 * (n : Int) - 31) = (k : Int) := by
    rw [Int.tmod_eq_emod_of_nonneg (by omega), ← hk, show (8 * (n : Int) - 31) = ((8 * n - 31 : Nat) : Int) by omega]; simp
  have hwr : wrap64 (at0 : Int) = (at0 : Int) := IntWalk.wrap64_in _ (by omega)
  have HS := Lib.hid hs
  have HXN := Lib.hid hxn
  have HBU := Lib.hid hbu
  have HBD := Lib.hid (And.intro hlo hlen)
  clear hs hxn hk hat hbu
  go_enter Try.func4, Try.ntmps4
  go_wp2_with fail
  refine HAW.out.mono ?_
  rintro e w1 ⟨rfl, k1⟩
  clear HAW
  have HS1 : Hid (Src w1 A (bvs xs)) := Lib.hid (HS.out.keeps k1 (fun _ _ _ => id))
  have HW : Hid (∀ V, Keeps (fun k => w1.heap.size ≤ k) w1 V → Below W.heap.size W V) := Lib.hid (fun V hk => keeps_belowC (k1.trans' hk (fun i hi h => by have := k1.size; omega)))
  clear HS k1
  go_wp2_with (at_builtin; refine wpList_append_src _ rfl _ _ 22 rfl w1.heap.size 5 i0 (.int .u8 0) 1 Try.underlying22 hi0 hz0 hs0 hb0 rfl (.slice none 0 0) 0 (bvs []) rfl (World.ownsRow_nil _ _ _ _) A n c (bvs xs) rfl (by rw [bvs_length]; exact HXN.out) HS1.out (bvs_one _) (by unfold maxLen; omega) (by omega) (Nat.le_refl _) ?next1)
  case next1 =>
  intro v5 w5 o5 g5 at5
  have K5 : Keeps (fun k => w1.heap.size ≤ k) w1 w5 := (Keeps.refl _ _).grown g5 (fun k hk hr => by cases hr)
  rw [bvs_append, List.nil_append] at o5
  obtain ⟨A5, c5, rfl, hn5, m5, hrow⟩ := RowIn.of_own o5
  obtain ⟨g, rfl⟩ : ∃ g, A5 = some ⟨g, 0, none⟩ := by
    rcases o5.2 with ⟨h, _⟩ | ⟨g, cap, cur, h, _⟩
    · injection h with h1 h2 h3; omega
    · injection h with h1 h2 h3; exact ⟨g, h1⟩
  have hg1 : w1.heap.size ≤ g := (o5.lt g rfl).1
  have HO5 := Lib.hid o5
  have HK5 := Lib.hid K5
  clear o5 at5 g5 K5 hrow
  go_wp2_with fail
  go_loopw [10] (fun iv wr => ∃ i : Nat, i ≤ 32 ∧ iv = .int .i64 (i : Int) ∧ Hid (wr.ownsRow w1.heap.size 5 1 (.slice (some ⟨g, 0, none⟩) n c5) n (bvs (Cr.flips k bu xs i))) ∧ Hid (Keeps (fun k => w1.heap.size ≤ k) w1 wr)) (fun iv _ => 32 - (intOf iv).toNat)
  case atStart => exact ⟨0, by omega, rfl, HO5, HK5⟩
  case round =>
    clear HO5 HK5
    obtain ⟨i, hi, rfl, HO, HK⟩ := hrel
    by_cases hlt : i < 32
    · have hii : (i : Int) < 32 := by omega
      cases hbt : (bits .and .u32 ((bu : Int) / 2 ^ i) 1 == 1) with
      | true =>
        have hfl : (Cr.flips k bu xs i).length = n := by rw [Cr.flips_length]; exact HXN.out
        have hq : (k + i) / 8 < n := by omega
        obtain ⟨x, hx⟩ : ∃ x, (Cr.flips k bu xs i)[(k + i) / 8]? = some x := ⟨_, List.getElem?_eq_getElem (by rw [hfl]; exact hq)⟩
        have hcell : wr.cell? ⟨g, (k + i) / 8, none⟩ = some (.int .u8 (x.toNat : Int)) := by rw [HO.out.cellAt _ (by omega), bvs_get, hx]; rfl
        have hfr := HO.out.frozenAt ((k + i) / 8)
        have hst := (HO.out.stored ((k + i) / 8) (bv (x ^^^ UInt8.ofNat (2 ^ ((k + i) % 8))))).1
        have hfv := flip_u8 x ((k + i) % 8) (by omega)
        have hstep : (bvs (Cr.flips k bu xs i)).set ((k + i) / 8) (bv (x ^^^ UInt8.ofNat (2 ^ ((k + i) % 8)))) = bvs (Cr.flips k bu xs (i + 1)) := by
          rw [Cr.flips, if_pos (by rw [← bit_u32 bu i HBU.out]; exact hbt), Cr.turn, List.getD_eq_getElem?_getD, hx, bvs, bvs, List.map_set]; rfl
        rw [hstep] at hst
        have HST := Lib.hid hst
        have HFV := Lib.hid hfv
        clear hfl hx hst hfv hstep
        go_wp2
        go_roundw
        case rel =>
          go_light
          refine ⟨i + 1, by omega, by go_num, ?_, Lib.hid (HK.out.setCell (fun _ => hg1) _)⟩
          rw [HFV.out]
          exact HST
        case measure => simp [intOf]; omega
      | false =>
        go_wp2_with fail
        go_roundw
        case rel =>
          refine ⟨i + 1, by omega, by go_num, ?_, HK⟩
          rw [Cr.flips, if_neg (by rw [← bit_u32 bu i HBU.out, hbt]; decide)]
          exact HO
        case measure => simp [intOf]; omega
    · obtain rfl : i = 32 := by omega
      have hfl : (Cr.flips k bu xs 32).length = n := by rw [Cr.flips_length]; exact HXN.out
      have hsb := Cr.sum_burst xs k bu (by rw [HXN.out]; exact hkn) HBU.out
      obtain ⟨ys, hys⟩ : ∃ ys, Cr.flips k bu xs 32 = ys := ⟨_, rfl⟩
      rw [hys] at hfl hsb HO
      have s4 : Src wr (some ⟨g, 0, none⟩) (bvs ys) := Src.of_own HO.out
      have s1 : Src wr A (bvs xs) := HS1.out.keeps HK.out (fun a _ h1 h2 => by omega)
      unfold maxLen at m5
      obtain ⟨W6, hW6⟩ : ∃ V, wr.alloc (.cells #[.slice (some ⟨g, 0, none⟩) n c5] 22) = V := ⟨_, rfl⟩
      have k6 : Keeps (fun _ => False) wr W6 := by rw [← hW6]; exact (Keeps.refl _ _).alloc _
      have r6 : Row W6 wr.heap.size 22 [.slice (some ⟨g, 0, none⟩) n c5] := by rw [← hW6]; exact heap_alloc_new wr _
      have hof := crc_any _ 1 _ W6 (rowsAt_one (a := ⟨wr.heap.size, 0, none⟩) (r := (some ⟨g, 0, none⟩, c5, ys)) (by rw [add_plain]; show _ = some (Value.slice _ ys.length c5); rw [hfl]; exact r6.cell 0) (s4.keeps k6 (fun _ _ _ => id)) ⟨by show ys.length ≤ c5; rw [hfl]; omega, by show c5 ≤ _; omega⟩) (by simp) (by simp [hfl]; omega)
      rw [show bytesOf [((some ⟨g, 0, none⟩ : Option Addr), c5, ys)] = ys by simp [bytesOf]] at hof
      obtain ⟨X, hX⟩ : ∃ X, ci (Cr.sum ys) = X := ⟨_, rfl⟩
      obtain ⟨Y, hY⟩ : ∃ Y, ci (Cr.sum xs) = Y := ⟨_, rfl⟩
      have hxy : X = Y ↔ bu = 0 := by rw [← hX, ← hY, ci_inj]; exact hsb
      have HOF : Hid (Calls Try.prog 9 #[.slice (some ⟨wr.heap.size, 0, none⟩) 1 1] W6 fun e w' => e = .returned (.int .u32 X) ∧ Keeps (fun _ => False) W6 w') := by rw [← hX]; exact hof
      have S1 : Hid (Src W6 A (bvs xs)) := Lib.hid (s1.keeps k6 (fun _ _ _ => id))
      have HY := Lib.hid hY
      have HXY := Lib.hid hxy
      have HK6 : Hid (Keeps (fun k => w1.heap.size ≤ k) w1 W6) := Lib.hid (HK.out.trans (k6.mono (fun _ _ h => h.elim)))
      clear hof hX hY hsb hxy s4 s1 hfl hys HO HK r6 k6 HS1
      go_wp2_with fail
      refine HOF.out.mono ?_
      rintro e w7 ⟨rfl, k7⟩
      clear HOF hW6
      have s7 := S1.out.keeps k7 (fun _ _ _ => id)
      obtain ⟨W8, hW8⟩ : ∃ V, w7.alloc (.cells #[.slice A n c] 22) = V := ⟨_, rfl⟩
      have k8 : Keeps (fun _ => False) w7 W8 := by rw [← hW8]; exact (Keeps.refl _ _).alloc _
      have r8 : Row W8 w7.heap.size 22 [.slice A n c] := by rw [← hW8]; exact heap_alloc_new w7 _
      have hof := crc_any _ 1 _ W8 (rowsAt_one (a := ⟨w7.heap.size, 0, none⟩) (r := (A, c, xs)) (by rw [add_plain]; show _ = some (Value.slice A xs.length c); rw [HXN.out]; exact r8.cell 0) (s7.keeps k8 (fun _ _ _ => id)) ⟨by show xs.length ≤ c; rw [HXN.out]; omega, hmax⟩) (by simp) (by simp [HXN.out]; omega)
      rw [show bytesOf [(A, c, xs)] = xs by simp [bytesOf]] at hof
      have HOF : Hid (Calls Try.prog 9 #[.slice (some ⟨w7.heap.size, 0, none⟩) 1 1] W8 fun e w' => e = .returned (.int .u32 Y) ∧ Keeps (fun _ => False) W8 w') := by rw [← HY.out]; exact hof
      have hK8 : Keeps (fun k => w1.heap.size ≤ k) w1 W8 := HK6.out.trans ((k7.trans k8).mono (fun _ _ h => h.elim))
      clear hof s7 r8 k7 k8 HK6 S1
      go_wp2_with fail
      refine HOF.out.mono ?_
      rintro e w9 ⟨rfl, k9⟩
      clear HOF hW8
      have fin := HW.out _ (hK8.trans (k9.mono (T := fun k => w1.heap.size ≤ k) (fun _ _ h => h.elim)))
      have hfin : ((X == Y) == ((bu : Int) == 0)) = true := by
        have h := HXY.out
        by_cases hb : bu = 0
        · rw [h.2 hb, hb]; simp
        · have h1 : ¬ X = Y := fun e => hb (h.1 e)
          have h2 : ¬ (bu : Int) = 0 := by omega
          rw [beq_eq_false_iff_ne.2 h1, beq_eq_false_iff_ne.2 h2]; rfl
      go_wp2
      go_ret
      exact ⟨rfl, fin⟩
theorem cbu_all (A : Option Addr) (len c : Nat) (zs : List Int) (at0 bu : Int) (W : World) (hA : IsRowU .u8 W A len c zs) (hat : (Lit.int .u16 at0).wf = true) (hbu : (Lit.int .u32 bu).wf = true) :
    Calls Try.prog 4 #[.slice A len c, .int .u16 at0, .int .u32 bu] W fun e W' => e = .returned (.bool true) ∧ Below W.heap.size W W' := by
  obtain ⟨xs, hl, hs, h1, h2⟩ := hA.src
  have hb := bounds_u16 hat
  have hb2 := bounds_u32 hbu
  by_cases h0 : len < 4
  · exact cbu_short A len c at0 bu W h0
  by_cases h : len ≤ 300
  · have := cbu_in A c len at0.toNat bu.toNat xs W hs hl (by omega) h h1 h2 (by omega) (by omega)
    rwa [show ((at0.toNat : Nat) : Int) = at0 by omega, show ((bu.toNat : Nat) : Int) = bu by omega] at this
  · exact cbu_long A len c at0 bu W (by omega) (by omega)
end Go.Proofs.Ytfacjpdceennhaa
