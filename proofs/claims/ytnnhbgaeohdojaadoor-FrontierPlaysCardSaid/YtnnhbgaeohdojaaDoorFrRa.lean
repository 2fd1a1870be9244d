/-
  The document's own frontier (package assayerref05): the whole parts of a size.
-/
import Derived.Test.YtnnhbgaeohdojaaDoorFrT
import Derived.Laws.AppendOwn
namespace Go.Proofs.YtnnhbgaeohdojaaDoor
open Go.RowKit Go.BigFrame
set_option linter.unusedVariables false

namespace Tr
/-- The powers of two of a size's bits, the lowest first. -/
def asc : Nat → Nat → Nat → List Nat
  | 0, _, _ => []
  | f + 1, k, n => if n % 2 = 1 then k :: asc f (2 * k) (n / 2) else asc f (2 * k) (n / 2)
theorem asc_length : ∀ (f k n : Nat), (asc f k n).length = On.ones f n
  | 0, _, _ => rfl
  | f + 1, k, n => by
    unfold asc
    simp only [On.ones]
    split
    · rw [List.length_cons, asc_length]; omega
    · rw [asc_length]; omega
theorem asc_zero : ∀ (f k : Nat), asc f k 0 = []
  | 0, _ => rfl
  | f + 1, k => by unfold asc; rw [if_neg (by omega)]; exact asc_zero f _
/-- The same, the highest first. -/
def pts (n : Nat) : List Nat := (asc 64 1 n).reverse
theorem pts_length (n : Nat) : (pts n).length = On.ones 64 n := by unfold pts; rw [List.length_reverse, asc_length]
end Tr
def u64s (l : List Nat) : List Value := l.map fun n : Nat => .int .u64 (n : Int)
theorem u64s_one (l : List Nat) : ∀ u ∈ u64s l, u.oneCell' = true := by
  intro u hu
  obtain ⟨c, _, rfl⟩ := List.mem_map.1 hu
  rfl
theorem u64s_length (l : List Nat) : (u64s l).length = l.length := by unfold u64s; rw [List.length_map]
set_option maxRecDepth 100000 in
set_option maxHeartbeats 1500000 in
theorem rparts_any (n : Nat) (w : World) (hn : n ≤ 18446744073709551615) :
    Calls Tryd.prog 57 #[.int .u64 (n : Int)] w fun e w' => ∃ A c, e = .returned (.slice A (Tr.pts n).length c) ∧ w'.ownsRow w.heap.size 23 1 (.slice A (Tr.pts n).length c) (Tr.pts n).length (u64s (Tr.pts n)) ∧ Keeps (fun _ => False) w w' := by
  obtain ⟨i0, hi0, hz0, hs0, hb0⟩ := info_parts (show (Tryd.prog.info? 23).map (fun i => (i.zero, i.size, i.bytes)) = some (some (.int .u64 0), 1, 8) by kernel_rfl)
  have HII := Lib.hid (And.intro hi0 (And.intro hz0 (And.intro hs0 hb0)))
  obtain ⟨b, hb⟩ : ∃ b, w.heap.size = b := ⟨_, rfl⟩
  have HB := Lib.hid hb
  rw [hb]
  obtain ⟨P, hP⟩ : ∃ P, Tr.pts n = P := ⟨_, rfl⟩
  have HPP := Lib.hid hP
  rw [hP]
  clear hi0 hz0 hs0 hb0 hb hP
  go_enter Tryd.func57, Tryd.ntmps57
  go_wp2_with fail
  go_loopw [0, 3, 4] (fun nv lv kv wr => ∃ (f m k : Nat) (A : Option Addr) (s c : Nat) (l : List Nat), nv = .int .u64 (m : Int) ∧ lv = .slice A s c ∧ kv = .int .u64 (k : Int) ∧ s + f ≤ 64 ∧ k ≤ 18446744073709551615 ∧ m ≤ 18446744073709551615 ∧ Hid (l.length = s ∧ m < 2 ^ f ∧ (m ≠ 0 → k = 2 ^ (64 - f)) ∧ (Tr.asc f (2 ^ (64 - f)) m).reverse ++ l = P) ∧ Hid (wr.ownsRow b 23 1 (.slice A s c) s (u64s l)) ∧ Hid (Keeps (fun _ => False) w wr)) (fun nv _ _ _ => (intOf nv).toNat)
  case atStart => exact ⟨64, n, 1, none, 0, 0, [], rfl, rfl, rfl, by omega, by omega, hn, Lib.hid ⟨rfl, by omega, fun _ => rfl, by rw [List.append_nil]; exact HPP.out⟩, Lib.hid (World.ownsRow_nil _ _ _ _), Lib.hid (Keeps.refl _ _)⟩
  case round =>
    obtain ⟨f, m, k, A, s, c, l, rfl, rfl, rfl, hsf, hk, hm, HL, HO, HK⟩ := hrel
    by_cases hm0 : m = 0
    · subst hm0
      have hlp : l = P := by
        have := HL.out.2.2.2
        rw [Tr.asc_zero] at this
        exact this
      have hsl : s = P.length := by rw [← hlp]; exact HL.out.1.symm
      have HLP := Lib.hid hlp
      have HSL := Lib.hid hsl
      clear HL hlp hsl
      go_wp2
      go_ret
      exact ⟨A, c, by rw [← HSL.out]; rfl, by rw [← HSL.out, ← HLP.out]; exact HO.out, HK.out⟩
    · obtain ⟨f, rfl⟩ : ∃ g, f = g + 1 := ⟨f - 1, by
        rcases Nat.eq_zero_or_pos f with h | h
        · subst h
          have := HL.out.2.1
          simp at this
          omega
        · omega⟩
      have hkk := HL.out.2.2.1 hm0
      have hk63 : k ≤ 9223372036854775808 := by
        rw [hkk]
        exact Nat.pow_le_pow_right (n := 2) (i := 64 - (f + 1)) (j := 63) (by omega) (by omega)
      have hs70 : (s : Int) < 70 := by omega
      have hm1 : (0 : Int) < m := by omega
      obtain ⟨q, hq⟩ : ∃ q, m / 2 = q := ⟨_, rfl⟩
      obtain ⟨o, ho⟩ : ∃ o, m % 2 = o := ⟨_, rfl⟩
      have hqt : Int.tdiv (m : Int) 2 = (q : Int) := by rw [Int.tdiv_eq_ediv_of_nonneg (by omega)]; omega
      have hqd : (m : Int) / 2 = (q : Int) := by omega
      have hot : Int.tmod (m : Int) 2 = (o : Int) := by rw [Int.tmod_eq_emod_of_nonneg (by omega)]; omega
      have hod : (m : Int) % 2 = (o : Int) := by omega
      obtain ⟨k2, hk2⟩ : ∃ k2, k * 2 % 18446744073709551616 = k2 := ⟨_, rfl⟩
      have hkw : IntKind.u64.wrap ((k : Int) * 2) = (k2 : Int) := by rw [IntKind.wrap_u64]; omega
      have hk2b : k2 ≤ 18446744073709551615 := by omega
      have hqm : q < m := by omega
      have hpw : 64 - f = 64 - (f + 1) + 1 := by omega
      have hq2 : q < 2 ^ f := by
        have := HL.out.2.1
        rw [Nat.pow_succ] at this
        omega
      have hk3 : q ≠ 0 → k2 = 2 ^ (64 - f) := fun h => by
        have hf1 : 1 ≤ f := by
          rcases Nat.eq_zero_or_pos f with h0 | h0
          · subst h0
            simp at hq2
            omega
          · exact h0
        have : 2 ^ (64 - f) ≤ 2 ^ 63 := Nat.pow_le_pow_right (by omega) (by omega)
        rw [hpw, Nat.pow_succ] at this ⊢
        rw [hkk] at hk2
        have h63 : (2 : Nat) ^ 63 = 9223372036854775808 := by decide
        rw [h63] at this
        rw [Nat.mod_eq_of_lt (by omega)] at hk2
        exact hk2.symm
      have hP3 := HL.out.2.2.2
      unfold Tr.asc at hP3
      rw [hq] at hP3
      have h2k : 2 * 2 ^ (64 - (f + 1)) = 2 ^ (64 - f) := by rw [hpw, Nat.pow_succ, Nat.mul_comm]
      rw [h2k, ho] at hP3
      have hls := HL.out.1
      have HKK := Lib.hid hkk
      have HREST := Lib.hid (And.intro hq2 hk3)
      clear HL hk2 hq ho hkk hq2 hk3 h2k hpw
      rcases Nat.eq_zero_or_pos o with ho1 | ho1
      · subst ho1
        rw [if_neg (by omega)] at hP3
        have HP3 := Lib.hid hP3
        have HLS := Lib.hid hls
        clear hP3 hls
        go_wp2_with fail
        go_roundw
        case rel => exact ⟨f, q, k2, A, s, c, l, rfl, rfl, by first | rfl | go_num, by omega, hk2b, by omega, Lib.hid ⟨HLS.out, HREST.out.1, HREST.out.2, HP3.out⟩, HO, HK⟩
        case measure => simp [intOf]; omega
      · obtain rfl : o = 1 := by omega
        rw [if_pos rfl, ← HKK.out, List.reverse_cons, List.append_assoc] at hP3
        have HP3 := Lib.hid hP3
        have HLS := Lib.hid hls
        have hbw : b ≤ wr.heap.size := by rw [← HB.out]; exact HK.out.size
        obtain ⟨V1, hV1⟩ : ∃ V, wr.alloc (.cells #[.int .u64 (k : Int)] 23) = V := ⟨_, rfl⟩
        have kv1 : Keeps (fun _ => False) wr V1 := by rw [← hV1]; exact (Keeps.refl _ _).alloc _
        have rv1 : V1.heap[wr.heap.size]? = some (.cells #[.int .u64 (k : Int)] 23 (0, 0)) := by rw [← hV1]; exact heap_alloc_new wr _
        have own1 : V1.ownsRow b 23 1 (.slice (some ⟨wr.heap.size, 0, none⟩) 1 1) 1 (u64s [k]) := ⟨rfl, .inr ⟨_, 1, _, rfl, hbw, rv1, Nat.le_refl _, by unfold maxLen; omega, rfl, rfl⟩⟩
        have ho1' := kv1.owns HO.out (fun _ _ => id)
        have hbv : b ≤ V1.heap.size := Nat.le_trans hbw kv1.size
        have KV1 := Lib.hid kv1
        have OWN1 := Lib.hid own1
        have HO1 := Lib.hid ho1'
        have HGB : Hid (wr.heap.size ≥ w.heap.size) := Lib.hid HK.out.size
        clear hP3 hls kv1 rv1 own1 ho1'
        go_wp2_with (first
          | (rw [hV1])
          | (refine wpList_append_hashes (by rfl) (.tmp 18) (.tmp 19) 45 (by rfl) b 23 i0 (.int .u64 0) 1 8 Tryd.underlying45 HII.out.1 HII.out.2.1 HII.out.2.2.1 HII.out.2.2.2 rfl (by decide) (.slice (some ⟨wr.heap.size, 0, none⟩) 1 1) 1 (u64s [k]) (by rfl) OWN1.out (.slice A s c) s (u64s l) b (by rfl) HO1.out (u64s_one l) (by unfold maxLen; omega) (by omega) hbv ?_; intro v3 V3 ho3 hg3; have HO3 := Lib.hid ho3; have HG3 := Lib.hid hg3; obtain ⟨A3, c3, rfl⟩ := own_slice ho3; clear ho3 hg3))
        have k23 : Keeps (fun k => (Value.slice (some ⟨wr.heap.size, 0, none⟩) 1 1).ownBlock = some k) V1 V3 := (Keeps.refl _ _).grown HG3.out (fun _ _ h => h)
        have kw3 : Keeps (fun _ => False) w V3 := (HK.out.trans KV1.out).trans' k23 (fun k hk e => by
          simp only [Value.ownBlock, Option.some.injEq] at e
          have := HGB.out
          omega)
        have HO4 : Hid (V3.ownsRow b 23 1 (.slice A3 (1 + s) c3) (1 + s) (u64s (k :: l))) := HO3
        rw [Nat.add_comm 1 s] at HO4
        have KW3 := Lib.hid kw3
        have hsn : (1 : Int) + (s : Int) = ((s + 1 : Nat) : Int) := by omega
        clear k23 kw3 HO3 HG3 hV1
        go_wp2_with fail
        go_roundw
        case rel => exact ⟨f, q, k2, A3, s + 1, c3, k :: l, rfl, by rw [Nat.add_comm 1 s], by first | rfl | go_num, by omega, hk2b, by omega, Lib.hid ⟨by rw [List.length_cons, HLS.out], HREST.out.1, HREST.out.2, HP3.out⟩, HO4, KW3⟩
        case measure => simp [intOf]; omega
end Go.Proofs.YtnnhbgaeohdojaaDoor
