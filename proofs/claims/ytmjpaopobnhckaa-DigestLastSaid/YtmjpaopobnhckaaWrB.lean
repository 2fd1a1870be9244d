/-
  octet's Writer, its numbers: contracts over the translation.
-/
import Derived.Test.YtmjpaopobnhckaaWrA
import Derived.Deep.RegionHeld3
import Derived.Deep.LoopGhost
import Derived.Deep.DrawnRows
import Derived.Deep.RegionLaw
import Derived.IntWalk
namespace Go.Proofs.Ytmjpaopobnhckaa
open Go.RowKit
set_option linter.unusedVariables false

/-- Byte i of a number in so many bytes. -/
def nbAt (x : Int) (size i : Nat) : UInt8 := UInt8.ofNat (x / 2 ^ (8 * (size - 1 - i))).toNat
/-- A number's bytes, the highest first. -/
def nb (x : Int) (size : Nat) : List UInt8 := (List.range size).map (nbAt x size)

theorem nb_length (x : Int) (n : Nat) : (nb x n).length = n := by simp [nb]
theorem nb_take_succ (x : Int) (n k : Nat) (h : k < n) : (nb x n).take (k + 1) = (nb x n).take k ++ [nbAt x n k] := by
  rw [List.take_succ_eq_append_getElem (by rw [nb_length]; exact h)]
  simp [nb]
theorem wrap_u8 (z : Int) (h : 0 ≤ z) : IntKind.u8.wrap z = ((UInt8.ofNat z.toNat).toNat : Int) := by
  have : (UInt8.ofNat z.toNat).toNat = z.toNat % 256 := by simp
  rw [this]
  simp [IntKind.wrap, IntKind.signed, IntKind.bits]
  omega
theorem nbAt_wrap (x : Int) (n k : Nat) (hx : 0 ≤ x) : IntKind.u8.wrap (x / 2 ^ (8 * (n - 1 - k))) = ((nbAt x n k).toNat : Int) :=
  wrap_u8 _ (Int.ediv_nonneg hx (Int.le_of_lt (Int.pow_pos (by omega))))
/-- Two steps of a Writer, one behind the other. -/
theorem wr_trans {w w1 w2 : World} {b : Nat} {r r1 r2 : Option Nat} (hr1 : r1 = r ∨ ∃ q, w.heap.size ≤ q ∧ r1 = some q) (hk1 : Keeps (fun q => q = b ∨ r = some q) w w1)
    (hr2 : r2 = r1 ∨ ∃ q, w1.heap.size ≤ q ∧ r2 = some q) (hk2 : Keeps (fun q => q = b ∨ r1 = some q) w1 w2) :
    (r2 = r ∨ ∃ q, w.heap.size ≤ q ∧ r2 = some q) ∧ Keeps (fun q => q = b ∨ r = some q) w w2 := by
  refine ⟨?_, hk1.trans' hk2 (fun i hi h => ?_)⟩
  · rcases hr2 with rfl | ⟨q, hq, rfl⟩
    · exact hr1
    · exact .inr ⟨q, Nat.le_trans hk1.size hq, rfl⟩
  · rcases h with h | h
    · exact .inl h
    · rcases hr1 with rfl | ⟨q, hq, rfl⟩
      · exact .inr h
      · injection h with h; omega

theorem wrNum_ok (b : Nat) (r : Option Nat) (xs : List UInt8) (x : Int) (n : Nat) (w : World) (hw : Wr w b r xs) (hx0 : 0 ≤ x) (hn : 1 ≤ n) (hn8 : n ≤ 8) (hx : xs.length ≤ 99999000) :
    Calls Try.prog 29 #[.pointer (some ⟨b, 0, none⟩), .int .u64 x, .int .i64 n] w (WrPut b r (xs ++ nb x n) w) := by
  obtain ⟨i0, hi, hz0, hz1, hz2⟩ := info_parts info_u8
  have hlt := hw.lt
  have hok : (decide (1 ≤ (n : Int)) && decide ((n : Int) ≤ 8)) = true := by simp; omega
  have HOK := Lib.hid hok
  clear hok
  go_enter Try.func29, Try.ntmps29
  go_wp2_with (go_at_call 46; refine (isNumSize_any _ _ true HOK.out).mono ?_; rintro e w' ⟨rfl, rfl⟩)
  go_loopw [6, 15] (fun _ i wr => ∃ k : Nat, k ≤ n ∧ i = .int .i64 k ∧ ∃ r', Wr wr b r' (xs ++ (nb x n).take k) ∧ (r' = r ∨ ∃ q, w.heap.size ≤ q ∧ r' = some q) ∧ Keeps (fun q => q = b ∨ r = some q) w wr)
    (fun _ i _ => n - (intOf i).toNat)
  case atStart => exact ⟨0, Nat.zero_le _, rfl, r, by simpa using hw, .inl rfl, Keeps.refl _ _⟩
  case round =>
    obtain ⟨k, hk, rfl, r', hwr, hr', hkp⟩ := hrel
    by_cases hlt' : k < n
    · obtain ⟨ys, hys⟩ : ∃ ys, xs ++ (nb x n).take k = ys := ⟨_, rfl⟩
      have hyl : ys.length = xs.length + k := by rw [← hys, List.length_append, List.length_take, nb_length, Nat.min_eq_left hk]
      have hnext : xs ++ (nb x n).take (k + 1) = ys ++ [nbAt x n k] := by rw [nb_take_succ x n k hlt', ← List.append_assoc, hys]
      rw [hys] at hwr
      have HN := Lib.hid hnext
      clear hnext hys
      obtain ⟨A0, c0, hb, hr, hown0⟩ := hwr.form
      have hlt2 := hwr.lt
      have hrb : r' ≠ some b := fun e => (hwr.row_lt b e).2 rfl
      have h0 := cell0 hb 0
      have f0 := frozen0 hb 0
      have HB := Lib.hid hb
      have HR := Lib.hid hr
      have hlen : ys.length ≤ 99999010 := by omega
      have e1 : IntKind.i64.wrap ((n : Int) - 1) = n - 1 := IntWalk.i64_in _ (by omega)
      have e2 : IntKind.i64.wrap ((n : Int) - 1 - k) = n - 1 - k := IntWalk.i64_in _ (by omega)
      have e3 : IntKind.i64.wrap (8 * ((n : Int) - 1 - k)) = 8 * (n - 1 - k) := IntWalk.i64_in _ (by omega)
      have e5 : IntKind.u8.wrap (x / 2 ^ (8 * ((n : Int) - 1 - k)).toNat) = ((nbAt x n k).toNat : Int) := by
        rw [show (8 * ((n : Int) - 1 - k)).toNat = 8 * (n - 1 - k) from by omega]
        exact nbAt_wrap x n k hx0
      have HD : ¬ (n : Int) ≤ k := by omega
      have HK : Hid (∀ o w1, ((wr.alloc o).drew).grownBy w1 (Value.slice A0 ys.length c0).ownBlock → w1.cell? ⟨b, 0, none⟩ = some (.slice A0 ys.length c0) ∧ w1.frozen? ⟨b, 0, none⟩ = false) := by
        intro o w1 hg
        have hb2 : w1.heap[b]? = some (.cells #[.slice A0 ys.length c0] 90 (0, 0)) := by
          rw [hg.block b (by simp; omega) (by rw [hr]; exact fun e => hrb e.symm)]
          exact (Below.heap_alloc wr o b hlt2).trans hb
        exact ⟨cell0 hb2 0, frozen0 hb2 0⟩
      have HA : Hid (∀ o, ((wr.alloc o).drew).cell? ⟨b, 0, none⟩ = some (.slice A0 ys.length c0) ∧ ((wr.alloc o).drew).frozen? ⟨b, 0, none⟩ = false) := by
        intro o
        have hb2 : (wr.alloc o).drew.heap[b]? = some (.cells #[.slice A0 ys.length c0] 90 (0, 0)) := (Below.heap_alloc wr o b hlt2).trans hb
        exact ⟨cell0 hb2 0, frozen0 hb2 0⟩
      have FIN : Hid (∀ w1 g cap, w1.ownsRow 0 5 1 (.slice (some ⟨g, 0, none⟩) (ys.length + 1) cap) (ys.length + 1) (bvs ys ++ [.int .u8 ((nbAt x n k).toNat : Int)]) →
          ((wr.alloc (.cells #[.int .u8 ((nbAt x n k).toNat : Int)] 5)).drew).grownBy w1 (Value.slice A0 ys.length c0).ownBlock → ((Value.slice A0 ys.length c0).ownBlock = some g ∨ g = wr.heap.size + 1) →
          ∃ r2, Wr (w1.setCell ⟨b, 0, none⟩ (.slice (some ⟨g, 0, none⟩) (ys.length + 1) cap)) b r2 (xs ++ (nb x n).take (k + 1)) ∧ (r2 = r ∨ ∃ q, w.heap.size ≤ q ∧ r2 = some q) ∧
            Keeps (fun q => q = b ∨ r = some q) w (w1.setCell ⟨b, 0, none⟩ (.slice (some ⟨g, 0, none⟩) (ys.length + 1) cap))) := by
        intro w1 g cap hown hg hat
        rw [hr] at hg hat
        have hl : (ys ++ [nbAt x n k]).length = ys.length + 1 := by simp
        have hown' : w1.ownsRow 0 5 1 (.slice (some ⟨g, 0, none⟩) (ys.length + 1) cap) (ys ++ [nbAt x n k]).length (bvs (ys ++ [nbAt x n k])) := by
          rw [hl, ← bvs_append]; exact hown
        obtain ⟨r2, h1, h2, h3⟩ := wr_put hb hrb (((Keeps.refl _ wr).alloc _).drew) hown' hg (by
          rcases hat with h | h
          · exact .inl (by rw [h]; rfl)
          · exact .inr (by rw [h]; simp [Value.ownBlock]))
        obtain ⟨h4, h5⟩ := wr_trans hr' hkp h2 h3
        exact ⟨r2, by rw [HN.out]; exact h1, h4, h5⟩
      have HZ : ∀ o, (wr.alloc o).cell? ⟨b, 0, none⟩ = some (.slice A0 ys.length c0) := fun o => (HA.out o).1
      clear hb hr hwr hyl
      go_wp2
      go_region_law ((refine step_append_lies _ (by rfl) (.tmp 22) (.tmp 31) 37 (by rfl) 0 5 i0 (.int .u8 0) 1 1 Try.underlying37 hi hz0 hz1 hz2 rfl (by decide) (.slice A0 ys.length c0) ys.length (bvs ys) (by rfl) (by exact hown0.alloc _) ⟨wr.heap.size, 0, none⟩ 1 1 [.int .u8 ((nbAt x n k).toNat : Int)] (by rfl) rfl (by exact World.news_of_block (heap_alloc_new wr _)) (by intro u hu; simp at hu; subst hu; rfl) (by omega) (by unfold maxLen; omega) (by omega) (Nat.zero_le _) (wr.heap.size + 1) (by simp) ?_; intro g cap w1 hown1 hgrow hat hlt1; have hs := (HK.out _ _ hgrow).1; have hf := (HK.out _ _ hgrow).2))
      all_goals
        have fin := FIN.out _ _ _ hown1 hgrow hat
        clear hown1 hgrow hat hs hf e1 e2 e3 e5 FIN HZ h0 f0
        have HF := Lib.hid fin
        clear fin
        go_wp2
        go_roundw
        case rel => exact ⟨k + 1, by omega, by go_num, HF.out⟩
        case measure => simp [intOf]; omega
    · go_wp2
      have : k = n := by omega
      subst this
      rw [List.take_of_length_le (by rw [nb_length]; omega)] at hwr
      go_end0
      exact ⟨rfl, r', hwr, hr', hkp⟩

end Go.Proofs.Ytmjpaopobnhckaa
