/-
  The document's own answers for sha (assayerref02): a number that is turned, four bytes as a number, the roots.
  The document's own answers for sha (assayerref02): the roots.
  The document's own answers for sha (assayerref02): a hash as bytes, and as text.
  Plain lemmas for the document's own hash: a cut of a string of bytes; numbers of a block.
-/
import Derived.Test.YtgbajlmcoghofaaDoorShaB
import Derived.Test.YtgbajlmcoghofaaDoorEq
import Derived.Test.YtgbajlmcoghofaaDoorShaT
import Derived.Laws.Concat
import Derived.Deep.LoopGhost
namespace Go.Proofs.YtgbajlmcoghofaaDoor
open Go.RowKit
set_option linter.unusedVariables false

/-- Turned by quotient and rest. -/
theorem rr_parts (x : UInt32) (n : Nat) (h0 : 0 < n) (h : n < 32) : x.toNat / 2 ^ n + x.toNat % 2 ^ n * 2 ^ (32 - n) = (Sh.rr x n.toUInt32).toNat := by
  have hx := x.toNat_lt
  have hp : (2 : Nat) ^ 32 = 2 ^ n * 2 ^ (32 - n) := by rw [← Nat.pow_add]; congr 1; omega
  unfold Sh.rr
  rw [UInt32.toNat_or, ← sub_u32 n (by omega)]
  have e1 : (x >>> n.toUInt32).toNat = x.toNat / 2 ^ n := by
    simp [UInt32.toNat_shiftRight, Nat.shiftRight_eq_div_pow]
    rw [Nat.mod_eq_of_lt h]
  have e2 : (x <<< (32 - n).toUInt32).toNat = 2 ^ (32 - n) * (x.toNat % 2 ^ n) := by
    simp only [UInt32.toNat_shiftLeft, Nat.shiftLeft_eq]
    have e3 : ((32 - n).toUInt32).toNat % 32 = 32 - n := by simp; omega
    rw [e3, hp, Nat.mul_mod_mul_right, Nat.mul_comm]
  rw [e1, e2, Nat.or_comm, ← Nat.two_pow_add_eq_or_of_lt (by rw [Nat.div_lt_iff_lt_mul (Nat.two_pow_pos n), Nat.mul_comm, ← hp]; exact hx), Nat.mul_comm, Nat.add_comm]
theorem wi_parts (x : UInt32) (n : Nat) (h0 : 0 < n) (h : n < 32) : wi x / 2 ^ n + wi x % 2 ^ n * 2 ^ (32 - n) = wi (Sh.rr x n.toUInt32) := by
  have := rr_parts x n h0 h
  unfold wi
  rw [← this]
  simp
set_option maxHeartbeats 400000 in
theorem down_in (x R : UInt32) (n : Nat) (P T q r : Int) (w : World) (h0 : 0 < n) (h : n < 32) (hP : (2 : Int) ^ n % 4294967296 = P) (p0 : 0 < P) (p1 : P ≠ 0) (p2 : P ≤ 4294967295) (hT : (2 : Int) ^ (32 - n) % 4294967296 = T)
    (hq : (wi x).tdiv P = q) (hq2 : wi x / P = q) (hr : (wi x).tmod P = r) (hr2 : wi x % P = r) (q0 : 0 ≤ q) (q1 : q ≤ 4294967295) (r0 : 0 ≤ r) (r1 : r ≤ 4294967295) (hm : IntKind.u32.wrap (r * T) = r * T) (hm2 : r * T % 4294967296 = r * T) (hs : IntKind.u32.wrap (q + r * T) = wi R) (hs2 : (q + r * T) % 4294967296 = wi R) :
    Calls Tryd.prog 36 #[.int .u32 (wi x), .int .u64 n] w fun e w' => e = .returned (.int .u32 (wi R)) ∧ ∃ k, w' = w.drewN k := by
  have b0 := wi_nonneg x
  go_enter Tryd.func36, Tryd.ntmps36
  go_wp2_with fail
  go_quiet (fail)
  go_wp2
  go_ret
  exact ⟨rfl, nq, rfl⟩
theorem rdown_any (x : UInt32) (n : Nat) (w : World) (h0 : 0 < n) (h : n < 32) :
    Calls Tryd.prog 36 #[.int .u32 (wi x), .int .u64 n] w fun e w' => e = .returned (.int .u32 (wi (Sh.rr x n.toUInt32))) ∧ ∃ k, w' = w.drewN k := by
  have b0 := wi_nonneg x
  have b1 := wi_lt x
  have fin := wi_parts x n h0 h
  have pw : ∀ m, m < 32 → (2 : Int) ^ m ≤ 2147483648 ∧ 0 < (2 : Int) ^ m := fun m hm => by
    have h1 : (2 : Nat) ^ m ≤ 2 ^ 31 := Nat.pow_le_pow_right (by omega) (by omega)
    have h2 : 0 < (2 : Nat) ^ m := Nat.two_pow_pos m
    have h3 : ((2 ^ m : Nat) : Int) = (2 : Int) ^ m := by simp
    rw [← h3]
    omega
  obtain ⟨P, hP⟩ : ∃ P, (2 : Int) ^ n = P := ⟨_, rfl⟩
  obtain ⟨T, hT⟩ : ∃ T, (2 : Int) ^ (32 - n) = T := ⟨_, rfl⟩
  have p1 := pw n h
  have p2 := pw (32 - n) (by omega)
  rw [hP] at p1 fin
  rw [hT] at p2 fin
  have R0 := wi_nonneg (Sh.rr x n.toUInt32)
  have R1 := wi_lt (Sh.rr x n.toUInt32)
  have q0 : 0 ≤ wi x / P := Int.ediv_nonneg b0 (by omega)
  have q1 : wi x / P ≤ wi x := Int.ediv_le_self P b0
  have r0 : 0 ≤ wi x % P := Int.emod_nonneg _ (by omega)
  have r1 : wi x % P < P := Int.emod_lt_of_pos _ (by omega)
  have m0 : 0 ≤ wi x % P * T := Int.mul_nonneg r0 (by omega)
  have e1 : wi x % P * T % 4294967296 = wi x % P * T := Int.emod_eq_of_lt m0 (by omega)
  have e2 : (wi x / P + wi x % P * T) % 4294967296 = wi (Sh.rr x n.toUInt32) := by rw [fin]; exact Int.emod_eq_of_lt R0 R1
  exact down_in x _ n P T (wi x / P) (wi x % P) w h0 h (by rw [hP]; exact Int.emod_eq_of_lt (by omega) (by omega)) (by omega) (by omega) (by omega) (by rw [hT]; exact Int.emod_eq_of_lt (by omega) (by omega))
    (Int.tdiv_eq_ediv_of_nonneg b0) rfl (Int.tmod_eq_emod_of_nonneg b0) rfl q0 (by omega) r0 (by omega) (by rw [IntKind.wrap_u32']; exact e1) e1 (by rw [IntKind.wrap_u32']; exact e2) e2
/-- By a number as the walk bears it. -/
theorem down_q (x : UInt32) (n : Int) (w : World) (h0 : 0 < n) (h : n < 32) :
    Calls Tryd.prog 36 #[.int .u32 (wi x), .int .u64 n] w fun e w' => e = .returned (.int .u32 (wi (Sh.rr x (UInt32.ofNat n.toNat)))) ∧ ∃ k, w' = w.drewN k := by
  obtain ⟨k, rfl⟩ := Int.eq_ofNat_of_zero_le (show 0 ≤ n by omega)
  exact rdown_any x k w (by omega) (by omega)

/-- Four bytes as a number. -/
theorem wd_four (a b c d : UInt8) : (a.toNat : Int) * 16777216 + (b.toNat : Int) * 65536 + (c.toNat : Int) * 256 + (d.toNat : Int) = wi (Sh.wd [a, b, c, d]) := by
  have ha := a.toNat_lt
  have hb := b.toNat_lt
  have hc := c.toNat_lt
  have hd := d.toNat_lt
  have step : ∀ (x : UInt32) (y : UInt8), x.toNat < 16777216 → ((x <<< 8) ||| y.toUInt32).toNat = x.toNat * 256 + y.toNat := fun x y hx => by
    have hy := y.toNat_lt
    rw [UInt32.toNat_or]
    have e1 : (x <<< 8).toNat = 2 ^ 8 * x.toNat := by
      rw [UInt32.toNat_shiftLeft, Nat.shiftLeft_eq]
      have : (8 : UInt32).toNat % 32 = 8 := by decide
      rw [this, Nat.mod_eq_of_lt (by omega)]
      omega
    have e2 : y.toUInt32.toNat = y.toNat := by simp
    rw [e1, e2, ← Nat.two_pow_add_eq_or_of_lt (by omega)]
    omega
  unfold wi Sh.wd
  simp only [List.foldl_cons, List.foldl_nil]
  have s1 := step 0 a (by decide)
  have s2 := step _ b (by rw [s1]; simp; omega)
  have s3 := step _ c (by rw [s2, s1]; simp; omega)
  have s4 := step _ d (by rw [s3, s2, s1]; simp; omega)
  rw [s4, s3, s2, s1]
  simp
  omega
set_option maxHeartbeats 400000 in
theorem number_any (a b c d : UInt8) (w : World) :
    Calls Tryd.prog 35 #[.string (strOf [a, b, c, d])] w fun e w' => e = .returned (.int .u32 (wi (Sh.wd [a, b, c, d]))) ∧ ∃ k, w' = w.drewN k := by
  have fin := wd_four a b c d
  have ha := a.toNat_lt
  have hb := b.toNat_lt
  have hc := c.toNat_lt
  have hd := d.toNat_lt
  obtain ⟨s, hs⟩ : ∃ s, strOf [a, b, c, d] = s := ⟨_, rfl⟩
  have hz : s.size = 4 := by rw [← hs]; rfl
  have g0 : s[0]'(by omega) = a := by subst hs; rfl
  have g1 : s[1]'(by omega) = b := by subst hs; rfl
  have g2 : s[2]'(by omega) = c := by subst hs; rfl
  have g3 : s[3]'(by omega) = d := by subst hs; rfl
  rw [hs]
  obtain ⟨R, hR⟩ : ∃ R, Sh.wd [a, b, c, d] = R := ⟨_, rfl⟩
  rw [hR] at fin ⊢
  have R1 := wi_lt R
  have G0 := Lib.hid g0
  have G1 := Lib.hid g1
  have G2 := Lib.hid g2
  have G3 := Lib.hid g3
  clear hs hR g0 g1 g2 g3
  go_enter Tryd.func35, Tryd.ntmps35
  go_wp2_with fail
  go_quiet (fail)
  go_wp2
  go_ret
  refine ⟨?_, nq, rfl⟩
  show Ending.returned (Value.int .u32 _) = _
  congr 2
  simp only [G0.out, G1.out, G2.out, G3.out]
  omega
end Go.Proofs.YtgbajlmcoghofaaDoor
namespace Go.Proofs.YtgbajlmcoghofaaDoor
open Go.RowKit
set_option linter.unusedVariables false

set_option maxRecDepth 100000 in
set_option maxHeartbeats 400000 in
theorem roots_any (w : World) :
    Calls Tryd.prog 34 #[] w fun e w' => e = .returned (.slice (some ⟨w.heap.size, 0, none⟩) 64 64) ∧ w' = w.alloc (.cells (wvs Sh.roots).toArray 42) := by
  have hr : (wvs Sh.roots).toArray = (wvs Sh.roots).toArray := rfl
  go_enter Tryd.func34, Tryd.ntmps34
  go_wp2
  go_ret
  exact ⟨rfl, rfl⟩
end Go.Proofs.YtgbajlmcoghofaaDoor
namespace Go.Proofs.YtgbajlmcoghofaaDoor
open Go.RowKit
set_option linter.unusedVariables false

theorem str_app (a b : List UInt8) : strOf a ++ strOf b = strOf (a ++ b) := by simp [strOf, ByteArray.mk_append_mk]
theorem str_size (l : List UInt8) : (strOf l).size = l.length := rfl
set_option maxRecDepth 100000 in
set_option maxHeartbeats 800000 in
theorem raw_any (xs : List UInt8) (w : World) (hx : xs.length = 32) :
    Calls Tryd.prog 26 #[.agg (bvs xs).toArray] w fun e w' => e = .returned (.string (strOf xs)) ∧ Keeps (fun _ => False) w w' := by
  obtain ⟨X, hX⟩ : ∃ X : Array Value, (bvs xs).toArray = X := ⟨_, rfl⟩
  rw [hX]
  obtain ⟨W1, hW1⟩ : ∃ V, w.alloc (.cells X 23) = V := ⟨_, rfl⟩
  have k1 : Keeps (fun _ => False) w W1 := by rw [← hW1]; exact (Keeps.refl _ _).alloc _
  have r1 : Row W1 w.heap.size 23 (bvs xs) := by rw [← hW1, ← hX]; exact heap_alloc_new w _
  have lt1 : w.heap.size < W1.heap.size := by rw [← hW1]; simp
  have R1 := Lib.hid r1
  have HX := Lib.hid hx
  clear hX r1 hx
  go_enter Tryd.func26, Tryd.ntmps26
  go_wp2_with fail
  clear hW1
  go_loopw [3, 4] (fun s i wr => ∃ k : Nat, k ≤ 32 ∧ i = .int .i64 k ∧ s = .string (strOf (xs.take k)) ∧ Keeps (fun _ => False) W1 wr) (fun _ i _ => 32 - (intOf i).toNat)
  case atStart => exact ⟨0, by omega, rfl, rfl, Keeps.refl _ _⟩
  case round =>
    obtain ⟨k, hk, rfl, rfl, hkp⟩ := hrel
    by_cases hlt : k < 32
    · have hkl : k < xs.length := by rw [HX.out]; exact hlt
      have hcell : wr.cell? ⟨w.heap.size, k, none⟩ = some (.int .u8 (xs[k].toNat : Int)) := by
        have h : Row wr w.heap.size 23 (bvs xs) := R1.out.keeps hkp id
        rw [h.cell, bvs_at xs hkl]
      have htk : xs.take (k + 1) = xs.take k ++ [xs[k]] := List.take_succ_eq_append_getElem hkl
      have hl : (xs.take k).length = k := by rw [List.length_take]; omega
      obtain ⟨c, hc⟩ : ∃ c, xs[k] = c := ⟨_, rfl⟩
      rw [hc] at hcell htk
      obtain ⟨ys, hy⟩ : ∃ ys, xs.take k = ys := ⟨_, rfl⟩
      rw [hy] at htk hl ⊢
      have HTK := Lib.hid htk
      have HCV : ∀ W : World, (convert 24 9 (.slice (some ⟨W.heap.size, 0, none⟩) 1 1)).run Tryd.prog (W.alloc (.cells #[.int .u8 (c.toNat : Int)] 5)) = .ok (.string (strOf [c])) (W.alloc (.cells #[.int .u8 (c.toNat : Int)] 5)) := fun W =>
        run_string_src (P := Tryd.prog) (W.alloc (.cells #[.int .u8 (c.toNat : Int)] 5)) 24 9 5 Tryd.underlying24 Tryd.underlying5 Tryd.underlying9 (some ⟨W.heap.size, 0, none⟩) [c] 1 (fun j u hu => ⟨_, rfl, World.news_of_block (heap_alloc_new W _) j u hu⟩)
      have hsz1 : (strOf ys).size + (strOf [c]).size ≤ 33 := by rw [str_size, str_size, hl, List.length_singleton]; omega
      have hK : Hid (Keeps (fun _ => False) W1 (wr.alloc (.cells #[.int .u8 (c.toNat : Int)] 5))) := hkp.alloc _
      clear htk hc hy hl hkp
      go_wp2
      go_roundw
      case rel => exact ⟨k + 1, by omega, by go_num, by rw [HTK.out, str_app], hK.out⟩
      case measure => simp [intOf]; omega
    · have e3 : xs.take k = xs := List.take_of_length_le (by rw [HX.out]; omega)
      rw [e3]
      go_wp2
      go_ret
      exact ⟨rfl, k1.trans hkp⟩
end Go.Proofs.YtgbajlmcoghofaaDoor
namespace Go.Proofs.YtgbajlmcoghofaaDoor
set_option linter.unusedVariables false

theorem str_cut (l : List UInt8) (a b : Nat) : (strOf l).extract a b = strOf ((l.drop a).take (b - a)) := by
  unfold strOf
  apply ByteArray.ext
  rw [ByteArray.data_extract]
  simp
theorem firstN_snoc (i : Nat) (l : List UInt8) : Sh.firstN (i + 1) l = Sh.firstN i l ++ [Sh.wd ((l.drop (4 * i)).take 4)] := by
  unfold Sh.firstN
  rw [List.range_succ, List.map_append]
  rfl
theorem four_of (l : List UInt8) (h : l.length = 4) : ∃ a b c d, l = [a, b, c, d] := by
  match l, h with
  | [a, b, c, d], _ => exact ⟨a, b, c, d, rfl⟩
/-- The cut of the whole at a block's number. -/
theorem cut_four (P : List UInt8) (t i : Nat) (hi : i < 16) (h : 64 * t + 64 ≤ P.length) :
    ∃ a b c d, (strOf P).extract (64 * t + 4 * i) (64 * t + 4 * i + 4) = strOf [a, b, c, d] ∧ Sh.wd ((((P.drop (64 * t)).take 64).drop (4 * i)).take 4) = Sh.wd [a, b, c, d] := by
  have e : (((P.drop (64 * t)).take 64).drop (4 * i)).take 4 = (P.drop (64 * t + 4 * i)).take 4 := by
    rw [List.drop_take, List.take_take, List.drop_drop, Nat.min_eq_left (by omega)]
  obtain ⟨a, b, c, d, hl⟩ := four_of ((P.drop (64 * t + 4 * i)).take 4) (by rw [List.length_take, List.length_drop]; omega)
  refine ⟨a, b, c, d, ?_, by rw [e, hl]⟩
  rw [str_cut, show 64 * t + 4 * i + 4 - (64 * t + 4 * i) = 4 by omega, hl]
end Go.Proofs.YtgbajlmcoghofaaDoor
