/-
  Sums of bytes (CRC-32) in plain Lean: bit by bit over BitVec, half a byte at once (bbs_four), that three rows' sums come to the sum of all three (sum_three), and that up to 32 bits on end that differ show (sum_burst). No translation stands here.
-/
import Derived.Test.YtnhegnncmjmafaaBase
namespace Go.Proofs.Ytnhegnncmjmafaa
set_option linter.unusedVariables false
namespace Cr
def bb (x : BitVec 32) : BitVec 32 := (x >>> 1) ^^^ (if x.getLsbD 0 then 3988292384#32 else 0#32)
theorem bb_zero : bb 0#32 = 0#32 := by decide
theorem bb_xor (x y : BitVec 32) : bb (x ^^^ y) = bb x ^^^ bb y := by
  unfold bb
  rw [BitVec.getLsbD_xor]
  cases x.getLsbD 0 <;> cases y.getLsbD 0 <;> (apply BitVec.eq_of_getLsbD_eq; intro i hi; simp [BitVec.getLsbD_ushiftRight, BitVec.getLsbD_xor]) <;> (try ac_rfl)
  all_goals (cases (3988292384#32).getLsbD i <;> simp)
theorem bb_even (x : BitVec 32) (h : x.getLsbD 0 = false) : bb x = x >>> 1 := by unfold bb; rw [h]; simp
theorem bb_none (x : BitVec 32) (h : bb x = 0#32) : x = 0#32 := by
  have h0 : x.getLsbD 0 = false := by
    cases h1 : x.getLsbD 0 with
    | false => rfl
    | true =>
      unfold bb at h; rw [h1] at h
      have := congrArg (fun z => BitVec.getLsbD z 31) h
      simp at this
  rw [bb_even x h0] at h
  apply BitVec.eq_of_getLsbD_eq; intro i hi
  rw [BitVec.getLsbD_zero]
  cases i with
  | zero => exact h0
  | succ i =>
    have := congrArg (fun z => BitVec.getLsbD z i) h
    simpa [BitVec.getLsbD_ushiftRight, Nat.add_comm] using this
def bbs : Nat → BitVec 32 → BitVec 32
  | 0, x => x
  | n + 1, x => bbs n (bb x)
theorem bbs_zero : ∀ n, bbs n 0#32 = 0#32
  | 0 => rfl
  | n + 1 => by rw [bbs, bb_zero, bbs_zero n]
theorem bbs_xor : ∀ n x y, bbs n (x ^^^ y) = bbs n x ^^^ bbs n y
  | 0, _, _ => rfl
  | n + 1, x, y => by rw [bbs, bbs, bbs, bb_xor, bbs_xor n]
theorem bbs_none : ∀ n x, bbs n x = 0#32 → x = 0#32
  | 0, _, h => h
  | n + 1, x, h => bb_none x (bbs_none n _ h)
theorem bbs_add : ∀ m n x, bbs (m + n) x = bbs n (bbs m x)
  | 0, n, x => by rw [Nat.zero_add]; rfl
  | m + 1, n, x => by rw [Nat.succ_add]; exact bbs_add m n (bb x)
theorem bbs_shift : ∀ n x, (∀ i, i < n → BitVec.getLsbD x i = false) → bbs n x = x >>> n
  | 0, x, _ => by simp [bbs]
  | n + 1, x, h => by
    rw [bbs, bb_even x (h 0 (by omega)), bbs_shift n (x >>> 1) (fun i hi => by rw [BitVec.getLsbD_ushiftRight, Nat.add_comm]; exact h (i + 1) (by omega))]
    rw [← BitVec.shiftRight_add, Nat.add_comm]
theorem bbs_four (x : BitVec 32) : bbs 4 x = (x >>> 4) ^^^ bbs 4 (x &&& 15#32) := by
  have e : x = ((x >>> 4) <<< 4) ^^^ (x &&& 15#32) := by
    apply BitVec.eq_of_getLsbD_eq; intro i hi
    rw [BitVec.getLsbD_xor, BitVec.getLsbD_and, BitVec.getLsbD_shiftLeft, BitVec.getLsbD_ushiftRight]
    by_cases h : i < 4
    · have : (15#32).getLsbD i = true := by
        rcases (by omega : i = 0 ∨ i = 1 ∨ i = 2 ∨ i = 3) with rfl | rfl | rfl | rfl <;> decide
      simp [h, this]
    · have : (15#32).getLsbD i = false := by
        have hb : (15#32 : BitVec 32).toNat < 2 ^ i := Nat.lt_of_lt_of_le (by decide : 15 < 2 ^ 4) (Nat.pow_le_pow_right (by decide) (by omega))
        exact Nat.testBit_lt_two_pow hb
      rw [this, Bool.and_false, Bool.xor_false, show 4 + (i - 4) = i by omega]
      simp only [h, decide_false, Bool.not_false, Bool.true_and, hi, decide_true]
  conv => lhs; rw [e]
  rw [bbs_xor, bbs_shift 4 ((x >>> 4) <<< 4) (fun i hi => by rw [BitVec.getLsbD_shiftLeft]; simp [hi])]
  congr 1
  apply BitVec.eq_of_getLsbD_eq; intro i hi
  rw [BitVec.getLsbD_ushiftRight, BitVec.getLsbD_shiftLeft, BitVec.getLsbD_ushiftRight]
  by_cases h : 4 + i < 32
  · simp [h]
  · have : x.getLsbD (4 + i) = false := BitVec.getLsbD_of_ge _ _ (by omega)
    simp [h, this]


/-- One byte: its bits, the lowest first. -/
def bit1 (b : Bool) : BitVec 32 := if b then 1#32 else 0#32
def brun : BitVec 32 → List Bool → BitVec 32
  | x, [] => x
  | x, b :: l => brun (bb (x ^^^ bit1 b)) l
theorem brun_append : ∀ (l m : List Bool) x, brun x (l ++ m) = brun (brun x l) m
  | [], _, _ => rfl
  | _ :: l, m, _ => brun_append l m _
/-- The lowest n bits of a number, the lowest first. -/
def low : Nat → Nat → List Bool
  | 0, _ => []
  | n + 1, w => w.testBit 0 :: low n (w / 2)
theorem low_length : ∀ n w, (low n w).length = n
  | 0, _ => rfl
  | n + 1, w => by rw [low, List.length_cons, low_length n]
theorem low_get : ∀ n w i, i < n → (low n w)[i]? = some (w.testBit i)
  | 0, _, _, h => by omega
  | n + 1, w, 0, _ => rfl
  | n + 1, w, i + 1, h => by
    rw [low, List.getElem?_cons_succ, low_get n (w / 2) i (by omega), Nat.testBit_succ]
theorem bb_num (w : Nat) (h : w < 2 ^ 32) : bb (BitVec.ofNat 32 w ^^^ bit1 (w.testBit 0)) = BitVec.ofNat 32 (w / 2) := by
  have e : (BitVec.ofNat 32 w ^^^ bit1 (w.testBit 0)).getLsbD 0 = false := by
    rw [BitVec.getLsbD_xor, BitVec.getLsbD_ofNat]
    unfold bit1
    cases w.testBit 0 <;> simp
  rw [bb_even _ e]
  apply BitVec.eq_of_getLsbD_eq; intro i hi
  rw [BitVec.getLsbD_ushiftRight, BitVec.getLsbD_xor, BitVec.getLsbD_ofNat, BitVec.getLsbD_ofNat]
  have e1 : (bit1 (w.testBit 0)).getLsbD (1 + i) = false := by
    unfold bit1
    cases w.testBit 0 with
    | false => simp
    | true =>
      have hb : (1#32 : BitVec 32).toNat < 2 ^ (1 + i) := Nat.lt_of_lt_of_le (by decide : 1 < 2 ^ 1) (Nat.pow_le_pow_right (by decide) (by omega))
      exact Nat.testBit_lt_two_pow hb
  rw [e1, Bool.xor_false, Nat.add_comm 1 i, Nat.testBit_succ]
  by_cases hh : i + 1 < 32
  · simp [hi, hh]
  · have : (w / 2).testBit i = false := Nat.testBit_lt_two_pow (Nat.lt_of_lt_of_le (by omega : w / 2 < 2 ^ 31) (Nat.pow_le_pow_right (by decide) (by omega)))
    simp [this]
theorem brun_low : ∀ n w x, w < 2 ^ n → n ≤ 32 → brun x (low n w) = bbs n (x ^^^ BitVec.ofNat 32 w)
  | 0, w, x, h, _ => by
    have : w = 0 := by omega
    subst this
    simp [low, brun, bbs]
  | n + 1, w, x, h, hn => by
    have h32 : w < 2 ^ 32 := Nat.lt_of_lt_of_le h (Nat.pow_le_pow_right (by decide) hn)
    have hw : w / 2 < 2 ^ n := by rw [Nat.pow_succ] at h; omega
    rw [low, brun, brun_low n (w / 2) _ hw (by omega), bbs]
    congr 1
    rw [← bb_num w h32, ← bb_xor]
    congr 1
    rw [BitVec.xor_assoc]; congr 1
    rw [← BitVec.xor_assoc, BitVec.xor_comm (bit1 _), BitVec.xor_assoc, BitVec.xor_self, BitVec.xor_zero]
theorem brun_nil : ∀ n, brun 0#32 (List.replicate n false) = 0#32
  | 0 => rfl
  | n + 1 => by rw [List.replicate_succ, brun]; simp only [bit1]; rw [show (0#32 ^^^ if false = true then 1#32 else 0#32) = 0#32 by simp, bb_zero]; exact brun_nil n
theorem brun_rest : ∀ n x, brun x (List.replicate n false) = bbs n x
  | 0, x => rfl
  | n + 1, x => by rw [List.replicate_succ, brun, bbs, show x ^^^ bit1 false = x by simp [bit1]]; exact brun_rest n _
/-- 32 bits that differ, whatever stands before and behind them as it was. -/
theorem brun_burst (k m w : Nat) (h : w < 2 ^ 32) : brun 0#32 (List.replicate k false ++ low 32 w ++ List.replicate m false) = 0#32 ↔ w = 0 := by
  rw [brun_append, brun_append, brun_nil, brun_low 32 w _ h (by omega), brun_rest, BitVec.zero_xor]
  constructor
  · intro h1
    have h2 := bbs_none _ _ (bbs_none _ _ h1)
    have h3 := congrArg BitVec.toNat h2
    simpa [Nat.mod_eq_of_lt h] using h3
  · rintro rfl
    rw [show BitVec.ofNat 32 0 = 0#32 from rfl, bbs_zero, bbs_zero]
/-- A byte more. -/
def by1 (x : BitVec 32) (c : UInt8) : BitVec 32 := bbs 8 (x ^^^ BitVec.ofNat 32 c.toNat)
def run (x : BitVec 32) (l : List UInt8) : BitVec 32 := l.foldl by1 x
def bits (l : List UInt8) : List Bool := l.flatMap fun c => low 8 c.toNat
theorem run_bits : ∀ (l : List UInt8) x, run x l = brun x (bits l)
  | [], _ => rfl
  | c :: l, x => by
    rw [show run x (c :: l) = run (by1 x c) l from rfl, run_bits l, show bits (c :: l) = low 8 c.toNat ++ bits l from List.flatMap_cons .., brun_append, brun_low 8 c.toNat x (UInt8.toNat_lt c) (by omega)]; rfl
theorem run_append (x : BitVec 32) (l m : List UInt8) : run x (l ++ m) = run (run x l) m := List.foldl_append ..
def xors (l m : List UInt8) : List UInt8 := List.zipWith (· ^^^ ·) l m
theorem by1_xor (x y : BitVec 32) (c d : UInt8) : by1 (x ^^^ y) (c ^^^ d) = by1 x c ^^^ by1 y d := by
  unfold by1
  rw [← bbs_xor]
  congr 1
  have : BitVec.ofNat 32 (c ^^^ d).toNat = BitVec.ofNat 32 c.toNat ^^^ BitVec.ofNat 32 d.toNat := by
    rw [UInt8.toNat_xor]
    apply BitVec.eq_of_getLsbD_eq; intro i hi
    rw [BitVec.getLsbD_xor, BitVec.getLsbD_ofNat, BitVec.getLsbD_ofNat, BitVec.getLsbD_ofNat, Nat.testBit_xor]
    simp [hi]
  rw [this]
  ac_rfl
theorem run_xor : ∀ (l m : List UInt8) (x y : BitVec 32), l.length = m.length → run (x ^^^ y) (xors l m) = run x l ^^^ run y m
  | [], [], _, _, _ => rfl
  | c :: l, d :: m, x, y, h => by
    rw [show xors (c :: l) (d :: m) = (c ^^^ d) :: xors l m from rfl, show run (x ^^^ y) ((c ^^^ d) :: xors l m) = run (by1 (x ^^^ y) (c ^^^ d)) (xors l m) from rfl, by1_xor, run_xor l m _ _ (by simpa using h)]; rfl
  | [], _ :: _, _, _, h => by simp at h
  | _ :: _, [], _, _, h => by simp at h
/-- The sum. -/
def sum (l : List UInt8) : BitVec 32 := ~~~ (run (4294967295#32) l)
theorem sum_three (a b c : List UInt8) (h1 : a.length = b.length) (h2 : b.length = c.length) : sum (xors (xors a b) c) = sum a ^^^ sum b ^^^ sum c := by
  have e1 : run (4294967295#32) (xors (xors a b) c) = run (4294967295#32) a ^^^ run (4294967295#32) b ^^^ run (4294967295#32) c := by
    have := run_xor (xors a b) c (4294967295#32 ^^^ 4294967295#32) (4294967295#32) (by simp [xors]; omega)
    rw [run_xor a b _ _ h1] at this
    rw [← this]; congr 1
  unfold sum
  rw [e1]
  apply BitVec.eq_of_getLsbD_eq; intro i hi
  simp [hi]
theorem sum_same (b c : List UInt8) (h : b.length = c.length) : sum c = sum b ↔ run 0#32 (xors b c) = 0#32 := by
  have := run_xor b c (4294967295#32) (4294967295#32) h
  rw [BitVec.xor_self] at this
  rw [this]
  unfold sum
  constructor
  · intro e; rw [BitVec.not_inj] at e; rw [e, BitVec.xor_self]
  · intro e; rw [BitVec.not_inj]; exact (BitVec.xor_eq_zero_iff.mp e).symm

theorem bits_length : ∀ l, (bits l).length = 8 * l.length
  | [] => rfl
  | c :: l => by rw [show bits (c :: l) = low 8 c.toNat ++ bits l from List.flatMap_cons .., List.length_append, low_length, bits_length l, List.length_cons]; omega
theorem bits_get : ∀ (l : List UInt8) (j : Nat), (bits l)[j]? = (l[j / 8]?).map fun c => c.toNat.testBit (j % 8)
  | [], j => by simp [bits]
  | c :: l, j => by
    rw [show bits (c :: l) = low 8 c.toNat ++ bits l from List.flatMap_cons ..]
    by_cases h : j < 8
    · rw [List.getElem?_append_left (by rw [low_length]; exact h), low_get 8 c.toNat j h, show j / 8 = 0 by omega, show j % 8 = j by omega]; rfl
    · rw [List.getElem?_append_right (by rw [low_length]; omega), low_length, bits_get l (j - 8), show j / 8 = (j - 8) / 8 + 1 by omega, show j % 8 = (j - 8) % 8 by omega, List.getElem?_cons_succ]
/-- One bit of bytes turned. -/
def turn (l : List UInt8) (j : Nat) : List UInt8 := l.set (j / 8) (l.getD (j / 8) 0 ^^^ UInt8.ofNat (2 ^ (j % 8)))
theorem turn_length (l : List UInt8) (j : Nat) : (turn l j).length = l.length := by simp [turn]
/-- So many bits of bytes turned, from a place on, as a number tells. -/
def flips (k w : Nat) (l : List UInt8) : Nat → List UInt8
  | 0 => l
  | n + 1 => if w.testBit n then turn (flips k w l n) (k + n) else flips k w l n
theorem flips_length (k w : Nat) (l : List UInt8) : ∀ n, (flips k w l n).length = l.length
  | 0 => rfl
  | n + 1 => by
    rw [flips]
    by_cases h : w.testBit n = true
    · rw [if_pos h, turn_length, flips_length k w l n]
    · rw [if_neg h, flips_length k w l n]
theorem turn_get (l : List UInt8) (j i : Nat) (h : j < 8 * l.length) : (bits (turn l j))[i]? = ((bits l)[i]?).map fun b => b ^^ decide (i = j) := by
  rw [bits_get, bits_get, turn, List.getElem?_set]
  have hl : j / 8 < l.length := by omega
  by_cases e : j / 8 = i / 8
  · rw [if_pos e, ← e, if_pos hl, List.getElem?_eq_getElem hl]
    simp only [Option.map_some]
    rw [show l.getD (j / 8) 0 = l[j / 8] by simp [List.getD, List.getElem?_eq_getElem hl]]
    rw [UInt8.toNat_xor, Nat.testBit_xor, UInt8.toNat_ofNat_of_lt' (Nat.lt_of_lt_of_le (Nat.pow_lt_pow_right (by decide) (Nat.mod_lt _ (by decide) : j % 8 < 8)) (by decide)), Nat.testBit_two_pow]
    congr 2
    have : (j % 8 = i % 8) = (i = j) := by apply propext; constructor <;> intro h <;> omega
    simp only [this]
  · rw [if_neg e]
    have : decide (i = j) = false := by rw [decide_eq_false_iff_not]; intro h; subst h; exact e rfl
    rw [this]; cases l[i / 8]? <;> simp
theorem flips_get (k w : Nat) (l : List UInt8) : ∀ n i, k + n ≤ 8 * l.length → (bits (flips k w l n))[i]? = ((bits l)[i]?).map fun b => b ^^ (decide (k ≤ i ∧ i < k + n) && w.testBit (i - k))
  | 0, i, _ => by
    rw [flips]
    have : decide (k ≤ i ∧ i < k + 0) = false := by rw [decide_eq_false_iff_not]; omega
    rw [this]; cases (bits l)[i]? <;> simp
  | n + 1, i, h => by
    have ih := flips_get k w l n i (by omega)
    rw [flips]
    by_cases hw : w.testBit n = true
    · rw [if_pos hw, turn_get _ _ _ (by rw [flips_length]; omega), ih, Option.map_map]
      congr 1
      funext b
      show ((b ^^ (decide (k ≤ i ∧ i < k + n) && w.testBit (i - k))) ^^ decide (i = k + n)) = (b ^^ (decide (k ≤ i ∧ i < k + (n + 1)) && w.testBit (i - k)))
      by_cases h1 : i = k + n
      · have e1 : decide (k ≤ i ∧ i < k + n) = false := by rw [decide_eq_false_iff_not]; omega
        have e2 : decide (k ≤ i ∧ i < k + (n + 1)) = true := by rw [decide_eq_true_eq]; omega
        rw [e1, e2, show i - k = n by omega, hw, decide_eq_true h1]; simp
      · have e2 : decide (k ≤ i ∧ i < k + (n + 1)) = decide (k ≤ i ∧ i < k + n) := by apply decide_eq_decide.mpr; omega
        rw [e2, decide_eq_false h1]; simp
    · rw [if_neg hw, ih]
      congr 1
      funext b
      by_cases h1 : i = k + n
      · have e1 : decide (k ≤ i ∧ i < k + n) = false := by rw [decide_eq_false_iff_not]; omega
        rw [e1, show i - k = n by omega]; simp [hw]
      · have e2 : decide (k ≤ i ∧ i < k + (n + 1)) = decide (k ≤ i ∧ i < k + n) := by apply decide_eq_decide.mpr; omega
        rw [e2]
theorem xors_get (l m : List UInt8) (h : l.length = m.length) (i : Nat) (hi : i < 8 * l.length) : (bits (xors l m))[i]? = some (((bits l)[i]?.getD false) ^^ ((bits m)[i]?.getD false)) := by
  have h1 : i / 8 < l.length := by omega
  have h2 : i / 8 < m.length := by omega
  rw [bits_get, bits_get, bits_get, List.getElem?_eq_getElem h1, List.getElem?_eq_getElem h2, xors, List.getElem?_zipWith, List.getElem?_eq_getElem h1, List.getElem?_eq_getElem h2]
  simp only [Option.map_some, Option.getD_some]
  rw [UInt8.toNat_xor, Nat.testBit_xor]
/-- P10.2: up to 32 bits on end that differ show. -/
theorem sum_burst (l : List UInt8) (k w : Nat) (hk : k + 32 ≤ 8 * l.length) (hw : w < 2 ^ 32) : sum (flips k w l 32) = sum l ↔ w = 0 := by
  have hL := flips_length k w l 32
  rw [sum_same l _ hL.symm, run_bits]
  have e : bits (xors l (flips k w l 32)) = List.replicate k false ++ low 32 w ++ List.replicate (8 * l.length - (k + 32)) false := by
    apply List.ext_getElem?
    intro i
    have hx : (xors l (flips k w l 32)).length = l.length := by simp [xors, hL]
    by_cases hi : i < 8 * l.length
    · rw [xors_get l _ hL.symm i hi, flips_get k w l 32 i hk]
      have hb : i < (bits l).length := by rw [bits_length]; exact hi
      rw [List.getElem?_eq_getElem hb]
      simp only [Option.map_some, Option.getD_some]
      by_cases h1 : i < k
      · rw [List.append_assoc, List.getElem?_append_left (by rw [List.length_replicate]; exact h1), List.getElem?_replicate, if_pos h1]
        have : decide (k ≤ i ∧ i < k + 32) = false := by rw [decide_eq_false_iff_not]; omega
        rw [this]; simp
      · by_cases h2 : i < k + 32
        · rw [List.getElem?_append_left (by rw [List.length_append, List.length_replicate, low_length]; exact h2), List.getElem?_append_right (by rw [List.length_replicate]; omega), List.length_replicate, low_get 32 w (i - k) (by omega)]
          have : decide (k ≤ i ∧ i < k + 32) = true := by rw [decide_eq_true_eq]; omega
          rw [this]; simp
        · rw [List.getElem?_append_right (by rw [List.length_append, List.length_replicate, low_length]; omega), List.length_append, List.length_replicate, low_length, List.getElem?_replicate, if_pos (by omega)]
          have : decide (k ≤ i ∧ i < k + 32) = false := by rw [decide_eq_false_iff_not]; omega
          rw [this]; simp
    · rw [List.getElem?_eq_none (by rw [bits_length, hx]; omega), List.getElem?_eq_none (by simp [low_length]; omega)]
  rw [e]
  exact brun_burst k _ w hw
end Cr
end Go.Proofs.Ytnhegnncmjmafaa
