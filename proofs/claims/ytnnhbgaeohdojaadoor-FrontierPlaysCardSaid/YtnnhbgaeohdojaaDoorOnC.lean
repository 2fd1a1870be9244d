/-
  How many bits of a number are 1: by halving, and by fields that are summed. No number of any translation stands here.
-/
import Derived.Test.YtnnhbgaeohdojaaDoorRows
import Derived.WalkKit
import Derived.Laws.Bits64
import Derived.Laws.Bits64b
import Derived.Lib.Hide
namespace Go.Proofs.YtnnhbgaeohdojaaDoor.On
set_option linter.unusedVariables false
/-- Of the lowest k bits, how many are 1. -/
def ones : Nat → Nat → Nat
  | 0, _ => 0
  | k + 1, x => x % 2 + ones k (x / 2)
theorem ones_add : ∀ (j k x : Nat), ones (j + k) x = ones j x + ones k (x / 2 ^ j)
  | 0, k, x => by rw [Nat.zero_add, Nat.pow_zero, Nat.div_one]; simp [ones]
  | j + 1, k, x => by
    rw [show j + 1 + k = (j + k) + 1 by omega]
    simp only [ones]
    rw [ones_add j k (x / 2), Nat.div_div_eq_div_mul, Nat.pow_succ, Nat.mul_comm 2]
    omega
theorem ones_mod : ∀ (j x : Nat), ones j (x % 2 ^ j) = ones j x
  | 0, x => rfl
  | j + 1, x => by
    simp only [ones]
    have h1 : x % 2 ^ (j + 1) % 2 = x % 2 := by rw [Nat.pow_succ, Nat.mul_comm, Nat.mod_mul]; omega
    have h2 : x % 2 ^ (j + 1) / 2 = x / 2 % 2 ^ j := by rw [Nat.pow_succ, Nat.mul_comm, Nat.mod_mul_right_div_self]
    rw [h1, h2, ones_mod j]
theorem ones_le : ∀ (j x : Nat), ones j x ≤ j
  | 0, x => Nat.le_refl _
  | j + 1, x => by
    simp only [ones]
    have := ones_le j (x / 2)
    omega
def m55 : Nat → Nat | 0 => 0 | n + 1 => m55 n * 256 + 85
def m33 : Nat → Nat | 0 => 0 | n + 1 => m33 n * 256 + 51
def m0f : Nat → Nat | 0 => 0 | n + 1 => m0f n * 256 + 15
def f1 (b : Nat) : Nat := (b / 2 &&& 85) + (b &&& 85)
def f2 (b : Nat) : Nat := (b / 4 &&& 51) + (b &&& 51)
def F1 (n x : Nat) : Nat := (x / 2 &&& m55 n) + (x &&& m55 n)
def F2 (n x : Nat) : Nat := (x / 4 &&& m33 n) + (x &&& m33 n)
def F3 (n x : Nat) : Nat := (x / 16 + x) &&& m0f n
theorem and_split (q b M m : Nat) (hb : b < 256) (hm : m < 256) : (q * 256 + b) &&& (M * 256 + m) = (q &&& M) * 256 + (b &&& m) := by
  have h1 := Nat.and_div_two_pow (a := q * 256 + b) (b := M * 256 + m) (n := 8)
  have h2 := Nat.and_mod_two_pow (a := q * 256 + b) (b := M * 256 + m) (n := 8)
  rw [show (2 : Nat) ^ 8 = 256 from rfl] at h1 h2
  rw [show (q * 256 + b) / 256 = q by omega, show (M * 256 + m) / 256 = M by omega] at h1
  rw [show (q * 256 + b) % 256 = b by omega, show (M * 256 + m) % 256 = m by omega] at h2
  omega
theorem t1 : ∀ c : Fin 128, (128 + c.val) &&& 85 = c.val &&& 85 := by decide +kernel
theorem t2 : ∀ r : Fin 4, ∀ c : Fin 64, (r.val * 64 + c.val) &&& 51 = c.val &&& 51 := by decide +kernel
theorem t3 : ∀ b : Fin 256, f1 b.val < 256 ∧ f2 (f1 b.val) < 256 ∧ f2 (f1 b.val) % 16 ≤ 4 ∧ f2 (f1 b.val) / 16 ≤ 4 ∧ f2 (f1 b.val) / 16 + f2 (f1 b.val) % 16 = ones 8 b.val := by decide +kernel
theorem F1_succ (n q b : Nat) (hb : b < 256) : F1 (n + 1) (q * 256 + b) = F1 n q * 256 + f1 b := by
  unfold F1 f1
  rw [show m55 (n + 1) = m55 n * 256 + 85 from rfl]
  have hd : (q * 256 + b) / 2 = q / 2 * 256 + ((q % 2) * 128 + b / 2) := by omega
  have hl : (q % 2) * 128 + b / 2 &&& 85 = b / 2 &&& 85 := by
    rcases Nat.mod_two_eq_zero_or_one q with h | h
    · rw [h]; simp
    · rw [h, Nat.one_mul]; exact t1 ⟨b / 2, by omega⟩
  rw [hd, and_split _ _ _ _ (by omega) (by omega), and_split _ _ _ _ hb (by omega), hl]
  omega
theorem F2_succ (n q b : Nat) (hb : b < 256) : F2 (n + 1) (q * 256 + b) = F2 n q * 256 + f2 b := by
  unfold F2 f2
  rw [show m33 (n + 1) = m33 n * 256 + 51 from rfl]
  have hd : (q * 256 + b) / 4 = q / 4 * 256 + ((q % 4) * 64 + b / 4) := by omega
  have hl : (q % 4) * 64 + b / 4 &&& 51 = b / 4 &&& 51 := t2 ⟨q % 4, by omega⟩ ⟨b / 4, by omega⟩
  rw [hd, and_split _ _ _ _ (by omega) (by omega), and_split _ _ _ _ hb (by omega), hl]
  omega
theorem F3_succ (n q b : Nat) (hb : b < 256) (hq : q % 16 ≤ 4) (h1 : b % 16 ≤ 4) (h2 : b / 16 ≤ 4) : F3 (n + 1) (q * 256 + b) = F3 n q * 256 + (b / 16 + b % 16) := by
  unfold F3
  rw [show m0f (n + 1) = m0f n * 256 + 15 from rfl]
  have hd : (q * 256 + b) / 16 + (q * 256 + b) = (q / 16 + q) * 256 + ((q % 16) * 16 + b / 16 + b) := by omega
  have hl : (q % 16) * 16 + b / 16 + b &&& 15 = b / 16 + b % 16 := by
    have := Nat.and_two_pow_sub_one_eq_mod ((q % 16) * 16 + b / 16 + b) 4
    rw [show (2 : Nat) ^ 4 - 1 = 15 from rfl, show (2 : Nat) ^ 4 = 16 from rfl] at this
    rw [this]
    omega
  rw [hd, and_split _ _ _ _ (by omega) (by omega), hl]
theorem low : ∀ (n x : Nat), F2 n (F1 n x) % 16 ≤ 4
  | 0, x => by simp [F2, m33]
  | n + 1, x => by
    obtain ⟨h1, h2, h3, h4, h5⟩ := t3 ⟨x % 256, by omega⟩
    simp only at h1 h2 h3
    rw [show x = x / 256 * 256 + x % 256 by omega, F1_succ n _ _ (by omega), F2_succ n _ _ h1]
    omega
/-- The first three steps: each byte's number of bits. -/
def G (n x : Nat) : Nat := F3 n (F2 n (F1 n x))
theorem G_succ (n x : Nat) : G (n + 1) x = G n (x / 256) * 256 + ones 8 (x % 256) := by
  obtain ⟨h1, h2, h3, h4, h5⟩ := t3 ⟨x % 256, by omega⟩
  simp only at h1 h2 h3 h4 h5
  unfold G
  rw [show F1 (n + 1) x = F1 n (x / 256) * 256 + f1 (x % 256) by
    have := F1_succ n (x / 256) (x % 256) (by omega)
    rw [show x / 256 * 256 + x % 256 = x by omega] at this
    exact this, F2_succ n _ _ h1, F3_succ n _ _ h2 (low n _) h3 h4, h5]
theorem ones_byte (k x : Nat) : ones (8 + k) x = ones 8 (x % 256) + ones k (x / 256) := by
  rw [ones_add, ← ones_mod 8 x]
theorem div_key (y A B m : Nat) (h : y = m * A + B) (hB : B < m) : y / m = A := by
  rw [h, Nat.mul_add_div (by omega), Nat.div_eq_of_lt hB, Nat.add_zero]
theorem ones_zero (y : Nat) : ones 0 y = 0 := rfl
theorem pop_all (x : Nat) : ∃ p0 p1 p2 p3 p4 p5 p6 p7 : Nat, (p0 ≤ 8 ∧ p1 ≤ 8 ∧ p2 ≤ 8 ∧ p3 ≤ 8 ∧ p4 ≤ 8 ∧ p5 ≤ 8 ∧ p6 ≤ 8 ∧ p7 ≤ 8) ∧
    G 8 x = (((((((0 * 256 + p7) * 256 + p6) * 256 + p5) * 256 + p4) * 256 + p3) * 256 + p2) * 256 + p1) * 256 + p0 ∧ ones 64 x = p0 + (p1 + (p2 + (p3 + (p4 + (p5 + (p6 + (p7 + 0))))))) := by
  have g9 : ∀ y, G 0 y = 0 := fun y => by simp [G, F3, m0f]
  refine ⟨ones 8 (x % 256), ones 8 (x / 256 % 256), ones 8 (x / 256 / 256 % 256), ones 8 (x / 256 / 256 / 256 % 256), ones 8 (x / 256 / 256 / 256 / 256 % 256), ones 8 (x / 256 / 256 / 256 / 256 / 256 % 256), ones 8 (x / 256 / 256 / 256 / 256 / 256 / 256 % 256), ones 8 (x / 256 / 256 / 256 / 256 / 256 / 256 / 256 % 256), ⟨ones_le 8 _, ones_le 8 _, ones_le 8 _, ones_le 8 _, ones_le 8 _, ones_le 8 _, ones_le 8 _, ones_le 8 _⟩, ?_, ?_⟩
  rotate_left
  · rw [show 64 = 8 + 56 from rfl, ones_byte 56 x, show 56 = 8 + 48 from rfl, ones_byte 48, show 48 = 8 + 40 from rfl, ones_byte 40, show 40 = 8 + 32 from rfl, ones_byte 32, show 32 = 8 + 24 from rfl, ones_byte 24, show 24 = 8 + 16 from rfl, ones_byte 16, show 16 = 8 + 8 from rfl, ones_byte 8, show ones 8 (x / 256 / 256 / 256 / 256 / 256 / 256 / 256) = ones (8 + 0) (x / 256 / 256 / 256 / 256 / 256 / 256 / 256) from rfl, ones_byte 0 (x / 256 / 256 / 256 / 256 / 256 / 256 / 256)]
    rfl
  · rw [G_succ 7, G_succ 6, G_succ 5, G_succ 4, G_succ 3, G_succ 2, G_succ 1, G_succ 0, g9]
theorem m55_8 : m55 8 = 6148914691236517205 := by rfl
theorem m33_8 : m33 8 = 3689348814741910323 := by rfl
theorem m0f_8 : m0f 8 = 1085102592571150095 := by rfl
set_option maxRecDepth 100000 in
/-- The whole. -/
theorem pop (x : Nat) : ∀ y1 y2 y3, y1 = G 8 x + G 8 x / 256 → y2 = y1 + y1 / 65536 → y3 = y2 + y2 / 4294967296 → y3 % 128 = ones 64 x ∧ y3 < 9223372036854775808 ∧ G 8 x < 1152921504606846976 := by
  obtain ⟨p0, p1, p2, p3, p4, p5, p6, p7, ⟨h0, h1, h2, h3, h4, h5, h6, h7⟩, e, o⟩ := pop_all x
  rw [e, o]
  clear e o
  intro y1 y2 y3 e1 e2 e3
  have a1 : ((((((((0 * 256 + p7) * 256 + p6) * 256 + p5) * 256 + p4) * 256 + p3) * 256 + p2) * 256 + p1) * 256 + p0) / 256 = (((((((0 * 256 + p7) * 256 + p6) * 256 + p5) * 256 + p4) * 256 + p3) * 256 + p2) * 256 + p1) := div_key _ _ p0 _ (by omega) (by omega)
  rw [a1] at e1
  clear a1
  obtain ⟨c0, hc0⟩ : ∃ c, c = p0 + p1 := ⟨_, rfl⟩
  obtain ⟨c1, hc1⟩ : ∃ c, c = p1 + p2 := ⟨_, rfl⟩
  obtain ⟨c2, hc2⟩ : ∃ c, c = p2 + p3 := ⟨_, rfl⟩
  obtain ⟨c3, hc3⟩ : ∃ c, c = p3 + p4 := ⟨_, rfl⟩
  obtain ⟨c4, hc4⟩ : ∃ c, c = p4 + p5 := ⟨_, rfl⟩
  obtain ⟨c5, hc5⟩ : ∃ c, c = p5 + p6 := ⟨_, rfl⟩
  obtain ⟨c6, hc6⟩ : ∃ c, c = p6 + p7 := ⟨_, rfl⟩
  have f1 : y1 = ((((((p7 * 256 + c6) * 256 + c5) * 256 + c4) * 256 + c3) * 256 + c2) * 256 + c1) * 256 + c0 := by omega
  have a2 : y1 / 65536 = ((((p7 * 256 + c6) * 256 + c5) * 256 + c4) * 256 + c3) * 256 + c2 := div_key _ _ (c1 * 256 + c0) _ (by omega) (by omega)
  rw [a2] at e2
  have hG : (((((((0 * 256 + p7) * 256 + p6) * 256 + p5) * 256 + p4) * 256 + p3) * 256 + p2) * 256 + p1) * 256 + p0 < 1152921504606846976 := by omega
  have b0 : c0 ≤ 16 := by omega
  have b1 : c1 ≤ 16 := by omega
  have b2 : c2 ≤ 16 := by omega
  have b3 : c3 ≤ 16 := by omega
  have b4 : c4 ≤ 16 := by omega
  have b5 : c5 ≤ 16 := by omega
  have b6 : c6 ≤ 16 := by omega
  have hsum : p0 + (p1 + (p2 + (p3 + (p4 + (p5 + (p6 + (p7 + 0))))))) = c0 + c2 + (c4 + c6) := by omega
  rw [hsum]
  refine ⟨?_, ?_, hG⟩ <;> clear hG hsum hc0 hc1 hc2 hc3 hc4 hc5 hc6 e1 a2 h0 h1 h2 h3 h4 h5 h6
  all_goals (
    have f2 : y2 = ((((((p7 * 256 + c6) * 256 + (c5 + p7)) * 256 + (c4 + c6)) * 256 + (c3 + c5)) * 256 + (c2 + c4)) * 256 + (c1 + c3)) * 256 + (c0 + c2) := by omega
    have a3 : y2 / 4294967296 = ((p7 * 256 + c6) * 256 + (c5 + p7)) * 256 + (c4 + c6) := div_key _ _ (((c3 + c5) * 256 + (c2 + c4)) * 65536 + (c1 + c3) * 256 + (c0 + c2)) _ (by omega) (by omega)
    rw [a3] at e3
    clear a3 e2 f1)
  · have f3 : y3 = 128 * (2 * ((((((p7 * 256 + c6) * 256 + (c5 + p7)) * 256 + (c4 + c6)) * 256 + (c3 + c5 + p7)) * 256 + (c2 + c4 + c6)) * 256 + (c1 + c3 + (c5 + p7)))) + (c0 + c2 + (c4 + c6)) := by omega
    rw [f3, Nat.mul_add_mod, Nat.mod_eq_of_lt (by omega)]
  · omega
theorem F1_lt (x : Nat) (hx : x < 18446744073709551616) : F1 8 x < 18446744073709551616 := by
  have h1 : x / 2 &&& m55 8 ≤ m55 8 := Nat.and_le_right
  have h2 : x &&& m55 8 ≤ m55 8 := Nat.and_le_right
  unfold F1
  rw [m55_8] at h1 h2 ⊢
  omega
theorem F2_lt (x : Nat) : F2 8 x < 18446744073709551616 := by
  have h1 : x / 4 &&& m33 8 ≤ m33 8 := Nat.and_le_right
  have h2 : x &&& m33 8 ≤ m33 8 := Nat.and_le_right
  unfold F2
  rw [m33_8] at h1 h2 ⊢
  omega
end Go.Proofs.YtnnhbgaeohdojaaDoor.On
namespace Go.Proofs.YtnnhbgaeohdojaaDoor
open Go.RowKit
set_option maxRecDepth 100000 in
set_option maxHeartbeats 4000000 in
theorem ones_any (x : Nat) (w : World) (hx : x ≤ 18446744073709551615) :
    Calls Tryd.prog 55 #[.int .u64 (x : Int)] w fun e w' => e = .returned (.int .i64 (On.ones 64 x : Int)) ∧ w' = w := by
  obtain ⟨A1, h1⟩ : ∃ A, On.F1 8 x = A := ⟨_, rfl⟩
  obtain ⟨A2, h2⟩ : ∃ A, On.F2 8 A1 = A := ⟨_, rfl⟩
  obtain ⟨A3, h3⟩ : ∃ A, On.F3 8 A2 = A := ⟨_, rfl⟩
  have hG : On.G 8 x = A3 := by unfold On.G; rw [h1, h2, h3]
  have hp := On.pop x
  rw [hG] at hp
  have l1 := On.F1_lt x (by omega)
  rw [h1] at l1
  have l2 := On.F2_lt A1
  rw [h2] at l2
  obtain ⟨Y1, hY1⟩ : ∃ Y, A3 + A3 / 256 = Y := ⟨_, rfl⟩
  obtain ⟨Y2, hY2⟩ : ∃ Y, Y1 + Y1 / 65536 = Y := ⟨_, rfl⟩
  obtain ⟨Y3, hY3⟩ : ∃ Y, Y2 + Y2 / 4294967296 = Y := ⟨_, rfl⟩
  obtain ⟨q1, q2, q3⟩ := hp Y1 Y2 Y3 hY1.symm hY2.symm hY3.symm
  have e1 : IntKind.u64.wrap (bits .and .u64 ((x : Int) / 2) 6148914691236517205 + bits .and .u64 (x : Int) 6148914691236517205) = (A1 : Int) := by
    have a := bits_and_u64_nat (x / 2) 6148914691236517205 (by omega) (by omega)
    have b := bits_and_u64_nat x 6148914691236517205 (by omega) (by omega)
    rw [show ((x : Int) / 2) = ((x / 2 : Nat) : Int) by omega]
    have h := h1
    unfold On.F1 at h
    rw [On.m55_8] at h
    refine (congrArg IntKind.u64.wrap (congr (congrArg HAdd.hAdd a) b)).trans ?_
    rw [IntKind.wrap_u64]
    omega
  have e2 : IntKind.u64.wrap (bits .and .u64 ((A1 : Int) / 4) 3689348814741910323 + bits .and .u64 (A1 : Int) 3689348814741910323) = (A2 : Int) := by
    have a := bits_and_u64_nat (A1 / 4) 3689348814741910323 (by omega) (by omega)
    have b := bits_and_u64_nat A1 3689348814741910323 (by omega) (by omega)
    rw [show ((A1 : Int) / 4) = ((A1 / 4 : Nat) : Int) by omega]
    have h := h2
    unfold On.F2 at h
    rw [On.m33_8] at h
    refine (congrArg IntKind.u64.wrap (congr (congrArg HAdd.hAdd a) b)).trans ?_
    rw [IntKind.wrap_u64]
    omega
  have l3 : A2 ≤ 7378697629483820646 := by
    have a : A1 / 4 &&& On.m33 8 ≤ On.m33 8 := Nat.and_le_right
    have b : A1 &&& On.m33 8 ≤ On.m33 8 := Nat.and_le_right
    have h := h2
    unfold On.F2 at h
    rw [On.m33_8] at h a b
    omega
  have e3 : bits .and .u64 (IntKind.u64.wrap ((A2 : Int) / 16 + (A2 : Int))) 1085102592571150095 = (A3 : Int) := by
    have a := bits_and_u64_nat (A2 / 16 + A2) 1085102592571150095 (by omega) (by omega)
    rw [show IntKind.u64.wrap ((A2 : Int) / 16 + (A2 : Int)) = ((A2 / 16 + A2 : Nat) : Int) by rw [IntKind.wrap_u64]; omega]
    have h := h3
    unfold On.F3 at h
    rw [On.m0f_8] at h
    refine a.trans ?_
    rw [h]
  have e4 : IntKind.u64.wrap ((A3 : Int) + (A3 : Int) / 256) = (Y1 : Int) := by rw [IntKind.wrap_u64]; omega
  have e5 : IntKind.u64.wrap ((Y1 : Int) + (Y1 : Int) / 65536) = (Y2 : Int) := by rw [IntKind.wrap_u64]; omega
  have e6 : IntKind.u64.wrap ((Y2 : Int) + (Y2 : Int) / 4294967296) = (Y3 : Int) := by rw [IntKind.wrap_u64]; omega
  have e7 : IntKind.i64.wrap (Y3 : Int) = (Y3 : Int) := by rw [IntKind.wrap_i64]; omega
  have e8 : bits .and .i64 (Y3 : Int) 127 = (On.ones 64 x : Int) := by
    rw [show (127 : Int) = 2 ^ 7 - 1 by decide, bits_mask .i64 63 (by decide) (fun n h0 h1 => by rw [IntKind.wrap_i64]; omega) 7 (by decide) (Y3 : Int) (by omega) (by omega)]
    omega
  obtain ⟨R, hR⟩ : ∃ R, (On.ones 64 x : Int) = R := ⟨_, rfl⟩
  rw [hR] at e8 ⊢
  clear hR q1 q2 q3 hY1 hY2 hY3 l1 l2 l3 hp hG h1 h2 h3
  go_enter Tryd.func55, Tryd.ntmps55
  go_wp2
  go_ret
  exact ⟨rfl, rfl⟩
end Go.Proofs.YtnnhbgaeohdojaaDoor
