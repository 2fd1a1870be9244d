/-
  SHA-256 over plain numbers, as the kernel evaluates it fast, and that it is the same. No translation stands here.
-/
import Derived.Test.YtgbajlmcoghofaaDoorShaM
namespace Go.Proofs.YtgbajlmcoghofaaDoor
set_option linter.unusedVariables false
namespace Ev
def rr (x n m : Nat) : Nat := Nat.lor (Nat.shiftRight x n) (Nat.mod (Nat.shiftLeft x m) 4294967296)
def bs0 (a : Nat) : Nat := Nat.xor (Nat.xor (rr a 2 30) (rr a 13 19)) (rr a 22 10)
def bs1 (e : Nat) : Nat := Nat.xor (Nat.xor (rr e 6 26) (rr e 11 21)) (rr e 25 7)
def ss0 (x : Nat) : Nat := Nat.xor (Nat.xor (rr x 7 25) (rr x 18 14)) (Nat.shiftRight x 3)
def ss1 (x : Nat) : Nat := Nat.xor (Nat.xor (rr x 17 15) (rr x 19 13)) (Nat.shiftRight x 10)
def ch (e f g : Nat) : Nat := Nat.xor (Nat.land e f) (Nat.land (Nat.sub 4294967295 e) g)
def mj (a b c : Nat) : Nat := Nat.xor (Nat.xor (Nat.land a b) (Nat.land a c)) (Nat.land b c)
def rounds : List Nat → Nat → Nat → Nat → Nat → Nat → Nat → Nat → Nat → Nat → Nat → Nat → Nat → Nat → Nat → Nat → Nat → Nat → Nat → Nat → Nat → Nat → Nat → Nat → Nat → List Nat
  | [], _, _, _, _, _, _, _, _, _, _, _, _, _, _, _, _, a, b, c, d, e, f, g, h => [a, b, c, d, e, f, g, h]
  | k :: ks, w0, w1, w2, w3, w4, w5, w6, w7, w8, w9, w10, w11, w12, w13, w14, w15, a, b, c, d, e, f, g, h =>
    let t := Nat.add (Nat.add (Nat.add (Nat.add h (bs1 e)) (ch e f g)) k) w0
    rounds ks w1 w2 w3 w4 w5 w6 w7 w8 w9 w10 w11 w12 w13 w14 w15 (Nat.mod (Nat.add (Nat.add (Nat.add w0 w9) (ss0 w1)) (ss1 w14)) 4294967296)
      (Nat.mod (Nat.add t (Nat.add (bs0 a) (mj a b c))) 4294967296) a b c (Nat.mod (Nat.add d t) 4294967296) e f g
def kk : List Nat := [
  1116352408, 1899447441, 3049323471, 3921009573, 961987163, 1508970993, 2453635748, 2870763221,
  3624381080, 310598401, 607225278, 1426881987, 1925078388, 2162078206, 2614888103, 3248222580,
  3835390401, 4022224774, 264347078, 604807628, 770255983, 1249150122, 1555081692, 1996064986,
  2554220882, 2821834349, 2952996808, 3210313671, 3336571891, 3584528711, 113926993, 338241895,
  666307205, 773529912, 1294757372, 1396182291, 1695183700, 1986661051, 2177026350, 2456956037,
  2730485921, 2820302411, 3259730800, 3345764771, 3516065817, 3600352804, 4094571909, 275423344,
  430227734, 506948616, 659060556, 883997877, 958139571, 1322822218, 1537002063, 1747873779,
  1955562222, 2024104815, 2227730452, 2361852424, 2428436474, 2756734187, 3204031479, 3329325298]
def st0 : List Nat := [1779033703, 3144134277, 1013904242, 2773480762, 1359893119, 2600822924, 528734635, 1541459225]
/-- One block of 16 numbers is mixed into eight. -/
def cmp (s : List Nat) : List Nat → List Nat
  | [w0, w1, w2, w3, w4, w5, w6, w7, w8, w9, w10, w11, w12, w13, w14, w15] =>
    match s with
    | [a, b, c, d, e, f, g, h] => List.zipWith (fun x y => Nat.mod (Nat.add x y) 4294967296) [a, b, c, d, e, f, g, h] (rounds kk w0 w1 w2 w3 w4 w5 w6 w7 w8 w9 w10 w11 w12 w13 w14 w15 a b c d e f g h)
    | _ => []
  | _ => []
/-- The numbers are evaluated ahead of what follows. -/
def force (l : List Nat) (k : List Nat → List Nat) : List Nat := bif Nat.ble (l.foldr Nat.add 0) 0 then k l else k l
theorem force_eq (l : List Nat) (k : List Nat → List Nat) : force l k = k l := by
  unfold force
  cases Nat.ble (l.foldr Nat.add 0) 0 <;> rfl
def eat : Nat → List Nat → List Nat → List Nat
  | 0, s, _ => s
  | n + 1, s, w => force (cmp s (w.take 16)) (fun s' => eat n s' (w.drop 16))

/-- Numbers of 32 bits as plain ones. -/
def N (l : List UInt32) : List Nat := l.map UInt32.toNat
theorem N_append (a b : List UInt32) : N (a ++ b) = N a ++ N b := List.map_append
theorem N_inj {a b : List UInt32} (h : N a = N b) : a = b := List.map_inj_right (fun x y h => UInt32.toNat_inj.1 h) |>.1 h

theorem rr_nat (x n : UInt32) (p q : Nat) (hp : n.toNat % 32 = p) (hq : (32 - n).toNat % 32 = q) : (Sh.rr x n).toNat = rr x.toNat p q := by
  unfold Sh.rr
  rw [UInt32.toNat_or, UInt32.toNat_shiftRight, UInt32.toNat_shiftLeft, hp, hq]
  rfl
theorem bs0_nat (a : UInt32) : (Sh.bsig0 a).toNat = bs0 a.toNat := by
  unfold Sh.bsig0
  rw [UInt32.toNat_xor, UInt32.toNat_xor, rr_nat a 2 2 30 (by decide) (by decide), rr_nat a 13 13 19 (by decide) (by decide), rr_nat a 22 22 10 (by decide) (by decide)]
  rfl
theorem bs1_nat (a : UInt32) : (Sh.bsig1 a).toNat = bs1 a.toNat := by
  unfold Sh.bsig1
  rw [UInt32.toNat_xor, UInt32.toNat_xor, rr_nat a 6 6 26 (by decide) (by decide), rr_nat a 11 11 21 (by decide) (by decide), rr_nat a 25 25 7 (by decide) (by decide)]
  rfl
theorem ss0_nat (a : UInt32) : (Sh.ssig0 a).toNat = ss0 a.toNat := by
  unfold Sh.ssig0
  rw [UInt32.toNat_xor, UInt32.toNat_xor, rr_nat a 7 7 25 (by decide) (by decide), rr_nat a 18 18 14 (by decide) (by decide), UInt32.toNat_shiftRight, show (3 : UInt32).toNat % 32 = 3 by decide]
  rfl
theorem ss1_nat (a : UInt32) : (Sh.ssig1 a).toNat = ss1 a.toNat := by
  unfold Sh.ssig1
  rw [UInt32.toNat_xor, UInt32.toNat_xor, rr_nat a 17 17 15 (by decide) (by decide), rr_nat a 19 19 13 (by decide) (by decide), UInt32.toNat_shiftRight, show (10 : UInt32).toNat % 32 = 10 by decide]
  rfl
theorem ch_nat (e f g : UInt32) : (Sh.chs e f g).toNat = ch e.toNat f.toNat g.toNat := by
  unfold Sh.chs
  rw [UInt32.toNat_xor, UInt32.toNat_and, UInt32.toNat_and, UInt32.toNat_not]
  rfl
theorem mj_nat (a b c : UInt32) : (Sh.maj a b c).toNat = mj a.toNat b.toNat c.toNat := by
  unfold Sh.maj
  rw [UInt32.toNat_xor, UInt32.toNat_xor, UInt32.toNat_and, UInt32.toNat_and, UInt32.toNat_and]
  rfl
def nxt (w0 w1 w9 w14 : UInt32) : UInt32 := w0 + w9 + Sh.ssig0 w1 + Sh.ssig1 w14
theorem nxt_nat (w0 w1 w9 w14 : UInt32) : (nxt w0 w1 w9 w14).toNat = Nat.mod (Nat.add (Nat.add (Nat.add w0.toNat w9.toNat) (ss0 w1.toNat)) (ss1 w14.toNat)) 4294967296 := by
  unfold nxt
  rw [UInt32.toNat_add, UInt32.toNat_add, UInt32.toNat_add, ss0_nat, ss1_nat]
  show _ = (w0.toNat + w9.toNat + ss0 w1.toNat + ss1 w14.toNat) % 4294967296
  simp only [Nat.reducePow]
  omega
theorem tt_nat (s : Sh.St) (k w : UInt32) : (Sh.tt s k w).toNat = (s.h.toNat + bs1 s.e.toNat + ch s.e.toNat s.f.toNat s.g.toNat + k.toNat + w.toNat) % 4294967296 := by
  unfold Sh.tt
  rw [UInt32.toNat_add, UInt32.toNat_add, UInt32.toNat_add, UInt32.toNat_add, bs1_nat, ch_nat]
  simp only [Nat.reducePow]
  omega
theorem uu_nat (s : Sh.St) : (Sh.uu s).toNat = (bs0 s.a.toNat + mj s.a.toNat s.b.toNat s.c.toNat) % 4294967296 := by
  unfold Sh.uu
  rw [UInt32.toNat_add, bs0_nat, mj_nat]
theorem step_a (s : Sh.St) (k w : UInt32) : (Sh.step s k w).a.toNat = Nat.mod (Nat.add (Nat.add (Nat.add (Nat.add (Nat.add s.h.toNat (bs1 s.e.toNat)) (ch s.e.toNat s.f.toNat s.g.toNat)) k.toNat) w.toNat) (Nat.add (bs0 s.a.toNat) (mj s.a.toNat s.b.toNat s.c.toNat))) 4294967296 := by
  show (Sh.tt s k w + Sh.uu s).toNat = (s.h.toNat + bs1 s.e.toNat + ch s.e.toNat s.f.toNat s.g.toNat + k.toNat + w.toNat + (bs0 s.a.toNat + mj s.a.toNat s.b.toNat s.c.toNat)) % 4294967296
  rw [UInt32.toNat_add, tt_nat, uu_nat]
  simp only [Nat.reducePow]
  omega
theorem step_e (s : Sh.St) (k w : UInt32) : (Sh.step s k w).e.toNat = Nat.mod (Nat.add s.d.toNat (Nat.add (Nat.add (Nat.add (Nat.add s.h.toNat (bs1 s.e.toNat)) (ch s.e.toNat s.f.toNat s.g.toNat)) k.toNat) w.toNat)) 4294967296 := by
  show (s.d + Sh.tt s k w).toNat = (s.d.toNat + (s.h.toNat + bs1 s.e.toNat + ch s.e.toNat s.f.toNat s.g.toNat + k.toNat + w.toNat)) % 4294967296
  rw [UInt32.toNat_add, tt_nat]
  simp only [Nat.reducePow]
  omega
/-- The numbers of a block, one behind the other, of the 16 that stand there. -/
def heads : Nat → UInt32 → UInt32 → UInt32 → UInt32 → UInt32 → UInt32 → UInt32 → UInt32 → UInt32 → UInt32 → UInt32 → UInt32 → UInt32 → UInt32 → UInt32 → UInt32 → List UInt32
  | 0, _, _, _, _, _, _, _, _, _, _, _, _, _, _, _, _ => []
  | n + 1, w0, w1, w2, w3, w4, w5, w6, w7, w8, w9, w10, w11, w12, w13, w14, w15 => w0 :: heads n w1 w2 w3 w4 w5 w6 w7 w8 w9 w10 w11 w12 w13 w14 w15 (nxt w0 w1 w9 w14)
theorem rounds_eq : ∀ (ks : List UInt32) (w0 w1 w2 w3 w4 w5 w6 w7 w8 w9 w10 w11 w12 w13 w14 w15 : UInt32) (s : Sh.St),
    rounds (N ks) w0.toNat w1.toNat w2.toNat w3.toNat w4.toNat w5.toNat w6.toNat w7.toNat w8.toNat w9.toNat w10.toNat w11.toNat w12.toNat w13.toNat w14.toNat w15.toNat s.a.toNat s.b.toNat s.c.toNat s.d.toNat s.e.toNat s.f.toNat s.g.toNat s.h.toNat
      = N (Sh.rounds s (ks.zip (heads ks.length w0 w1 w2 w3 w4 w5 w6 w7 w8 w9 w10 w11 w12 w13 w14 w15))).list
  | [], _, _, _, _, _, _, _, _, _, _, _, _, _, _, _, _, _ => rfl
  | k :: ks, w0, w1, w2, w3, w4, w5, w6, w7, w8, w9, w10, w11, w12, w13, w14, w15, s => by
    have ih := rounds_eq ks w1 w2 w3 w4 w5 w6 w7 w8 w9 w10 w11 w12 w13 w14 w15 (nxt w0 w1 w9 w14) (Sh.step s k w0)
    rw [nxt_nat, step_a, step_e] at ih
    exact ih
theorem ext_front (n : Nat) : ∀ ws : List UInt32, Sh.ext (n + 1) ws = Sh.ext n (ws ++ [Sh.nextW ws]) := by
  induction n with
  | zero => intro ws; rfl
  | succ n ih =>
    intro ws
    show Sh.ext (n + 1) ws ++ [Sh.nextW (Sh.ext (n + 1) ws)] = _
    rw [ih]
    rfl
theorem getD_behind (pre l : List UInt32) (i j : Nat) (h : j = pre.length + i) : (pre ++ l).getD j 0 = l.getD i 0 := by
  subst h
  rw [List.getD_eq_getElem?_getD, List.getD_eq_getElem?_getD, List.getElem?_append_right (by omega), Nat.add_sub_cancel_left]
theorem ext_heads : ∀ (n : Nat) (pre : List UInt32) (w0 w1 w2 w3 w4 w5 w6 w7 w8 w9 w10 w11 w12 w13 w14 w15 : UInt32),
    Sh.ext n (pre ++ [w0, w1, w2, w3, w4, w5, w6, w7, w8, w9, w10, w11, w12, w13, w14, w15]) = pre ++ heads (n + 16) w0 w1 w2 w3 w4 w5 w6 w7 w8 w9 w10 w11 w12 w13 w14 w15
  | 0, _, _, _, _, _, _, _, _, _, _, _, _, _, _, _, _, _ => rfl
  | n + 1, pre, w0, w1, w2, w3, w4, w5, w6, w7, w8, w9, w10, w11, w12, w13, w14, w15 => by
    have e : Sh.nextW (pre ++ [w0, w1, w2, w3, w4, w5, w6, w7, w8, w9, w10, w11, w12, w13, w14, w15]) = nxt w0 w1 w9 w14 := by
      unfold Sh.nextW
      have hl : (pre ++ [w0, w1, w2, w3, w4, w5, w6, w7, w8, w9, w10, w11, w12, w13, w14, w15]).length = pre.length + 16 := by rw [List.length_append]; rfl
      rw [hl, getD_behind pre _ 0 _ (by omega), getD_behind pre _ 9 _ (by omega), getD_behind pre _ 1 _ (by omega), getD_behind pre _ 14 _ (by omega)]
      rfl
    rw [ext_front, e]
    have ih := ext_heads n (pre ++ [w0]) w1 w2 w3 w4 w5 w6 w7 w8 w9 w10 w11 w12 w13 w14 w15 (nxt w0 w1 w9 w14)
    rw [List.append_assoc] at ih
    rw [List.append_assoc]
    show Sh.ext n (pre ++ ([w0] ++ [w1, w2, w3, w4, w5, w6, w7, w8, w9, w10, w11, w12, w13, w14, w15, nxt w0 w1 w9 w14])) = _
    rw [ih, List.append_assoc, show n + 1 + 16 = (n + 16) + 1 by omega]
    rfl
/-- A block, by its 16 numbers. -/
def compW (st : Sh.St) (ws : List UInt32) : Sh.St := Sh.add8 st (Sh.rounds st (Sh.roots.zip (Sh.ext 48 ws)))
theorem comp_words (st : Sh.St) (blk : List UInt8) : Sh.comp st blk = compW st (Sh.firstN 16 blk) := rfl
theorem roots_N : N Sh.roots = kk := by decide
theorem sixteen (ws : List UInt32) (h : ws.length = 16) : ∃ w0 w1 w2 w3 w4 w5 w6 w7 w8 w9 w10 w11 w12 w13 w14 w15, ws = [w0, w1, w2, w3, w4, w5, w6, w7, w8, w9, w10, w11, w12, w13, w14, w15] := by
  match ws, h with
  | [w0, w1, w2, w3, w4, w5, w6, w7, w8, w9, w10, w11, w12, w13, w14, w15], _ => exact ⟨w0, w1, w2, w3, w4, w5, w6, w7, w8, w9, w10, w11, w12, w13, w14, w15, rfl⟩
theorem cmp_eq (st : Sh.St) (ws : List UInt32) (h : ws.length = 16) : cmp (N st.list) (N ws) = N (compW st ws).list := by
  obtain ⟨w0, w1, w2, w3, w4, w5, w6, w7, w8, w9, w10, w11, w12, w13, w14, w15, rfl⟩ := sixteen ws h
  have e : Sh.ext 48 [w0, w1, w2, w3, w4, w5, w6, w7, w8, w9, w10, w11, w12, w13, w14, w15] = heads 64 w0 w1 w2 w3 w4 w5 w6 w7 w8 w9 w10 w11 w12 w13 w14 w15 := ext_heads 48 [] w0 w1 w2 w3 w4 w5 w6 w7 w8 w9 w10 w11 w12 w13 w14 w15
  have r := rounds_eq Sh.roots w0 w1 w2 w3 w4 w5 w6 w7 w8 w9 w10 w11 w12 w13 w14 w15 st
  rw [show Sh.roots.length = 64 from rfl, ← e, roots_N] at r
  unfold compW
  obtain ⟨t, ht⟩ : ∃ t, Sh.rounds st (Sh.roots.zip (Sh.ext 48 [w0, w1, w2, w3, w4, w5, w6, w7, w8, w9, w10, w11, w12, w13, w14, w15])) = t := ⟨_, rfl⟩
  rw [ht] at r
  rw [ht]
  show List.zipWith (fun x y => Nat.mod (Nat.add x y) 4294967296) (N st.list) (rounds kk w0.toNat w1.toNat w2.toNat w3.toNat w4.toNat w5.toNat w6.toNat w7.toNat w8.toNat w9.toNat w10.toNat w11.toNat w12.toNat w13.toNat w14.toNat w15.toNat st.a.toNat st.b.toNat st.c.toNat st.d.toNat st.e.toNat st.f.toNat st.g.toNat st.h.toNat) = _
  rw [r]
  show [_, _, _, _, _, _, _, _] = [(st.a + t.a).toNat, (st.b + t.b).toNat, (st.c + t.c).toNat, (st.d + t.d).toNat, (st.e + t.e).toNat, (st.f + t.f).toNat, (st.g + t.g).toNat, (st.h + t.h).toNat]
  simp only [UInt32.toNat_add]
  rfl
def eatW : Nat → Sh.St → List UInt32 → Sh.St
  | 0, s, _ => s
  | n + 1, s, w => eatW n (compW s (w.take 16)) (w.drop 16)
theorem eat_eq : ∀ (n : Nat) (st : Sh.St) (ws : List UInt32), ws.length = 16 * n → eat n (N st.list) (N ws) = N (eatW n st ws).list
  | 0, _, _, _ => rfl
  | n + 1, st, ws, h => by
    show force (cmp (N st.list) ((N ws).take 16)) (fun s' => eat n s' ((N ws).drop 16)) = _
    rw [force_eq]
    have e1 : (N ws).take 16 = N (ws.take 16) := by unfold N; rw [List.map_take]
    have e2 : (N ws).drop 16 = N (ws.drop 16) := by unfold N; rw [List.map_drop]
    rw [e1, e2, cmp_eq _ _ (by rw [List.length_take]; omega)]
    exact eat_eq n _ _ (by rw [List.length_drop]; omega)

theorem wd_out (x : UInt32) : Sh.wd (Sh.out4 x) = x := by
  have step : ∀ (x : UInt32) (y : UInt8), x.toNat < 16777216 → ((x <<< 8) ||| y.toUInt32).toNat = x.toNat * 256 + y.toNat := fun x y hx => by
    have hy := y.toNat_lt
    rw [UInt32.toNat_or]
    have e1 : (x <<< 8).toNat = 2 ^ 8 * x.toNat := by
      rw [UInt32.toNat_shiftLeft, Nat.shiftLeft_eq]
      have : (8 : UInt32).toNat % 32 = 8 := by decide
      rw [this, Nat.mod_eq_of_lt (by omega)]
      omega
    have e2 : y.toUInt32.toNat = y.toNat := by simp
    rw [e1, e2, ← Nat.two_pow_add_eq_or_of_lt (by omega)]
    omega
  have hb : ∀ (n : UInt32) (p : Nat), n.toNat % 32 = p → (x >>> n).toUInt8.toNat = x.toNat / 2 ^ p % 256 := fun n p hp => by
    rw [UInt32.toNat_toUInt8, UInt32.toNat_shiftRight, hp, Nat.shiftRight_eq_div_pow]
  have h0 := hb 24 24 (by decide)
  have h1 := hb 16 16 (by decide)
  have h2 := hb 8 8 (by decide)
  have h3 := hb 0 0 (by decide)
  show (((((0 : UInt32) <<< 8 ||| (x >>> 24).toUInt8.toUInt32) <<< 8 ||| (x >>> 16).toUInt8.toUInt32) <<< 8 ||| (x >>> 8).toUInt8.toUInt32) <<< 8 ||| (x >>> 0).toUInt8.toUInt32) = x
  apply UInt32.toNat_inj.1
  have hx := x.toNat_lt
  have s1 := step 0 (x >>> 24).toUInt8 (by decide)
  have z : (0 : UInt32).toNat = 0 := rfl
  rw [z, h0] at s1
  have s2 := step ((0 : UInt32) <<< 8 ||| (x >>> 24).toUInt8.toUInt32) (x >>> 16).toUInt8 (by rw [s1]; omega)
  rw [s1, h1] at s2
  have s3 := step (((0 : UInt32) <<< 8 ||| (x >>> 24).toUInt8.toUInt32) <<< 8 ||| (x >>> 16).toUInt8.toUInt32) (x >>> 8).toUInt8 (by rw [s2]; omega)
  rw [s2, h2] at s3
  have s4 := step ((((0 : UInt32) <<< 8 ||| (x >>> 24).toUInt8.toUInt32) <<< 8 ||| (x >>> 16).toUInt8.toUInt32) <<< 8 ||| (x >>> 8).toUInt8.toUInt32) (x >>> 0).toUInt8 (by rw [s3]; omega)
  rw [s3, h3] at s4
  rw [s4]
  omega
theorem flat_length : ∀ ws : List UInt32, (ws.flatMap Sh.out4).length = 4 * ws.length
  | [] => rfl
  | w :: ws => by rw [List.flatMap_cons, List.length_append, flat_length ws, List.length_cons]; show 4 + _ = _; omega
theorem firstN_flat : ∀ (n : Nat) (ws : List UInt32), n ≤ ws.length → Sh.firstN n (ws.flatMap Sh.out4) = ws.take n := by
  intro n ws h
  apply List.ext_getElem?
  intro j
  unfold Sh.firstN
  rw [List.getElem?_map, List.getElem?_take]
  by_cases hj : j < n
  · rw [List.getElem?_range hj, if_pos hj]
    show some (Sh.wd (((ws.flatMap Sh.out4).drop (4 * j)).take 4)) = _
    have key : ∀ (j : Nat) (ws : List UInt32) (h : j < ws.length), ((ws.flatMap Sh.out4).drop (4 * j)).take 4 = Sh.out4 ws[j] := by
      intro j
      induction j with
      | zero =>
        intro ws h
        match ws, h with
        | w :: r, _ => rfl
      | succ j ih =>
        intro ws h
        match ws, h with
        | w :: r, h =>
          rw [List.flatMap_cons, show 4 * (j + 1) = 4 + 4 * j by omega, ← List.drop_drop]
          show ((((r.flatMap Sh.out4)).drop (4 * j)).take 4) = _
          rw [ih r (by simp at h; omega)]
          rfl
    rw [key j ws (by omega), wd_out, List.getElem?_eq_getElem]
  · rw [List.getElem?_eq_none (by rw [List.length_range]; omega), if_neg hj]
    rfl
theorem take_flat (n : Nat) : ∀ ws : List UInt32, (ws.flatMap Sh.out4).take (4 * n) = (ws.take n).flatMap Sh.out4 := by
  induction n with
  | zero => intro ws; rfl
  | succ n ih =>
    intro ws
    cases ws with
    | nil => simp
    | cons w ws =>
      rw [List.flatMap_cons, List.take_succ_cons, List.flatMap_cons, show 4 * (n + 1) = (Sh.out4 w).length + 4 * n by show _ = 4 + 4 * n; omega, List.take_length_add_append, ih]
theorem drop_flat (n : Nat) : ∀ ws : List UInt32, (ws.flatMap Sh.out4).drop (4 * n) = (ws.drop n).flatMap Sh.out4 := by
  induction n with
  | zero => intro ws; rfl
  | succ n ih =>
    intro ws
    cases ws with
    | nil => simp
    | cons w ws =>
      rw [List.flatMap_cons, List.drop_succ_cons, show 4 * (n + 1) = (Sh.out4 w).length + 4 * n by show _ = 4 + 4 * n; omega, List.drop_length_add_append, ih]
theorem eat_words : ∀ (n : Nat) (st : Sh.St) (ws : List UInt32), ws.length = 16 * n → Sh.eat n st (ws.flatMap Sh.out4) = eatW n st ws
  | 0, _, _, _ => rfl
  | n + 1, st, ws, h => by
    show Sh.eat n (Sh.comp st ((ws.flatMap Sh.out4).take (4 * 16))) ((ws.flatMap Sh.out4).drop (4 * 16)) = eatW n (compW st (ws.take 16)) (ws.drop 16)
    rw [take_flat, drop_flat, comp_words, firstN_flat 16 _ (by rw [List.length_take]; omega), List.take_take, Nat.min_self]
    exact eat_words n _ _ (by rw [List.length_drop]; omega)
/-- The hash of bytes whose padded row is given by its numbers. -/
theorem sha_words (l : List UInt8) (n : Nat) (ws : List UInt32) (hl : ws.length = 16 * n) (hp : Sh.pad l = ws.flatMap Sh.out4) : Sh.sha l = Sh.outs (eatW n Sh.st0 ws) := by
  unfold Sh.sha
  have e : (Sh.pad l).length / 64 = n := by rw [hp, flat_length, hl]; omega
  rw [e, hp, eat_words n _ _ hl]
theorem outs_flat (s : Sh.St) : Sh.outs s = s.list.flatMap Sh.out4 := rfl
theorem outs_inj {s t : Sh.St} (h : Sh.outs s = Sh.outs t) : s.list = t.list := by
  have h1 := congrArg (Sh.firstN 8) h
  rw [outs_flat, outs_flat, firstN_flat 8 _ (Nat.le_refl _), firstN_flat 8 _ (Nat.le_refl _)] at h1
  exact h1
theorem st0_N : N Sh.st0.list = st0 := by decide
/-- The hash of a hash's bytes. -/
def half (s : Sh.St) : Sh.St := compW Sh.st0 (s.list ++ [2147483648, 0, 0, 0, 0, 0, 0, 256])
def halfN (l : List Nat) : List Nat := cmp st0 (l ++ [2147483648, 0, 0, 0, 0, 0, 0, 256])
theorem half_eq (s : Sh.St) : N (half s).list = halfN (N s.list) := by
  unfold half halfN
  rw [← cmp_eq _ _ rfl, N_append, st0_N]
  rfl
theorem sha_outs (s : Sh.St) : Sh.sha (Sh.outs s) = Sh.outs (half s) := by
  rw [sha_words (Sh.outs s) 1 (s.list ++ [2147483648, 0, 0, 0, 0, 0, 0, 256]) rfl]
  · rfl
  · rw [List.flatMap_append]
    show Sh.outs s ++ Sh.padL (Sh.outs s).length = Sh.outs s ++ _
    rw [Sh.outs_length]
    congr 1
end Ev
end Go.Proofs.YtgbajlmcoghofaaDoor
