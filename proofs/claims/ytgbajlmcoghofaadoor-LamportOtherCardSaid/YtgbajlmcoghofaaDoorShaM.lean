/-
  SHA-256 in plain Lean: what the hash of bytes is. No translation stands here.
-/
import Derived.Test.YtgbajlmcoghofaaDoorBase
namespace Go.Proofs.YtgbajlmcoghofaaDoor
namespace Sh
structure St where
  a : UInt32
  b : UInt32
  c : UInt32
  d : UInt32
  e : UInt32
  f : UInt32
  g : UInt32
  h : UInt32
def rr (x n : UInt32) : UInt32 := (x >>> n) ||| (x <<< (32 - n))
def ssig0 (x : UInt32) : UInt32 := rr x 7 ^^^ rr x 18 ^^^ (x >>> 3)
def ssig1 (x : UInt32) : UInt32 := rr x 17 ^^^ rr x 19 ^^^ (x >>> 10)
def bsig0 (a : UInt32) : UInt32 := rr a 2 ^^^ rr a 13 ^^^ rr a 22
def bsig1 (e : UInt32) : UInt32 := rr e 6 ^^^ rr e 11 ^^^ rr e 25
def chs (e f g : UInt32) : UInt32 := (e &&& f) ^^^ (~~~e &&& g)
def maj (a b c : UInt32) : UInt32 := (a &&& b) ^^^ (a &&& c) ^^^ (b &&& c)
def tt (s : St) (k w : UInt32) : UInt32 := s.h + bsig1 s.e + chs s.e s.f s.g + k + w
def uu (s : St) : UInt32 := bsig0 s.a + maj s.a s.b s.c
def step (s : St) (k w : UInt32) : St := ⟨tt s k w + uu s, s.a, s.b, s.c, s.d + tt s k w, s.e, s.f, s.g⟩
def roots : List UInt32 := [
  1116352408, 1899447441, 3049323471, 3921009573, 961987163, 1508970993, 2453635748, 2870763221,
  3624381080, 310598401, 607225278, 1426881987, 1925078388, 2162078206, 2614888103, 3248222580,
  3835390401, 4022224774, 264347078, 604807628, 770255983, 1249150122, 1555081692, 1996064986,
  2554220882, 2821834349, 2952996808, 3210313671, 3336571891, 3584528711, 113926993, 338241895,
  666307205, 773529912, 1294757372, 1396182291, 1695183700, 1986661051, 2177026350, 2456956037,
  2730485921, 2820302411, 3259730800, 3345764771, 3516065817, 3600352804, 4094571909, 275423344,
  430227734, 506948616, 659060556, 883997877, 958139571, 1322822218, 1537002063, 1747873779,
  1955562222, 2024104815, 2227730452, 2361852424, 2428436474, 2756734187, 3204031479, 3329325298]
def st0 : St := ⟨1779033703, 3144134277, 1013904242, 2773480762, 1359893119, 2600822924, 528734635, 1541459225⟩
/-- Bytes as a number, the highest first. -/
def wd (l : List UInt8) : UInt32 := l.foldl (fun a c => (a <<< 8) ||| c.toUInt32) 0
/-- The numbers as they stand when so many bytes were taken. -/
def firstN (n : Nat) (l : List UInt8) : List UInt32 := (List.range n).map fun j => wd ((l.drop (4 * j)).take 4)
def nextW (ws : List UInt32) : UInt32 := ws.getD (ws.length - 16) 0 + ws.getD (ws.length - 7) 0 + ssig0 (ws.getD (ws.length - 15) 0) + ssig1 (ws.getD (ws.length - 2) 0)
def ext : Nat → List UInt32 → List UInt32
  | 0, ws => ws
  | n + 1, ws => ext n ws ++ [nextW (ext n ws)]
def words (blk : List UInt8) : List UInt32 := ext 48 (firstN 16 blk)
def rounds (s : St) (l : List (UInt32 × UInt32)) : St := l.foldl (fun s p => step s p.1 p.2) s
def add8 (s t : St) : St := ⟨s.a + t.a, s.b + t.b, s.c + t.c, s.d + t.d, s.e + t.e, s.f + t.f, s.g + t.g, s.h + t.h⟩
def comp (s : St) (blk : List UInt8) : St := add8 s (rounds s (roots.zip (words blk)))
def eat : Nat → St → List UInt8 → St
  | 0, s, _ => s
  | n + 1, s, l => eat n (comp s (l.take 64)) (l.drop 64)
def St.list (s : St) : List UInt32 := [s.a, s.b, s.c, s.d, s.e, s.f, s.g, s.h]
def out4 (x : UInt32) : List UInt8 := (List.range 4).map fun k => (x >>> (8 * (3 - k)).toUInt32).toUInt8
def outs (s : St) : List UInt8 := s.list.flatMap out4
/-- What ends n bytes. -/
def padL (n : Nat) : List UInt8 := 128 :: (List.replicate ((119 - n % 64) % 64) 0 ++ (List.range 8).map fun i => UInt8.ofNat (8 * n / 256 ^ (7 - i)))
def pad (l : List UInt8) : List UInt8 := l ++ padL l.length
def sha (l : List UInt8) : List UInt8 := outs (eat ((pad l).length / 64) st0 (pad l))

theorem ext_length (n : Nat) (ws : List UInt32) : (ext n ws).length = ws.length + n := by
  induction n with
  | zero => rfl
  | succ n ih => show (ext n ws ++ [_]).length = _; rw [List.length_append, ih]; rfl
theorem firstN_length (n : Nat) (l : List UInt8) : (firstN n l).length = n := by simp [firstN]
theorem words_length (l : List UInt8) : (words l).length = 64 := by unfold words; rw [ext_length, firstN_length]
theorem padL_length (n : Nat) : (padL n).length = (119 - n % 64) % 64 + 9 := by simp [padL]
theorem pad_mod (l : List UInt8) : (pad l).length % 64 = 0 := by unfold pad; rw [List.length_append, padL_length]; omega
theorem outs_length (s : St) : (outs s).length = 32 := rfl
theorem sha_length (l : List UInt8) : (sha l).length = 32 := rfl
theorem eat_snoc (n : Nat) : ∀ (s : St) (l : List UInt8), eat (n + 1) s l = comp (eat n s l) ((l.drop (64 * n)).take 64) := by
  induction n with
  | zero => intro s l; rfl
  | succ n ih =>
    intro s l
    show eat (n + 1) (comp s (l.take 64)) (l.drop 64) = _
    rw [ih, List.drop_drop]
    have e : 64 + 64 * n = 64 * (n + 1) := by omega
    rw [e]
    rfl
theorem eat_front (n : Nat) : ∀ (s : St) (l m : List UInt8), 64 * n ≤ l.length → eat n s (l ++ m) = eat n s l := by
  induction n with
  | zero => intro s l m _; rfl
  | succ n ih =>
    intro s l m h
    show eat n (comp s ((l ++ m).take 64)) ((l ++ m).drop 64) = eat n (comp s (l.take 64)) (l.drop 64)
    rw [List.take_append_of_le_length (by omega), List.drop_append_of_le_length (by omega), ih _ _ _ (by rw [List.length_drop]; omega)]
/-- What is mixed in of l. -/
def mixed (l : List UInt8) : St := eat (l.length / 64) st0 l
/-- What waits. -/
def rest (l : List UInt8) : List UInt8 := l.drop (64 * (l.length / 64))
theorem rest_length (l : List UInt8) : (rest l).length = l.length % 64 := by unfold rest; rw [List.length_drop]; omega
theorem mixed_few (l m : List UInt8) (h : l.length % 64 + m.length < 64) : mixed (l ++ m) = mixed l := by
  unfold mixed
  have e : (l ++ m).length / 64 = l.length / 64 := by rw [List.length_append]; omega
  rw [e, eat_front _ _ _ _ (by omega)]
theorem rest_few (l m : List UInt8) (h : l.length % 64 + m.length < 64) : rest (l ++ m) = rest l ++ m := by
  unfold rest
  have e : (l ++ m).length / 64 = l.length / 64 := by rw [List.length_append]; omega
  rw [e, List.drop_append_of_le_length (by omega)]
theorem mixed_full (l m : List UInt8) (h : l.length % 64 + m.length = 64) : mixed (l ++ m) = comp (mixed l) (rest l ++ m) := by
  unfold mixed rest
  have e : (l ++ m).length / 64 = l.length / 64 + 1 := by rw [List.length_append]; omega
  rw [e, eat_snoc, eat_front _ _ _ _ (by omega), List.drop_append_of_le_length (by omega), List.take_of_length_le (by rw [List.length_append, List.length_drop]; omega)]
theorem rest_full (l m : List UInt8) (h : l.length % 64 + m.length = 64) : rest (l ++ m) = [] := by
  apply List.eq_nil_of_length_eq_zero
  rw [rest_length, List.length_append]
  omega
theorem sha_mixed (l : List UInt8) : sha l = outs (mixed (pad l)) := rfl
end Sh
end Go.Proofs.YtgbajlmcoghofaaDoor
