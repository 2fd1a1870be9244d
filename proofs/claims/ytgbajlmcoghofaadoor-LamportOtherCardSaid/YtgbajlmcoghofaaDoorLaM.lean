/-
  Signatures that are used once, in plain Lean: halves, one behind the other. No translation stands here.
-/
import Derived.Test.YtgbajlmcoghofaaDoorShaM
import Derived.Test.YtgbajlmcoghofaaDoorWrB
namespace Go.Proofs.YtgbajlmcoghofaaDoor
namespace Lm
/-- So many rows, one behind the other. -/
def cat (f : Nat → List UInt8) (n : Nat) : List UInt8 := (List.range n).flatMap f
/-- What counts of an index. -/
def idx (i : Int) : List UInt8 := nb (i % 4294967296) 4
def sec (seed : List UInt8) (i : Int) (k v : Nat) : List UInt8 := Sh.sha (seed ++ idx i ++ nb (k : Int) 1 ++ nb (v : Int) 1)
def opn (h : List UInt8) : List UInt8 := Sh.sha h
/-- Bit k of a hash. -/
def bit (g : List UInt8) (k : Nat) : Nat := (g.getD (k / 8) 0).toNat / 2 ^ (7 - k % 8) % 2
def part (S : List UInt8) (j : Nat) : List UInt8 := (S.drop (32 * j)).take 32
/-- Place j (bit j / 2, value j % 2) of all open halves, of a signature, of what a signature comes to. -/
def pubs (seed : List UInt8) (i : Int) (j : Nat) : List UInt8 := opn (sec seed i (j / 2) (j % 2))
def sigs (seed : List UInt8) (i : Int) (g : List UInt8) (j : Nat) : List UInt8 := if j % 2 = bit g (j / 2) then sec seed i (j / 2) (j % 2) else opn (sec seed i (j / 2) (j % 2))
def opens (g : List UInt8) (h : Nat → List UInt8) (j : Nat) : List UInt8 := if j % 2 = bit g (j / 2) then opn (h j) else h j
def pub (seed : List UInt8) (i : Int) : List UInt8 := Sh.sha (cat (pubs seed i) 128)
def sign (seed : List UInt8) (i : Int) (b : List UInt8) : List UInt8 := cat (sigs seed i (Sh.sha b)) 128
def frm (b S : List UInt8) : List UInt8 := Sh.sha (cat (opens (Sh.sha b) (part S)) 128)

theorem bit_lt (g : List UInt8) (k : Nat) : bit g k < 2 := Nat.mod_lt _ (by omega)
theorem sec_length (seed : List UInt8) (i : Int) (k v : Nat) : (sec seed i k v).length = 32 := Sh.sha_length _
theorem opn_length (h : List UInt8) : (opn h).length = 32 := Sh.sha_length _
theorem pubs_length (seed : List UInt8) (i : Int) (j : Nat) : (pubs seed i j).length = 32 := Sh.sha_length _
theorem sigs_length (seed : List UInt8) (i : Int) (g : List UInt8) (j : Nat) : (sigs seed i g j).length = 32 := by unfold sigs; split <;> exact Sh.sha_length _
theorem opens_length (g : List UInt8) (h : Nat → List UInt8) (j : Nat) (hj : (h j).length = 32) : (opens g h j).length = 32 := by
  unfold opens
  split
  · exact Sh.sha_length _
  · exact hj
theorem cat_zero (f : Nat → List UInt8) : cat f 0 = [] := rfl
theorem cat_succ (f : Nat → List UInt8) (n : Nat) : cat f (n + 1) = cat f n ++ f n := by
  unfold cat
  rw [List.range_succ, List.flatMap_append]
  simp
theorem cat_length (f : Nat → List UInt8) : ∀ n, (∀ j, j < n → (f j).length = 32) → (cat f n).length = 32 * n
  | 0, _ => rfl
  | n + 1, h => by rw [cat_succ, List.length_append, cat_length f n (fun j hj => h j (by omega)), h n (by omega)]; omega
theorem cat_congr (f g : Nat → List UInt8) : ∀ n, (∀ j, j < n → f j = g j) → cat f n = cat g n
  | 0, _ => rfl
  | n + 1, h => by rw [cat_succ, cat_succ, cat_congr f g n (fun j hj => h j (by omega)), h n (by omega)]
/-- Those ahead of place j, place j, those behind it. -/
theorem cat_split (f : Nat → List UInt8) (j m : Nat) : cat f (j + 1 + m) = cat f j ++ f j ++ cat (fun i => f (j + 1 + i)) m := by
  induction m with
  | zero => rw [Nat.add_zero, cat_succ, cat_zero, List.append_nil]
  | succ m ih => rw [← Nat.add_assoc, cat_succ, ih, cat_succ, List.append_assoc]
theorem part_cat (f : Nat → List UInt8) (n j : Nat) (h : ∀ i, i < n → (f i).length = 32) (hj : j < n) : part (cat f n) j = f j := by
  obtain ⟨m, rfl⟩ : ∃ m, n = j + 1 + m := ⟨n - (j + 1), by omega⟩
  unfold part
  have hl := cat_length f j (fun i hi => h i (by omega))
  rw [cat_split, List.append_assoc, ← hl, List.drop_left, ← h j (by omega), List.take_left]
theorem cat_part (S : List UInt8) (n : Nat) (h : S.length = 32 * n) : cat (part S) n = S := by
  have key : ∀ m, m ≤ n → cat (part S) m = S.take (32 * m) := by
    intro m
    induction m with
    | zero => intro _; rw [cat_zero]; simp
    | succ m ih =>
      intro hm
      rw [cat_succ, ih (by omega)]
      unfold part
      rw [show 32 * (m + 1) = 32 * m + 32 by omega, List.take_add]
  rw [key n (Nat.le_refl _), List.take_of_length_le (by omega)]
theorem part_length (S : List UInt8) (n j : Nat) (h : S.length = 32 * n) (hj : j < n) : (part S j).length = 32 := by
  unfold part
  rw [List.length_take, List.length_drop]
  omega
/-- One place is set. -/
def ups (h : Nat → List UInt8) (j : Nat) (x : List UInt8) (i : Nat) : List UInt8 := if i = j then x else h i
theorem ups_same (h : Nat → List UInt8) (j : Nat) (x : List UInt8) : ups h j x j = x := by unfold ups; rw [if_pos rfl]
theorem ups_other (h : Nat → List UInt8) (j : Nat) (x : List UInt8) {i : Nat} (hi : i ≠ j) : ups h j x i = h i := by unfold ups; rw [if_neg hi]
theorem ups_length {h : Nat → List UInt8} {j : Nat} {x : List UInt8} (hh : ∀ i, i < 128 → (h i).length = 32) (hx : x.length = 32) : ∀ i, i < 128 → (ups h j x i).length = 32 := fun i hi => by
  unfold ups
  split
  · exact hx
  · exact hh i hi
/-- So many of the one, then the other. -/
def mix (f g : Nat → List UInt8) (n i : Nat) : List UInt8 := if i < n then f i else g i
theorem mix_length {f g : Nat → List UInt8} {n : Nat} (hf : ∀ i, i < 128 → (f i).length = 32) (hg : ∀ i, i < 128 → (g i).length = 32) : ∀ i, i < 128 → (mix f g n i).length = 32 := fun i hi => by
  unfold mix
  split
  · exact hf i hi
  · exact hg i hi
theorem mix_zero (f g : Nat → List UInt8) (n : Nat) : cat (mix f g 0) n = cat g n := cat_congr _ _ n fun j _ => by unfold mix; rw [if_neg (by omega)]
theorem mix_all (f g : Nat → List UInt8) (n : Nat) : cat (mix f g n) n = cat f n := cat_congr _ _ n fun j hj => by unfold mix; rw [if_pos hj]
theorem mix_succ (f g : Nat → List UInt8) (n m : Nat) : cat (ups (mix f g n) n (f n)) m = cat (mix f g (n + 1)) m := cat_congr _ _ m fun j _ => by
  unfold ups mix
  by_cases e : j = n
  · rw [if_pos e, if_pos (by omega), e]
  · rw [if_neg e]
    by_cases h : j < n
    · rw [if_pos h, if_pos (by omega)]
    · rw [if_neg h, if_neg (by omega)]
/-- Both places of a bit, in whatever order. -/
theorem mix_two (f g : Nat → List UInt8) (k v m : Nat) (hv : v < 2) : cat (ups (ups (mix f g (2 * k)) (2 * k + v) (f (2 * k + v))) (2 * k + (1 - v)) (f (2 * k + (1 - v)))) m = cat (mix f g (2 * (k + 1))) m := cat_congr _ _ m fun j _ => by
  unfold ups mix
  by_cases e : j = 2 * k + (1 - v)
  · rw [if_pos e, if_pos (by omega), e]
  · rw [if_neg e]
    by_cases e2 : j = 2 * k + v
    · rw [if_pos e2, if_pos (by omega), e2]
    · rw [if_neg e2]
      by_cases h : j < 2 * k
      · rw [if_pos h, if_pos (by omega)]
      · rw [if_neg h, if_neg (by omega)]
/-- One place of a bit is set, the other one stays. -/
theorem mix_one (f g : Nat → List UInt8) (k v m : Nat) (hv : v < 2) (hs : f (2 * k + (1 - v)) = g (2 * k + (1 - v))) : cat (ups (mix f g (2 * k)) (2 * k + v) (f (2 * k + v))) m = cat (mix f g (2 * (k + 1))) m := cat_congr _ _ m fun j _ => by
  unfold ups mix
  by_cases e2 : j = 2 * k + v
  · rw [if_pos e2, if_pos (by omega), e2]
  · rw [if_neg e2]
    by_cases h : j < 2 * k
    · rw [if_pos h, if_pos (by omega)]
    · rw [if_neg h]
      by_cases e : j = 2 * k + (1 - v)
      · rw [if_pos (by omega), e, hs]
      · rw [if_neg (by omega)]
theorem sign_length (seed : List UInt8) (i : Int) (b : List UInt8) : (sign seed i b).length = 4096 := by
  unfold sign
  rw [cat_length _ _ (fun j _ => sigs_length _ _ _ _)]
/-- What is signed comes to the public key. -/
theorem frm_sign (seed : List UInt8) (i : Int) (b : List UInt8) : frm b (sign seed i b) = pub seed i := by
  unfold frm pub sign
  congr 1
  refine cat_congr _ _ _ fun j hj => ?_
  unfold opens
  rw [part_cat _ 128 j (fun i _ => sigs_length _ _ _ _) hj]
  unfold sigs pubs
  by_cases h : j % 2 = bit (Sh.sha b) (j / 2)
  · rw [if_pos h, if_pos h]
  · rw [if_neg h, if_neg h]
theorem nbAt_mod (x : Int) (k : Nat) (hx : 0 ≤ x) (hk : k < 4) : nbAt x 4 k = nbAt (x % 4294967296) 4 k := by
  have h : k = 0 ∨ k = 1 ∨ k = 2 ∨ k = 3 := by omega
  unfold nbAt
  rw [← UInt8.toNat_inj]
  simp only [UInt8.toNat_ofNat']
  rcases h with rfl | rfl | rfl | rfl <;> simp only [Nat.reduceSub, Nat.reduceMul, Int.reducePow, Nat.reducePow] <;> omega
theorem nb_mod (x : Int) (hx : 0 ≤ x) : nb x 4 = nb (x % 4294967296) 4 := by
  unfold nb
  exact List.map_congr_left fun k hk => nbAt_mod x k hx (List.mem_range.1 hk)
/-- An index as an unsigned number of 64 bits, in four bytes. -/
theorem nb_idx (i : Int) : nb (IntKind.u64.wrap i) 4 = idx i := by
  have e : IntKind.u64.wrap i = i % 18446744073709551616 := by simp [IntKind.wrap, IntKind.signed, IntKind.bits]
  rw [e, nb_mod _ (Int.emod_nonneg _ (by decide))]
  unfold idx
  congr 1
  omega
theorem idx_length (i : Int) : (idx i).length = 4 := nb_length _ _
end Lm
end Go.Proofs.YtgbajlmcoghofaaDoor
