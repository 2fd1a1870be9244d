/-
  lamport's halves, keys and signatures over plain numbers, as the kernel evaluates them. No translation stands here.
-/
import Derived.Test.YtgbajlmcoghofaaDoorEvA
import Derived.Test.YtgbajlmcoghofaaDoorLaM
namespace Go.Proofs.YtgbajlmcoghofaaDoor
set_option linter.unusedVariables false
namespace Ev
def kv (k v : Nat) : UInt32 := UInt32.ofNat (k * 16777216 + v * 65536 + 32768)
/-- A secret, of a seed by its eight numbers, and an index by its number. -/
def secS (sw : List UInt32) (iw : UInt32) (k v : Nat) : Sh.St := compW Sh.st0 (sw ++ [iw, kv k v, 0, 0, 0, 0, 0, 304])
def secN (sw : List Nat) (iw k v : Nat) : List Nat := cmp st0 (sw ++ [iw, k * 16777216 + v * 65536 + 32768, 0, 0, 0, 0, 0, 304])
theorem kv_nat (k v : Nat) (hk : k < 64) (hv : v < 2) : (kv k v).toNat = k * 16777216 + v * 65536 + 32768 := by
  unfold kv
  rw [UInt32.toNat_ofNat']
  simp only [Nat.reducePow]
  omega
theorem kv_out : ∀ k : Fin 64, ∀ v : Fin 2, nb (k.val : Int) 1 ++ nb (v.val : Int) 1 ++ [128, 0] = Sh.out4 (kv k.val v.val) := by decide +kernel
theorem secS_N (sw : List UInt32) (iw : UInt32) (k v : Nat) (hs : sw.length = 8) (hk : k < 64) (hv : v < 2) : N (secS sw iw k v).list = secN (N sw) iw.toNat k v := by
  unfold secS secN
  rw [← cmp_eq _ _ (by rw [List.length_append, hs]; rfl), N_append, st0_N]
  show cmp st0 (N sw ++ [iw.toNat, (kv k v).toNat, 0, 0, 0, 0, 0, 304]) = _
  rw [kv_nat k v hk hv]
theorem padL_38 : Sh.padL 38 = [128, 0] ++ ([0, 0, 0, 0, 0, 304] : List UInt32).flatMap Sh.out4 := by decide +kernel
theorem sec_words (sw : List UInt32) (iw : UInt32) (i : Int) (k v : Nat) (hs : sw.length = 8) (hi : Lm.idx i = Sh.out4 iw) (hk : k < 64) (hv : v < 2) : Lm.sec (sw.flatMap Sh.out4) i k v = Sh.outs (secS sw iw k v) := by
  unfold Lm.sec
  rw [sha_words _ 1 (sw ++ [iw, kv k v, 0, 0, 0, 0, 0, 304]) (by rw [List.length_append, hs]; rfl)]
  · rw [eatW, List.take_of_length_le (by rw [List.length_append, hs]; show 8 + 8 ≤ 16; omega), eatW]
    rfl
  · have hl : (sw.flatMap Sh.out4 ++ Lm.idx i ++ nb (k : Int) 1 ++ nb (v : Int) 1).length = 38 := by
      simp only [List.length_append, flat_length, hs, Lm.idx_length, nb_length]
    have hk := kv_out ⟨k, hk⟩ ⟨v, hv⟩
    simp only at hk
    unfold Sh.pad
    have e : ([iw, kv k v, 0, 0, 0, 0, 0, 304] : List UInt32).flatMap Sh.out4 = Sh.out4 iw ++ (Sh.out4 (kv k v) ++ ([0, 0, 0, 0, 0, 304] : List UInt32).flatMap Sh.out4) := rfl
    rw [hl, padL_38, hi, List.flatMap_append, e, ← hk]
    simp only [List.append_assoc]
/-- Place j of all open halves, of a signature, of what is hashed of one. -/
def pubS (sw : List UInt32) (iw : UInt32) (j : Nat) : Sh.St := half (secS sw iw (j / 2) (j % 2))
def sigS (sw : List UInt32) (iw : UInt32) (A : Nat → Nat) (j : Nat) : Sh.St := if j % 2 = A (j / 2) then secS sw iw (j / 2) (j % 2) else half (secS sw iw (j / 2) (j % 2))
def opS (B : Nat → Nat) (h : Nat → Sh.St) (j : Nat) : Sh.St := if j % 2 = B (j / 2) then half (h j) else h j
def pubN (sw : List Nat) (iw : Nat) (j : Nat) : List Nat := halfN (secN sw iw (j / 2) (j % 2))
def sigN (sw : List Nat) (iw : Nat) (A : Nat → Nat) (j : Nat) : List Nat := bif Nat.beq (j % 2) (A (j / 2)) then secN sw iw (j / 2) (j % 2) else halfN (secN sw iw (j / 2) (j % 2))
def opN (B : Nat → Nat) (h : Nat → List Nat) (j : Nat) : List Nat := bif Nat.beq (j % 2) (B (j / 2)) then halfN (h j) else h j
theorem bif_if {α : Type} (a b : Nat) (x y : α) : (bif Nat.beq a b then x else y) = if a = b then x else y := by
  by_cases h : a = b
  · rw [if_pos h, h, Nat.beq_refl]
    rfl
  · rw [if_neg h]
    have : Nat.beq a b = false := by
      cases e : Nat.beq a b with
      | false => rfl
      | true => exact absurd (Nat.eq_of_beq_eq_true e) h
    rw [this]
    rfl
theorem pubs_words (sw : List UInt32) (iw : UInt32) (i : Int) (hs : sw.length = 8) (hi : Lm.idx i = Sh.out4 iw) (j : Nat) (hj : j < 128) : Lm.pubs (sw.flatMap Sh.out4) i j = Sh.outs (pubS sw iw j) := by
  unfold Lm.pubs Lm.opn pubS
  rw [sec_words sw iw i _ _ hs hi (by omega) (by omega), sha_outs]
theorem sigs_words (sw : List UInt32) (iw : UInt32) (i : Int) (hs : sw.length = 8) (hi : Lm.idx i = Sh.out4 iw) (g : List UInt8) (A : Nat → Nat) (j : Nat) (hj : j < 128) (hA : A (j / 2) = Lm.bit g (j / 2)) : Lm.sigs (sw.flatMap Sh.out4) i g j = Sh.outs (sigS sw iw A j) := by
  unfold Lm.sigs Lm.opn sigS
  rw [sec_words sw iw i _ _ hs hi (by omega) (by omega), hA]
  split
  · rfl
  · rw [sha_outs]
theorem opens_words (g : List UInt8) (B : Nat → Nat) (f : Nat → List UInt8) (h : Nat → Sh.St) (j : Nat) (hB : B (j / 2) = Lm.bit g (j / 2)) (hf : f j = Sh.outs (h j)) : Lm.opens g f j = Sh.outs (opS B h j) := by
  unfold Lm.opens Lm.opn opS
  rw [hf, hB]
  split
  · rw [sha_outs]
  · rfl
theorem pubS_N (sw : List UInt32) (iw : UInt32) (hs : sw.length = 8) (j : Nat) (hj : j < 128) : N (pubS sw iw j).list = pubN (N sw) iw.toNat j := by
  unfold pubS pubN
  rw [half_eq, secS_N sw iw _ _ hs (by omega) (by omega)]
theorem sigS_N (sw : List UInt32) (iw : UInt32) (hs : sw.length = 8) (A : Nat → Nat) (j : Nat) (hj : j < 128) : N (sigS sw iw A j).list = sigN (N sw) iw.toNat A j := by
  unfold sigS sigN
  rw [bif_if]
  split
  · rw [secS_N sw iw _ _ hs (by omega) (by omega)]
  · rw [half_eq, secS_N sw iw _ _ hs (by omega) (by omega)]
theorem opS_N (B : Nat → Nat) (h : Nat → Sh.St) (hN : Nat → List Nat) (j : Nat) (e : N (h j).list = hN j) : N (opS B h j).list = opN B hN j := by
  unfold opS opN
  rw [bif_if]
  split
  · rw [half_eq, e]
  · exact e
/-- What ends 4096 bytes. -/
def pw : List UInt32 := [2147483648, 0, 0, 0, 0, 0, 0, 0, 0, 0, 0, 0, 0, 0, 0, 32768]
def pwN : List Nat := [2147483648, 0, 0, 0, 0, 0, 0, 0, 0, 0, 0, 0, 0, 0, 0, 32768]
theorem pw_N : N pw = pwN := by decide
theorem padL_4096 : Sh.padL 4096 = pw.flatMap Sh.out4 := by decide +kernel
def allS (s : Nat → Sh.St) (n : Nat) : List UInt32 := (List.range n).flatMap fun j => (s j).list
theorem allS_succ (s : Nat → Sh.St) (n : Nat) : allS s (n + 1) = allS s n ++ (s n).list := by
  unfold allS
  rw [List.range_succ, List.flatMap_append]
  simp
theorem allS_length (s : Nat → Sh.St) : ∀ n, (allS s n).length = 8 * n
  | 0 => rfl
  | n + 1 => by rw [allS_succ, List.length_append, allS_length s n]; rfl
theorem cat_words (f : Nat → List UInt8) (s : Nat → Sh.St) : ∀ n, (∀ j, j < n → f j = Sh.outs (s j)) → Lm.cat f n = (allS s n).flatMap Sh.out4
  | 0, _ => rfl
  | n + 1, h => by rw [Lm.cat_succ, allS_succ, List.flatMap_append, cat_words f s n (fun j hj => h j (by omega)), h n (by omega)]; rfl
theorem sha_cat (f : Nat → List UInt8) (s : Nat → Sh.St) (h : ∀ j, j < 128 → f j = Sh.outs (s j)) : Sh.sha (Lm.cat f 128) = Sh.outs (eatW 65 Sh.st0 (allS s 128 ++ pw)) := by
  have e := cat_words f s 128 h
  have hl : (Lm.cat f 128).length = 4096 := by rw [e, flat_length, allS_length]
  refine sha_words _ 65 _ (by rw [List.length_append, allS_length]; rfl) ?_
  unfold Sh.pad
  rw [hl, padL_4096, e, List.flatMap_append]
def allN (s : Nat → List Nat) (n : Nat) : List Nat := (List.range n).flatMap s
theorem all_N (s : Nat → Sh.St) (t : Nat → List Nat) : ∀ n, (∀ j, j < n → N (s j).list = t j) → N (allS s n) = allN t n
  | 0, _ => rfl
  | n + 1, h => by
    rw [allS_succ, N_append, all_N s t n (fun j hj => h j (by omega)), h n (by omega)]
    unfold allN
    rw [List.range_succ, List.flatMap_append]
    simp
theorem eat_all (s : Nat → Sh.St) (t : Nat → List Nat) (h : ∀ j, j < 128 → N (s j).list = t j) : N (eatW 65 Sh.st0 (allS s 128 ++ pw)).list = eat 65 st0 (allN t 128 ++ pwN) := by
  rw [← eat_eq 65 _ _ (by rw [List.length_append, allS_length]; rfl), st0_N, N_append, pw_N, all_N s t 128 h]
/-- What a signature comes to, of bytes whatever. -/
theorem frm_signed (seed : List UInt8) (i : Int) (a b : List UInt8) : Lm.frm b (Lm.sign seed i a) = Sh.sha (Lm.cat (Lm.opens (Sh.sha b) (Lm.sigs seed i (Sh.sha a))) 128) := by
  unfold Lm.frm Lm.sign
  congr 1
  refine Lm.cat_congr _ _ _ fun j hj => ?_
  unfold Lm.opens
  rw [Lm.part_cat _ 128 j (fun i _ => Lm.sigs_length _ _ _ _) hj]
end Ev
end Go.Proofs.YtgbajlmcoghofaaDoor
