/-
  Numbers and their bytes: what is put is read. Plain: no translation.
-/
import Derived.Test.YtgbdedkbkagndaaLaw
import Derived.Laws.BitsAllLaws
namespace Go.Proofs.Ytgbdedkbkagndaa
open Go.RowKit
set_option linter.unusedVariables false

theorem nb_succ (x : Int) (n : Nat) (hx : 0 ≤ x) : nb x (n + 1) = nb (x / 256) n ++ [UInt8.ofNat x.toNat] := by
  unfold nb
  rw [List.range_succ, List.map_append]
  congr 1
  · apply List.map_congr_left
    intro i hi
    have hi' : i < n := List.mem_range.1 hi
    unfold nbAt
    congr 2
    have e : 8 * (n + 1 - 1 - i) = 8 + 8 * (n - 1 - i) := by omega
    rw [e, Int.pow_add, ← Int.ediv_ediv_of_nonneg (by decide)]
    rfl
  · simp [nbAt]
theorem toNat_byte (x : Int) (hx : 0 ≤ x) : ((UInt8.ofNat x.toNat).toNat : Int) = x % 256 := by
  rw [← wrap_u8 x hx, IntKind.wrap_u8]
theorem be_nb (n : Nat) : ∀ x : Int, 0 ≤ x → be (nb x n) = x % 256 ^ n := by
  induction n with
  | zero => intro x _; simp [nb, be, Int.emod_one]
  | succ n ih =>
    intro x hx
    rw [nb_succ x n hx, be_snoc, ih (x / 256) (Int.ediv_nonneg hx (by decide)), toNat_byte x hx]
    have hp : (0 : Int) < 256 ^ n := Int.pow_pos (by decide)
    rw [Int.pow_succ, Int.mul_comm (256 ^ n) 256]
    generalize hP : (256 : Int) ^ n = P at *
    have h1 := Int.mul_ediv_add_emod x 256
    have h2 := Int.mul_ediv_add_emod (x / 256) P
    have h4 : 0 ≤ (x / 256) % P := Int.emod_nonneg _ (by omega)
    have h5 : (x / 256) % P < P := Int.emod_lt_of_pos _ hp
    have h6 : 0 ≤ x % 256 := Int.emod_nonneg _ (by decide)
    have h7 : x % 256 < 256 := Int.emod_lt_of_pos _ (by decide)
    have e : x = ((x / 256) % P * 256 + x % 256) + 256 * P * (x / 256 / P) := by
      have : 256 * (P * (x / 256 / P) + (x / 256) % P) + x % 256 = x := by rw [h2]; omega
      rw [Int.mul_add, ← Int.mul_assoc] at this
      omega
    have h8 : (x / 256) % P * 256 + x % 256 < 256 * P := by
      have : (x / 256) % P + 1 ≤ P := h5
      have := Int.mul_le_mul_of_nonneg_right this (show (0 : Int) ≤ 256 by decide)
      rw [Int.add_mul] at this
      omega
    conv => rhs; rw [e]
    rw [Int.add_mul_emod_self_left, Int.emod_eq_of_lt (by omega) h8]

/-- Whole rows are taken whole. -/
theorem tk_all (xs : List UInt8) (n : Nat) (h : xs.length = n) : tk n (xs, 0) = (([], 0), xs) := by
  subst h
  simp [tk]
theorem tk_front (xs ys : List UInt8) (n : Nat) (h : xs.length = n) : tk n (xs ++ ys, 0) = ((ys, 0), xs) := by
  subst h
  simp [tk]
theorem rnum_front (x : Int) (n : Nat) (ys : List UInt8) (hx : 0 ≤ x) (h1 : 1 ≤ n) (h8 : n ≤ 8) : rnum n (nb x n ++ ys, 0) = ((ys, 0), x % 256 ^ n) := by
  have hb : (decide (1 ≤ (n : Int)) && decide ((n : Int) ≤ 8)) = true := by simp; omega
  unfold rnum
  rw [if_pos hb, Int.toNat_natCast, tk_front _ _ _ (nb_length x n), be_nb n x hx]

/-- A slice of bytes that came in: its bytes. -/
def IsRowU (k : IntKind) (w : World) (a : Option Addr) (len cap : Nat) (zs : List Int) : Prop :=
  (a = none ∧ len = 0 ∧ cap = 0 ∧ zs = []) ∨
  ∃ x, a = some x ∧ len ≤ cap ∧ cap ≤ maxLen ∧ zs.length = cap ∧ (∀ i, i < zs.length → w.cell? (x.add i) = some (.int k (zs.getD i 0))) ∧ ∀ n ∈ zs, (Lit.int k n).wf = true
theorem IsRowU.src {w : World} {a : Option Addr} {len cap : Nat} {zs : List Int} (h : IsRowU .u8 w a len cap zs) :
    ∃ xs : List UInt8, xs.length = len ∧ Src w a (bvs xs) ∧ len ≤ cap ∧ cap ≤ 9223372036854775807 := by
  rcases h with ⟨rfl, rfl, rfl, rfl⟩ | ⟨x, rfl, hl, hm, hz, hc, hw⟩
  · exact ⟨[], rfl, Src.nil _ _, Nat.le_refl _, by omega⟩
  · refine ⟨(zs.take len).map (fun n => UInt8.ofNat n.toNat), ?_, ?_, hl, by unfold maxLen at hm; omega⟩
    · rw [List.length_map, List.length_take]; omega
    · intro j u hu
      refine ⟨x, rfl, ?_⟩
      rw [bvs_get, List.getElem?_map] at hu
      have hj : j < len := by
        rcases Nat.lt_or_ge j len with h | h
        · exact h
        · rw [List.getElem?_eq_none (by rw [List.length_take]; omega)] at hu; simp at hu
      have hjz : j < zs.length := by omega
      rw [List.getElem?_take, if_pos hj, List.getElem?_eq_getElem hjz] at hu
      simp only [Option.map_some, Option.some.injEq] at hu
      rw [hc j hjz, ← hu, bv_ofInt _ (hw _ (List.getElem_mem hjz))]
      simp [List.getD, hjz]

/-- Bytes that were put with their number are read, if as many may be. -/
theorem rbytes_ok (bs ys : List UInt8) (most : Int) (hb : bs.length ≤ 65535) (hm : (bs.length : Int) ≤ most) : rbytes most ((nb bs.length 2 ++ bs) ++ ys, 0) = ((ys, 0), bs) := by
  have e : rnum 2 ((nb bs.length 2 ++ bs) ++ ys, 0) = ((bs ++ ys, 0), (bs.length : Int)) := by
    rw [List.append_assoc]
    have := rnum_front (bs.length : Int) 2 (bs ++ ys) (by omega) (by omega) (by omega)
    rw [show ((2 : Nat) : Int) = 2 from rfl] at this
    rw [this, Int.emod_eq_of_lt (by omega) (by show (bs.length : Int) < (65536 : Int); omega)]
  unfold rbytes
  rw [e, if_neg (by simp only; omega)]
  unfold rraw
  rw [if_neg (by simp only; omega)]
  simp only [Int.toNat_natCast]
  exact tk_front bs ys _ rfl
theorem rbytes_big (bs ys : List UInt8) (most : Int) (hb : bs.length ≤ 65535) (hm : most < (bs.length : Int)) : rbytes most ((nb bs.length 2 ++ bs) ++ ys, 0) = ((bs ++ ys, 13), []) := by
  have e : rnum 2 ((nb bs.length 2 ++ bs) ++ ys, 0) = ((bs ++ ys, 0), (bs.length : Int)) := by
    rw [List.append_assoc]
    have := rnum_front (bs.length : Int) 2 (bs ++ ys) (by omega) (by omega) (by omega)
    rw [show ((2 : Nat) : Int) = 2 from rfl] at this
    rw [this, Int.emod_eq_of_lt (by omega) (by show (bs.length : Int) < (65536 : Int); omega)]
  unfold rbytes
  rw [e, if_pos (by simp only; omega)]
  simp [failS]

/-- A slice of integers of kind k that came in. -/
theorem IsRowU.ints {k : IntKind} {w : World} {a : Option Addr} {len cap : Nat} {zs : List Int} (h : IsRowU k w a len cap zs) :
    ∃ ls : List Int, ls.length = len ∧ Src w a (ls.map (Value.int k)) ∧ (∀ x ∈ ls, (Lit.int k x).wf = true) ∧ len ≤ cap ∧ cap ≤ 9223372036854775807 := by
  rcases h with ⟨rfl, rfl, rfl, rfl⟩ | ⟨x, rfl, hl, hm, hz, hc, hw⟩
  · exact ⟨[], rfl, Src.nil _ _, by simp, Nat.le_refl _, by omega⟩
  · refine ⟨zs.take len, ?_, ?_, fun y hy => hw y (List.mem_of_mem_take hy), hl, by unfold maxLen at hm; omega⟩
    · rw [List.length_take]; omega
    · intro j u hu
      refine ⟨x, rfl, ?_⟩
      rw [List.getElem?_map] at hu
      have hj : j < len := by
        rcases Nat.lt_or_ge j len with h | h
        · exact h
        · rw [List.getElem?_eq_none (by rw [List.length_take]; omega)] at hu; simp at hu
      have hjz : j < zs.length := by omega
      rw [List.getElem?_take, if_pos hj, List.getElem?_eq_getElem hjz] at hu
      simp only [Option.map_some, Option.some.injEq] at hu
      rw [hc j hjz, ← hu]
      simp [List.getD, hjz]

/-- Numbers, each in eight bytes. -/
def eights (ls : List Int) : List UInt8 := ls.flatMap fun x => nb x 8
theorem eights_snoc (ls : List Int) (k : Nat) (h : k < ls.length) : eights (ls.take (k + 1)) = eights (ls.take k) ++ nb ls[k] 8 := by
  rw [List.take_succ_eq_append_getElem h]
  unfold eights
  rw [List.flatMap_append]
  simp only [List.flatMap_cons, List.flatMap_nil, List.append_nil]
theorem eights_length (ls : List Int) : (eights ls).length = 8 * ls.length := by
  induction ls with
  | nil => rfl
  | cons x l ih =>
    have : eights (x :: l) = nb x 8 ++ eights l := by simp [eights]
    rw [this, List.length_append, nb_length, ih, List.length_cons]; omega
theorem eights_at (ls : List Int) (ys : List UInt8) (i : Nat) (h : i < ls.length) : ((eights ls ++ ys).drop (8 * i)).take 8 = nb ls[i] 8 := by
  have e : eights ls = eights (ls.take i) ++ (nb ls[i] 8 ++ eights (ls.drop (i + 1))) := by
    conv => lhs; rw [← List.take_append_drop i ls, ← List.getElem_cons_drop h]
    unfold eights
    rw [List.flatMap_append]
    simp only [List.flatMap_cons]
  have hl : (eights (ls.take i)).length = 8 * i := by rw [eights_length, List.length_take, Nat.min_eq_left (by omega)]
  rw [e, List.append_assoc, List.drop_append_of_le_length (by omega), List.drop_of_length_le (by omega), List.nil_append, List.append_assoc, List.take_append_of_le_length (by rw [nb_length]; omega), List.take_of_length_le (by rw [nb_length]; omega)]
theorem be_u64 (x : Int) (h : (Lit.int .u64 x).wf = true) : be (nb x 8) = x := by
  have hb := bounds_u64 h
  rw [be_nb 8 x hb.1]
  exact Int.emod_eq_of_lt hb.1 (by show x < (18446744073709551616 : Int); omega)
theorem rnum8 (s : RS) : rnum 8 s = ((tk 8 s).1, be (tk 8 s).2) := rfl
/-- A cut row, read in eights. -/
theorem cut_num (all : List UInt8) (k i : Nat) (hk : k ≤ all.length) (h : 8 * i + 8 ≤ k) :
    rnum 8 ((all.take k).drop (8 * i), 0) = (((all.take k).drop (8 * (i + 1)), 0), be ((all.drop (8 * i)).take 8)) := by
  have hl : ((all.take k).drop (8 * i)).length = k - 8 * i := by rw [List.length_drop, List.length_take, Nat.min_eq_left hk]
  have ht : tk 8 ((all.take k).drop (8 * i), 0) = ((((all.take k).drop (8 * i)).drop 8, 0), ((all.take k).drop (8 * i)).take 8) := by
    unfold tk
    rw [if_pos rfl, if_neg (by simp only; omega)]
  rw [rnum8, ht, List.drop_drop]
  have e2 : ((all.take k).drop (8 * i)).take 8 = (all.drop (8 * i)).take 8 := by
    rw [List.drop_take, List.take_take, Nat.min_eq_left (by omega)]
  rw [e2]
  rfl
theorem cut_num_short (all : List UInt8) (k i : Nat) (hk : k ≤ all.length) (h : k < 8 * i + 8) :
    rnum 8 ((all.take k).drop (8 * i), 0) = (((all.take k).drop (8 * i), 10), 0) := by
  have hl : ((all.take k).drop (8 * i)).length = k - 8 * i := by rw [List.length_drop, List.length_take, Nat.min_eq_left hk]
  have ht : tk 8 ((all.take k).drop (8 * i), 0) = (((all.take k).drop (8 * i), 10), []) := by
    unfold tk
    rw [if_pos rfl, if_pos (by simp only; omega)]
  rw [rnum8, ht]
  rfl
/-- Bytes with their number that are cut: they end too early. -/
theorem rbytes_cut (bs : List UInt8) (m : Nat) (most : Int) (hb : bs.length ≤ 65535) (hm : (bs.length : Int) ≤ most) (h : m < bs.length + 2) :
    ∃ l, rbytes most ((nb bs.length 2 ++ bs).take m, 0) = ((l, 10), []) ∧ l.length ≤ m := by
  have h2 : (nb (bs.length : Int) 2).length = 2 := nb_length _ _
  by_cases hm2 : m < 2
  · refine ⟨(nb bs.length 2 ++ bs).take m, ?_, by rw [List.length_take]; omega⟩
    have e : rnum 2 ((nb bs.length 2 ++ bs).take m, 0) = (((nb bs.length 2 ++ bs).take m, 10), 0) := by
      have ht : tk 2 ((nb bs.length 2 ++ bs).take m, 0) = (((nb bs.length 2 ++ bs).take m, 10), []) := by
        unfold tk
        rw [if_pos rfl, if_pos (by simp only [List.length_take]; omega)]
      show ((tk 2 _).1, be (tk 2 _).2) = _
      rw [ht]
      rfl
    unfold rbytes
    rw [e, if_neg (by simp only; omega)]
    unfold rraw
    rw [if_neg (by simp only; omega)]
    unfold tk
    rw [if_neg (by simp)]
  · refine ⟨bs.take (m - 2), ?_, by rw [List.length_take]; omega⟩
    have e0 : (nb (bs.length : Int) 2 ++ bs).take m = nb bs.length 2 ++ bs.take (m - 2) := by
      rw [List.take_append, h2, List.take_of_length_le (by omega)]
    have e : rnum 2 (nb bs.length 2 ++ bs.take (m - 2), 0) = ((bs.take (m - 2), 0), (bs.length : Int)) := by
      have := rnum_front (bs.length : Int) 2 (bs.take (m - 2)) (by omega) (by omega) (by omega)
      rw [show ((2 : Nat) : Int) = 2 from rfl] at this
      rw [this, Int.emod_eq_of_lt (by omega) (by show (bs.length : Int) < (65536 : Int); omega)]
    rw [e0]
    unfold rbytes
    rw [e, if_neg (by simp only; omega)]
    unfold rraw
    rw [if_neg (by simp only; omega)]
    unfold tk
    rw [if_pos rfl, if_pos (by simp only [List.length_take, Int.toNat_natCast]; omega)]
end Go.Proofs.Ytgbdedkbkagndaa
