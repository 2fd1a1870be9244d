/-
  What a proof makes, as the document's own answer makes it: from below, along the parts from the top, turned. No translation stands here.
-/
import Derived.Test.YtfokemminjikpaaDoorRfM
namespace Go.Proofs.YtfokemminjikpaaDoor
set_option linter.unusedVariables false
namespace Tr
/-- From the top down: is each part the first one; is the whole known at the end? -/
def stpF : Nat → Nat → Nat → Bool → List Bool × Bool
  | 0, _, _, q => ([], q)
  | f + 1, m, n, q => if m = n then ([], q) else if m ≤ split n then (true :: (stpF f m (split n) q).1, (stpF f m (split n) q).2) else (false :: (stpF f (m - split n) (n - split n) false).1, (stpF f (m - split n) (n - split n) false).2)
def stp (m n : Nat) (q : Bool) : List Bool × Bool := stpF 64 m n q
theorem stpF_eq (f n : Nat) (q : Bool) : stpF f n n q = ([], q) := by
  cases f with
  | zero => rfl
  | succ f => unfold stpF; rw [if_pos rfl]
theorem stp_eq (n : Nat) (q : Bool) : stp n n q = ([], q) := stpF_eq _ _ _
theorem stpF_fuel : ∀ (f m n : Nat) (q : Bool) (g : Nat), 1 ≤ m → m ≤ n → deep n ≤ f → deep n ≤ g → stpF f m n q = stpF g m n q
  | f, m, n, q, g, h1, h2, hf, hg => by
    by_cases h : m = n
    · subst h; rw [stpF_eq, stpF_eq]
    have l := deep_left (n := n) (by omega)
    have r := deep_right (n := n) (by omega)
    have a := split_pos (n := n) (by omega)
    have b := split_lt (n := n) (by omega)
    obtain ⟨f, rfl⟩ : ∃ f', f = f' + 1 := ⟨f - 1, by omega⟩
    obtain ⟨g, rfl⟩ : ∃ g', g = g' + 1 := ⟨g - 1, by omega⟩
    unfold stpF
    rw [if_neg h, if_neg h]
    split
    · rw [stpF_fuel f m _ q g h1 (by omega) (by omega) (by omega)]
    · rw [stpF_fuel f (m - split n) _ false g (by omega) (by omega) (by omega) (by omega)]
  termination_by f => f
theorem stp_more {m n : Nat} (q : Bool) (h1 : 1 ≤ m) (h2 : m < n) (hb : n ≤ 18446744073709551616) : stp m n q = if m ≤ split n then (true :: (stp m (split n) q).1, (stp m (split n) q).2) else (false :: (stp (m - split n) (n - split n) false).1, (stp (m - split n) (n - split n) false).2) := by
  have d : deep n ≤ 64 := deep_le (by simpa using hb)
  have l := deep_left (n := n) (by omega)
  have r := deep_right (n := n) (by omega)
  have a := split_pos (n := n) (by omega)
  have b := split_lt (n := n) (by omega)
  unfold stp
  show (if m = n then _ else _) = _
  rw [if_neg (by omega)]
  split
  · rw [stpF_fuel 64 m _ q 63 h1 (by omega) (by omega) (by omega)]
  · rw [stpF_fuel 64 (m - split n) _ false 63 (by omega) (by omega) (by omega) (by omega)]
theorem stp_length : ∀ (d m n : Nat) (q : Bool), deep n ≤ d → 1 ≤ m → m ≤ n → n ≤ 18446744073709551616 → (stp m n q).1.length ≤ d ∧ lng m n q = (stp m n q).1.length + (if (stp m n q).2 then 0 else 1)
  | d, m, n, q, hd, h1, h2, hb => by
    by_cases h : m = n
    · subst h
      rw [stp_eq, lng_eq]
      exact ⟨Nat.zero_le _, by simp⟩
    have l := deep_left (n := n) (by omega)
    have r := deep_right (n := n) (by omega)
    have a := split_pos (n := n) (by omega)
    have b := split_lt (n := n) (by omega)
    obtain ⟨d, rfl⟩ : ∃ d', d = d' + 1 := ⟨d - 1, by omega⟩
    rw [stp_more q h1 (by omega) hb, lng_more q h1 (by omega) hb]
    split
    · obtain ⟨x, y⟩ := stp_length d m (split n) q (by omega) h1 (by omega) (by omega)
      rw [y]
      simp only [List.length_cons]
      exact ⟨by omega, by omega⟩
    · obtain ⟨x, y⟩ := stp_length d (m - split n) (n - split n) false (by omega) (by omega) (by omega) (by omega)
      rw [y]
      simp only [List.length_cons]
      exact ⟨by omega, by omega⟩
  termination_by d => d
/-- One step up, of both roots. -/
def upp (s : Bytes × Bytes) (t : Bytes × Bool) : Bytes × Bytes := if t.2 then (s.1, node s.2 t.1) else (node t.1 s.1, node t.1 s.2)
/-- What is begun with, and what is left of the path. -/
def begun (o : Bytes) (p : List Bytes) (w : Bool) : Bytes := if w then o else p.getD 0 []
def rest (p : List Bytes) (w : Bool) : List Bytes := if w then p else p.drop 1
theorem cmd_up : ∀ (d m n : Nat) (q : Bool) (o : Bytes) (p : List Bytes), deep n ≤ d → 1 ≤ m → m ≤ n → n ≤ 18446744073709551616 → p.length = lng m n q →
    cmd m n q o p = ((rest p (stp m n q).2).zip (stp m n q).1.reverse).foldl upp (begun o p (stp m n q).2, begun o p (stp m n q).2)
  | d, m, n, q, o, p, hd, h1, h2, hb, hp => by
    by_cases h : m = n
    · subst h
      rw [cmd_eq, stp_eq, List.reverse_nil, List.zip_nil_right]
      unfold begun
      cases q <;> rfl
    have l := deep_left (n := n) (by omega)
    have r := deep_right (n := n) (by omega)
    have a := split_pos (n := n) (by omega)
    have b := split_lt (n := n) (by omega)
    obtain ⟨d, rfl⟩ : ∃ d', d = d' + 1 := ⟨d - 1, by omega⟩
    rw [lng_more q h1 (by omega) hb] at hp
    have hpos : 0 < p.length := by rw [hp]; split <;> omega
    have hsp : p = p.take (p.length - 1) ++ [p.getD (p.length - 1) []] := by
      have h1 : p.length - 1 + 1 = p.length := by omega
      have h3 : p.length - 1 < p.length := by omega
      have := List.take_succ_eq_append_getElem h3
      rw [h1, List.take_length] at this
      rw [List.getD_eq_getElem?_getD, List.getElem?_eq_getElem h3]
      exact this
    have hl : (p.take (p.length - 1)).length = p.length - 1 := by rw [List.length_take]; omega
    rw [cmd_more q o p h1 (by omega) hb, stp_more q h1 (by omega) hb]
    obtain ⟨p', hq⟩ : ∃ q, p.take (p.length - 1) = q := ⟨_, rfl⟩
    obtain ⟨x, hx⟩ : ∃ x, p.getD (p.length - 1) [] = x := ⟨_, rfl⟩
    rw [hq] at hl hsp
    rw [hx] at hsp
    rw [hq, hx, hsp]
    have key : ∀ (m' n' : Nat) (q' : Bool), deep n' ≤ d → 1 ≤ m' → m' ≤ n' → n' ≤ 18446744073709551616 → p'.length = lng m' n' q' → ∀ bit : Bool,
        ((rest (p' ++ [x]) (stp m' n' q').2).zip (bit :: (stp m' n' q').1).reverse).foldl upp (begun o (p' ++ [x]) (stp m' n' q').2, begun o (p' ++ [x]) (stp m' n' q').2) = upp (cmd m' n' q' o p') (x, bit) := by
      intro m' n' q' e1 e2 e3 e4 e5 bit
      obtain ⟨s1, s2⟩ := stp_length d m' n' q' e1 e2 e3 e4
      rw [cmd_up d m' n' q' o p' e1 e2 e3 e4 e5]
      rw [s2] at e5
      obtain ⟨⟨L, w⟩, hLw⟩ : ∃ s, stp m' n' q' = s := ⟨_, rfl⟩
      rw [hLw] at e5 ⊢
      simp only at e5 ⊢
      cases w with
      | true =>
        rw [if_pos rfl, Nat.add_zero] at e5
        show ((p' ++ [x]).zip (bit :: L).reverse).foldl upp (o, o) = upp ((p'.zip L.reverse).foldl upp (o, o)) (x, bit)
        rw [List.reverse_cons, List.zip_append (by rw [List.length_reverse]; exact e5), List.foldl_append]
        rfl
      | false =>
        rw [if_neg (by decide)] at e5
        match p', e5 with
        | y :: p2, e5 =>
          have e6 : p2.length = L.length := by simpa using e5
          show ((p2 ++ [x]).zip (bit :: L).reverse).foldl upp (y, y) = upp ((p2.zip L.reverse).foldl upp (y, y)) (x, bit)
          rw [List.reverse_cons, List.zip_append (by rw [List.length_reverse]; exact e6), List.foldl_append]
          rfl
    split
    · rename_i hk
      rw [if_pos hk] at hp
      rw [key m (split n) q (by omega) h1 hk (by omega) (by omega) true]
      rfl
    · rename_i hk
      rw [if_neg hk] at hp
      rw [key (m - split n) (n - split n) false (by omega) (by omega) (by omega) (by omega) (by omega) false]
      rfl
  termination_by d => d
/-- So far up, of both roots. -/
def uppTo (a : Bytes) (p : List Bytes) (ls : List Bool) (j : Nat) : Bytes × Bytes := ((p.zip ls.reverse).take j).foldl upp (a, a)
theorem uppTo_zero (a : Bytes) (p : List Bytes) (ls : List Bool) : uppTo a p ls 0 = (a, a) := rfl
theorem uppTo_succ (a : Bytes) (p : List Bytes) (ls : List Bool) (j : Nat) (x : Bytes) (b : Bool) (hx : p[j]? = some x) (hb : ls[ls.length - 1 - j]? = some b) (hj : j < ls.length) : uppTo a p ls (j + 1) = upp (uppTo a p ls j) (x, b) := by
  have hr : ls.reverse[j]? = some b := by rw [List.getElem?_reverse hj]; exact hb
  have hz : (p.zip ls.reverse)[j]? = some (x, b) := by rw [List.getElem?_zip_eq_some]; exact ⟨hx, hr⟩
  have hlt : j < (p.zip ls.reverse).length := (List.getElem?_eq_some_iff.1 hz).1
  unfold uppTo
  rw [List.take_succ_eq_append_getElem hlt, List.foldl_append]
  have e : (p.zip ls.reverse)[j] = (x, b) := (List.getElem?_eq_some_iff.1 hz).2
  rw [e]
  rfl
theorem uppTo_all (a : Bytes) (p : List Bytes) (ls : List Bool) (hl : p.length = ls.length) : uppTo a p ls p.length = (p.zip ls.reverse).foldl upp (a, a) := by
  unfold uppTo
  rw [List.take_of_length_le (by rw [List.length_zip, List.length_reverse]; omega)]
theorem uppTo_length (a : Bytes) (p : List Bytes) (ls : List Bool) (j : Nat) (ha : a.length = 32) : (uppTo a p ls j).1.length = 32 ∧ (uppTo a p ls j).2.length = 32 := by
  unfold uppTo
  have : ∀ (l : List (Bytes × Bool)) (s : Bytes × Bytes), s.1.length = 32 ∧ s.2.length = 32 → (l.foldl upp s).1.length = 32 ∧ (l.foldl upp s).2.length = 32 := by
    intro l
    induction l with
    | nil => intro s hs; exact hs
    | cons t l ih =>
      intro s hs
      refine ih _ ?_
      unfold upp
      split
      · exact ⟨hs.1, rfl⟩
      · exact ⟨rfl, rfl⟩
  exact this _ _ ⟨ha, ha⟩
end Tr
end Go.Proofs.YtfokemminjikpaaDoor
