/-
  Trees of entries in plain Lean: where entries are parted, roots, paths, and what a path makes. No translation stands here.
  Proofs that a tree goes on, in plain Lean: how long they are, what they hold, what they make. No translation stands here.
  What a path makes, as the document's own answer makes it: from below, along the places from the top, turned. No translation stands here.
  Plain trees: a root by a stack of merges, a path and a proof by putting in front. No number of any translation stands here.
  What a proof makes, as the document's own answer makes it: from below, along the parts from the top, turned. No translation stands here.
-/
import Derived.Test.YtjblnjeloimbgaaDoorShaM
import Derived.Lib.BitFns
import Derived.Lib.ItoaNum
namespace Go.Proofs.YtjblnjeloimbgaaDoor
set_option linter.unusedVariables false
namespace Tr
abbrev Bytes := List UInt8
/-- The greatest power of two below n. -/
def split (n : Nat) : Nat := if n < 2 then 0 else 2 ^ Nat.log2 (n - 1)
theorem split_few {n : Nat} (h : n < 2) : split n = 0 := if_pos h
theorem split_pos {n : Nat} (h : 2 ≤ n) : 0 < split n := by unfold split; rw [if_neg (by omega)]; exact Nat.two_pow_pos _
theorem split_lt {n : Nat} (h : 2 ≤ n) : split n < n := by
  unfold split
  rw [if_neg (by omega)]
  have := Nat.log2_self_le (n := n - 1) (by omega)
  omega
theorem split_ge {n : Nat} (h : 2 ≤ n) : n ≤ 2 * split n := by
  unfold split
  rw [if_neg (by omega)]
  have := Nat.lt_log2_self (n := n - 1)
  rw [Nat.pow_succ] at this
  omega
theorem split_bitLen (n : Nat) (h : 2 ≤ n) (h1 : n ≤ 18446744073709551616) : split n = 2 ^ (Lib.bitLen (n - 1) - 1) ∧ 1 ≤ Lib.bitLen (n - 1) ∧ Lib.bitLen (n - 1) ≤ 64 := by
  obtain ⟨a, b, c⟩ := Lib.bitLenAux_bounds 64 (n - 1) (by omega) (by omega)
  have hL : Lib.bitLen (n - 1) ≤ 64 := Lib.bitLen_le (n - 1) 64 (Nat.le_refl _) (by omega)
  refine ⟨?_, a, hL⟩
  unfold split
  rw [if_neg (by omega)]
  congr 1
  rw [Nat.log2_eq_iff (by omega)]
  unfold Lib.bitLen
  refine ⟨b, ?_⟩
  rw [Nat.sub_add_cancel a]
  exact c
def leaf (b : Bytes) : Bytes := Sh.sha (0 :: b)
def node (x y : Bytes) : Bytes := Sh.sha (1 :: (x ++ y))
theorem leaf_length (b : Bytes) : (leaf b).length = 32 := rfl
theorem node_length (x y : Bytes) : (node x y).length = 32 := rfl
/-- The root of some entries: f is more than how many there are. -/
def rootF : Nat → List Bytes → Bytes
  | 0, _ => Sh.sha []
  | f + 1, l => if l.length = 0 then Sh.sha [] else if l.length = 1 then leaf (l.getD 0 []) else node (rootF f (l.take (split l.length))) (rootF f (l.drop (split l.length)))
def root (l : List Bytes) : Bytes := rootF l.length l
theorem rootF_length (f : Nat) (l : List Bytes) : (rootF f l).length = 32 := by
  cases f with
  | zero => rfl
  | succ f => unfold rootF; split <;> (try split) <;> rfl
theorem root_length (l : List Bytes) : (root l).length = 32 := rootF_length _ _
theorem rootF_fuel : ∀ (f : Nat) (l : List Bytes) (g : Nat), l.length ≤ f → l.length ≤ g → rootF f l = rootF g l
  | 0, l, g, hf, hg => by
    have : l = [] := List.eq_nil_of_length_eq_zero (by omega)
    subst this
    cases g <;> rfl
  | f + 1, l, 0, hf, hg => by
    have : l = [] := List.eq_nil_of_length_eq_zero (by omega)
    subst this
    rfl
  | f + 1, l, g + 1, hf, hg => by
    unfold rootF
    by_cases h0 : l.length = 0
    · rw [if_pos h0, if_pos h0]
    by_cases h1 : l.length = 1
    · rw [if_neg h0, if_neg h0, if_pos h1, if_pos h1]
    have a := split_pos (n := l.length) (by omega)
    have b := split_lt (n := l.length) (by omega)
    rw [if_neg h0, if_neg h0, if_neg h1, if_neg h1, rootF_fuel f _ g (by rw [List.length_take]; omega) (by rw [List.length_take]; omega), rootF_fuel f _ g (by rw [List.length_drop]; omega) (by rw [List.length_drop]; omega)]
theorem root_nil : root [] = Sh.sha [] := rfl
theorem root_one (b : Bytes) : root [b] = leaf b := by
  have h : root [b] = rootF (0 + 1) [b] := rfl
  rw [h]
  unfold rootF
  rw [if_neg (by show ¬ (1 = 0); omega), if_pos (by show 1 = 1; omega), List.getD_cons_zero]
theorem root_more (l : List Bytes) (h : 2 ≤ l.length) : root l = node (root (l.take (split l.length))) (root (l.drop (split l.length))) := by
  have a := split_pos h
  have b := split_lt h
  unfold root
  obtain ⟨n, hn⟩ : ∃ n, l.length = n + 1 := ⟨l.length - 1, by omega⟩
  rw [rootF_fuel (l.take (split l.length)).length _ n (Nat.le_refl _) (by rw [List.length_take]; omega), rootF_fuel (l.drop (split l.length)).length _ n (Nat.le_refl _) (by rw [List.length_drop]; omega), hn]
  show (if l.length = 0 then _ else if l.length = 1 then _ else _) = _
  rw [if_neg (by omega), if_neg (by omega), hn]
/-- The path to a place. -/
def pathF : Nat → List Bytes → Nat → List Bytes
  | 0, _, _ => []
  | f + 1, l, i => if l.length < 2 then [] else if i < split l.length then pathF f (l.take (split l.length)) i ++ [root (l.drop (split l.length))] else pathF f (l.drop (split l.length)) (i - split l.length) ++ [root (l.take (split l.length))]
def path (l : List Bytes) (i : Nat) : List Bytes := pathF l.length l i
theorem pathF_few (f : Nat) (l : List Bytes) (i : Nat) (h : l.length < 2) : pathF f l i = [] := by
  cases f with
  | zero => rfl
  | succ f => unfold pathF; rw [if_pos h]
theorem pathF_fuel : ∀ (f : Nat) (l : List Bytes) (i g : Nat), l.length ≤ f → l.length ≤ g → pathF f l i = pathF g l i
  | 0, l, i, g, hf, hg => by rw [pathF_few _ _ _ (by omega), pathF_few _ _ _ (by omega)]
  | f + 1, l, i, 0, hf, hg => by rw [pathF_few _ _ _ (by omega), pathF_few _ _ _ (by omega)]
  | f + 1, l, i, g + 1, hf, hg => by
    unfold pathF
    by_cases h1 : l.length < 2
    · rw [if_pos h1, if_pos h1]
    have a := split_pos (n := l.length) (by omega)
    have b := split_lt (n := l.length) (by omega)
    rw [if_neg h1, if_neg h1, pathF_fuel f _ _ g (by rw [List.length_take]; omega) (by rw [List.length_take]; omega), pathF_fuel f _ _ g (by rw [List.length_drop]; omega) (by rw [List.length_drop]; omega)]
theorem path_few (l : List Bytes) (i : Nat) (h : l.length < 2) : path l i = [] := pathF_few _ _ _ h
theorem path_more (l : List Bytes) (i : Nat) (h : 2 ≤ l.length) : path l i = if i < split l.length then path (l.take (split l.length)) i ++ [root (l.drop (split l.length))] else path (l.drop (split l.length)) (i - split l.length) ++ [root (l.take (split l.length))] := by
  have a := split_pos h
  have b := split_lt h
  unfold path
  obtain ⟨n, hn⟩ : ∃ n, l.length = n + 1 := ⟨l.length - 1, by omega⟩
  rw [pathF_fuel (l.take (split l.length)).length _ _ n (Nat.le_refl _) (by rw [List.length_take]; omega), pathF_fuel (l.drop (split l.length)).length _ _ n (Nat.le_refl _) (by rw [List.length_drop]; omega), hn]
  show (if l.length < 2 then _ else _) = _
  rw [if_neg (by omega), hn]
theorem path_all : ∀ (f : Nat) (l : List Bytes) (i : Nat), ∀ x ∈ pathF f l i, x.length = 32
  | 0, l, i, x, h => by cases h
  | f + 1, l, i, x, h => by
    unfold pathF at h
    split at h
    · cases h
    · split at h
      all_goals
        rcases List.mem_append.1 h with h | h
        · exact path_all f _ _ x h
        · rw [List.mem_singleton] at h; subst h; exact root_length _
/-- How many hashes a path has. -/
def stepsF : Nat → Nat → Nat → Nat
  | 0, _, _ => 0
  | f + 1, n, i => if n < 2 then 0 else if i < split n then stepsF f (split n) i + 1 else stepsF f (n - split n) (i - split n) + 1
/-- What a path makes of the hash of an entry. -/
def madeF : Nat → Nat → Nat → Bytes → List Bytes → Bytes
  | 0, _, _, h, _ => h
  | f + 1, n, i, h, p => if n < 2 then h else if i < split n then node (madeF f (split n) i h (p.take (p.length - 1))) (p.getD (p.length - 1) []) else node (p.getD (p.length - 1) []) (madeF f (n - split n) (i - split n) h (p.take (p.length - 1)))
def steps (n i : Nat) : Nat := stepsF 64 n i
def made (n i : Nat) (h : Bytes) (p : List Bytes) : Bytes := madeF 64 n i h p
/-- How deep a tree of so many is. -/
def deep (n : Nat) : Nat := if n < 2 then 0 else Nat.log2 (n - 1) + 1
theorem deep_few {n : Nat} (h : n < 2) : deep n = 0 := if_pos h
theorem deep_le {n k : Nat} (h : n ≤ 2 ^ k) : deep n ≤ k := by
  unfold deep
  split
  · omega
  · have : Nat.log2 (n - 1) < k := (Nat.log2_lt (by omega)).2 (by omega)
    omega
theorem deep_split {n : Nat} (h : 2 ≤ n) : split n = 2 ^ (deep n - 1) ∧ 1 ≤ deep n := by
  unfold split deep
  rw [if_neg (by omega), if_neg (by omega)]
  exact ⟨by rw [Nat.add_sub_cancel], by omega⟩
theorem deep_left {n : Nat} (h : 2 ≤ n) : deep (split n) + 1 ≤ deep n := by
  obtain ⟨a, b⟩ := deep_split h
  have : deep (split n) ≤ deep n - 1 := deep_le (by rw [a]; exact Nat.le_refl _)
  omega
theorem deep_right {n : Nat} (h : 2 ≤ n) : deep (n - split n) + 1 ≤ deep n := by
  obtain ⟨a, b⟩ := deep_split h
  have c := split_ge h
  have : deep (n - split n) ≤ deep n - 1 := deep_le (by rw [← a]; omega)
  omega
theorem stepsF_few (f n i : Nat) (h : n < 2) : stepsF f n i = 0 := by
  cases f with
  | zero => rfl
  | succ f => unfold stepsF; rw [if_pos h]
theorem stepsF_fuel : ∀ (f n i g : Nat), deep n ≤ f → deep n ≤ g → stepsF f n i = stepsF g n i
  | f, n, i, g, hf, hg => by
    by_cases h : n < 2
    · rw [stepsF_few _ _ _ h, stepsF_few _ _ _ h]
    have l := deep_left (n := n) (by omega)
    have r := deep_right (n := n) (by omega)
    obtain ⟨f, rfl⟩ : ∃ f', f = f' + 1 := ⟨f - 1, by omega⟩
    obtain ⟨g, rfl⟩ : ∃ g', g = g' + 1 := ⟨g - 1, by omega⟩
    unfold stepsF
    rw [if_neg h, if_neg h, stepsF_fuel f _ _ g (by omega) (by omega), stepsF_fuel f _ _ g (by omega) (by omega)]
  termination_by f => f
theorem steps_few {n : Nat} (i : Nat) (h : n < 2) : steps n i = 0 := stepsF_few _ _ _ h
theorem steps_more {n : Nat} (i : Nat) (h : 2 ≤ n) (h1 : n ≤ 18446744073709551616) : steps n i = if i < split n then steps (split n) i + 1 else steps (n - split n) (i - split n) + 1 := by
  have d : deep n ≤ 64 := deep_le (by simpa using h1)
  have l := deep_left h
  have r := deep_right h
  unfold steps
  rw [stepsF_fuel 64 (split n) i 63 (by omega) (by omega), stepsF_fuel 64 (n - split n) _ 63 (by omega) (by omega)]
  show (if n < 2 then _ else _) = _
  rw [if_neg (by omega)]
theorem steps_le (n i : Nat) : steps n i ≤ 64 := by
  have : ∀ f n i, stepsF f n i ≤ f := by
    intro f
    induction f with
    | zero => intro n i; exact Nat.le_refl _
    | succ f ih =>
      intro n i
      unfold stepsF
      have a := ih (split n) i
      have b := ih (n - split n) (i - split n)
      split
      · omega
      · split <;> omega
  exact this 64 n i
theorem madeF_few (f n i : Nat) (x : Bytes) (p : List Bytes) (h : n < 2) : madeF f n i x p = x := by
  cases f with
  | zero => rfl
  | succ f => unfold madeF; rw [if_pos h]
theorem madeF_fuel : ∀ (f n i : Nat) (x : Bytes) (p : List Bytes) (g : Nat), deep n ≤ f → deep n ≤ g → madeF f n i x p = madeF g n i x p
  | f, n, i, x, p, g, hf, hg => by
    by_cases h : n < 2
    · rw [madeF_few _ _ _ _ _ h, madeF_few _ _ _ _ _ h]
    have l := deep_left (n := n) (by omega)
    have r := deep_right (n := n) (by omega)
    obtain ⟨f, rfl⟩ : ∃ f', f = f' + 1 := ⟨f - 1, by omega⟩
    obtain ⟨g, rfl⟩ : ∃ g', g = g' + 1 := ⟨g - 1, by omega⟩
    unfold madeF
    rw [if_neg h, if_neg h, madeF_fuel f _ _ _ _ g (by omega) (by omega), madeF_fuel f _ _ _ _ g (by omega) (by omega)]
  termination_by f => f
theorem made_few {n : Nat} (i : Nat) (x : Bytes) (p : List Bytes) (h : n < 2) : made n i x p = x := madeF_few _ _ _ _ _ h
theorem made_more {n : Nat} (i : Nat) (x : Bytes) (p : List Bytes) (h : 2 ≤ n) (h1 : n ≤ 18446744073709551616) :
    made n i x p = if i < split n then node (made (split n) i x (p.take (p.length - 1))) (p.getD (p.length - 1) []) else node (p.getD (p.length - 1) []) (made (n - split n) (i - split n) x (p.take (p.length - 1))) := by
  have d : deep n ≤ 64 := deep_le (by simpa using h1)
  have l := deep_left h
  have r := deep_right h
  unfold made
  rw [madeF_fuel 64 (split n) i x _ 63 (by omega) (by omega), madeF_fuel 64 (n - split n) _ x _ 63 (by omega) (by omega)]
  show (if n < 2 then _ else _) = _
  rw [if_neg (by omega)]
theorem made_length (n i : Nat) (x : Bytes) (p : List Bytes) (hx : x.length = 32) : (made n i x p).length = 32 := by
  unfold made
  show (if n < 2 then x else if i < split n then _ else _).length = 32
  split
  · exact hx
  · split <;> rfl
/-- A path is as long as one of its place. -/
theorem path_steps : ∀ (l : List Bytes) (i : Nat), i < l.length → l.length ≤ 18446744073709551616 → (path l i).length = steps l.length i
  | l, i, hi, hb => by
    by_cases h : l.length < 2
    · rw [path_few _ _ h, steps_few _ h]; rfl
    have a := split_pos (n := l.length) (by omega)
    have b := split_lt (n := l.length) (by omega)
    have t : (l.take (split l.length)).length = split l.length := by rw [List.length_take]; omega
    have d : (l.drop (split l.length)).length = l.length - split l.length := by rw [List.length_drop]
    rw [path_more _ _ (by omega), steps_more _ (by omega) hb]
    split
    · rename_i hk
      rw [List.length_append, path_steps _ i (by omega) (by omega), t]; rfl
    · rename_i hk
      rw [List.length_append, path_steps _ (i - split l.length) (by omega) (by omega), d]; rfl
  termination_by l => l.length
/-- A path makes the root. -/
theorem path_made : ∀ (l : List Bytes) (i : Nat), i < l.length → l.length ≤ 18446744073709551616 → made l.length i (leaf (l.getD i [])) (path l i) = root l
  | l, i, hi, hb => by
    by_cases h : l.length < 2
    · match l, h with
      | [], _ => cases hi
      | [x], _ =>
        have : i = 0 := by simpa using hi
        subst this
        rw [made_few _ _ _ (by show 1 < 2; omega), root_one, List.getD_cons_zero]
      | x :: y :: l, h => simp at h; omega
    have a := split_pos (n := l.length) (by omega)
    have b := split_lt (n := l.length) (by omega)
    have t : (l.take (split l.length)).length = split l.length := by rw [List.length_take]; omega
    have d : (l.drop (split l.length)).length = l.length - split l.length := by rw [List.length_drop]
    have cut : ∀ (p : List Bytes) (x : Bytes), (p ++ [x]).take ((p ++ [x]).length - 1) = p ∧ (p ++ [x]).getD ((p ++ [x]).length - 1) [] = x := by
      intro p x
      rw [List.length_append, List.length_singleton, Nat.add_sub_cancel]
      exact ⟨by simp, by simp⟩
    rw [made_more _ _ _ (by omega) hb, root_more l (by omega), path_more _ _ (by omega)]
    split
    · rename_i hk
      have ih := path_made (l.take (split l.length)) i (by omega) (by omega)
      have g : (l.take (split l.length)).getD i [] = l.getD i [] := by
        rw [List.getD_eq_getElem?_getD, List.getD_eq_getElem?_getD, List.getElem?_take, if_pos hk]
      rw [g, t] at ih
      rw [(cut _ _).1, (cut _ _).2, ih]
    · rename_i hk
      have ih := path_made (l.drop (split l.length)) (i - split l.length) (by omega) (by omega)
      have g : (l.drop (split l.length)).getD (i - split l.length) [] = l.getD i [] := by
        rw [List.getD_eq_getElem?_getD, List.getD_eq_getElem?_getD, List.getElem?_drop]
        congr 2
        omega
      rw [g, d] at ih
      rw [(cut _ _).1, (cut _ _).2, ih]
  termination_by l => l.length
/-- The answer of Verify. -/
def verify (r : Bytes) (n i : Nat) (b : Bytes) (p : List Bytes) : Int := if n ≤ i then 15 else if p.length = steps n i then (if made n i (leaf b) p = r then 0 else 20) else 20
end Tr
end Go.Proofs.YtjblnjeloimbgaaDoor
namespace Go.Proofs.YtjblnjeloimbgaaDoor
set_option linter.unusedVariables false
namespace Tr
theorem split_mid {n m : Nat} (h : 2 ≤ n) (h1 : split n < m) (h2 : m ≤ n) : split m = split n := by
  have a := split_pos h
  have e : ∀ k, 2 ≤ k → split k = 2 ^ Nat.log2 (k - 1) := fun k hk => by unfold split; rw [if_neg (by omega)]
  rw [e m (by omega), e n h]
  rw [e n h] at h1
  have := Nat.lt_log2_self (n := n - 1)
  congr 1
  rw [Nat.log2_eq_iff (by omega)]
  exact ⟨by omega, by omega⟩
theorem pow_le_split {n j : Nat} (h : 2 ^ j < n) : 2 ^ j ≤ split n := by
  have := Nat.two_pow_pos j
  unfold split
  rw [if_neg (by omega)]
  exact Nat.pow_le_pow_right (by omega) ((Nat.le_log2 (by omega)).2 (by omega))
/-- How many hashes a proof has. -/
def lngF : Nat → Nat → Nat → Bool → Nat
  | 0, _, _, whole => if whole then 0 else 1
  | f + 1, m, n, whole => if m = n then (if whole then 0 else 1) else if m ≤ split n then lngF f m (split n) whole + 1 else lngF f (m - split n) (n - split n) false + 1
def lng (m n : Nat) (whole : Bool) : Nat := lngF 64 m n whole
theorem lngF_eq (f n : Nat) (whole : Bool) : lngF f n n whole = if whole then 0 else 1 := by
  cases f with
  | zero => rfl
  | succ f => unfold lngF; rw [if_pos rfl]
theorem lng_eq (n : Nat) (whole : Bool) : lng n n whole = if whole then 0 else 1 := lngF_eq _ _ _
theorem lngF_fuel : ∀ (f m n : Nat) (whole : Bool) (g : Nat), 1 ≤ m → m ≤ n → deep n ≤ f → deep n ≤ g → lngF f m n whole = lngF g m n whole
  | f, m, n, whole, g, h1, h2, hf, hg => by
    by_cases h : m = n
    · subst h; rw [lngF_eq, lngF_eq]
    have l := deep_left (n := n) (by omega)
    have r := deep_right (n := n) (by omega)
    have a := split_pos (n := n) (by omega)
    have b := split_lt (n := n) (by omega)
    obtain ⟨f, rfl⟩ : ∃ f', f = f' + 1 := ⟨f - 1, by omega⟩
    obtain ⟨g, rfl⟩ : ∃ g', g = g' + 1 := ⟨g - 1, by omega⟩
    unfold lngF
    rw [if_neg h, if_neg h]
    split
    · rw [lngF_fuel f m _ whole g h1 (by omega) (by omega) (by omega)]
    · rw [lngF_fuel f (m - split n) _ false g (by omega) (by omega) (by omega) (by omega)]
  termination_by f => f
theorem lng_more {m n : Nat} (whole : Bool) (h1 : 1 ≤ m) (h2 : m < n) (hb : n ≤ 18446744073709551616) : lng m n whole = if m ≤ split n then lng m (split n) whole + 1 else lng (m - split n) (n - split n) false + 1 := by
  have d : deep n ≤ 64 := deep_le (by simpa using hb)
  have l := deep_left (n := n) (by omega)
  have r := deep_right (n := n) (by omega)
  have a := split_pos (n := n) (by omega)
  have b := split_lt (n := n) (by omega)
  unfold lng
  show (if m = n then _ else _) = _
  rw [if_neg (by omega)]
  split
  · rw [lngF_fuel 64 m _ whole 63 h1 (by omega) (by omega) (by omega)]
  · rw [lngF_fuel 64 (m - split n) _ false 63 (by omega) (by omega) (by omega) (by omega)]
theorem lng_le : ∀ (d m n : Nat) (whole : Bool), deep n ≤ d → 1 ≤ m → m ≤ n → n ≤ 18446744073709551616 → lng m n whole ≤ d + 1
  | d, m, n, whole, hd, h1, h2, hb => by
    by_cases h : m = n
    · subst h; rw [lng_eq]; split <;> omega
    have l := deep_left (n := n) (by omega)
    have r := deep_right (n := n) (by omega)
    have a := split_pos (n := n) (by omega)
    have b := split_lt (n := n) (by omega)
    obtain ⟨d, rfl⟩ : ∃ d', d = d' + 1 := ⟨d - 1, by omega⟩
    rw [lng_more whole h1 (by omega) hb]
    split
    · have := lng_le d m (split n) whole (by omega) h1 (by omega) (by omega); omega
    · have := lng_le d (m - split n) (n - split n) false (by omega) (by omega) (by omega) (by omega); omega
  termination_by d => d
theorem lng_pos {m n : Nat} (whole : Bool) (h1 : 1 ≤ m) (h2 : m < n) (hb : n ≤ 18446744073709551616) : 1 ≤ lng m n whole := by
  rw [lng_more whole h1 h2 hb]
  split <;> omega
theorem lng_pow : ∀ (d j n : Nat), deep n ≤ d → 2 ^ j ≤ n → n ≤ 18446744073709551616 → lng (2 ^ j) n true ≤ d
  | d, j, n, hd, h2, hb => by
    have h1 := Nat.two_pow_pos j
    by_cases h : 2 ^ j = n
    · rw [h, lng_eq]; exact Nat.zero_le _
    have l := deep_left (n := n) (by omega)
    have a := split_pos (n := n) (by omega)
    have b := split_lt (n := n) (by omega)
    have c := pow_le_split (j := j) (n := n) (by omega)
    obtain ⟨d, rfl⟩ : ∃ d', d = d' + 1 := ⟨d - 1, by omega⟩
    rw [lng_more true h1 (by omega) hb, if_pos c]
    have := lng_pow d j (split n) (by omega) c (by omega)
    omega
  termination_by d => d
/-- A number that has no bit with the one below is a power of two. -/
theorem pow_of_land {m : Nat} (h : 1 ≤ m) (hl : m &&& (m - 1) = 0) : ∃ j, m = 2 ^ j := by
  refine ⟨Nat.log2 m, ?_⟩
  rcases Nat.eq_or_lt_of_le (Nat.log2_self_le (n := m) (by omega)) with e | e
  · exact e.symm
  have h2 := Nat.lt_log2_self (n := m)
  have t : ∀ x, 2 ^ Nat.log2 m ≤ x → x < 2 ^ (Nat.log2 m + 1) → x.testBit (Nat.log2 m) = true := fun x a b => by
    rw [Nat.testBit_eq_decide_div_mod_eq, decide_eq_true_eq]
    have hp := Nat.two_pow_pos (Nat.log2 m)
    have : x / 2 ^ Nat.log2 m = 1 := by
      rw [Nat.pow_succ] at b
      refine Nat.le_antisymm ?_ ((Nat.le_div_iff_mul_le hp).2 (by omega))
      have := (Nat.div_lt_iff_lt_mul hp (x := x) (y := 2)).2 (by omega)
      omega
    rw [this]
  have h3 := t m (by omega) h2
  have h4 := t (m - 1) (by omega) (by omega)
  have h5 := congrArg (fun x => x.testBit (Nat.log2 m)) hl
  simp [Nat.testBit_and, h3, h4] at h5
/-- The proof that entries go on from the first m. -/
def prfF : Nat → List Bytes → Nat → Bool → List Bytes
  | 0, l, _, whole => if whole then [] else [root l]
  | f + 1, l, m, whole => if m = l.length then (if whole then [] else [root l]) else if m ≤ split l.length then prfF f (l.take (split l.length)) m whole ++ [root (l.drop (split l.length))] else prfF f (l.drop (split l.length)) (m - split l.length) false ++ [root (l.take (split l.length))]
def prf (l : List Bytes) (m : Nat) (whole : Bool) : List Bytes := prfF l.length l m whole
theorem prfF_eq (f : Nat) (l : List Bytes) (whole : Bool) : prfF f l l.length whole = if whole then [] else [root l] := by
  cases f with
  | zero => rfl
  | succ f => unfold prfF; rw [if_pos rfl]
theorem prf_eq (l : List Bytes) (whole : Bool) : prf l l.length whole = if whole then [] else [root l] := prfF_eq _ _ _
theorem prfF_fuel : ∀ (f : Nat) (l : List Bytes) (m : Nat) (whole : Bool) (g : Nat), 1 ≤ m → m ≤ l.length → l.length ≤ f → l.length ≤ g → prfF f l m whole = prfF g l m whole
  | f, l, m, whole, g, h1, h2, hf, hg => by
    by_cases h : m = l.length
    · subst h; rw [prfF_eq, prfF_eq]
    have a := split_pos (n := l.length) (by omega)
    have b := split_lt (n := l.length) (by omega)
    obtain ⟨f, rfl⟩ : ∃ f', f = f' + 1 := ⟨f - 1, by omega⟩
    obtain ⟨g, rfl⟩ : ∃ g', g = g' + 1 := ⟨g - 1, by omega⟩
    unfold prfF
    rw [if_neg h, if_neg h]
    split
    · rw [prfF_fuel f _ m whole g h1 (by rw [List.length_take]; omega) (by rw [List.length_take]; omega) (by rw [List.length_take]; omega)]
    · rw [prfF_fuel f _ (m - split l.length) false g (by omega) (by rw [List.length_drop]; omega) (by rw [List.length_drop]; omega) (by rw [List.length_drop]; omega)]
  termination_by f => f
theorem prf_more (l : List Bytes) {m : Nat} (whole : Bool) (h1 : 1 ≤ m) (h2 : m < l.length) : prf l m whole = if m ≤ split l.length then prf (l.take (split l.length)) m whole ++ [root (l.drop (split l.length))] else prf (l.drop (split l.length)) (m - split l.length) false ++ [root (l.take (split l.length))] := by
  have a := split_pos (n := l.length) (by omega)
  have b := split_lt (n := l.length) (by omega)
  obtain ⟨n, hn⟩ : ∃ n, l.length = n + 1 := ⟨l.length - 1, by omega⟩
  have e : prf l m whole = prfF (n + 1) l m whole := by unfold prf; rw [hn]
  rw [e]
  show (if m = l.length then _ else _) = _
  rw [if_neg (by omega)]
  unfold prf
  split
  · rw [prfF_fuel n _ m whole _ h1 (by rw [List.length_take]; omega) (by rw [List.length_take]; omega) (Nat.le_refl _)]
  · rw [prfF_fuel n _ (m - split l.length) false _ (by omega) (by rw [List.length_drop]; omega) (by rw [List.length_drop]; omega) (Nat.le_refl _)]
theorem prf_all : ∀ (f : Nat) (l : List Bytes) (m : Nat) (whole : Bool), ∀ x ∈ prfF f l m whole, x.length = 32
  | 0, l, m, whole, x, h => by
    unfold prfF at h
    split at h
    · cases h
    · rw [List.mem_singleton] at h; subst h; exact root_length _
  | f + 1, l, m, whole, x, h => by
    unfold prfF at h
    split at h
    · split at h
      · cases h
      · rw [List.mem_singleton] at h; subst h; exact root_length _
    · split at h
      all_goals
        rcases List.mem_append.1 h with h | h
        · exact prf_all f _ _ _ x h
        · rw [List.mem_singleton] at h; subst h; exact root_length _
theorem prf_long : ∀ (l : List Bytes) (m : Nat) (whole : Bool), 1 ≤ m → m ≤ l.length → l.length ≤ 18446744073709551616 → (prf l m whole).length = lng m l.length whole
  | l, m, whole, h1, h2, hb => by
    by_cases h : m = l.length
    · subst h; rw [prf_eq, lng_eq]; split <;> rfl
    have a := split_pos (n := l.length) (by omega)
    have b := split_lt (n := l.length) (by omega)
    have t : (l.take (split l.length)).length = split l.length := by rw [List.length_take]; omega
    have d : (l.drop (split l.length)).length = l.length - split l.length := by rw [List.length_drop]
    rw [prf_more l whole h1 (by omega), lng_more whole h1 (by omega) hb]
    split
    · rw [List.length_append, prf_long _ m whole h1 (by omega) (by omega), t]; rfl
    · rw [List.length_append, prf_long _ (m - split l.length) false (by omega) (by omega) (by omega), d]; rfl
  termination_by l => l.length
theorem prf_few (l : List Bytes) (m : Nat) (whole : Bool) (h1 : 1 ≤ m) (h2 : m ≤ l.length) : (prf l m whole).length ≤ l.length := by
  have : ∀ (n : Nat) (l : List Bytes) (m : Nat) (whole : Bool), l.length ≤ n → 1 ≤ m → m ≤ l.length → (prf l m whole).length ≤ l.length := by
    intro n
    induction n with
    | zero => intro l m whole h0 h1 h2; omega
    | succ n ih =>
      intro l m whole h0 h1 h2
      by_cases h : m = l.length
      · subst h; rw [prf_eq]; split <;> simp <;> omega
      have a := split_pos (n := l.length) (by omega)
      have b := split_lt (n := l.length) (by omega)
      have t : (l.take (split l.length)).length = split l.length := by rw [List.length_take]; omega
      have d : (l.drop (split l.length)).length = l.length - split l.length := by rw [List.length_drop]
      rw [prf_more l whole h1 (by omega)]
      split
      · have := ih (l.take (split l.length)) m whole (by omega) h1 (by omega)
        rw [List.length_append, List.length_singleton]; omega
      · have := ih (l.drop (split l.length)) (m - split l.length) false (by omega) (by omega) (by omega)
        rw [List.length_append, List.length_singleton]; omega
  exact this l.length l m whole (Nat.le_refl _) h1 h2
/-- The two roots that a proof makes. -/
def cmdF : Nat → Nat → Nat → Bool → Bytes → List Bytes → Bytes × Bytes
  | 0, _, _, whole, o, p => if whole then (o, o) else (p.getD 0 [], p.getD 0 [])
  | f + 1, m, n, whole, o, p => if m = n then (if whole then (o, o) else (p.getD 0 [], p.getD 0 [])) else if m ≤ split n then ((cmdF f m (split n) whole o (p.take (p.length - 1))).1, node (cmdF f m (split n) whole o (p.take (p.length - 1))).2 (p.getD (p.length - 1) [])) else (node (p.getD (p.length - 1) []) (cmdF f (m - split n) (n - split n) false o (p.take (p.length - 1))).1, node (p.getD (p.length - 1) []) (cmdF f (m - split n) (n - split n) false o (p.take (p.length - 1))).2)
def cmd (m n : Nat) (whole : Bool) (o : Bytes) (p : List Bytes) : Bytes × Bytes := cmdF 64 m n whole o p
theorem cmdF_eq (f n : Nat) (whole : Bool) (o : Bytes) (p : List Bytes) : cmdF f n n whole o p = if whole then (o, o) else (p.getD 0 [], p.getD 0 []) := by
  cases f with
  | zero => rfl
  | succ f => unfold cmdF; rw [if_pos rfl]
theorem cmd_eq (n : Nat) (whole : Bool) (o : Bytes) (p : List Bytes) : cmd n n whole o p = if whole then (o, o) else (p.getD 0 [], p.getD 0 []) := cmdF_eq _ _ _ _ _
theorem cmdF_fuel : ∀ (f m n : Nat) (whole : Bool) (o : Bytes) (p : List Bytes) (g : Nat), 1 ≤ m → m ≤ n → deep n ≤ f → deep n ≤ g → cmdF f m n whole o p = cmdF g m n whole o p
  | f, m, n, whole, o, p, g, h1, h2, hf, hg => by
    by_cases h : m = n
    · subst h; rw [cmdF_eq, cmdF_eq]
    have l := deep_left (n := n) (by omega)
    have r := deep_right (n := n) (by omega)
    have a := split_pos (n := n) (by omega)
    have b := split_lt (n := n) (by omega)
    obtain ⟨f, rfl⟩ : ∃ f', f = f' + 1 := ⟨f - 1, by omega⟩
    obtain ⟨g, rfl⟩ : ∃ g', g = g' + 1 := ⟨g - 1, by omega⟩
    unfold cmdF
    rw [if_neg h, if_neg h]
    split
    · rw [cmdF_fuel f m _ whole o _ g h1 (by omega) (by omega) (by omega)]
    · rw [cmdF_fuel f (m - split n) _ false o _ g (by omega) (by omega) (by omega) (by omega)]
  termination_by f => f
theorem cmd_more {m n : Nat} (whole : Bool) (o : Bytes) (p : List Bytes) (h1 : 1 ≤ m) (h2 : m < n) (hb : n ≤ 18446744073709551616) :
    cmd m n whole o p = if m ≤ split n then ((cmd m (split n) whole o (p.take (p.length - 1))).1, node (cmd m (split n) whole o (p.take (p.length - 1))).2 (p.getD (p.length - 1) [])) else (node (p.getD (p.length - 1) []) (cmd (m - split n) (n - split n) false o (p.take (p.length - 1))).1, node (p.getD (p.length - 1) []) (cmd (m - split n) (n - split n) false o (p.take (p.length - 1))).2) := by
  have d : deep n ≤ 64 := deep_le (by simpa using hb)
  have l := deep_left (n := n) (by omega)
  have r := deep_right (n := n) (by omega)
  have a := split_pos (n := n) (by omega)
  have b := split_lt (n := n) (by omega)
  unfold cmd
  show (if m = n then _ else _) = _
  rw [if_neg (by omega)]
  split
  · rw [cmdF_fuel 64 m _ whole o _ 63 h1 (by omega) (by omega) (by omega)]
  · rw [cmdF_fuel 64 (m - split n) _ false o _ 63 (by omega) (by omega) (by omega) (by omega)]
theorem cmd_length : ∀ (d m n : Nat) (whole : Bool) (o : Bytes) (p : List Bytes), deep n ≤ d → 1 ≤ m → m ≤ n → n ≤ 18446744073709551616 → o.length = 32 → (∀ x ∈ p, x.length = 32) → p.length = lng m n whole → (cmd m n whole o p).1.length = 32 ∧ (cmd m n whole o p).2.length = 32
  | d, m, n, whole, o, p, hd, h1, h2, hb, ho, hp, hl => by
    by_cases h : m = n
    · subst h
      rw [lng_eq] at hl
      rw [cmd_eq]
      cases whole with
      | true => exact ⟨ho, ho⟩
      | false =>
        match p, hl with
        | [x], _ => exact ⟨hp x (by simp), hp x (by simp)⟩
    have l := deep_left (n := n) (by omega)
    have r := deep_right (n := n) (by omega)
    have a := split_pos (n := n) (by omega)
    have b := split_lt (n := n) (by omega)
    obtain ⟨d, rfl⟩ : ∃ d', d = d' + 1 := ⟨d - 1, by omega⟩
    rw [lng_more whole h1 (by omega) hb] at hl
    rw [cmd_more whole o p h1 (by omega) hb]
    split
    · rename_i hk
      rw [if_pos hk] at hl
      exact ⟨(cmd_length d m (split n) whole o _ (by omega) h1 hk (by omega) ho (fun x hx => hp x (List.mem_of_mem_take hx)) (by rw [List.length_take]; omega)).1, rfl⟩
    · exact ⟨rfl, rfl⟩
  termination_by d => d
/-- A proof makes both roots. -/
theorem prf_made : ∀ (l : List Bytes) (m : Nat) (whole : Bool) (o : Bytes), 1 ≤ m → m ≤ l.length → l.length ≤ 18446744073709551616 → (whole = true → o = root (l.take m)) → cmd m l.length whole o (prf l m whole) = (root (l.take m), root l)
  | l, m, whole, o, h1, h2, hb, ho => by
    by_cases h : m = l.length
    · subst h
      rw [cmd_eq, prf_eq, List.take_length]
      cases whole with
      | true => rw [if_pos rfl, ho rfl, List.take_length]
      | false => rfl
    have a := split_pos (n := l.length) (by omega)
    have b := split_lt (n := l.length) (by omega)
    have t : (l.take (split l.length)).length = split l.length := by rw [List.length_take]; omega
    have d : (l.drop (split l.length)).length = l.length - split l.length := by rw [List.length_drop]
    have cut : ∀ (p : List Bytes) (x : Bytes), (p ++ [x]).take ((p ++ [x]).length - 1) = p ∧ (p ++ [x]).getD ((p ++ [x]).length - 1) [] = x := by
      intro p x
      rw [List.length_append, List.length_singleton, Nat.add_sub_cancel]
      exact ⟨by simp, by simp⟩
    have hr := root_more l (by omega)
    rw [cmd_more whole o _ h1 (by omega) hb, prf_more l whole h1 (by omega)]
    split
    · rename_i hk
      have ih := prf_made (l.take (split l.length)) m whole o h1 (by omega) (by omega) (fun hw => by rw [ho hw, List.take_take, Nat.min_eq_left hk])
      rw [t, List.take_take, Nat.min_eq_left hk] at ih
      rw [(cut _ _).1, (cut _ _).2, ih, hr]
    · rename_i hk
      have ih := prf_made (l.drop (split l.length)) (m - split l.length) false o (by omega) (by omega) (by omega) (fun hw => by cases hw)
      rw [d] at ih
      have hm := root_more (l.take m) (by rw [List.length_take]; omega)
      have lm : (l.take m).length = m := by rw [List.length_take]; omega
      rw [lm, split_mid (n := l.length) (m := m) (by omega) (by omega) (by omega), List.take_take, Nat.min_eq_left (by omega), List.drop_take] at hm
      rw [(cut _ _).1, (cut _ _).2, ih, hr, hm]
  termination_by l => l.length
/-- The answer of Long, and of Verify. -/
def clong (m n : Nat) : Nat := if m < 1 ∨ n < m then 0 else lng m n true
def cverify (m : Nat) (o : Bytes) (n : Nat) (r : Bytes) (p : List Bytes) : Int := if m < 1 ∨ n < m then 15 else if p.length = lng m n true then (if (cmd m n true o p).1 = o ∧ (cmd m n true o p).2 = r then 0 else 20) else 20
theorem prf_one : ∀ (l : List Bytes), 1 ≤ l.length → prf l 1 true = path l 0
  | l, h1 => by
    by_cases h : 1 = l.length
    · rw [path_few _ _ (by omega)]
      have := prf_eq l true
      rw [← h] at this
      exact this
    have a := split_pos (n := l.length) (by omega)
    have b := split_lt (n := l.length) (by omega)
    rw [prf_more l true (Nat.le_refl _) (by omega), path_more l 0 (by omega), if_pos (by omega), if_pos a, prf_one (l.take (split l.length)) (by rw [List.length_take]; omega)]
  termination_by l => l.length
  decreasing_by
    have a := split_pos (n := l.length) (by omega)
    have b := split_lt (n := l.length) (by omega)
    rw [List.length_take]; omega
end Tr
end Go.Proofs.YtjblnjeloimbgaaDoor
namespace Go.Proofs.YtjblnjeloimbgaaDoor
set_option linter.unusedVariables false
namespace Tr
theorem split_unique {n k j : Nat} (h2 : 2 ≤ n) (hk : k = 2 ^ j) (h : k < n) (h' : n ≤ 2 * k) : split n = k := by
  unfold split
  rw [if_neg (by omega), hk]
  congr 1
  rw [Nat.log2_eq_iff (by omega), Nat.pow_succ]
  omega
/-- Of a place: is it in the first part, from the top down? -/
def leftF : Nat → Nat → Nat → List Bool
  | 0, _, _ => []
  | f + 1, n, i => if n < 2 then [] else decide (i < split n) :: (if i < split n then leftF f (split n) i else leftF f (n - split n) (i - split n))
def lefts (n i : Nat) : List Bool := leftF 64 n i
theorem leftF_few (f n i : Nat) (h : n < 2) : leftF f n i = [] := by
  cases f with
  | zero => rfl
  | succ f => unfold leftF; rw [if_pos h]
theorem leftF_fuel : ∀ (f n i g : Nat), deep n ≤ f → deep n ≤ g → leftF f n i = leftF g n i
  | f, n, i, g, hf, hg => by
    by_cases h : n < 2
    · rw [leftF_few _ _ _ h, leftF_few _ _ _ h]
    have l := deep_left (n := n) (by omega)
    have r := deep_right (n := n) (by omega)
    obtain ⟨f, rfl⟩ : ∃ f', f = f' + 1 := ⟨f - 1, by omega⟩
    obtain ⟨g, rfl⟩ : ∃ g', g = g' + 1 := ⟨g - 1, by omega⟩
    unfold leftF
    rw [if_neg h, if_neg h, leftF_fuel f _ _ g (by omega) (by omega), leftF_fuel f _ _ g (by omega) (by omega)]
  termination_by f => f
theorem lefts_few {n : Nat} (i : Nat) (h : n < 2) : lefts n i = [] := leftF_few _ _ _ h
theorem lefts_more {n : Nat} (i : Nat) (h : 2 ≤ n) (h1 : n ≤ 18446744073709551616) : lefts n i = decide (i < split n) :: (if i < split n then lefts (split n) i else lefts (n - split n) (i - split n)) := by
  have d : deep n ≤ 64 := deep_le (by simpa using h1)
  have l := deep_left h
  have r := deep_right h
  unfold lefts
  rw [leftF_fuel 64 (split n) i 63 (by omega) (by omega), leftF_fuel 64 (n - split n) _ 63 (by omega) (by omega)]
  show (if n < 2 then _ else _) = _
  rw [if_neg (by omega)]
theorem lefts_length : ∀ (d n i : Nat), deep n ≤ d → n ≤ 18446744073709551616 → (lefts n i).length = steps n i
  | d, n, i, hd, hb => by
    by_cases h : n < 2
    · rw [lefts_few i h, steps_few i h]; rfl
    have l := deep_left (n := n) (by omega)
    have r := deep_right (n := n) (by omega)
    have a := split_pos (n := n) (by omega)
    have b := split_lt (n := n) (by omega)
    obtain ⟨d, rfl⟩ : ∃ d', d = d' + 1 := ⟨d - 1, by omega⟩
    rw [lefts_more i (by omega) hb, steps_more i (by omega) hb, List.length_cons]
    split
    · rw [lefts_length d _ i (by omega) (by omega)]
    · rw [lefts_length d _ _ (by omega) (by omega)]
  termination_by d => d
/-- One step up. -/
def up (h : Bytes) (s : Bytes × Bool) : Bytes := if s.2 then node h s.1 else node s.1 h
theorem up_length (h : Bytes) (s : Bytes × Bool) : (up h s).length = 32 := by unfold up; split <;> rfl
theorem made_up : ∀ (d n i : Nat) (h : Bytes) (p : List Bytes), deep n ≤ d → n ≤ 18446744073709551616 → p.length = steps n i → made n i h p = (p.zip (lefts n i).reverse).foldl up h
  | d, n, i, h, p, hd, hb, hp => by
    by_cases h2 : n < 2
    · rw [made_few _ _ _ h2, lefts_few i h2, List.reverse_nil, List.zip_nil_right]; rfl
    have l := deep_left (n := n) (by omega)
    have r := deep_right (n := n) (by omega)
    have a := split_pos (n := n) (by omega)
    have b := split_lt (n := n) (by omega)
    obtain ⟨d, rfl⟩ : ∃ d', d = d' + 1 := ⟨d - 1, by omega⟩
    rw [steps_more i (by omega) hb] at hp
    rw [made_more i h p (by omega) hb, lefts_more i (by omega) hb, List.reverse_cons]
    have hpos : 0 < p.length := by rw [hp]; split <;> omega
    have hsp : p = p.take (p.length - 1) ++ [p.getD (p.length - 1) []] := by
      have h1 : p.length - 1 + 1 = p.length := by omega
      have h3 : p.length - 1 < p.length := by omega
      have := List.take_succ_eq_append_getElem h3
      rw [h1, List.take_length] at this
      rw [List.getD_eq_getElem?_getD, List.getElem?_eq_getElem h3]
      exact this
    have hl : (p.take (p.length - 1)).length = p.length - 1 := by rw [List.length_take]; omega
    obtain ⟨q, hq⟩ : ∃ q, p.take (p.length - 1) = q := ⟨_, rfl⟩
    obtain ⟨x, hx⟩ : ∃ x, p.getD (p.length - 1) [] = x := ⟨_, rfl⟩
    rw [hq] at hl hsp
    rw [hx] at hsp
    rw [hq, hx, hsp]
    split
    · rename_i hk
      rw [if_pos hk] at hp
      have hll : q.length = (lefts (split n) i).reverse.length := by rw [List.length_reverse, lefts_length d _ i (by omega) (by omega)]; omega
      rw [List.zip_append hll, List.foldl_append, ← made_up d _ i h q (by omega) (by omega) (by omega), decide_eq_true hk]
      rfl
    · rename_i hk
      rw [if_neg hk] at hp
      have hll : q.length = (lefts (n - split n) (i - split n)).reverse.length := by rw [List.length_reverse, lefts_length d _ _ (by omega) (by omega)]; omega
      rw [List.zip_append hll, List.foldl_append, ← made_up d _ _ h q (by omega) (by omega) (by omega), decide_eq_false hk]
      rfl
  termination_by d => d
/-- So far up. -/
def upTo (h : Bytes) (p : List Bytes) (ls : List Bool) (j : Nat) : Bytes := ((p.zip ls.reverse).take j).foldl up h
theorem upTo_zero (h : Bytes) (p : List Bytes) (ls : List Bool) : upTo h p ls 0 = h := rfl
theorem upTo_succ (h : Bytes) (p : List Bytes) (ls : List Bool) (j : Nat) (x : Bytes) (b : Bool) (hx : p[j]? = some x) (hb : ls[ls.length - 1 - j]? = some b) (hj : j < ls.length) : upTo h p ls (j + 1) = if b then node (upTo h p ls j) x else node x (upTo h p ls j) := by
  have hr : ls.reverse[j]? = some b := by rw [List.getElem?_reverse hj]; exact hb
  have hz : (p.zip ls.reverse)[j]? = some (x, b) := by rw [List.getElem?_zip_eq_some]; exact ⟨hx, hr⟩
  have hlt : j < (p.zip ls.reverse).length := (List.getElem?_eq_some_iff.1 hz).1
  unfold upTo
  rw [List.take_succ_eq_append_getElem hlt, List.foldl_append]
  have e : (p.zip ls.reverse)[j] = (x, b) := (List.getElem?_eq_some_iff.1 hz).2
  rw [e]
  rfl
theorem upTo_all (h : Bytes) (p : List Bytes) (ls : List Bool) (hl : p.length = ls.length) : upTo h p ls p.length = (p.zip ls.reverse).foldl up h := by
  unfold upTo
  rw [List.take_of_length_le (by rw [List.length_zip, List.length_reverse]; omega)]
theorem upTo_length (h : Bytes) (p : List Bytes) (ls : List Bool) (j : Nat) (hh : h.length = 32) : (upTo h p ls j).length = 32 := by
  unfold upTo
  have : ∀ (l : List (Bytes × Bool)) (h : Bytes), h.length = 32 → (l.foldl up h).length = 32 := by
    intro l
    induction l with
    | nil => intro h hh; exact hh
    | cons s l ih => intro h hh; exact ih _ (up_length h s)
  exact this _ h hh
end Tr
end Go.Proofs.YtjblnjeloimbgaaDoor
namespace Go.Proofs.YtjblnjeloimbgaaDoor.Tr
set_option linter.unusedVariables false

/-- Two parts that lie side by side, the first a power of two long, the second not longer: their roots make the root. -/
theorem root_cat (t x : List Bytes) (j : Nat) (ht : t.length = 2 ^ j) (hx : 1 ≤ x.length) (hxt : x.length ≤ t.length) : root (t ++ x) = node (root t) (root x) := by
  have h1 : 1 ≤ t.length := by rw [ht]; exact Nat.one_le_two_pow
  have hl : (t ++ x).length = t.length + x.length := List.length_append
  have hs : split (t ++ x).length = t.length := split_unique (j := j) (by omega) ht (by omega) (by omega)
  rw [root_more _ (by omega), hs]
  simp
/-- The stack: its parts from the top down, each a power of two long, longer and longer. -/
def Up : List (List Bytes) → Prop
  | [] => True
  | s :: r => (∃ j, s.length = 2 ^ j) ∧ (∀ t, r.head? = some t → s.length < t.length) ∧ Up r
/-- .. while the top may be as long as what lies under it. -/
def Near (s : List Bytes) (r : List (List Bytes)) : Prop := (∃ j, s.length = 2 ^ j) ∧ (∀ t, r.head? = some t → s.length ≤ t.length) ∧ Up r
/-- What the stack covers. -/
def cat : List (List Bytes) → List Bytes
  | [] => []
  | s :: r => cat r ++ s
theorem pow_lt {a b : Nat} (h : 2 ^ a < 2 ^ b) : 2 * 2 ^ a ≤ 2 ^ b := by
  have hab : a < b := by
    rcases Nat.lt_or_ge a b with h1 | h1
    · exact h1
    · exact absurd (Nat.pow_le_pow_right (by decide : 0 < 2) h1) (by omega)
  have := Nat.pow_le_pow_right (by decide : 0 < 2) (show a + 1 ≤ b by omega)
  rw [Nat.pow_succ] at this
  omega
theorem Near.push {r : List (List Bytes)} (h : Up r) (x : Bytes) : Near [x] r := by
  refine ⟨⟨0, rfl⟩, fun t ht => ?_, h⟩
  cases r with
  | nil => simp at ht
  | cons u r =>
    simp at ht
    subst ht
    obtain ⟨⟨j, hj⟩, _⟩ := h
    rw [hj]
    exact Nat.one_le_two_pow
theorem Near.up {s : List Bytes} {r : List (List Bytes)} (h : Near s r) (hne : ∀ t, r.head? = some t → s.length ≠ t.length) : Up (s :: r) :=
  ⟨h.1, fun t ht => by have := h.2.1 t ht; have := hne t ht; omega, h.2.2⟩
theorem Near.merge {s t : List Bytes} {r : List (List Bytes)} (h : Near s (t :: r)) (he : s.length = t.length) : Near (t ++ s) r ∧ root (t ++ s) = node (root t) (root s) := by
  obtain ⟨⟨j, hj⟩, _, ⟨⟨k, hk⟩, hr, hu⟩⟩ := h
  refine ⟨⟨⟨j + 1, by rw [List.length_append, Nat.pow_succ]; omega⟩, fun u hu' => ?_, hu⟩, root_cat t s j (by omega) (by rw [hj]; exact Nat.one_le_two_pow) (by omega)⟩
  have h1 := hr u hu'
  cases r with
  | nil => simp at hu'
  | cons v r =>
    simp at hu'
    subst hu'
    obtain ⟨⟨i, hi⟩, _⟩ := hu
    rw [hk, hi] at h1
    have := pow_lt h1
    rw [List.length_append]
    omega
theorem cat_merge (s t : List Bytes) (r : List (List Bytes)) : cat (s :: t :: r) = cat ((t ++ s) :: r) := by
  show cat r ++ t ++ s = cat r ++ (t ++ s)
  rw [List.append_assoc]
/-- The stack's last fold. -/
theorem fold_root : ∀ (r : List (List Bytes)) (x : List Bytes), 1 ≤ x.length → (∀ t, r.head? = some t → x.length ≤ t.length) → Up r → r.foldl (fun h t => node (root t) h) (root x) = root (cat r ++ x)
  | [], x, _, _, _ => rfl
  | t :: r, x, hx, hh, hu => by
    obtain ⟨⟨k, hk⟩, hr, hu'⟩ := hu
    have h1 := hh t rfl
    rw [List.foldl_cons, ← root_cat t x k hk hx h1, fold_root r (t ++ x) (by rw [List.length_append]; omega) (fun u he => ?_) hu']
    · show root (cat r ++ (t ++ x)) = root ((cat r ++ t) ++ x)
      rw [List.append_assoc]
    · have h2 := hr u he
      cases r with
      | nil => simp at he
      | cons v r =>
        simp at he
        subst he
        obtain ⟨⟨i, hi⟩, _⟩ := hu'
        rw [hk, hi] at h2
        have := pow_lt h2
        rw [List.length_append]
        omega
theorem fold_all (s : List Bytes) (r : List (List Bytes)) (h : Up (s :: r)) : r.foldl (fun h t => node (root t) h) (root s) = root (cat (s :: r)) := by
  obtain ⟨⟨j, hj⟩, hr, hu⟩ := h
  exact fold_root r s (by rw [hj]; exact Nat.one_le_two_pow) (fun t ht => Nat.le_of_lt (hr t ht)) hu
/-- The last fold, as far as m parts. -/
def topFold (s : List Bytes) (r : List (List Bytes)) (m : Nat) : Bytes := (r.take m).foldl (fun h t => node (root t) h) (root s)
theorem topFold_succ (s : List Bytes) (r : List (List Bytes)) (m : Nat) (t : List Bytes) (h : r[m]? = some t) : topFold s r (m + 1) = node (root t) (topFold s r m) := by
  unfold topFold
  rw [List.take_add_one, h, List.foldl_append]
  rfl
theorem topFold_all (s : List Bytes) (r : List (List Bytes)) (h : Up (s :: r)) : topFold s r r.length = root (cat (s :: r)) := by
  unfold topFold
  rw [List.take_of_length_le (Nat.le_refl _)]
  exact fold_all s r h
theorem topFold_length (s : List Bytes) (r : List (List Bytes)) : ∀ m, (topFold s r m).length = 32 := by
  intro m
  unfold topFold
  generalize r.take m = l
  have : ∀ (l : List (List Bytes)) (x : Bytes), x.length = 32 → (l.foldl (fun h t => node (root t) h) x).length = 32 := by
    intro l
    induction l with
    | nil => intro x h; exact h
    | cons t l ih => intro x _; exact ih _ (node_length _ _)
  exact this l _ (root_length _)
theorem cat_length_top (s : List Bytes) (r : List (List Bytes)) : s.length ≤ (cat (s :: r)).length := by
  show s.length ≤ (cat r ++ s).length
  rw [List.length_append]
  omega
/-- A stack is not higher than what it covers is long. -/
theorem Up.few : ∀ {r : List (List Bytes)}, Up r → r.length ≤ (cat r).length
  | [], _ => Nat.le_refl _
  | s :: r, ⟨⟨j, hj⟩, _, hu⟩ => by
    have h1 := Up.few hu
    have h2 : 1 ≤ s.length := by rw [hj]; exact Nat.one_le_two_pow
    show r.length + 1 ≤ (cat r ++ s).length
    rw [List.length_append]
    omega
theorem Near.few {s : List Bytes} {r : List (List Bytes)} (h : Near s r) : (s :: r).length ≤ (cat (s :: r)).length := by
  obtain ⟨⟨j, hj⟩, _, hu⟩ := h
  have h1 := hu.few
  have h2 : 1 ≤ s.length := by rw [hj]; exact Nat.one_le_two_pow
  show r.length + 1 ≤ (cat r ++ s).length
  rw [List.length_append]
  omega
/-- A path, put together from its end: one round. -/
theorem path_front (l : List Bytes) (i : Nat) (out : List Bytes) (h : 2 ≤ l.length) : path l i ++ out = if i < split l.length then path (l.take (split l.length)) i ++ ([root (l.drop (split l.length))] ++ out) else path (l.drop (split l.length)) (i - split l.length) ++ ([root (l.take (split l.length))] ++ out) := by
  rw [path_more l i h]
  split <;> rw [List.append_assoc]
end Go.Proofs.YtjblnjeloimbgaaDoor.Tr
namespace Go.Proofs.YtjblnjeloimbgaaDoor
set_option linter.unusedVariables false
namespace Tr
/-- From the top down: is each part the first one; is the whole known at the end? -/
def stpF : Nat → Nat → Nat → Bool → List Bool × Bool
  | 0, _, _, q => ([], q)
  | f + 1, m, n, q => if m = n then ([], q) else if m ≤ split n then (true :: (stpF f m (split n) q).1, (stpF f m (split n) q).2) else (false :: (stpF f (m - split n) (n - split n) false).1, (stpF f (m - split n) (n - split n) false).2)
def stp (m n : Nat) (q : Bool) : List Bool × Bool := stpF 64 m n q
theorem stpF_eq (f n : Nat) (q : Bool) : stpF f n n q = ([], q) := by
  cases f with
  | zero => rfl
  | succ f => unfold stpF; rw [if_pos rfl]
theorem stp_eq (n : Nat) (q : Bool) : stp n n q = ([], q) := stpF_eq _ _ _
theorem stpF_fuel : ∀ (f m n : Nat) (q : Bool) (g : Nat), 1 ≤ m → m ≤ n → deep n ≤ f → deep n ≤ g → stpF f m n q = stpF g m n q
  | f, m, n, q, g, h1, h2, hf, hg => by
    by_cases h : m = n
    · subst h; rw [stpF_eq, stpF_eq]
    have l := deep_left (n := n) (by omega)
    have r := deep_right (n := n) (by omega)
    have a := split_pos (n := n) (by omega)
    have b := split_lt (n := n) (by omega)
    obtain ⟨f, rfl⟩ : ∃ f', f = f' + 1 := ⟨f - 1, by omega⟩
    obtain ⟨g, rfl⟩ : ∃ g', g = g' + 1 := ⟨g - 1, by omega⟩
    unfold stpF
    rw [if_neg h, if_neg h]
    split
    · rw [stpF_fuel f m _ q g h1 (by omega) (by omega) (by omega)]
    · rw [stpF_fuel f (m - split n) _ false g (by omega) (by omega) (by omega) (by omega)]
  termination_by f => f
theorem stp_more {m n : Nat} (q : Bool) (h1 : 1 ≤ m) (h2 : m < n) (hb : n ≤ 18446744073709551616) : stp m n q = if m ≤ split n then (true :: (stp m (split n) q).1, (stp m (split n) q).2) else (false :: (stp (m - split n) (n - split n) false).1, (stp (m - split n) (n - split n) false).2) := by
  have d : deep n ≤ 64 := deep_le (by simpa using hb)
  have l := deep_left (n := n) (by omega)
  have r := deep_right (n := n) (by omega)
  have a := split_pos (n := n) (by omega)
  have b := split_lt (n := n) (by omega)
  unfold stp
  show (if m = n then _ else _) = _
  rw [if_neg (by omega)]
  split
  · rw [stpF_fuel 64 m _ q 63 h1 (by omega) (by omega) (by omega)]
  · rw [stpF_fuel 64 (m - split n) _ false 63 (by omega) (by omega) (by omega) (by omega)]
theorem stp_length : ∀ (d m n : Nat) (q : Bool), deep n ≤ d → 1 ≤ m → m ≤ n → n ≤ 18446744073709551616 → (stp m n q).1.length ≤ d ∧ lng m n q = (stp m n q).1.length + (if (stp m n q).2 then 0 else 1)
  | d, m, n, q, hd, h1, h2, hb => by
    by_cases h : m = n
    · subst h
      rw [stp_eq, lng_eq]
      exact ⟨Nat.zero_le _, by simp⟩
    have l := deep_left (n := n) (by omega)
    have r := deep_right (n := n) (by omega)
    have a := split_pos (n := n) (by omega)
    have b := split_lt (n := n) (by omega)
    obtain ⟨d, rfl⟩ : ∃ d', d = d' + 1 := ⟨d - 1, by omega⟩
    rw [stp_more q h1 (by omega) hb, lng_more q h1 (by omega) hb]
    split
    · obtain ⟨x, y⟩ := stp_length d m (split n) q (by omega) h1 (by omega) (by omega)
      rw [y]
      simp only [List.length_cons]
      exact ⟨by omega, by omega⟩
    · obtain ⟨x, y⟩ := stp_length d (m - split n) (n - split n) false (by omega) (by omega) (by omega) (by omega)
      rw [y]
      simp only [List.length_cons]
      exact ⟨by omega, by omega⟩
  termination_by d => d
/-- One step up, of both roots. -/
def upp (s : Bytes × Bytes) (t : Bytes × Bool) : Bytes × Bytes := if t.2 then (s.1, node s.2 t.1) else (node t.1 s.1, node t.1 s.2)
/-- What is begun with, and what is left of the path. -/
def begun (o : Bytes) (p : List Bytes) (w : Bool) : Bytes := if w then o else p.getD 0 []
def rest (p : List Bytes) (w : Bool) : List Bytes := if w then p else p.drop 1
theorem cmd_up : ∀ (d m n : Nat) (q : Bool) (o : Bytes) (p : List Bytes), deep n ≤ d → 1 ≤ m → m ≤ n → n ≤ 18446744073709551616 → p.length = lng m n q →
    cmd m n q o p = ((rest p (stp m n q).2).zip (stp m n q).1.reverse).foldl upp (begun o p (stp m n q).2, begun o p (stp m n q).2)
  | d, m, n, q, o, p, hd, h1, h2, hb, hp => by
    by_cases h : m = n
    · subst h
      rw [cmd_eq, stp_eq, List.reverse_nil, List.zip_nil_right]
      unfold begun
      cases q <;> rfl
    have l := deep_left (n := n) (by omega)
    have r := deep_right (n := n) (by omega)
    have a := split_pos (n := n) (by omega)
    have b := split_lt (n := n) (by omega)
    obtain ⟨d, rfl⟩ : ∃ d', d = d' + 1 := ⟨d - 1, by omega⟩
    rw [lng_more q h1 (by omega) hb] at hp
    have hpos : 0 < p.length := by rw [hp]; split <;> omega
    have hsp : p = p.take (p.length - 1) ++ [p.getD (p.length - 1) []] := by
      have h1 : p.length - 1 + 1 = p.length := by omega
      have h3 : p.length - 1 < p.length := by omega
      have := List.take_succ_eq_append_getElem h3
      rw [h1, List.take_length] at this
      rw [List.getD_eq_getElem?_getD, List.getElem?_eq_getElem h3]
      exact this
    have hl : (p.take (p.length - 1)).length = p.length - 1 := by rw [List.length_take]; omega
    rw [cmd_more q o p h1 (by omega) hb, stp_more q h1 (by omega) hb]
    obtain ⟨p', hq⟩ : ∃ q, p.take (p.length - 1) = q := ⟨_, rfl⟩
    obtain ⟨x, hx⟩ : ∃ x, p.getD (p.length - 1) [] = x := ⟨_, rfl⟩
    rw [hq] at hl hsp
    rw [hx] at hsp
    rw [hq, hx, hsp]
    have key : ∀ (m' n' : Nat) (q' : Bool), deep n' ≤ d → 1 ≤ m' → m' ≤ n' → n' ≤ 18446744073709551616 → p'.length = lng m' n' q' → ∀ bit : Bool,
        ((rest (p' ++ [x]) (stp m' n' q').2).zip (bit :: (stp m' n' q').1).reverse).foldl upp (begun o (p' ++ [x]) (stp m' n' q').2, begun o (p' ++ [x]) (stp m' n' q').2) = upp (cmd m' n' q' o p') (x, bit) := by
      intro m' n' q' e1 e2 e3 e4 e5 bit
      obtain ⟨s1, s2⟩ := stp_length d m' n' q' e1 e2 e3 e4
      rw [cmd_up d m' n' q' o p' e1 e2 e3 e4 e5]
      rw [s2] at e5
      obtain ⟨⟨L, w⟩, hLw⟩ : ∃ s, stp m' n' q' = s := ⟨_, rfl⟩
      rw [hLw] at e5 ⊢
      simp only at e5 ⊢
      cases w with
      | true =>
        rw [if_pos rfl, Nat.add_zero] at e5
        show ((p' ++ [x]).zip (bit :: L).reverse).foldl upp (o, o) = upp ((p'.zip L.reverse).foldl upp (o, o)) (x, bit)
        rw [List.reverse_cons, List.zip_append (by rw [List.length_reverse]; exact e5), List.foldl_append]
        rfl
      | false =>
        rw [if_neg (by decide)] at e5
        match p', e5 with
        | y :: p2, e5 =>
          have e6 : p2.length = L.length := by simpa using e5
          show ((p2 ++ [x]).zip (bit :: L).reverse).foldl upp (y, y) = upp ((p2.zip L.reverse).foldl upp (y, y)) (x, bit)
          rw [List.reverse_cons, List.zip_append (by rw [List.length_reverse]; exact e6), List.foldl_append]
          rfl
    split
    · rename_i hk
      rw [if_pos hk] at hp
      rw [key m (split n) q (by omega) h1 hk (by omega) (by omega) true]
      rfl
    · rename_i hk
      rw [if_neg hk] at hp
      rw [key (m - split n) (n - split n) false (by omega) (by omega) (by omega) (by omega) (by omega) false]
      rfl
  termination_by d => d
/-- So far up, of both roots. -/
def uppTo (a : Bytes) (p : List Bytes) (ls : List Bool) (j : Nat) : Bytes × Bytes := ((p.zip ls.reverse).take j).foldl upp (a, a)
theorem uppTo_zero (a : Bytes) (p : List Bytes) (ls : List Bool) : uppTo a p ls 0 = (a, a) := rfl
theorem uppTo_succ (a : Bytes) (p : List Bytes) (ls : List Bool) (j : Nat) (x : Bytes) (b : Bool) (hx : p[j]? = some x) (hb : ls[ls.length - 1 - j]? = some b) (hj : j < ls.length) : uppTo a p ls (j + 1) = upp (uppTo a p ls j) (x, b) := by
  have hr : ls.reverse[j]? = some b := by rw [List.getElem?_reverse hj]; exact hb
  have hz : (p.zip ls.reverse)[j]? = some (x, b) := by rw [List.getElem?_zip_eq_some]; exact ⟨hx, hr⟩
  have hlt : j < (p.zip ls.reverse).length := (List.getElem?_eq_some_iff.1 hz).1
  unfold uppTo
  rw [List.take_succ_eq_append_getElem hlt, List.foldl_append]
  have e : (p.zip ls.reverse)[j] = (x, b) := (List.getElem?_eq_some_iff.1 hz).2
  rw [e]
  rfl
theorem uppTo_all (a : Bytes) (p : List Bytes) (ls : List Bool) (hl : p.length = ls.length) : uppTo a p ls p.length = (p.zip ls.reverse).foldl upp (a, a) := by
  unfold uppTo
  rw [List.take_of_length_le (by rw [List.length_zip, List.length_reverse]; omega)]
theorem uppTo_length (a : Bytes) (p : List Bytes) (ls : List Bool) (j : Nat) (ha : a.length = 32) : (uppTo a p ls j).1.length = 32 ∧ (uppTo a p ls j).2.length = 32 := by
  unfold uppTo
  have : ∀ (l : List (Bytes × Bool)) (s : Bytes × Bytes), s.1.length = 32 ∧ s.2.length = 32 → (l.foldl upp s).1.length = 32 ∧ (l.foldl upp s).2.length = 32 := by
    intro l
    induction l with
    | nil => intro s hs; exact hs
    | cons t l ih =>
      intro s hs
      refine ih _ ?_
      unfold upp
      split
      · exact ⟨hs.1, rfl⟩
      · exact ⟨rfl, rfl⟩
  exact this _ _ ⟨ha, ha⟩
end Tr
end Go.Proofs.YtjblnjeloimbgaaDoor
