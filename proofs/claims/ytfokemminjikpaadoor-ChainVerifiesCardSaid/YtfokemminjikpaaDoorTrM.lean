/-
  Trees of entries in plain Lean: where entries are parted, roots, paths, and what a path makes. No translation stands here.
-/
import Derived.Test.YtfokemminjikpaaDoorShaM
import Derived.Lib.BitFns
import Derived.Lib.ItoaNum
namespace Go.Proofs.YtfokemminjikpaaDoor
set_option linter.unusedVariables false
namespace Tr
abbrev Bytes := List UInt8
/-- The greatest power of two below n. -/
def split (n : Nat) : Nat := if n < 2 then 0 else 2 ^ Nat.log2 (n - 1)
theorem split_few {n : Nat} (h : n < 2) : split n = 0 := if_pos h
theorem split_pos {n : Nat} (h : 2 ≤ n) : 0 < split n := by unfold split; rw [if_neg (by omega)]; exact Nat.two_pow_pos _
theorem split_lt {n : Nat} (h : 2 ≤ n) : split n < n := by
  unfold split
  rw [if_neg (by omega)]
  have := Nat.log2_self_le (n := n - 1) (by omega)
  omega
theorem split_ge {n : Nat} (h : 2 ≤ n) : n ≤ 2 * split n := by
  unfold split
  rw [if_neg (by omega)]
  have := Nat.lt_log2_self (n := n - 1)
  rw [Nat.pow_succ] at this
  omega
theorem split_bitLen (n : Nat) (h : 2 ≤ n) (h1 : n ≤ 18446744073709551616) : split n = 2 ^ (Lib.bitLen (n - 1) - 1) ∧ 1 ≤ Lib.bitLen (n - 1) ∧ Lib.bitLen (n - 1) ≤ 64 := by
  obtain ⟨a, b, c⟩ := Lib.bitLenAux_bounds 64 (n - 1) (by omega) (by omega)
  have hL : Lib.bitLen (n - 1) ≤ 64 := Lib.bitLen_le (n - 1) 64 (Nat.le_refl _) (by omega)
  refine ⟨?_, a, hL⟩
  unfold split
  rw [if_neg (by omega)]
  congr 1
  rw [Nat.log2_eq_iff (by omega)]
  unfold Lib.bitLen
  refine ⟨b, ?_⟩
  rw [Nat.sub_add_cancel a]
  exact c
def leaf (b : Bytes) : Bytes := Sh.sha (0 :: b)
def node (x y : Bytes) : Bytes := Sh.sha (1 :: (x ++ y))
theorem leaf_length (b : Bytes) : (leaf b).length = 32 := rfl
theorem node_length (x y : Bytes) : (node x y).length = 32 := rfl
/-- The root of some entries: f is more than how many there are. -/
def rootF : Nat → List Bytes → Bytes
  | 0, _ => Sh.sha []
  | f + 1, l => if l.length = 0 then Sh.sha [] else if l.length = 1 then leaf (l.getD 0 []) else node (rootF f (l.take (split l.length))) (rootF f (l.drop (split l.length)))
def root (l : List Bytes) : Bytes := rootF l.length l
theorem rootF_length (f : Nat) (l : List Bytes) : (rootF f l).length = 32 := by
  cases f with
  | zero => rfl
  | succ f => unfold rootF; split <;> (try split) <;> rfl
theorem root_length (l : List Bytes) : (root l).length = 32 := rootF_length _ _
theorem rootF_fuel : ∀ (f : Nat) (l : List Bytes) (g : Nat), l.length ≤ f → l.length ≤ g → rootF f l = rootF g l
  | 0, l, g, hf, hg => by
    have : l = [] := List.eq_nil_of_length_eq_zero (by omega)
    subst this
    cases g <;> rfl
  | f + 1, l, 0, hf, hg => by
    have : l = [] := List.eq_nil_of_length_eq_zero (by omega)
    subst this
    rfl
  | f + 1, l, g + 1, hf, hg => by
    unfold rootF
    by_cases h0 : l.length = 0
    · rw [if_pos h0, if_pos h0]
    by_cases h1 : l.length = 1
    · rw [if_neg h0, if_neg h0, if_pos h1, if_pos h1]
    have a := split_pos (n := l.length) (by omega)
    have b := split_lt (n := l.length) (by omega)
    rw [if_neg h0, if_neg h0, if_neg h1, if_neg h1, rootF_fuel f _ g (by rw [List.length_take]; omega) (by rw [List.length_take]; omega), rootF_fuel f _ g (by rw [List.length_drop]; omega) (by rw [List.length_drop]; omega)]
theorem root_nil : root [] = Sh.sha [] := rfl
theorem root_one (b : Bytes) : root [b] = leaf b := by
  have h : root [b] = rootF (0 + 1) [b] := rfl
  rw [h]
  unfold rootF
  rw [if_neg (by show ¬ (1 = 0); omega), if_pos (by show 1 = 1; omega), List.getD_cons_zero]
theorem root_more (l : List Bytes) (h : 2 ≤ l.length) : root l = node (root (l.take (split l.length))) (root (l.drop (split l.length))) := by
  have a := split_pos h
  have b := split_lt h
  unfold root
  obtain ⟨n, hn⟩ : ∃ n, l.length = n + 1 := ⟨l.length - 1, by omega⟩
  rw [rootF_fuel (l.take (split l.length)).length _ n (Nat.le_refl _) (by rw [List.length_take]; omega), rootF_fuel (l.drop (split l.length)).length _ n (Nat.le_refl _) (by rw [List.length_drop]; omega), hn]
  show (if l.length = 0 then _ else if l.length = 1 then _ else _) = _
  rw [if_neg (by omega), if_neg (by omega), hn]
/-- The path to a place. -/
def pathF : Nat → List Bytes → Nat → List Bytes
  | 0, _, _ => []
  | f + 1, l, i => if l.length < 2 then [] else if i < split l.length then pathF f (l.take (split l.length)) i ++ [root (l.drop (split l.length))] else pathF f (l.drop (split l.length)) (i - split l.length) ++ [root (l.take (split l.length))]
def path (l : List Bytes) (i : Nat) : List Bytes := pathF l.length l i
theorem pathF_few (f : Nat) (l : List Bytes) (i : Nat) (h : l.length < 2) : pathF f l i = [] := by
  cases f with
  | zero => rfl
  | succ f => unfold pathF; rw [if_pos h]
theorem pathF_fuel : ∀ (f : Nat) (l : List Bytes) (i g : Nat), l.length ≤ f → l.length ≤ g → pathF f l i = pathF g l i
  | 0, l, i, g, hf, hg => by rw [pathF_few _ _ _ (by omega), pathF_few _ _ _ (by omega)]
  | f + 1, l, i, 0, hf, hg => by rw [pathF_few _ _ _ (by omega), pathF_few _ _ _ (by omega)]
  | f + 1, l, i, g + 1, hf, hg => by
    unfold pathF
    by_cases h1 : l.length < 2
    · rw [if_pos h1, if_pos h1]
    have a := split_pos (n := l.length) (by omega)
    have b := split_lt (n := l.length) (by omega)
    rw [if_neg h1, if_neg h1, pathF_fuel f _ _ g (by rw [List.length_take]; omega) (by rw [List.length_take]; omega), pathF_fuel f _ _ g (by rw [List.length_drop]; omega) (by rw [List.length_drop]; omega)]
theorem path_few (l : List Bytes) (i : Nat) (h : l.length < 2) : path l i = [] := pathF_few _ _ _ h
theorem path_more (l : List Bytes) (i : Nat) (h : 2 ≤ l.length) : path l i = if i < split l.length then path (l.take (split l.length)) i ++ [root (l.drop (split l.length))] else path (l.drop (split l.length)) (i - split l.length) ++ [root (l.take (split l.length))] := by
  have a := split_pos h
  have b := split_lt h
  unfold path
  obtain ⟨n, hn⟩ : ∃ n, l.length = n + 1 := ⟨l.length - 1, by omega⟩
  rw [pathF_fuel (l.take (split l.length)).length _ _ n (Nat.le_refl _) (by rw [List.length_take]; omega), pathF_fuel (l.drop (split l.length)).length _ _ n (Nat.le_refl _) (by rw [List.length_drop]; omega), hn]
  show (if l.length < 2 then _ else _) = _
  rw [if_neg (by omega), hn]
theorem path_all : ∀ (f : Nat) (l : List Bytes) (i : Nat), ∀ x ∈ pathF f l i, x.length = 32
  | 0, l, i, x, h => by cases h
  | f + 1, l, i, x, h => by
    unfold pathF at h
    split at h
    · cases h
    · split at h
      all_goals
        rcases List.mem_append.1 h with h | h
        · exact path_all f _ _ x h
        · rw [List.mem_singleton] at h; subst h; exact root_length _
/-- How many hashes a path has. -/
def stepsF : Nat → Nat → Nat → Nat
  | 0, _, _ => 0
  | f + 1, n, i => if n < 2 then 0 else if i < split n then stepsF f (split n) i + 1 else stepsF f (n - split n) (i - split n) + 1
/-- What a path makes of the hash of an entry. -/
def madeF : Nat → Nat → Nat → Bytes → List Bytes → Bytes
  | 0, _, _, h, _ => h
  | f + 1, n, i, h, p => if n < 2 then h else if i < split n then node (madeF f (split n) i h (p.take (p.length - 1))) (p.getD (p.length - 1) []) else node (p.getD (p.length - 1) []) (madeF f (n - split n) (i - split n) h (p.take (p.length - 1)))
def steps (n i : Nat) : Nat := stepsF 64 n i
def made (n i : Nat) (h : Bytes) (p : List Bytes) : Bytes := madeF 64 n i h p
/-- How deep a tree of so many is. -/
def deep (n : Nat) : Nat := if n < 2 then 0 else Nat.log2 (n - 1) + 1
theorem deep_few {n : Nat} (h : n < 2) : deep n = 0 := if_pos h
theorem deep_le {n k : Nat} (h : n ≤ 2 ^ k) : deep n ≤ k := by
  unfold deep
  split
  · omega
  · have : Nat.log2 (n - 1) < k := (Nat.log2_lt (by omega)).2 (by omega)
    omega
theorem deep_split {n : Nat} (h : 2 ≤ n) : split n = 2 ^ (deep n - 1) ∧ 1 ≤ deep n := by
  unfold split deep
  rw [if_neg (by omega), if_neg (by omega)]
  exact ⟨by rw [Nat.add_sub_cancel], by omega⟩
theorem deep_left {n : Nat} (h : 2 ≤ n) : deep (split n) + 1 ≤ deep n := by
  obtain ⟨a, b⟩ := deep_split h
  have : deep (split n) ≤ deep n - 1 := deep_le (by rw [a]; exact Nat.le_refl _)
  omega
theorem deep_right {n : Nat} (h : 2 ≤ n) : deep (n - split n) + 1 ≤ deep n := by
  obtain ⟨a, b⟩ := deep_split h
  have c := split_ge h
  have : deep (n - split n) ≤ deep n - 1 := deep_le (by rw [← a]; omega)
  omega
theorem stepsF_few (f n i : Nat) (h : n < 2) : stepsF f n i = 0 := by
  cases f with
  | zero => rfl
  | succ f => unfold stepsF; rw [if_pos h]
theorem stepsF_fuel : ∀ (f n i g : Nat), deep n ≤ f → deep n ≤ g → stepsF f n i = stepsF g n i
  | f, n, i, g, hf, hg => by
    by_cases h : n < 2
    · rw [stepsF_few _ _ _ h, stepsF_few _ _ _ h]
    have l := deep_left (n := n) (by omega)
    have r := deep_right (n := n) (by omega)
    obtain ⟨f, rfl⟩ : ∃ f', f = f' + 1 := ⟨f - 1, by omega⟩
    obtain ⟨g, rfl⟩ : ∃ g', g = g' + 1 := ⟨g - 1, by omega⟩
    unfold stepsF
    rw [if_neg h, if_neg h, stepsF_fuel f _ _ g (by omega) (by omega), stepsF_fuel f _ _ g (by omega) (by omega)]
  termination_by f => f
theorem steps_few {n : Nat} (i : Nat) (h : n < 2) : steps n i = 0 := stepsF_few _ _ _ h
theorem steps_more {n : Nat} (i : Nat) (h : 2 ≤ n) (h1 : n ≤ 18446744073709551616) : steps n i = if i < split n then steps (split n) i + 1 else steps (n - split n) (i - split n) + 1 := by
  have d : deep n ≤ 64 := deep_le (by simpa using h1)
  have l := deep_left h
  have r := deep_right h
  unfold steps
  rw [stepsF_fuel 64 (split n) i 63 (by omega) (by omega), stepsF_fuel 64 (n - split n) _ 63 (by omega) (by omega)]
  show (if n < 2 then _ else _) = _
  rw [if_neg (by omega)]
theorem steps_le (n i : Nat) : steps n i ≤ 64 := by
  have : ∀ f n i, stepsF f n i ≤ f := by
    intro f
    induction f with
    | zero => intro n i; exact Nat.le_refl _
    | succ f ih =>
      intro n i
      unfold stepsF
      have a := ih (split n) i
      have b := ih (n - split n) (i - split n)
      split
      · omega
      · split <;> omega
  exact this 64 n i
theorem madeF_few (f n i : Nat) (x : Bytes) (p : List Bytes) (h : n < 2) : madeF f n i x p = x := by
  cases f with
  | zero => rfl
  | succ f => unfold madeF; rw [if_pos h]
theorem madeF_fuel : ∀ (f n i : Nat) (x : Bytes) (p : List Bytes) (g : Nat), deep n ≤ f → deep n ≤ g → madeF f n i x p = madeF g n i x p
  | f, n, i, x, p, g, hf, hg => by
    by_cases h : n < 2
    · rw [madeF_few _ _ _ _ _ h, madeF_few _ _ _ _ _ h]
    have l := deep_left (n := n) (by omega)
    have r := deep_right (n := n) (by omega)
    obtain ⟨f, rfl⟩ : ∃ f', f = f' + 1 := ⟨f - 1, by omega⟩
    obtain ⟨g, rfl⟩ : ∃ g', g = g' + 1 := ⟨g - 1, by omega⟩
    unfold madeF
    rw [if_neg h, if_neg h, madeF_fuel f _ _ _ _ g (by omega) (by omega), madeF_fuel f _ _ _ _ g (by omega) (by omega)]
  termination_by f => f
theorem made_few {n : Nat} (i : Nat) (x : Bytes) (p : List Bytes) (h : n < 2) : made n i x p = x := madeF_few _ _ _ _ _ h
theorem made_more {n : Nat} (i : Nat) (x : Bytes) (p : List Bytes) (h : 2 ≤ n) (h1 : n ≤ 18446744073709551616) :
    made n i x p = if i < split n then node (made (split n) i x (p.take (p.length - 1))) (p.getD (p.length - 1) []) else node (p.getD (p.length - 1) []) (made (n - split n) (i - split n) x (p.take (p.length - 1))) := by
  have d : deep n ≤ 64 := deep_le (by simpa using h1)
  have l := deep_left h
  have r := deep_right h
  unfold made
  rw [madeF_fuel 64 (split n) i x _ 63 (by omega) (by omega), madeF_fuel 64 (n - split n) _ x _ 63 (by omega) (by omega)]
  show (if n < 2 then _ else _) = _
  rw [if_neg (by omega)]
theorem made_length (n i : Nat) (x : Bytes) (p : List Bytes) (hx : x.length = 32) : (made n i x p).length = 32 := by
  unfold made
  show (if n < 2 then x else if i < split n then _ else _).length = 32
  split
  · exact hx
  · split <;> rfl
/-- A path is as long as one of its place. -/
theorem path_steps : ∀ (l : List Bytes) (i : Nat), i < l.length → l.length ≤ 18446744073709551616 → (path l i).length = steps l.length i
  | l, i, hi, hb => by
    by_cases h : l.length < 2
    · rw [path_few _ _ h, steps_few _ h]; rfl
    have a := split_pos (n := l.length) (by omega)
    have b := split_lt (n := l.length) (by omega)
    have t : (l.take (split l.length)).length = split l.length := by rw [List.length_take]; omega
    have d : (l.drop (split l.length)).length = l.length - split l.length := by rw [List.length_drop]
    rw [path_more _ _ (by omega), steps_more _ (by omega) hb]
    split
    · rename_i hk
      rw [List.length_append, path_steps _ i (by omega) (by omega), t]; rfl
    · rename_i hk
      rw [List.length_append, path_steps _ (i - split l.length) (by omega) (by omega), d]; rfl
  termination_by l => l.length
/-- A path makes the root. -/
theorem path_made : ∀ (l : List Bytes) (i : Nat), i < l.length → l.length ≤ 18446744073709551616 → made l.length i (leaf (l.getD i [])) (path l i) = root l
  | l, i, hi, hb => by
    by_cases h : l.length < 2
    · match l, h with
      | [], _ => cases hi
      | [x], _ =>
        have : i = 0 := by simpa using hi
        subst this
        rw [made_few _ _ _ (by show 1 < 2; omega), root_one, List.getD_cons_zero]
      | x :: y :: l, h => simp at h; omega
    have a := split_pos (n := l.length) (by omega)
    have b := split_lt (n := l.length) (by omega)
    have t : (l.take (split l.length)).length = split l.length := by rw [List.length_take]; omega
    have d : (l.drop (split l.length)).length = l.length - split l.length := by rw [List.length_drop]
    have cut : ∀ (p : List Bytes) (x : Bytes), (p ++ [x]).take ((p ++ [x]).length - 1) = p ∧ (p ++ [x]).getD ((p ++ [x]).length - 1) [] = x := by
      intro p x
      rw [List.length_append, List.length_singleton, Nat.add_sub_cancel]
      exact ⟨by simp, by simp⟩
    rw [made_more _ _ _ (by omega) hb, root_more l (by omega), path_more _ _ (by omega)]
    split
    · rename_i hk
      have ih := path_made (l.take (split l.length)) i (by omega) (by omega)
      have g : (l.take (split l.length)).getD i [] = l.getD i [] := by
        rw [List.getD_eq_getElem?_getD, List.getD_eq_getElem?_getD, List.getElem?_take, if_pos hk]
      rw [g, t] at ih
      rw [(cut _ _).1, (cut _ _).2, ih]
    · rename_i hk
      have ih := path_made (l.drop (split l.length)) (i - split l.length) (by omega) (by omega)
      have g : (l.drop (split l.length)).getD (i - split l.length) [] = l.getD i [] := by
        rw [List.getD_eq_getElem?_getD, List.getD_eq_getElem?_getD, List.getElem?_drop]
        congr 2
        omega
      rw [g, d] at ih
      rw [(cut _ _).1, (cut _ _).2, ih]
  termination_by l => l.length
/-- The answer of Verify. -/
def verify (r : Bytes) (n i : Nat) (b : Bytes) (p : List Bytes) : Int := if n ≤ i then 15 else if p.length = steps n i then (if made n i (leaf b) p = r then 0 else 20) else 20
end Tr
end Go.Proofs.YtfokemminjikpaaDoor
