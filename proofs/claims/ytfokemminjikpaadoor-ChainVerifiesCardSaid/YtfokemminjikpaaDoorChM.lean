/-
  Proofs that a tree goes on, in plain Lean: how long they are, what they hold, what they make. No translation stands here.
-/
import Derived.Test.YtfokemminjikpaaDoorTrM
namespace Go.Proofs.YtfokemminjikpaaDoor
set_option linter.unusedVariables false
namespace Tr
theorem split_mid {n m : Nat} (h : 2 ≤ n) (h1 : split n < m) (h2 : m ≤ n) : split m = split n := by
  have a := split_pos h
  have e : ∀ k, 2 ≤ k → split k = 2 ^ Nat.log2 (k - 1) := fun k hk => by unfold split; rw [if_neg (by omega)]
  rw [e m (by omega), e n h]
  rw [e n h] at h1
  have := Nat.lt_log2_self (n := n - 1)
  congr 1
  rw [Nat.log2_eq_iff (by omega)]
  exact ⟨by omega, by omega⟩
theorem pow_le_split {n j : Nat} (h : 2 ^ j < n) : 2 ^ j ≤ split n := by
  have := Nat.two_pow_pos j
  unfold split
  rw [if_neg (by omega)]
  exact Nat.pow_le_pow_right (by omega) ((Nat.le_log2 (by omega)).2 (by omega))
/-- How many hashes a proof has. -/
def lngF : Nat → Nat → Nat → Bool → Nat
  | 0, _, _, whole => if whole then 0 else 1
  | f + 1, m, n, whole => if m = n then (if whole then 0 else 1) else if m ≤ split n then lngF f m (split n) whole + 1 else lngF f (m - split n) (n - split n) false + 1
def lng (m n : Nat) (whole : Bool) : Nat := lngF 64 m n whole
theorem lngF_eq (f n : Nat) (whole : Bool) : lngF f n n whole = if whole then 0 else 1 := by
  cases f with
  | zero => rfl
  | succ f => unfold lngF; rw [if_pos rfl]
theorem lng_eq (n : Nat) (whole : Bool) : lng n n whole = if whole then 0 else 1 := lngF_eq _ _ _
theorem lngF_fuel : ∀ (f m n : Nat) (whole : Bool) (g : Nat), 1 ≤ m → m ≤ n → deep n ≤ f → deep n ≤ g → lngF f m n whole = lngF g m n whole
  | f, m, n, whole, g, h1, h2, hf, hg => by
    by_cases h : m = n
    · subst h; rw [lngF_eq, lngF_eq]
    have l := deep_left (n := n) (by omega)
    have r := deep_right (n := n) (by omega)
    have a := split_pos (n := n) (by omega)
    have b := split_lt (n := n) (by omega)
    obtain ⟨f, rfl⟩ : ∃ f', f = f' + 1 := ⟨f - 1, by omega⟩
    obtain ⟨g, rfl⟩ : ∃ g', g = g' + 1 := ⟨g - 1, by omega⟩
    unfold lngF
    rw [if_neg h, if_neg h]
    split
    · rw [lngF_fuel f m _ whole g h1 (by omega) (by omega) (by omega)]
    · rw [lngF_fuel f (m - split n) _ false g (by omega) (by omega) (by omega) (by omega)]
  termination_by f => f
theorem lng_more {m n : Nat} (whole : Bool) (h1 : 1 ≤ m) (h2 : m < n) (hb : n ≤ 18446744073709551616) : lng m n whole = if m ≤ split n then lng m (split n) whole + 1 else lng (m - split n) (n - split n) false + 1 := by
  have d : deep n ≤ 64 := deep_le (by simpa using hb)
  have l := deep_left (n := n) (by omega)
  have r := deep_right (n := n) (by omega)
  have a := split_pos (n := n) (by omega)
  have b := split_lt (n := n) (by omega)
  unfold lng
  show (if m = n then _ else _) = _
  rw [if_neg (by omega)]
  split
  · rw [lngF_fuel 64 m _ whole 63 h1 (by omega) (by omega) (by omega)]
  · rw [lngF_fuel 64 (m - split n) _ false 63 (by omega) (by omega) (by omega) (by omega)]
theorem lng_le : ∀ (d m n : Nat) (whole : Bool), deep n ≤ d → 1 ≤ m → m ≤ n → n ≤ 18446744073709551616 → lng m n whole ≤ d + 1
  | d, m, n, whole, hd, h1, h2, hb => by
    by_cases h : m = n
    · subst h; rw [lng_eq]; split <;> omega
    have l := deep_left (n := n) (by omega)
    have r := deep_right (n := n) (by omega)
    have a := split_pos (n := n) (by omega)
    have b := split_lt (n := n) (by omega)
    obtain ⟨d, rfl⟩ : ∃ d', d = d' + 1 := ⟨d - 1, by omega⟩
    rw [lng_more whole h1 (by omega) hb]
    split
    · have := lng_le d m (split n) whole (by omega) h1 (by omega) (by omega); omega
    · have := lng_le d (m - split n) (n - split n) false (by omega) (by omega) (by omega) (by omega); omega
  termination_by d => d
theorem lng_pos {m n : Nat} (whole : Bool) (h1 : 1 ≤ m) (h2 : m < n) (hb : n ≤ 18446744073709551616) : 1 ≤ lng m n whole := by
  rw [lng_more whole h1 h2 hb]
  split <;> omega
theorem lng_pow : ∀ (d j n : Nat), deep n ≤ d → 2 ^ j ≤ n → n ≤ 18446744073709551616 → lng (2 ^ j) n true ≤ d
  | d, j, n, hd, h2, hb => by
    have h1 := Nat.two_pow_pos j
    by_cases h : 2 ^ j = n
    · rw [h, lng_eq]; exact Nat.zero_le _
    have l := deep_left (n := n) (by omega)
    have a := split_pos (n := n) (by omega)
    have b := split_lt (n := n) (by omega)
    have c := pow_le_split (j := j) (n := n) (by omega)
    obtain ⟨d, rfl⟩ : ∃ d', d = d' + 1 := ⟨d - 1, by omega⟩
    rw [lng_more true h1 (by omega) hb, if_pos c]
    have := lng_pow d j (split n) (by omega) c (by omega)
    omega
  termination_by d => d
/-- A number that has no bit with the one below is a power of two. -/
theorem pow_of_land {m : Nat} (h : 1 ≤ m) (hl : m &&& (m - 1) = 0) : ∃ j, m = 2 ^ j := by
  refine ⟨Nat.log2 m, ?_⟩
  rcases Nat.eq_or_lt_of_le (Nat.log2_self_le (n := m) (by omega)) with e | e
  · exact e.symm
  have h2 := Nat.lt_log2_self (n := m)
  have t : ∀ x, 2 ^ Nat.log2 m ≤ x → x < 2 ^ (Nat.log2 m + 1) → x.testBit (Nat.log2 m) = true := fun x a b => by
    rw [Nat.testBit_eq_decide_div_mod_eq, decide_eq_true_eq]
    have hp := Nat.two_pow_pos (Nat.log2 m)
    have : x / 2 ^ Nat.log2 m = 1 := by
      rw [Nat.pow_succ] at b
      refine Nat.le_antisymm ?_ ((Nat.le_div_iff_mul_le hp).2 (by omega))
      have := (Nat.div_lt_iff_lt_mul hp (x := x) (y := 2)).2 (by omega)
      omega
    rw [this]
  have h3 := t m (by omega) h2
  have h4 := t (m - 1) (by omega) (by omega)
  have h5 := congrArg (fun x => x.testBit (Nat.log2 m)) hl
  simp [Nat.testBit_and, h3, h4] at h5
/-- The proof that entries go on from the first m. -/
def prfF : Nat → List Bytes → Nat → Bool → List Bytes
  | 0, l, _, whole => if whole then [] else [root l]
  | f + 1, l, m, whole => if m = l.length then (if whole then [] else [root l]) else if m ≤ split l.length then prfF f (l.take (split l.length)) m whole ++ [root (l.drop (split l.length))] else prfF f (l.drop (split l.length)) (m - split l.length) false ++ [root (l.take (split l.length))]
def prf (l : List Bytes) (m : Nat) (whole : Bool) : List Bytes := prfF l.length l m whole
theorem prfF_eq (f : Nat) (l : List Bytes) (whole : Bool) : prfF f l l.length whole = if whole then [] else [root l] := by
  cases f with
  | zero => rfl
  | succ f => unfold prfF; rw [if_pos rfl]
theorem prf_eq (l : List Bytes) (whole : Bool) : prf l l.length whole = if whole then [] else [root l] := prfF_eq _ _ _
theorem prfF_fuel : ∀ (f : Nat) (l : List Bytes) (m : Nat) (whole : Bool) (g : Nat), 1 ≤ m → m ≤ l.length → l.length ≤ f → l.length ≤ g → prfF f l m whole = prfF g l m whole
  | f, l, m, whole, g, h1, h2, hf, hg => by
    by_cases h : m = l.length
    · subst h; rw [prfF_eq, prfF_eq]
    have a := split_pos (n := l.length) (by omega)
    have b := split_lt (n := l.length) (by omega)
    obtain ⟨f, rfl⟩ : ∃ f', f = f' + 1 := ⟨f - 1, by omega⟩
    obtain ⟨g, rfl⟩ : ∃ g', g = g' + 1 := ⟨g - 1, by omega⟩
    unfold prfF
    rw [if_neg h, if_neg h]
    split
    · rw [prfF_fuel f _ m whole g h1 (by rw [List.length_take]; omega) (by rw [List.length_take]; omega) (by rw [List.length_take]; omega)]
    · rw [prfF_fuel f _ (m - split l.length) false g (by omega) (by rw [List.length_drop]; omega) (by rw [List.length_drop]; omega) (by rw [List.length_drop]; omega)]
  termination_by f => f
theorem prf_more (l : List Bytes) {m : Nat} (whole : Bool) (h1 : 1 ≤ m) (h2 : m < l.length) : prf l m whole = if m ≤ split l.length then prf (l.take (split l.length)) m whole ++ [root (l.drop (split l.length))] else prf (l.drop (split l.length)) (m - split l.length) false ++ [root (l.take (split l.length))] := by
  have a := split_pos (n := l.length) (by omega)
  have b := split_lt (n := l.length) (by omega)
  obtain ⟨n, hn⟩ : ∃ n, l.length = n + 1 := ⟨l.length - 1, by omega⟩
  have e : prf l m whole = prfF (n + 1) l m whole := by unfold prf; rw [hn]
  rw [e]
  show (if m = l.length then _ else _) = _
  rw [if_neg (by omega)]
  unfold prf
  split
  · rw [prfF_fuel n _ m whole _ h1 (by rw [List.length_take]; omega) (by rw [List.length_take]; omega) (Nat.le_refl _)]
  · rw [prfF_fuel n _ (m - split l.length) false _ (by omega) (by rw [List.length_drop]; omega) (by rw [List.length_drop]; omega) (Nat.le_refl _)]
theorem prf_all : ∀ (f : Nat) (l : List Bytes) (m : Nat) (whole : Bool), ∀ x ∈ prfF f l m whole, x.length = 32
  | 0, l, m, whole, x, h => by
    unfold prfF at h
    split at h
    · cases h
    · rw [List.mem_singleton] at h; subst h; exact root_length _
  | f + 1, l, m, whole, x, h => by
    unfold prfF at h
    split at h
    · split at h
      · cases h
      · rw [List.mem_singleton] at h; subst h; exact root_length _
    · split at h
      all_goals
        rcases List.mem_append.1 h with h | h
        · exact prf_all f _ _ _ x h
        · rw [List.mem_singleton] at h; subst h; exact root_length _
theorem prf_long : ∀ (l : List Bytes) (m : Nat) (whole : Bool), 1 ≤ m → m ≤ l.length → l.length ≤ 18446744073709551616 → (prf l m whole).length = lng m l.length whole
  | l, m, whole, h1, h2, hb => by
    by_cases h : m = l.length
    · subst h; rw [prf_eq, lng_eq]; split <;> rfl
    have a := split_pos (n := l.length) (by omega)
    have b := split_lt (n := l.length) (by omega)
    have t : (l.take (split l.length)).length = split l.length := by rw [List.length_take]; omega
    have d : (l.drop (split l.length)).length = l.length - split l.length := by rw [List.length_drop]
    rw [prf_more l whole h1 (by omega), lng_more whole h1 (by omega) hb]
    split
    · rw [List.length_append, prf_long _ m whole h1 (by omega) (by omega), t]; rfl
    · rw [List.length_append, prf_long _ (m - split l.length) false (by omega) (by omega) (by omega), d]; rfl
  termination_by l => l.length
theorem prf_few (l : List Bytes) (m : Nat) (whole : Bool) (h1 : 1 ≤ m) (h2 : m ≤ l.length) : (prf l m whole).length ≤ l.length := by
  have : ∀ (n : Nat) (l : List Bytes) (m : Nat) (whole : Bool), l.length ≤ n → 1 ≤ m → m ≤ l.length → (prf l m whole).length ≤ l.length := by
    intro n
    induction n with
    | zero => intro l m whole h0 h1 h2; omega
    | succ n ih =>
      intro l m whole h0 h1 h2
      by_cases h : m = l.length
      · subst h; rw [prf_eq]; split <;> simp <;> omega
      have a := split_pos (n := l.length) (by omega)
      have b := split_lt (n := l.length) (by omega)
      have t : (l.take (split l.length)).length = split l.length := by rw [List.length_take]; omega
      have d : (l.drop (split l.length)).length = l.length - split l.length := by rw [List.length_drop]
      rw [prf_more l whole h1 (by omega)]
      split
      · have := ih (l.take (split l.length)) m whole (by omega) h1 (by omega)
        rw [List.length_append, List.length_singleton]; omega
      · have := ih (l.drop (split l.length)) (m - split l.length) false (by omega) (by omega) (by omega)
        rw [List.length_append, List.length_singleton]; omega
  exact this l.length l m whole (Nat.le_refl _) h1 h2
/-- The two roots that a proof makes. -/
def cmdF : Nat → Nat → Nat → Bool → Bytes → List Bytes → Bytes × Bytes
  | 0, _, _, whole, o, p => if whole then (o, o) else (p.getD 0 [], p.getD 0 [])
  | f + 1, m, n, whole, o, p => if m = n then (if whole then (o, o) else (p.getD 0 [], p.getD 0 [])) else if m ≤ split n then ((cmdF f m (split n) whole o (p.take (p.length - 1))).1, node (cmdF f m (split n) whole o (p.take (p.length - 1))).2 (p.getD (p.length - 1) [])) else (node (p.getD (p.length - 1) []) (cmdF f (m - split n) (n - split n) false o (p.take (p.length - 1))).1, node (p.getD (p.length - 1) []) (cmdF f (m - split n) (n - split n) false o (p.take (p.length - 1))).2)
def cmd (m n : Nat) (whole : Bool) (o : Bytes) (p : List Bytes) : Bytes × Bytes := cmdF 64 m n whole o p
theorem cmdF_eq (f n : Nat) (whole : Bool) (o : Bytes) (p : List Bytes) : cmdF f n n whole o p = if whole then (o, o) else (p.getD 0 [], p.getD 0 []) := by
  cases f with
  | zero => rfl
  | succ f => unfold cmdF; rw [if_pos rfl]
theorem cmd_eq (n : Nat) (whole : Bool) (o : Bytes) (p : List Bytes) : cmd n n whole o p = if whole then (o, o) else (p.getD 0 [], p.getD 0 []) := cmdF_eq _ _ _ _ _
theorem cmdF_fuel : ∀ (f m n : Nat) (whole : Bool) (o : Bytes) (p : List Bytes) (g : Nat), 1 ≤ m → m ≤ n → deep n ≤ f → deep n ≤ g → cmdF f m n whole o p = cmdF g m n whole o p
  | f, m, n, whole, o, p, g, h1, h2, hf, hg => by
    by_cases h : m = n
    · subst h; rw [cmdF_eq, cmdF_eq]
    have l := deep_left (n := n) (by omega)
    have r := deep_right (n := n) (by omega)
    have a := split_pos (n := n) (by omega)
    have b := split_lt (n := n) (by omega)
    obtain ⟨f, rfl⟩ : ∃ f', f = f' + 1 := ⟨f - 1, by omega⟩
    obtain ⟨g, rfl⟩ : ∃ g', g = g' + 1 := ⟨g - 1, by omega⟩
    unfold cmdF
    rw [if_neg h, if_neg h]
    split
    · rw [cmdF_fuel f m _ whole o _ g h1 (by omega) (by omega) (by omega)]
    · rw [cmdF_fuel f (m - split n) _ false o _ g (by omega) (by omega) (by omega) (by omega)]
  termination_by f => f
theorem cmd_more {m n : Nat} (whole : Bool) (o : Bytes) (p : List Bytes) (h1 : 1 ≤ m) (h2 : m < n) (hb : n ≤ 18446744073709551616) :
    cmd m n whole o p = if m ≤ split n then ((cmd m (split n) whole o (p.take (p.length - 1))).1, node (cmd m (split n) whole o (p.take (p.length - 1))).2 (p.getD (p.length - 1) [])) else (node (p.getD (p.length - 1) []) (cmd (m - split n) (n - split n) false o (p.take (p.length - 1))).1, node (p.getD (p.length - 1) []) (cmd (m - split n) (n - split n) false o (p.take (p.length - 1))).2) := by
  have d : deep n ≤ 64 := deep_le (by simpa using hb)
  have l := deep_left (n := n) (by omega)
  have r := deep_right (n := n) (by omega)
  have a := split_pos (n := n) (by omega)
  have b := split_lt (n := n) (by omega)
  unfold cmd
  show (if m = n then _ else _) = _
  rw [if_neg (by omega)]
  split
  · rw [cmdF_fuel 64 m _ whole o _ 63 h1 (by omega) (by omega) (by omega)]
  · rw [cmdF_fuel 64 (m - split n) _ false o _ 63 (by omega) (by omega) (by omega) (by omega)]
theorem cmd_length : ∀ (d m n : Nat) (whole : Bool) (o : Bytes) (p : List Bytes), deep n ≤ d → 1 ≤ m → m ≤ n → n ≤ 18446744073709551616 → o.length = 32 → (∀ x ∈ p, x.length = 32) → p.length = lng m n whole → (cmd m n whole o p).1.length = 32 ∧ (cmd m n whole o p).2.length = 32
  | d, m, n, whole, o, p, hd, h1, h2, hb, ho, hp, hl => by
    by_cases h : m = n
    · subst h
      rw [lng_eq] at hl
      rw [cmd_eq]
      cases whole with
      | true => exact ⟨ho, ho⟩
      | false =>
        match p, hl with
        | [x], _ => exact ⟨hp x (by simp), hp x (by simp)⟩
    have l := deep_left (n := n) (by omega)
    have r := deep_right (n := n) (by omega)
    have a := split_pos (n := n) (by omega)
    have b := split_lt (n := n) (by omega)
    obtain ⟨d, rfl⟩ : ∃ d', d = d' + 1 := ⟨d - 1, by omega⟩
    rw [lng_more whole h1 (by omega) hb] at hl
    rw [cmd_more whole o p h1 (by omega) hb]
    split
    · rename_i hk
      rw [if_pos hk] at hl
      exact ⟨(cmd_length d m (split n) whole o _ (by omega) h1 hk (by omega) ho (fun x hx => hp x (List.mem_of_mem_take hx)) (by rw [List.length_take]; omega)).1, rfl⟩
    · exact ⟨rfl, rfl⟩
  termination_by d => d
/-- A proof makes both roots. -/
theorem prf_made : ∀ (l : List Bytes) (m : Nat) (whole : Bool) (o : Bytes), 1 ≤ m → m ≤ l.length → l.length ≤ 18446744073709551616 → (whole = true → o = root (l.take m)) → cmd m l.length whole o (prf l m whole) = (root (l.take m), root l)
  | l, m, whole, o, h1, h2, hb, ho => by
    by_cases h : m = l.length
    · subst h
      rw [cmd_eq, prf_eq, List.take_length]
      cases whole with
      | true => rw [if_pos rfl, ho rfl, List.take_length]
      | false => rfl
    have a := split_pos (n := l.length) (by omega)
    have b := split_lt (n := l.length) (by omega)
    have t : (l.take (split l.length)).length = split l.length := by rw [List.length_take]; omega
    have d : (l.drop (split l.length)).length = l.length - split l.length := by rw [List.length_drop]
    have cut : ∀ (p : List Bytes) (x : Bytes), (p ++ [x]).take ((p ++ [x]).length - 1) = p ∧ (p ++ [x]).getD ((p ++ [x]).length - 1) [] = x := by
      intro p x
      rw [List.length_append, List.length_singleton, Nat.add_sub_cancel]
      exact ⟨by simp, by simp⟩
    have hr := root_more l (by omega)
    rw [cmd_more whole o _ h1 (by omega) hb, prf_more l whole h1 (by omega)]
    split
    · rename_i hk
      have ih := prf_made (l.take (split l.length)) m whole o h1 (by omega) (by omega) (fun hw => by rw [ho hw, List.take_take, Nat.min_eq_left hk])
      rw [t, List.take_take, Nat.min_eq_left hk] at ih
      rw [(cut _ _).1, (cut _ _).2, ih, hr]
    · rename_i hk
      have ih := prf_made (l.drop (split l.length)) (m - split l.length) false o (by omega) (by omega) (by omega) (fun hw => by cases hw)
      rw [d] at ih
      have hm := root_more (l.take m) (by rw [List.length_take]; omega)
      have lm : (l.take m).length = m := by rw [List.length_take]; omega
      rw [lm, split_mid (n := l.length) (m := m) (by omega) (by omega) (by omega), List.take_take, Nat.min_eq_left (by omega), List.drop_take] at hm
      rw [(cut _ _).1, (cut _ _).2, ih, hr, hm]
  termination_by l => l.length
/-- The answer of Long, and of Verify. -/
def clong (m n : Nat) : Nat := if m < 1 ∨ n < m then 0 else lng m n true
def cverify (m : Nat) (o : Bytes) (n : Nat) (r : Bytes) (p : List Bytes) : Int := if m < 1 ∨ n < m then 15 else if p.length = lng m n true then (if (cmd m n true o p).1 = o ∧ (cmd m n true o p).2 = r then 0 else 20) else 20
theorem prf_one : ∀ (l : List Bytes), 1 ≤ l.length → prf l 1 true = path l 0
  | l, h1 => by
    by_cases h : 1 = l.length
    · rw [path_few _ _ (by omega)]
      have := prf_eq l true
      rw [← h] at this
      exact this
    have a := split_pos (n := l.length) (by omega)
    have b := split_lt (n := l.length) (by omega)
    rw [prf_more l true (Nat.le_refl _) (by omega), path_more l 0 (by omega), if_pos (by omega), if_pos a, prf_one (l.take (split l.length)) (by rw [List.length_take]; omega)]
  termination_by l => l.length
  decreasing_by
    have a := split_pos (n := l.length) (by omega)
    have b := split_lt (n := l.length) (by omega)
    rw [List.length_take]; omega
end Tr
end Go.Proofs.YtfokemminjikpaaDoor
