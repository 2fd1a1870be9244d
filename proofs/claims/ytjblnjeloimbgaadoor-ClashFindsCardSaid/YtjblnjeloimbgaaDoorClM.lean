/-
  Plain narrow hashes, the rows of proofs, and what two of them show.
-/
import Derived.Test.YtjblnjeloimbgaaDoorTrM
namespace Go.Proofs.YtjblnjeloimbgaaDoor
namespace Cl
abbrev Bytes := List UInt8

/-- A hash of which so many bytes count alone. -/
def cut (k : Nat) (h : Bytes) : Bytes := h.take k ++ List.replicate (h.length - k) 0
theorem cut_length (k : Nat) (h : Bytes) : (cut k h).length = h.length := by
  unfold cut; rw [List.length_append, List.length_take, List.length_replicate]; omega
theorem cut_all (k : Nat) (h : Bytes) (hk : h.length ≤ k) : cut k h = h := by
  unfold cut
  rw [List.take_of_length_le hk, Nat.sub_eq_zero_of_le hk]
  simp
theorem cut_get (k : Nat) (h : Bytes) (i : Nat) (hi : i < h.length) : (cut k h)[i]? = some (if i < k then h.getD i 0 else 0) := by
  unfold cut
  by_cases hk : i < k
  · rw [if_pos hk, List.getElem?_append_left (by rw [List.length_take]; omega), List.getElem?_take, if_pos hk, List.getD_eq_getElem?_getD, List.getElem?_eq_getElem hi]
    rfl
  · rw [if_neg hk, List.getElem?_append_right (by rw [List.length_take]; omega), List.length_take, List.getElem?_replicate, if_pos (by omega)]
theorem cut_cut (j k : Nat) (h : Bytes) : cut j (cut k h) = cut (min j k) h := by
  apply List.ext_getElem?
  intro i
  by_cases hi : i < h.length
  · rw [cut_get j _ i (by rw [cut_length]; exact hi), cut_get (min j k) h i hi, List.getD_eq_getElem?_getD, cut_get k h i hi]
    by_cases h1 : i < j <;> by_cases h2 : i < k <;> simp [h1, h2, Nat.lt_min]
  · rw [List.getElem?_eq_none (by rw [cut_length, cut_length]; omega), List.getElem?_eq_none (by rw [cut_length]; omega)]
theorem cut_none (h : Bytes) : cut 0 h = List.replicate h.length 0 := by unfold cut; simp
/-- How many bytes count. -/
def wid (w : Int) : Nat := (min (max w 0) 32).toNat
theorem wid_le (w : Int) : wid w ≤ 32 := by unfold wid; omega
theorem wid_int (w : Int) : min (max w 0) 32 = ((wid w : Nat) : Int) := by unfold wid; omega
/-- The narrow hash of a row. -/
def nar (k : Nat) (row : Bytes) : Bytes := cut k (Sh.sha row)
theorem nar_length (k : Nat) (row : Bytes) : (nar k row).length = 32 := cut_length _ _
theorem nar_wide (row : Bytes) : nar 32 row = Sh.sha row := cut_all _ _ (Nat.le_refl _)
def leafRow (e : Bytes) : Bytes := 0 :: e
def nodeRow (left : Bool) (m b : Bytes) : Bytes := 1 :: (if left then m ++ b else b ++ m)
theorem nodeRow_length (left : Bool) (m b : Bytes) (hm : m.length = 32) (hb : b.length = 32) : (nodeRow left m b).length = 65 := by unfold nodeRow; cases left <;> simp [hm, hb]
theorem nodeRow_inj {left : Bool} {m b m' b' : Bytes} (h : nodeRow left m b = nodeRow left m' b') (hm : m.length = 32) (hb : b.length = 32) (hm' : m'.length = 32) (hb' : b'.length = 32) : m = m' ∧ b = b' := by
  unfold nodeRow at h
  have h := (List.cons.inj h).2
  cases left
  · have h := List.append_inj (show b ++ m = b' ++ m' from h) (by omega); exact ⟨h.2, h.1⟩
  · exact List.append_inj (show m ++ b = m' ++ b' from h) (by omega)
/-- A step up. -/
def step (k : Nat) (h : Bytes) (s : Bytes × Bool) : Bytes := nar k (nodeRow s.2 h s.1)
def rowsOf (k : Nat) : Bytes → List (Bytes × Bool) → List Bytes
  | _, [] => []
  | h, s :: l => nodeRow s.2 h s.1 :: rowsOf k (step k h s) l
def rootOf (k : Nat) (h : Bytes) (l : List (Bytes × Bool)) : Bytes := l.foldl (step k) h
/-- The old root goes along, where what is beside stands on the left. -/
def oldStep (k : Nat) (h : Bytes) (s : Bytes × Bool) : Bytes := if s.2 then h else nar k (nodeRow false h s.1)
def oldOf (k : Nat) (h : Bytes) (l : List (Bytes × Bool)) : Bytes := l.foldl (oldStep k) h
theorem rootOf_snoc (k : Nat) (h : Bytes) (l : List (Bytes × Bool)) (s : Bytes × Bool) : rootOf k h (l ++ [s]) = step k (rootOf k h l) s := by simp [rootOf]
theorem oldOf_snoc (k : Nat) (h : Bytes) (l : List (Bytes × Bool)) (s : Bytes × Bool) : oldOf k h (l ++ [s]) = oldStep k (oldOf k h l) s := by simp [oldOf]
theorem rowsOf_snoc (k : Nat) : ∀ (l : List (Bytes × Bool)) (h : Bytes) (s : Bytes × Bool), rowsOf k h (l ++ [s]) = rowsOf k h l ++ [nodeRow s.2 (rootOf k h l) s.1]
  | [], h, s => rfl
  | t :: l, h, s => by
    show _ :: rowsOf k (step k h t) (l ++ [s]) = _ :: (rowsOf k (step k h t) l ++ _)
    rw [rowsOf_snoc k l]
    rfl
theorem rowsOf_length (k : Nat) : ∀ (l : List (Bytes × Bool)) (h : Bytes), (rowsOf k h l).length = l.length
  | [], h => rfl
  | t :: l, h => by show (rowsOf k (step k h t) l).length + 1 = _; rw [rowsOf_length k l]; rfl
theorem rootOf_length (k : Nat) (h : Bytes) (l : List (Bytes × Bool)) (hh : h.length = 32) : (rootOf k h l).length = 32 := by
  unfold rootOf
  induction l generalizing h with
  | nil => exact hh
  | cons s l ih => exact ih _ (nar_length _ _)
theorem oldOf_length (k : Nat) (h : Bytes) (l : List (Bytes × Bool)) (hh : h.length = 32) : (oldOf k h l).length = 32 := by
  unfold oldOf
  induction l generalizing h with
  | nil => exact hh
  | cons s l ih => exact ih _ (by unfold oldStep; split; exact hh; exact nar_length _ _)
theorem take_zip (p : List Bytes) (bs : List Bool) (j : Nat) (x : Bytes) (b : Bool) (hx : p[j]? = some x) (hb : bs[j]? = some b) : (p.zip bs).take (j + 1) = (p.zip bs).take j ++ [(x, b)] := by
  have hz : (p.zip bs)[j]? = some (x, b) := by rw [List.getElem?_zip_eq_some]; exact ⟨hx, hb⟩
  rw [List.take_add_one, hz]
  rfl
/-- The two rows of the highest step whose rows are different: rows from above. -/
def highR : List Bytes → List Bytes → Bytes × Bytes
  | x :: l, y :: m => if x = y then highR l m else (x, y)
  | _, _ => ([], [])
def high (p q : List Bytes) : Bytes × Bytes := highR p.reverse q.reverse
theorem high_snoc (p q : List Bytes) (x y : Bytes) : high (p ++ [x]) (q ++ [y]) = if x = y then high p q else (x, y) := by
  unfold high
  rw [List.reverse_append, List.reverse_append]
  rfl
theorem high_nil : high [] [] = ([], []) := rfl
/-- Two different rows of one hash. -/
def Good (k : Nat) (c : Bytes × Bytes) : Prop := c.1 ≠ c.2 ∧ nar k c.1 = nar k c.2
theorem high_rows (k : Nat) (r r' : List Bytes) : ∀ (n : Nat) (z z' : List (Bytes × Bool)) (h h' : Bytes), z.length = n → z.map (·.2) = z'.map (·.2) → (∀ s ∈ z, s.1.length = 32) → (∀ s ∈ z', s.1.length = 32) → h.length = 32 → h'.length = 32 → rootOf k h z = rootOf k h' z' →
    (h = h' → z = z' → Good k (high r r')) → (h ≠ h' → z = [] → Good k (high r r')) → Good k (high (r ++ rowsOf k h z) (r' ++ rowsOf k h' z'))
  | 0, z, z', h, h', hn, hm, _, _, _, _, hr, hg, hg2 => by
    have e : z = [] := List.eq_nil_of_length_eq_zero hn
    subst e
    have e' : z' = [] := by
      cases z' with
      | nil => rfl
      | cons s l => simp at hm
    subst e'
    simp only [rowsOf, List.append_nil]
    by_cases e : h = h'
    · exact hg e rfl
    · exact hg2 e rfl
  | n + 1, z, z', h, h', hn, hm, h1, h2, hh, hh', hr, hg, hg2 => by
    have hl : z'.length = n + 1 := by have := congrArg List.length hm; simp at this; omega
    obtain ⟨z0, s, rfl⟩ : ∃ l s, z = l ++ [s] := ⟨_, _, (List.dropLast_concat_getLast (by intro e; subst e; simp at hn)).symm⟩
    obtain ⟨z1, t, rfl⟩ : ∃ l s, z' = l ++ [s] := ⟨_, _, (List.dropLast_concat_getLast (by intro e; subst e; simp at hl)).symm⟩
    have hn0 : z0.length = n := by simpa using hn
    have hn1 : z1.length = n := by simpa using hl
    simp only [List.map_append, List.map_cons, List.map_nil] at hm
    obtain ⟨hm0, hm1⟩ := List.append_inj' hm rfl
    have hst : s.2 = t.2 := (List.cons.inj hm1).1
    rw [rowsOf_snoc, rowsOf_snoc, ← List.append_assoc, ← List.append_assoc, high_snoc]
    rw [rootOf_snoc, rootOf_snoc] at hr
    split
    · rename_i hx
      rw [← hst] at hx
      obtain ⟨e1, e2⟩ := nodeRow_inj hx (rootOf_length _ _ _ hh) (h1 s (by simp)) (rootOf_length _ _ _ hh') (h2 t (by simp))
      have est : s = t := Prod.ext e2 hst
      subst est
      refine high_rows k r r' n z0 z1 h h' hn0 hm0 (fun x hx => h1 x (by simp [hx])) (fun x hx => h2 x (by simp [hx])) hh hh' e1 (fun a b => hg a (by rw [b])) (fun a b => ?_)
      subst b
      have : z1 = [] := List.eq_nil_of_length_eq_zero (by rw [hn1, ← hn0]; rfl)
      subst this
      exact absurd e1 a
    · rename_i hx
      exact ⟨hx, hr⟩
theorem high_path (k : Nat) (a b : Bytes) (z z' : List (Bytes × Bool)) (hm : z.map (·.2) = z'.map (·.2)) (h1 : ∀ s ∈ z, s.1.length = 32) (h2 : ∀ s ∈ z', s.1.length = 32)
    (hr : rootOf k (nar k (leafRow a)) z = rootOf k (nar k (leafRow b)) z') (hab : a ≠ b) : Good k (high (leafRow a :: rowsOf k (nar k (leafRow a)) z) (leafRow b :: rowsOf k (nar k (leafRow b)) z')) := by
  have hne : leafRow a ≠ leafRow b := fun e => hab (List.cons.inj e).2
  have hh : high [leafRow a] [leafRow b] = (leafRow a, leafRow b) := by show (if leafRow a = leafRow b then _ else _) = _; rw [if_neg hne]
  refine high_rows k [leafRow a] [leafRow b] z.length z z' _ _ rfl hm h1 h2 (nar_length _ _) (nar_length _ _) hr (fun e _ => ?_) (fun e ez => ?_)
  · rw [hh]; exact ⟨hne, e⟩
  · subst ez
    have : z' = [] := by
      cases z' with
      | nil => rfl
      | cons s l => simp at hm
    subst this
    exact absurd hr e
theorem high_chain (k : Nat) (h h' : Bytes) (z z' : List (Bytes × Bool)) (hm : z.map (·.2) = z'.map (·.2)) (h1 : ∀ s ∈ z, s.1.length = 32) (h2 : ∀ s ∈ z', s.1.length = 32) (hh : h.length = 32) (hh' : h'.length = 32)
    (hr : rootOf k h z = rootOf k h' z') (hab : oldOf k h z ≠ oldOf k h' z') : Good k (high (rowsOf k h z) (rowsOf k h' z')) := by
  refine high_rows k [] [] z.length z z' _ _ rfl hm h1 h2 hh hh' hr (fun e ez => absurd (by rw [e, ez]) hab) (fun e ez => ?_)
  subst ez
  have : z' = [] := by
    cases z' with
    | nil => rfl
    | cons s l => simp at hm
  subst this
  exact absurd hr e
/-! ### Whole hashes: the trees' own -/
theorem step_wide (h : Bytes) (s : Bytes × Bool) : step 32 h s = Tr.up h s := by
  unfold step Tr.up nodeRow
  rw [nar_wide]
  split <;> rfl
theorem root_wide (h : Bytes) (z : List (Bytes × Bool)) : rootOf 32 h z = z.foldl Tr.up h := by
  unfold rootOf
  induction z generalizing h with
  | nil => rfl
  | cons s z ih => simp only [List.foldl_cons]; rw [step_wide, ih]
theorem made_wide (n i : Nat) (e : Bytes) (p : List Bytes) (hn : n ≤ 18446744073709551615) (hp : p.length = Tr.steps n i) : rootOf 32 (nar 32 (leafRow e)) (p.zip (Tr.lefts n i).reverse) = Tr.made n i (Tr.leaf e) p := by
  rw [root_wide, nar_wide, Tr.made_up _ n i (Tr.leaf e) p (Nat.le_refl _) (by omega) hp]
  rfl
theorem upp_wide (z : List (Bytes × Bool)) : ∀ a b : Bytes, z.foldl Tr.upp (a, b) = (oldOf 32 a z, rootOf 32 b z) := by
  induction z with
  | nil => intro a b; rfl
  | cons s z ih =>
    intro a b
    rw [List.foldl_cons]
    have : Tr.upp (a, b) s = (oldStep 32 a s, step 32 b s) := by
      unfold Tr.upp oldStep step nodeRow
      cases h : s.2
      · simp [nar_wide]; exact ⟨rfl, rfl⟩
      · simp [nar_wide]; rfl
    rw [this, ih]
    rfl
/-- The two roots that a proof makes. -/
def begun (o : Bytes) (p : List Bytes) (w : Bool) : Bytes := Tr.begun o p w
theorem cmd_wide (m n : Nat) (o : Bytes) (p : List Bytes) (h1 : 1 ≤ m) (h2 : m ≤ n) (hn : n ≤ 18446744073709551615) (hp : p.length = Tr.lng m n true) :
    Tr.cmd m n true o p = (oldOf 32 (Tr.begun o p (Tr.stp m n true).2) ((Tr.rest p (Tr.stp m n true).2).zip (Tr.stp m n true).1.reverse), rootOf 32 (Tr.begun o p (Tr.stp m n true).2) ((Tr.rest p (Tr.stp m n true).2).zip (Tr.stp m n true).1.reverse)) := by
  rw [Tr.cmd_up _ m n true o p (Nat.le_refl _) h1 h2 (by omega) hp, upp_wide]
/-! ### What one goes down by -/
/-- Steps down to a part of which 'there' says that it is far enough, the uppermost first. -/
def downF (there : Nat → Nat → Bool) : Nat → Nat → Nat → List Bool
  | 0, _, _ => []
  | f + 1, n, i => if there n i then [] else decide (i < Tr.split n) :: (if i < Tr.split n then downF there f (Tr.split n) i else downF there f (n - Tr.split n) (i - Tr.split n))
def down (there : Nat → Nat → Bool) (n i : Nat) : List Bool := downF there 64 n i
/-- One entry is far enough. -/
def Ends (there : Nat → Nat → Bool) : Prop := there 1 0 = true
theorem downF_fuel (there : Nat → Nat → Bool) (ht : Ends there) : ∀ (f n i g : Nat), i < n → Tr.deep n ≤ f → Tr.deep n ≤ g → downF there f n i = downF there g n i
  | f, n, i, g, hi, hf, hg => by
    rcases Nat.lt_or_ge n 2 with h | h
    · obtain rfl : n = 1 := by omega
      obtain rfl : i = 0 := by omega
      have e : ∀ f, downF there f 1 0 = [] := fun f => by
        cases f with
        | zero => rfl
        | succ f => unfold downF; exact if_pos ht
      rw [e, e]
    have l := Tr.deep_left h
    have r := Tr.deep_right h
    have a := Tr.split_pos h
    have b := Tr.split_lt h
    obtain ⟨f, rfl⟩ : ∃ f', f = f' + 1 := ⟨f - 1, by omega⟩
    obtain ⟨g, rfl⟩ : ∃ g', g = g' + 1 := ⟨g - 1, by omega⟩
    unfold downF
    by_cases hik : i < Tr.split n
    · rw [if_pos hik, if_pos hik, downF_fuel there ht f (Tr.split n) i g hik (by omega) (by omega)]
    · rw [if_neg hik, if_neg hik, downF_fuel there ht f (n - Tr.split n) (i - Tr.split n) g (by omega) (by omega) (by omega)]
  termination_by f => f
theorem down_there {there : Nat → Nat → Bool} {n i : Nat} (h : there n i = true) : down there n i = [] := by unfold down downF; rw [if_pos h]
theorem down_more {there : Nat → Nat → Bool} (ht : Ends there) {n i : Nat} (h : there n i = false) (hi : i < n) (hn : n ≤ 18446744073709551615) :
    2 ≤ n ∧ down there n i = decide (i < Tr.split n) :: (if i < Tr.split n then down there (Tr.split n) i else down there (n - Tr.split n) (i - Tr.split n)) := by
  have h2 : 2 ≤ n := by
    rcases Nat.lt_or_ge n 2 with h' | h'
    · obtain rfl : n = 1 := by omega
      obtain rfl : i = 0 := by omega
      rw [ht] at h; cases h
    · exact h'
  have d : Tr.deep n ≤ 64 := Tr.deep_le (by omega)
  have l := Tr.deep_left h2
  have r := Tr.deep_right h2
  have a := Tr.split_pos h2
  have b := Tr.split_lt h2
  refine ⟨h2, ?_⟩
  unfold down
  show (if there n i = true then _ else _) = _
  rw [if_neg (by rw [h]; decide)]
  by_cases hik : i < Tr.split n
  · rw [if_pos hik, if_pos hik, downF_fuel there ht 63 (Tr.split n) i 64 hik (by omega) (by omega)]
  · rw [if_neg hik, if_neg hik, downF_fuel there ht 63 (n - Tr.split n) (i - Tr.split n) 64 (by omega) (by omega) (by omega)]
theorem down_length {there : Nat → Nat → Bool} (ht : Ends there) : ∀ (d n i : Nat), Tr.deep n ≤ d → i < n → n ≤ 18446744073709551615 → (down there n i).length ≤ d
  | d, n, i, hd, hi, hn => by
    cases h : there n i with
    | true => rw [down_there h]; exact Nat.zero_le _
    | false =>
      obtain ⟨h2, e⟩ := down_more ht h hi hn
      have l := Tr.deep_left h2
      have r := Tr.deep_right h2
      have a := Tr.split_pos h2
      have b := Tr.split_lt h2
      obtain ⟨d, rfl⟩ : ∃ d', d = d' + 1 := ⟨d - 1, by omega⟩
      rw [e, List.length_cons]
      split
      · rename_i hik
        have := down_length ht d (Tr.split n) i (by omega) hik (by omega)
        omega
      · have := down_length ht d (n - Tr.split n) (i - Tr.split n) (by omega) (by omega) (by omega)
        omega
  termination_by d => d
/-- One entry. -/
def one (n _ : Nat) : Bool := decide (n = 1)
theorem one_ends : Ends one := rfl
theorem down_one : ∀ (d n i : Nat), Tr.deep n ≤ d → i < n → n ≤ 18446744073709551615 → down one n i = Tr.lefts n i
  | d, n, i, hd, hi, hn => by
    rcases Nat.lt_or_ge n 2 with h | h2
    · obtain rfl : n = 1 := by omega
      rw [down_there (show one 1 i = true from rfl), Tr.lefts_few _ (by omega)]
    · obtain ⟨_, e⟩ := down_more one_ends (n := n) (i := i) (by unfold one; simp; omega) hi hn
      have l := Tr.deep_left h2
      have r := Tr.deep_right h2
      have a := Tr.split_pos h2
      have b := Tr.split_lt h2
      obtain ⟨d, rfl⟩ : ∃ d', d = d' + 1 := ⟨d - 1, by omega⟩
      rw [e, Tr.lefts_more i h2 (by omega)]
      split
      · rename_i hik
        rw [down_one d (Tr.split n) i (by omega) hik (by omega)]
      · rw [down_one d (n - Tr.split n) (i - Tr.split n) (by omega) (by omega) (by omega)]
  termination_by d => d
/-- A part of old entries alone: its last one is the last old one. -/
def last (n i : Nat) : Bool := decide (i = n - 1)
theorem last_ends : Ends last := rfl
theorem down_last : ∀ (d m n : Nat) (q : Bool), Tr.deep n ≤ d → 1 ≤ m → m ≤ n → n ≤ 18446744073709551615 → down last n (m - 1) = (Tr.stp m n q).1
  | d, m, n, q, hd, h1, h2, hn => by
    by_cases h : m = n
    · subst h
      rw [down_there (show last m (m - 1) = true by unfold last; simp), Tr.stp_eq]
    · obtain ⟨g2, e⟩ := down_more last_ends (n := n) (i := m - 1) (by unfold last; simp; omega) (by omega) hn
      have l := Tr.deep_left g2
      have r := Tr.deep_right g2
      have a := Tr.split_pos g2
      have b := Tr.split_lt g2
      obtain ⟨d, rfl⟩ : ∃ d', d = d' + 1 := ⟨d - 1, by omega⟩
      rw [e, Tr.stp_more q h1 (by omega) (by omega)]
      by_cases hk : m ≤ Tr.split n
      · rw [if_pos hk, if_pos (by omega), down_last d m (Tr.split n) q (by omega) h1 hk (by omega)]
        simp; omega
      · rw [if_neg hk, if_neg (by omega), show m - 1 - Tr.split n = (m - Tr.split n) - 1 by omega, down_last d (m - Tr.split n) (n - Tr.split n) false (by omega) (by omega) (by omega) (by omega)]
        simp; omega
  termination_by d => d
end Cl
end Go.Proofs.YtjblnjeloimbgaaDoor
