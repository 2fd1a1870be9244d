/-
  Digests and their bytes, plainly: what is put is got, what is got is put as the same bytes. No number of any translation stands here.
-/
import Derived.Test.YtmjpaopobnhckaaNumP
import Derived.Test.YtmjpaopobnhckaaRdP
import Derived.Test.YtmjpaopobnhckaaFtM
import Derived.Test.YtmjpaopobnhckaaDgM
namespace Go.Proofs.Ytmjpaopobnhckaa
set_option linter.unusedVariables false

namespace Dg
def kb (k : Ft.Key) : List UInt8 := nb (k.1 : Int) 8 ++ k.2
def bytes (ks : List Ft.Key) (fs : List (List UInt8)) : List UInt8 := nb (ks.length : Int) 1 ++ ks.flatMap kb ++ (nb (fs.length : Int) 1 ++ fs.flatten)
def put (ks : List Ft.Key) (fs : List (List UInt8)) : List UInt8 × Int := if 32 < ks.length ∨ 32 < fs.length then ([], 13) else (bytes ks fs, 0)
def rkey (s : RS) : RS × Ft.Key := ((rhash (rnum 8 s).1).1, ((rnum 8 s).2.toNat, (rhash (rnum 8 s).1).2))
def rkeys : Nat → RS → RS × List Ft.Key
  | 0, s => (s, [])
  | n + 1, s => ((rkey (rkeys n s).1).1, (rkeys n s).2 ++ [(rkey (rkeys n s).1).2])
def rhs : Nat → RS → RS × List (List UInt8)
  | 0, s => (s, [])
  | n + 1, s => ((rhash (rhs n s).1).1, (rhs n s).2 ++ [(rhash (rhs n s).1).2])
/-- Behind the keys. -/
def get2 (ks : List Ft.Key) (s : RS) : List Ft.Key × List (List UInt8) × Int :=
  if (rnum 1 s).1.2 = 0 ∧ 32 < (rnum 1 s).2 then ([], [], 13) else
  if rend (rhs (rnum 1 s).2.toNat (rnum 1 s).1).1 = 0 then (ks, (rhs (rnum 1 s).2.toNat (rnum 1 s).1).2, 0) else ([], [], rend (rhs (rnum 1 s).2.toNat (rnum 1 s).1).1)
def get (b : List UInt8) : List Ft.Key × List (List UInt8) × Int :=
  if (rnum 1 (b, 0)).1.2 = 0 ∧ 32 < (rnum 1 (b, 0)).2 then ([], [], 13) else
  get2 (rkeys (rnum 1 (b, 0)).2.toNat (rnum 1 (b, 0)).1).2 (rkeys (rnum 1 (b, 0)).2.toNat (rnum 1 (b, 0)).1).1

theorem rkeys_length (n : Nat) (s : RS) : (rkeys n s).2.length = n := by
  induction n with
  | zero => rfl
  | succ n ih => simp [rkeys, ih]
theorem rhs_length (n : Nat) (s : RS) : (rhs n s).2.length = n := by
  induction n with
  | zero => rfl
  | succ n ih => simp [rhs, ih]
theorem rhash_length (s : RS) : (rhash s).2.length = 32 := by
  unfold rhash
  show (if (tk 32 s).2.length = 32 then (tk 32 s).2 else List.replicate 32 0).length = 32
  split
  · assumption
  · simp
theorem rnum_bd (n : Nat) (h1 : 1 ≤ n) (h8 : n ≤ 8) (s : RS) : 0 ≤ (rnum n s).2 ∧ (rnum n s).2 < 256 ^ n := by
  unfold rnum
  rw [if_pos (by simp; omega)]
  refine ⟨be_nonneg _, be_lt _ _ ?_⟩
  show (tk (n : Int).toNat s).2.length ≤ n
  rw [Int.toNat_natCast]
  rcases tk_full n s with h | h <;> rw [h] <;> simp
theorem rnum8_nat (s : RS) : (((rnum 8 s).2.toNat : Nat) : Int) = (rnum 8 s).2 ∧ (rnum 8 s).2.toNat ≤ 18446744073709551615 := by
  have h := rnum_bd 8 (by decide) (by decide) s
  have h1 : (0 : Int) ≤ (rnum 8 s).2 := h.1
  have h2 : (rnum 8 s).2 < 256 ^ 8 := h.2
  have e : (256 : Int) ^ 8 = 18446744073709551616 := by decide
  rw [e] at h2
  exact ⟨Int.toNat_of_nonneg h1, by omega⟩
theorem rnum1_nat (s : RS) : (((rnum 1 s).2.toNat : Nat) : Int) = (rnum 1 s).2 ∧ (rnum 1 s).2.toNat ≤ 255 := by
  have h := rnum_bd 1 (by decide) (by decide) s
  have h1 : (0 : Int) ≤ (rnum 1 s).2 := h.1
  have h2 : (rnum 1 s).2 < 256 ^ 1 := h.2
  have e : (256 : Int) ^ 1 = 256 := by decide
  rw [e] at h2
  exact ⟨Int.toNat_of_nonneg h1, by omega⟩
theorem rkey_ok (s : RS) : Ft.Key.Ok (rkey s).2 := ⟨(rnum8_nat s).2, rhash_length _⟩
theorem rkeys_ok (n : Nat) (s : RS) : ∀ k ∈ (rkeys n s).2, Ft.Key.Ok k := by
  induction n with
  | zero => intro k h; cases h
  | succ n ih =>
    intro k h
    rcases List.mem_append.1 h with h | h
    · exact ih k h
    · rw [List.mem_singleton] at h; rw [h]; exact rkey_ok _
theorem rhs_ok (n : Nat) (s : RS) : ∀ k ∈ (rhs n s).2, k.length = 32 := by
  induction n with
  | zero => intro k h; cases h
  | succ n ih =>
    intro k h
    rcases List.mem_append.1 h with h | h
    · exact ih k h
    · rw [List.mem_singleton] at h; rw [h]; exact rhash_length _
theorem rkey_front {k : Ft.Key} (hk : Ft.Key.Ok k) (ys : List UInt8) : rkey (kb k ++ ys, 0) = ((ys, 0), k) := by
  have h1 := rnum_front (k.1 : Int) 8 (k.2 ++ ys) (by omega) (by decide) (by decide)
  have e8 : (256 : Int) ^ 8 = 18446744073709551616 := by decide
  have hk1 := hk.1
  have e : (k.1 : Int) % 256 ^ 8 = (k.1 : Int) := Int.emod_eq_of_lt (by omega) (by rw [e8]; omega)
  rw [e] at h1
  have h1' : rnum 8 (kb k ++ ys, 0) = ((k.2 ++ ys, 0), (k.1 : Int)) := by unfold kb; rw [List.append_assoc]; exact h1
  have h2 := tk_front k.2 ys 32 hk.2
  unfold rkey
  rw [h1']
  unfold rhash
  simp only [h2, hk.2, if_true, Int.toNat_natCast]
theorem rkeys_front (ks : List Ft.Key) : ∀ (n : Nat) (ys : List UInt8), ks.length = n → (∀ k ∈ ks, Ft.Key.Ok k) → rkeys n (ks.flatMap kb ++ ys, 0) = ((ys, 0), ks) := by
  refine snoc_ind (p := fun ks => ∀ (n : Nat) (ys : List UInt8), ks.length = n → (∀ k ∈ ks, Ft.Key.Ok k) → rkeys n (ks.flatMap kb ++ ys, 0) = ((ys, 0), ks)) ?_ ?_ ks
  · rintro n ys rfl _; rfl
  · intro l x ih n ys hn hok
    subst hn
    rw [List.length_append]
    have h1 := ih l.length (kb x ++ ys) rfl (fun k hk => hok k (by simp [hk]))
    show rkeys (l.length + 1) _ = _
    rw [List.flatMap_append]
    simp only [List.flatMap_cons, List.flatMap_nil, List.append_nil, List.append_assoc]
    unfold rkeys
    rw [h1, rkey_front (hok x (by simp))]
theorem rhash_front {h : List UInt8} (hh : h.length = 32) (ys : List UInt8) : rhash (h ++ ys, 0) = ((ys, 0), h) := by
  unfold rhash
  simp only [tk_front h ys 32 hh, hh, if_true]
theorem rhs_front (fs : List (List UInt8)) : ∀ (n : Nat) (ys : List UInt8), fs.length = n → (∀ k ∈ fs, k.length = 32) → rhs n (fs.flatten ++ ys, 0) = ((ys, 0), fs) := by
  refine snoc_ind (p := fun fs => ∀ (n : Nat) (ys : List UInt8), fs.length = n → (∀ k ∈ fs, k.length = 32) → rhs n (fs.flatten ++ ys, 0) = ((ys, 0), fs)) ?_ ?_ fs
  · rintro n ys rfl _; rfl
  · intro l x ih n ys hn hok
    subst hn
    rw [List.length_append]
    have h1 := ih l.length (x ++ ys) rfl (fun k hk => hok k (by simp [hk]))
    show rhs (l.length + 1) _ = _
    rw [List.flatten_append]
    simp only [List.flatten_cons, List.flatten_nil, List.append_nil, List.append_assoc]
    unfold rhs
    rw [h1, rhash_front (hok x (by simp))]
/-- What is put is got. -/
theorem get_bytes (ks : List Ft.Key) (fs : List (List UInt8)) (hk : ∀ k ∈ ks, Ft.Key.Ok k) (hf : ∀ k ∈ fs, k.length = 32) (h1 : ks.length ≤ 32) (h2 : fs.length ≤ 32) : get (bytes ks fs) = (ks, fs, 0) := by
  have e1 : rnum 1 (bytes ks fs, 0) = ((ks.flatMap kb ++ (nb (fs.length : Int) 1 ++ fs.flatten), 0), (ks.length : Int)) := by
    have h := rnum_front (ks.length : Int) 1 (ks.flatMap kb ++ (nb (fs.length : Int) 1 ++ fs.flatten)) (by omega) (by decide) (by decide)
    rw [Int.emod_eq_of_lt (by omega) (by omega)] at h
    unfold bytes
    rw [List.append_assoc]
    exact h
  have e2 : rnum 1 (nb (fs.length : Int) 1 ++ fs.flatten, 0) = ((fs.flatten, 0), (fs.length : Int)) := by
    have h := rnum_front (fs.length : Int) 1 fs.flatten (by omega) (by decide) (by decide)
    rw [Int.emod_eq_of_lt (by omega) (by omega)] at h
    exact h
  have e3 := rkeys_front ks ks.length (nb (fs.length : Int) 1 ++ fs.flatten) rfl hk
  have e4 := rhs_front fs fs.length [] rfl hf
  rw [List.append_nil] at e4
  unfold get
  rw [e1]
  simp only [Int.toNat_natCast]
  rw [if_neg (by omega), e3]
  unfold get2
  rw [e2]
  simp only [Int.toNat_natCast]
  rw [if_neg (by omega), e4]
  rfl
theorem nb_be : ∀ (n : Nat) (l : List UInt8), l.length = n → nb (be l) n = l := by
  intro n
  induction n with
  | zero => intro l hl; rw [List.eq_nil_of_length_eq_zero hl]; rfl
  | succ n ih =>
    intro l hl
    have hne : l ≠ [] := fun e => by rw [e] at hl; cases hl
    have hd : l.dropLast ++ [l.getLast hne] = l := List.dropLast_concat_getLast hne
    have hdl : l.dropLast.length = n := by rw [List.length_dropLast]; omega
    obtain ⟨m, hm⟩ : ∃ m, l.dropLast = m := ⟨_, rfl⟩
    obtain ⟨c, hc⟩ : ∃ c, l.getLast hne = c := ⟨_, rfl⟩
    rw [hm, hc] at hd
    rw [hm] at hdl
    have hc1 := c.toNat_lt
    rw [← hd, nb_succ _ _ (be_nonneg _), be_snoc]
    have h1 : (be m * 256 + (c.toNat : Int)) / 256 = be m := by omega
    have h3 : UInt8.ofNat (be m * 256 + (c.toNat : Int)).toNat = c := by
      have h0 := be_nonneg m
      have := toNat_byte (be m * 256 + (c.toNat : Int)) (by omega)
      apply UInt8.toNat_inj.1
      omega
    rw [h1, h3, ih m hdl]
theorem tk_good {n : Nat} {s : RS} (h : (tk n s).1.2 = 0) : s.2 = 0 ∧ s.1 = (tk n s).2 ++ (tk n s).1.1 ∧ (tk n s).2.length = n := by
  obtain ⟨l, e⟩ := s
  unfold tk at h ⊢
  by_cases he : e = 0
  · subst he
    simp only [if_true] at h ⊢
    by_cases hl : l.length < n
    · rw [if_pos hl] at h; simp at h
    · rw [if_neg hl] at h ⊢
      simp only [List.take_append_drop, List.length_take, true_and]
      omega
  · simp only [if_neg he] at h
    exact absurd h he
theorem rnum_good {n : Nat} (h1 : 1 ≤ n) (h8 : n ≤ 8) {s : RS} (h : (rnum n s).1.2 = 0) : s.2 = 0 ∧ s.1 = nb (rnum n s).2 n ++ (rnum n s).1.1 := by
  unfold rnum at h ⊢
  rw [if_pos (by simp; omega)] at h ⊢
  simp only [Int.toNat_natCast] at h ⊢
  obtain ⟨g1, g2, g3⟩ := tk_good h
  exact ⟨g1, by rw [nb_be n _ g3]; exact g2⟩
theorem rhash_good {s : RS} (h : (rhash s).1.2 = 0) : s.2 = 0 ∧ s.1 = (rhash s).2 ++ (rhash s).1.1 := by
  obtain ⟨g1, g2, g3⟩ := tk_good (n := 32) (s := s) h
  refine ⟨g1, ?_⟩
  unfold rhash
  simp only [g3, if_true]
  exact g2
theorem rkey_good {s : RS} (h : (rkey s).1.2 = 0) : s.2 = 0 ∧ s.1 = kb (rkey s).2 ++ (rkey s).1.1 := by
  obtain ⟨g1, g2⟩ := rhash_good (s := (rnum 8 s).1) h
  obtain ⟨g3, g4⟩ := rnum_good (n := 8) (by decide) (by decide) (s := s) g1
  refine ⟨g3, ?_⟩
  have g4' : s.1 = nb (rnum 8 s).2 8 ++ (rnum 8 s).1.1 := g4
  unfold rkey kb
  simp only [(rnum8_nat s).1]
  rw [List.append_assoc, ← g2]
  exact g4'
theorem rkeys_good (n : Nat) {s : RS} (h : (rkeys n s).1.2 = 0) : s.2 = 0 ∧ s.1 = (rkeys n s).2.flatMap kb ++ (rkeys n s).1.1 := by
  induction n with
  | zero => exact ⟨h, rfl⟩
  | succ n ih =>
    obtain ⟨g1, g2⟩ := rkey_good (s := (rkeys n s).1) h
    obtain ⟨g3, g4⟩ := ih g1
    refine ⟨g3, ?_⟩
    unfold rkeys
    simp only [List.flatMap_append, List.flatMap_cons, List.flatMap_nil, List.append_nil]
    rw [List.append_assoc, ← g2]
    exact g4
theorem rhs_good (n : Nat) {s : RS} (h : (rhs n s).1.2 = 0) : s.2 = 0 ∧ s.1 = (rhs n s).2.flatten ++ (rhs n s).1.1 := by
  induction n with
  | zero => exact ⟨h, rfl⟩
  | succ n ih =>
    obtain ⟨g1, g2⟩ := rhash_good (s := (rhs n s).1) h
    obtain ⟨g3, g4⟩ := ih g1
    refine ⟨g3, ?_⟩
    unfold rhs
    simp only [List.flatten_append, List.flatten_cons, List.flatten_nil, List.append_nil]
    rw [List.append_assoc, ← g2]
    exact g4
theorem rend_good {s : RS} (h : rend s = 0) : s = ([], 0) := by
  obtain ⟨l, e⟩ := s
  unfold rend at h
  by_cases he : e = 0
  · subst he
    simp only [if_true] at h
    by_cases hl : l = []
    · rw [hl]
    · rw [if_neg hl] at h; cases h
  · simp only [if_neg he] at h; exact absurd h he
/-- What is got is put as the same bytes. -/
theorem put_get (b : List UInt8) (h : (get b).2.2 = 0) : put (get b).1 (get b).2.1 = (b, 0) := by
  obtain ⟨r1, hr1⟩ : ∃ r, rnum 1 (b, 0) = r := ⟨_, rfl⟩
  have q1 := rnum1_nat (b, 0)
  have g1 : r1.1.2 = 0 → b = nb r1.2 1 ++ r1.1.1 := fun e => by rw [← hr1] at e ⊢; exact (rnum_good (n := 1) (by decide) (by decide) e).2
  unfold get at h ⊢
  rw [hr1] at h ⊢ q1
  by_cases c1 : r1.1.2 = 0 ∧ 32 < r1.2
  · rw [if_pos c1] at h; cases h
  rw [if_neg c1] at h ⊢
  have kl := rkeys_length r1.2.toNat r1.1
  have kg := fun h => rkeys_good r1.2.toNat (s := r1.1) h
  obtain ⟨k, hk⟩ : ∃ k, rkeys r1.2.toNat r1.1 = k := ⟨_, rfl⟩
  rw [hk] at h kl kg ⊢
  obtain ⟨r2, hr2⟩ : ∃ r, rnum 1 k.1 = r := ⟨_, rfl⟩
  have q2 := rnum1_nat k.1
  have g2 : r2.1.2 = 0 → k.1.2 = 0 ∧ k.1.1 = nb r2.2 1 ++ r2.1.1 := fun e => by rw [← hr2] at e ⊢; exact rnum_good (n := 1) (by decide) (by decide) e
  unfold get2 at h ⊢
  rw [hr2] at h ⊢ q2
  by_cases c2 : r2.1.2 = 0 ∧ 32 < r2.2
  · rw [if_pos c2] at h; cases h
  rw [if_neg c2] at h ⊢
  have fl := rhs_length r2.2.toNat r2.1
  have fg := fun h => rhs_good r2.2.toNat (s := r2.1) h
  obtain ⟨f, hf⟩ : ∃ f, rhs r2.2.toNat r2.1 = f := ⟨_, rfl⟩
  rw [hf] at h fl fg ⊢
  by_cases c3 : rend f.1 = 0
  · rw [if_pos c3]
    have e3 := rend_good c3
    rw [e3] at fg
    obtain ⟨m1, m2⟩ := fg rfl
    obtain ⟨m3, m4⟩ := g2 m1
    obtain ⟨m5, m6⟩ := kg m3
    have m7 := g1 m5
    have n1 : ¬ 32 < r1.2 := fun e => c1 ⟨m5, e⟩
    have n2 : ¬ 32 < r2.2 := fun e => c2 ⟨m1, e⟩
    unfold put
    rw [if_neg (by simp only [kl, fl]; omega)]
    unfold bytes
    simp only [kl, fl, q1.1, q2.1]
    rw [m7, m6, m4, m2]
    simp
  · rw [if_neg c3] at h
    exact absurd h c3
end Dg
end Go.Proofs.Ytmjpaopobnhckaa
