/-
  What a log has on its disk, plain.
  What is sure, and what is there, behind each call; plain.
-/
import Derived.Test.YtnhegnncmjmafaaWlCo
namespace Go.Proofs.Ytnhegnncmjmafaa
open Go.RowKit
set_option linter.unusedVariables false
namespace Wl
open Dk (Blk put over front lay crash size)
theorem nb_last (x : Nat) : nb (x : Int) 8 = nb ((x : Int) / 256) 7 ++ [UInt8.ofNat x] := by
  rw [nb_succ (x : Int) 7 (by omega)]; rfl
theorem be_eight (x : Nat) (hx : x < 18446744073709551616) : (be (nb (x : Int) 8)).toNat = x := by
  rw [be_nb 8 (x : Int) (by omega), Int.emod_eq_of_lt (by omega) (by omega)]; omega
theorem sup_take (t a n : Nat) : (sup t a n).take 8 = nb (t : Int) 8 := by
  unfold sup; rw [List.take_append_of_le_length (by rw [nb_length]; omega), List.take_of_length_le (by rw [nb_length]; omega)]
theorem sup_drop (t a n : Nat) : (sup t a n).drop 248 = nb (t : Int) 8 := by
  unfold sup
  rw [← List.append_assoc, ← List.append_assoc, ← List.append_assoc, List.drop_append_of_le_length (by simp only [List.length_append, nb_length, List.length_replicate]; omega), List.drop_of_length_le (by simp only [List.length_append, nb_length, List.length_replicate]; omega), List.nil_append]
theorem drop_low {x : List UInt8} {t : Nat} (h : x.drop 248 = nb (t : Int) 8) : x.drop 255 = [UInt8.ofNat t] := by
  have : x.drop 255 = (x.drop 248).drop 7 := by rw [List.drop_drop]
  rw [this, h, nb_last, List.drop_append_of_le_length (by rw [nb_length]; omega), List.drop_of_length_le (by rw [nb_length]; omega), List.nil_append]
theorem sup_pT (t a n : Nat) (ht : t < 18446744073709551616) : pT (sup t a n) = t := by
  unfold pT; rw [sup_take, be_eight t ht]
theorem sup_pA (t a n : Nat) (ha : a < 256) : pA (sup t a n) = a := by
  unfold pA sup
  rw [List.drop_append_of_le_length (by rw [nb_length]; omega), List.drop_of_length_le (by rw [nb_length]; omega), List.nil_append, List.take_append_of_le_length (by rw [nb_length]; omega), List.take_of_length_le (by rw [nb_length]; omega), be_nb 1 (a : Int) (by omega), Int.emod_eq_of_lt (by omega) (by omega)]; omega
theorem sup_pN (t a n : Nat) (hn : n < 4294967296) : pN (sup t a n) = n := by
  unfold pN sup
  rw [List.drop_left' (nb_length (t : Int) 8), List.drop_left' (nb_length (a : Int) 1), List.take_left' (nb_length (n : Int) 4), be_nb 4 (n : Int) (by omega), Int.emod_eq_of_lt (by omega) (by omega)]; omega
theorem sup_counts (room t a n : Nat) (h0 : 0 < t) (ht : t < 18446744073709551616) (ha : a < 2) (hn : n ≤ room) (hr : n < 4294967296) : counts room (sup t a n) := by
  refine ⟨⟨?_, ?_, ?_⟩, ?_⟩
  · rw [sup_pT t a n ht]; exact h0
  · rw [sup_pA t a n (by omega)]; exact ha
  · rw [sup_pN t a n hr]; exact hn
  · rw [sup_pT t a n ht, sup_pA t a n (by omega), sup_pN t a n hr]
set_option maxRecDepth 100000 in
theorem sup_zero : sup 0 0 0 = Dk.nought := by rfl
/-- The other super: no super of the turn that comes, nor torn into one. -/
def Weak (X : Blk) (T : Nat) : Prop := X.drop 255 ≠ [UInt8.ofNat (T + 1)] ∧ (X.take 8 = nb ((T + 1 : Nat) : Int) 8 ∨ (be (X.drop 248)).toNat ≤ T - 1)
theorem counts_drop {room : Nat} {b : Blk} (h : counts room b) : b.drop 248 = nb (pT b : Int) 8 := by
  have := congrArg (List.drop 248) h.2
  rw [sup_drop] at this
  exact this
theorem weak_not {room : Nat} {X : Blk} {T : Nat} (ht : T < 4611686018427387904) (h : Weak X T) (hc : counts room X) : pT X < T := by
  have hd := counts_drop hc
  have h0 := hc.1.1
  rcases h.2 with h1 | h1
  · have e : pT X = T + 1 := by unfold pT; rw [h1, be_eight _ (by omega)]
    rw [e] at hd
    exact absurd (drop_low hd) h.1
  · rw [hd, be_eight _ (pT_lt X)] at h1
    omega
theorem front_drop {b X : Blk} {j m : Nat} (hb : b.length = 256) (hX : X.length = 256) (hj : j ≤ m) (hm : m ≤ 256) : (front b X j).drop m = X.drop m := by
  unfold front
  rw [List.drop_append, List.length_take, List.drop_of_length_le (by rw [List.length_take]; omega), List.nil_append, List.drop_drop]
  congr 1; omega
theorem front_take {b X : Blk} {j m : Nat} (hb : b.length = 256) (hX : X.length = 256) (hj : m ≤ j) (hm : m ≤ 256) : (front b X j).take m = b.take m := by
  unfold front
  rw [List.take_append_of_le_length (by rw [List.length_take]; omega), List.take_take]
  congr 1; omega
theorem front_get {b X : Blk} {k q : Nat} (hb : b.length = 256) (hX : X.length = 256) : (front b X k)[q]? = if q < k then b[q]? else X[q]? := by
  unfold front
  by_cases hk : k ≤ 256
  · rw [List.getElem?_append, List.length_take, Nat.min_eq_left (by omega)]
    split
    · rw [List.getElem?_take, if_pos (by assumption)]
    · rw [List.getElem?_drop]; congr 1; omega
  · rw [List.take_of_length_le (by omega), List.drop_of_length_le (by omega), List.append_nil]
    split
    · rfl
    · rw [List.getElem?_eq_none (by omega), List.getElem?_eq_none (by omega)]
theorem front_same {b X : Blk} {k m : Nat} (hb : b.length = 256) (hX : X.length = 256) (h : X.take m = b.take m) : (front b X k).take m = b.take m := by
  apply List.ext_getElem?
  intro i
  rw [List.getElem?_take, List.getElem?_take]
  split
  · rename_i hi
    rw [front_get hb hX]
    split
    · rfl
    · have := congrArg (·[i]?) h
      simp only [List.getElem?_take, if_pos hi] at this
      exact this
  · rfl
theorem weak_torn {X : Blk} {T a n j : Nat} (hX : X.length = 256) (h : Weak X T) (hj : j < 256) : Weak (front (sup (T + 1) a n) X j) T := by
  have hs := sup_length (T + 1) a n
  refine ⟨by rw [front_drop hs hX (by omega) (by omega)]; exact h.1, ?_⟩
  by_cases h8 : 8 ≤ j
  · left; rw [front_take hs hX h8 (by omega), sup_take]
  · rcases h.2 with h1 | h1
    · left; rw [front_same hs hX (by rw [h1, sup_take]), sup_take]
    · right; rw [front_drop hs hX (by omega) (by omega)]; exact h1
theorem ofNat_ne (T : Nat) : [UInt8.ofNat T] ≠ [UInt8.ofNat (T + 1 + 1)] := by
  intro h
  have h := congrArg UInt8.toNat (List.head_eq_of_cons_eq h)
  simp only [UInt8.toNat_ofNat'] at h
  omega
theorem weak_sup (T a n : Nat) (ht : T < 4611686018427387904) : Weak (sup T a n) (T + 1) := by
  refine ⟨by rw [drop_low (sup_drop T a n)]; exact ofNat_ne T, .inr ?_⟩
  rw [sup_drop, be_eight T (by omega)]
  omega
set_option maxRecDepth 100000 in
theorem weak_nought : Weak Dk.nought 0 := ⟨by decide, .inr (by decide)⟩
/-- The supers tell the turn. -/
theorem tops_of {room T a n : Nat} {d : Nat → Blk} (ht : T < 4611686018427387904) (ha : a < 2) (hn : n ≤ room) (hr : room < 4294967296) (h0 : T = 0 → a = 0 ∧ n = 0) (h1 : d (T % 2) = sup T a n) (h2 : Weak (d ((T + 1) % 2)) T) : ∀ y, Tops room d 2 y → y = (T, a, n) := by
  rintro y ⟨x, ⟨x0, hx0, hx⟩, hy⟩
  have hx0 : x0 = (0, 0, 0) := hx0
  subst hx0
  have hw := fun h => weak_not (room := room) ht h2 h
  have hP : pT (sup T a n) = T ∧ pA (sup T a n) = a ∧ pN (sup T a n) = n := ⟨sup_pT T a n (by omega), sup_pA T a n (by omega), sup_pN T a n (by omega)⟩
  rcases (show T % 2 = 0 ∨ T % 2 = 1 by omega) with h | h
  · rw [h] at h1
    rw [show (T + 1) % 2 = 1 by omega] at h2 hw
    have hxx : x = (T, a, n) := by
      rcases hx with ⟨_, _, e⟩ | ⟨hn', e⟩
      · rw [e, h1, hP.1, hP.2.1, hP.2.2]
      · by_cases hT : T = 0
        · obtain ⟨e1, e2⟩ := h0 hT
          rw [e, hT, e1, e2]
        · rcases hn' with h' | h'
          · exact absurd (by rw [h1]; exact sup_counts room T a n (by omega) (by omega) ha hn (by omega)) h'
          · rw [h1, hP.1] at h'
            exact absurd (show 0 < T by omega) h'
    rcases hy with ⟨hc, hl, _⟩ | ⟨_, e⟩
    · have := hw hc
      rw [hxx] at hl
      simp only at hl
      omega
    · rw [e, hxx]
  · rw [h] at h1
    rw [show (T + 1) % 2 = 0 by omega] at h2 hw
    have hx1 : x.1 < T := by
      rcases hx with ⟨hc, _, e⟩ | ⟨_, e⟩
      · rw [e]; exact hw hc
      · rw [e]; show 0 < T; omega
    rcases hy with ⟨_, _, e⟩ | ⟨hn', e⟩
    · rw [e, h1, hP.1, hP.2.1, hP.2.2]
    · rcases hn' with h' | h'
      · exact absurd (by rw [h1]; exact sup_counts room T a n (by omega) (by omega) ha hn (by omega)) h'
      · rw [h1, hP.1] at h'
        exact absurd hx1 h'
/-- From a block on, these bytes stand. -/
def Agree (d : Nat → Blk) (i0 : Nat) (fr : Bs) : Prop := ∀ i, i < fr.length → (d (i0 + i / 256))[i % 256]? = fr[i]?
def Fits (i0 : Nat) (fr : Bs) (p : Nat × Blk) : Prop := ∀ i, i < fr.length → i0 + i / 256 = p.1 → p.2[i % 256]? = fr[i]?
theorem ars_get (d : Nat → Blk) (i0 m : Nat) (hd : ∀ j, (d j).length = 256) (i : Nat) (hi : i < 256 * m) : (ars d i0 m)[i]? = (d (i0 + i / 256))[i % 256]? := by
  induction m with
  | zero => omega
  | succ m ih =>
    rw [ars_succ, List.getElem?_append, ars_length d i0 m hd]
    split
    · rename_i h; exact ih h
    · rename_i h
      rw [show i0 + i / 256 = i0 + m by omega, show i - 256 * m = i % 256 by omega]
theorem agree_ars {d : Nat → Blk} {i0 m : Nat} {fr : Bs} (hd : ∀ j, (d j).length = 256) (h : Agree d i0 fr) (hm : fr.length ≤ 256 * m) : (ars d i0 m).take fr.length = fr := by
  apply List.ext_getElem?
  intro i
  rw [List.getElem?_take]
  split
  · rename_i hi
    rw [ars_get d i0 m hd i (by omega), h i hi]
  · rw [List.getElem?_eq_none (by omega)]
theorem agree_put {d : Nat → Blk} {i0 : Nat} {fr : Bs} {p : Nat × Blk} (h : Agree d i0 fr) (hf : Fits i0 fr p) : Agree (put d p.1 p.2) i0 fr := by
  intro i hi
  unfold put
  split
  · rename_i e; exact hf i hi e
  · exact h i hi
theorem agree_lay {d : Nat → Blk} {i0 k : Nat} {fr : Bs} {p : Nat × Blk} (hd : ∀ j, (d j).length = 256) (hp : p.2.length = 256) (h : Agree d i0 fr) (hf : Fits i0 fr p) : Agree (lay d p k) i0 fr := by
  intro i hi
  unfold lay put
  split
  · rename_i e
    rw [front_get hp (hd _)]
    split
    · exact hf i hi e
    · rw [← e]; exact h i hi
  · exact h i hi
theorem agree_over {i0 : Nat} {fr : Bs} : ∀ (l : List (Nat × Blk)) (d : Nat → Blk), Agree d i0 fr → (∀ p ∈ l, Fits i0 fr p) → Agree (over d l) i0 fr
  | [], d, h, _ => h
  | p :: l, d, h, hl => agree_over l _ (agree_put h (hl p (by simp))) (fun q hq => hl q (List.mem_cons_of_mem _ hq))
theorem agree_crash {i0 : Nat} {fr : Bs} : ∀ (l : List (Nat × Blk)) (f : List UInt8) (d : Nat → Blk), (∀ j, (d j).length = 256) → (∀ p ∈ l, p.2.length = 256) → Agree d i0 fr → (∀ p ∈ l, Fits i0 fr p) → Agree (crash d l f) i0 fr
  | [], f, d, _, _, h, _ => by unfold crash; exact h
  | p :: l, [], d, _, _, h, _ => h
  | p :: l, c :: f, d, hd, hp, h, hl => agree_crash l f _ (Dk.lay_length d p _ hd (hp p (by simp))) (fun q hq => hp q (List.mem_cons_of_mem _ hq)) (agree_lay hd (hp p (by simp)) h (hl p (by simp))) (fun q hq => hl q (List.mem_cons_of_mem _ hq))
theorem crash_low {i : Nat} (hi : i < 2) : ∀ (l : List (Nat × Blk)) (f : List UInt8) (d : Nat → Blk), (∀ p ∈ l, 2 ≤ p.1) → crash d l f i = d i
  | [], f, d, _ => rfl
  | p :: l, [], d, _ => rfl
  | p :: l, c :: f, d, h => (crash_low hi l f _ (fun q hq => h q (List.mem_cons_of_mem _ hq))).trans (Dk.put_other _ _ (show i ≠ p.1 by have := h p (by simp); omega))
theorem over_low {i : Nat} (hi : i < 2) : ∀ (l : List (Nat × Blk)) (d : Nat → Blk), (∀ p ∈ l, 2 ≤ p.1) → over d l i = d i
  | [], d, _ => rfl
  | p :: l, d, h => (over_low hi l _ (fun q hq => h q (List.mem_cons_of_mem _ hq))).trans (Dk.put_other _ _ (show i ≠ p.1 by have := h p (by simp); omega))
end Wl
end Go.Proofs.Ytnhegnncmjmafaa
namespace Go.Proofs.Ytnhegnncmjmafaa
open Go.RowKit
set_option linter.unusedVariables false
namespace Wl
open Dk (Blk put over front lay crash size)
/-- On the disk these frames are for good, in this area, of this turn. -/
structure Dur (k T a : Nat) (fr : Bs) (s : Dk.St) : Prop where
  top : s.good (T % 2) = sup T a fr.length
  weak : Weak (s.good ((T + 1) % 2)) T
  zero : T = 0 → a = 0 ∧ fr.length = 0
  agree : Agree s.good (2 + a * k) fr
  loose : ∀ p ∈ s.loose, 2 ≤ p.1 ∧ Fits (2 + a * k) fr p ∧ p.2.length = 256
  area : a < 2
  len : fr.length ≤ 256 * k
  k2 : k ≤ 32767
  turn : T < 4611686018427387904
  lens : ∀ i, (s.good i).length = 256
section
variable {k T a : Nat} {fr : Bs} {s s' : Dk.St}
theorem Dur.of (h : Dur k T a fr s) (hg : s'.good = s.good) (hl : ∀ p ∈ s'.loose, 2 ≤ p.1 ∧ Fits (2 + a * k) fr p ∧ p.2.length = 256) : Dur k T a fr s' :=
  ⟨by rw [hg]; exact h.top, by rw [hg]; exact h.weak, h.zero, by rw [hg]; exact h.agree, hl, h.area, h.len, h.k2, h.turn, by rw [hg]; exact h.lens⟩
theorem Dur.same (h : Dur k T a fr s) (hg : s'.good = s.good) (hl : s'.loose = s.loose) : Dur k T a fr s' := h.of hg (by rw [hl]; exact h.loose)
theorem Dur.cnt (h : Dur k T a fr s) : Dur k T a fr (Dk.cnt s) := h.same (Dk.cnt_good s) (Dk.cnt_loose s)
theorem Dur.cr (h : Dur k T a fr s) (f : List UInt8) : Dur k T a fr (Dk.cr s f) := by
  have h2 : ∀ p ∈ s.loose, 2 ≤ p.1 := fun p hp => (h.loose p hp).1
  refine ⟨?_, ?_, h.zero, ?_, (fun p hp => by cases hp), h.area, h.len, h.k2, h.turn, ?_⟩
  · exact (crash_low (by omega) _ _ _ h2).trans h.top
  · show Weak (crash s.good s.loose f _) T
    rw [crash_low (by omega) _ _ _ h2]; exact h.weak
  · exact agree_crash _ _ _ h.lens (fun p hp => (h.loose p hp).2.2) h.agree (fun p hp => (h.loose p hp).2.1)
  · exact Dk.crash_length _ _ _ h.lens (fun p hp => (h.loose p hp).2.2)
theorem Dur.sy (h : Dur k T a fr s) : Dur k T a fr (Dk.sy s) := by
  unfold Dk.sy
  split
  · exact h
  · split
    · have h2 : ∀ p ∈ s.loose, 2 ≤ p.1 := fun p hp => (h.loose p hp).1
      refine ⟨?_, ?_, h.zero, ?_, (fun p hp => by cases hp), h.area, h.len, h.k2, h.turn, ?_⟩
      · exact (over_low (by omega) _ _ h2).trans h.top
      · show Weak (over s.good s.loose _) T
        rw [over_low (by omega) _ _ h2]; exact h.weak
      · exact agree_over _ _ h.agree (fun p hp => (h.loose p hp).2.1)
      · exact Dk.over_length _ _ h.lens (fun p hp => (h.loose p hp).2.2)
    · exact h.cnt
theorem Dur.wr (h : Dur k T a fr s) (i : Nat) (b : Blk) (hi : 2 ≤ i) (hf : Fits (2 + a * k) fr (i, b)) (hb : b.length = 256) : Dur k T a fr (Dk.wr s (i : Int) 256 b) := by
  unfold Dk.wr
  split
  · exact h
  · split
    · refine h.of (Dk.cnt_good s) ?_
      intro p hp
      rcases List.mem_append.1 hp with h' | h'
      · exact h.loose p h'
      · rw [List.mem_singleton.1 h']
        exact ⟨hi, hf, hb⟩
    · exact h.cnt
theorem Dur.wst (h : Dur k T a fr s) (i0 : Nat) (b : Bs) (hi : 2 ≤ i0) : ∀ m, (∀ j, j < m → Fits (2 + a * k) fr (i0 + j, blk b j)) → Dur k T a fr (Wl.wst s i0 b m).2
  | 0, _ => h
  | m + 1, hf => by
    have ih := Dur.wst h i0 b hi m (fun j hj => hf j (by omega))
    unfold Wl.wst
    split
    · exact ih
    · exact ih.wr (i0 + m) _ (by omega) (hf m (by omega)) (blk_length b m)
theorem Dur.tops (h : Dur k T a fr s) : ∀ y, Tops (256 * k) (Dk.rd s) 2 y → y = (T, a, fr.length) := by
  have h2 : ∀ p ∈ s.loose, 2 ≤ p.1 := fun p hp => (h.loose p hp).1
  have hk := h.k2
  refine tops_of h.turn h.area h.len (by omega) h.zero ?_ ?_
  · exact (over_low (by omega) _ _ h2).trans h.top
  · show Weak (over s.good s.loose _) T
    rw [over_low (by omega) _ _ h2]; exact h.weak
theorem Dur.lenr (h : Dur k T a fr s) : ∀ i, (Dk.rd s i).length = 256 := Dk.over_length _ _ h.lens (fun p hp => (h.loose p hp).2.2)
theorem Dur.rd (h : Dur k T a fr s) : Agree (Dk.rd s) (2 + a * k) fr := agree_over _ _ h.agree (fun p hp => (h.loose p hp).2.1)
theorem Dur.ars (h : Dur k T a fr s) : ∀ m, fr.length ≤ 256 * m → m ≤ k → (Wl.ars (Dk.rd s) (2 + a * k) m).take fr.length = fr := fun m hm _ => agree_ars h.lenr h.rd hm
/-- A super is for good. -/
theorem Dur.next (h : Dur k T a fr s) {a' : Nat} {fr' : Bs} (ha : a' < 2) (hl : fr'.length ≤ 256 * k) (ht : T + 1 < 4611686018427387904) (hag : Agree s.good (2 + a' * k) fr') (hg : s'.good = put s.good ((T + 1) % 2) (sup (T + 1) a' fr'.length)) (hs : s'.loose = []) : Dur k (T + 1) a' fr' s' := by
  refine ⟨by rw [hg, Dk.put_same], ?_, (fun h => by omega), ?_, (fun p hp => by rw [hs] at hp; cases hp), ha, hl, h.k2, ht, fun i => ?_⟩
  · rw [hg, show (T + 1 + 1) % 2 = T % 2 by omega, Dk.put_other _ _ (by omega), h.top]
    exact weak_sup T a fr.length h.turn
  · intro i hi
    rw [hg, Dk.put_other _ _ (by omega)]
    exact hag i hi
  · rw [hg]
    unfold put
    split
    · exact sup_length _ _ _
    · exact h.lens i
/-- A super that a crash tears. -/
theorem Dur.torn (h : Dur k T a fr s) {a' : Nat} {n' j : Nat} (hj : j < 256) (hg : s'.good = lay s.good ((T + 1) % 2, sup (T + 1) a' n') j) (hs : s'.loose = []) : Dur k T a fr s' := by
  have hx := h.lens ((T + 1) % 2)
  refine ⟨?_, ?_, h.zero, ?_, (fun p hp => by rw [hs] at hp; cases hp), h.area, h.len, h.k2, h.turn, fun i => by rw [hg]; exact Dk.lay_length _ _ _ h.lens (sup_length _ _ _) i⟩
  · rw [hg]
    unfold lay
    rw [Dk.put_other _ _ (by simp only []; omega)]
    exact h.top
  · rw [hg]
    unfold lay
    rw [Dk.put_same]
    exact weak_torn hx h.weak hj
  · intro i hi
    rw [hg]
    unfold lay
    rw [Dk.put_other _ _ (by simp only []; omega)]
    exact h.agree i hi
end
theorem dur_fresh (n k : Nat) (hk : k ≤ 32767) : Dur k 0 0 [] (Dk.fresh n) :=
  ⟨sup_zero.symm, weak_nought, (fun _ => ⟨rfl, rfl⟩), (fun i hi => by simp at hi), (fun p hp => by cases hp), by omega, by simp, hk, by omega, fun i => by show Dk.nought.length = 256; unfold Dk.nought; rw [List.length_replicate]⟩
/-- Blocks that are written. -/
def wl (i0 : Nat) (b : Bs) (m : Nat) : List (Nat × Blk) := (List.range m).map fun j => (i0 + j, blk b j)
theorem wl_succ (i0 : Nat) (b : Bs) (m : Nat) : wl i0 b (m + 1) = wl i0 b m ++ [(i0 + m, blk b m)] := by unfold wl; rw [List.range_succ, List.map_append]; rfl
theorem wl_length (i0 : Nat) (b : Bs) (m : Nat) : (wl i0 b m).length = m := by unfold wl; simp
def Calm (s : Dk.St) : Prop := s.dead = false ∧ s.fails = false
theorem calm_goes {s : Dk.St} (h : Calm s) : Dk.goes s = true := by unfold Dk.goes; rw [h.2]; rfl
theorem calm_cnt {s : Dk.St} (h : Calm s) : Dk.cnt s = s := by unfold Dk.cnt; rw [h.2]; rfl
theorem calm_wr {s : Dk.St} (h : Calm s) (i : Nat) (b : Blk) (hi : i < s.n) : Dk.wrE s (i : Int) 256 = 0 ∧ Dk.wr s (i : Int) 256 b = { s with loose := s.loose ++ [(i, b)] } := by
  have ha := Dk.atE_in h.1 hi
  have hg := calm_goes h
  constructor
  · unfold Dk.wrE Dk.cntE
    rw [if_neg (by rw [ha]; exact fun h => h rfl), if_neg (fun h => h rfl), if_pos hg]
  · unfold Dk.wr
    rw [if_neg (by rw [ha]; exact fun h => h.elim (fun h => h rfl) (fun h => h rfl)), if_pos hg, calm_cnt h]
    rfl
theorem calm_sy {s : Dk.St} (h : Calm s) : Dk.syE s = 0 ∧ Dk.sy s = { s with good := over s.good s.loose, loose := [] } := by
  have hg := calm_goes h
  have hd : ¬ s.dead = true := by rw [h.1]; decide
  constructor
  · unfold Dk.syE Dk.cntE; rw [if_neg hd, if_pos hg]
  · unfold Dk.sy; rw [if_neg hd, if_pos hg, calm_cnt h]
theorem calm_wst {s : Dk.St} (h : Calm s) (i0 : Nat) (b : Bs) : ∀ m, i0 + m ≤ s.n → wst s i0 b m = (0, { s with loose := s.loose ++ wl i0 b m })
  | 0, _ => by show (0, s) = _; congr 1; show s = { s with loose := s.loose ++ [] }; rw [List.append_nil]
  | m + 1, hm => by
    have ih := calm_wst h i0 b m (by omega)
    unfold wst
    rw [ih]
    rw [if_neg (fun h => h rfl)]
    have hw := calm_wr (s := { s with loose := s.loose ++ wl i0 b m }) h (i0 + m) (blk b m) (show i0 + m < s.n by omega)
    simp only []
    rw [hw.1, hw.2, wl_succ, List.append_assoc]
theorem over_append (g : Nat → Blk) (l m : List (Nat × Blk)) : over g (l ++ m) = over (over g l) m := by unfold over; rw [List.foldl_append]
theorem pad_get (b : Bs) (q : Nat) (h : q < b.length) : (pad b)[q]? = b[q]? := by unfold pad; rw [List.getElem?_append, if_pos h]
theorem blk_get (fr : Bs) (first j i : Nat) (hi : i < fr.length) (he : i / 256 = first + j) : (blk (fr.drop (256 * first)) j)[i % 256]? = fr[i]? := by
  unfold blk
  rw [pad_get _ _ (by rw [List.length_take, List.length_drop, List.length_drop]; omega), List.getElem?_take, if_pos (by omega), List.getElem?_drop, List.getElem?_drop]
  congr 1; omega
theorem agree_wl (A first : Nat) (fr : Bs) (d : Nat → Blk) (h : ∀ i, i < fr.length → i < 256 * first → (d (A + i / 256))[i % 256]? = fr[i]?) : ∀ m i, i < fr.length → i < 256 * (first + m) → (over d (wl (A + first) (fr.drop (256 * first)) m) (A + i / 256))[i % 256]? = fr[i]?
  | 0, i, hi, hm => h i hi hm
  | m + 1, i, hi, hm => by
    rw [wl_succ, Dk.over_snoc]
    unfold put
    split
    · rename_i e
      have e : A + i / 256 = A + first + m := e
      exact blk_get fr first m i hi (by omega)
    · rename_i e
      have e : ¬ A + i / 256 = A + first + m := e
      exact agree_wl A first fr d h m i hi (by omega)
theorem nch_le (fr : Bs) (first : Nat) : fr.length ≤ 256 * (first + nch (fr.drop (256 * first))) := by
  unfold nch; rw [List.length_drop]; omega
theorem agree_all (A first : Nat) (fr : Bs) (d : Nat → Blk) (h : ∀ i, i < fr.length → i < 256 * first → (d (A + i / 256))[i % 256]? = fr[i]?) : Agree (over d (wl (A + first) (fr.drop (256 * first)) (nch (fr.drop (256 * first))))) A fr := fun i hi =>
  agree_wl A first fr d h _ i hi (by have := nch_le fr first; omega)
/-- A log is good. -/
structure Gd (l : St) (s : Dk.St) : Prop where
  err : l.err = 0
  dead : s.dead = false
  dur : Dur l.k l.turn l.area (frames (l.rows.take l.sure)) s
  all : Agree (Dk.rd s) (2 + l.area * l.k) (hv l)
  n : 2 + 2 * l.k ≤ s.n
theorem sure_front (l : St) : ∃ x, hv l = frames (l.rows.take l.sure) ++ x := ⟨frames (l.rows.drop l.sure), by rw [← frames_append, List.take_append_drop]; rfl⟩
theorem fits_front {i0 : Nat} {fr x : Bs} {p : Nat × Blk} (h : Fits i0 (fr ++ x) p) : Fits i0 fr p := fun i hi e => by
  rw [h i (by rw [List.length_append]; omega) e, List.getElem?_append, if_pos hi]
theorem fits_wl (A first : Nat) (fr : Bs) (j : Nat) : Fits A fr (A + first + j, blk (fr.drop (256 * first)) j) := fun i hi e => by
  have e : A + i / 256 = A + first + j := e
  exact blk_get fr first j i hi (by omega)
theorem at_lt {l : St} {s : Dk.St} (h : Gd l s) (ha : l.area < 2) {a : Nat} (h2 : a < 2) : 2 + a * l.k + l.k ≤ s.n := by
  have := h.n
  rcases (show a = 0 ∨ a = 1 by omega) with rfl | rfl <;> omega
theorem gd_fresh (n : Nat) (hn : 4 ≤ n) (h2 : n ≤ 65536) : Gd ⟨(n - 2) / 2, 0, 0, [], 0, 0⟩ (Dk.fresh n) :=
  ⟨rfl, rfl, dur_fresh n _ (by show (n - 2) / 2 ≤ 32767; omega), fun i hi => by simp [hv, frames] at hi, by show 2 + 2 * ((n - 2) / 2) ≤ n; omega⟩
/-- A record goes. -/
theorem gd_ap {l : St} {s : Dk.St} (h : Gd l s) (ho : Ok l) (hc : Calm s) (b : Bs) (h1 : b.length ≤ 16384) (h2 : (hv l).length + (8 + b.length) ≤ 256 * l.k) :
    ∃ s', ap l s b = (0, { l with rows := l.rows ++ [b] }, s') ∧ Gd { l with rows := l.rows ++ [b] } s' ∧ Calm s' ∧ s'.n = s.n ∧ s'.loose.length ≤ s.loose.length + 66 := by
  obtain ⟨first, hf⟩ : ∃ f, (hv l).length / 256 = f := ⟨_, rfl⟩
  obtain ⟨fr, hfr⟩ : ∃ f, hv l ++ frame b = f := ⟨_, rfl⟩
  have hfl : fr.length = (hv l).length + (8 + b.length) := by rw [← hfr, List.length_append, frame_length]
  have hin := at_lt h ho.area ho.area
  have hnc : first + nch (fr.drop (256 * first)) ≤ l.k := by unfold nch; rw [List.length_drop]; omega
  have hn66 : nch (fr.drop (256 * first)) ≤ 66 := by unfold nch; rw [List.length_drop]; omega
  have hw := calm_wst hc (2 + l.area * l.k + first) (fr.drop (256 * first)) (nch (fr.drop (256 * first))) (by omega)
  have hhv : hv { l with rows := l.rows ++ [b] } = fr := by rw [← hfr]; exact frames_snoc _ _
  obtain ⟨x, hx⟩ := sure_front l
  refine ⟨{ s with loose := s.loose ++ wl (2 + l.area * l.k + first) (fr.drop (256 * first)) (nch (fr.drop (256 * first))) }, ?_, ⟨h.err, h.dead, ?_, ?_, h.n⟩, hc, rfl, ?_⟩
  · unfold ap
    rw [if_neg (by rw [h.err]; exact fun h => h rfl), if_neg (by omega), if_neg (by omega)]
    simp only [hf, hfr, hw]
    rw [if_neg (fun h => h rfl)]
  · show Dur l.k l.turn l.area (frames ((l.rows ++ [b]).take l.sure)) _
    rw [List.take_append_of_le_length ho.sure]
    have := h.dur.wst (2 + l.area * l.k + first) (fr.drop (256 * first)) (by omega) (nch (fr.drop (256 * first))) (fun j _ => by
      have h3 := fits_wl (2 + l.area * l.k) first fr j
      rw [← hfr, hx, List.append_assoc] at h3
      have h4 := fits_front h3
      rw [← List.append_assoc, ← hx, hfr] at h4
      exact h4)
    rw [hw] at this
    exact this
  · show Agree (over s.good (s.loose ++ _)) _ _
    rw [hhv, over_append]
    refine agree_all _ _ _ _ (fun i hi hlt => ?_)
    have := h.all i (by omega)
    rw [← hfr, List.getElem?_append, if_pos (by omega)]
    exact this
  · show (s.loose ++ _).length ≤ _
    rw [List.length_append, wl_length]; omega
theorem calm_stamp {s : Dk.St} (hc : Calm s) (l : St) (a n : Nat) (hn : 2 ≤ s.n) : stamp l s a n = (0, { s with good := put (over s.good s.loose) ((l.turn + 1) % 2) (sup (l.turn + 1) a n), loose := [] }) := by
  have h1 := calm_sy hc
  have h2 := calm_wr (s := Dk.sy s) (by rw [h1.2]; exact hc) ((l.turn + 1) % 2) (sup (l.turn + 1) a n) (by rw [h1.2]; show _ < s.n; omega)
  unfold stamp
  rw [if_neg (by rw [h1.1]; exact fun h => h rfl)]
  simp only []
  rw [h2.1, h2.2, if_neg (fun h => h rfl), h1.2]
  have h3 := calm_sy (s := { s with good := over s.good s.loose, loose := [((l.turn + 1) % 2, sup (l.turn + 1) a n)] }) hc
  simp only [List.nil_append]
  rw [h3.1, h3.2]
  rfl
theorem gd_sy {l : St} {s : Dk.St} (h : Gd l s) (ho : Ok l) (hc : Calm s) (ht : l.turn + 1 < 4611686018427387904) :
    ∃ T s', sy l s = (0, { l with turn := T, sure := l.rows.length }, s') ∧ Gd { l with turn := T, sure := l.rows.length } s' ∧ Calm s' ∧ s'.n = s.n ∧ s'.loose.length ≤ s.loose.length ∧ T ≤ l.turn + 1 := by
  by_cases hs : l.sure = l.rows.length
  · refine ⟨l.turn, s, ?_, ?_, hc, rfl, Nat.le_refl _, by omega⟩
    · unfold sy
      rw [if_neg (by rw [h.err]; exact fun h => h rfl), if_pos hs, ← hs]
    · have e : ({ l with turn := l.turn, sure := l.rows.length } : St) = l := by rw [← hs]
      rw [e]; exact h
  · have hst := calm_stamp hc l l.area (hv l).length (by have := h.n; omega)
    have hd := h.dur.sy
    rw [(calm_sy hc).2] at hd
    refine ⟨l.turn + 1, { s with good := put (over s.good s.loose) ((l.turn + 1) % 2) (sup (l.turn + 1) l.area (hv l).length), loose := [] }, ?_, ⟨h.err, h.dead, ?_, ?_, h.n⟩, hc, rfl, by simp, Nat.le_refl _⟩
    · unfold sy
      rw [if_neg (by rw [h.err]; exact fun h => h rfl), if_neg hs]
      simp only [hst]
      rw [if_neg (fun h => h rfl)]
    · show Dur l.k (l.turn + 1) l.area (frames (l.rows.take l.rows.length)) _
      rw [List.take_length]
      exact hd.next ho.area ho.fit ht h.all rfl rfl
    · intro i hi
      show (put (over s.good s.loose) ((l.turn + 1) % 2) _ (2 + l.area * l.k + i / 256))[_]? = _
      rw [Dk.put_other _ _ (by omega)]
      exact h.all i hi
theorem gd_cp {l : St} {s : Dk.St} (h : Gd l s) (ho : Ok l) (hc : Calm s) (ht : l.turn + 1 < 4611686018427387904) (rs : List Bs) (h1 : ∀ r ∈ rs, r.length ≤ 16384) (h2 : (frames rs).length ≤ 256 * l.k) :
    ∃ s', cp l s rs = (0, { l with turn := l.turn + 1, area := 1 - l.area, rows := rs, sure := rs.length }, s') ∧ Gd { l with turn := l.turn + 1, area := 1 - l.area, rows := rs, sure := rs.length } s' ∧ Calm s' ∧ s'.n = s.n ∧ s'.loose = [] := by
  have ha := ho.area
  have hin := at_lt h ho.area (show 1 - l.area < 2 by omega)
  have hnc : nch (frames rs) ≤ l.k := by unfold nch; omega
  have hw := calm_wst hc (2 + (1 - l.area) * l.k) (frames rs) (nch (frames rs)) (by omega)
  obtain ⟨s1, hs1⟩ : ∃ x, ({ s with loose := s.loose ++ wl (2 + (1 - l.area) * l.k) (frames rs) (nch (frames rs)) } : Dk.St) = x := ⟨_, rfl⟩
  have hc1 : Calm s1 := by rw [← hs1]; exact hc
  have hn1 : s1.n = s.n := by rw [← hs1]
  have hst := calm_stamp hc1 l (1 - l.area) (frames rs).length (by have := h.n; omega)
  have hd1 := h.dur.wst (2 + (1 - l.area) * l.k) (frames rs) (by omega) (nch (frames rs)) (fun j hj i hi e => by
    have e : 2 + l.area * l.k + i / 256 = 2 + (1 - l.area) * l.k + j := e
    have hl := h.dur.len
    have : i / 256 < l.k := by omega
    rcases (show l.area = 0 ∨ l.area = 1 by omega) with hh | hh <;> rw [hh] at e <;> omega)
  rw [hw, hs1] at hd1
  have hd := hd1.sy
  rw [(calm_sy hc1).2] at hd
  have hag : Agree (over s1.good s1.loose) (2 + (1 - l.area) * l.k) (frames rs) := by
    rw [← hs1]
    show Agree (over s.good (s.loose ++ _)) _ _
    rw [over_append]
    have := agree_all (2 + (1 - l.area) * l.k) 0 (frames rs) (over s.good s.loose) (fun i _ h => by omega)
    simpa using this
  have hne : ¬ ∃ r ∈ rs, 16384 < r.length := fun ⟨r, h3, h4⟩ => by have := h1 r h3; omega
  refine ⟨{ s1 with good := put (over s1.good s1.loose) ((l.turn + 1) % 2) (sup (l.turn + 1) (1 - l.area) (frames rs).length), loose := [] }, ?_, ⟨h.err, hc1.1, ?_, ?_, by show 2 + 2 * l.k ≤ s1.n; rw [hn1]; exact h.n⟩, hc1, hn1, rfl⟩
  · unfold cp
    rw [if_neg (by rw [h.err]; exact fun h => h rfl), if_neg hne, if_neg (by omega)]
    simp only [hw, hs1]
    rw [if_neg (fun h => h rfl)]
    simp only [hst]
    rw [if_neg (fun h => h rfl)]
  · show Dur l.k (l.turn + 1) (1 - l.area) (frames (rs.take rs.length)) _
    rw [List.take_length]
    exact hd.next (by omega) h2 ht hag rfl rfl
  · intro i hi
    show (put (over s1.good s1.loose) ((l.turn + 1) % 2) _ (2 + (1 - l.area) * l.k + i / 256))[_]? = _
    rw [Dk.put_other _ _ (by omega)]
    exact hag i hi
/-- Behind a crash it is what was sure. -/
theorem gd_cr {l : St} {s : Dk.St} (h : Gd l s) (f : List UInt8) : Gd { l with rows := l.rows.take l.sure, sure := (l.rows.take l.sure).length } (Dk.cr s f) :=
  ⟨h.err, rfl, by show Dur l.k l.turn l.area (frames ((l.rows.take l.sure).take (l.rows.take l.sure).length)) _; rw [List.take_length]; exact h.dur.cr f, (h.dur.cr f).rd, h.n⟩
end Wl
end Go.Proofs.Ytnhegnncmjmafaa
