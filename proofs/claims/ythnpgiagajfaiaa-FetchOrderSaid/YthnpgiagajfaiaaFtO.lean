/-
  What a tick makes of many wants, plainly: who stays, who is told, who isn't waited for; how long it can take.
-/
import Derived.Test.YthnpgiagajfaiaaFtG
namespace Go.Proofs.Ythnpgiagajfaiaa
open Go.RowKit
set_option linter.unusedVariables false
set_option linter.unusedSimpArgs false

namespace Ft
theorem tk1_cases (base most budget : Nat) (hb : 1 ≤ base) (t : Tk) (q : Q) :
    (1 < q.left ∧ tk1 base most budget t q = { t with l := t.l ++ [{ q with left := q.left - 1 }] }) ∨
    (q.left ≤ 1 ∧ q.tries = budget ∧ tk1 base most budget t q = { t with lost := t.lost ++ [{ q with left := q.left - 1 }] }) ∨
    (q.left ≤ 1 ∧ q.tries ≠ budget ∧ ∃ (x : Q) (s' : BitVec 64), x.key = q.key ∧ x.tries = q.tries + 1 ∧ (wait base most q.tries : Int) ≤ x.left ∧ x.left < (wait base most q.tries : Int) + (base : Int) ∧ tk1 base most budget t q = ⟨t.l ++ [x], s', t.asks ++ [x], t.lost⟩) := by
  by_cases h1 : 1 < q.left
  · refine .inl ⟨h1, ?_⟩
    unfold tk1 say
    rw [if_pos (by omega)]
  · by_cases h2 : q.tries = budget
    · refine .inr (.inl ⟨by omega, h2, ?_⟩)
      unfold tk1 say
      rw [if_neg (by omega), if_pos h2]
    · refine .inr (.inr ⟨by omega, h2, { q with tries := q.tries + 1, left := (wait base most q.tries : Int) + ((Di.bel t.s base).2 : Int) }, (Di.bel t.s base).1, rfl, rfl, ?_, ?_, ?_⟩)
      · show (wait base most q.tries : Int) ≤ (wait base most q.tries : Int) + ((Di.bel t.s base).2 : Int)
        omega
      · show (wait base most q.tries : Int) + ((Di.bel t.s base).2 : Int) < _
        have := Di.bel_lt t.s (base : Int) (by omega)
        omega
      · unfold tk1 say
        rw [if_neg (by omega), if_neg h2]
/-- What becomes of one that stays. -/
def Stp (base most budget : Nat) (q x : Q) : Prop := x.key = q.key ∧ ((1 < q.left ∧ x.tries = q.tries ∧ x.left = q.left - 1) ∨ (q.left ≤ 1 ∧ q.tries ≠ budget ∧ x.tries = q.tries + 1 ∧ (wait base most q.tries : Int) ≤ x.left ∧ x.left < (wait base most q.tries : Int) + (base : Int)))
theorem fold_mem (base most budget : Nat) (hb : 1 ≤ base) : ∀ (l : List Q) (t : Tk),
    (∀ x ∈ (l.foldl (tk1 base most budget) t).l, x ∈ t.l ∨ ∃ q ∈ l, Stp base most budget q x) ∧
    (∀ x ∈ (l.foldl (tk1 base most budget) t).asks, x ∈ t.asks ∨ ∃ q ∈ l, x.key = q.key) ∧
    (∀ x ∈ (l.foldl (tk1 base most budget) t).lost, x ∈ t.lost ∨ ∃ q ∈ l, x.key = q.key)
  | [], t => ⟨fun x h => .inl h, fun x h => .inl h, fun x h => .inl h⟩
  | q :: l, t => by
    obtain ⟨h1, h2, h3⟩ := fold_mem base most budget hb l (tk1 base most budget t q)
    rw [List.foldl_cons]
    have up : ∀ {R : Q → Q → Prop} {x : Q}, (∃ y ∈ l, R y x) → ∃ y ∈ q :: l, R y x := fun ⟨y, hy, hr⟩ => ⟨y, List.mem_cons_of_mem _ hy, hr⟩
    rcases tk1_cases base most budget hb t q with ⟨hl, he⟩ | ⟨hl, ht, he⟩ | ⟨hl, ht, y, s', hk, hy1, hy2, hy3, he⟩
    · rw [he] at h1 h2 h3 ⊢
      refine ⟨fun x hx => ?_, fun x hx => (h2 x hx).imp id (up (R := fun y x => x.key = y.key)), fun x hx => (h3 x hx).imp id (up (R := fun y x => x.key = y.key))⟩
      rcases h1 x hx with h | h
      · rcases List.mem_append.1 h with h | h
        · exact .inl h
        · simp only [List.mem_singleton] at h
          subst h
          exact .inr ⟨q, by simp, rfl, .inl ⟨hl, rfl, rfl⟩⟩
      · exact .inr (up (R := Stp base most budget) h)
    · rw [he] at h1 h2 h3 ⊢
      refine ⟨fun x hx => (h1 x hx).imp id (up (R := Stp base most budget)), fun x hx => (h2 x hx).imp id (up (R := fun y x => x.key = y.key)), fun x hx => ?_⟩
      rcases h3 x hx with h | h
      · rcases List.mem_append.1 h with h | h
        · exact .inl h
        · simp only [List.mem_singleton] at h
          subst h
          exact .inr ⟨q, by simp, rfl⟩
      · exact .inr (up (R := fun y x => x.key = y.key) h)
    · rw [he] at h1 h2 h3 ⊢
      refine ⟨fun x hx => ?_, fun x hx => ?_, fun x hx => (h3 x hx).imp id (up (R := fun y x => x.key = y.key))⟩
      · rcases h1 x hx with h | h
        · rcases List.mem_append.1 h with h | h
          · exact .inl h
          · simp only [List.mem_singleton] at h
            subst h
            exact .inr ⟨q, by simp, hk, .inr ⟨hl, ht, hy1, hy2, hy3⟩⟩
        · exact .inr (up (R := Stp base most budget) h)
      · rcases h2 x hx with h | h
        · rcases List.mem_append.1 h with h | h
          · exact .inl h
          · simp only [List.mem_singleton] at h
            subst h
            exact .inr ⟨q, by simp, hk⟩
        · exact .inr (up (R := fun y x => x.key = y.key) h)
theorem tick_stays {base most budget : Nat} (hb : 1 ≤ base) {s : BitVec 64} {l : List Q} {x : Q} (hx : x ∈ (tick base most budget s l).l) : ∃ q ∈ l, Stp base most budget q x := by
  rcases (fold_mem base most budget hb l ⟨[], s, [], []⟩).1 x hx with h | h
  · cases h
  · exact h
theorem tick_asks {base most budget : Nat} (hb : 1 ≤ base) {s : BitVec 64} {l : List Q} {x : Q} (hx : x ∈ (tick base most budget s l).asks) : ∃ q ∈ l, x.key = q.key := by
  rcases (fold_mem base most budget hb l ⟨[], s, [], []⟩).2.1 x hx with h | h
  · cases h
  · exact h
theorem tick_lost {base most budget : Nat} (hb : 1 ≤ base) {s : BitVec 64} {l : List Q} {x : Q} (hx : x ∈ (tick base most budget s l).lost) : ∃ q ∈ l, x.key = q.key := by
  rcases (fold_mem base most budget hb l ⟨[], s, [], []⟩).2.2 x hx with h | h
  · cases h
  · exact h
/-- Nobody is at the end of its tries: everybody stays. -/
theorem fold_stay (base most budget : Nat) (hb : 1 ≤ base) : ∀ (l : List Q) (t : Tk), (∀ q ∈ l, ¬ (q.left ≤ 1 ∧ q.tries = budget)) → (l.foldl (tk1 base most budget) t).l.length = t.l.length + l.length ∧ (l.foldl (tk1 base most budget) t).lost = t.lost
  | [], t, _ => ⟨rfl, rfl⟩
  | q :: l, t, h => by
    obtain ⟨h1, h2⟩ := fold_stay base most budget hb l (tk1 base most budget t q) (fun x hx => h x (List.mem_cons_of_mem _ hx))
    rw [List.foldl_cons, h1, h2, List.length_cons]
    rcases tk1_cases base most budget hb t q with ⟨hl, he⟩ | ⟨hl, ht, he⟩ | ⟨hl, ht, y, s', hk, hy1, hy2, hy3, he⟩
    · rw [he]; simp only [List.length_append, List.length_singleton, and_true]; omega
    · exact absurd ⟨hl, ht⟩ (h q (by simp))
    · rw [he]; simp only [List.length_append, List.length_singleton, and_true]; omega
theorem tick_all_stay {base most budget : Nat} (hb : 1 ≤ base) (s : BitVec 64) {l : List Q} (h : ∀ q ∈ l, ¬ (q.left ≤ 1 ∧ q.tries = budget)) : (tick base most budget s l).l.length = l.length ∧ (tick base most budget s l).lost = [] := by
  have := fold_stay base most budget hb l ⟨[], s, [], []⟩ h
  simpa [tick] using this
/-- Everybody's time has come: everybody is told, in order. -/
theorem fold_told (base most budget : Nat) (hb : 1 ≤ base) : ∀ (l : List Q) (t : Tk), t.asks = t.l → (∀ q ∈ l, q.left ≤ 1 ∧ q.tries ≠ budget) → (l.foldl (tk1 base most budget) t).asks = (l.foldl (tk1 base most budget) t).l ∧ (l.foldl (tk1 base most budget) t).l.map (·.key) = t.l.map (·.key) ++ l.map (·.key) ∧ (l.foldl (tk1 base most budget) t).lost = t.lost
  | [], t, ha, _ => ⟨ha, by simp, rfl⟩
  | q :: l, t, ha, h => by
    have hq := h q (by simp)
    rcases tk1_cases base most budget hb t q with ⟨hl, he⟩ | ⟨hl, ht, he⟩ | ⟨hl, ht, y, s', hk, hy1, hy2, hy3, he⟩
    · omega
    · exact absurd ht hq.2
    · obtain ⟨h1, h2, h3⟩ := fold_told base most budget hb l (tk1 base most budget t q) (by rw [he]; show t.asks ++ [y] = t.l ++ [y]; rw [ha]) (fun x hx => h x (List.mem_cons_of_mem _ hx))
      rw [List.foldl_cons]
      refine ⟨h1, ?_, ?_⟩
      · rw [h2, he]
        simp [hk]
      · rw [h3, he]
theorem tick_all_told {base most budget : Nat} (hb : 1 ≤ base) (s : BitVec 64) {l : List Q} (h : ∀ q ∈ l, q.left ≤ 1 ∧ q.tries ≠ budget) : (tick base most budget s l).asks = (tick base most budget s l).l ∧ (tick base most budget s l).l.map (·.key) = l.map (·.key) ∧ (tick base most budget s l).lost = [] := by
  obtain ⟨h1, h2, h3⟩ := fold_told base most budget hb l ⟨[], s, [], []⟩ rfl h
  exact ⟨h1, by simpa [tick] using h2, h3⟩
theorem tk1_short (base most budget : Nat) (t : Tk) (q : Q) : (tk1 base most budget t q).l.length ≤ t.l.length + 1 ∧ (tk1 base most budget t q).asks.length ≤ t.asks.length + 1 ∧ (tk1 base most budget t q).lost.length ≤ t.lost.length + 1 := by
  unfold tk1
  split <;> simp
theorem fold_short (base most budget : Nat) : ∀ (l : List Q) (t : Tk), (l.foldl (tk1 base most budget) t).l.length ≤ t.l.length + l.length ∧ (l.foldl (tk1 base most budget) t).asks.length ≤ t.asks.length + l.length ∧ (l.foldl (tk1 base most budget) t).lost.length ≤ t.lost.length + l.length
  | [], t => ⟨Nat.le_refl _, Nat.le_refl _, Nat.le_refl _⟩
  | q :: l, t => by
    have h1 := fold_short base most budget l (tk1 base most budget t q)
    have h2 := tk1_short base most budget t q
    rw [List.foldl_cons, List.length_cons]
    omega
theorem tick_short (base most budget : Nat) (s : BitVec 64) (l : List Q) : (tick base most budget s l).l.length ≤ l.length ∧ (tick base most budget s l).asks.length ≤ l.length ∧ (tick base most budget s l).lost.length ≤ l.length := by
  have h := fold_short base most budget l ⟨[], s, [], []⟩
  simp only [List.length_nil, Nat.zero_add] at h
  exact h
theorem start_fresh {l : List Q} (k : Wn) (h : ∀ q ∈ l, q.tries = 0 ∧ q.left = 1) : ∀ q ∈ start l k, q.tries = 0 ∧ q.left = 1 := by
  unfold start
  split
  · exact h
  · intro q hq
    rcases mem_ins.1 hq with rfl | hq
    · exact ⟨rfl, rfl⟩
    · exact h q hq
theorem start_some (l : List Q) (k : Wn) : 1 ≤ (start l k).length := by
  unfold start
  split
  · rename_i h
    obtain ⟨q, hq, _⟩ := has_iff.1 h
    exact List.length_pos_of_mem hq
  · rw [ins_length]; omega
theorem start_more (l : List Q) (k : Wn) : l.length ≤ (start l k).length := by
  unfold start
  split
  · omega
  · rw [ins_length]; omega
theorem done_not {l : List Q} {k : Wn} : ∀ q ∈ done l k, q.key ≠ k := fun q hq => by
  have := (List.mem_filter.1 hq).2
  simpa using this
theorem not_has {l : List Q} {k : Wn} (h : ∀ q ∈ l, q.key ≠ k) : has l k = false := by
  rcases Bool.eq_false_or_eq_true (has l k) with h1 | h1
  · obtain ⟨q, hq, e⟩ := has_iff.1 h1
    exact absurd e (h q hq)
  · exact h1
/-- FetchDone's wants: a base of 2, 8 at most, 3 times. -/
def rest : Nat → Int
  | 0 => 14
  | 1 => 12
  | 2 => 8
  | _ => 0
structure Dn (q : Q) : Prop where
  tries : q.tries ≤ 3
  low : 1 ≤ q.left
  high : q.left ≤ 9
theorem dn_fresh {q : Q} (h : q.tries = 0 ∧ q.left = 1) : Dn q ∧ 15 ≤ q.left + rest q.tries := by
  obtain ⟨h1, h2⟩ := h
  refine ⟨⟨by omega, by omega, by omega⟩, ?_⟩
  rw [h1, h2]
  decide
theorem wait3 (t : Nat) (h : t ≤ 3) (hn : t ≠ 3) : (wait 2 8 t : Int) = rest t - rest (t + 1) ∧ 2 ≤ wait 2 8 t ∧ wait 2 8 t ≤ 8 := by
  have : t = 0 ∨ t = 1 ∨ t = 2 := by omega
  rcases this with rfl | rfl | rfl <;> decide
theorem stp_dn {q x : Q} (h : Stp 2 8 3 q x) (hq : Dn q) : Dn x ∧ q.left + rest q.tries ≤ x.left + rest x.tries + 1 ∧ x.left + 9 * (3 - (x.tries : Int)) + 1 ≤ q.left + 9 * (3 - (q.tries : Int)) := by
  obtain ⟨h1, h2, h3⟩ := hq
  obtain ⟨_, ⟨h4, h5, h6⟩ | ⟨h4, h5, h6, h7, h8⟩⟩ := h
  · refine ⟨⟨by omega, by omega, by omega⟩, ?_, ?_⟩
    · rw [h5]; omega
    · rw [h5]; omega
  · obtain ⟨w1, w2, w3⟩ := wait3 q.tries h1 h5
    refine ⟨⟨by omega, by omega, by omega⟩, ?_, ?_⟩
    · rw [h6]; omega
    · rw [h6]; push_cast; omega
/-- So many ticks behind the starts. -/
theorem dn_early {j : Nat} {l : List Q} (hj : j ≤ 12) (s : BitVec 64) (h : ∀ q ∈ l, Dn q ∧ 15 - (j : Int) ≤ q.left + rest q.tries) :
    (∀ q ∈ (tick 2 8 3 s l).l, Dn q ∧ 15 - ((j + 1 : Nat) : Int) ≤ q.left + rest q.tries) ∧ (tick 2 8 3 s l).l.length = l.length := by
  refine ⟨fun x hx => ?_, (tick_all_stay (by decide) s (fun q hq e => ?_)).1⟩
  · obtain ⟨q, hq, hs⟩ := tick_stays (by decide) hx
    obtain ⟨h1, h2⟩ := h q hq
    obtain ⟨h3, h4, _⟩ := stp_dn hs h1
    exact ⟨h3, by push_cast; omega⟩
  · obtain ⟨h1, h2⟩ := h q hq
    rw [e.2] at h2
    have : rest 3 = 0 := rfl
    omega
/-- So many ticks later: who is left has so much left. -/
theorem dn_late {i : Nat} {l : List Q} (s : BitVec 64) {k : Wn} (h : ∀ q ∈ l, Dn q ∧ q.left + 9 * (3 - (q.tries : Int)) ≤ 36 - (i : Int) ∧ q.key ≠ k) :
    (∀ q ∈ (tick 2 8 3 s l).l, Dn q ∧ q.left + 9 * (3 - (q.tries : Int)) ≤ 36 - ((i + 1 : Nat) : Int) ∧ q.key ≠ k) ∧ (∀ q ∈ (tick 2 8 3 s l).asks, q.key ≠ k) ∧ ∀ q ∈ (tick 2 8 3 s l).lost, q.key ≠ k := by
  refine ⟨fun x hx => ?_, fun x hx => ?_, fun x hx => ?_⟩
  · obtain ⟨q, hq, hs⟩ := tick_stays (by decide) hx
    obtain ⟨h1, h2, h3⟩ := h q hq
    obtain ⟨h4, _, h5⟩ := stp_dn hs h1
    exact ⟨h4, by push_cast; omega, by rw [hs.1]; exact h3⟩
  · obtain ⟨q, hq, e⟩ := tick_asks (by decide) hx
    rw [e]; exact (h q hq).2.2
  · obtain ⟨q, hq, e⟩ := tick_lost (by decide) hx
    rw [e]; exact (h q hq).2.2
theorem dn_over {i : Nat} {l : List Q} {k : Wn} (hi : 36 ≤ i) (h : ∀ q ∈ l, Dn q ∧ q.left + 9 * (3 - (q.tries : Int)) ≤ 36 - (i : Int) ∧ q.key ≠ k) : l = [] := by
  cases l with
  | nil => rfl
  | cons q l =>
    obtain ⟨⟨h1, h2, _⟩, h3, _⟩ := h q (by simp)
    omega
theorem dn_begin {l : List Q} {k : Wn} (h : ∀ q ∈ l, Dn q) : ∀ q ∈ done l k, Dn q ∧ q.left + 9 * (3 - (q.tries : Int)) ≤ 36 - ((0 : Nat) : Int) ∧ q.key ≠ k := fun q hq => by
  have h1 := h q (List.mem_filter.1 hq).1
  obtain ⟨h2, h3, h4⟩ := h1
  exact ⟨⟨h2, h3, h4⟩, by simp; omega, done_not q hq⟩
end Ft
end Go.Proofs.Ythnpgiagajfaiaa
