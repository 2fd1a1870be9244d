/-
  What is asked for, plainly: keys and their order, what is started, done, told at a tick. No number of any translation stands here.
-/
import Derived.Test.YtmhbfchhooggjaaDiM
import GoSem.Op.String
namespace Go.Proofs.Ytmhbfchhooggjaa
open Go.RowKit
set_option linter.unusedVariables false

namespace Ft
/-- A key: a size and a root. -/
abbrev Key := Nat × List UInt8
/-- One that a program can hold. -/
def Key.Ok (k : Key) : Prop := k.1 ≤ 18446744073709551615 ∧ k.2.length = 32
def kless (a b : Key) : Bool := if a.1 = b.1 then Op.bytesLess a.2 b.2 else decide (a.1 < b.1)
/-- Two keys. -/
abbrev Wn := Key × Key
def Wn.Ok (w : Wn) : Prop := Key.Ok w.1 ∧ Key.Ok w.2
def wless (a b : Wn) : Bool := if a.1 = b.1 then kless a.2 b.2 else kless a.1 b.1

theorem bl_irrefl : ∀ a : List UInt8, Op.bytesLess a a = false
  | [] => rfl
  | x :: a => by
    unfold Op.bytesLess
    simp [bl_irrefl a]
theorem bl_trans : ∀ a b c : List UInt8, Op.bytesLess a b = true → Op.bytesLess b c = true → Op.bytesLess a c = true
  | _, _, [], _, h => by cases ‹List UInt8› <;> simp [Op.bytesLess] at h
  | [], [], _ :: _, h, _ => by simp [Op.bytesLess] at h
  | [], _ :: _, _ :: _, _, _ => rfl
  | _ :: _, [], _ :: _, h, _ => by simp [Op.bytesLess] at h
  | x :: a, y :: b, z :: c, h1, h2 => by
    unfold Op.bytesLess at h1 h2 ⊢
    simp only [Bool.or_eq_true, Bool.and_eq_true, decide_eq_true_eq, beq_iff_eq] at h1 h2 ⊢
    rcases h1 with h1 | ⟨rfl, h1⟩
    · rcases h2 with h2 | ⟨rfl, h2⟩
      · exact .inl (UInt8.lt_trans h1 h2)
      · exact .inl h1
    · rcases h2 with h2 | ⟨rfl, h2⟩
      · exact .inl h2
      · exact .inr ⟨rfl, bl_trans a b c h1 h2⟩
theorem bl_tri : ∀ a b : List UInt8, Op.bytesLess a b = false → Op.bytesLess b a = false → a = b
  | [], [], _, _ => rfl
  | [], _ :: _, h, _ => by simp [Op.bytesLess] at h
  | _ :: _, [], _, h => by simp [Op.bytesLess] at h
  | x :: a, y :: b, h1, h2 => by
    unfold Op.bytesLess at h1 h2
    simp only [Bool.or_eq_false_iff, Bool.and_eq_false_iff, decide_eq_false_iff_not, beq_eq_false_iff_ne] at h1 h2
    obtain ⟨h3, h4⟩ := h1
    obtain ⟨h5, h6⟩ := h2
    have e : x = y := by
      apply UInt8.toNat_inj.1
      rw [UInt8.lt_iff_toNat_lt] at h3 h5
      omega
    subst e
    rw [bl_tri a b (h4.resolve_left (fun h => h rfl)) (h6.resolve_left (fun h => h rfl))]
theorem kless_irrefl (a : Key) : kless a a = false := by unfold kless; rw [if_pos rfl]; exact bl_irrefl _
theorem kless_trans {a b c : Key} (h1 : kless a b = true) (h2 : kless b c = true) : kless a c = true := by
  unfold kless at *
  split at h1 <;> split at h2
  · rename_i e1 e2; rw [if_pos (e1.trans e2)]; exact bl_trans _ _ _ h1 h2
  · rename_i e1 e2; rw [if_neg (by rw [e1]; exact e2), e1]; exact h2
  · rename_i e1 e2; rw [if_neg (by rw [← e2]; exact e1), ← e2]; exact h1
  · rename_i e1 e2
    have h3 := of_decide_eq_true h1
    have h4 := of_decide_eq_true h2
    rw [if_neg (by omega)]
    exact decide_eq_true (by omega)
theorem kless_tri {a b : Key} (h1 : kless a b = false) (h2 : kless b a = false) : a = b := by
  unfold kless at *
  by_cases e : a.1 = b.1
  · rw [if_pos e] at h1
    rw [if_pos e.symm] at h2
    exact Prod.ext e (bl_tri _ _ h1 h2)
  · rw [if_neg e] at h1
    rw [if_neg (Ne.symm e)] at h2
    have h3 := of_decide_eq_false h1
    have h4 := of_decide_eq_false h2
    omega
theorem wless_irrefl (a : Wn) : wless a a = false := by unfold wless; rw [if_pos rfl]; exact kless_irrefl _
theorem wless_trans {a b c : Wn} (h1 : wless a b = true) (h2 : wless b c = true) : wless a c = true := by
  unfold wless at *
  split at h1 <;> split at h2
  · rename_i e1 e2; rw [if_pos (e1.trans e2)]; exact kless_trans h1 h2
  · rename_i e1 e2; rw [if_neg (by rw [e1]; exact e2), e1]; exact h2
  · rename_i e1 e2; rw [if_neg (by rw [← e2]; exact e1), ← e2]; exact h1
  · rename_i e1 e2
    have h3 := kless_trans h1 h2
    rw [if_neg (fun e => by rw [e, kless_irrefl] at h3; cases h3)]
    exact h3
theorem wless_tri {a b : Wn} (h1 : wless a b = false) (h2 : wless b a = false) : a = b := by
  unfold wless at *
  by_cases e : a.1 = b.1
  · rw [if_pos e] at h1
    rw [if_pos e.symm] at h2
    exact Prod.ext e (kless_tri h1 h2)
  · rw [if_neg e] at h1
    rw [if_neg (Ne.symm e)] at h2
    exact absurd (kless_tri h1 h2) e
theorem wless_asymm {a b : Wn} (h : wless a b = true) : wless b a = false := by
  rcases Bool.eq_false_or_eq_true (wless b a) with h2 | h2
  · have := wless_trans h h2
    rw [wless_irrefl] at this
    cases this
  · exact h2

/-- Something that is asked for: its keys, how often it was tried, how many ticks it waits. -/
structure Q where
  key : Wn
  tries : Nat
  left : Int
def Q.Ok (q : Q) : Prop := Wn.Ok q.key
/-- In order, each once. -/
def Sorted (l : List Q) : Prop := l.Pairwise (fun a b => wless a.key b.key = true)
def has (l : List Q) (k : Wn) : Bool := l.any (fun q => decide (q.key = k))
/-- One more, in its place. -/
def ins (q : Q) : List Q → List Q
  | [] => [q]
  | a :: l => if wless q.key a.key = true then q :: a :: l else a :: ins q l
def start (l : List Q) (k : Wn) : List Q := if has l k = true then l else ins ⟨k, 0, 1⟩ l
def done (l : List Q) (k : Wn) : List Q := l.filter (fun q => decide (q.key ≠ k))
/-- How long it waits: doubled so often, most at most. -/
def wait (base most : Nat) (tries : Nat) : Nat := min (base * 2 ^ tries) most
/-- What a tick makes of one: it waits on; it isn't asked for any more; it is told. -/
inductive Say where
  | on (q : Q)
  | gone
  | told (q : Q) (s : BitVec 64)
def say (base most budget : Nat) (s : BitVec 64) (q : Q) : Say :=
  if 0 < q.left - 1 then .on { q with left := q.left - 1 }
  else if q.tries = budget then .gone
  else .told { q with tries := q.tries + 1, left := (wait base most q.tries : Int) + ((Di.bel s base).2 : Int) } (Di.bel s base).1
/-- A tick over a list: what stays, the dice, who is told, who isn't asked for any more. -/
structure Tk where
  l : List Q
  s : BitVec 64
  asks : List Q
  lost : List Q
def tk1 (base most budget : Nat) (t : Tk) (q : Q) : Tk :=
  match say base most budget t.s q with
  | .on q' => { t with l := t.l ++ [q'] }
  | .gone => { t with lost := t.lost ++ [{ q with left := q.left - 1 }] }
  | .told q' s' => { t with l := t.l ++ [q'], s := s', asks := t.asks ++ [q'] }
def tick (base most budget : Nat) (s : BitVec 64) (l : List Q) : Tk := l.foldl (tk1 base most budget) ⟨[], s, [], []⟩
theorem tick_snoc (base most budget : Nat) (s : BitVec 64) (l : List Q) (q : Q) : tick base most budget s (l ++ [q]) = tk1 base most budget (tick base most budget s l) q := by
  unfold tick; rw [List.foldl_append]; rfl
theorem ins_length (q : Q) : ∀ l : List Q, (ins q l).length = l.length + 1
  | [] => rfl
  | a :: l => by
    unfold ins
    split
    · rfl
    · rw [List.length_cons, ins_length q l, List.length_cons]
theorem mem_ins {q x : Q} : ∀ {l : List Q}, x ∈ ins q l ↔ x = q ∨ x ∈ l
  | [] => by simp [ins]
  | a :: l => by
    unfold ins
    split
    · simp
    · simp only [List.mem_cons, mem_ins]
      constructor
      · rintro (h | h | h)
        · exact .inr (.inl h)
        · exact .inl h
        · exact .inr (.inr h)
      · rintro (h | h | h)
        · exact .inr (.inl h)
        · exact .inl h
        · exact .inr (.inr h)
theorem ins_sorted {q : Q} : ∀ {l : List Q}, Sorted l → (∀ x ∈ l, x.key ≠ q.key) → Sorted (ins q l)
  | [], _, _ => List.pairwise_singleton _ _
  | a :: l, h, hn => by
    unfold ins
    obtain ⟨h1, h2⟩ := List.pairwise_cons.1 h
    split
    · rename_i hq
      exact List.pairwise_cons.2 ⟨fun x hx => by
        rcases List.mem_cons.1 hx with rfl | hx
        · exact hq
        · exact wless_trans hq (h1 x hx), h⟩
    · rename_i hq
      refine List.pairwise_cons.2 ⟨fun x hx => ?_, ins_sorted h2 (fun x hx => hn x (List.mem_cons_of_mem _ hx))⟩
      rcases mem_ins.1 hx with rfl | hx
      · rcases Bool.eq_false_or_eq_true (wless a.key x.key) with h3 | h3
        · exact h3
        · exact absurd (wless_tri h3 (by simpa using hq)) (hn a (by simp))
      · exact h1 x hx
theorem has_iff {l : List Q} {k : Wn} : has l k = true ↔ ∃ q ∈ l, q.key = k := by simp [has]
theorem start_sorted {l : List Q} (h : Sorted l) (k : Wn) : Sorted (start l k) := by
  unfold start
  split
  · exact h
  · rename_i hn
    exact ins_sorted h (fun x hx e => hn (has_iff.2 ⟨x, hx, e⟩))
theorem done_sorted {l : List Q} (h : Sorted l) (k : Wn) : Sorted (done l k) := List.Pairwise.filter _ h
theorem start_length (l : List Q) (k : Wn) : (start l k).length ≤ l.length + 1 := by
  unfold start
  split
  · omega
  · rw [ins_length]; omega
theorem done_length (l : List Q) (k : Wn) : (done l k).length ≤ l.length := List.length_filter_le _ _
end Ft
end Go.Proofs.Ytmhbfchhooggjaa
