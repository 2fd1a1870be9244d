/-
  octet's Reader: what each of its methods does, as contracts over the translation.
-/
import Derived.Test.YtmjpaopobnhckaaWrA
import Derived.Test.YtmjpaopobnhckaaRdP
namespace Go.Proofs.Ytmjpaopobnhckaa
open Go.RowKit
set_option linter.unusedVariables false

/-- At block b lies a Reader of s; its bytes lie in block r. -/
def Rd (w : World) (b : Nat) (r : Option Nat) (s : RS) : Prop :=
  (∀ k, r = some k → k < w.heap.size ∧ k ≠ b) ∧ ∃ A c, w.heap[b]? = some (.cells #[.slice A s.1.length c, .int .i64 s.2] 95 (0, 0)) ∧ s.1.length ≤ c ∧ c ≤ maxLen ∧ RowIn w r A (bvs s.1)

theorem Rd.lt {w : World} {b : Nat} {r : Option Nat} {s : RS} (h : Rd w b r s) : b < w.heap.size := by
  obtain ⟨_, A, c, h1, _⟩ := h
  exact (Array.getElem?_eq_some_iff.1 h1).1
theorem Rd.keeps {S : Nat → Prop} {w w' : World} {b : Nat} {r : Option Nat} {s : RS} (h : Rd w b r s) (hk : Keeps S w w') (hb : ¬ S b) (hr : ∀ k, r = some k → ¬ S k) : Rd w' b r s := by
  have hl := h.lt
  obtain ⟨hn, A, c, h1, h2, h3, h4⟩ := h
  exact ⟨fun k h => ⟨Nat.lt_of_lt_of_le (hn k h).1 hk.size, (hn k h).2⟩, A, c, (hk.block b hl hb).trans h1, h2, h3, h4.keeps hk hr⟩

/-- Whatever a Reader's method leaves: it is as it was, but for the Reader's own block. -/
def Only (b : Nat) (w w' : World) : Prop := Keeps (fun k => k = b) w w'

/-! ### The first error -/
theorem rdErr_nil (w : World) : Calls Try.prog 51 #[.pointer none] w fun e w' => e = .returned (.int .i64 1) ∧ w = w' := by
  go_enter Try.func51, Try.ntmps51
  go_wp2
  go_ret
  exact ⟨rfl, rfl⟩
theorem rdErr_at (b : Nat) (v : Value) (e0 : Int) (w : World) (h : w.heap[b]? = some (.cells #[v, .int .i64 e0] 95 (0, 0))) :
    Calls Try.prog 51 #[.pointer (some ⟨b, 0, none⟩)] w fun e w' => e = .returned (.int .i64 e0) ∧ w = w' := by
  have h1 := cell0 h 1
  clear h
  go_enter Try.func51, Try.ntmps51
  go_wp2
  go_ret
  exact ⟨rfl, rfl⟩
theorem rdErr_any (b : Nat) (r : Option Nat) (s : RS) (w : World) (h : Rd w b r s) :
    Calls Try.prog 51 #[.pointer (some ⟨b, 0, none⟩)] w fun e w' => e = .returned (.int .i64 s.2) ∧ w = w' := by
  obtain ⟨_, A, c, h1, _⟩ := h
  exact rdErr_at b _ s.2 w h1

/-! ### fail -/
theorem rdFail_nil (x : Int) (w : World) : Calls Try.prog 52 #[.pointer none, .int .i64 x] w fun e w' => e = .returned (.tuple #[]) ∧ w = w' := by
  go_enter Try.func52, Try.ntmps52
  go_wp2_with (go_at_call 51; refine (rdErr_nil _).mono ?_; rintro e w' ⟨rfl, rfl⟩)
  go_end0
  exact ⟨rfl, rfl⟩
theorem rdFail_any (b : Nat) (r : Option Nat) (s : RS) (x : Int) (w : World) (h : Rd w b r s) :
    Calls Try.prog 52 #[.pointer (some ⟨b, 0, none⟩), .int .i64 x] w fun e w' => e = .returned (.tuple #[]) ∧ Rd w' b r (failS x s) ∧ Only b w w' := by
  obtain ⟨l, e0⟩ := s
  have hr := h
  obtain ⟨hn, A, c, h1, h2, h3, h4⟩ := h
  by_cases h0 : e0 = 0
  · subst h0
    have f1 := frozen0 h1 1
    have g1 := cell0 h1 1
    have fin : Rd (w.setCell ⟨b, 1, none⟩ (.int .i64 x)) b r (failS x (l, 0)) ∧ Only b w (w.setCell ⟨b, 1, none⟩ (.int .i64 x)) := by
      have hk : Only b w (w.setCell ⟨b, 1, none⟩ (.int .i64 x)) := (Keeps.refl (fun k => k = b) w).setCell (p := ⟨b, 1, none⟩) (fun _ => rfl) _
      exact ⟨⟨fun k h => ⟨Nat.lt_of_lt_of_le (hn k h).1 hk.size, (hn k h).2⟩, A, c, by rw [set0 h1]; rfl, h2, h3, h4.keeps hk (fun k h5 e => (hn k h5).2 e)⟩, hk⟩
    have FIN := Lib.hid fin
    have H1 := Lib.hid h1
    clear fin h1 h2 h3 h4 hr
    go_enter Try.func52, Try.ntmps52
    go_wp2_with (go_at_call 51; refine (rdErr_at b _ 0 _ H1.out).mono ?_; rintro e w' ⟨rfl, rfl⟩)
    go_end0
    exact ⟨rfl, FIN.out⟩
  · have hb : (e0 == 0) = false := by simpa using h0
    have fin : failS x (l, e0) = (l, e0) := by simp [failS, h0]
    have FIN := Lib.hid fin
    have HR := Lib.hid hr
    clear fin hr h1 h2 h3 h4 h0
    go_enter Try.func52, Try.ntmps52
    go_wp2_with (go_at_call 51; refine (rdErr_any b r _ _ HR.out).mono ?_; rintro e w' ⟨rfl, rfl⟩)
    go_end0
    exact ⟨rfl, by rw [FIN.out]; exact HR.out, Keeps.refl _ _⟩

/-! ### NewReader -/
def RdMade (xs : List UInt8) (w : World) (e : Ending) (w' : World) : Prop :=
  ∃ b r, e = .returned (.pointer (some ⟨b, 0, none⟩)) ∧ w.heap.size ≤ b ∧ (∀ k, r = some k → w.heap.size ≤ k) ∧ Rd w' b r (xs, 0) ∧ Keeps (fun _ => False) w w'
theorem newReader_any (A : Option Addr) (c : Nat) (xs : List UInt8) (w : World) (hs : Src w A (bvs xs)) (hx : xs.length ≤ 100000000) :
    Calls Try.prog 34 #[.slice A xs.length c] w (RdMade xs w) := by
  go_enter Try.func34, Try.ntmps34
  go_wp2_with fail
  refine (clone_any _ _ xs _ hs hx).mono ?_
  rintro e w1 ⟨A1, c1, rfl, hown, hk⟩
  go_wp2
  go_ret
  obtain ⟨A2, c2, hv, h1, h2, h3⟩ := RowIn.of_own hown
  injection hv with q1 q2 q3
  subst q1 q3
  have hlt := hown.lt
  have ka := (Keeps.refl (fun _ => False) w1).alloc (.cells #[Value.slice A1 xs.length c1, Value.int IntKind.i64 0] 95)
  refine ⟨w1.heap.size, (Value.slice A1 xs.length c1).ownBlock, rfl, hk.size, fun k h => (hlt k h).1, ⟨fun k h => ?_, A1, c1, heap_alloc_new w1 _, h1, h2, h3.keeps ka (fun _ _ => id)⟩, hk.trans ka⟩
  have := (hlt k h).2
  have := ka.size
  omega

/-! ### take -/
def Took (b : Nat) (r : Option Nat) (n : Nat) (s : RS) (w : World) (e : Ending) (w' : World) : Prop :=
  ∃ A c, e = .returned (.slice A (tk n s).2.length c) ∧ RowIn w' r A (bvs (tk n s).2) ∧ c ≤ maxLen ∧ Rd w' b r (tk n s).1 ∧ Only b w w'

theorem rdTake_bad (b : Nat) (r : Option Nat) (n : Nat) (s : RS) (w : World) (h : Rd w b r s) (he : s.2 ≠ 0) :
    Calls Try.prog 53 #[.pointer (some ⟨b, 0, none⟩), .int .i64 n] w (Took b r n s w) := by
  have hb : (s.2 != 0) = true := by simpa using he
  have fin : tk n s = (s, []) := by simp [tk, he]
  have FIN := Lib.hid fin
  clear fin he
  go_enter Try.func53, Try.ntmps53
  go_wp2_with (go_at_call 51; refine (rdErr_any b r _ _ h).mono ?_; rintro e w' ⟨rfl, rfl⟩)
  go_ret
  exact ⟨none, 0, by rw [FIN.out]; rfl, by rw [FIN.out]; exact RowIn.nil _ _ _, by unfold maxLen; omega, by rw [FIN.out]; exact h, Keeps.refl _ _⟩
theorem rdTake_nil (n : Int) (w : World) :
    Calls Try.prog 53 #[.pointer none, .int .i64 n] w fun e w' => e = .returned (.slice none 0 0) ∧ w = w' := by
  go_enter Try.func53, Try.ntmps53
  go_wp2_with (go_at_call 51; refine (rdErr_nil _).mono ?_; rintro e w' ⟨rfl, rfl⟩)
  go_ret
  exact ⟨rfl, rfl⟩
theorem rdTake_short (b : Nat) (r : Option Nat) (n : Nat) (l : List UInt8) (w : World) (h : Rd w b r (l, 0)) (hn : l.length < n) :
    Calls Try.prog 53 #[.pointer (some ⟨b, 0, none⟩), .int .i64 n] w (Took b r n (l, 0) w) := by
  have fin : tk n (l, 0) = ((l, 10), []) := by simp [tk, hn]
  have FIN := Lib.hid fin
  clear fin
  have HR := h
  obtain ⟨hne, A, c, h1, h2, h3, h4⟩ := h
  have g0 := cell0 h1 0
  have H1 := Lib.hid h1
  clear h1 h4
  go_enter Try.func53, Try.ntmps53
  go_wp2_with (first
    | (go_at_call 51; refine (rdErr_at b _ 0 _ H1.out).mono ?_; rintro e w' ⟨rfl, rfl⟩)
    | (go_at_call 52; refine (rdFail_any b r _ _ _ HR).mono ?_; rintro e w1 ⟨rfl, hr1, hk1⟩))
  go_ret
  exact ⟨none, 0, by rw [FIN.out]; rfl, by rw [FIN.out]; exact RowIn.nil _ _ _, by unfold maxLen; omega, by rw [FIN.out]; exact hr1, hk1⟩
theorem rdTake_ok (b : Nat) (r : Option Nat) (n : Nat) (l : List UInt8) (w : World) (h : Rd w b r (l, 0)) (hn : n ≤ l.length) :
    Calls Try.prog 53 #[.pointer (some ⟨b, 0, none⟩), .int .i64 n] w (Took b r n (l, 0) w) := by
  have fin : tk n (l, 0) = ((l.drop n, 0), l.take n) := by simp [tk, Nat.not_lt.2 hn]
  have FIN := Lib.hid fin
  clear fin
  obtain ⟨hne, A, c, h1, h2, h3, h4⟩ := h
  have g0 := cell0 h1 0
  have f0 := frozen0 h1 0
  have H1 := Lib.hid h1
  clear h1
  unfold maxLen at h3
  obtain ⟨A2, hA2⟩ : ∃ A2, (if c = n then A else A.map (·.add n)) = A2 := ⟨_, rfl⟩
  go_enter Try.func53, Try.ntmps53
  go_wp2_with (first
    | (go_at_call 51; refine (rdErr_at b _ 0 _ H1.out).mono ?_; rintro e w' ⟨rfl, rfl⟩))
  have hl1 : (l.take n).length = n := by rw [List.length_take, Nat.min_eq_left hn]
  have hl2 : (l.drop n).length = l.length - n := List.length_drop
  have hk : Only b w (w.setCell ⟨b, 0, none⟩ (.slice A2 (l.length - n) (c - n))) := (Keeps.refl (fun k => k = b) w).setCell (p := ⟨b, 0, none⟩) (fun _ => rfl) _
  go_ret
  refine ⟨A, n, by rw [FIN.out, hl1]; rfl, ?_, by unfold maxLen; omega, ?_, hk⟩
  · rw [FIN.out]
    show RowIn _ r A (bvs (l.take n))
    rw [← bvs_take]
    exact (h4.take n).keeps hk (fun k h5 e => (hne k h5).2 e)
  · rw [FIN.out]
    refine ⟨fun k h => ⟨Nat.lt_of_lt_of_le (hne k h).1 hk.size, (hne k h).2⟩, A2, c - n, by rw [set0 H1.out, hl2]; rfl, by rw [hl2]; omega, by unfold maxLen; omega, ?_⟩
    show RowIn _ r A2 (bvs (l.drop n))
    have h6 : RowIn w r A2 (bvs (l.drop n)) := by
      rw [← bvs_drop, ← hA2]
      exact h4.drop n c (by rw [bvs_length]; exact h2)
    exact h6.keeps hk (fun k h5 e => (hne k h5).2 e)
theorem rdTake_any (b : Nat) (r : Option Nat) (n : Nat) (s : RS) (w : World) (h : Rd w b r s) :
    Calls Try.prog 53 #[.pointer (some ⟨b, 0, none⟩), .int .i64 n] w (Took b r n s w) := by
  obtain ⟨l, e⟩ := s
  by_cases he : e = 0
  · subst he
    by_cases hn : n ≤ l.length
    · exact rdTake_ok b r n l w h hn
    · exact rdTake_short b r n l w h (by omega)
  · exact rdTake_bad b r n _ w h he
theorem rdTake_at (b : Nat) (r : Option Nat) (m : Int) (n : Nat) (s : RS) (w : World) (h : Rd w b r s) (hm : m = n) :
    Calls Try.prog 53 #[.pointer (some ⟨b, 0, none⟩), .int .i64 m] w (Took b r n s w) := by
  subst hm
  exact rdTake_any b r n s w h
end Go.Proofs.Ytmjpaopobnhckaa
