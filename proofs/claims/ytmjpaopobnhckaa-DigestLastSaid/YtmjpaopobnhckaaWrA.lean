/-
  octet's Writer: what each of its methods does, as contracts over the translation.
-/
import Derived.Test.YtmjpaopobnhckaaRows
import Derived.Test.YtmjpaopobnhckaaBase
import Derived.WalkSpells
import Derived.Outline
namespace Go.Proofs.Ytmjpaopobnhckaa
open Go.RowKit
set_option linter.unusedVariables false

theorem info_u8 : (Try.prog.info? 5).map (fun i => (i.zero, i.size, i.bytes)) = some (some (.int .u8 0), 1, 1) := by kernel_rfl

/-- At block b lies a Writer that has put xs; the row of its bytes is block r. -/
def Wr (w : World) (b : Nat) (r : Option Nat) (xs : List UInt8) : Prop :=
  ∃ v, w.heap[b]? = some (.cells #[v] 90 (0, 0)) ∧ v.ownBlock = r ∧ w.ownsRow 0 5 1 v xs.length (bvs xs)

/-- What a method of the Writer at b leaves: news are put besides. -/
def WrPut (b : Nat) (r : Option Nat) (xs : List UInt8) (w : World) (e : Ending) (w' : World) : Prop :=
  e = .returned (.tuple #[]) ∧ ∃ r', Wr w' b r' xs ∧ (r' = r ∨ ∃ k, w.heap.size ≤ k ∧ r' = some k) ∧ Keeps (fun k => k = b ∨ r = some k) w w'

section
variable {w w' : World} {b : Nat} {r : Option Nat} {xs : List UInt8}
theorem Wr.lt (h : Wr w b r xs) : b < w.heap.size := by
  obtain ⟨v, h1, _⟩ := h
  exact (Array.getElem?_eq_some_iff.1 h1).1
theorem Wr.keeps {S : Nat → Prop} (h : Wr w b r xs) (hk : Keeps S w w') (hb : ¬ S b) (hr : ∀ k, r = some k → ¬ S k) : Wr w' b r xs := by
  have hl := h.lt
  obtain ⟨v, h1, h2, h3⟩ := h
  exact ⟨v, (hk.block b hl hb).trans h1, h2, hk.owns h3 (fun k hv => hr k (h2.symm.trans hv))⟩
theorem Wr.row_lt (h : Wr w b r xs) : ∀ k, r = some k → k < w.heap.size ∧ k ≠ b := by
  obtain ⟨v, h1, h2, h3⟩ := h
  intro k hk
  have hv : v.ownBlock = some k := h2.trans hk
  refine ⟨(h3.lt k hv).2, fun e => ?_⟩
  subst e
  rcases h3.2 with ⟨rfl, _⟩ | ⟨g, cap, cur, rfl, _, hg, _⟩
  · simp [Value.ownBlock] at hv
  · have : g = k := by simpa [Value.ownBlock] using hv
    subst this
    rw [hg] at h1
    simp at h1
end

theorem isNumSize_any (n : Int) (w : World) (ok : Bool) (hok : (decide (1 ≤ n) && decide (n ≤ 8)) = ok) :
    Calls Try.prog 46 #[.int .i64 n] w fun e w' => e = .returned (.bool ok) ∧ w = w' := by
  subst hok
  by_cases h1 : 1 ≤ n <;> by_cases h2 : n ≤ 8
  all_goals
    go_enter Try.func46, Try.ntmps46
    go_wp2
    go_ret
    exact ⟨by simp [h1, h2], rfl⟩

theorem newWriter_any (w : World) :
    Calls Try.prog 28 #[] w fun e w' => e = .returned (.pointer (some ⟨w.heap.size, 0, none⟩)) ∧ w.alloc (.cells #[.slice none 0 0] 90) = w' := by
  go_enter Try.func28, Try.ntmps28
  go_wp2
  go_ret
  exact ⟨rfl, rfl⟩
theorem newWriter_wr (w : World) : Wr (w.alloc (.cells #[.slice none 0 0] 90)) w.heap.size none [] :=
  ⟨_, heap_alloc_new w _, rfl, World.ownsRow_nil _ _ _ _⟩

/-- What is copied lies in a new row of its own. -/
def Cloned (xs : List UInt8) (w : World) (e : Ending) (w' : World) : Prop :=
  ∃ A c, e = .returned (.slice A xs.length c) ∧ w'.ownsRow w.heap.size 5 1 (.slice A xs.length c) xs.length (bvs xs) ∧ Keeps (fun _ => False) w w'

theorem clone_nil (w : World) (c : Nat) :
    Calls Try.prog 48 #[.slice none 0 c] w fun e w' => e = .returned (.slice none 0 0) ∧ w = w' := by
  have hn := fun (w : World) => Lib.run_eql_slice_nil (P := Try.prog) w 37 5 none 0 c 0 0 Try.underlying37
  go_enter Try.func48, Try.ntmps48
  go_wp2
  go_ret
  exact ⟨rfl, rfl⟩

theorem clone_some (a : Addr) (c : Nat) (xs : List UInt8) (w : World) (hs : Src w (some a) (bvs xs)) (hx : xs.length ≤ 100000000) :
    Calls Try.prog 48 #[.slice (some a) xs.length c] w (Cloned xs w) := by
  have hn := fun (w : World) => Lib.run_eql_slice_nil (P := Try.prog) w 37 5 (some a) xs.length c 0 0 Try.underlying37
  obtain ⟨i0, hi, hz0, hz1, hz2⟩ := info_parts info_u8
  go_enter Try.func48, Try.ntmps48
  go_wp2_with (at_builtin; refine wpList_append_src _ rfl _ _ 37 rfl w.heap.size 5 i0 (.int .u8 0) 1 Try.underlying37 hi hz0 hz1 hz2 rfl (.slice (some ⟨w.heap.size, 0, none⟩) 0 0) 0 [] rfl ?own (some a) xs.length c (bvs xs) rfl ?len ?src (bvs_one _) ?m1 ?m2 ?base ?next)
  case own => exact World.ownsRow_made w #[] 0 (Nat.le_refl _) (by unfold maxLen; omega) rfl
  case len => exact bvs_length _
  case src => exact hs.alloc _
  case m1 => unfold maxLen; omega
  case m2 => omega
  case base => simp
  case next =>
    intro v' w' hown hg hat
    go_wp2
    go_ret
    obtain ⟨A, cap, rfl, _, _, _⟩ := RowIn.of_own hown
    exact ⟨A, cap, rfl, hown, ((Keeps.refl _ _).alloc _).grown hg (fun k hk h => by simp [Value.ownBlock] at h; omega)⟩

/-- Whatever the source: nil, empty, or not. -/
theorem clone_any (A : Option Addr) (c : Nat) (xs : List UInt8) (w : World) (hs : Src w A (bvs xs)) (hx : xs.length ≤ 100000000) :
    Calls Try.prog 48 #[.slice A xs.length c] w (Cloned xs w) := by
  cases A with
  | some a => exact clone_some a c xs w hs hx
  | none =>
    have hn : xs = [] := by
      cases xs with
      | nil => rfl
      | cons u l => obtain ⟨a, h, _⟩ := hs 0 (bv u) rfl; cases h
    subst hn
    refine (clone_nil w c).mono ?_
    rintro e w' ⟨rfl, rfl⟩
    exact ⟨none, 0, rfl, World.ownsRow_nil _ _ _ _, Keeps.refl _ _⟩

/-- The value of the Writer's field, as a slice. -/
theorem Wr.form {w : World} {b : Nat} {r : Option Nat} {xs : List UInt8} (h : Wr w b r xs) :
    ∃ A c, w.heap[b]? = some (.cells #[.slice A xs.length c] 90 (0, 0)) ∧ (Value.slice A xs.length c).ownBlock = r ∧ w.ownsRow 0 5 1 (.slice A xs.length c) xs.length (bvs xs) := by
  obtain ⟨v, h1, h2, h3⟩ := h
  obtain ⟨A, c, rfl, _⟩ := RowIn.of_own h3
  exact ⟨A, c, h1, h2, h3⟩
theorem cell0 {w : World} {b : Nat} {cs : Array Value} {t : TypeId} (h : w.heap[b]? = some (.cells cs t (0, 0))) (i : Nat) : w.cell? ⟨b, i, none⟩ = cs[i]? := cell_of_row w b i cs t (0, 0) h
theorem frozen0 {w : World} {b : Nat} {cs : Array Value} {t : TypeId} (h : w.heap[b]? = some (.cells cs t (0, 0))) (i : Nat) : w.frozen? ⟨b, i, none⟩ = false := by simp [World.frozen?, h]
theorem set0 {w : World} {b : Nat} {cs : Array Value} {t : TypeId} (h : w.heap[b]? = some (.cells cs t (0, 0))) (i : Nat) (u : Value) : (w.setCell ⟨b, i, none⟩ u).heap[b]? = some (.cells (cs.setIfInBounds i u) t (0, 0)) := by
  simp [World.setCell, Array.getElem?_modify, h]

/-- Behind an append onto the Writer's row, and the store of the new slice into its field. -/
theorem wr_put {w w1 w2 : World} {b : Nat} {r : Option Nat} {v : Value} {c0 : Value} {ys : List UInt8} (hb : w.heap[b]? = some (.cells #[c0] 90 (0, 0))) (hrb : r ≠ some b) (k1 : Keeps (fun _ => False) w w1)
    (hown : w2.ownsRow 0 5 1 v ys.length (bvs ys)) (hg : w1.grownBy w2 r) (hat : v.ownBlock = r ∨ v.ownBlock = some w1.heap.size) :
    ∃ r', Wr (w2.setCell ⟨b, 0, none⟩ v) b r' ys ∧ (r' = r ∨ ∃ k, w.heap.size ≤ k ∧ r' = some k) ∧ Keeps (fun k => k = b ∨ r = some k) w (w2.setCell ⟨b, 0, none⟩ v) := by
  have hlt : b < w.heap.size := (Array.getElem?_eq_some_iff.1 hb).1
  have k2 : Keeps (fun k => r = some k) w w2 := (k1.mono (fun _ _ h => h.elim)).grown hg (fun k _ h => h)
  have hb2 := (k2.block b hlt hrb).trans hb
  have hne : v.ownBlock ≠ some b := by
    rcases hat with h | h
    · rw [h]; exact hrb
    · rw [h]; intro e; injection e with e; have := k1.size; omega
  have k3 : Keeps (fun k => k = b) w2 (w2.setCell ⟨b, 0, none⟩ v) := (Keeps.refl (fun k => k = b) w2).setCell (p := ⟨b, 0, none⟩) (fun _ => rfl) v
  refine ⟨v.ownBlock, ⟨v, by rw [set0 hb2]; rfl, rfl, k3.owns hown (fun k hk e => hne (by rw [hk, e]))⟩, ?_, ?_⟩
  · rcases hat with h | h
    · exact .inl h
    · exact .inr ⟨_, k1.size, h⟩
  · exact (k2.mono (fun _ _ h => .inr h)).trans' k3 (fun i _ h => .inl h)

theorem wrRaw_any (b : Nat) (r : Option Nat) (xs ys : List UInt8) (A : Option Addr) (c : Nat) (w : World) (hw : Wr w b r xs) (hs : Src w A (bvs ys)) (hx : xs.length + ys.length ≤ 100000000) :
    Calls Try.prog 47 #[.pointer (some ⟨b, 0, none⟩), .slice A ys.length c] w (WrPut b r (xs ++ ys) w) := by
  obtain ⟨i0, hi, hz0, hz1, hz2⟩ := info_parts info_u8
  have hlt := hw.lt
  have hrb : r ≠ some b := fun e => (hw.row_lt b e).2 rfl
  obtain ⟨A0, c0, hb, hr, hown0⟩ := hw.form
  have h0 := cell0 hb 0
  have f0 := frozen0 hb 0
  have HB := Lib.hid hb
  clear hb
  go_enter Try.func47, Try.ntmps47
  go_wp2_with (at_builtin; refine wpList_append_src _ rfl _ _ 37 rfl 0 5 i0 (.int .u8 0) 1 Try.underlying37 hi hz0 hz1 hz2 rfl (.slice A0 xs.length c0) xs.length (bvs xs) rfl hown0 A ys.length c (bvs ys) rfl ?len hs (bvs_one _) ?m1 ?m2 (Nat.zero_le _) ?next)
  case len => exact bvs_length _
  case m1 => unfold maxLen; omega
  case m2 => omega
  case next =>
    intro v' w' hown hg hat
    rw [bvs_append, ← List.length_append] at hown
    obtain ⟨A1, c1, rfl, _⟩ := RowIn.of_own hown
    have hb2 := (hg.block b hlt (fun e => hrb e.symm)).trans HB.out
    have g0 := cell0 hb2 0
    have e0 := frozen0 hb2 0
    have fin := wr_put HB.out hrb (Keeps.refl _ w) hown hg hat
    have FIN := Lib.hid fin
    clear fin hb2 hat hown hr h0 f0
    go_wp2
    go_end0
    exact ⟨rfl, by simpa only [List.length_append] using FIN.out⟩

theorem wrRaw_nil (A : Option Addr) (n c : Nat) (w : World) :
    Calls Try.prog 47 #[.pointer none, .slice A n c] w fun e w' => e = .returned (.tuple #[]) ∧ w = w' := by
  go_enter Try.func47, Try.ntmps47
  go_wp2
  refine bodyPost_ret (results_none rfl _ _ _) rfl ?_
  exact ⟨rfl, rfl⟩

theorem wrOut_any (b : Nat) (r : Option Nat) (xs : List UInt8) (w : World) (hw : Wr w b r xs) (hx : xs.length ≤ 100000000) :
    Calls Try.prog 31 #[.pointer (some ⟨b, 0, none⟩)] w (Cloned xs w) := by
  obtain ⟨A0, c0, hb, hr, hown0⟩ := hw.form
  have h0 := cell0 hb 0
  have hs := Src.of_own hown0
  have hlt := hw.lt
  clear hb hr hown0
  go_enter Try.func31, Try.ntmps31
  go_wp2_with fail
  refine (clone_any _ _ xs _ hs hx).mono ?_
  rintro e w' ⟨A, c, rfl, hown, hk⟩
  go_wp2
  go_ret
  exact ⟨A, c, rfl, hown, hk⟩
theorem wrOut_nil (w : World) :
    Calls Try.prog 31 #[.pointer none] w fun e w' => e = .returned (.slice none 0 0) ∧ w = w' := by
  go_enter Try.func31, Try.ntmps31
  go_wp2
  go_ret
  exact ⟨rfl, rfl⟩

end Go.Proofs.Ytmjpaopobnhckaa
