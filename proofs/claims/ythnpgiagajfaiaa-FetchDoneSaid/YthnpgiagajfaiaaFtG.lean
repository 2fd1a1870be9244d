/-
  A table and a dice in one world, step by step; and what a tick makes of one want.
-/
import Derived.Test.YthnpgiagajfaiaaFtE
import Derived.Test.YthnpgiagajfaiaaDiA
namespace Go.Proofs.Ythnpgiagajfaiaa
open Go.RowKit
set_option linter.unusedVariables false
set_option linter.unusedSimpArgs false

namespace Ft
theorem tick_one (base most budget : Nat) (s : BitVec 64) (q : Q) : tick base most budget s [q] = tk1 base most budget ⟨[], s, [], []⟩ q := rfl
theorem tick_nil (base most budget : Nat) (s : BitVec 64) : tick base most budget s [] = ⟨[], s, [], []⟩ := rfl
theorem one_on (base most budget : Nat) (s : BitVec 64) (q : Q) (h : 1 < q.left) : tick base most budget s [q] = ⟨[{ q with left := q.left - 1 }], s, [], []⟩ := by
  rw [tick_one]
  unfold tk1 say
  rw [if_pos (by omega)]
  rfl
theorem one_gone (base most budget : Nat) (s : BitVec 64) (q : Q) (h : q.left ≤ 1) (hb : q.tries = budget) : tick base most budget s [q] = ⟨[], s, [], [{ q with left := q.left - 1 }]⟩ := by
  rw [tick_one]
  unfold tk1 say
  rw [if_neg (by omega), if_pos hb]
  rfl
theorem one_told (base most budget : Nat) (s : BitVec 64) (q : Q) (h : q.left ≤ 1) (hb : q.tries ≠ budget) : tick base most budget s [q] = ⟨[{ q with tries := q.tries + 1, left := (wait base most q.tries : Int) + ((Di.bel s base).2 : Int) }], (Di.bel s base).1, [{ q with tries := q.tries + 1, left := (wait base most q.tries : Int) + ((Di.bel s base).2 : Int) }], []⟩ := by
  rw [tick_one]
  unfold tk1 say
  rw [if_neg (by omega), if_neg hb]
  rfl
theorem start_nil (k : Wn) : start [] k = [⟨k, 0, 1⟩] := rfl
end Ft

theorem wf_u8 {n : Int} (h : (Lit.int .u8 n).wf = true) : ∃ m : Nat, n = (m : Int) ∧ m ≤ 255 := by
  have hb := bounds_u8 h
  exact ⟨n.toNat, by omega, by omega⟩
theorem wf_u16 {n : Int} (h : (Lit.int .u16 n).wf = true) : ∃ m : Nat, n = (m : Int) ∧ m ≤ 65535 := by
  have hb := bounds_u16 h
  exact ⟨n.toNat, by omega, by omega⟩
theorem Ft.zero_ok : Ft.Wn.Ok ((0, List.replicate 32 0), (0, List.replicate 32 0)) := ⟨⟨by decide, by decide⟩, by decide, by decide⟩
theorem build_want_none (V : World) : (Instr.build 41 #[]).run Try.prog V = .ok (.agg (wcs ((0, List.replicate 32 0), (0, List.replicate 32 0))).toArray) V := by kernel_rfl
variable {At : World → (Nat → Prop) → Nat → Ft.Tb → Prop}
/-- A table and a dice, both made behind W. -/
structure Gm (At : World → (Nat → Prop) → Nat → Ft.Tb → Prop) (W w : World) (F : Nat → Prop) (g d : Nat) (t : Ft.Tb) (s : BitVec 64) : Prop where
  at_ : At w F g t
  dice : DiceAt w d s
  Fw : ∀ j, F j → W.heap.size ≤ j
  Fd : ¬ F d
  dW : W.heap.size ≤ d
  keeps : Keeps (fun _ => False) W w
/-- What a call changes: the table's blocks, the dice, new memory. -/
structure St (F : Nat → Prop) (d : Nat) (w : World) (F' : Nat → Prop) (w' : World) : Prop where
  keeps : Keeps (fun j => F j ∨ j = d) w w'
  new : ∀ j, F' j → F j ∨ w.heap.size ≤ j
/-- A row that is neither the table's nor the dice's. -/
structure Bx (w : World) (F : Nat → Prop) (d b : Nat) (t : TypeId) (cs : Array Value) : Prop where
  row : w.heap[b]? = some (.cells cs t (0, 0))
  nF : ¬ F b
  nd : b ≠ d
theorem Bx.lt {w : World} {F : Nat → Prop} {d b : Nat} {t : TypeId} {cs : Array Value} (h : Bx w F d b t cs) : b < w.heap.size := (Array.getElem?_eq_some_iff.1 h.row).1
theorem Bx.step {w w' : World} {F F' : Nat → Prop} {d b : Nat} {t : TypeId} {cs : Array Value} (h : Bx w F d b t cs) (hs : St F d w F' w') : Bx w' F' d b t cs :=
  ⟨(hs.keeps.block b h.lt (fun e => e.elim h.nF h.nd)).trans h.row, fun e => by
    rcases hs.new b e with h1 | h1
    · exact h.nF h1
    · have := h.lt; omega, h.nd⟩
theorem Bx.later {w w' : World} {F : Nat → Prop} {d b : Nat} {t : TypeId} {cs : Array Value} (h : Bx w F d b t cs) (hk : Keeps (fun _ => False) w w') : Bx w' F d b t cs :=
  h.step ⟨hk.mono (fun _ _ e => e.elim), fun _ hj => .inl hj⟩
theorem Gm.step {W w w' : World} {F F' : Nat → Prop} {g d : Nat} {t t' : Ft.Tb} {s s' : BitVec 64} (h : Gm At W w F g d t s) (ha : At w' F' g t') (hd : DiceAt w' d s') (hF : ∀ j, F' j → F j ∨ w.heap.size ≤ j) (hFd : ¬ F' d) (hk : Keeps (fun j => F j ∨ j = d) w w') : Gm At W w' F' g d t' s' :=
  ⟨ha, hd, fun j hj => by
      rcases hF j hj with h1 | h1
      · exact h.Fw j h1
      · have := h.keeps.size; omega,
    hFd, h.dW, h.keeps.trans' hk (fun j hj e => by
      rcases e with e | e
      · have := h.Fw j e; omega
      · have := h.dW; omega)⟩
theorem Gm.later (C : Fetch At) {W w w' : World} {F : Nat → Prop} {g d : Nat} {t : Ft.Tb} {s : BitVec 64} (h : Gm At W w F g d t s) (hk : Keeps (fun _ => False) w w') : Gm At W w' F g d t s :=
  h.step (C.keeps h.at_ hk (fun _ e => e.elim)) (Row.keeps h.dice hk id) (fun j hj => .inl hj) h.Fd (hk.mono (fun _ _ e => e.elim))
/-- A tick. -/
theorem Gm.tick (C : Fetch At) {W w : World} {F : Nat → Prop} {g d : Nat} {t : Ft.Tb} {s : BitVec 64} (h : Gm At W w F g d t s) (hl : t.l.length ≤ 1000) {r : Ft.Tk} (hr : t.tk s = r) :
    Calls Try.prog 16 #[.pointer (some ⟨g, 0, none⟩), .pointer (some ⟨d, 0, none⟩)] w fun e w' => ∃ F' A c A' c', e = .returned (.tuple #[.slice A r.asks.length c, .slice A' r.lost.length c']) ∧ Gm At W w' F' g d { t with l := r.l } r.s ∧
      w'.ownsRow w.heap.size 41 66 (.slice A r.asks.length c) r.asks.length (wfl (Ft.keys r.asks)) ∧ w'.ownsRow w.heap.size 41 66 (.slice A' r.lost.length c') r.lost.length (wfl (Ft.keys r.lost)) ∧ St F d w F' w' := by
  subst hr
  exact (C.tick d s h.at_ hl h.dice h.Fd).mono (fun e w' ⟨F', A, c, A', c', h1, h2, h3, h4, h5, h6, h7, h8⟩ => ⟨F', A, c, A', c', h1, h.step h2 h3 h6 h7 h8, h4, h5, ⟨h8, h6⟩⟩)
/-- Something is started. -/
theorem Gm.start (C : Fetch At) {W w : World} {F : Nat → Prop} {g d : Nat} {t : Ft.Tb} {s : BitVec 64} (h : Gm At W w F g d t s) (k : Ft.Wn) (hk : Ft.Wn.Ok k) :
    Calls Try.prog 12 #[.pointer (some ⟨g, 0, none⟩), .agg (wcs k).toArray] w fun e w' => ∃ F', e = .returned (.bool (!Ft.has t.l k)) ∧ Gm At W w' F' g d { t with l := Ft.start t.l k } s ∧ St F d w F' w' :=
  (C.start k h.at_ hk).mono (fun e w' ⟨F', h1, h2, h3, h4⟩ => ⟨F', h1, h.step h2 (Row.keeps h.dice h4 h.Fd) h3 (fun hf => by
    rcases h3 d hf with h5 | h5
    · exact h.Fd h5
    · have := h.dice.lt; omega) (h4.mono (fun _ _ hj => .inl hj)), ⟨h4.mono (fun _ _ hj => .inl hj), h3⟩⟩)
/-- Something is done. -/
theorem Gm.done (C : Fetch At) {W w : World} {F : Nat → Prop} {g d : Nat} {t : Ft.Tb} {s : BitVec 64} (h : Gm At W w F g d t s) (k : Ft.Wn) (hk : Ft.Wn.Ok k) :
    Calls Try.prog 14 #[.pointer (some ⟨g, 0, none⟩), .agg (wcs k).toArray] w fun e w' => ∃ F', e = .returned (.bool (Ft.has t.l k)) ∧ Gm At W w' F' g d { t with l := Ft.done t.l k } s ∧ St F d w F' w' :=
  (C.done k h.at_ hk).mono (fun e w' ⟨F', h1, h2, h3, h4⟩ => ⟨F', h1, h.step h2 (Row.keeps h.dice h4 h.Fd) h3 (fun hf => by
    rcases h3 d hf with h5 | h5
    · exact h.Fd h5
    · have := h.dice.lt; omega) (h4.mono (fun _ _ hj => .inl hj)), ⟨h4.mono (fun _ _ hj => .inl hj), h3⟩⟩)
theorem Gm.has (C : Fetch At) {W w : World} {F : Nat → Prop} {g d : Nat} {t : Ft.Tb} {s : BitVec 64} (h : Gm At W w F g d t s) (k : Ft.Wn) (hk : Ft.Wn.Ok k) :
    Calls Try.prog 20 #[.pointer (some ⟨g, 0, none⟩), .agg (wcs k).toArray] w fun e w' => e = .returned (.bool (Ft.has t.l k)) ∧ Gm At W w' F g d t s ∧ Keeps (fun _ => False) w w' :=
  (C.has k h.at_ hk).mono (fun e w' ⟨h1, h2⟩ => ⟨h1, h.later C h2, h2⟩)
theorem Gm.open (C : Fetch At) {W w : World} {F : Nat → Prop} {g d : Nat} {t : Ft.Tb} {s : BitVec 64} (h : Gm At W w F g d t s) (hl : t.l.length ≤ 1000) :
    Calls Try.prog 19 #[.pointer (some ⟨g, 0, none⟩)] w fun e w' => ∃ A c, e = .returned (.slice A t.l.length c) ∧ w'.ownsRow w.heap.size 41 66 (.slice A t.l.length c) t.l.length (wfl (Ft.keys t.l)) ∧ Gm At W w' F g d t s ∧ Keeps (fun _ => False) w w' :=
  (C.open h.at_ hl).mono (fun e w' ⟨A, c, h1, h2, h3⟩ => ⟨A, c, h1, h2, h.later C h3, h3⟩)
/-- The first dice behind a table. -/
theorem Gm.dnew (C : Fetch At) {W w : World} {F : Nat → Prop} {g : Nat} {t : Ft.Tb} (x : BitVec 64) (ha : At w F g t) (hF : ∀ j, F j → W.heap.size ≤ j) (hk : Keeps (fun _ => False) W w) :
    Calls Try.prog 11 #[.int .u64 (di x)] w fun e w' => ∃ d, e = .returned (.pointer (some ⟨d, 0, none⟩)) ∧ Gm At W w' F g d t x ∧ w.heap.size = d ∧ Keeps (fun _ => False) w w' :=
  (dnew_any w x).mono (fun e w' ⟨d, h1, h2, h3, h4⟩ => ⟨d, h1, ⟨C.keeps ha h4 (fun _ e => e.elim), h3, hF, fun h => by have := C.lt ha d h; omega, by have := hk.size; omega, hk.trans h4⟩, h2, h4⟩)
end Go.Proofs.Ythnpgiagajfaiaa
