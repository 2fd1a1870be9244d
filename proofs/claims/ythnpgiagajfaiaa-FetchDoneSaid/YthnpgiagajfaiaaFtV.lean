/-
  Three rows of what is asked for that grow side by side; a table beside three other results.
-/
import Derived.Test.YthnpgiagajfaiaaFtU
namespace Go.Proofs.Ythnpgiagajfaiaa
open Go.RowKit Go.BigFrame
set_option linter.unusedVariables false
set_option linter.unusedSimpArgs false

/-- Three rows in blocks of their own. -/
structure R3 (w : World) (B : Nat) (vl va vo : Value) (l a o : List Ft.Q) : Prop where
  rl : w.ownsRow B 71 68 vl l.length (qfl l)
  ra : w.ownsRow B 71 68 va a.length (qfl a)
  ro : w.ownsRow B 71 68 vo o.length (qfl o)
  la : ∀ b, vl.ownBlock = some b → va.ownBlock ≠ some b
  lo : ∀ b, vl.ownBlock = some b → vo.ownBlock ≠ some b
  ao : ∀ b, va.ownBlock = some b → vo.ownBlock ≠ some b
  below : B ≤ w.heap.size
section
variable {w V w' : World} {B : Nat} {vl va vo vl' : Value} {l a o : List Ft.Q} {q : Ft.Q}
theorem own_lt {base size n : Nat} {e : TypeId} {v : Value} {xs : List Value} (h : w.ownsRow base e size v n xs) {b : Nat} (hb : v.ownBlock = some b) : b < w.heap.size := by
  obtain ⟨_, hg, _⟩ := own_block h b hb
  exact (Array.getElem?_eq_some_iff.1 hg).1
theorem R3.keeps {S : Nat → Prop} (h : R3 w B vl va vo l a o) (k : Keeps S w V) (hs : ∀ b, S b → vl.ownBlock ≠ some b ∧ va.ownBlock ≠ some b ∧ vo.ownBlock ≠ some b) : R3 V B vl va vo l a o :=
  ⟨k.owns h.rl (fun b hb e => (hs b e).1 hb), k.owns h.ra (fun b hb e => (hs b e).2.1 hb), k.owns h.ro (fun b hb e => (hs b e).2.2 hb), h.la, h.lo, h.ao, Nat.le_trans h.below k.size⟩
theorem R3.later (h : R3 w B vl va vo l a o) (k : Keeps (fun _ => False) w V) : R3 V B vl va vo l a o := h.keeps k (fun _ e => e.elim)
theorem R3.ne (h : R3 w B vl va vo l a o) {b : Nat} (hb : w.heap.size ≤ b) : vl.ownBlock ≠ some b ∧ va.ownBlock ≠ some b ∧ vo.ownBlock ≠ some b :=
  ⟨fun e => by have := own_lt h.rl e; omega, fun e => by have := own_lt h.ra e; omega, fun e => by have := own_lt h.ro e; omega⟩
theorem R3.low (h : R3 w B vl va vo l a o) {b : Nat} (hb : b < B) : vl.ownBlock ≠ some b ∧ va.ownBlock ≠ some b ∧ vo.ownBlock ≠ some b :=
  ⟨fun e => by obtain ⟨_, _, h2⟩ := own_block h.rl b e; omega, fun e => by obtain ⟨_, _, h2⟩ := own_block h.ra b e; omega, fun e => by obtain ⟨_, _, h2⟩ := own_block h.ro b e; omega⟩
theorem R3.swapA (h : R3 w B vl va vo l a o) : R3 w B va vl vo a l o := ⟨h.ra, h.rl, h.ro, fun b h1 h2 => h.la b h2 h1, h.ao, h.lo, h.below⟩
theorem R3.swapO (h : R3 w B vl va vo l a o) : R3 w B vo va vl o a l := ⟨h.ro, h.ra, h.rl, fun b h1 h2 => h.ao b h2 h1, fun b h1 h2 => h.lo b h2 h1, fun b h1 h2 => h.la b h2 h1, h.below⟩
theorem R3.base {B' : Nat} (h : R3 w B vl va vo l a o) (hb : B' ≤ B) : R3 w B' vl va vo l a o := ⟨own_base h.rl hb, own_base h.ra hb, own_base h.ro hb, h.la, h.lo, h.ao, Nat.le_trans hb h.below⟩
/-- The first one grows. -/
theorem R3.push (h : R3 w B vl va vo l a o) (k : Keeps (fun _ => False) w V) (ho : w'.ownsRow B 71 68 vl' (l.length + 1) (qfl l ++ qcs q)) (hg : V.grownBy w' vl.ownBlock) (hob : vl'.ownBlock = vl.ownBlock ∨ vl'.ownBlock = some V.heap.size) :
    R3 w' B vl' va vo (l ++ [q]) a o ∧ Keeps (fun j => vl.ownBlock = some j) w w' := by
  have hV := h.later k
  have kk : Keeps (fun j => vl.ownBlock = some j) V w' := (Keeps.refl _ _).grown hg (fun _ _ h => h)
  have hne : ∀ b, vl'.ownBlock = some b → va.ownBlock ≠ some b ∧ vo.ownBlock ≠ some b := fun b hb => by
    rcases hob with e | e
    · rw [e] at hb; exact ⟨h.la b hb, h.lo b hb⟩
    · rw [e] at hb; injection hb with hb; have := hV.ne (b := b) (by omega); exact this.2
  refine ⟨⟨by rw [← qfl_snoc, List.length_append]; exact ho, kk.owns hV.ra (fun b hb e => h.la b e hb), kk.owns hV.ro (fun b hb e => h.lo b e hb), fun b hb => (hne b hb).1, fun b hb => (hne b hb).2, h.ao, Nat.le_trans hV.below kk.size⟩, (k.mono (fun _ _ h => h.elim)).trans kk⟩
end
theorem results_cell_three {P : Program} {fn : Func} {p u v x : Tmp} {ty : TypeId} (h : fn.results = #[.cell p ty, .tmp u, .tmp v, .tmp x]) (tmps : Array Value) (w : World) (g : Nat) (t : TypeId) (cs : Array Value) (fr : Nat × Nat) (d : TypeDesc)
    (hp : tmps.getD p undef = .pointer (some ⟨g, 0, none⟩)) (hg : w.heap[g]? = some (.cells cs t fr))
    (hu : P.underlying ty = some d) (hd : (match d with | .struct _ | .array _ _ => true | _ => false) = true) (hi : (P.info? ty).map (·.size) = some cs.size) :
    (results fn tmps).run P w = .ok (.tuple #[.agg cs, tmps.getD u undef, tmps.getD v undef, tmps.getD x undef]) w := by
  have hp' : tmps[p]?.getD undef = .pointer (some ⟨g, 0, none⟩) := by simpa using hp
  simp [results, h, hp', asAddr, run_loadVar_row w g t ty cs fr d hg hu hd hi]
/-- One that can be ticked without an overflow. -/
def Ft.Q.Fine (q : Ft.Q) : Prop := Ft.Q.Ok q ∧ q.tries ≤ 20 ∧ 0 ≤ q.left ∧ q.left ≤ 2000
theorem qcs_left (q : Ft.Q) (hq : Ft.Q.Ok q) (x : Int) : (qcs q).set 67 (.int .i64 x) = qcs { q with left := x } := by
  have h := List.set_append_right (s := wcs q.key) (t := [Value.int .i64 (q.tries : Int), Value.int .i64 q.left]) (x := Value.int .i64 x) (i := 67) (by rw [wcs_length hq]; omega)
  rw [wcs_length hq] at h
  exact h
theorem qcs_tries (q : Ft.Q) (hq : Ft.Q.Ok q) (n : Nat) : (qcs q).set 66 (.int .i64 (n : Int)) = qcs { q with tries := n } := by
  have h := List.set_append_right (s := wcs q.key) (t := [Value.int .i64 (q.tries : Int), Value.int .i64 q.left]) (x := Value.int .i64 (n : Int)) (i := 66) (by rw [wcs_length hq]; omega)
  rw [wcs_length hq] at h
  exact h
end Go.Proofs.Ythnpgiagajfaiaa
