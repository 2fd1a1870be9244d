/-
  A map literal of integers to nothing, and the variable that holds it, made in a drawn region: in whatever order. No number of any translation stands here.
-/
import Derived.Test.YtmhbfchhooggjaaTree
import Derived.Test.YtmhbfchhooggjaaDkA
import Derived.Test.YtmhbfchhooggjaaWalkE
namespace Go.Proofs.Ytmhbfchhooggjaa
open Go.RowKit Go.BigFrame
set_option linter.unusedVariables false
set_option linter.unusedSimpArgs false

/-- Integers, as a map to nothing. -/
def fset (L : List Int) : Int → Option Value := fun j => if j ∈ L then some (.agg #[]) else none
def ISet (w : World) (m : Nat) (L : List Int) : Prop := IMap w m (fset L)
theorem fset_nil : fset [] = fun _ => none := by
  funext j
  unfold fset
  rw [if_neg (by simp)]
theorem fset_snoc (L : List Int) (k : Int) : upd (fset L) k (some (.agg #[])) = fset (L ++ [k]) := by
  funext j
  unfold upd fset
  by_cases h1 : j = k
  · rw [if_pos h1, if_pos (by simp [h1])]
  · rw [if_neg h1]
    by_cases h2 : j ∈ L
    · rw [if_pos h2, if_pos (by simp [h2])]
    · rw [if_neg h2, if_neg (by simp [h1, h2])]
theorem fset_val (L : List Int) (k : Int) : (fset L k).getD (.agg #[]) = .agg #[] := by
  unfold fset
  split <;> rfl
theorem fset_in {L : List Int} {k : Int} {q : Bool} (h : q = true ↔ k ∈ L) : (fset L k).isSome = q := by
  unfold fset
  by_cases hk : k ∈ L
  · rw [if_pos hk, h.2 hk]; rfl
  · rw [if_neg hk]
    cases q with
    | true => exact absurd (h.1 rfl) hk
    | false => rfl
theorem ISet.keeps {S : Nat → Prop} {w w' : World} {m : Nat} {L : List Int} (h : ISet w m L) (hk : Keeps S w w') (hs : ¬ S m) : ISet w' m L := IMap.keeps h hk hs
theorem ISet.made (w : World) : ISet (w.alloc (.map #[] 0)) w.heap.size [] := by
  unfold ISet
  rw [fset_nil]
  exact IMap.made w
/-- In the midst of it: is the map made, with what in it; is the variable made. -/
def InsF (w0 : World) (T : TypeId) (mp : Option (Nat × List Int)) (pp : Option Nat) (w : World) : Prop :=
  (∀ x, mp = some x → w0.heap.size ≤ x.1 ∧ ISet w x.1 x.2) ∧ (∀ p, pp = some p → w0.heap.size ≤ p ∧ w.heap[p]? = some (.cells #[.map none] T (0, 0)))
def InsE (w0 : World) (T : TypeId) (m p : Nat) (L : List Int) (w : World) : Prop := w0.heap.size ≤ m ∧ w0.heap.size ≤ p ∧ ISet w m L ∧ w.heap[p]? = some (.cells #[.map (some m)] T (0, 0))
theorem InsF.lasts {w0 : World} {T : TypeId} {mp : Option (Nat × List Int)} {pp : Option Nat} : Lasts (InsF w0 T mp pp) := fun w w' h hk =>
  ⟨fun x hx => ⟨(h.1 x hx).1, (h.1 x hx).2.keeps hk id⟩, fun p hp => ⟨(h.2 p hp).1, (hk.block p (Array.getElem?_eq_some_iff.1 (h.2 p hp).2).1 id).trans (h.2 p hp).2⟩⟩
theorem InsE.lasts {w0 : World} {T : TypeId} {m p : Nat} {L : List Int} : Lasts (InsE w0 T m p L) := fun w w' h hk =>
  ⟨h.1, h.2.1, h.2.2.1.keeps hk id, (hk.block p (Array.getElem?_eq_some_iff.1 h.2.2.2).1 id).trans h.2.2.2⟩
def ofMap (v : Value) (L : List Int) : Option (Nat × List Int) := match v with | .map (some m) => some (m, L) | _ => none
def ofPtr (v : Value) : Option Nat := match v with | .pointer (some a) => some a.block | _ => none
section
variable {P : Program} {ops : Array Oper} {ls : List Nat} {a : Act} {F : World → Prop} {k : Nat} {o : Oper} {K : Act → (World → Prop) → Prop} {w0 : World} {T : TypeId}
theorem S_make (h0 : ops[k]? = some o) (hw : Region.wanted o (yielded ops a.tmps) = true) (hk : ls.contains k = true) (M : TypeId) (pp : Option Nat) (ho : o.op = .makeMap M none) (hF : ∀ w, F w → InsF w0 T none pp w)
    (h : ∀ m, K (a.put o.dst (.map (some m))) (InsF w0 T (some (m, [])) pp)) : stepT P ops (Later w0) ls k K a F := by
  refine S_loose h0 hw hk (fun v => ∃ m, v = .map (some m)) (fun v => InsF w0 T (ofMap v []) pp) ⟨fun v => InsF.lasts, fun w hb hf => ?_⟩ ?_
  · have k1 : Keeps (fun _ => False) w (w.alloc (.map #[] 0)) := (Keeps.refl _ _).alloc _
    unfold execOp
    simp only [ho, Option.map_none, Sem.run_bind, Sem.run_pure, Result.andThen_ok, run_makeMap]
    refine ⟨⟨hb.out.trans k1⟩, ⟨_, rfl⟩, fun x hx => ?_, (InsF.lasts w _ (hF w hf) k1).2⟩
    have e : (w.heap.size, ([] : List Int)) = x := by injection hx
    subst e
    exact ⟨hb.out.size, ISet.made w⟩
  · rintro v ⟨m, rfl⟩
    exact h m
theorem S_alloc (h0 : ops[k]? = some o) (hw : Region.wanted o (yielded ops a.tmps) = true) (hk : ls.contains k = true) (mp : Option (Nat × List Int)) (ho : o.op = .alloc T) (hrun : ∀ w, (Instr.alloc T true (.tuple #[])).run P w = .ok (.pointer (some ⟨w.heap.size, 0, none⟩)) (w.alloc (.cells #[.map none] T))) (hF : ∀ w, F w → InsF w0 T mp none w)
    (h : ∀ p, K (a.put o.dst (.pointer (some ⟨p, 0, none⟩))) (InsF w0 T mp (some p))) : stepT P ops (Later w0) ls k K a F := by
  refine S_loose h0 hw hk (fun v => ∃ p, v = .pointer (some ⟨p, 0, none⟩)) (fun v => InsF w0 T mp (ofPtr v)) ⟨fun v => InsF.lasts, fun w hb hf => ?_⟩ ?_
  · have k1 : Keeps (fun _ => False) w (w.alloc (.cells #[.map none] T)) := (Keeps.refl _ _).alloc _
    unfold execOp
    simp only [ho, Sem.run_bind, Sem.run_pure, Result.andThen_ok, hrun]
    refine ⟨⟨hb.out.trans k1⟩, ⟨_, rfl⟩, (InsF.lasts w _ (hF w hf) k1).1, fun p hp => ?_⟩
    have e : w.heap.size = p := by injection hp
    subst e
    exact ⟨hb.out.size, heap_alloc_new w _⟩
  · rintro v ⟨p, rfl⟩
    exact h p
theorem S_insert (h0 : ops[k]? = some o) (hw : Region.wanted o (yielded ops a.tmps) = true) (hk : ls.contains k = true) (M kt e : TypeId) (mo ko vo : Operand) (m : Nat) (L : List Int) (x : Int) (pp : Option Nat) (ho : o.op = .insert M mo ko vo) (hd : o.dst = none) (ht : P.underlying M = some (.map kt e)) (hkt : P.underlying kt = some (.int .i64))
    (hm : a.eval mo = .map (some m)) (hx : a.eval ko = .int .i64 x) (hv : a.eval vo = .agg #[]) (hF : ∀ w, F w → InsF w0 T (some (m, L)) pp w) (h : K a (InsF w0 T (some (m, L ++ [x])) pp)) : stepT P ops (Later w0) ls k K a F := by
  refine S_loose h0 hw hk (fun v => v = undef) (fun v => InsF w0 T (some (m, L ++ [x])) pp) ⟨fun v => InsF.lasts, fun w hb hf => ?_⟩ ?_
  · obtain ⟨f1, f2⟩ := hF w hf
    obtain ⟨g1, g2⟩ := f1 _ rfl
    obtain ⟨w', hrun, r1, r2⟩ := IMap.store g2 ht hkt x (.agg #[])
    rw [fset_snoc] at r1
    unfold execOp
    simp only [ho, hm, hx, hv, Sem.run_bind, Sem.run_pure, Result.andThen_ok, hrun]
    refine ⟨⟨hb.out.trans' r2 (fun i hi e => by have e' : i = m := e; have : w0.heap.size ≤ m := g1; omega)⟩, rfl, fun y hy => ?_, fun p hp => ?_⟩
    · have e : (m, L ++ [x]) = y := by injection hy
      subst e
      exact ⟨g1, r1⟩
    · have hne : m ≠ p := IMap.apart g2 (f2 p hp).2
      exact ⟨(f2 p hp).1, (r2.block p (Array.getElem?_eq_some_iff.1 (f2 p hp).2).1 (fun e => hne (show p = m from e).symm)).trans (f2 p hp).2⟩
  · rintro v rfl
    rw [hd]
    exact h
theorem S_keep (h0 : ops[k]? = some o) (hw : Region.wanted o (yielded ops a.tmps) = true) (hk : ls.contains k = true) (po xo : Operand) (m p : Nat) (L : List Int) (ho : o.op = .store T po xo) (hd : o.dst = none) (hi : (P.info? T).map (·.size) = some 1)
    (hp : a.eval po = .pointer (some ⟨p, 0, none⟩)) (hx : a.eval xo = .map (some m)) (hF : ∀ w, F w → InsF w0 T (some (m, L)) (some p) w) (h : K a (InsE w0 T m p L)) : stepT P ops (Later w0) ls k K a F := by
  refine S_loose h0 hw hk (fun v => v = undef) (fun v => InsE w0 T m p L) ⟨fun v => InsE.lasts, fun w hb hf => ?_⟩ ?_
  · obtain ⟨f1, f2⟩ := hF w hf
    obtain ⟨g1, g2⟩ := f1 _ rfl
    obtain ⟨q1, q2⟩ := f2 p rfl
    have hr : Row w p T [.map none] := q2
    have hrun := run_storeVar_cell (P := P) w ⟨p, 0, none⟩ T (.map (some m)) (.map none) (hr.cell 0) (hr.frozen 0) rfl rfl hi
    have r2 : Keeps (fun j => j = p) w (w.setCell ⟨p, 0, none⟩ (.map (some m))) := (Keeps.refl (fun j => j = p) w).setCell (p := ⟨p, 0, none⟩) (fun _ => rfl) _
    have hne : m ≠ p := IMap.apart g2 q2
    unfold execOp
    simp only [ho, hp, hx, Instr.storeAt, Instr.sureAddr, Sem.run_bind, Sem.run_pure, Result.andThen_ok, hrun]
    exact ⟨⟨hb.out.trans' r2 (fun i hi e => by have e' : i = p := e; omega)⟩, rfl, g1, q1, g2.keeps r2 hne, hr.set 0 _⟩
  · rintro v rfl
    rw [hd]
    exact h
end
end Go.Proofs.Ytmhbfchhooggjaa
