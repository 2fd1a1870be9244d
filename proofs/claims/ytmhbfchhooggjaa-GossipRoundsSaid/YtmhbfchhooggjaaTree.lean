/-
  Drawn regions in which several operations may come in any order, walked as a tree: each order of those that write, one by one; all end in one place. No number of any translation stands here.
-/
import Derived.Test.YtmhbfchhooggjaaFork
namespace Go.Proofs.Ytmhbfchhooggjaa
open Go.RowKit
set_option linter.unusedVariables false

def wpTree (P : Program) (ops : Array Oper) (B : World → Prop) (ls : List Nat) (E : Act → World → Prop) : Nat → Array Bool → Act → (World → Prop) → Prop
  | 0, listed, a, F => (Region.ready .any ops listed).isEmpty = true ∧ ∀ w, B w → F w → E a w
  | n + 1, listed, a, F => Region.ready .any ops listed ≠ [] ∧ ∀ i ∈ Region.ready .any ops listed, stepT P ops B ls i (wpTree P ops B ls E n (listed.setIfInBounds i true)) a F
section
variable {P : Program} {l : List Oper} {B : World → Prop} {ls : List Nat} {Q : Exit → Act → World → Prop}
theorem tree_any : ∀ (n : Nat) (listed : Array Bool) (a : Act) (F : World → Prop), wpTree P l.toArray B ls (fun a2 w2 => wpList P l.toArray Q [] a2 w2) n listed a F → wpAnyT P .any l.toArray B ls Q l.length 0 n listed a F
  | 0, listed, a, F, h => by
    refine ⟨fun j hj => ?_, fun w hb hf => ?_⟩
    · have h1 := h.1
      rw [List.isEmpty_iff] at h1
      rw [h1] at hj
      cases hj
    · exact any_chain (P := P) (ops := l.toArray) (md := .any) [] l.length listed a w (fun j => by simp) (by simpa [chainB] using h.1) (h.2 w hb hf)
  | n + 1, listed, a, F, h => ⟨h.1, fun i hi => stepT_mono (fun a2 F2 h2 => tree_any n _ a2 F2 h2) (h.2 i hi)⟩
end
/-- Behind a front of quiet operations the rest is walked in each order. -/
theorem wp_region_tree {P : Program} {Q : Exit → Act → World → Prop} {id : Nat} {a : Act} {w : World} {l : List Oper} (n : Nat) (ls ord : List Nat) (B F : World → Prop) (hm : P.follows .mixedOrders = true)
    (hR : (Region.noSelect l.toArray && (prefB .any l.toArray ls l.length ord (Array.replicate l.length false) && decide (ord.length + n = l.length))) = true)
    (hB : Lasts B) (hF : Lasts F) (hb : B { w with drawn := w.drawn + 1 }) (hf : F { w with drawn := w.drawn + 1 })
    (h : wpT P l.toArray B ls (fun a' _ => wpTree P l.toArray B ls (fun a2 w2 => wpList P l.toArray Q [] a2 w2) n (setAll ord (Array.replicate l.length false)) a' F) ord a F) : (Code.region id l.toArray true).wp P Q a w := by
  simp only [Bool.and_eq_true, decide_eq_true_eq] at hR
  obtain ⟨hs, hp, hlen⟩ := hR
  have ht : tailOr .any l.toArray l.length = true := by unfold tailOr; rw [Bool.or_eq_true]; exact .inl (by simp)
  refine wp_region_any hm ?_
  have hL := T_pref (P := P) (ops := l.toArray) (md := .any) (B := B) (ls := ls) (Q' := Q) (m := l.length) (T := 0) hs ht n ord (Array.replicate l.length false) a F _ hb hf (closed_new _) hp
    (wpT_mono (fun a' _ h' => tree_any n _ a' F h') ord a F h)
  have := any_of_T hB _ _ _ _ { w with drawn := w.drawn + 1 } hF hb hf hL
  rw [hlen, Nat.zero_add] at this
  simpa using this
section
variable {P : Program} {ops : Array Oper} {B : World → Prop} {ls : List Nat} {E : Act → World → Prop} {n : Nat} {listed : Array Bool} {a : Act} {F : World → Prop}
theorem tree_end (hr : (Region.ready .any ops listed).isEmpty = true) (h : ∀ w, B w → F w → E a w) : wpTree P ops B ls E 0 listed a F := ⟨hr, h⟩
theorem tree_one (k : Nat) (hr : Region.ready .any ops listed = [k]) (h : stepT P ops B ls k (wpTree P ops B ls E n (listed.setIfInBounds k true)) a F) : wpTree P ops B ls E (n + 1) listed a F :=
  ⟨by rw [hr]; simp, fun i hi => by rw [hr, List.mem_singleton] at hi; subst hi; exact h⟩
theorem tree_two (k j : Nat) (hr : Region.ready .any ops listed = [k, j]) (h : stepT P ops B ls k (wpTree P ops B ls E n (listed.setIfInBounds k true)) a F) (h2 : stepT P ops B ls j (wpTree P ops B ls E n (listed.setIfInBounds j true)) a F) : wpTree P ops B ls E (n + 1) listed a F :=
  ⟨by rw [hr]; simp, fun i hi => by
    rw [hr] at hi
    simp only [List.mem_cons, List.not_mem_nil, or_false] at hi
    rcases hi with rfl | rfl
    · exact h
    · exact h2⟩
theorem tree_three (k j m : Nat) (hr : Region.ready .any ops listed = [k, j, m]) (h : stepT P ops B ls k (wpTree P ops B ls E n (listed.setIfInBounds k true)) a F) (h2 : stepT P ops B ls j (wpTree P ops B ls E n (listed.setIfInBounds j true)) a F) (h3 : stepT P ops B ls m (wpTree P ops B ls E n (listed.setIfInBounds m true)) a F) : wpTree P ops B ls E (n + 1) listed a F :=
  ⟨by rw [hr]; simp, fun i hi => by
    rw [hr] at hi
    simp only [List.mem_cons, List.not_mem_nil, or_false] at hi
    rcases hi with rfl | rfl | rfl
    · exact h
    · exact h2
    · exact h3⟩
variable {k : Nat} {o : Oper} {K : Act → (World → Prop) → Prop}
theorem S_value (h0 : ops[k]? = some o) (hw : Region.wanted o (yielded ops a.tmps) = true) (hk : ls.contains k = false) (v : Value) (hrun : ∀ w, B w → (execOp a.eval o).run P w = .ok (.value v) w) (h : K (a.put o.dst v) F) : stepT P ops B ls k K a F := by
  unfold stepT
  rw [h0]
  simp only
  rw [if_pos hw, if_neg (by rw [hk]; decide)]
  exact ⟨v, .inl hrun, h⟩
theorem S_loose (h0 : ops[k]? = some o) (hw : Region.wanted o (yielded ops a.tmps) = true) (hk : ls.contains k = true) (S : Value → Prop) (R : Value → World → Prop) (hl : looseT P o a B F S R) (h : ∀ v, S v → K (a.put o.dst v) (R v)) : stepT P ops B ls k K a F := by
  unfold stepT
  rw [h0]
  simp only
  rw [if_pos hw, if_pos hk]
  exact ⟨S, R, hl, h⟩
end
end Go.Proofs.Ytmhbfchhooggjaa
