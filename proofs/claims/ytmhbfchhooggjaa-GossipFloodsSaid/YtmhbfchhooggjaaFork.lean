/-
  Drawn regions in which two operations that make memory may come in either order. No number of any translation stands here.
-/
import Derived.Test.YtmhbfchhooggjaaWalkT
namespace Go.Proofs.Ytmhbfchhooggjaa
open Go.RowKit
set_option linter.unusedVariables false

def prefB (md : Region.Mode) (ops : Array Oper) (ls : List Nat) (m : Nat) : List Nat → Array Bool → Bool
  | [], _ => true
  | k :: rest, listed => decide (k < m) && (!ls.contains k && ((Region.ready md ops listed).contains k && Region.free md ops listed k)) && prefB md ops ls m rest (listed.setIfInBounds k true)
section
variable {P : Program} {ops : Array Oper} {md : Region.Mode} {B : World → Prop} {ls : List Nat} {Q' : Exit → Act → World → Prop} {m T : Nat}
theorem pref_closed : ∀ (l : List Nat) (listed : Array Bool), Closed md ops listed → prefB md ops ls m l listed = true → Closed md ops (setAll l listed)
  | [], _, hc, _ => hc
  | k :: l, listed, hc, h => by
    simp only [prefB, Bool.and_eq_true, decide_eq_true_eq] at h
    obtain ⟨⟨_, _, hr, _⟩, h'⟩ := h
    exact pref_closed l _ (hc.set (by simpa using hr)) h'
theorem T_pref (hs : Region.noSelect ops = true) (hB : tailOr md ops m = true) (fuel : Nat) : ∀ (l : List Nat) (listed : Array Bool) (a : Act) (F : World → Prop) (w : World), B w → F w → Closed md ops listed → prefB md ops ls m l listed = true →
    wpT P ops B ls (fun a' _ => wpAnyT P md ops B ls Q' m T fuel (setAll l listed) a' F) l a F → wpAnyT P md ops B ls Q' m T (l.length + fuel) listed a F
  | [], listed, a, F, w, hb, hf, _, _, h => by
    have := h w hb hf
    simpa [setAll] using this
  | k :: l, listed, a, F, w, hb, hf, hc, hL, h => by
    simp only [prefB, Bool.and_eq_true, decide_eq_true_eq] at hL
    obtain ⟨⟨hkm, hk, hr, hfree⟩, hL'⟩ := hL
    have hk' : ls.contains k = false := by simpa using hk
    have hk2 : ¬ ls.contains k = true := by rw [hk']; decide
    have hrk : k ∈ Region.ready md ops listed := by simpa using hr
    rw [show (k :: l).length + fuel = (l.length + fuel) + 1 by rw [List.length_cons]; omega]
    unfold wpT stepT at h
    cases h0 : ops[k]? with
    | none => rw [h0] at h; exact h.elim
    | some o =>
      rw [h0] at h
      simp only at h
      by_cases hw : Region.wanted o (yielded ops a.tmps) = true
      · rw [if_pos hw, if_neg hk2] at h
        obtain ⟨v, h1, h2⟩ := h
        exact T_first hB hkm h0 hk' (Region.noSelect_spec hs) _ listed a F hc (Region.free_spec h0 hfree) hrk (.inl ⟨hw, h1⟩) (T_pref hs hB fuel l _ _ F w hb hf (hc.set hrk) hL' h2)
      · rw [if_neg hw] at h
        exact T_first hB hkm h0 hk' (Region.noSelect_spec hs) _ listed a F hc (Region.free_spec h0 hfree) hrk (.inr ⟨by simpa using hw, rfl⟩) (T_pref hs hB fuel l _ _ F w hb hf (hc.set hrk) hL' h)
end
/-- After a front of quiet operations two loose ones are ready: each may be the first. -/
theorem wp_region_fork {P : Program} {Q : Exit → Act → World → Prop} {id : Nat} {a : Act} {w : World} {l : List Oper} (ls ord : List Nat) (k1 k2 : Nat) (la lb : List Nat) (B F : World → Prop) (hm : P.follows .mixedOrders = true)
    (hR : (Region.noSelect l.toArray && (prefB .any l.toArray ls l.length ord (Array.replicate l.length false) && ((Region.ready .any l.toArray (setAll ord (Array.replicate l.length false)) == [k1, k2]) &&
      (lexM .any l.toArray ls l.length la ((setAll ord (Array.replicate l.length false)).setIfInBounds k1 true) && (lexM .any l.toArray ls l.length lb ((setAll ord (Array.replicate l.length false)).setIfInBounds k2 true) &&
      ((Region.ready .any l.toArray (setAll la ((setAll ord (Array.replicate l.length false)).setIfInBounds k1 true))).isEmpty && ((Region.ready .any l.toArray (setAll lb ((setAll ord (Array.replicate l.length false)).setIfInBounds k2 true))).isEmpty &&
      (decide (ord.length + (la.length + 1) = l.length) && decide (lb.length = la.length))))))))) = true)
    (hB : Lasts B) (hF : Lasts F) (hb : B { w with drawn := w.drawn + 1 }) (hf : F { w with drawn := w.drawn + 1 })
    (h : wpT P l.toArray B ls (fun a' _ => wpT P l.toArray B ls (fun a2 w2 => wpList P l.toArray Q [] a2 w2) (k1 :: la) a' F ∧ wpT P l.toArray B ls (fun a2 w2 => wpList P l.toArray Q [] a2 w2) (k2 :: lb) a' F) ord a F) : (Code.region id l.toArray true).wp P Q a w := by
  simp only [Bool.and_eq_true, decide_eq_true_eq, beq_iff_eq] at hR
  obtain ⟨hs, hp, hr, hla, hlb, hea, heb, hlen, hlab⟩ := hR
  have ht : tailOr .any l.toArray l.length = true := by unfold tailOr; rw [Bool.or_eq_true]; exact .inl (by simp)
  have hc := pref_closed ord _ (closed_new (ops := l.toArray) (md := .any) l.length) hp
  refine wp_region_any hm ?_
  have fin : ∀ (lx : List Nat) (listed : Array Bool) (a' : Act) (F' : World → Prop), Closed .any l.toArray listed → lexM .any l.toArray ls l.length lx listed = true → (Region.ready .any l.toArray (setAll lx listed)).isEmpty = true →
      wpT P l.toArray B ls (fun a2 w2 => wpList P l.toArray Q [] a2 w2) lx a' F' → wpAnyT P .any l.toArray B ls _ l.length 0 lx.length listed a' F' := fun lx listed a' F' hcx hlx hex hw =>
    T_lex (P := P) (ops := l.toArray) (md := .any) (B := B) (ls := ls) (m := l.length) (T := 0) hs ht lx listed a' F' hcx hlx (wpT_mono (fun a2 w2 h' => any_chain (P := P) (ops := l.toArray) (md := .any) [] l.length (setAll lx listed) a2 w2 (fun j => by simp) (by simpa [chainB] using hex) h') lx a' F' hw)
  have hL := T_pref (P := P) (ops := l.toArray) (md := .any) (B := B) (ls := ls) (m := l.length) (T := 0) hs ht (la.length + 1) ord (Array.replicate l.length false) a F _ hb hf (closed_new _) hp
    (wpT_mono (fun a' _ h' => by
      refine ⟨by rw [hr]; simp, fun i hi => ?_⟩
      have hi' := hi
      rw [hr] at hi
      simp only [List.mem_cons, List.not_mem_nil, or_false] at hi
      rcases hi with rfl | rfl
      · exact stepT_mono (fun a2 F2 h2 => fin la _ a2 F2 (hc.set hi') hla hea h2) h'.1
      · exact stepT_mono (fun a2 F2 h2 => by rw [← hlab]; exact fin lb _ a2 F2 (hc.set hi') hlb heb h2) h'.2) ord a F h)
  have := any_of_T hB _ _ _ _ { w with drawn := w.drawn + 1 } hF hb hf hL
  rw [hlen, Nat.zero_add] at this
  simpa using this
end Go.Proofs.Ytmhbfchhooggjaa
