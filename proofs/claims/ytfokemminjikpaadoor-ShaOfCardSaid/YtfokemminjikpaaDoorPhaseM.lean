/-
  As Phase, where the region's first operation copies a slot, and is wanted by the chain alone ('w = append(w, f(x))').
-/
import Derived.Test.YtfokemminjikpaaDoorPhase
namespace Go.Proofs.YtfokemminjikpaaDoor
open Go.RowKit
set_option linter.unusedVariables false

def tailM (md : Region.Mode) (ops : Array Oper) (m : Nat) : Bool :=
  ((List.range m).all fun i => i == 0 || (List.range (m + 1)).any fun j => decide (i < j) && edgeB md ops j i) &&
  ((List.range ops.size).all fun j => decide (j ≤ m) || (List.range j).any fun k => decide (m ≤ k) && edgeB md ops j k)
def phaseM (md : Region.Mode) (ops : Array Oper) (m : Nat) : Bool :=
  decide (0 < m) && (decide (m < ops.size) && (Region.noSelect ops && (tailM md ops m && ((Region.ready md ops (Array.replicate ops.size false)).contains 0 && (Region.free md ops (Array.replicate ops.size false) 0 &&
    (lexTo md ops m (m - 1) 1 ((Array.replicate ops.size false).setIfInBounds 0 true) && chainB md ops (ops.size - m) m (setTo (m - 1) 1 ((Array.replicate ops.size false).setIfInBounds 0 true))))))))
section
variable {P : Program} {ops : Array Oper} {md : Region.Mode} {C : World → Prop} {Q' : Exit → Act → World → Prop} {m T : Nat}
theorem lateM {listed : Array Bool} (hB : tailM md ops m = true) (hc : Closed md ops listed) {j : Nat} (hj : j ∈ Region.ready md ops listed) (hm : m ≤ j) : ∀ i, 0 < i → i < m → listed.getD i false = true := by
  simp only [tailM, Bool.and_eq_true, List.all_eq_true, List.mem_range, List.any_eq_true, decide_eq_true_eq, Bool.or_eq_true, beq_iff_eq] at hB
  obtain ⟨hB1, hB2⟩ := hB
  have down : ∀ n j, j ≤ n → m ≤ j → j < ops.size → (∀ o, ops[j]? = some o → ∀ e ∈ o.after, Region.binds md e = true → listed.getD e.on false = true) → ∀ o, ops[m]? = some o → ∀ e ∈ o.after, Region.binds md e = true → listed.getD e.on false = true := by
    intro n
    induction n with
    | zero =>
      intro j hjn hmj _ hd
      obtain rfl : m = j := by omega
      exact hd
    | succ n ih =>
      intro j hjn hmj hjs hd
      rcases Nat.eq_or_lt_of_le hmj with rfl | hlt
      · exact hd
      · rcases hB2 j hjs with h | ⟨k, hk, hmk, he⟩
        · omega
        · obtain ⟨o, e, ho, hem, hb, rfl⟩ := edge_spec he
          have hl := hd o ho e hem hb
          by_cases hks : e.on < ops.size
          · exact ih e.on (by omega) hmk hks (fun o' ho' e' he' hb' => hc e.on o' ho' hl e' he' hb')
          · omega
  obtain ⟨_, oj, hoj, hall⟩ := mem_ready.1 hj
  have hmd := down j j (Nat.le_refl _) hm (Array.getElem?_eq_some_iff.1 hoj).1 (fun o ho e he hb => by rw [hoj] at ho; cases ho; exact hall e he hb)
  have up : ∀ n i, m - i ≤ n → 0 < i → i < m → listed.getD i false = true := by
    intro n
    induction n with
    | zero => intro i h1 h0 h2; omega
    | succ n ih =>
      intro i h1 h0 h2
      rcases hB1 i h2 with h | ⟨k, hk, hik, he⟩
      · omega
      · obtain ⟨o, e, ho, hem, hb, rfl⟩ := edge_spec he
        rcases Nat.eq_or_lt_of_le (Nat.le_of_lt_succ hk) with rfl | hlt
        · exact hmd o ho e hem hb
        · exact hc k o ho (ih k (by omega) (by omega) hlt) e hem hb
  exact fun i h0 hi => up (m - i) i (Nat.le_refl _) h0 hi
theorem L_firstM {i : Nat} {oi : Oper} {v : Value} (hB : tailM md ops m = true) (hi0 : 0 < i) (him : i < m) (hi : ops[i]? = some oi) (hsel : ∀ (j : Nat) (o : Oper) cs b, ops[j]? = some o → o.op ≠ .select cs b) :
    ∀ (fuel : Nat) (listed : Array Bool) (a : Act), Closed md ops listed →
      (∀ j oj, ops[j]? = some oj → j ≠ i → listed.getD j true = false → (∀ e ∈ oj.after, Region.binds md e = true → e.on ≠ i) → oi.apart ops oj = true) →
      i ∈ Region.ready md ops listed → YieldsIn P ops C oi v a →
      wpAnyL P md ops C Q' m T fuel (listed.setIfInBounds i true) (a.put oi.dst v) → wpAnyL P md ops C Q' m T (fuel + 1) listed a := by
  intro fuel
  induction fuel with
  | zero =>
    intro listed a hcl _ hr hy H
    refine ⟨fun h => (by rw [h] at hr; cases hr), fun j hj => ?_⟩
    by_cases hji : j = i
    · subst hji; exact hy.qOp hi H
    · have h1 := H.1 j (ready_mono hj hji)
      have h2 := lateM hB hcl hj h1 i hi0 him
      have h3 := (mem_ready.1 hr).1
      rw [Array.getD_eq_getD_getElem?] at h2 h3
      cases hli : listed[i]? with
      | none => rw [hli] at h2; cases h2
      | some b => rw [hli] at h2 h3; simp only [Option.getD_some] at h2 h3; rw [h2] at h3; cases h3
  | succ fuel ih =>
    intro listed a hcl hfree hr hy H
    refine ⟨fun h => (by rw [h] at hr; cases hr), fun j hj => ?_⟩
    by_cases hji : j = i
    · subst hji; exact hy.qOp hi H
    · have h1 := H.2 j (ready_mono hj hji)
      obtain ⟨hjun, oj, hoj, hall⟩ := mem_ready.1 hj
      have hnot : ∀ e ∈ oj.after, Region.binds md e = true → e.on ≠ i := fun e he hb heq => by
        have h1 := hall e he hb
        have h0 := (mem_ready.1 hr).1
        rw [heq] at h1
        rcases Nat.lt_or_ge i listed.size with h' | h'
        · simp [h'] at h0 h1; rw [h0] at h1; cases h1
        · simp [Array.getElem?_eq_none h'] at h1
      have h2 := qOp_put hoj (hfree j oj hoj hji hjun hnot) (fun cs b => hsel i oi cs b hi) (fun cs b => hsel j oj cs b hoj) hy h1
      have hfree' : ∀ k ok, ops[k]? = some ok → k ≠ i → (listed.setIfInBounds j true).getD k true = false →
          (∀ e ∈ ok.after, Region.binds md e = true → e.on ≠ i) → oi.apart ops ok = true := fun k ok hk hki hun hno => by
        refine hfree k ok hk hki ?_ hno
        by_cases hjk : j = k
        · subst hjk; exact hjun
        · rw [getD_set_ne true hjk] at hun; exact hun
      refine qOp_mono (fun a' h3 => ih (listed.setIfInBounds j true) a' (hcl.set hj) hfree' (ready_mono hr (Ne.symm hji)) h3.1 ?_) h2
      rw [Array.setIfInBounds_comm _ _ hji]
      exact h3.2
theorem L_lexM (hs : Region.noSelect ops = true) (hB : tailM md ops m = true) : ∀ (l : List Oper) (k : Nat) (listed : Array Bool) (a : Act), (∀ j, j < l.length → l[j]? = ops[k + j]?) → 0 < k → k + l.length = m → Closed md ops listed →
    lexTo md ops m l.length k listed = true → wpQuiet P ops C (fun a => ∀ w, C w → wpAny P md ops Q' T (setTo l.length k listed) a w) l a → wpAnyL P md ops C Q' m T l.length listed a
  | [], _, listed, a, _, _, _, _, hL, h => ⟨by simpa [lexTo] using hL, h⟩
  | o :: l, k, listed, a, hl, hk0, hk, hc, hL, h => by
    have h0 : ops[k]? = some o := by simpa using (hl 0 (by simp)).symm
    simp only [List.length_cons] at hk
    simp only [List.length_cons, lexTo, Bool.and_eq_true] at hL
    obtain ⟨⟨hr, hf⟩, hL'⟩ := hL
    have hr' : k ∈ Region.ready md ops listed := by simpa using hr
    have hst : qOp P ops C k (wpQuiet P ops C (fun a => ∀ w, C w → wpAny P md ops Q' T (setTo (l.length + 1) k listed) a w) l) a := by unfold qOp; simp only [h0]; exact h
    obtain ⟨v, hy, hK⟩ := yieldsIn_of_qOp h0 hst
    exact L_firstM hB hk0 (by omega) h0 (Region.noSelect_spec hs) l.length listed a hc (Region.free_spec h0 hf) hr' hy
      (L_lexM hs hB l (k + 1) _ _ (fun j hj => by have := hl (j + 1) (by simpa using hj); simpa [Nat.add_assoc, Nat.add_comm 1 j] using this) (by omega) (by omega) (hc.set hr') hL' hK)
end
/-- One walk of the text's order serves every order; the first operation yields v in whatever world. -/
theorem wp_region_phaseM {P : Program} {id : Nat} {Q : Exit → Act → World → Prop} {a : Act} {w : World} {l : List Oper} (m : Nat) (C : World → Prop) (hm : P.follows .mixedOrders = true) (hB : phaseM .any l.toArray m = true) (hC : C { w with drawn := w.drawn + 1 })
    (o : Oper) (v : Value) (h0 : l[0]? = some o) (hQ : ∀ c a w, Q (.panic c) (a.put o.dst v) w → Q (.panic c) a w) (hy : Yields P l.toArray o v a)
    (h : wpQuiet P l.toArray C (fun a' => ∀ w', C w' → wpList P l.toArray Q (l.drop m) a' w') ((l.take m).drop 1) (a.put o.dst v)) : (Code.region id l.toArray true).wp P Q a w := by
  simp only [phaseM, Bool.and_eq_true, decide_eq_true_eq, List.size_toArray] at hB
  obtain ⟨hm0, hml, hs, ht, hr0, hf0, hx, hc⟩ := hB
  refine wp_region_any hm ?_
  obtain ⟨L, hL⟩ : ∃ L, l.length = L + 1 := ⟨l.length - 1, by omega⟩
  have h0' : l.toArray[0]? = some o := by rw [List.getElem?_toArray]; exact h0
  have hr0' : 0 ∈ Region.ready .any l.toArray (Array.replicate l.length false) := by simpa using hr0
  have hlen : ((l.take m).drop 1).length = m - 1 := by rw [List.length_drop, List.length_take]; omega
  have hdl : (l.drop m).length = l.length - m := List.length_drop
  have hcl : Closed .any l.toArray ((Array.replicate l.length false).setIfInBounds 0 true) := (closed_new _).set hr0'
  have hLx := L_lexM (P := P) (ops := l.toArray) (md := .any) (C := C) (Q' := Q) (m := m) (T := l.length - m) hs ht ((l.take m).drop 1) 1 ((Array.replicate l.length false).setIfInBounds 0 true) (a.put o.dst v)
    (fun j hj => by rw [List.getElem?_drop, List.getElem?_take, if_pos (by omega), List.getElem?_toArray]) (by omega) (by omega) hcl (by rw [hlen]; exact hx)
    (wpQuiet_mono' h fun a' h' w' hw' => by
      rw [hlen]
      have := any_chain (P := P) (ops := l.toArray) (md := .any) (Q' := Q) (l.drop m) m (setTo (m - 1) 1 ((Array.replicate l.length false).setIfInBounds 0 true)) a' w' (fun j => by rw [List.getElem?_drop, List.getElem?_toArray]) (by rw [hdl]; exact hc) (h' w' hw')
      rw [hdl] at this
      exact this)
  have hany := any_of_L _ _ _ _ hC hLx
  rw [hlen, show l.length - m + (m - 1) = L by omega] at hany
  have hfin := wpAny_first (P := P) (ops := l.toArray) (md := .any) (Q := Q) h0' (Region.noSelect_spec hs) hQ L (Array.replicate l.length false) a { w with drawn := w.drawn + 1 } (Region.free_spec h0' hf0) hr0' hy hany
  rw [List.size_toArray, hL]
  rw [hL] at hfin
  exact hfin
end Go.Proofs.YtfokemminjikpaaDoor
