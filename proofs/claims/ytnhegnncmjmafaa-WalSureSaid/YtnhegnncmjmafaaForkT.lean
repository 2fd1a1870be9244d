/-
  Drawn regions in which one operation that makes memory may come anywhere among a chain of such. No number of any translation stands here.
-/
import Derived.Test.YtnhegnncmjmafaaFork
import Derived.Test.YtnhegnncmjmafaaWalkE
namespace Go.Proofs.Ytnhegnncmjmafaa
open Go.RowKit
set_option linter.unusedVariables false

section
variable (P : Program) (ops : Array Oper) (B : World → Prop) (ls : List Nat) (Q : Exit → Act → World → Prop) (k : Nat) (fin : List Nat)
/-- Operation k comes anywhere among the chain. -/
def forkT : List Nat → Act → (World → Prop) → Prop
  | [], a, F => wpT P ops B ls (fun a2 w2 => wpList P ops Q [] a2 w2) (k :: fin) a F
  | c :: cs, a, F => stepT P ops B ls c (forkT cs) a F ∧ wpT P ops B ls (fun a2 w2 => wpList P ops Q [] a2 w2) (k :: c :: (cs ++ fin)) a F
end
def leafB (md : Region.Mode) (ops : Array Oper) (ls : List Nat) (l : List Nat) (listed : Array Bool) : Bool := lexM md ops ls ops.size l listed && (Region.ready md ops (setAll l listed)).isEmpty
def forkB (md : Region.Mode) (ops : Array Oper) (ls : List Nat) (k : Nat) (fin : List Nat) : List Nat → Array Bool → Bool
  | [], listed => (Region.ready md ops listed == [k]) && leafB md ops ls fin (listed.setIfInBounds k true)
  | c :: cs, listed => (Region.ready md ops listed == [c, k]) && (leafB md ops ls (c :: (cs ++ fin)) (listed.setIfInBounds k true) && forkB md ops ls k fin cs (listed.setIfInBounds c true))
section
variable {P : Program} {ops : Array Oper} {md : Region.Mode} {B : World → Prop} {ls : List Nat} {Q : Exit → Act → World → Prop} {k : Nat} {fin : List Nat}
theorem stepT_weak {i : Nat} {a : Act} {F G : World → Prop} {K : Act → (World → Prop) → Prop} (hK : ∀ a F G, (∀ w, G w → F w) → K a F → K a G) (hG : ∀ w, G w → F w) (h : stepT P ops B ls i K a F) : stepT P ops B ls i K a G := by
  unfold stepT at h ⊢
  split
  · rename_i ho; simp only [ho] at h
  · rename_i o ho
    simp only [ho] at h
    split
    · rename_i hw
      rw [if_pos hw] at h
      split
      · rename_i hl
        rw [if_pos hl] at h
        obtain ⟨S, R, ⟨h1, h2⟩, h3⟩ := h
        exact ⟨S, R, ⟨h1, fun w hb hg => h2 w hb (hG w hg)⟩, h3⟩
      · rename_i hl
        rw [if_neg hl] at h
        obtain ⟨v, h1, h2⟩ := h
        exact ⟨v, h1, hK _ _ _ hG h2⟩
    · rename_i hw
      rw [if_neg hw] at h
      exact hK _ _ _ hG h
theorem forkT_weak : ∀ (cs : List Nat) (a : Act) (F G : World → Prop), (∀ w, G w → F w) → forkT P ops B ls Q k fin cs a F → forkT P ops B ls Q k fin cs a G
  | [], a, F, G, hG, h => T_alloc.wpT_weak hG h
  | c :: cs, a, F, G, hG, h => ⟨stepT_weak (fun a F G => forkT_weak cs a F G) hG h.1, T_alloc.wpT_weak hG h.2⟩
theorem any_leaf (hs : Region.noSelect ops = true) (l : List Nat) (listed : Array Bool) (a : Act) (F : World → Prop) (hc : Closed md ops listed) (hL : leafB md ops ls l listed = true) (h : wpT P ops B ls (fun a2 w2 => wpList P ops Q [] a2 w2) l a F) : wpAnyT P md ops B ls Q ops.size 0 l.length listed a F := by
  unfold leafB at hL
  rw [Bool.and_eq_true] at hL
  have ht : tailOr md ops ops.size = true := by unfold tailOr; rw [Bool.or_eq_true]; exact .inl (by simp)
  exact T_lex (P := P) (ops := ops) (md := md) (B := B) (ls := ls) (m := ops.size) (T := 0) hs ht l listed a F hc hL.1 (wpT_mono (fun a2 w2 h' => any_chain (P := P) (ops := ops) (md := md) [] ops.size (setAll l listed) a2 w2 (fun j => by simp) (by simpa [chainB] using hL.2) h') l a F h)
theorem any_fork (hs : Region.noSelect ops = true) : ∀ (cs : List Nat) (listed : Array Bool) (a : Act) (F : World → Prop), Closed md ops listed → forkB md ops ls k fin cs listed = true → forkT P ops B ls Q k fin cs a F → wpAnyT P md ops B ls Q ops.size 0 (cs.length + 1 + fin.length) listed a F
  | [], listed, a, F, hc, hB, h => by
    simp only [forkB, Bool.and_eq_true, beq_iff_eq] at hB
    have hk : k ∈ Region.ready md ops listed := by rw [hB.1]; simp
    rw [show ([] : List Nat).length + 1 + fin.length = fin.length + 1 by simp; omega]
    refine ⟨by rw [hB.1]; simp, fun i hi => ?_⟩
    rw [hB.1] at hi
    simp only [List.mem_cons, List.not_mem_nil, or_false] at hi
    subst hi
    exact stepT_mono (fun a2 F2 h2 => any_leaf hs fin _ a2 F2 (hc.set hk) hB.2 h2) h
  | c :: cs, listed, a, F, hc, hB, h => by
    simp only [forkB, Bool.and_eq_true, beq_iff_eq] at hB
    obtain ⟨hr, hl, hB'⟩ := hB
    have hk : k ∈ Region.ready md ops listed := by rw [hr]; simp
    have hcr : c ∈ Region.ready md ops listed := by rw [hr]; simp
    rw [show (c :: cs).length + 1 + fin.length = (cs.length + 1 + fin.length) + 1 by rw [List.length_cons]; omega]
    refine ⟨by rw [hr]; simp, fun i hi => ?_⟩
    rw [hr] at hi
    simp only [List.mem_cons, List.not_mem_nil, or_false] at hi
    rcases hi with rfl | rfl
    · exact stepT_mono (fun a2 F2 h2 => any_fork hs cs _ a2 F2 (hc.set hcr) hB' h2) h.1
    · have e : cs.length + 1 + fin.length = (c :: (cs ++ fin)).length := by rw [List.length_cons, List.length_append]; omega
      rw [e]
      exact stepT_mono (fun a2 F2 h2 => any_leaf hs _ _ a2 F2 (hc.set hk) hl h2) h.2
end
/-- Behind a quiet front operation k comes anywhere among a chain; the rest follows. -/
theorem wp_region_anywhere {P : Program} {Q : Exit → Act → World → Prop} {id : Nat} {a : Act} {w : World} {l : List Oper} (ls ord : List Nat) (k : Nat) (cs fin : List Nat) (B F : World → Prop) (hm : P.follows .mixedOrders = true)
    (hR : (Region.noSelect l.toArray && (prefB .any l.toArray ls l.length ord (Array.replicate l.length false) && (forkB .any l.toArray ls k fin cs (setAll ord (Array.replicate l.length false)) && decide (ord.length + (cs.length + 1 + fin.length) = l.length)))) = true)
    (hB : Lasts B) (hF : Lasts F) (hb : B { w with drawn := w.drawn + 1 }) (hf : F { w with drawn := w.drawn + 1 })
    (h : wpT P l.toArray B ls (fun a' _ => forkT P l.toArray B ls Q k fin cs a' F) ord a F) : (Code.region id l.toArray true).wp P Q a w := by
  simp only [Bool.and_eq_true, decide_eq_true_eq] at hR
  obtain ⟨hs, hp, hfk, hlen⟩ := hR
  have ht : tailOr .any l.toArray l.length = true := by unfold tailOr; rw [Bool.or_eq_true]; exact .inl (by simp)
  have hc := pref_closed ord _ (closed_new (ops := l.toArray) (md := .any) l.length) hp
  refine wp_region_any hm ?_
  have hL := T_pref (P := P) (ops := l.toArray) (md := .any) (B := B) (ls := ls) (m := l.length) (T := 0) hs ht (cs.length + 1 + fin.length) ord (Array.replicate l.length false) a F _ hb hf (closed_new _) hp
    (wpT_mono (fun a' _ h' => by
      have := any_fork (md := .any) hs cs _ a' F hc hfk h'
      simpa using this) ord a F h)
  have := any_of_T hB _ _ _ _ { w with drawn := w.drawn + 1 } hF hb hf hL
  rw [hlen, Nat.zero_add] at this
  simpa using this
section
variable {P : Program} {ops : Array Oper} {B : World → Prop} {ls : List Nat} {Q : Exit → Act → World → Prop} {k : Nat} {fin cs : List Nat} {c : Nat} {o : Oper} {a : Act} {F : World → Prop}
theorem forkT_last (h : wpT P ops B ls (fun a2 w2 => wpList P ops Q [] a2 w2) (c :: k :: fin) a F) : stepT P ops B ls c (forkT P ops B ls Q k fin []) a F := h
theorem K_loose (h0 : ops[c]? = some o) (hw : Region.wanted o (yielded ops a.tmps) = true) (hk : ls.contains c = true) (S : Value → Prop) (R : Value → World → Prop) (hl : looseT P o a B F S R) (h : ∀ v, S v → forkT P ops B ls Q k fin cs (a.put o.dst v) (R v)) : stepT P ops B ls c (forkT P ops B ls Q k fin cs) a F := by
  unfold stepT
  rw [h0]
  simp only
  rw [if_pos hw, if_pos hk]
  exact ⟨S, R, hl, h⟩
theorem K_enterR {α : Type} (h0 : ops[c]? = some o) (hw : Region.wanted o (yielded ops a.tmps) = true) (hk : ls.contains c = true) (f : FuncId) (args : Array Value) (v : α → Value) (hinj : ∀ x y, v x = v y → x = y) (hrun : ∀ w, (execOp a.eval o).run P w = .ok (.enter f args) w) (R : α → World → Prop) (hR : ∀ x, Lasts (R x))
    (hc : ∀ w, B w → F w → Calls P f args w (fun e w' => ∃ x, e = .returned (v x) ∧ B w' ∧ R x w')) (h : ∀ x, forkT P ops B ls Q k fin cs (a.put o.dst (v x)) (R x)) : stepT P ops B ls c (forkT P ops B ls Q k fin cs) a F := by
  refine K_loose h0 hw hk (fun u => ∃ x, u = v x) (fun u w => ∃ x, u = v x ∧ R x w) ⟨fun u => fun w w' ⟨x, h1, h2⟩ hk => ⟨x, h1, hR x w w' h2 hk⟩, fun w hb hf => ?_⟩ ?_
  · rw [hrun w]
    exact (hc w hb hf).mono fun e w' ⟨x, h⟩ => ⟨v x, h.1, h.2.1, ⟨x, rfl⟩, x, rfl, h.2.2⟩
  · rintro u ⟨x, rfl⟩
    refine forkT_weak cs _ _ _ (fun w ⟨y, h1, h2⟩ => ?_) (h x)
    rw [hinj x y h1]
    exact h2
theorem K_build (h0 : ops[c]? = some o) (hw : Region.wanted o (yielded ops a.tmps) = true) (hk : ls.contains c = true) (t e : TypeId) (x : Operand) (u : Value) (C : Array Value) (ho : o.op = .buildSlice t 1 #[(0, x)]) (hx : a.eval x = u)
    (hrun : ∀ w, (Instr.buildSlice t 1 #[(0, u)]).run P w = .ok (.slice (some ⟨w.heap.size, 0, none⟩) 1 1) (w.alloc (.cells C e))) (hB : Lasts B) (hF : Lasts F) (n0 : Nat) (hn : ∀ w, B w → n0 ≤ w.heap.size)
    (h : ∀ g, n0 ≤ g → forkT P ops B ls Q k fin cs (a.put o.dst (.slice (some ⟨g, 0, none⟩) 1 1)) (fun w => F w ∧ w.heap[g]? = some (.cells C e (0, 0)))) : stepT P ops B ls c (forkT P ops B ls Q k fin cs) a F := by
  refine K_loose h0 hw hk (fun v => ∃ g, n0 ≤ g ∧ v = .slice (some ⟨g, 0, none⟩) 1 1) (fun v w => F w ∧ ∀ g, v = .slice (some ⟨g, 0, none⟩) 1 1 → w.heap[g]? = some (.cells C e (0, 0))) ⟨fun v => ?_, fun w hb hf => ?_⟩ ?_
  · exact hF.and (fun w w' hq hk g hv => (hk.block g (Array.getElem?_eq_some_iff.1 (hq g hv)).1 id).trans (hq g hv))
  · unfold execOp
    simp only [ho, Sem.run_bind, Sem.run_pure, Result.andThen_ok, List.map_toArray, List.map_cons, List.map_nil, hx, hrun]
    refine ⟨hB _ _ hb ((Keeps.refl _ _).alloc _), ⟨_, hn w hb, rfl⟩, hF _ _ hf ((Keeps.refl _ _).alloc _), fun g hv => ?_⟩
    injection hv with hv
    injection hv with hv
    injection hv with hv
    subst hv
    exact heap_alloc_new w _
  · rintro v ⟨g, hg, rfl⟩
    exact forkT_weak cs _ _ _ (fun w hh => ⟨hh.1, hh.2 g rfl⟩) (h g hg)
/-- What was there is there behind an append, by its old slice. -/
theorem append_old {P : Program} {w w' : World} {v' : Value} {base : Nat} {t ty e : TypeId} {i : TypeInfo} {z : Value} {bytes : Nat} (ht : P.underlying t = some (.slice e)) (hi : P.info? e = some i) (hz : i.zero = some z) (hsize : i.size = 1) (hby : i.bytes = bytes)
    (v : Value) (n : Nat) (xs : List Value) (hown : w.ownsRow base e 1 v n xs) (A : Option Addr) (m c : Nat) (news : List Value) (hl : news.length = m) (hsrc : Src w A news) (h1 : ∀ u ∈ news, u.oneCell' = true) (h63 : n + m ≤ maxLen) (hbytes : (n + m) * bytes ≤ 140737488355328)
    (hr : (Builtin.append_ #[t, t] ty #[v, .slice A m c]).run P w = .ok v' w') : w'.ownsRow base e 1 v n xs := by
  have hcopy := hown
  rcases hown.2 with ⟨rfl, rfl⟩ | ⟨g, cap, cur, rfl, hbg, hg, hnc, hcm, hcs, htake⟩
  · exact ⟨hown.1, .inl ⟨rfl, rfl⟩⟩
  · cases A with
    | none =>
      have hn : news = [] := by
        cases news with
        | nil => rfl
        | cons u l => obtain ⟨a, h, _⟩ := hsrc 0 u rfl; cases h
      subst hn
      have hm : m = 0 := by simpa using hl.symm
      subst hm
      have h2 : (Builtin.append_ #[t, t] ty #[.slice (some ⟨g, 0, none⟩) n cap, .slice none 0 c]).run P w = .ok (.slice (some ⟨g, 0, none⟩) n cap) w := by
        simp [Builtin.append_, run_underlying ht, sizeOf, typeInfo, hi, Builtin.lenOf, Builtin.firstCells, hnc, storeCells]
      rw [h2] at hr
      injection hr with _ hr
      rw [← hr]
      exact hcopy
    | some a =>
      have hnews : ∀ j u, news[j]? = some u → w.cell? (a.add j) = some u := fun j u hu => by obtain ⟨a', he, hc⟩ := hsrc j u hu; injection he with he; subst he; exact hc
      have hmm : n + m ≤ 9223372036854775807 := by simp only [maxLen] at h63; omega
      by_cases hroom : n + m ≤ cap
      · have h2 := run_append_room (P := P) w t ty e i ht hi g n cap cur hg a m c news (by rw [hsize]; omega) hnews h1 hroom (by rw [hsize, hl, hcs]; omega)
        rw [h2] at hr
        injection hr with _ hr
        rw [← hr]
        refine ⟨hcopy.1, .inr ⟨g, cap, _, rfl, hbg, setRow_heap w g cur _ e _ hg, hnc, hcm, ?_, ?_⟩⟩
        · rw [hsize]
          simp only [List.size_toArray, List.length_append, List.length_take, List.length_drop, Array.length_toList]
          omega
        · have hxl : xs.length = n := by rw [hcopy.1]; omega
          rw [hsize]
          show (cur.toList.take (n * 1) ++ news ++ cur.toList.drop (n * 1 + news.length)).take (n * 1) = xs
          rw [List.append_assoc, htake, List.take_append_of_le_length (by omega), List.take_of_length_le (by omega)]
      · have h2 := run_append_grow (P := P) w t ty e i z ht hi hz ⟨g, 0, none⟩ n cap xs (by rw [hsize]; exact hcopy.1) (hcopy.cells (g := g) rfl) a m c news (by rw [hsize]; omega) hnews (by omega) (by omega) (growslice_fits (by omega) (by rw [hby]; exact hbytes))
        rw [h2] at hr
        injection hr with _ hr
        rw [← hr]
        exact ((Keeps.refl (fun _ => False) w).drew.alloc _).owns hcopy (fun _ _ => id)
/-- Bytes are appended to a row of the call's own. -/
theorem T_append_src {E : Act → World → Prop} {rest : List Nat} (h0 : ops[c]? = some o) (hw : Region.wanted o (yielded ops a.tmps) = true) (hk : ls.contains c = true) (t : TypeId) (s x : Operand) (ho : o.op = .call { callee := .builtin .append, args := #[s, x], argTypes := #[t, t] })
    (e : TypeId) (i : TypeInfo) (z : Value) (bytes : Nat) (ht : P.underlying t = some (.slice e)) (hi : P.info? e = some i) (hz : i.zero = some z) (hsize : i.size = 1) (hby : i.bytes = bytes) (hzs : z.cells.size = 1)
    (A : Option Addr) (n cp : Nat) (xs : List Value) (hs : a.eval s = .slice A n cp) (A2 : Option Addr) (m c2 : Nat) (hx : a.eval x = .slice A2 m c2) (news : List Value) (hl : news.length = m) (h1 : ∀ u ∈ news, u.oneCell' = true)
    (h63 : n + m ≤ maxLen) (hbytes : (n + m) * bytes ≤ 140737488355328) (G : Option Addr × Nat → World → Prop) (hG : ∀ q, Lasts (G q))
    (hown : ∀ w, B w → F w → w.ownsRow 0 e 1 (.slice A n cp) n xs ∧ Src w A2 news)
    (hK : ∀ w w' A' c', B w → F w → w'.ownsRow 0 e 1 (.slice A n cp) n xs → w'.ownsRow 0 e 1 (.slice A' (n + m) c') (n + m) (xs ++ news) → w.grownBy w' (Value.slice A n cp).ownBlock → ((Value.slice A' (n + m) c').ownBlock = (Value.slice A n cp).ownBlock ∨ (Value.slice A' (n + m) c').ownBlock = some w.heap.size) → B w' ∧ G (A', c') w')
    (h : ∀ q : Option Addr × Nat, wpT P ops B ls E rest (a.put o.dst (.slice q.1 (n + m) q.2)) (G q)) : wpT P ops B ls E (c :: rest) a F := by
  refine T_loose h0 hw hk (fun v => ∃ q : Option Addr × Nat, v = .slice q.1 (n + m) q.2) (fun v w => ∃ q : Option Addr × Nat, v = .slice q.1 (n + m) q.2 ∧ G q w) ⟨fun v w w' hq hk => ?_, fun w hb hf => ?_⟩ ?_
  · obtain ⟨q, hv, hg⟩ := hq
    exact ⟨q, hv, hG q w w' hg hk⟩
  · obtain ⟨h2, h3⟩ := hown w hb hf
    obtain ⟨v', w', hr, h4, h5, h7⟩ := run_append_src (P := P) w 0 t o.type e i z bytes ht hi hz hsize hby hzs (.slice A n cp) n xs h2 A2 m c2 news hl h3 h1 h63 hbytes (Nat.zero_le _)
    unfold execOp
    simp only [ho, resolve, invoke, builtin, Sem.run_bind, Sem.run_pure, Result.andThen_ok, List.map_toArray, List.map_cons, List.map_nil, hs, hx, hr]
    obtain ⟨A', c', rfl⟩ := own_slice h4
    obtain ⟨h8, h9⟩ := hK w w' A' c' hb hf (append_old ht hi hz hsize hby _ n xs h2 A2 m c2 news hl h3 h1 h63 hbytes hr) h4 h5 h7
    exact ⟨h8, ⟨(A', c'), rfl⟩, (A', c'), rfl, h9⟩
  · rintro v ⟨q, rfl⟩
    refine T_alloc.wpT_weak (fun w ⟨q2, h1, h2⟩ => ?_) (h q)
    injection h1 with h3 h4 h5
    obtain ⟨q1, q2'⟩ := q
    obtain ⟨p1, p2⟩ := q2
    simp only at h3 h5
    rw [h3, h5]
    exact h2
end
end Go.Proofs.Ytnhegnncmjmafaa
