/-
  How peers behave, plainly. No number of any translation stands here.
-/
import Derived.Test.YtdihkbkcefjeoaaDkA
namespace Go.Proofs.Ytdihkbkcefjeoaa
open Go.RowKit Go.BigFrame
set_option linter.unusedVariables false

namespace Sc
/-- How all behave: points and ticks left of each; the limit; the hold. -/
structure Tb where
  ps : List (Int × Int)
  limit : Int
  hold : Int
def has (s : Tb) (k : Int) : Bool := decide (0 ≤ k ∧ k < (s.ps.length : Int))
def get (s : Tb) (k : Int) : Int × Int := if 0 ≤ k ∧ k < (s.ps.length : Int) then s.ps.getD k.toNat (0, 0) else (0, 0)
def put (s : Tb) (k : Int) (p : Int × Int) : Tb := { s with ps := s.ps.set k.toNat p }
def may (s : Tb) (k n : Int) : Bool := decide ((0 ≤ k ∧ k < (s.ps.length : Int)) ∧ (get s k).2 ≤ 0 ∧ 1 ≤ n)
def hit (s : Tb) (k n : Int) : Bool := may s k n && decide (s.limit - (get s k).1 ≤ n)
def blame (s : Tb) (k n : Int) : Tb := if may s k n = true then (if s.limit - (get s k).1 ≤ n then put s k (s.limit / 2, s.hold) else put s k ((get s k).1 + n, 0)) else s
def fits (s : Tb) (k : Int) (p : Int × Int) : Bool := decide ((0 ≤ k ∧ k < (s.ps.length : Int)) ∧ (0 ≤ p.1 ∧ p.1 ≤ s.limit - 1) ∧ (0 ≤ p.2 ∧ p.2 ≤ s.hold))
def set (s : Tb) (k : Int) (p : Int × Int) : Tb := if fits s k p = true then put s k p else s
def setE (s : Tb) (k : Int) (p : Int × Int) : Int := if fits s k p = true then 0 else 1
def tk (p : Int × Int) : Int × Int := if 0 < p.2 then (p.1, p.2 - 1) else p
def tick (s : Tb) : Tb := { s with ps := s.ps.map tk }
/-- Of the first ones, so many, those who are let in at the next tick; those who aren't kept away. -/
def ins (ps : List (Int × Int)) (i : Nat) : List Nat := (List.range i).filter fun k => (ps.getD k (0, 0)).2 == 1
def opens (ps : List (Int × Int)) (i : Nat) : List Nat := (List.range i).filter fun k => decide ((ps.getD k (0, 0)).2 ≤ 0)
structure Ok (s : Tb) : Prop where
  many : 1 ≤ s.ps.length ∧ s.ps.length ≤ 64
  limit : 1 ≤ s.limit ∧ s.limit ≤ 1000
  hold : 1 ≤ s.hold ∧ s.hold ≤ 1000
  pts : ∀ p ∈ s.ps, 0 ≤ p.1 ∧ p.1 < s.limit
  left : ∀ p ∈ s.ps, 0 ≤ p.2 ∧ p.2 ≤ s.hold
def new (many : Nat) (limit hold : Int) : Tb := ⟨List.replicate many (0, 0), limit, hold⟩
theorem new_ok {many : Nat} {limit hold : Int} (h1 : 1 ≤ many ∧ many ≤ 64) (h2 : 1 ≤ limit ∧ limit ≤ 1000) (h3 : 1 ≤ hold ∧ hold ≤ 1000) : Ok (new many limit hold) := by
  refine ⟨by simpa [new] using h1, h2, h3, fun p hp => ?_, fun p hp => ?_⟩
  · obtain rfl : p = (0, 0) := List.eq_of_mem_replicate hp
    exact ⟨Int.le_refl 0, h2.1⟩
  · obtain rfl : p = (0, 0) := List.eq_of_mem_replicate hp
    exact ⟨Int.le_refl 0, by show (0 : Int) ≤ hold; omega⟩
theorem put_ok {s : Tb} (h : Ok s) (k : Int) {p : Int × Int} (h1 : 0 ≤ p.1 ∧ p.1 < s.limit) (h2 : 0 ≤ p.2 ∧ p.2 ≤ s.hold) : Ok (put s k p) := by
  refine ⟨by simpa [put] using h.many, h.limit, h.hold, fun q hq => ?_, fun q hq => ?_⟩
  · rcases List.mem_or_eq_of_mem_set hq with hq | rfl
    · exact h.pts q hq
    · exact h1
  · rcases List.mem_or_eq_of_mem_set hq with hq | rfl
    · exact h.left q hq
    · exact h2
theorem get_mem {s : Tb} {k : Int} (h : 0 ≤ k ∧ k < (s.ps.length : Int)) : get s k ∈ s.ps := by
  unfold get
  rw [if_pos h, List.getD_eq_getElem?_getD, List.getElem?_eq_getElem (by omega)]
  exact List.getElem_mem _
theorem get_nat {s : Tb} {i : Nat} {p : Int × Int} (h : s.ps[i]? = some p) : get s (i : Int) = p := by
  have hi := (List.getElem?_eq_some_iff.1 h).1
  unfold get
  rw [if_pos (by omega), List.getD_eq_getElem?_getD, Int.toNat_natCast, h]
  rfl
theorem blame_ok {s : Tb} (h : Ok s) (k n : Int) : Ok (blame s k n) := by
  unfold blame
  split
  · rename_i hm
    have hm' := of_decide_eq_true hm
    obtain ⟨h1, h2, h3⟩ := hm'
    have hp := h.pts _ (get_mem h1)
    have hl := h.limit
    have hh := h.hold
    split
    · refine put_ok h k ?_ ?_
      · show 0 ≤ s.limit / 2 ∧ s.limit / 2 < s.limit
        omega
      · show 0 ≤ s.hold ∧ s.hold ≤ s.hold
        omega
    · refine put_ok h k ?_ ?_
      · show 0 ≤ (get s k).1 + n ∧ (get s k).1 + n < s.limit
        omega
      · show (0 : Int) ≤ 0 ∧ 0 ≤ s.hold
        omega
  · exact h
theorem set_ok {s : Tb} (h : Ok s) (k : Int) (p : Int × Int) : Ok (set s k p) := by
  unfold set
  split
  · rename_i hm
    obtain ⟨h1, h2, h3⟩ := of_decide_eq_true hm
    exact put_ok h k ⟨h2.1, by omega⟩ h3
  · exact h
theorem tk_ok (p : Int × Int) (l hd : Int) (h1 : 0 ≤ p.1 ∧ p.1 < l) (h2 : 0 ≤ p.2 ∧ p.2 ≤ hd) : (0 ≤ (tk p).1 ∧ (tk p).1 < l) ∧ 0 ≤ (tk p).2 ∧ (tk p).2 ≤ hd := by
  unfold tk
  split
  · exact ⟨h1, by show 0 ≤ p.2 - 1 ∧ p.2 - 1 ≤ hd; omega⟩
  · exact ⟨h1, h2⟩
theorem tick_ok {s : Tb} (h : Ok s) : Ok (tick s) := by
  refine ⟨by simpa [tick] using h.many, h.limit, h.hold, fun q hq => ?_, fun q hq => ?_⟩
  · obtain ⟨p, hp, rfl⟩ := List.mem_map.1 hq
    exact (tk_ok p _ _ (h.pts p hp) (h.left p hp)).1
  · obtain ⟨p, hp, rfl⟩ := List.mem_map.1 hq
    exact (tk_ok p _ _ (h.pts p hp) (h.left p hp)).2
end Sc

/-! ### the map's entries -/
def pv (p : Int × Int) : Value := .agg #[.int .i64 p.1, .int .i64 p.2]
def pent : Nat → List (Int × Int) → List MapEntry
  | _, [] => []
  | j, p :: ps => { key := .int .i64 (j : Int), val := pv p, born := j } :: pent (j + 1) ps
theorem pent_length : ∀ (ps : List (Int × Int)) (j : Nat), (pent j ps).length = ps.length
  | [], _ => rfl
  | _ :: ps, j => by unfold pent; rw [List.length_cons, pent_length ps, List.length_cons]
theorem pent_get : ∀ (ps : List (Int × Int)) (j i : Nat), (pent j ps)[i]? = ps[i]?.map fun p => { key := .int .i64 ((j + i : Nat) : Int), val := pv p, born := j + i }
  | [], j, i => rfl
  | p :: ps, j, 0 => rfl
  | p :: ps, j, i + 1 => by
    unfold pent
    rw [List.getElem?_cons_succ, List.getElem?_cons_succ, pent_get ps (j + 1) i, show j + 1 + i = j + (i + 1) by omega]
theorem pent_snoc : ∀ (ps : List (Int × Int)) (j : Nat) (q : Int × Int), pent j (ps ++ [q]) = pent j ps ++ [{ key := .int .i64 ((j + ps.length : Nat) : Int), val := pv q, born := j + ps.length }]
  | [], j, q => rfl
  | p :: ps, j, q => by
    show pent j (p :: (ps ++ [q])) = pent j (p :: ps) ++ _
    unfold pent
    rw [pent_snoc ps (j + 1) q, List.cons_append, List.length_cons, show j + 1 + ps.length = j + (ps.length + 1) by omega]
theorem pent_set : ∀ (ps : List (Int × Int)) (j i : Nat) (q : Int × Int), pent j (ps.set i q) = (pent j ps).set i { key := .int .i64 ((j + i : Nat) : Int), val := pv q, born := j + i }
  | [], j, i, q => rfl
  | p :: ps, j, 0, q => rfl
  | p :: ps, j, i + 1, q => by
    show pent j (p :: ps.set i q) = (pent j (p :: ps)).set (i + 1) _
    unfold pent
    rw [pent_set ps (j + 1) i q, List.set_cons_succ, show j + 1 + i = j + (i + 1) by omega]
theorem pent_none : ∀ (ps : List (Int × Int)) (j n : Nat) (k : Int), (k < (j : Int) ∨ (j : Int) + ps.length ≤ k) → Instr.findNow (.int .i64) (.int .i64 k) (pent j ps) n = some none
  | [], j, n, k, h => rfl
  | p :: ps, j, n, k, h => by
    rw [List.length_cons] at h
    have hki : ¬ k = (j : Int) := by omega
    unfold pent Instr.findNow
    have hs : Instr.sameNow (.int .i64) (.int .i64 k) (Value.int .i64 (j : Int)) = some false := by simp [Instr.sameNow, hki]
    rw [hs]
    exact pent_none ps (j + 1) (n + 1) k (by omega)
theorem pent_some : ∀ (ps : List (Int × Int)) (j n i : Nat) (p : Int × Int), ps[i]? = some p → Instr.findNow (.int .i64) (.int .i64 ((j + i : Nat) : Int)) (pent j ps) n = some (some (n + i, pv p))
  | [], j, n, i, p, h => by simp at h
  | q :: ps, j, n, 0, p, h => by
    obtain rfl : q = p := by simpa using h
    unfold pent Instr.findNow
    simp [Instr.sameNow]
  | q :: ps, j, n, i + 1, p, h => by
    have hne : ¬ (((j + (i + 1) : Nat) : Int) = (j : Int)) := by omega
    unfold pent Instr.findNow
    have hs : Instr.sameNow (.int .i64) (.int .i64 ((j + (i + 1) : Nat) : Int)) (Value.int .i64 (j : Int)) = some false := by simp only [Instr.sameNow]; simp; omega
    rw [hs]
    have := pent_some ps (j + 1) (n + 1) i p (by simpa using h)
    rw [show j + 1 + i = j + (i + 1) by omega, show n + 1 + i = n + (i + 1) by omega] at this
    exact this

/-- Block b is a map that holds just these, by their places. -/
def PMap (w : World) (b : Nat) (ps : List (Int × Int)) : Prop := w.heap[b]? = some (.map (pent 0 ps).toArray ps.length)
section
variable {P : Program} {w w' : World} {b : Nat} {ps : List (Int × Int)}
theorem PMap.lt (h : PMap w b ps) : b < w.heap.size := (Array.getElem?_eq_some_iff.1 h).1
theorem PMap.keeps {S : Nat → Prop} (h : PMap w b ps) (hk : Keeps S w w') (hs : ¬ S b) : PMap w' b ps := (hk.block b h.lt hs).trans h
theorem PMap.made (w : World) : PMap (w.alloc (.map #[] 0)) w.heap.size [] := heap_alloc_new w _
theorem PMap.apart {g : Nat} {cs : Array Value} {t : TypeId} {fr : Nat × Nat} (h : PMap w b ps) (hg : w.heap[g]? = some (.cells cs t fr)) : b ≠ g := by
  rintro rfl
  unfold PMap at h
  rw [h] at hg
  cases hg
theorem PMap.look_ok {t kt e : TypeId} (h : PMap w b ps) (ht : P.underlying t = some (.map kt e)) (hk : P.underlying kt = some (.int .i64)) (hz : (zeroValue e).run P w = .ok (pv (0, 0)) w) (k : Int) (l hd : Int) :
    (Instr.lookup t (.map (some b)) (.int .i64 k) true).run P w = .ok (.tuple #[pv (Sc.get ⟨ps, l, hd⟩ k), .bool (Sc.has ⟨ps, l, hd⟩ k)]) w := by
  unfold PMap at h
  by_cases hh : 0 ≤ k ∧ k < (ps.length : Int)
  · obtain ⟨i, rfl⟩ := Int.eq_ofNat_of_zero_le hh.1
    obtain ⟨p, hp⟩ : ∃ p, ps[i]? = some p := ⟨_, List.getElem?_eq_getElem (by omega)⟩
    have hf := pent_some ps 0 0 i p hp
    rw [Nat.zero_add] at hf
    have e1 : Sc.get ⟨ps, l, hd⟩ (i : Int) = p := Sc.get_nat hp
    have e2 : Sc.has ⟨ps, l, hd⟩ (i : Int) = true := decide_eq_true hh
    rw [e1, e2]
    simp [Instr.lookup, run_underlying ht, MapKept.run_getObj_map h, run_check_int hk, MapKept.run_findKey hk hf, Result.andThen]
  · have hf := pent_none ps 0 0 k (by omega)
    have e1 : Sc.get ⟨ps, l, hd⟩ k = (0, 0) := by unfold Sc.get; rw [if_neg hh]
    have e2 : Sc.has ⟨ps, l, hd⟩ k = false := decide_eq_false hh
    rw [e1, e2]
    simp [Instr.lookup, run_underlying ht, MapKept.run_getObj_map h, run_check_int hk, MapKept.run_findKey hk hf, Result.andThen, hz]
theorem PMap.look {t kt e : TypeId} (h : PMap w b ps) (ht : P.underlying t = some (.map kt e)) (hk : P.underlying kt = some (.int .i64)) (i : Nat) (p : Int × Int) (hp : ps[i]? = some p) :
    (Instr.lookup t (.map (some b)) (.int .i64 (i : Int)) false).run P w = .ok (pv p) w := by
  unfold PMap at h
  have hf := pent_some ps 0 0 i p hp
  rw [Nat.zero_add] at hf
  simp [Instr.lookup, run_underlying ht, MapKept.run_getObj_map h, run_check_int hk, MapKept.run_findKey hk hf, Result.andThen]
theorem pmap_turn {es : Array MapEntry} {clock : Nat} (hb : w.heap[b]? = some (.map es clock)) {qs : List (Int × Int)} {es' : Array MapEntry} {clock' : Nat} (he : es' = (pent 0 qs).toArray) (hc : clock' = qs.length) :
    PMap { w with heap := w.heap.setIfInBounds b (.map es' clock') } b qs ∧ Keeps (fun k => k = b) w { w with heap := w.heap.setIfInBounds b (.map es' clock') } := by
  have hlt := (Array.getElem?_eq_some_iff.1 hb).1
  subst he
  subst hc
  refine ⟨by unfold PMap; simp [hlt], rfl, rfl, rfl, by simp, fun k _ hs => ?_⟩
  have hs' : b ≠ k := fun e => hs e.symm
  simp [hs']
theorem PMap.store {t kt e : TypeId} (h : PMap w b ps) (ht : P.underlying t = some (.map kt e)) (hk : P.underlying kt = some (.int .i64)) (i : Nat) (hi : i < ps.length) (q : Int × Int) :
    ∃ w', (Instr.mapUpdate t (.map (some b)) (.int .i64 (i : Int)) (pv q)).run P w = .ok () w' ∧ PMap w' b (ps.set i q) ∧ Keeps (fun k => k = b) w w' := by
  unfold PMap at h
  obtain ⟨p, hp⟩ : ∃ p, ps[i]? = some p := ⟨_, List.getElem?_eq_getElem hi⟩
  have hf := pent_some ps 0 0 i p hp
  rw [Nat.zero_add] at hf
  have hpe : (pent 0 ps)[i]? = some { key := .int .i64 (i : Int), val := pv p, born := i } := by rw [pent_get, hp]; simp
  have hst : (Instr.keyThatStays ((((pent 0 ps).toArray[i]?).map (·.key)).getD (.int .i64 (i : Int))) (.int .i64 (i : Int))).run P w = .ok (.int .i64 (i : Int)) w := by
    rw [List.getElem?_toArray, hpe]
    simp [Instr.keyThatStays, Instr.sameBits]
  refine ⟨_, ?_, pmap_turn (es' := (pent 0 ps).toArray.modify i fun e => { e with key := .int .i64 (i : Int), val := pv q }) (clock' := ps.length) h ?_ (by simp)⟩
  · simp [Instr.mapUpdate, run_underlying ht, MapKept.run_getObj_map h, run_check_int hk, MapKept.run_findKey hk hf, Result.andThen]
    simp at hst
    rw [hst]
    simp [MapKept.run_setObj_map _ h]
  · rw [pent_set]
    apply Array.toList_inj.1
    apply List.ext_getElem?
    intro j
    rw [Array.getElem?_toList, Array.getElem?_modify, List.getElem?_toArray, List.getElem?_set]
    by_cases hj : i = j
    · subst hj
      have hl : i < (pent 0 ps).length := by rw [pent_length]; exact hi
      have hb : (pent 0 ps)[i].born = i := by
        rw [List.getElem?_eq_getElem hl] at hpe
        injection hpe with hpe
        rw [hpe]
      simp [hl, hb]
    · simp [hj]
theorem PMap.push {t kt e : TypeId} (h : PMap w b ps) (ht : P.underlying t = some (.map kt e)) (hk : P.underlying kt = some (.int .i64)) (q : Int × Int) :
    ∃ w', (Instr.mapUpdate t (.map (some b)) (.int .i64 (ps.length : Int)) (pv q)).run P w = .ok () w' ∧ PMap w' b (ps ++ [q]) ∧ Keeps (fun k => k = b) w w' := by
  unfold PMap at h
  have hf := pent_none ps 0 0 (ps.length : Int) (by omega)
  refine ⟨_, ?_, pmap_turn (es' := (pent 0 ps).toArray.push { key := .int .i64 (ps.length : Int), val := pv q, born := ps.length }) (clock' := ps.length + 1) h ?_ (by simp)⟩
  · simp [Instr.mapUpdate, run_underlying ht, MapKept.run_getObj_map h, run_check_int hk, MapKept.run_findKey hk hf, MapKept.run_setObj_map _ h, Result.andThen]
  · rw [pent_snoc]
    simp
end

/-! ### at the operation -/
section
variable {P : Program} {ops : Array Oper} {rest : List Oper} {o : Oper} {a : Act} {w : World} {Q : Exit → Act → World → Prop}
theorem wpList_pmap_store (hg : o.guard = none) (m x v : Operand) (t kt e : TypeId) (hop : o.op = Op.mapUpdate t m x v) (ht : P.underlying t = some (.map kt e)) (hk : P.underlying kt = some (.int .i64)) (b : Nat) (ps : List (Int × Int)) (i : Nat) (hi : i < ps.length) (q : Int × Int)
    (hm : a.eval m = .map (some b)) (hx : a.eval x = .int .i64 (i : Int)) (hv : a.eval v = pv q) (h : PMap w b ps)
    (hK : ∀ w', PMap w' b (ps.set i q) → Keeps (fun k => k = b) w w' → wpList P ops Q rest (a.put o.dst undef) w') : wpList P ops Q (o :: rest) a w := by
  refine wpList_plain hg fun K' hK' => ?_
  obtain ⟨w', hrun, r1, r2⟩ := h.store ht hk i hi q
  unfold Oper.wp
  simp [execOp, hop, hm, hx, hv, hrun, Result.andThen]
  exact hK' _ _ (hK w' r1 r2)
theorem wpList_pmap_push (hg : o.guard = none) (m x v : Operand) (t kt e : TypeId) (hop : o.op = Op.mapUpdate t m x v) (ht : P.underlying t = some (.map kt e)) (hk : P.underlying kt = some (.int .i64)) (b : Nat) (ps : List (Int × Int)) (n : Nat) (hn : n = ps.length) (q : Int × Int)
    (hm : a.eval m = .map (some b)) (hx : a.eval x = .int .i64 (n : Int)) (hv : a.eval v = pv q) (h : PMap w b ps)
    (hK : ∀ w', PMap w' b (ps ++ [q]) → Keeps (fun k => k = b) w w' → wpList P ops Q rest (a.put o.dst undef) w') : wpList P ops Q (o :: rest) a w := by
  refine wpList_plain hg fun K' hK' => ?_
  obtain ⟨w', hrun, r1, r2⟩ := h.push ht hk q
  unfold Oper.wp
  rw [hn] at hx
  simp [execOp, hop, hm, hx, hv, hrun, Result.andThen]
  exact hK' _ _ (hK w' r1 r2)
theorem wpList_pmap_look_ok (hg : o.guard = none) (m x : Operand) (t kt e : TypeId) (hop : o.op = Op.lookup t m x true) (ht : P.underlying t = some (.map kt e)) (hk : P.underlying kt = some (.int .i64)) (hz : ∀ w, (zeroValue e).run P w = .ok (pv (0, 0)) w) (b : Nat) (s : Sc.Tb) (k : Int)
    (hm : a.eval m = .map (some b)) (hx : a.eval x = .int .i64 k) (h : PMap w b s.ps)
    (hK : wpList P ops Q rest (a.put o.dst (.tuple #[pv (Sc.get s k), .bool (Sc.has s k)])) w) : wpList P ops Q (o :: rest) a w := by
  refine wpList_plain hg fun K' hK' => ?_
  have hrun := h.look_ok (P := P) ht hk (hz w) k s.limit s.hold
  unfold Oper.wp
  simp [execOp, hop, hm, hx, hrun, Result.andThen]
  exact hK' _ _ hK
theorem wpList_pmap_look (hg : o.guard = none) (m x : Operand) (t kt e : TypeId) (hop : o.op = Op.lookup t m x false) (ht : P.underlying t = some (.map kt e)) (hk : P.underlying kt = some (.int .i64)) (b : Nat) (ps : List (Int × Int)) (i : Nat) (p : Int × Int) (hp : ps[i]? = some p)
    (hm : a.eval m = .map (some b)) (hx : a.eval x = .int .i64 (i : Int)) (h : PMap w b ps)
    (hK : wpList P ops Q rest (a.put o.dst (pv p)) w) : wpList P ops Q (o :: rest) a w := by
  refine wpList_plain hg fun K' hK' => ?_
  have hrun := h.look (P := P) ht hk i p hp
  unfold Oper.wp
  simp [execOp, hop, hm, hx, hrun, Result.andThen]
  exact hK' _ _ hK
end
end Go.Proofs.Ytdihkbkcefjeoaa
