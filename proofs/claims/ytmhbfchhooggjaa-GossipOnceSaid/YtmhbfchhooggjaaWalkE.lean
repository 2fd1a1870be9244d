/-
  Drawn regions: calls and appends that store, cells and rows that the region itself stores to. No number of any translation stands here.
-/
import Derived.Test.YtmhbfchhooggjaaWalkT
import Derived.Test.YtmhbfchhooggjaaOwnB
namespace Go.Proofs.Ytmhbfchhooggjaa
open Go.RowKit Go.BigFrame
set_option linter.unusedVariables false

section
variable {P : Program} (w : World)
theorem run_append_full (t ty e : TypeId) (i : TypeInfo) (z : Value) (size bytes : Nat) (ht : P.underlying t = some (.slice e)) (hi : P.info? e = some i) (hz : i.zero = some z)
    (hsize : i.size = size) (hby : i.bytes = bytes) (hzs : z.cells.size = size) (A : Option Addr) (n : Nat) (xs : List Value) (hxl : xs.length = n * size) (hsrc : Src w A xs) (h0 : A = none → n = 0)
    (a : Addr) (m c : Nat) (news : List Value) (hl : news.length = m * size) (hnews : ∀ j u, news[j]? = some u → w.cell? (a.add j) = some u) (hm : 0 < m) (h63 : n + m ≤ maxLen) (hbytes : (n + m) * bytes ≤ 140737488355328) :
    ∃ v' w', (Builtin.append_ #[t, t] ty #[.slice A n n, .slice (some a) m c]).run P w = .ok v' w' ∧ w'.ownsRow w.heap.size e size v' (n + m) (xs ++ news) ∧ Keeps (fun _ => False) w w' := by
  subst hsize
  subst hby
  have hsmall : n + m ≤ 9223372036854775807 := by simp only [maxLen] at h63; omega
  have hlen : (xs ++ news).length = (n + m) * i.size := by rw [List.length_append, hxl, hl, Nat.add_mul]
  have grown : ∀ (old : Nat), old < n + m →
      (w.drew.alloc (.cells (xs.toArray ++ news.toArray ++ Builtin.zeroCells z.cells (grownCap w (n + m) old e - (n + m))) e)).ownsRow w.heap.size e i.size
        (.slice (some ⟨w.heap.size, 0, none⟩) (n + m) (grownCap w (n + m) old e)) (n + m) (xs ++ news) ∧
      Keeps (fun _ => False) w (w.drew.alloc (.cells (xs.toArray ++ news.toArray ++ Builtin.zeroCells z.cells (grownCap w (n + m) old e - (n + m))) e)) := by
    intro old ho
    have hge := grownCap_ge w (n + m) old e
    have hcm : grownCap w (n + m) old e ≤ maxLen := grownCap_le_maxLen w (n + m) old e h63
    refine ⟨⟨hlen, .inr ⟨w.heap.size, _, _, rfl, Nat.le_refl _, heap_alloc_new w.drew _, hge, hcm, ?_, ?_⟩⟩, (Keeps.refl _ w).drew.alloc _⟩
    · simp only [Array.size_append, List.size_toArray, size_zeroCells, hzs, hxl, hl, ← Nat.add_mul]
      congr 1
      omega
    · simp only [Array.toList_append, List.append_assoc]
      rw [← List.append_assoc, ← hlen]
      exact List.take_left
  cases A with
  | none =>
    obtain rfl := h0 rfl
    have hx : xs = [] := List.eq_nil_of_length_eq_zero (by simpa using hxl)
    subst hx
    have hr := run_append_nil (P := P) w t ty e i z ht hi hz a m c news hl hnews hm (by omega) (by have hb := hbytes; simp only [Nat.zero_add] at hb; omega)
    have hgr := grown 0 (by omega)
    simp only [Nat.zero_add, List.nil_append, Array.empty_append] at hgr ⊢
    exact ⟨_, _, hr, hgr.1, hgr.2⟩
  | some b =>
    have hr := run_append_grow (P := P) w t ty e i z ht hi hz b n n xs hxl (fun j u hu => hsrc.at_ hu) a m c news hl hnews (by omega) (by omega) (growslice_fits (by omega) hbytes)
    have hgr := grown n (by omega)
    exact ⟨_, _, hr, hgr.1, hgr.2⟩
end
section
variable {P : Program} {ops : Array Oper} {B : World → Prop} {ls : List Nat} {E : Act → World → Prop} {k : Nat} {o : Oper} {rest : List Nat} {a : Act} {F : World → Prop}
/-- A function is called that may store. -/
theorem T_enter (h0 : ops[k]? = some o) (hw : Region.wanted o (yielded ops a.tmps) = true) (hk : ls.contains k = true) (f : FuncId) (args : Array Value) (v : Value) (hrun : ∀ w, (execOp a.eval o).run P w = .ok (.enter f args) w) (G : World → Prop) (hG : Lasts G)
    (hc : ∀ w, B w → F w → Calls P f args w (fun e w' => e = .returned v ∧ B w' ∧ G w')) (h : wpT P ops B ls E rest (a.put o.dst v) G) : wpT P ops B ls E (k :: rest) a F := by
  refine T_loose h0 hw hk (fun u => u = v) (fun u w => G w) ⟨fun u => hG, fun w hb hf => ?_⟩ ?_
  · rw [hrun w]
    exact (hc w hb hf).mono fun e w' h => ⟨v, h.1, h.2.1, rfl, h.2.2⟩
  · intro u hu
    subst hu
    exact h
/-- The same, of a value that has letters. -/
theorem T_enterx {α : Type} (h0 : ops[k]? = some o) (hw : Region.wanted o (yielded ops a.tmps) = true) (hk : ls.contains k = true) (f : FuncId) (args : Array Value) (v : α → Value) (hrun : ∀ w, (execOp a.eval o).run P w = .ok (.enter f args) w) (G : World → Prop) (hG : Lasts G)
    (hc : ∀ w, B w → F w → Calls P f args w (fun e w' => ∃ x, e = .returned (v x) ∧ B w' ∧ G w')) (h : ∀ x, wpT P ops B ls E rest (a.put o.dst (v x)) G) : wpT P ops B ls E (k :: rest) a F := by
  refine T_loose h0 hw hk (fun u => ∃ x, u = v x) (fun u w => G w) ⟨fun u => hG, fun w hb hf => ?_⟩ ?_
  · rw [hrun w]
    exact (hc w hb hf).mono fun e w' ⟨x, h⟩ => ⟨v x, h.1, h.2.1, ⟨x, rfl⟩, h.2.2⟩
  · rintro u ⟨x, rfl⟩
    exact h x
theorem T_eq (h0 : ops[k]? = some o) (hw : Region.wanted o (yielded ops a.tmps) = true) (hk : ls.contains k = false) (op : BinOp) (t t2 : TypeId) (x y : Operand) (ho : o.op = .binOp op t x y t2) (xs ys : Array Value) (hx : a.eval x = .agg xs) (hy : a.eval y = .agg ys) (hm : P.eqGuardType P.depth t = false) (v : Value)
    (hrun : ∀ w, (binOp op t (.agg xs) (.agg ys)).run P w = .ok v w) (h : wpT P ops B ls E rest (a.put o.dst v) F) : wpT P ops B ls E (k :: rest) a F := by
  refine T_value h0 hw hk v (fun w _ => ?_) h
  unfold execOp
  simp only [ho, hx, hy, Sem.run_bind, Sem.run_pure, Result.andThen_ok, run_eqGuard_agg w op t x y xs ys hm, hrun]
/-- A function is called whose value has letters, of which more is known. -/
theorem T_enterR {α : Type} (h0 : ops[k]? = some o) (hw : Region.wanted o (yielded ops a.tmps) = true) (hk : ls.contains k = true) (f : FuncId) (args : Array Value) (v : α → Value) (hinj : ∀ x y, v x = v y → x = y) (hrun : ∀ w, (execOp a.eval o).run P w = .ok (.enter f args) w) (R : α → World → Prop) (hR : ∀ x, Lasts (R x))
    (hc : ∀ w, B w → F w → Calls P f args w (fun e w' => ∃ x, e = .returned (v x) ∧ B w' ∧ R x w')) (h : ∀ x, wpT P ops B ls E rest (a.put o.dst (v x)) (R x)) : wpT P ops B ls E (k :: rest) a F := by
  refine T_loose h0 hw hk (fun u => ∃ x, u = v x) (fun u w => ∃ x, u = v x ∧ R x w) ⟨fun u => fun w w' ⟨x, h1, h2⟩ hk => ⟨x, h1, hR x w w' h2 hk⟩, fun w hb hf => ?_⟩ ?_
  · rw [hrun w]
    exact (hc w hb hf).mono fun e w' ⟨x, h⟩ => ⟨v x, h.1, h.2.1, ⟨x, rfl⟩, x, rfl, h.2.2⟩
  · rintro u ⟨x, rfl⟩
    refine T_alloc.wpT_weak (fun w ⟨y, h1, h2⟩ => ?_) (h x)
    rw [hinj x y h1]
    exact h2
/-- One thing is appended to a full slice. -/
theorem T_append (h0 : ops[k]? = some o) (hw : Region.wanted o (yielded ops a.tmps) = true) (hk : ls.contains k = true) (t : TypeId) (s x : Operand) (ho : o.op = .call { callee := .builtin .append, args := #[s, x], argTypes := #[t, t] })
    (e : TypeId) (i : TypeInfo) (z : Value) (size bytes : Nat) (ht : P.underlying t = some (.slice e)) (hi : P.info? e = some i) (hz : i.zero = some z) (hsize : i.size = size) (hby : i.bytes = bytes) (hzs : z.cells.size = size)
    (A : Option Addr) (n : Nat) (xs : List Value) (hs : a.eval s = .slice A n n) (hxl : xs.length = n * size) (hA0 : A = none → n = 0) (gb c : Nat) (hx : a.eval x = .slice (some ⟨gb, 0, none⟩) 1 c) (news : List Value) (hl : news.length = size)
    (h63 : n + 1 ≤ maxLen) (hbytes : (n + 1) * bytes ≤ 140737488355328) (hB : Lasts B) (hF : Lasts F) (n0 : Nat) (hn : ∀ w, B w → n0 ≤ w.heap.size) (hsrc : ∀ w, B w → F w → Src w A xs) (hnews : ∀ w, B w → F w → w.heap[gb]? = some (.cells news.toArray e (0, 0)))
    (h : ∀ A' c', wpT P ops B ls E rest (a.put o.dst (.slice A' (n + 1) c')) (fun w => F w ∧ w.ownsRow n0 e size (.slice A' (n + 1) c') (n + 1) (xs ++ news))) : wpT P ops B ls E (k :: rest) a F := by
  refine T_loose h0 hw hk (fun v => ∃ A' c', v = .slice A' (n + 1) c') (fun v w => F w ∧ w.ownsRow n0 e size v (n + 1) (xs ++ news)) ⟨fun v => ?_, fun w hb hf => ?_⟩ ?_
  · exact hF.and (fun w w' hq hk => hk.owns hq (fun _ _ => id))
  · obtain ⟨v', w', hr, h2, h3⟩ := run_append_full (P := P) w t o.type e i z size bytes ht hi hz hsize hby hzs A n xs hxl (hsrc w hb hf) hA0 ⟨gb, 0, none⟩ 1 c news (by omega) (World.news_of_block (hnews w hb hf)) (by omega) h63 hbytes
    unfold execOp
    simp only [ho, resolve, invoke, builtin, Sem.run_bind, Sem.run_pure, Result.andThen_ok, List.map_toArray, List.map_cons, List.map_nil, hs, hx, hr]
    obtain ⟨A', c', hv⟩ : ∃ A' c', v' = .slice A' (n + 1) c' := by
      rcases h2.2 with ⟨_, h0⟩ | ⟨_, _, _, hv, _⟩
      · omega
      · exact ⟨_, _, hv⟩
    refine ⟨hB _ _ hb h3, ⟨A', c', hv⟩, hF _ _ hf h3, h2.1, ?_⟩
    rcases h2.2 with h4 | ⟨g, cap, cur, h4, h5, h6⟩
    · exact .inl h4
    · exact .inr ⟨g, cap, cur, h4, Nat.le_trans (hn w hb) h5, h6⟩
  · rintro v ⟨A', c', rfl⟩
    exact h A' c'
theorem run_storeVar_cell (w : World) (p : Addr) (ty : TypeId) (v old : Value) (hc : w.cell? p = some old) (hf : w.frozen? p = false) (hv : v.oneCell' = true) (hvc : v.cells = #[v]) (hi : (P.info? ty).map (·.size) = some 1) : (storeVar ty p v).run P w = .ok () (w.setCell p v) := by
  cases hq : P.info? ty with
  | none => simp [hq] at hi
  | some i =>
    have hs : i.size = 1 := by simpa [hq] using hi
    have hst : (store p v).run P w = .ok () (w.setCell p v) := by rw [run_store _ _ _ _ _ hv, hc]; simp [hf]
    have hp0 : p.add 0 = p := rfl
    simp [storeVar, sizeOf, typeInfo, hq, hvc, hs, storeCells, hp0, hst]
/-- A row is loaded that the region itself will store to. -/
theorem T_lload (h0 : ops[k]? = some o) (hw : Region.wanted o (yielded ops a.tmps) = true) (hk : ls.contains k = true) (ty : TypeId) (x : Operand) (ho : o.op = .load ty x) (b off : Nat) (hx : a.eval x = .pointer (some ⟨b, off, none⟩)) (cs : List Value) (d : TypeDesc) (hF : Lasts F)
    (hc : ∀ w, B w → F w → w.rangeAt b off cs) (hu : P.underlying ty = some d) (hd : d.isRow = true) (hi : (P.info? ty).map (·.size) = some cs.length) (h : wpT P ops B ls E rest (a.put o.dst (.agg cs.toArray)) F) : wpT P ops B ls E (k :: rest) a F := by
  refine T_loose h0 hw hk (fun v => v = .agg cs.toArray) (fun v w => F w) ⟨fun v => hF, fun w hb hf => ?_⟩ ?_
  · unfold execOp
    simp only [ho, hx, Sem.run_bind, Sem.run_pure, Result.andThen_ok, run_loadAt_mid w b off ty cs d (hc w hb hf) hu hd hi]
    exact ⟨hb, rfl, hf⟩
  · rintro v rfl
    exact h
/-- A cell is stored to. -/
theorem T_cell_store (h0 : ops[k]? = some o) (hw : Region.wanted o (yielded ops a.tmps) = true) (hk : ls.contains k = true) (ty : TypeId) (q x : Operand) (ho : o.op = .store ty q x) (hd : o.dst = none) (p : Addr) (hp : a.eval q = .pointer (some p)) (v : Value) (hx : a.eval x = v)
    (hv : v.oneCell' = true) (hvc : v.cells = #[v]) (hi : (P.info? ty).map (·.size) = some 1) (G : World → Prop) (hG : Lasts G) (hF : ∀ w, B w → F w → (∃ old, w.cell? p = some old) ∧ w.frozen? p = false ∧ B (w.setCell p v) ∧ G (w.setCell p v))
    (h : wpT P ops B ls E rest a G) : wpT P ops B ls E (k :: rest) a F := by
  refine T_loose h0 hw hk (fun v => True) (fun v w => G w) ⟨fun v => hG, fun w hb hf => ?_⟩ ?_
  · obtain ⟨⟨old, h1⟩, h2, h3, h4⟩ := hF w hb hf
    unfold execOp
    simp only [ho, hp, hx, Instr.storeAt, Instr.sureAddr, Sem.run_bind, Sem.run_pure, Result.andThen_ok, run_storeVar_cell w p ty v old h1 h2 hv hvc hi]
    exact ⟨h3, trivial, h4⟩
  · intro v _
    rw [hd]
    exact h
/-- A cell is loaded that the region itself will store to. -/
theorem T_lcell (h0 : ops[k]? = some o) (hw : Region.wanted o (yielded ops a.tmps) = true) (hk : ls.contains k = true) (ty : TypeId) (x : Operand) (ho : o.op = .load ty x) (p : Addr) (hx : a.eval x = .pointer (some p)) (v : Value) (d : TypeDesc) (hF : Lasts F)
    (hc : ∀ w, B w → F w → w.cell? p = some v) (hu : P.underlying ty = some d) (hd : d.isRow = false) (h : wpT P ops B ls E rest (a.put o.dst v) F) : wpT P ops B ls E (k :: rest) a F := by
  refine T_loose h0 hw hk (fun u => u = v) (fun u w => F w) ⟨fun v => hF, fun w hb hf => ?_⟩ ?_
  · unfold execOp
    simp only [ho, hx, Instr.loadAt, Instr.sureAddr, Sem.run_bind, Sem.run_pure, Result.andThen_ok, run_loadVar_one w p ty d v (hc w hb hf) hu hd]
    exact ⟨hb, rfl, hf⟩
  · intro u hu
    subst hu
    exact h
end
/-- An append by its run. -/
theorem wpList_append_run {P : Program} {ops : Array Oper} {rest : List Oper} {o : Oper} {a : Act} {w : World} {Q : Exit → Act → World → Prop} (hgd : o.guard = none) (s x : Operand) (t t2 : TypeId) (ho : o.op = .call { callee := .builtin .append, args := #[s, x], argTypes := #[t, t2] })
    (v1 v2 v' : Value) (w' : World) (hs : a.eval s = v1) (hx : a.eval x = v2) (hrun : (Builtin.append_ #[t, t2] o.type #[v1, v2]).run P w = .ok v' w') (h : wpList P ops Q rest (a.put o.dst v') w') : wpList P ops Q (o :: rest) a w := by
  refine wpList_plain hgd fun _ hK => ?_
  unfold Oper.wp execOp
  simp only [ho, resolve, invoke, builtin, Sem.run_bind, Sem.run_pure, Result.andThen_ok, List.map_toArray, List.map_cons, List.map_nil, hs, hx, hrun]
  exact hK _ _ h
end Go.Proofs.Ytmhbfchhooggjaa
