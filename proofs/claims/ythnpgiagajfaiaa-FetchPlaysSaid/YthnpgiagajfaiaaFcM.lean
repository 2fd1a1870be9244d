/-
  The map of what is asked for: its entries in whatever order; looked up, stored to, deleted from.
-/
import Derived.Test.YthnpgiagajfaiaaFtQ
import Derived.Test.YthnpgiagajfaiaaRowB
import Derived.Test.YthnpgiagajfaiaaWalkT
import Derived.MapKept
import Derived.Carry
import Derived.WideKeyRuns
import Derived.ChangeMaps4
namespace Go.Proofs.Ythnpgiagajfaiaa
open Go.RowKit Go.BigFrame
set_option linter.unusedVariables false
set_option linter.unusedSimpArgs false

def wkey (k : Ft.Wn) : Value := .agg (wcs k).toArray
def sval (q : Ft.Q) : Value := .agg #[.int .i64 (q.tries : Int), .int .i64 q.left]
def ev (q : Ft.Q) : Value × Value := (wkey q.key, sval q)
def ee (e : MapEntry) : Value × Value := (e.key, e.val)
theorem wkey_inj {a b : Ft.Wn} (ha : Ft.Wn.Ok a) (hb : Ft.Wn.Ok b) (h : wkey a = wkey b) : a = b := by
  unfold wkey at h
  injection h with h
  exact wcs_inj ha hb (by simpa using h)
/-- Each once. -/
def Dis (l : List Ft.Q) : Prop := l.Pairwise (fun a b => a.key ≠ b.key)
theorem Ft.Sorted.dis {l : List Ft.Q} (h : Ft.Sorted l) : Dis l := List.Pairwise.imp (fun {a b} h e => by rw [e, Ft.wless_irrefl] at h; cases h) h
theorem Dis.eq : ∀ {l : List Ft.Q}, Dis l → ∀ {a b : Ft.Q}, a ∈ l → b ∈ l → a.key = b.key → a = b
  | [], _, _, _, h, _, _ => by cases h
  | x :: l, h, a, b, ha, hb, e => by
    obtain ⟨h1, h2⟩ := List.pairwise_cons.1 h
    rcases List.mem_cons.1 ha with e1 | ha'
    · rcases List.mem_cons.1 hb with e2 | hb'
      · rw [e1, e2]
      · exact absurd (by rw [← e1]; exact e) (h1 b hb')
    · rcases List.mem_cons.1 hb with e2 | hb'
      · exact absurd (by rw [← e2]; exact e.symm) (h1 a ha')
      · exact Dis.eq h2 ha' hb' e
theorem done_none {l : List Ft.Q} {k : Ft.Wn} (h : ∀ q ∈ l, q.key ≠ k) : Ft.done l k = l := List.filter_eq_self.2 (fun q hq => decide_eq_true (h q hq))
theorem done_perm : ∀ {l : List Ft.Q}, Dis l → ∀ {q : Ft.Q}, q ∈ l → l.Perm (q :: Ft.done l q.key)
  | [], _, _, h => by cases h
  | x :: l, h, q, hq => by
    obtain ⟨h1, h2⟩ := List.pairwise_cons.1 h
    rcases List.mem_cons.1 hq with rfl | hq
    · have e : Ft.done (q :: l) q.key = l := by
        unfold Ft.done
        rw [List.filter_cons, if_neg (by simp)]
        exact done_none (fun y hy => (h1 y hy).symm)
      rw [e]
    · have e : Ft.done (x :: l) q.key = x :: Ft.done l q.key := by
        unfold Ft.done
        rw [List.filter_cons, if_pos (by simpa using h1 q hq)]
      rw [e]
      exact ((done_perm h2 hq).cons x).trans (List.Perm.swap _ _ _)
/-- Entries' stamps. -/
def Stm (es : List MapEntry) (clock : Nat) : Prop := (∀ x ∈ es, x.born < clock) ∧ (es.map (·.born)).Nodup
/-- Block b is a map of just these. -/
structure WMapAt (w : World) (b : Nat) (es : Array MapEntry) (clock : Nat) (l : List Ft.Q) : Prop where
  heap : w.heap[b]? = some (.map es clock)
  stm : Stm es.toList clock
  perm : (es.toList.map ee).Perm (l.map ev)
  ok : ∀ q ∈ l, Ft.Q.Ok q
  dis : Dis l
def WMap (w : World) (b : Nat) (l : List Ft.Q) : Prop := ∃ es clock, WMapAt w b es clock l

section
variable {w w' : World} {b : Nat} {l l' : List Ft.Q}
theorem WMap.lt (h : WMap w b l) : b < w.heap.size := by
  obtain ⟨es, clock, h⟩ := h
  exact (Array.getElem?_eq_some_iff.1 h.heap).1
theorem WMap.keeps {S : Nat → Prop} (h : WMap w b l) (hk : Keeps S w w') (hs : ¬ S b) : WMap w' b l := by
  have hlt := h.lt
  obtain ⟨es, clock, h⟩ := h
  exact ⟨es, clock, (hk.block b hlt hs).trans h.heap, h.stm, h.perm, h.ok, h.dis⟩
theorem WMap.to (h : WMap w b l) (hp : l.Perm l') : WMap w b l' := by
  obtain ⟨es, clock, h⟩ := h
  exact ⟨es, clock, h.heap, h.stm, h.perm.trans (hp.map ev), fun q hq => h.ok q (hp.mem_iff.2 hq), (hp.pairwise_iff (R := fun a b : Ft.Q => a.key ≠ b.key) (fun {a b} h => h.symm)).1 h.dis⟩
theorem WMap.made (w : World) : WMap (w.alloc (.map #[] 0)) w.heap.size [] := ⟨#[], 0, heap_alloc_new w _, ⟨fun _ h => (by cases h), List.nodup_nil⟩, List.Perm.refl _, fun _ h => (by cases h), List.Pairwise.nil⟩
theorem WMap.apart {g : Nat} {cs : Array Value} {t : TypeId} {fr : Nat × Nat} (h : WMap w b l) (hg : w.heap[g]? = some (.cells cs t fr)) : b ≠ g := by
  rintro rfl
  obtain ⟨es, clock, h⟩ := h
  rw [h.heap] at hg
  cases hg
end
theorem WMapAt.keys {w : World} {b : Nat} {es : Array MapEntry} {clock : Nat} {l : List Ft.Q} (h : WMapAt w b es clock l) : ∀ e ∈ es.toList, ∃ q ∈ l, e.key = wkey q.key ∧ e.val = sval q := fun e he => by
  have h1 : ee e ∈ l.map ev := h.perm.mem_iff.1 (List.mem_map_of_mem he)
  obtain ⟨q, hq, e1⟩ := List.mem_map.1 h1
  injection e1 with e2 e3
  exact ⟨q, hq, e2.symm, e3.symm⟩
/-- One is found, or none is there. -/
theorem WMapAt.find {w : World} {b : Nat} {es : Array MapEntry} {clock : Nat} {l : List Ft.Q} (h : WMapAt w b es clock l) (k : Ft.Wn) (hk : Ft.Wn.Ok k) (V : World) :
    ((Instr.findKey 41 (wkey k) es.toList).run Try.prog V = .ok none V ∧ ∀ q ∈ l, q.key ≠ k) ∨
    ∃ j e q, (Instr.findKey 41 (wkey k) es.toList).run Try.prog V = .ok (some (j, sval q)) V ∧ es.toList[j]? = some e ∧ e.key = wkey k ∧ e.val = sval q ∧ q ∈ l ∧ q.key = k := by
  have gen : ∀ (L : List MapEntry), (∀ e ∈ L, ∃ q ∈ l, e.key = wkey q.key ∧ e.val = sval q) → ∀ i,
      ((Instr.findAsking 41 (wkey k) L i).run Try.prog V = .ok none V ∧ ∀ e ∈ L, e.key ≠ wkey k) ∨
      ∃ j e q, (Instr.findAsking 41 (wkey k) L i).run Try.prog V = .ok (some (i + j, sval q)) V ∧ L[j]? = some e ∧ e.key = wkey k ∧ e.val = sval q ∧ q ∈ l ∧ q.key = k := by
    intro L
    induction L with
    | nil => intro _ i; exact .inl ⟨by simp [Instr.findAsking], fun _ h => (by cases h)⟩
    | cons e L ih =>
      intro hall i
      obtain ⟨q, hq, hqk, hqv⟩ := hall e (by simp)
      have hr : (Op.equal 41 (wkey k) e.key).run Try.prog V = .ok (decide (k = q.key)) V := by rw [hqk]; exact run_eq_want 9996 k q.key hk (h.ok q hq) V
      by_cases hkq : k = q.key
      · rw [decide_eq_true hkq] at hr
        refine .inr ⟨0, e, q, ?_, rfl, by rw [hqk, ← hkq], hqv, hq, hkq.symm⟩
        simp [Instr.findAsking, hr, hqv]
      · rw [decide_eq_false hkq] at hr
        have hne : e.key ≠ wkey k := fun e1 => hkq (wkey_inj hk (h.ok q hq) (by rw [← hqk, e1]))
        rcases ih (fun y hy => hall y (by simp [hy])) (i + 1) with ⟨h1, h2⟩ | ⟨j, e', q', h1, h2, h3, h4, h5, h6⟩
        · left
          refine ⟨by simp [Instr.findAsking, hr, h1], fun y hy => ?_⟩
          rcases List.mem_cons.1 hy with rfl | hy
          · exact hne
          · exact h2 y hy
        · right
          exact ⟨j + 1, e', q', by simp [Instr.findAsking, hr, h1, Nat.add_assoc, Nat.add_comm 1 j], by simpa using h2, h3, h4, h5, h6⟩
  rw [run_findKey_eq V (by kernel_rfl)]
  rcases gen es.toList h.keys 0 with ⟨h1, h2⟩ | ⟨j, e, q, h1, h2, h3, h4, h5, h6⟩
  · refine .inl ⟨h1, fun q hq e1 => ?_⟩
    have h3 : ev q ∈ es.toList.map ee := h.perm.mem_iff.2 (List.mem_map_of_mem hq)
    obtain ⟨e, he, e2⟩ := List.mem_map.1 h3
    injection e2 with e2 _
    exact h2 e he (by rw [e2, e1])
  · exact .inr ⟨j, e, q, by simpa using h1, h2, h3, h4, h5, h6⟩
/-- A want's parts may be asked for. -/
theorem run_check_u8 (em : Bool) (d : Nat) (v : Value) (w : World) : (Instr.checkKey em (d + 1) 5 v).run Try.prog w = .ok () w := by
  simp only [Instr.checkKey, Sem.run_bind, run_underlying Try.underlying5, Result.andThen_ok]
  cases v <;> rfl
theorem run_check_u64 (em : Bool) (d : Nat) (v : Value) (w : World) : (Instr.checkKey em (d + 1) 22 v).run Try.prog w = .ok () w := by
  simp only [Instr.checkKey, Sem.run_bind, run_underlying Try.underlying22, Result.andThen_ok]
  cases v <;> rfl
set_option maxRecDepth 100000 in
theorem run_check_hash (em : Bool) (d : Nat) (xs : List UInt8) (hx : xs.length = 32) (w : World) : (Instr.checkKey em (d + 2) 37 (.agg (bvs xs).toArray)).run Try.prog w = .ok () w := by
  obtain ⟨iu, hiu, hsu⟩ := Option.map_eq_some_iff.1 info_u8
  have hsz : (Go.sizeOf 5).run Try.prog w = .ok 1 w := Try.sizeOf5 w
  simp only [Instr.checkKey, Sem.run_bind, run_underlying Try.underlying37, Result.andThen_ok]
  simp only [Std.Legacy.Range.forIn_eq_forIn_range', Std.Legacy.Range.size, Nat.sub_zero, Nat.add_one_sub_one, Nat.div_one]
  have each : ∀ i ∈ List.range' 0 32, i < 32 := fun i hi => by simpa using hi
  generalize List.range' 0 32 = is at each
  induction is with
  | nil => simp
  | cons i is ih =>
    have hi : i < 32 := each i (by simp)
    have hp : (part 5 (bvs xs).toArray (i * 1)).run Try.prog w = .ok (.int .u8 (xs[i].toNat : Int)) w := part_cell17 w 5 Try.underlying5 rfl _ _ _ (by rw [Nat.mul_one, List.getElem?_toArray]; exact bvs_at xs (by omega))
    simp only [List.forIn_cons, Sem.run_bind, hsz, Result.andThen_ok, hp, run_check_u8, Sem.run_pure]
    exact ih (fun y hy => each y (by simp [hy]))
theorem checkFields_two {P : Program} (w : World) (em : Bool) (d : Nat) (xs : Array Value) (fs : Array Field) (t0 t1 : TypeId) (o0 o1 : Nat) (h : fs.toList.map (fun f => (f.name == "_", f.type, f.offset)) = [(false, t0, o0), (false, t1, o1)]) (a0 a1 : Value)
    (pa0 : (Go.part t0 xs o0).run P w = .ok a0 w) (pa1 : (Go.part t1 xs o1).run P w = .ok a1 w)
    (e0 : (Instr.checkKey em d t0 a0).run P w = .ok () w) (e1 : (Instr.checkKey em d t1 a1).run P w = .ok () w) {k : TypeId} (hk : P.underlying k = some (.struct fs)) : (Instr.checkKey em (d + 1) k (.agg xs)).run P w = .ok () w := by
  have hfs : ∃ f0 f1, fs = #[f0, f1] ∧ (f0.name == "_") = false ∧ f0.type = t0 ∧ f0.offset = o0 ∧ (f1.name == "_") = false ∧ f1.type = t1 ∧ f1.offset = o1 := by
    obtain ⟨f0, l0, hl0, h0, h⟩ := List.map_eq_cons_iff.1 h
    obtain ⟨f1, l1, rfl, h1, h⟩ := List.map_eq_cons_iff.1 h
    have hl : l1 = [] := List.map_eq_nil_iff.1 h
    subst hl
    simp only [Prod.mk.injEq] at h0 h1
    exact ⟨f0, f1, Array.ext' (by rw [hl0]), h0.1, h0.2.1, h0.2.2, h1.1, h1.2.1, h1.2.2⟩
  obtain ⟨f0, f1, rfl, n0, rfl, rfl, n1, rfl, rfl⟩ := hfs
  rw [beq_eq_false_iff_ne] at n0 n1
  simp [Instr.checkKey, run_underlying hk, n0, n1, pa0, pa1, e0, e1]
theorem run_check_key (em : Bool) (d : Nat) (a : Ft.Key) (ha : Ft.Key.Ok a) (w : World) : (Instr.checkKey em (d + 3) 39 (.agg (kcs a).toArray)).run Try.prog w = .ok () w := by
  obtain ⟨ih, hih, hsh⟩ := Option.map_eq_some_iff.1 info_h
  have pa := part_agg17 (P := Try.prog) w 37 Try.underlying37 rfl hih (kcs a).toArray 1
  rw [hsh, key_root ha.2] at pa
  exact checkFields_two w em (d + 2) _ _ _ _ _ _ fields_key (.int .u64 (a.1 : Int)) _ (part_cell17 w 22 Try.underlying22 rfl _ 0 _ rfl) pa (run_check_u64 em (d + 1) _ w) (run_check_hash em d a.2 ha.2 w) (by kernel_rfl)
theorem run_check_want (em : Bool) (a : Ft.Wn) (ha : Ft.Wn.Ok a) (w : World) : (Instr.checkKey em 10000 41 (wkey a)).run Try.prog w = .ok () w := by
  obtain ⟨ik, hik, hsk⟩ := Option.map_eq_some_iff.1 info_k
  have pa := fun o => part_agg17 (P := Try.prog) w 39 Try.underlying39 rfl hik (wcs a).toArray o
  have pa0 := pa 0
  have pa1 := pa 33
  rw [hsk, want_old ha] at pa0
  rw [hsk, want_now ha] at pa1
  exact checkFields_two w em 9999 _ _ _ _ _ _ fields_want _ _ pa0 pa1 (run_check_key em 9996 a.1 ha.1 w) (run_check_key em 9996 a.2 ha.2 w) (by kernel_rfl)
theorem run_stays (k : Ft.Wn) (V : World) : (Instr.keyThatStays (wkey k) (wkey k)).run Try.prog V = .ok (wkey k) V := by
  have hs : Instr.sameBits 10000 (wkey k) (wkey k) = true := by
    show Instr.sameBits (9999 + 1) (.agg _) (.agg _) = true
    simp only [Instr.sameBits, beq_self_eq_true, Bool.true_and, List.all_eq_true]
    intro p hp
    obtain ⟨i, hi, e⟩ := List.getElem_of_mem hp
    rw [List.getElem_zip] at e
    rw [← e]
    have hu := List.getElem_mem (l := wcs k) (by simpa using hi)
    simp only
    have hint : ∀ u ∈ wcs k, ∃ (q : IntKind) (x : Int), u = .int q x := by
      intro u hu
      have kk : ∀ k : Ft.Key, ∀ u ∈ kcs k, ∃ (q : IntKind) (x : Int), u = .int q x := fun k u hu => by
        rcases List.mem_cons.1 hu with rfl | h
        · exact ⟨_, _, rfl⟩
        · obtain ⟨c, _, rfl⟩ := List.mem_map.1 h
          exact ⟨_, _, rfl⟩
      rcases List.mem_append.1 hu with h | h
      · exact kk _ u h
      · exact kk _ u h
    obtain ⟨q, x, e2⟩ := hint _ hu
    have e3 : (wcs k).toArray.toList[i]'(by simpa using hi) = .int q x := e2
    rw [e3]
    simp [Instr.sameBits]
  simp [Instr.keyThatStays, hs]
section
variable {w : World} {b : Nat} {l : List Ft.Q}
theorem WMap.look {z : Value} (h : WMap w b l) (hz : (zeroValue 69).run Try.prog w = .ok z w) (k : Ft.Wn) (hk : Ft.Wn.Ok k) (ok : Bool) :
    ∃ v, (Instr.lookup 63 (.map (some b)) (wkey k) ok).run Try.prog w = .ok (if ok then .tuple #[v, .bool (Ft.has l k)] else v) w ∧ (∀ q ∈ l, q.key = k → v = sval q) ∧ (Ft.has l k = false → v = z) := by
  obtain ⟨es, clock, h⟩ := h
  rcases h.find k hk w with ⟨h1, h2⟩ | ⟨j, e, q, h1, h2, h3, h4, h5, h6⟩
  · have hn : Ft.has l k = false := by
      rcases Bool.eq_false_or_eq_true (Ft.has l k) with h3 | h3
      · obtain ⟨q, hq, e⟩ := Ft.has_iff.1 h3
        exact absurd e (h2 q hq)
      · exact h3
    refine ⟨z, ?_, fun q hq e => absurd e (h2 q hq), fun _ => rfl⟩
    rw [hn]
    cases ok <;> simp [Instr.lookup, run_underlying Try.underlying63, MapKept.run_getObj_map h.heap, run_check_want _ k hk, h1, Result.andThen, hz]
  · have hn : Ft.has l k = true := Ft.has_iff.2 ⟨q, h5, h6⟩
    refine ⟨sval q, ?_, fun q' hq' e => by rw [Dis.eq h.dis hq' h5 (e.trans h6.symm)], fun h => (by rw [hn] at h; cases h)⟩
    rw [hn]
    cases ok <;> simp [Instr.lookup, run_underlying Try.underlying63, MapKept.run_getObj_map h.heap, run_check_want _ k hk, h1, Result.andThen]
/-- A map's block is another map. -/
theorem wmap_turn {es es' : Array MapEntry} {clock clock' : Nat} {l' : List Ft.Q} (hb : w.heap[b]? = some (.map es clock)) (hs : Stm es'.toList clock') (hp : (es'.toList.map ee).Perm (l'.map ev)) (ho : ∀ q ∈ l', Ft.Q.Ok q) (hd : Dis l') :
    WMap { w with heap := w.heap.setIfInBounds b (.map es' clock') } b l' ∧ Keeps (fun k => k = b) w { w with heap := w.heap.setIfInBounds b (.map es' clock') } := by
  have hlt := (Array.getElem?_eq_some_iff.1 hb).1
  refine ⟨⟨es', clock', by simp [hlt], hs, hp, ho, hd⟩, rfl, rfl, rfl, by simp, fun k _ hs => ?_⟩
  have hs' : b ≠ k := fun e => hs e.symm
  simp [hs']
theorem done_dis {l : List Ft.Q} (h : Dis l) (k : Ft.Wn) : Dis (Ft.done l k) := List.Pairwise.filter _ h
theorem done_mem {l : List Ft.Q} {k : Ft.Wn} {q : Ft.Q} (h : q ∈ Ft.done l k) : q ∈ l ∧ q.key ≠ k := by
  obtain ⟨h1, h2⟩ := List.mem_filter.1 h
  exact ⟨h1, of_decide_eq_true h2⟩
/-- What is left where one entry is struck. -/
theorem WMapAt.rest {es : Array MapEntry} {clock : Nat} (h : WMapAt w b es clock l) {j : Nat} {e : MapEntry} {q : Ft.Q} (h2 : es.toList[j]? = some e) (h3 : e.key = wkey q.key) (h4 : e.val = sval q) (h5 : q ∈ l) : ((es.toList.eraseIdx j).map ee).Perm ((Ft.done l q.key).map ev) := by
  obtain ⟨hj, he⟩ := List.getElem?_eq_some_iff.1 h2
  have p1 : es.toList.Perm (e :: es.toList.eraseIdx j) := by
    have := ChangeMaps.set_perm es.toList j hj e
    rwa [← he, List.set_getElem_self, he] at this
  have p2 := (p1.map ee).symm.trans (h.perm.trans ((done_perm h.dis h5).map ev))
  rw [List.map_cons, List.map_cons, show ee e = ev q from Prod.ext h3 h4] at p2
  exact p2.cons_inv
theorem stm_erase {es : List MapEntry} {clock : Nat} (h : Stm es clock) (j : Nat) : Stm (es.eraseIdx j) clock :=
  ⟨fun x hx => h.1 x (List.mem_of_mem_eraseIdx hx), by
    have hs := (List.eraseIdx_sublist es j).map (·.born)
    exact hs.nodup h.2⟩
theorem WMap.store (h : WMap w b l) (q : Ft.Q) (hq : Ft.Q.Ok q) :
    ∃ w', (Instr.mapUpdate 63 (.map (some b)) (wkey q.key) (sval q)).run Try.prog w = .ok () w' ∧ WMap w' b (q :: Ft.done l q.key) ∧ Keeps (fun k => k = b) w w' := by
  obtain ⟨es, clock, h⟩ := h
  have hok : ∀ x ∈ q :: Ft.done l q.key, Ft.Q.Ok x := fun x hx => by
    rcases List.mem_cons.1 hx with rfl | hx
    · exact hq
    · exact h.ok x (done_mem hx).1
  have hdis : Dis (q :: Ft.done l q.key) := List.pairwise_cons.2 ⟨fun x hx => (done_mem hx).2.symm, done_dis h.dis _⟩
  rcases h.find q.key hq w with ⟨h1, h2⟩ | ⟨j, e, q0, h1, h2, h3, h4, h5, h6⟩
  · refine ⟨_, ?_, wmap_turn (es' := es.push { key := wkey q.key, val := sval q, born := clock }) (clock' := clock + 1) h.heap ⟨?_, ?_⟩ ?_ hok hdis⟩
    · simp [Instr.mapUpdate, run_underlying Try.underlying63, MapKept.run_getObj_map h.heap, run_check_want _ q.key hq, h1, MapKept.run_setObj_map _ h.heap, Result.andThen]
    · intro x hx
      rw [Array.toList_push, List.mem_append, List.mem_singleton] at hx
      rcases hx with hx | rfl
      · exact Nat.lt_succ_of_lt (h.stm.1 x hx)
      · exact Nat.lt_succ_self _
    · rw [Array.toList_push, List.map_append, List.nodup_append]
      refine ⟨h.stm.2, by simp, fun a ha c hc => ?_⟩
      obtain ⟨x, hx, rfl⟩ := List.mem_map.1 ha
      have := h.stm.1 x hx
      simp only [List.map_cons, List.map_nil, List.mem_singleton] at hc
      subst hc
      exact Nat.ne_of_lt this
    · rw [Array.toList_push, List.map_append, done_none h2, List.map_cons]
      exact (List.perm_append_singleton _ _).trans (h.perm.cons _)
  · obtain ⟨hj, hje⟩ := List.getElem?_eq_some_iff.1 h2
    have hp : es[j]? = some e := by simpa using h2
    have e1 : (es.modify j fun e => { e with key := wkey q.key, val := sval q }).toList = es.toList.set j { e with key := wkey q.key, val := sval q } := by
      apply List.ext_getElem?
      intro i
      rw [Array.getElem?_toList, Array.getElem?_modify, List.getElem?_set]
      by_cases hji : j = i
      · subst hji
        rw [if_pos rfl, if_pos rfl, if_pos hj, hp]
        rfl
      · simp [hji]
    refine ⟨_, ?_, wmap_turn (es' := es.modify j fun e => { e with key := wkey q.key, val := sval q }) (clock' := clock) h.heap ?_ ?_ hok hdis⟩
    · have hst : (Instr.keyThatStays (((es[j]?).map (·.key)).getD (wkey q.key)) (wkey q.key)).run Try.prog w = .ok (wkey q.key) w := by
        rw [hp]
        simp only [Option.map_some, Option.getD_some, h3]
        exact run_stays q.key w
      simp [Instr.mapUpdate, run_underlying Try.underlying63, MapKept.run_getObj_map h.heap, run_check_want _ q.key hq, h1, Result.andThen]
      rw [hst]
      simp [MapKept.run_setObj_map _ h.heap]
    · rw [e1]
      refine ⟨fun x hx => ?_, ?_⟩
      · rcases List.mem_or_eq_of_mem_set hx with hx | rfl
        · exact h.stm.1 x hx
        · exact h.stm.1 e (List.mem_of_getElem? h2)
      · have : (es.toList.set j { e with key := wkey q.key, val := sval q }).map (·.born) = es.toList.map (·.born) := by
          rw [List.map_set]
          apply List.ext_getElem?
          intro i
          rw [List.getElem?_set]
          by_cases hji : j = i
          · subst hji
            rw [if_pos rfl, if_pos (by simpa using hj), List.getElem?_map, h2]
            rfl
          · rw [if_neg hji]
        rw [this]
        exact h.stm.2
    · rw [e1]
      have p1 : (es.toList.set j { e with key := wkey q.key, val := sval q }).Perm ({ e with key := wkey q.key, val := sval q } :: es.toList.eraseIdx j) := ChangeMaps.set_perm _ _ hj _
      refine (p1.map ee).trans ?_
      rw [List.map_cons, List.map_cons]
      have p2 := h.rest h2 (by rw [h3, ← h6]) h4 h5
      rw [h6] at p2
      exact p2.cons _
theorem WMap.drop (h : WMap w b l) (ty : TypeId) (k : Ft.Wn) (hk : Ft.Wn.Ok k) :
    ∃ w', (Builtin.delete_ #[63, 41] ty #[.map (some b), wkey k]).run Try.prog w = .ok (.tuple #[]) w' ∧ WMap w' b (Ft.done l k) ∧ Keeps (fun k => k = b) w w' := by
  obtain ⟨es, clock, h⟩ := h
  rcases h.find k hk w with ⟨h1, h2⟩ | ⟨j, e, q, h1, h2, h3, h4, h5, h6⟩
  · refine ⟨_, ?_, wmap_turn (es' := es) (clock' := clock) h.heap h.stm (by rw [done_none h2]; exact h.perm) (fun q hq => h.ok q (done_mem hq).1) (done_dis h.dis _)⟩
    simp [Builtin.delete_, run_underlying Try.underlying63, MapKept.run_getObj_map h.heap, run_check_want _ k hk, h1, MapKept.run_setObj_map _ h.heap, Result.andThen]
  · have hp : j < es.size := by
      have := (List.getElem?_eq_some_iff.1 h2).1
      simpa using this
    have e1 : (es.eraseIdxIfInBounds j).toList = es.toList.eraseIdx j := by simp [Array.eraseIdxIfInBounds, hp]
    refine ⟨_, ?_, wmap_turn (es' := es.eraseIdxIfInBounds j) (clock' := clock) h.heap (by rw [e1]; exact stm_erase h.stm j) ?_ (fun q hq => h.ok q (done_mem hq).1) (done_dis h.dis _)⟩
    · simp [Builtin.delete_, run_underlying Try.underlying63, MapKept.run_getObj_map h.heap, run_check_want _ k hk, h1, MapKept.run_setObj_map _ h.heap, Result.andThen]
    · rw [e1, ← h6]
      exact h.rest h2 (by rw [h3, h6]) h4 h5
end
end Go.Proofs.Ythnpgiagajfaiaa
