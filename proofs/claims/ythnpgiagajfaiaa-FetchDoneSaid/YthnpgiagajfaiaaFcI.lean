/-
  The map's keys, one by one, in whatever order: the library's maps.Keys at wants.
-/
import Derived.Test.YthnpgiagajfaiaaFcM
import Derived.Test.YthnpgiagajfaiaaFcS
import Derived.Test.YthnpgiagajfaiaaWalkI
import Derived.Sort.MapsRangeIn
import Derived.Maps.RangeRun
namespace Go.Proofs.Ythnpgiagajfaiaa
open Go.RowKit Go.BigFrame
set_option linter.unusedVariables false
set_option linter.unusedSimpArgs false
attribute [local go_sem] Oper.semAt_some

def kEnc (x : WnK) : Array Value := #[wkey x.1]
section
variable {n : Nat} {P : Program} {ops : Array Oper} {rest : List Oper} {o : Oper} {a : Act} {w : World} {Q : Exit → Act → World → Prop}
theorem wpListIn_load_roww (hw : Region.wanted o (yielded ops a.tmps) = true) (ty : TypeId) (x : Operand) (ho : o.op = .load ty x)
    (g : Nat) (hx : a.eval x = .pointer (some ⟨g, 0, none⟩)) (t : TypeId) (cs : Array Value) (fr : Nat × Nat) (d : TypeDesc) (hg : w.heap[g]? = some (.cells cs t fr))
    (hu : P.underlying ty = some d) (hd : (match d with | .struct _ | .array _ _ => true | _ => false) = true) (hi : (P.info? ty).map (·.size) = some cs.size)
    (h : wpListIn Fence.wide n P ops Q rest (a.put o.dst (.agg cs)) w) : wpListIn Fence.wide n P ops Q (o :: rest) a w := by
  refine wpListIn_step fun K hK => ?_
  rw [if_pos hw]
  refine ⟨fun _ _ => trivial, ?_⟩
  rw [show o.semAt Fence.wide.round a.eval = execOp a.eval o from Oper.semAt_none _ _]
  unfold execOp
  simp only [ho, hx, Instr.loadAt, Instr.sureAddr, Sem.run_bind, Sem.run_pure, Result.andThen_ok, run_loadVar_row w g t ty cs fr d hg hu hd hi]
  exact hK _ _ h
theorem wpListIn_store_roww (hw : Region.wanted o (yielded ops a.tmps) = true) (ty : TypeId) (p x : Operand) (ho : o.op = .store ty p x)
    (g : Nat) (hp : a.eval p = .pointer (some ⟨g, 0, none⟩)) (r old : Array Value) (hx : a.eval x = .agg r) (t : TypeId) (hg : w.heap[g]? = some (.cells old t (0, 0)))
    (hi : (P.info? ty).map (·.size) = some r.size) (hold : old.size = r.size) (hone : r.all (·.oneCell') = true)
    (h : wpListIn Fence.wide n P ops Q rest (a.put o.dst undef) (w.setRow g r)) : wpListIn Fence.wide n P ops Q (o :: rest) a w := by
  refine wpListIn_step fun K hK => ?_
  rw [if_pos hw]
  refine ⟨fun _ _ => trivial, ?_⟩
  rw [show o.semAt Fence.wide.round a.eval = execOp a.eval o from Oper.semAt_none _ _]
  unfold execOp
  simp only [ho, hp, hx, Instr.storeAt, Instr.sureAddr, Sem.run_bind, Sem.run_pure, Result.andThen_ok, run_storeVar_row w g t ty old r hg hi hold hone]
  exact hK _ _ h
theorem wpListIn_range_w (hg : o.guard = none) (m : Operand) (t : TypeId) (hop : o.op = Op.range t m) (k e : TypeId) (ht : P.underlying t = some (.map k e)) (b : Nat) (es : Array MapEntry) (clock : Nat)
    (hm : a.eval m = .map (some b)) (hb : w.heap[b]? = some (.map es clock))
    (h : wpListIn Fence.wide n P ops Q rest (a.put o.dst (.pointer (some ⟨w.heap.size, 0, none⟩))) (w.alloc (.mapIter (some b) clock #[] clock))) : wpListIn Fence.wide n P ops Q (o :: rest) a w := by
  refine wpListIn_plain hg fun K' hK' => ?_
  unfold Oper.wpIn
  refine ⟨by simp [Oper.about, hop], ?_⟩
  rw [Oper.semAt_plain Fence.wide _ _ (by rw [hop]; intro c hc'; cases hc')]
  simp [execOp, hop, hm, run_range_map w t k e b es clock ht hb, Result.andThen]
  exact hK' _ _ h
theorem wpListIn_next_w (hg : o.guard = none) (it : Operand) (hop : o.op = Op.next it false) (b r since : Nat) (seen : Array Nat) (es : Array MapEntry) (clock : Nat)
    (hit : a.eval it = .pointer (some ⟨r, 0, none⟩)) (hr : w.heap[r]? = some (.mapIter (some b) since seen since)) (hb : w.heap[b]? = some (.map es clock)) (hold : ∀ x ∈ es.toList, x.born < since) (hcl : clock = since) (hn : (es.toList.map (·.born)).Nodup)
    (hDone : (leftOf es seen).size = 0 → wpListIn Fence.wide n P ops Q rest (a.put o.dst (.tuple #[.bool false])) w)
    (hMore : ∀ (e : MapEntry) (w' : World), e ∈ (leftOf es seen).toList → w'.heap[r]? = some (.mapIter (some b) since (seen.push e.born) since) → w.grownBy w' (some r) → w'.heap.size = w.heap.size →
      (Instr.entry (.pointer (some ⟨r, 0, none⟩))).run P w' = .ok (.tuple #[e.key, e.val]) w' → wpListIn Fence.wide n P ops Q rest (a.put o.dst (.tuple #[.bool true, e.key, e.val])) w') : wpListIn Fence.wide n P ops Q (o :: rest) a w := by
  refine wpListIn_plain hg fun K' hK' => ?_
  unfold Oper.wpIn
  refine ⟨by simp [Oper.about, hop], ?_⟩
  rw [Oper.semAt_plain Fence.wide _ _ (by rw [hop]; intro c hc'; cases hc')]
  have hne : r ≠ b := by
    rintro rfl
    rw [hb] at hr
    cases hr
  rcases run_next_at (P := P) w o.type r b since since seen es clock hr hb hold (Nat.le_refl _) with ⟨h0, hrun⟩ | ⟨e, he, w1, hal, hrun⟩
  · simp [execOp, hop, hit, hrun, Result.andThen]
    exact hK' _ _ (hDone h0)
  · have hr1 : w1.heap[r]? = some (.mapIter (some b) since seen since) := by rcases hal with rfl | rfl <;> exact hr
    have hb1 : w1.heap[b]? = some (.map es clock) := by rcases hal with rfl | rfl <;> exact hb
    have hset := MapKept.heap_set (o' := .mapIter (some b) since (seen.push e.born) clock) hr1
    have hb' : (ChangeMaps.setBlock w1 r (.mapIter (some b) since (seen.push e.born) clock)).heap[b]? = some (.map es clock) := (hset.2 b (fun e1 => hne e1.symm)).trans hb1
    have hen := run_entry_at (P := P) _ r b since seen es clock e hset.1 hb' (mem_left he).1 hn
    simp [execOp, hop, hit, hrun, Result.andThen]
    refine hK' _ _ (hMore e _ he ?_ ?_ ?_ hen)
    · show (w1.heap.setIfInBounds r (.mapIter (some b) since (seen.push e.born) clock))[r]? = _
      rw [hset.1, hcl]
    · rcases hal with rfl | rfl <;> exact ⟨rfl, rfl, rfl, by simp [ChangeMaps.setBlock], fun i _ hi => hset.2 i (fun e1 => hi (by rw [e1]))⟩
    · rcases hal with rfl | rfl <;> simp [ChangeMaps.setBlock]
end
/-- maps.Keys. -/
theorem keys_any (mb : Option Nat) (w : World) : Calls Try.prog 28 #[.map mb] w fun e w' =>
    e = .returned (.func (.func 35) #[] #[.pointer (some ⟨w.heap.size, 0, none⟩)]) ∧ w' = w.alloc (.cells #[.map mb] 63) := by
  go_enter Try.func28, Try.ntmps28
  go_wp2
  go_ret
  exact ⟨rfl, rfl⟩
/-- Which have come, which are left. -/
structure Came (es : Array MapEntry) (pre : List Ft.Wn) (seen : Array Nat) (got rest : List MapEntry) : Prop where
  perm : (got ++ rest).Perm es.toList
  seen : seen.toList = got.map (·.born)
  keys : got.map (·.key) = pre.map wkey
theorem Came.step {es : Array MapEntry} {pre : List Ft.Wn} {seen : Array Nat} {got rest : List MapEntry} (h : Came es pre seen got rest) (hn : (es.toList.map (·.born)).Nodup) {e : MapEntry} (he : e ∈ (leftOf es seen).toList) {k : Ft.Wn} (hk : e.key = wkey k) :
    ∃ rest', Came es (pre ++ [k]) (seen.push e.born) (got ++ [e]) rest' := by
  obtain ⟨hm, hs⟩ := mem_left he
  have hng : e ∉ got := fun hg => by
    have : e.born ∈ seen.toList := by rw [h.seen]; exact List.mem_map_of_mem hg
    have h2 : seen.contains e.born = true := by simpa using this
    rw [hs] at h2
    cases h2
  have hr : e ∈ rest := by
    have := h.perm.mem_iff.2 hm
    rcases List.mem_append.1 this with h1 | h1
    · exact absurd h1 hng
    · exact h1
  obtain ⟨s, t, rfl⟩ := List.append_of_mem hr
  refine ⟨s ++ t, ?_, by rw [Array.toList_push, h.seen]; simp, by rw [List.map_append, List.map_append, h.keys]; simp [hk]⟩
  refine List.Perm.trans ?_ h.perm
  rw [List.append_assoc]
  refine List.Perm.append_left got ?_
  exact (List.perm_middle (a := e) (l₁ := s) (l₂ := t)).symm
theorem Came.all {es : Array MapEntry} {pre : List Ft.Wn} {seen : Array Nat} {got rest : List MapEntry} (h : Came es pre seen got rest) (hn : (es.toList.map (·.born)).Nodup) (h0 : (leftOf es seen).size = 0) : rest = [] := by
  cases rest with
  | nil => rfl
  | cons e r =>
    have hm : e ∈ es.toList := h.perm.mem_iff.1 (by simp)
    have h1 := all_seen es seen h0 e hm
    have h2 : e.born ∈ got.map (·.born) := by rw [← h.seen]; simpa using h1
    have h3 := (h.perm.map (·.born)).nodup_iff.2 hn
    rw [List.map_append, List.nodup_append] at h3
    exact absurd rfl (h3.2.2 e.born h2 e.born (by simp))
theorem perm_of_wkey : ∀ {a b : List Ft.Wn}, (∀ k ∈ a, Ft.Wn.Ok k) → (∀ k ∈ b, Ft.Wn.Ok k) → (a.map wkey).Perm (b.map wkey) → a.Perm b
  | [], b, _, _, h => by
    have := h.length_eq
    rw [List.map_nil, List.length_nil, List.length_map] at this
    rw [List.eq_nil_of_length_eq_zero this.symm]
  | x :: a, b, ha, hb, h => by
    have hm : wkey x ∈ b.map wkey := h.mem_iff.1 (by simp)
    obtain ⟨y, hy, e⟩ := List.mem_map.1 hm
    obtain rfl : y = x := wkey_inj (hb y hy) (ha x (by simp)) e
    obtain ⟨s, t, rfl⟩ := List.append_of_mem hy
    have h2 : (a.map wkey).Perm ((s ++ t).map wkey) := by
      have h3 : (wkey y :: a.map wkey).Perm (wkey y :: (s ++ t).map wkey) := by
        refine List.Perm.trans h ?_
        rw [List.map_append, List.map_append, List.map_cons]
        exact List.perm_middle
      exact h3.cons_inv
    have h4 := perm_of_wkey (fun k hk => ha k (by simp [hk])) (fun k hk => hb k (by rcases List.mem_append.1 hk with h | h <;> simp [h])) h2
    exact (h4.cons y).trans List.perm_middle.symm
theorem Came.perm_keys {w : World} {b : Nat} {es : Array MapEntry} {clock : Nat} {l : List Ft.Q} (hW : WMapAt w b es clock l) {pre : List Ft.Wn} {seen : Array Nat} {got : List MapEntry} (h : Came es pre seen got []) (hp : ∀ k ∈ pre, Ft.Wn.Ok k) : pre.Perm (l.map (·.key)) := by
  have h1 : got.Perm es.toList := by simpa using h.perm
  have h2 : (pre.map wkey).Perm ((l.map (·.key)).map wkey) := by
    rw [← h.keys]
    have h3 := ((h1.map ee).trans hW.perm).map (·.1)
    rw [List.map_map, List.map_map] at h3
    rw [List.map_map]
    exact h3
  -- wkey is injective on both
  have hl : ∀ k ∈ l.map (·.key), Ft.Wn.Ok k := fun k hk => by obtain ⟨q, hq, rfl⟩ := List.mem_map.1 hk; exact hW.ok q hq
  exact perm_of_wkey hp hl h2
theorem info_want : (Try.prog.info? 41).map (·.size) = some 66 := by kernel_rfl
theorem zeroc_want : Try.zeroCells41.size = 66 := by kernel_rfl
set_option maxRecDepth 100000 in
set_option maxHeartbeats 4000000 in
theorem wkeys1_in (n : Nat) (l Bm b : Nat) (es : Array MapEntry) (clock : Nat) (tl : List Ft.Q) (J Jx : List WnK → World → Prop) (W : World) (hM : WMapAt W b es clock tl) (hJ : AbidesFrom W.heap.size J)
    (hY : ∀ pre x W1, J pre W1 → pre.length < tl.length → YieldAt Fence.wide (n - 1) Try.prog l (kEnc x) W1 fun e W' => (e = .returned (.bool true) ∧ J (pre ++ [x]) W' ∧ KeepsWalks W1 W') ∨ (e = .returned (.bool false) ∧ Jx (pre ++ [x]) W'))
    (hc0 : W.cell? ⟨Bm, 0, none⟩ = some (.map (some b))) (h0 : J [] W) :
    CallsIn Fence.wide n Try.prog 35 #[.func (.yield l) #[] #[], .pointer (some ⟨Bm, 0, none⟩)] W fun e W' => (∃ v, e = .returned v) ∧
      ((∃ ys, (ys.map (·.1)).Perm (tl.map (·.key)) ∧ J ys W') ∨ (∃ pre, True ∧ Jx pre W')) := by
  obtain ⟨r, hr⟩ : ∃ r, W.heap.size = r := ⟨_, rfl⟩
  have HZS := Lib.hid zeroc_want
  have hlen : es.toList.length = tl.length := by have := hM.perm.length_eq; simpa using this
  have HLEN := Lib.hid hlen
  have hb := hM.heap
  have HB := Lib.hid hb
  have HM := Lib.hid hM
  have HJ := Lib.hid hJ
  have HY := Lib.hid hY
  have HBR : Hid (b < r) := Lib.hid (by have := (Array.getElem?_eq_some_iff.1 hb).1; omega)
  have HR := Lib.hid hr
  clear hM hJ hY hlen
  refine callsIn_of_wp Try.func35 rfl trivial ?_ rfl
  simp only [Try.ntmps35, List.size_toArray, List.length_cons, List.length_nil, Nat.reduceAdd, Nat.reduceSub, Array.replicate_succ, Array.replicate_zero, List.push_toArray, List.append_toArray, List.nil_append, List.cons_append]
  gi_wp2_with (first
    | (gi_at_range; refine wpListIn_range_w (by rfl) _ 63 (by rfl) 41 69 Try.underlying63 b es clock (by rfl) hb ?_)
    | gi_in)
  go_frame
  rw [hr]
  obtain ⟨W0, hW0⟩ : ∃ V, W.alloc (.mapIter (some b) clock #[] clock) = V := ⟨_, rfl⟩
  have hg0 : W.grownBy W0 none := by rw [← hW0]; exact World.grownBy_alloc W _ none
  have hr0 : W0.heap[r]? = some (.mapIter (some b) clock #[] clock) := by rw [← hW0, ← hr]; exact heap_alloc_new W _
  have HG0 := Lib.hid hg0
  have HR0 := Lib.hid hr0
  rw [hW0]
  clear hr hb hc0 hW0 hg0 hr0
  gi_loopw [3] (fun _ wr => ∃ (pre : List WnK) (seen : Array Nat) (got rest : List MapEntry), Hid (Came es (pre.map (·.1)) seen got rest) ∧ Hid (wr.heap[r]? = some (.mapIter (some b) clock seen clock)) ∧ Hid (wr.heap[b]? = some (.map es clock)) ∧ Hid (J pre wr)) (fun _ wr => wr.rangeLeft b r)
  case atStart =>
    exact ⟨[], #[], [], es.toList, Lib.hid ⟨by simp, rfl, rfl⟩, HR0, Lib.hid ((HG0.out.block b (by have := HBR.out; have := HR.out; omega) (by simp)).trans HB.out), Lib.hid (HJ.out [] W W0 none h0 HG0.out (fun r e => by cases e))⟩
  case round =>
    obtain ⟨pre, seen, got, rest, HC, HRI, HBI, HJI⟩ := hrel
    have hri := HRI.out
    have hbi := HBI.out
    gi_wp2_with (first
      | (gi_at_next; refine wpListIn_next_w (by rfl) _ (by rfl) b r clock seen es clock (by rfl) hri hbi HM.out.stm.1 rfl HM.out.stm.2 ?_ ?_)
      | gi_in)
    · intro h00
      have hre := HC.out.all HM.out.stm.2 (by rw [h00]; rfl)
      subst hre
      gi_wp2
      go_end0
      exact ⟨⟨_, rfl⟩, .inl ⟨pre, HC.out.perm_keys HM.out (fun k hk => by obtain ⟨x, _, rfl⟩ := List.mem_map.1 hk; exact x.2), HJI.out⟩⟩
    · intro e w2 he0 hr2 hg2 hs2 hen
      have he := Array.mem_toList_iff.2 he0
      clear he0
      obtain ⟨q, hq, hek, hev⟩ := HM.out.keys e (mem_left he).1
      have hqk := HM.out.ok q hq
      obtain ⟨rest', hC'⟩ := HC.out.step HM.out.stm.2 he hek
      have hlt : pre.length < tl.length := by
        have h1 := hC'.perm.length_eq
        have h2 := congrArg List.length HC.out.keys
        rw [List.length_map, List.length_map, List.length_map] at h2
        rw [List.length_append, List.length_append, List.length_singleton] at h1
        have := HLEN.out
        omega
      have hmeas := left_shrinks es seen e he
      have hb2 : w2.heap[b]? = some (.map es clock) := (hg2.block b (Array.getElem?_eq_some_iff.1 hbi).1 (fun e1 => by injection e1 with e1; have := HBR.out; omega)).trans hbi
      have hrlt : r < wr.heap.size := (Array.getElem?_eq_some_iff.1 hri).1
      have hJ2 : J pre w2 := HJ.out pre wr w2 (some r) HJI.out hg2 (fun j e1 => by cases e1; exact ⟨by have := HR.out; omega, _, hri, rfl⟩)
      have hleft : wr.rangeLeft b r = (leftOf es seen).size := by simp only [World.rangeLeft, hbi, hri]
      have HLEFT := Lib.hid hleft
      have HMEAS := Lib.hid hmeas
      obtain ⟨KX, hKX⟩ : ∃ K, (wcs q.key).toArray = K := ⟨_, rfl⟩
      have hke : e.key = .agg KX := by rw [hek, ← hKX]; rfl
      have hkx : kEnc ⟨q.key, hqk⟩ = #[.agg KX] := by rw [← hKX]; rfl
      have HSX : Hid ((Try.prog.info? 41).map (·.size) = some KX.size) := Lib.hid (by rw [← hKX, List.size_toArray, wcs_length hqk]; exact info_want)
      have HZX : Hid (Try.zeroCells41.size = KX.size) := Lib.hid (by rw [HZS.out, ← hKX, List.size_toArray, wcs_length hqk])
      have HOX : Hid (KX.all (·.oneCell') = true) := Lib.hid (by rw [← hKX, List.all_toArray]; exact List.all_eq_true.2 (wcs_one _))
      rw [hke] at hen ⊢
      obtain ⟨VV, hVV⟩ : ∃ v, e.val = v := ⟨_, rfl⟩
      rw [hVV] at hen ⊢
      obtain ⟨Y, hY⟩ : ∃ y, w2.heap.size = y := ⟨_, rfl⟩
      obtain ⟨W3, hW3⟩ : ∃ V, w2.alloc (.cells Try.zeroCells41 41) = V := ⟨_, rfl⟩
      have hr3 : W3.heap[Y]? = some (.cells Try.zeroCells41 41 (0, 0)) := by rw [← hW3, ← hY]; exact heap_alloc_new w2 _
      obtain ⟨W4, hW4⟩ : ∃ V, W3.setRow Y KX = V := ⟨_, rfl⟩
      have hr4 : W4.heap[Y]? = some (.cells KX 41 (0, 0)) := by rw [← hW4]; exact setRow_heap _ _ _ _ _ _ hr3
      have hg4 : w2.grownBy W4 none := by
        have k3 : Keeps (fun _ => False) w2 W3 := by rw [← hW3]; exact (Keeps.refl _ _).alloc _
        have k4 : Keeps (fun k => k = Y) W3 W4 := by rw [← hW4]; exact Keeps.setRow _ _
        have k := k3.trans' k4 (fun i hi e => by omega)
        exact ⟨k.os, k.tape, k.output, k.size, fun i hi _ => k.block i hi id⟩
      have hJ4 : J pre W4 := HJ.out pre w2 W4 none hJ2 hg4 (fun j e1 => by cases e1)
      obtain ⟨fn, tmps, assign, body, hy, hRR⟩ := HY.out pre ⟨q.key, hqk⟩ W4 hJ4 hlt
      rw [hkx] at hy
      have HR3 := Lib.hid hr3
      have HR4 := Lib.hid hr4
      have HW4 := Lib.hid (And.intro ((hg4.block r (by omega) (by simp)).trans hr2) ((hg4.block b (Array.getElem?_eq_some_iff.1 hb2).1 (by simp)).trans hb2))
      have HC' : Hid (Came es ((pre ++ [(⟨q.key, hqk⟩ : WnK)]).map (·.1)) (seen.push e.born) (got ++ [e]) rest') := Lib.hid (by rw [List.map_append]; exact hC')
      clear hri hbi hr2 hg2 hs2 hb2 hrlt hJ2 hleft hmeas hke hkx hKX hek hev hr3 hr4 hg4 hJ4 hlt hC' hq he
      gi_wp2_with (first
        | (refine wpListIn_store_roww (by rfl) 41 _ _ (by rfl) Y (by rfl) KX Try.zeroCells41 (by rfl) 41 HR3.out HSX.out HZX.out HOX.out ?_; rw [hW4])
        | (refine wpListIn_load_roww (by rfl) 41 _ (by rfl) Y (by rfl) 41 KX (0, 0) _ HR4.out Try.underlying41 rfl HSX.out ?_)
        | gi_in)
      refine ⟨fun hh => (by simp [Fence.wide] at hh), hRR.mono ?_⟩
      rintro e5 W5 (⟨rfl, hJ5, hk5⟩ | ⟨rfl, hJx5⟩)
      · have hr5 := hk5.same r _ HW4.out.1 rfl
        have hb5 := hk5.same b _ HW4.out.2 rfl
        have hl5 : W5.rangeLeft b r = (leftOf es (seen.push e.born)).size := by simp only [World.rangeLeft, hb5, hr5]
        have HR5 := Lib.hid hr5
        have HB5 := Lib.hid hb5
        have HL5 := Lib.hid hl5
        have HJ5 := Lib.hid hJ5
        clear hr5 hb5 hl5 hJ5 hk5
        gi_wp2
        go_roundw
        case rel => exact ⟨_, _, _, _, HC', HR5, HB5, HJ5⟩
        case measure => rw [HL5.out, HLEFT.out]; exact HMEAS.out
      · gi_wp2
        refine bodyPost_ret (results_none rfl _ _ _) rfl ?_
        exact ⟨⟨_, rfl⟩, .inr ⟨_, trivial, hJx5⟩⟩
end Go.Proofs.Ythnpgiagajfaiaa
