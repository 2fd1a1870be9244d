/-
  The library's Clone and Delete, of integers.
-/
import Derived.Test.YtmhbfchhooggjaaDiA
import Derived.Test.YtmhbfchhooggjaaWalkE
import Derived.Laws.OwnMore
import Derived.Lib.SliceRun
import Derived.Deep.RegionLaw
namespace Go.Proofs.Ytmhbfchhooggjaa
open Go.RowKit Go.BigFrame
set_option linter.unusedVariables false
set_option linter.unusedSimpArgs false

/-- Integers as values. -/
def ivs (l : List Int) : List Value := l.map (Value.int .i64)
theorem ivs_length (l : List Int) : (ivs l).length = l.length := by simp [ivs]
theorem ivs_one (l : List Int) : ∀ u ∈ ivs l, u.oneCell' = true := by
  intro u hu
  obtain ⟨c, _, rfl⟩ := List.mem_map.1 hu
  rfl
theorem ivs_get (l : List Int) (i : Nat) : (ivs l)[i]? = l[i]?.map (Value.int .i64) := by simp [ivs]
theorem ivs_append (a b : List Int) : ivs a ++ ivs b = ivs (a ++ b) := by simp [ivs]
theorem ivs_take (l : List Int) (n : Nat) : (ivs l).take n = ivs (l.take n) := by simp [ivs, List.map_take]
theorem ivs_drop (l : List Int) (n : Nat) : (ivs l).drop n = ivs (l.drop n) := by simp [ivs, List.map_drop]
theorem ivs_at (l : List Int) (i : Nat) (h : i < l.length) : (ivs l)[i]? = some (.int .i64 (l.getD i 0)) := by
  rw [ivs_get, List.getD_eq_getElem?_getD, List.getElem?_eq_getElem h]; rfl
theorem info_int : (Try.prog.info? 3).map (fun i => (i.zero, i.size, i.bytes)) = some (some (.int .i64 0), 1, 8) := by kernel_rfl
theorem info_in : ∃ (ih : TypeInfo) (zh : Value), Try.prog.info? 3 = some ih ∧ ih.zero = some zh ∧ ih.size = 1 ∧ ih.bytes = 8 ∧ zh.cells.size = 1 := by
  have h := info_int
  obtain ⟨ih, hi, h⟩ := Option.map_eq_some_iff.1 h
  simp only [Prod.mk.injEq] at h
  exact ⟨ih, _, hi, h.1, h.2.1, h.2.2, rfl⟩
theorem zero_int (w : World) : (zeroValue 3).run Try.prog w = .ok (.int .i64 0) w := by kernel_rfl
theorem build_int (k : Int) (V : World) : (Instr.buildSlice 34 1 #[(0, .int .i64 k)]).run Try.prog V = .ok (.slice (some ⟨V.heap.size, 0, none⟩) 1 1) (V.alloc (.cells #[.int .i64 k] 3)) := by
  kernel_rfl

section
variable {w : World} {base : Nat} {e : TypeId} {g n cap : Nat} {xs : List Value}
theorem own_front {m : Nat} (h : w.ownsRow base e 1 (.slice (some ⟨g, 0, none⟩) n cap) n xs) (hm : m ≤ n) : w.ownsRow base e 1 (.slice (some ⟨g, 0, none⟩) m cap) m (xs.take m) := by
  have hl := h.1
  refine ⟨by rw [List.length_take]; omega, ?_⟩
  rcases h.2 with ⟨h', _⟩ | ⟨g', cap', cur, h', hb, hg, hc, hmx, hs, ht⟩
  · simp at h'
  · simp only [Value.slice.injEq, Option.some.injEq, Addr.mk.injEq, and_true, true_and] at h'
    obtain ⟨rfl, rfl⟩ := h'
    refine .inr ⟨g, cap, cur, rfl, hb, hg, by omega, hmx, hs, ?_⟩
    rw [← ht, List.take_take]
    congr 1
    omega
theorem own_past (h : w.ownsRow base e 1 (.slice (some ⟨g, 0, none⟩) n cap) n xs) (k : Nat) (hk : n ≤ k) (u : Value) : (w.setCell ⟨g, k, none⟩ u).ownsRow base e 1 (.slice (some ⟨g, 0, none⟩) n cap) n xs := by
  refine ⟨h.1, ?_⟩
  rcases h.2 with ⟨h', _⟩ | ⟨g', cap', cur, h', hb, hg, hc, hmx, hs, ht⟩
  · simp at h'
  · simp only [Value.slice.injEq, Option.some.injEq, Addr.mk.injEq, and_true, true_and] at h'
    obtain ⟨rfl, rfl⟩ := h'
    refine .inr ⟨g, cap, cur.setIfInBounds k u, rfl, hb, ?_, hc, hmx, by simpa using hs, ?_⟩
    · simp [World.setCell, Array.getElem?_modify, hg]
    · rw [Array.toList_setIfInBounds, List.take_set_of_le (by omega), ht]
theorem own_cells (h : w.ownsRow base e 1 (.slice (some ⟨g, 0, none⟩) n cap) n xs) : ∃ cur : Array Value, w.heap[g]? = some (.cells cur e (0, 0)) ∧ cur.size = cap ∧ n ≤ cap ∧ cap ≤ maxLen := by
  rcases h.2 with ⟨h', _⟩ | ⟨g', cap', cur, h', hb, hg, hc, hmx, hs, ht⟩
  · simp at h'
  · simp only [Value.slice.injEq, Option.some.injEq, Addr.mk.injEq, and_true, true_and] at h'
    obtain ⟨rfl, rfl⟩ := h'
    exact ⟨cur, hg, by simpa using hs, hc, hmx⟩
end

theorem step_append_fits {P : Program} {ops : Array Oper} {o : Oper} {a : Act} {w : World} {K : Act → World → Prop} {Q : Exit → Act → World → Prop} {E : Prop}
    (hg : o.guard = none) (s x : Operand) (t : TypeId) (hop : o.op = Op.call { callee := Callee.builtin Builtin.append, args := #[s, x], argTypes := #[t, t] })
    (base : Nat) (e : TypeId) (i : TypeInfo) (size : Nat) (h1 : P.underlying t = some (.slice e)) (h2 : P.info? e = some i) (h4 : i.size = size)
    (b n cap : Nat) (xs : List Value) (hs : a.eval s = .slice (some ⟨b, 0, none⟩) n cap) (hown : w.ownsRow base e size (.slice (some ⟨b, 0, none⟩) n cap) n xs)
    (ad : Addr) (m c : Nat) (news : List Value) (hx : a.eval x = .slice (some ad) m c) (hn : news.length = m * size) (hc : ∀ j u, news[j]? = some u → w.cell? (ad.add j) = some u) (h1c : ∀ u ∈ news, u.oneCell' = true)
    (hroom : n + m ≤ cap)
    (hK : ∀ w', w'.ownsRow base e size (.slice (some ⟨b, 0, none⟩) (n + m) cap) (n + m) (xs ++ news) → w.grownBy w' (some b) → K (a.put o.dst (.slice (some ⟨b, 0, none⟩) (n + m) cap)) w') :
    if Region.wanted o (yielded ops a.tmps) = true then Oper.wp P o a w K Q else E := by
  have hw : Region.wanted o (yielded ops a.tmps) = true := by simp [Region.wanted, hg]
  rw [if_pos hw]
  obtain ⟨w', hrun, ho, hgr⟩ := run_append_fits (P := P) w base t o.type e i size h1 h2 h4 b n cap xs hown ad m c news hn hc h1c hroom
  unfold Oper.wp
  simp [execOp, hop, resolve, invoke, builtin, hs, hx, hrun, Result.andThen]
  exact hK w' ho hgr

set_option maxRecDepth 100000 in
set_option maxHeartbeats 1000000 in
theorem iclone_any (A : Option Addr) (c : Nat) (l : List Int) (w : World) (hS : Src w A (ivs l)) (h0 : A = none → c = 0) (hn : l.length ≤ 1000) :
    Calls Try.prog 23 #[.slice A l.length c] w fun e w' => ∃ v, e = .returned v ∧ w'.ownsRow w.heap.size 3 1 v l.length (ivs l) ∧ Keeps (fun _ => False) w w' := by
  have q28 : ∀ (w : World) (a : Option Addr) (n c n' c' : Nat), (binOp .eql 34 (.slice a n c) (.slice none n' c')).run Try.prog w = .ok (.bool a.isNone) w := fun w a n c n' c' => Lib.run_eql_slice_nil w _ _ a n c n' c' Try.underlying34
  cases A with
  | none =>
    obtain rfl : l = [] := by
      cases l with
      | nil => rfl
      | cons x l => obtain ⟨a, ha, _⟩ := hS 0 (.int .i64 x) rfl; cases ha
    obtain rfl := h0 rfl
    clear hS
    go_enter Try.func23, Try.ntmps23
    go_wp2
    go_ret
    exact ⟨_, rfl, World.ownsRow_nil _ _ _ _, Keeps.refl _ _⟩
  | some a =>
    obtain ⟨ih, zh, hih, hzh, hsh, hbh, hzsh⟩ := info_in
    obtain ⟨n, hnn⟩ : ∃ n, l.length = n := ⟨_, rfl⟩
    have hfl : (ivs l).length = n := by rw [ivs_length, hnn]
    have HF1 := Lib.hid (ivs_one l)
    obtain ⟨L, hL⟩ : ∃ L, ivs l = L := ⟨_, rfl⟩
    rw [hnn] at hn ⊢
    rw [hL] at hS hfl HF1 ⊢
    have HS := Lib.hid hS
    have HFL := Lib.hid hfl
    have hk0 : Keeps (fun _ => False) w (w.alloc (.cells #[] 3)) := (Keeps.refl _ _).alloc _
    have HK0 := Lib.hid hk0
    clear hS hfl hnn hL hk0
    go_enter Try.func23, Try.ntmps23
    go_wp2_with (refine wpList_append_own _ (by rfl) (.tmp 5) (.tmp 6) 34 (by rfl) w.heap.size 3 ih zh 1 8 Try.underlying34 hih hzh hsh hbh hzsh (by decide) (.slice (some ⟨w.heap.size, 0, none⟩) 0 0) 0 [] (by rfl) (World.ownsRow_made w #[] 0 (Nat.le_refl _) (Nat.zero_le _) rfl) a n c L (by rfl) (by have := HFL.out; omega) (fun j u hu => (HS.out.keeps HK0.out (fun _ _ _ => id)).at_ hu) HF1.out (by unfold maxLen; omega) (by omega) (by simp) ?_; intro v1 w1 ho1 hg1 _; obtain ⟨A1, c1, rfl⟩ := own_slice ho1; rw [List.nil_append] at ho1; have HO1 := Lib.hid ho1; have HK1 := Lib.hid (HK0.out.grown hg1 (fun k hk h => by simp only [Value.ownBlock, Option.some.injEq] at h; omega)); clear ho1 hg1)
    go_ret
    exact ⟨_, rfl, by have h := HO1.out; rw [Nat.zero_add] at h; simpa using h, HK1.out⟩
set_option maxRecDepth 100000 in
set_option maxHeartbeats 4000000 in
/-- One is taken out of a row of one's own. -/
theorem delete_j (g i j n cap base : Nat) (l : List Int) (w : World) (ho : w.ownsRow base 3 1 (.slice (some ⟨g, 0, none⟩) n cap) n (ivs l)) (hij : j = i + 1) (hi : i < n) (hbase : base ≤ w.heap.size) :
    Calls Try.prog 25 #[.slice (some ⟨g, 0, none⟩) n cap, .int .i64 (i : Int), .int .i64 (j : Int)] w fun e w' => e = .returned (.slice (some ⟨g, 0, none⟩) (n - 1) cap) ∧ w'.ownsRow base 3 1 (.slice (some ⟨g, 0, none⟩) (n - 1) cap) (n - 1) (ivs (l.eraseIdx i)) ∧ Keeps (fun k => k = g) w w' := by
  obtain ⟨ih, zh, hih, hzh, hsh, hbh, hzsh⟩ := info_in
  obtain ⟨cur, hg, hcs, hnc, hcm⟩ := own_cells ho
  have hll : l.length = n := by have := ho.1; rw [ivs_length] at this; omega
  obtain ⟨news, hnews⟩ : ∃ news, (ivs l).drop j = news := ⟨_, rfl⟩
  have hnl : news.length = n - j := by rw [← hnews, List.length_drop, ivs_length]; omega
  obtain ⟨A, hA, hsrc⟩ : ∃ A : Addr, (if cap = j then some (⟨g, 0, none⟩ : Addr) else some ⟨g, j, none⟩) = some A ∧ Hid (∀ t u, news[t]? = some u → w.drew.cell? (A.add t) = some u) := by
    by_cases h : cap = j
    · refine ⟨⟨g, 0, none⟩, by simp [h], Lib.hid fun t u hu => ?_⟩
      have h0 : news.length = 0 := by rw [hnl]; omega
      rw [List.length_eq_zero_iff.1 h0] at hu
      simp at hu
    · refine ⟨⟨g, j, none⟩, by simp [h], Lib.hid fun t u hu => ?_⟩
      rw [← hnews, List.getElem?_drop] at hu
      rw [add_plain]
      exact ho.cellAt (j + t) (by have := (List.getElem?_eq_some_iff.1 hu).1; rw [ivs_length] at this; omega) ▸ hu
  have s2 : Hid (∀ u ∈ news, u.oneCell' = true) := Lib.hid (by rw [← hnews]; exact fun u hu => ivs_one l u (List.mem_of_mem_drop hu))
  have hnl := Lib.hid (show news.length = (n - j) * 1 by omega)
  have hf := Lib.hid (show w.drew.ownsRow base 3 1 (.slice (some ⟨g, 0, none⟩) i cap) i ((ivs l).take i) from own_front ho (by omega))
  have hcm' : cap ≤ 9223372036854775807 := by unfold maxLen at hcm; omega
  have hic : i ≤ cap := by omega
  have hjc : j ≤ cap := by omega
  obtain ⟨r, hr⟩ : ∃ r, n - 1 = r := ⟨_, rfl⟩
  rw [hr]
  have hin : i + (n - j) = r := by omega
  have hn1 : n - r = 1 := by omega
  have hrn : r ≤ n := by omega
  have hcr : ¬ cap = r := by omega
  have HL := Lib.hid (And.intro hll hnews)
  have hjn : j ≤ n := by omega
  have hne : ((i : Int) == (j : Int)) = false := by simp; omega
  have HIJ := Lib.hid hij
  clear hij ho hg hcs hcm hll hnews
  go_enter Try.func25, Try.ntmps25
  go_wp2_with fail
  go_region_law (refine step_append_fits rfl (.tmp 22) (.tmp 25) 34 rfl base 3 ih 1 Try.underlying34 hih hsh g i cap ((ivs l).take i) (by simp [Act.eval, Act.put]) hf.out A (n - j) (cap - j) news (by simp [Act.eval, Act.put]) hnl.out hsrc.out s2.out (by omega) ?_; intro w1 ho1 hg1; have HO1 := Lib.hid ho1; have HG1 := Lib.hid hg1; clear ho1 hg1)
  have ho1 : w1.ownsRow base 3 1 (.slice (some ⟨g, 0, none⟩) r cap) r ((ivs l).take i ++ news) := by have h := HO1.out; rwa [hin] at h
  obtain ⟨cur1, hg1, hcs1, _, _⟩ := own_cells ho1
  obtain ⟨w2, hw2⟩ : ∃ V, w1.setCell ⟨g, r, none⟩ (.int .i64 0) = V := ⟨_, rfl⟩
  have hcl : ∀ ty, (Builtin.clear_ #[34] ty #[.slice (some ⟨g, r, none⟩) 1 (cap - r)]).run Try.prog w1 = .ok (.tuple #[]) w2 := fun ty => by
    have h := Lib.run_clear_slice (P := Try.prog) w1 34 3 ty (.int .i64 0) Try.underlying34 zero_int rfl rfl g r 1 (cap - r) (by omega)
      (fun j hj => by rw [cell_of_row w1 g (r + j) cur1 3 (0, 0) hg1, Array.getElem?_eq_getElem (by omega)]; rfl)
      (fun j hj => by simp [World.frozen?, hg1])
    rw [h]
    exact congrArg _ hw2
  have HO2 : Hid (w2.ownsRow base 3 1 (.slice (some ⟨g, 0, none⟩) r cap) r ((ivs l).take i ++ news)) := Lib.hid (by rw [← hw2]; exact own_past ho1 r (Nat.le_refl _) _)
  have HK2 : Hid (Keeps (fun k => k = g) w w2) := Lib.hid (by
    rw [← hw2]
    exact (((Keeps.refl (fun k => k = g) w).drew).grown HG1.out (fun k hk e => by injection e with e; exact e.symm)).setCell (p := ⟨g, r, none⟩) (fun _ => rfl) _)
  clear ho1 hg1 hcs1 hw2 HO1 HG1
  go_wp2
  go_ret
  refine ⟨rfl, ?_, HK2.out⟩
  have h := HO2.out
  rwa [ivs_take, ← HL.out.2, ivs_drop, ivs_append, HIJ.out, ← List.eraseIdx_eq_take_drop_succ] at h
theorem delete_any (g i n cap base : Nat) (l : List Int) (w : World) (ho : w.ownsRow base 3 1 (.slice (some ⟨g, 0, none⟩) n cap) n (ivs l)) (hi : i < n) (hbase : base ≤ w.heap.size) :
    Calls Try.prog 25 #[.slice (some ⟨g, 0, none⟩) n cap, .int .i64 (i : Int), .int .i64 ((i : Int) + 1)] w fun e w' => e = .returned (.slice (some ⟨g, 0, none⟩) (n - 1) cap) ∧ w'.ownsRow base 3 1 (.slice (some ⟨g, 0, none⟩) (n - 1) cap) (n - 1) (ivs (l.eraseIdx i)) ∧ Keeps (fun k => k = g) w w' :=
  delete_j g i (i + 1) n cap base l w ho rfl hi hbase
end Go.Proofs.Ytmhbfchhooggjaa
