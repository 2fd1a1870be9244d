/-
  The document's own disk: one block set; a block read. WRITTEN BY wip/gen/mkrkb.py.
-/
import Derived.Test.YtonokeldlknadaaRkA
namespace Go.Proofs.Ytonokeldlknadaa
open Go.RowKit Go.BigFrame
set_option linter.unusedVariables false

theorem wpList_append_copy {P : Program} {w : World} {ops : Array Oper} {rest : List Oper} {o : Oper} {a : Act} {Q : Exit → Act → World → Prop} (hgd : o.guard = none) (s x : Operand) (t : TypeId)
    (ho : o.op = .call { callee := .builtin .append, args := #[s, x], argTypes := #[t, t] })
    (base : Nat) (e : TypeId) (i : TypeInfo) (z : Value) (size bytes : Nat) (ht : P.underlying t = some (.slice e)) (hi : P.info? e = some i) (hz : i.zero = some z)
    (hsize : i.size = size) (hby : i.bytes = bytes) (hzs : z.cells.size = size) (hsz : 0 < size)
    (hs : a.eval s = .slice none 0 0) (A : Option Addr) (m c : Nat) (news : List Value) (hx : a.eval x = .slice A m c) (hl : news.length = m * size) (hsrc : Src w A news) (h0 : A = none → m = 0) (h1 : ∀ u ∈ news, u.oneCell' = true)
    (h63 : m ≤ maxLen) (hbytes : m * bytes ≤ 140737488355328) (hbase : base ≤ w.heap.size)
    (h : ∀ v' w', w'.ownsRow base e size v' m news → w.grownBy w' none → wpList P ops Q rest (a.put o.dst v') w') :
    wpList P ops Q (o :: rest) a w := by
  have hown : w.ownsRow base e size (.slice none 0 0) 0 [] := World.ownsRow_nil _ _ _ _
  have hr : ∃ v' w', (Builtin.append_ #[t, t] o.type #[.slice none 0 0, .slice A m c]).run P w = .ok v' w' ∧ w'.ownsRow base e size v' m news ∧ w.grownBy w' none := by
    cases A with
    | none =>
      obtain rfl := h0 rfl
      have hn : news = [] := List.eq_nil_of_length_eq_zero (by rw [hl, Nat.zero_mul])
      subst hn
      exact ⟨.slice none 0 0, w, by simp [Builtin.append_, run_underlying ht, sizeOf, typeInfo, hi, Builtin.lenOf, Builtin.firstCells], hown, ⟨rfl, rfl, rfl, Nat.le_refl _, fun _ _ _ => rfl⟩⟩
    | some g =>
      obtain ⟨v', w', hr, h2, h3, _⟩ := run_append_own (P := P) w base t o.type e i z size bytes ht hi hz hsize hby hzs hsz (.slice none 0 0) 0 [] hown g m c news hl (fun j u hu => hsrc.at_ hu) h1 (by omega) (by rw [Nat.zero_add]; exact hbytes) hbase
      rw [Nat.zero_add, List.nil_append] at h2
      exact ⟨v', w', hr, h2, h3⟩
  refine wpList_plain hgd fun _ hK => ?_
  obtain ⟨v', w', hr, h2, h3⟩ := hr
  unfold Oper.wp execOp
  simp only [ho, resolve, invoke, builtin, Sem.run_bind, Sem.run_pure, Result.andThen_ok, List.map_toArray, List.map_cons, List.map_nil, hs, hx, hr]
  exact hK _ _ (h v' w' h2 h3)
def svals (l : List (List UInt8)) : List Value := l.map fun b => .string (strOf b)
def lcell (p : Nat × List UInt8) : List Value := [.int .i64 (p.1 : Int), .string (strOf p.2)]
def lcells (l : List (Nat × List UInt8)) : List Value := l.flatMap lcell
theorem svals_length (l : List (List UInt8)) : (svals l).length = l.length := by simp [svals]
theorem svals_get (l : List (List UInt8)) (i : Nat) : (svals l)[i]? = l[i]?.map fun b => .string (strOf b) := by simp [svals]
theorem svals_set (l : List (List UInt8)) (i : Nat) (b : List UInt8) : (svals l).set i (.string (strOf b)) = svals (l.set i b) := by simp [svals, List.map_set]
theorem svals_append (a b : List (List UInt8)) : svals a ++ svals b = svals (a ++ b) := by simp [svals]
theorem svals_one (l : List (List UInt8)) : ∀ u ∈ svals l, u.oneCell' = true := by
  intro u hu
  obtain ⟨c, _, rfl⟩ := List.mem_map.1 hu
  rfl
theorem lcells_length (l : List (Nat × List UInt8)) : (lcells l).length = l.length * 2 := by
  unfold lcells
  induction l with
  | nil => rfl
  | cons p l ih => rw [List.flatMap_cons, List.length_append, ih, List.length_cons]; show 2 + _ = _; omega
theorem lcells_append (a b : List (Nat × List UInt8)) : lcells a ++ lcells b = lcells (a ++ b) := by unfold lcells; rw [List.flatMap_append]
theorem lcells_one (l : List (Nat × List UInt8)) : ∀ u ∈ lcells l, u.oneCell' = true := by
  intro u hu
  unfold lcells at hu
  obtain ⟨p, _, h⟩ := List.mem_flatMap.1 hu
  simp only [lcell, List.mem_cons, List.not_mem_nil, or_false] at h
  rcases h with rfl | rfl <;> rfl
theorem lcells_get : ∀ (l : List (Nat × List UInt8)) (k : Nat) (p : Nat × List UInt8), l[k]? = some p → (lcells l)[k * 2]? = some (.int .i64 (p.1 : Int)) ∧ (lcells l)[k * 2 + 1]? = some (.string (strOf p.2))
  | [], k, p, h => by simp at h
  | q :: l, 0, p, h => by cases h; exact ⟨rfl, rfl⟩
  | q :: l, k + 1, p, h => by
    have hf : lcells (q :: l) = lcell q ++ lcells l := by unfold lcells; rw [List.flatMap_cons]
    have h2 := lcells_get l k p h
    rw [hf]
    have hl : (lcell q).length = 2 := rfl
    refine ⟨?_, ?_⟩
    · rw [List.getElem?_append_right (by omega), hl, show (k + 1) * 2 - 2 = k * 2 by omega]; exact h2.1
    · rw [List.getElem?_append_right (by omega), hl, show (k + 1) * 2 + 1 - 2 = k * 2 + 1 by omega]; exact h2.2
theorem own_some {w : World} {base size n c : Nat} {e : TypeId} {A : Option Addr} {xs : List Value} (h : w.ownsRow base e size (.slice A n c) n xs) (h0 : 0 < n) : ∃ g, A = some ⟨g, 0, none⟩ := by
  rcases h.2 with ⟨_, h⟩ | ⟨g, _, _, h, _⟩
  · omega
  · injection h with h
    exact ⟨g, h⟩
theorem own_none {w : World} {base size n c : Nat} {e : TypeId} {A : Option Addr} {xs : List Value} (h : w.ownsRow base e size (.slice A n c) n xs) (h0 : A = none) : n = 0 := by
  rcases h.2 with ⟨_, h⟩ | ⟨g, _, _, h, _⟩
  · exact h
  · injection h with h
    rw [h0] at h
    cases h
theorem info_str : (Try.prog.info? 9).map (fun i => (i.zero, i.size, i.bytes)) = some (some (.string ByteArray.empty), 1, 16) := by kernel_rfl
namespace Dk
theorem over_none (g : Nat → Blk) (i : Nat) : ∀ (l : List (Nat × Blk)), (∀ p ∈ l, p.1 ≠ i) → over g l i = g i := by
  intro l
  induction l generalizing g with
  | nil => intro _; rfl
  | cons p l ih =>
    intro h
    show over (put g p.1 p.2) l i = g i
    rw [ih _ (fun q hq => h q (List.mem_cons_of_mem _ hq)), put_other _ _ (fun e => h p (by simp) e.symm)]
theorem over_last (g : Nat → Blk) (l : List (Nat × Blk)) (k : Nat) (p : Nat × Blk) (hp : l[k]? = some p) (h : ∀ k' q, k < k' → l[k']? = some q → q.1 ≠ p.1) : over g l p.1 = p.2 := by
  have hk := (List.getElem?_eq_some_iff.1 hp).1
  have e : l = (l.take k ++ [p]) ++ l.drop (k + 1) := by
    have h1 := List.take_succ_eq_append_getElem hk
    rw [(List.getElem?_eq_some_iff.1 hp).2] at h1
    rw [← h1, List.take_append_drop]
  have e2 : over g l = over (over g (l.take k ++ [p])) (l.drop (k + 1)) := by
    conv => lhs; rw [e]
    unfold over
    rw [List.foldl_append]
  rw [e2, over_none _ _ _ (fun q hq => by
    obtain ⟨j, hj⟩ := List.getElem?_of_mem hq
    rw [List.getElem?_drop] at hj
    exact h _ q (by omega) hj), over_snoc, put_same]
end Dk
set_option maxRecDepth 100000 in
set_option maxHeartbeats 1000000 in
theorem rset_any (A : Option Addr) (n c : Nat) (gs : List (List UInt8)) (i : Nat) (b : List UInt8) (w : World) (hg : w.ownsRow 0 9 1 (.slice A n c) n (svals gs)) (hi : i < n) (hn : n ≤ 1000) :
    Calls Try.prog 32 #[.slice A n c, .int .i64 (i : Int), .string (strOf b)] w fun e w' => ∃ A' c', e = .returned (.slice A' n c') ∧ w'.ownsRow w.heap.size 9 1 (.slice A' n c') n (svals (gs.set i b)) ∧ Keeps (fun _ => False) w w' := by
  obtain ⟨i0, hi0, hz0, hs0, hb0⟩ := info_parts info_str
  have hgl : (svals gs).length = n := by have h := hg.1; omega
  have HII := Lib.hid (And.intro hi0 (And.intro hz0 (And.intro hs0 hb0)))
  have HG := Lib.hid hg
  have HGL := Lib.hid hgl
  have hii : (i : Int) < (n : Int) := by omega
  obtain ⟨sb, hsb⟩ : ∃ s, strOf b = s := ⟨_, rfl⟩
  have HSB := Lib.hid hsb
  rw [hsb]
  clear hi0 hz0 hs0 hb0 hg hgl hsb
  go_enter Try.func32, Try.ntmps32
  go_wp2_with (at_builtin; refine wpList_append_copy (by rfl) (.tmp 8) (.tmp 9) 28 (by rfl) w.heap.size 9 i0 (.string ByteArray.empty) 1 16 Try.underlying28 HII.out.1 HII.out.2.1 HII.out.2.2.1 HII.out.2.2.2 rfl (by decide) (by rfl) A n c (svals gs) (by rfl) (by rw [HGL.out, Nat.mul_one]) (Src.of_own HG.out) (own_none HG.out) (svals_one _) (by unfold maxLen; omega) (by omega) (Nat.le_refl _) ?_)
  intro v1 w1 ho1 hg1
  obtain ⟨A1, c1, rfl⟩ := own_slice ho1
  obtain ⟨g1, rfl⟩ := own_some ho1 (by omega)
  have hgl2 := HGL.out
  rw [svals_length] at hgl2
  obtain ⟨old, hold⟩ : ∃ o, gs[i]? = some o := ⟨_, List.getElem?_eq_getElem (by omega)⟩
  have hcell : w1.cell? ⟨g1, i, none⟩ = some (.string (strOf old)) := by rw [ho1.cellAt i (by omega), svals_get, hold]; rfl
  have hfr := ho1.frozenAt i
  have HO1 := Lib.hid ho1
  have HG1 := Lib.hid hg1
  have HST := Lib.hid (ho1.stored i (.string sb))
  clear ho1 hg1 hold hgl2
  go_wp2
  go_ret
  refine ⟨_, _, rfl, ?_, ?_⟩
  · rw [← svals_set, HSB.out]
    exact HST.out.1
  · exact ((Keeps.refl _ _).grown HG1.out (fun k _ h => by cases h)).grown HST.out.2 (fun k hk h => by injection h with h; have := (HO1.out.lt g1 rfl).1; omega)
theorem rread_dead (A : Option Addr) (n c : Nat) (A2 : Option Addr) (m c2 : Nat) (f : Int) (i : Int) (w : World) :
    Calls Try.prog 33 #[.agg (rrow A n c A2 m c2 f true).toArray, .int .i64 i] w fun e w' => e = .returned (.tuple #[.string ByteArray.empty, .int .i64 30]) ∧ Keeps (fun _ => False) w w' := by
  obtain ⟨RA, hRA⟩ : ∃ R, (rrow A n c A2 m c2 f true).toArray = R := ⟨_, rfl⟩
  obtain ⟨b1, hb1⟩ : ∃ x, w.heap.size = x := ⟨_, rfl⟩
  obtain ⟨W1, hW1⟩ : ∃ V, w.alloc (.cells RA 31) = V := ⟨_, rfl⟩
  have K1 : Hid (Keeps (fun _ => False) w W1) := Lib.hid (by rw [← hW1]; exact (Keeps.refl _ _).alloc _)
  have r1 : W1.heap[b1]? = some (.cells RA 31 (0, 0)) := by rw [← hW1, ← hb1]; exact heap_alloc_new w _
  have hc3 : W1.cell? ⟨b1, 3, none⟩ = some (.bool true) := by rw [cell_of_row W1 b1 3 _ 31 (0, 0) r1, ← hRA]; rfl
  have hc0 : W1.cell? ⟨b1, 0, none⟩ = some (.slice A n c) := by rw [cell_of_row W1 b1 0 _ 31 (0, 0) r1, ← hRA]; rfl
  rw [hRA]
  clear r1 hRA
  go_enter Try.func33, Try.ntmps33
  go_wp2
  go_ret2
  exact ⟨rfl, K1.out⟩
theorem rread_range (A : Option Addr) (n c : Nat) (A2 : Option Addr) (m c2 : Nat) (f : Int) (i : Int) (hi : i < 0 ∨ (n : Int) ≤ i) (w : World) :
    Calls Try.prog 33 #[.agg (rrow A n c A2 m c2 f false).toArray, .int .i64 i] w fun e w' => e = .returned (.tuple #[.string ByteArray.empty, .int .i64 15]) ∧ Keeps (fun _ => False) w w' := by
  obtain ⟨RA, hRA⟩ : ∃ R, (rrow A n c A2 m c2 f false).toArray = R := ⟨_, rfl⟩
  obtain ⟨b1, hb1⟩ : ∃ x, w.heap.size = x := ⟨_, rfl⟩
  obtain ⟨W1, hW1⟩ : ∃ V, w.alloc (.cells RA 31) = V := ⟨_, rfl⟩
  have K1 : Hid (Keeps (fun _ => False) w W1) := Lib.hid (by rw [← hW1]; exact (Keeps.refl _ _).alloc _)
  have r1 : W1.heap[b1]? = some (.cells RA 31 (0, 0)) := by rw [← hW1, ← hb1]; exact heap_alloc_new w _
  have hc3 : W1.cell? ⟨b1, 3, none⟩ = some (.bool false) := by rw [cell_of_row W1 b1 3 _ 31 (0, 0) r1, ← hRA]; rfl
  have hc0 : W1.cell? ⟨b1, 0, none⟩ = some (.slice A n c) := by rw [cell_of_row W1 b1 0 _ 31 (0, 0) r1, ← hRA]; rfl
  rw [hRA]
  clear r1 hRA
  rcases hi with hlo | hhi
  · have h1 : i < 0 := hlo
    go_enter Try.func33, Try.ntmps33
    go_wp2
    go_ret2
    exact ⟨rfl, K1.out⟩
  · have h2 : ¬ i < 0 := by omega
    have h3 : i ≥ (n : Int) := hhi
    go_enter Try.func33, Try.ntmps33
    go_wp2
    go_ret2
    exact ⟨rfl, K1.out⟩
set_option maxRecDepth 100000 in
set_option maxHeartbeats 2000000 in
theorem rread_in (A : Option Addr) (n c : Nat) (A2 : Option Addr) (m c2 : Nat) (f : Int) (q : Nat) (gs : List (List UInt8)) (ls : List (Nat × List UInt8)) (g : Nat → List UInt8) (w : World) (hg : w.ownsRow 0 9 1 (.slice A n c) n (svals gs)) (hl : w.ownsRow 0 67 2 (.slice A2 m c2) m (lcells ls)) (hq : q < n) (hgq : gs[q]? = some (g q)) (hn : n ≤ 100000) (hm : m ≤ 1000) :
    Calls Try.prog 33 #[.agg (rrow A n c A2 m c2 f false).toArray, .int .i64 (q : Int)] w fun e w' => e = .returned (.tuple #[.string (strOf (Dk.over g ls q)), .int .i64 0]) ∧ Keeps (fun _ => False) w w' := by
  obtain ⟨RA, hRA⟩ : ∃ R, (rrow A n c A2 m c2 f false).toArray = R := ⟨_, rfl⟩
  obtain ⟨b1, hb1⟩ : ∃ x, w.heap.size = x := ⟨_, rfl⟩
  obtain ⟨W1, hW1⟩ : ∃ V, w.alloc (.cells RA 31) = V := ⟨_, rfl⟩
  have k1 : Keeps (fun _ => False) w W1 := by rw [← hW1]; exact (Keeps.refl _ _).alloc _
  have r1 : W1.heap[b1]? = some (.cells RA 31 (0, 0)) := by rw [← hW1, ← hb1]; exact heap_alloc_new w _
  have hc3 : W1.cell? ⟨b1, 3, none⟩ = some (.bool false) := by rw [cell_of_row W1 b1 3 _ 31 (0, 0) r1, ← hRA]; rfl
  have hc0 : W1.cell? ⟨b1, 0, none⟩ = some (.slice A n c) := by rw [cell_of_row W1 b1 0 _ 31 (0, 0) r1, ← hRA]; rfl
  have hc1 : W1.cell? ⟨b1, 1, none⟩ = some (.slice A2 m c2) := by rw [cell_of_row W1 b1 1 _ 31 (0, 0) r1, ← hRA]; rfl
  have hll : ls.length = m := by have h := hl.1; rw [lcells_length] at h; omega
  obtain ⟨ga, hA⟩ : ∃ ga, A = some ⟨ga, 0, none⟩ := by
    rcases hg.2 with ⟨_, h⟩ | ⟨ga, _, _, h, _⟩
    · omega
    · injection h with h; exact ⟨ga, h⟩
  subst hA
  have hgo := k1.owns hg (fun _ _ => id)
  have hgc : W1.cell? ⟨ga, q, none⟩ = some (.string (strOf (g q))) := by rw [hgo.cellAt q (by omega), svals_get, hgq]; rfl
  have HLO := Lib.hid (k1.owns hl (fun _ _ => id))
  have HLL := Lib.hid hll
  have K1 := Lib.hid k1
  have hqi : (q : Int) < (n : Int) := by omega
  have hq0 : ¬ (q : Int) < 0 := by omega
  have hqn : ¬ (q : Int) ≥ (n : Int) := by omega
  have hm1 : IntKind.i64.wrap ((m : Int) - 1) = (m : Int) - 1 := IntWalk.i64_in _ (by omega)
  have hm2 : wrap64 ((m : Int) - 1) = (m : Int) - 1 := IntWalk.wrap64_in _ (by omega)
  have HMM := Lib.hid hm
  rw [hRA]
  clear r1 hRA k1 hg hl hgo hll hgq hn hm
  go_enter Try.func33, Try.ntmps33
  go_wp2_with fail
  go_loopw [6] (fun kv wr => ∃ (k : Nat), k ≤ m ∧ kv = .int .i64 ((k : Int) - 1) ∧ Hid (∀ k' p, k ≤ k' → ls[k']? = some p → p.1 ≠ q) ∧ wr = W1) (fun kv _ => (intOf kv + 1).toNat)
  case atStart => exact ⟨m, Nat.le_refl _, rfl, Lib.hid (fun k' p h hp => by have := (List.getElem?_eq_some_iff.1 hp).1; have := HLL.out; omega), rfl⟩
  case round =>
    obtain ⟨k, hk, rfl, HNO, hw⟩ := hrel
    obtain rfl : W1 = wr := hw.symm
    cases k with
    | zero =>
      have hk0 : ¬ (((0 : Nat) : Int) - 1) ≥ 0 := by omega
      have hfin : Dk.over g ls q = g q := Dk.over_none g q ls (fun p hp => by
        obtain ⟨j, hj⟩ := List.getElem?_of_mem hp
        exact HNO.out j p (Nat.zero_le _) hj)
      have HFIN := Lib.hid hfin
      clear hfin HNO
      go_wp2
      go_ret2
      exact ⟨by rw [HFIN.out]; rfl, K1.out⟩
    | succ j =>
      obtain ⟨p, hp⟩ : ∃ p, ls[j]? = some p := ⟨_, List.getElem?_eq_getElem (by rw [HLL.out]; omega)⟩
      obtain ⟨gl, hA2⟩ : ∃ gl, A2 = some ⟨gl, 0, none⟩ := by
        rcases HLO.out.2 with ⟨_, h⟩ | ⟨gl, _, _, h, _⟩
        · omega
        · injection h with h; exact ⟨gl, h⟩
      subst hA2
      obtain ⟨l1, l2⟩ := lcells_get ls j p hp
      have ha1 : W1.cell? ⟨gl, j * 2, none⟩ = some (.int .i64 (p.1 : Int)) := by rw [HLO.out.cellAt (j * 2) (by omega), l1]
      have ha2 : W1.cell? ⟨gl, j * 2 + 1, none⟩ = some (.string (strOf p.2)) := by rw [HLO.out.cellAt (j * 2 + 1) (by omega), l2]
      have ej : (((j + 1 : Nat) : Int) - 1) = (j : Int) := by omega
      have hjm : (j : Int) < (m : Int) := by omega
      have hj0 : (j : Int) ≥ 0 := by omega
      have hjw : IntKind.i64.wrap ((j : Int) - 1) = (j : Int) - 1 := IntWalk.i64_in _ (by have := HMM.out; omega)
      have hjw2 : wrap64 ((j : Int) - 1) = (j : Int) - 1 := IntWalk.wrap64_in _ (by have := HMM.out; omega)
      rw [ej]
      clear l1 l2 ej
      by_cases hpq : p.1 = q
      · have hfin : Dk.over g ls q = p.2 := by
          rw [← hpq]
          exact Dk.over_last g ls j p hp (fun k' r hk' hr => by rw [hpq]; exact HNO.out k' r (by omega) hr)
        have heq : ((p.1 : Int) == (q : Int)) = true := by rw [hpq]; simp
        have HFIN := Lib.hid hfin
        clear hfin HNO hp
        go_wp2
        go_ret2
        exact ⟨by rw [HFIN.out]; rfl, K1.out⟩
      · have heq : ((p.1 : Int) == (q : Int)) = false := by rw [beq_eq_false_iff_ne]; omega
        have HN2 : Hid (∀ k' r, j ≤ k' → ls[k']? = some r → r.1 ≠ q) := Lib.hid (fun k' r hk' hr => by
          by_cases he : k' = j
          · subst he
            rw [hp] at hr
            cases hr
            exact hpq
          · exact HNO.out k' r (by omega) hr)
        clear HNO hp hpq
        go_wp2
        go_roundw
        case rel => exact ⟨j, by omega, rfl, HN2, by first | rfl | trivial⟩
        case measure => simp [intOf]
end Go.Proofs.Ytonokeldlknadaa
