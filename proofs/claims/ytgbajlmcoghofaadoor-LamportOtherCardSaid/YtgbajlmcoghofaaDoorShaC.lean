/-
  A block is mixed in (sha.mixer's mix).
-/
import Derived.Test.YtgbajlmcoghofaaDoorShaB
import Derived.Test.YtgbajlmcoghofaaDoorEq
namespace Go.Proofs.YtgbajlmcoghofaaDoor
open Go.RowKit Go.BigFrame
set_option linter.unusedVariables false

/-- The tables lie in the first two blocks. -/
structure Tabs (w : World) : Prop where
  zero : ∃ t fr, w.heap[0]? = some (.cells (wvs Sh.st0.list).toArray t fr)
  one : ∃ t fr, w.heap[1]? = some (.cells (wvs Sh.roots).toArray t fr)
theorem Tabs.lt {w : World} (h : Tabs w) : 1 < w.heap.size := by
  obtain ⟨t, fr, h1⟩ := h.one
  exact (Array.getElem?_eq_some_iff.1 h1).1
theorem Tabs.keeps {S : Nat → Prop} {w w' : World} (h : Tabs w) (hk : Keeps S w w') (h0 : ¬ S 0) (h1 : ¬ S 1) : Tabs w' := by
  have hl := h.lt
  obtain ⟨t, fr, h2⟩ := h.zero
  obtain ⟨t', fr', h3⟩ := h.one
  exact ⟨⟨t, fr, (hk.block 0 (by omega) h0).trans h2⟩, ⟨t', fr', (hk.block 1 hl h1).trans h3⟩⟩
theorem Tabs.root {w : World} (h : Tabs w) (i : Nat) : w.cell? ⟨1, i, none⟩ = (wvs Sh.roots)[i]? := by
  obtain ⟨t, fr, h1⟩ := h.one
  rw [cell_of_row w 1 i _ t fr h1]; simp

/-- What a mixer's block holds. -/
def mcells (st : Sh.St) (blk : List UInt8) (fill many : Int) : List Value := wvs st.list ++ (bvs blk ++ [.int .i64 fill, .int .u64 many])
def Mx (w : World) (b : Nat) (st : Sh.St) (blk : List UInt8) (fill many : Int) : Prop := blk.length = 64 ∧ 1 < b ∧ Row w b 59 (mcells st blk fill many)
section
variable {w w' : World} {b : Nat} {st : Sh.St} {blk : List UInt8} {fill many : Int}
theorem mcells_blk (h : blk.length = 64) (i : Nat) (hi : i < 64) : (mcells st blk fill many)[8 + i]? = (bvs blk)[i]? := by
  unfold mcells
  rw [List.getElem?_append_right (by rw [wvs_length]; show 8 ≤ 8 + i; omega), wvs_length, List.getElem?_append_left (by rw [bvs_length]; show 8 + i - 8 < _; omega)]
  show (bvs blk)[8 + i - 8]? = _
  rw [Nat.add_sub_cancel_left]
theorem mcells_fill (h : blk.length = 64) : (mcells st blk fill many)[72]? = some (.int .i64 fill) := by
  unfold mcells
  rw [List.getElem?_append_right (by rw [wvs_length]; show 8 ≤ 72; omega), wvs_length, List.getElem?_append_right (by rw [bvs_length]; show _ ≤ 72 - 8; omega), bvs_length, h]
  rfl
theorem mcells_many (h : blk.length = 64) : (mcells st blk fill many)[73]? = some (.int .u64 many) := by
  unfold mcells
  rw [List.getElem?_append_right (by rw [wvs_length]; show 8 ≤ 73; omega), wvs_length, List.getElem?_append_right (by rw [bvs_length]; show _ ≤ 73 - 8; omega), bvs_length, h]
  rfl
theorem mcells_length (h : blk.length = 64) : (mcells st blk fill many).length = 74 := by
  unfold mcells
  rw [List.length_append, List.length_append, wvs_length, bvs_length, h]
  rfl
theorem Mx.lt (h : Mx w b st blk fill many) : b < w.heap.size := h.2.2.lt
theorem Mx.keeps {S : Nat → Prop} (h : Mx w b st blk fill many) (hk : Keeps S w w') (hs : ¬ S b) : Mx w' b st blk fill many := ⟨h.1, h.2.1, h.2.2.keeps hk hs⟩
end

theorem run_index_row {P : Program} (W : World) (t e : TypeId) (n : Nat) {inf : TypeInfo} (ht : P.underlying t = some (.array n e)) (hi : P.info? e = some inf) (hs : inf.size = 1) (hk : P.plainKey e = true) (cs : Array Value) (k : IntKind) (j : Nat) (v : Value) (hj : j < n) (hv : cs[j]? = some v) :
    (Instr.index t (.agg cs) (.int k (j : Int))).run P W = .ok v W := by
  have hp := run_part_plain (P := P) W hk hv
  have h1 : (j : Int) < (n : Int) := by omega
  simp [Instr.index, asIntOf, run_underlying ht, sizeOf, typeInfo, hi, hs, hj, hp]
theorem info_u32 : (Tryd.prog.info? 42).map (fun i => (i.zero, i.size, i.bytes)) = some (some (.int .u32 0), 1, 4) := by kernel_rfl

/-- An array's element, by its run. -/
theorem wpList_index_run {P : Program} {ops : Array Oper} {rest : List Oper} {o : Oper} {a : Act} {w : World} {Q : Exit → Act → World → Prop} (hgd : o.guard = none) (t : TypeId) (x y : Operand) (ho : o.op = .index t x y)
    (u z v : Value) (hx : a.eval x = u) (hy : a.eval y = z) (hrun : (Instr.index t u z).run P w = .ok v w) (h : wpList P ops Q rest (a.put o.dst v) w) : wpList P ops Q (o :: rest) a w := by
  refine wpList_plain hgd fun _ hK => ?_
  unfold Oper.wp execOp
  simp only [ho, hx, hy, Sem.run_bind, Sem.run_pure, Result.andThen_ok, hrun]
  exact hK _ _ h
/-- The numbers when so many rounds are over. -/
def after (st : Sh.St) (blk : List UInt8) (k : Nat) : Sh.St := Sh.rounds st ((Sh.roots.zip (Sh.words blk)).take k)
theorem roots_length : Sh.roots.length = 64 := rfl
theorem after_succ (st : Sh.St) (blk : List UInt8) (k : Nat) (h : k < 64) (x y : UInt32) (hx : Sh.roots[k]? = some x) (hy : (Sh.words blk)[k]? = some y) :
    after st blk (k + 1) = Sh.step (after st blk k) x y := by
  have hl : k < (Sh.roots.zip (Sh.words blk)).length := by rw [List.length_zip, roots_length, Sh.words_length]; exact h
  unfold after
  rw [List.take_succ_eq_append_getElem hl]
  unfold Sh.rounds
  rw [List.foldl_append]
  have e1 : Sh.roots[k]'(by rw [roots_length]; exact h) = x := by
    rw [List.getElem?_eq_getElem (by rw [roots_length]; exact h)] at hx
    exact Option.some.inj hx
  have e2 : (Sh.words blk)[k]'(by rw [Sh.words_length]; exact h) = y := by
    rw [List.getElem?_eq_getElem (by rw [Sh.words_length]; exact h)] at hy
    exact Option.some.inj hy
  have e : (Sh.roots.zip (Sh.words blk))[k] = (x, y) := by rw [List.getElem_zip, e1, e2]
  rw [e]
  rfl
theorem after_all (st : Sh.St) (blk : List UInt8) : Sh.add8 st (after st blk 64) = Sh.comp st blk := by
  unfold after Sh.comp
  rw [List.take_of_length_le (by rw [List.length_zip, roots_length, Sh.words_length]; exact Nat.le_refl _)]

theorem wi_not (e : UInt32) : bits .xor .u32 (if IntKind.u32.signed = true then -1 else IntKind.u32.max) (wi e) = wi (~~~e) := by
  have h : (if IntKind.u32.signed = true then -1 else IntKind.u32.max) = wi 4294967295 := by decide +kernel
  rw [h, wi_xor]
  refine congrArg wi (UInt32.toBitVec_inj.1 ?_)
  simp only [UInt32.toBitVec_xor, UInt32.toBitVec_not]
  show BitVec.allOnes 32 ^^^ _ = _
  exact BitVec.allOnes_xor
theorem wi_add4 (a b x y : UInt32) : (wi a + wi b + wi x + wi y) % 4294967296 = wi (a + b + x + y) := by
  rw [← wi_add', ← wi_add', ← wi_add']
  omega

/-- The facts on a round, by names that no walk lays open. -/
structure IsRoot (k : Nat) (x : UInt32) : Prop where
  out : Sh.roots[k]? = some x
structure IsWord (blk : List UInt8) (k : Nat) (y : UInt32) : Prop where
  out : (Sh.words blk)[k]? = some y
theorem isRoot_at (k : Nat) (h : k < 64) : ∃ x, IsRoot k x := ⟨_, ⟨List.getElem?_eq_getElem (by rw [roots_length]; exact h)⟩⟩
theorem isWord_at (blk : List UInt8) (k : Nat) (h : k < 64) : ∃ y, IsWord blk k y := ⟨_, ⟨List.getElem?_eq_getElem (by rw [Sh.words_length]; exact h)⟩⟩
structure After (st : Sh.St) (blk : List UInt8) (k : Nat) (s : Sh.St) : Prop where
  out : after st blk k = s
theorem After.succ {st s : Sh.St} {blk : List UInt8} {k : Nat} {x y : UInt32} (h : After st blk k s) (hk : k < 64) (hx : IsRoot k x) (hy : IsWord blk k y) : After st blk (k + 1) (Sh.step s x y) := by
  obtain ⟨rfl⟩ := h
  exact ⟨after_succ st blk k hk x y hx.out hy.out⟩
theorem rootCell {w : World} (h : ∀ i, w.cell? ⟨1, i, none⟩ = (wvs Sh.roots)[i]?) {k : Nat} {x : UInt32} (hx : IsRoot k x) : w.cell? ⟨1, k, none⟩ = some (.int .u32 (wi x)) := by
  rw [h, wvs_get, hx.out]; rfl
theorem wordAt {R : Array Value} {blk : List UInt8} (h : (wvs (Sh.words blk)).toArray = R) {k : Nat} {y : UInt32} (hy : IsWord blk k y) : R[k]? = some (.int .u32 (wi y)) := by
  rw [← h, List.getElem?_toArray, wvs_get, hy.out]; rfl

/-! ### The eight are added -/
structure IsAt (l : List UInt32) (k : Nat) (x : UInt32) : Prop where
  out : l[k]? = some x
theorem isAt_list (s : Sh.St) (k : Nat) (h : k < 8) : ∃ x, IsAt s.list k x := ⟨_, ⟨List.getElem?_eq_getElem (show k < s.list.length from h)⟩⟩
def part8 (st s : Sh.St) (k : Nat) : List UInt32 := (Sh.add8 st s).list.take k ++ st.list.drop k
theorem part8_zero (st s : Sh.St) : part8 st s 0 = st.list := rfl
theorem part8_all (st s : Sh.St) : part8 st s 8 = (Sh.add8 st s).list := rfl
theorem part8_succ (st s : Sh.St) : ∀ (k : Nat) (x y : UInt32), k < 8 → st.list[k]? = some x → s.list[k]? = some y → part8 st s (k + 1) = (part8 st s k).set k (x + y)
  | 0, _, _, _, hx, hy => by cases hx; cases hy; rfl
  | 1, _, _, _, hx, hy => by cases hx; cases hy; rfl
  | 2, _, _, _, hx, hy => by cases hx; cases hy; rfl
  | 3, _, _, _, hx, hy => by cases hx; cases hy; rfl
  | 4, _, _, _, hx, hy => by cases hx; cases hy; rfl
  | 5, _, _, _, hx, hy => by cases hx; cases hy; rfl
  | 6, _, _, _, hx, hy => by cases hx; cases hy; rfl
  | 7, _, _, _, hx, hy => by cases hx; cases hy; rfl
  | k + 8, _, _, h, _, _ => by omega
theorem part8_at (st s : Sh.St) (k : Nat) (h : k < 8) : (part8 st s k)[k]? = st.list[k]? := by
  have h1 : ((Sh.add8 st s).list.take k).length = k := by rw [List.length_take]; exact Nat.min_eq_left (Nat.le_of_lt h)
  unfold part8
  rw [List.getElem?_append_right (by omega), h1, List.getElem?_drop]
  congr 1
  omega
structure IsSum (st s u : Sh.St) : Prop where
  out : Sh.add8 st s = u
/-- What the block holds when so many were added. -/
def acells (st s : Sh.St) (k : Nat) (blk : List UInt8) (fill many : Int) : List Value := wvs (part8 st s k) ++ (bvs blk ++ [.int .i64 fill, .int .u64 many])
theorem part8_length (st s : Sh.St) (k : Nat) (h : k ≤ 8) : (part8 st s k).length = 8 := by
  unfold part8
  rw [List.length_append, List.length_take, List.length_drop]
  show min k 8 + (8 - k) = 8
  omega
theorem acells_at {st s : Sh.St} {k : Nat} {blk : List UInt8} {fill many : Int} {x : UInt32} (h : k < 8) (hx : IsAt st.list k x) : (acells st s k blk fill many)[k]? = some (.int .u32 (wi x)) := by
  unfold acells
  rw [List.getElem?_append_left (by rw [wvs_length, part8_length _ _ _ (by omega)]; exact h), wvs_get, part8_at _ _ _ h, hx.out]
  rfl
theorem acells_set {st s : Sh.St} {k : Nat} {blk : List UInt8} {fill many : Int} {x y : UInt32} (h : k < 8) (hx : IsAt st.list k x) (hy : IsAt s.list k y) : (acells st s k blk fill many).set k (.int .u32 (wi (x + y))) = acells st s (k + 1) blk fill many := by
  unfold acells
  rw [List.set_append, if_pos (by rw [wvs_length, part8_length _ _ _ (by omega)]; exact h), wvs_set, ← part8_succ st s k x y h hx.out hy.out]
theorem listAt {s : Sh.St} {k : Nat} {y : UInt32} (hy : IsAt s.list k y) : (wvs s.list).toArray[k]? = some (.int .u32 (wi y)) := by
  rw [List.getElem?_toArray, wvs_get, hy.out]; rfl

set_option maxRecDepth 100000 in
set_option maxHeartbeats 2000000 in
theorem mix_any (b : Nat) (st : Sh.St) (blk : List UInt8) (fill many : Int) (w : World) (hT : Tabs w) (hM : Mx w b st blk fill many) :
    Calls Tryd.prog 38 #[.pointer (some ⟨b, 0, none⟩)] w fun e w' => e = .returned (.tuple #[]) ∧ Mx w' b (Sh.comp st blk) blk fill many ∧ Keeps (fun k => k = b) w w' := by
  have hb1 := hM.2.1
  have hbl := hM.lt
  have HL := Lib.hid hM.1
  have HR := Lib.hid hM.2.2
  have hsp := spread_any b 8 blk w HL.out (fun i hi => by rw [HR.out.cell, mcells_blk HL.out i hi]) hbl
  have HSP := Lib.hid hsp
  clear hsp hM
  go_enter Tryd.func38, Tryd.ntmps38
  go_wp2_with fail
  refine HSP.out.mono ?_
  rintro e w1 ⟨rfl, k1⟩
  obtain ⟨R, hR⟩ : ∃ R, (wvs (Sh.words blk)).toArray = R := ⟨_, rfl⟩
  have hsz : (Tryd.prog.info? 78).map (·.size) = some R.size := by rw [← hR, List.size_toArray, wvs_length, Sh.words_length]; exact size_w64
  have hz : (wvs (List.replicate 64 0)).toArray.size = R.size := by rw [← hR, List.size_toArray, wvs_length, List.size_toArray, wvs_length, Sh.words_length, List.length_replicate]
  have h1 : R.all (·.oneCell') = true := by
    rw [← hR, Array.all_eq_true_iff_forall_mem]
    intro v hv
    exact wvs_one _ v (by simpa using hv)
  rw [hR]
  have HSZ := Lib.hid hsz
  have HZ := Lib.hid hz
  have HONE := Lib.hid h1
  have HRR := Lib.hid hR
  have HN : Hid ((w1.alloc (.cells (wvs (List.replicate 64 0)).toArray 78)).heap[w1.heap.size]? = some (.cells (wvs (List.replicate 64 0)).toArray 78 (0, 0))) := heap_alloc_new w1 _
  have hM1 : Row w1 b 59 (mcells st blk fill many) := HR.out.keeps k1 id
  have hT1 := hT.keeps k1 id id
  have k1s := k1.size
  have kk : Keeps (fun _ => False) w (w1.alloc (.cells (wvs (List.replicate 64 0)).toArray 78)) := k1.alloc _
  clear hsz hz h1 hR k1 HSP
  go_wp2_with (refine wpList_store_abs (by rfl) 78 (.tmp 2) (.tmp 20) (by rfl) w1.heap.size R (by rfl) (by rfl) 78 (wvs (List.replicate 64 0)).toArray HN.out HSZ.out HZ.out HONE.out ?_; intro w2 HH k2)
  go_frame
  have kb : Keeps (fun _ => False) w w2 := kk.trans' k2 (fun i hi h => by have := k1s; omega)
  have hM2 : Row w2 b 59 (mcells st blk fill many) := HR.out.keeps kb id
  have hT2 := hT.keeps kb id id
  have q0 : w2.cell? ⟨b, 0, none⟩ = some (.int .u32 (wi st.a)) := hM2.cell 0
  have q1 : w2.cell? ⟨b, 1, none⟩ = some (.int .u32 (wi st.b)) := hM2.cell 1
  have q2 : w2.cell? ⟨b, 2, none⟩ = some (.int .u32 (wi st.c)) := hM2.cell 2
  have q3 : w2.cell? ⟨b, 3, none⟩ = some (.int .u32 (wi st.d)) := hM2.cell 3
  have q4 : w2.cell? ⟨b, 4, none⟩ = some (.int .u32 (wi st.e)) := hM2.cell 4
  have q5 : w2.cell? ⟨b, 5, none⟩ = some (.int .u32 (wi st.f)) := hM2.cell 5
  have q6 : w2.cell? ⟨b, 6, none⟩ = some (.int .u32 (wi st.g)) := hM2.cell 6
  have q7 : w2.cell? ⟨b, 7, none⟩ = some (.int .u32 (wi st.h)) := hM2.cell 7
  have HM2 := Lib.hid hM2
  clear hM1 hT1 kk hT hM2
  go_quiet (fail)
  clear q0 q1 q2 q3 q4 q5 q6 q7
  go_wp2_with (refine wpList_load_row rfl 78 _ rfl w1.heap.size rfl 78 R (0, 0) _ HH.out Tryd.underlying78 rfl HSZ.out ?_)
  obtain ⟨i0, hi0, _, hs0, _⟩ := info_parts info_u32
  have hix : ∀ (j : Nat) (v : Value), j < 64 → R[j]? = some v → ∀ W, (Instr.index 78 (.agg R) (.int .i64 (j : Int))).run Tryd.prog W = .ok v W := fun j v hj hv W =>
    run_index_row W 78 42 64 Tryd.underlying78 hi0 hs0 (by kernel_rfl) R .i64 j v hj hv
  have HIX := Lib.hid hix
  clear hix hi0 hs0
  go_loopw [3, 4, 5, 6, 7, 8, 9, 10, 62] (fun va vb vc vd ve vf vg vh i wr => ∃ (k : Nat) (s : Sh.St), After st blk k s ∧ k ≤ 64 ∧ i = .int .i64 k ∧ va = .int .u32 (wi s.a) ∧ vb = .int .u32 (wi s.b) ∧ vc = .int .u32 (wi s.c) ∧ vd = .int .u32 (wi s.d) ∧ ve = .int .u32 (wi s.e) ∧ vf = .int .u32 (wi s.f) ∧ vg = .int .u32 (wi s.g) ∧ vh = .int .u32 (wi s.h) ∧ Keeps (fun _ => False) w2 wr) (fun _ _ _ _ _ _ _ _ i _ => 64 - (intOf i).toNat)
  case atStart => exact ⟨0, st, ⟨rfl⟩, by omega, rfl, rfl, rfl, rfl, rfl, rfl, rfl, rfl, rfl, (Keeps.refl _ _).drewN _⟩
  case round =>
    obtain ⟨k, s, HS, hk, rfl, rfl, rfl, rfl, rfl, rfl, rfl, rfl, rfl, kw⟩ := hrel
    by_cases hlt : k < 64
    · obtain ⟨x, hx⟩ := isRoot_at k hlt
      obtain ⟨y, hy⟩ := isWord_at blk k hlt
      have hc := rootCell (hT2.keeps kw id id).root hx
      have hin := HIX.out k _ hlt (wordAt HRR.out hy)
      have HIN := Lib.hid hin
      clear hin
      go_wp2_with (refine wpList_index_run (by rfl) 78 (.tmp 61) (.tmp 62) (by rfl) (.agg R) (.int .i64 (k : Int)) (.int .u32 (wi y)) (by rfl) (by rfl) (HIN.out _) ?_)
      clear HIN
      have rx := wi_xor
      have ra := wi_add
      have rn := wi_and
      go_big_quiet ((go_at_call 43; (refine Calls.quiet_of_same (turn_q s.e _ _ ?_ ?_) <;> decide)))
      go_wp2_with (go_at_call 43; refine (turn_int s.a _ _ (by decide) (by decide)).mono ?_; rintro e w' ⟨rfl, rfl⟩)
      go_roundw
      case rel =>
        go_light
        refine ⟨k + 1, Sh.step s x y, HS.succ hlt hx hy, by omega, by go_num, ?_, rfl, rfl, rfl, ?_, rfl, rfl, rfl, kw.drewN _⟩
        · rw [wi_not, wi_and, wi_xor, wi_add4, wi_add']; rfl
        · rw [wi_not, wi_and, wi_xor, wi_add4, wi_add']; rfl
      case measure => simp [intOf]; omega
    · have ek : k = 64 := by omega
      rw [ek] at HS
      go_wp2
      clear hlt hk ek
      have hM3 : Row wr b 59 (acells st s 0 blk fill many) := HM2.out.keeps kw id
      have HM3 := Lib.hid hM3
      have k3 : Keeps (fun k => k = b) w wr := (kb.mono (fun _ _ h => h.elim)).trans' kw (fun _ _ h => h.elim)
      have fin : Sh.add8 st s = Sh.comp st blk := by rw [← HS.out]; exact after_all st blk
      have FIN : IsSum st s (Sh.comp st blk) := ⟨fin⟩
      obtain ⟨j0, hj0, _, ht0, _⟩ := info_parts info_u32
      have hjx : ∀ (j : Nat) (v : Value), j < 8 → (wvs s.list).toArray[j]? = some v → ∀ W, (Instr.index 55 (.agg (wvs s.list).toArray) (.int .i64 (j : Int))).run Tryd.prog W = .ok v W := fun j v hj hv W =>
        run_index_row W 55 42 8 Tryd.underlying55 hj0 ht0 (by kernel_rfl) _ .i64 j v hj hv
      have HJX := Lib.hid hjx
      clear hM3 fin hjx hj0 ht0 HIX HRR HN HH hT2 HSZ HZ HONE kw kb HS HM2
      go_loopw [133] (fun i wr => ∃ k : Nat, k ≤ 8 ∧ i = .int .i64 k ∧ Hid (Row wr b 59 (acells st s k blk fill many)) ∧ Keeps (fun k => k = b) w wr) (fun i _ => 8 - (intOf i).toNat)
      case atStart => exact ⟨0, by omega, rfl, HM3, k3⟩
      case round =>
        clear HM3 k3
        obtain ⟨k, hk, rfl, HM, hkp⟩ := hrel
        by_cases hlt : k < 8
        · obtain ⟨x, hx⟩ := isAt_list st k hlt
          obtain ⟨y, hy⟩ := isAt_list s k hlt
          have hin := HJX.out k _ hlt (listAt hy)
          have HIN := Lib.hid hin
          clear hin
          go_wp2_with (refine wpList_index_run (by rfl) 55 (.tmp 132) (.tmp 133) (by rfl) (.agg (wvs s.list).toArray) (.int .i64 (k : Int)) (.int .u32 (wi y)) (by rfl) (by rfl) (HIN.out _) ?_)
          clear HIN
          have hc : wr.cell? ⟨b, k, none⟩ = some (.int .u32 (wi x)) := by rw [HM.out.cell, acells_at hlt hx]
          have hf := HM.out.frozen k
          have l0 : (0 : Int) ≤ (k : Int) := by omega
          have l8 : (k : Int) < 8 := by omega
          go_region
          go_wp2
          go_roundw
          case rel =>
            go_light
            refine ⟨k + 1, by omega, by go_num, Lib.hid ?_, ?_⟩
            · rw [wi_add', ← acells_set hlt hx hy]
              exact HM.out.drew.set k _
            · exact hkp.drew.setCell (fun _ => rfl) _
          case measure => simp [intOf]; omega
        · have ek : k = 8 := by omega
          rw [ek] at HM
          have hm : acells st s 8 blk fill many = mcells (Sh.comp st blk) blk fill many := by rw [← FIN.out]; rfl
          rw [hm] at HM
          clear hm
          go_wp2
          go_end0
          exact ⟨rfl, ⟨HL.out, hb1, HM.out⟩, hkp⟩
end Go.Proofs.YtgbajlmcoghofaaDoor
