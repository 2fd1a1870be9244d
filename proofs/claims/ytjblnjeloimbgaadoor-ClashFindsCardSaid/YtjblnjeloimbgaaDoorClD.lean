/-
  Rows are gathered by a closure (clash.gathering); what one goes down by (clash.steps, slices.Reverse). WRITTEN BY wip/gen/mkcld.py.
-/
import Derived.Test.YtjblnjeloimbgaaDoorClC
import Derived.Test.YtjblnjeloimbgaaDoorTrB
namespace Go.Proofs.YtjblnjeloimbgaaDoor
open Go.RowKit Go.BigFrame
set_option linter.unusedVariables false

section
variable {P : Program} {ops : Array Oper} {B : World → Prop} {ls : List Nat} {E : Act → World → Prop} {k : Nat} {o : Oper} {rest : List Nat} {a : Act} {F : World → Prop}
/-- Something is appended to a row of the call's own. -/
theorem T_append_own (h0 : ops[k]? = some o) (hw : Region.wanted o (yielded ops a.tmps) = true) (hk : ls.contains k = true) (t : TypeId) (s x : Operand) (ho : o.op = .call { callee := .builtin .append, args := #[s, x], argTypes := #[t, t] })
    (base : Nat) (e : TypeId) (i : TypeInfo) (z : Value) (size bytes : Nat) (ht : P.underlying t = some (.slice e)) (hi : P.info? e = some i) (hz : i.zero = some z) (hsize : i.size = size) (hby : i.bytes = bytes) (hzs : z.cells.size = size) (hsz : 0 < size)
    (v : Value) (n : Nat) (xs : List Value) (hs : a.eval s = v) (ad : Addr) (m c : Nat) (news : List Value) (hx : a.eval x = .slice (some ad) m c) (hl : news.length = m * size) (h1 : ∀ u ∈ news, u.oneCell' = true)
    (h63 : n + m ≤ maxLen) (hbytes : (n + m) * bytes ≤ 140737488355328) (hc : ∀ w, B w → F w → w.ownsRow base e size v n xs ∧ (∀ j u, news[j]? = some u → w.cell? (ad.add j) = some u) ∧ base ≤ w.heap.size) (hB : ∀ w w', B w → w.grownBy w' v.ownBlock → B w')
    (h : ∀ v', wpT P ops B ls E rest (a.put o.dst v') (fun w => w.ownsRow base e size v' (n + m) (xs ++ news))) : wpT P ops B ls E (k :: rest) a F := by
  refine T_loose h0 hw hk (fun u => True) (fun u w => w.ownsRow base e size u (n + m) (xs ++ news)) ⟨fun u w w' hq hk => hk.owns hq (fun _ _ => id), fun w hb hf => ?_⟩ (fun u _ => h u)
  obtain ⟨c1, c2, c3⟩ := hc w hb hf
  obtain ⟨v', w', hr, h2, h3, _⟩ := run_append_own (P := P) w base t o.type e i z size bytes ht hi hz hsize hby hzs hsz v n xs c1 ad m c news hl c2 h1 h63 hbytes c3
  unfold execOp
  simp only [ho, resolve, invoke, builtin, Sem.run_bind, Sem.run_pure, Result.andThen_ok, List.map_toArray, List.map_cons, List.map_nil, hs, hx, hr]
  exact ⟨hB w w' hb h3, trivial, h2⟩
end
/-- What the closure sees: the variable of the rows, by its pointer, and the width. -/
structure Gath (w : World) (B Bp Bw : Nat) (wide : Int) : Prop where
  ptr : Row w Bp 71 [.pointer (some ⟨B, 0, none⟩)]
  wid : Row w Bw 3 [.int .i64 wide]
theorem Gath.keeps {S : Nat → Prop} {w w' : World} {B Bp Bw : Nat} {wide : Int} (h : Gath w B Bp Bw wide) (hk : Keeps S w w') (h1 : ¬ S Bp) (h2 : ¬ S Bw) : Gath w' B Bp Bw wide := ⟨h.ptr.keeps hk h1, h.wid.keeps hk h2⟩
theorem gathering_any (wide : Int) (B : Nat) (w : World) : Calls Tryd.prog 32 #[.int .i64 wide, .pointer (some ⟨B, 0, none⟩)] w fun e w' =>
    ∃ Bp Bw, e = .returned (.func (.func 41) #[] #[.pointer (some ⟨Bp, 0, none⟩), .pointer (some ⟨Bw, 0, none⟩)]) ∧ Gath w' B Bp Bw wide ∧ w.heap.size ≤ Bp ∧ w.heap.size ≤ Bw ∧ Keeps (fun _ => False) w w' := by
  obtain ⟨W1, hW1⟩ : ∃ W, w.alloc (.cells #[.int .i64 wide] 3) = W := ⟨_, rfl⟩
  obtain ⟨W2, hW2⟩ : ∃ W, W1.alloc (.cells #[.pointer (some ⟨B, 0, none⟩)] 71) = W := ⟨_, rfl⟩
  have k1 : Keeps (fun _ => False) w W1 := by rw [← hW1]; exact (Keeps.refl _ _).alloc _
  have k2 : Keeps (fun _ => False) W1 W2 := by rw [← hW2]; exact (Keeps.refl _ _).alloc _
  have r1 : Row W1 w.heap.size 3 [.int .i64 wide] := by rw [← hW1]; exact heap_alloc_new w _
  have r2 : Row W2 W1.heap.size 71 [.pointer (some ⟨B, 0, none⟩)] := by rw [← hW2]; exact heap_alloc_new W1 _
  have hres : Gath W2 B W1.heap.size w.heap.size wide := ⟨r2, r1.keeps k2 id⟩
  have HRES := Lib.hid hres
  have K2 := Lib.hid (k1.trans k2)
  have HS := Lib.hid k1.size
  clear r1 r2 k1 k2 hres
  go_enter Tryd.func32, Tryd.ntmps32
  go_wp2
  go_ret
  exact ⟨_, _, rfl, HRES.out, HS.out, Nat.le_refl _, K2.out⟩
theorem info_st : (Tryd.prog.info? 23).map (fun i => (i.zero, i.size, i.bytes)) = some (some (.slice none 0 0), 1, 24) := by kernel_rfl
set_option maxRecDepth 100000 in
set_option maxHeartbeats 2000000 in
/-- A row is hashed, and gathered. -/
theorem gath_any (base B Bp Bw : Nat) (wide : Int) (v : Value) (n : Nat) (xs : List Value) (A : Option Addr) (c : Nat) (row : List UInt8) (w : World) (hT : Tabs w) (hG : Gath w B Bp Bw wide) (hB : Row w B 51 [v]) (hO : w.ownsRow base 23 1 v n xs)
    (hb0 : 2 < base) (hb1 : base ≤ B) (hn : n ≤ 1000) (hs : Src w A (bvs row)) (hT8 : T8 w A) (hc : row.length ≤ c) (hc1 : c ≤ 9223372036854775807) (hx : row.length ≤ 1000) :
    Calls Tryd.prog 41 #[(.slice A row.length c), .pointer (some ⟨Bp, 0, none⟩), .pointer (some ⟨Bw, 0, none⟩)] w fun e w' => e = .returned (.agg (bvs (Cl.nar (Cl.wid wide) row)).toArray) ∧
      (∃ v', Row w' B 51 [v'] ∧ w'.ownsRow base 23 1 v' (n + 1) (xs ++ [(.slice A row.length c)])) ∧ Keeps (fun k => k = B ∨ v.ownBlock = some k) w w' := by
  obtain ⟨Z, hZ, hz, hzs⟩ := zero_hash
  have hbw : base ≤ w.heap.size := Nat.le_of_lt (Nat.lt_of_le_of_lt hb1 hB.lt)
  obtain ⟨W1, hW1⟩ : ∃ V, w.alloc (.cells Z 26) = V := ⟨_, rfl⟩
  have k1 : Keeps (fun _ => False) w W1 := by rw [← hW1]; exact (Keeps.refl _ _).alloc _
  have r1 : W1.heap[w.heap.size]? = some (.cells Z 26 (0, 0)) := by rw [← hW1]; exact heap_alloc_new w _
  have apB : ∀ k, v.ownBlock = some k → k ≠ B := own_apart hO hB (by decide)
  have apP : ∀ k, v.ownBlock = some k → k ≠ Bp := own_apart hO hG.ptr (by decide)
  have apW : ∀ k, v.ownBlock = some k → k ≠ Bw := own_apart hO hG.wid (by decide)
  have neP : Bp ≠ B := fun e => by
    have h1 := hG.ptr
    rw [e] at h1
    have h2 := h1.symm.trans hB
    injection h2 with h2
    injection h2 with _ h2
    exact absurd h2 (by decide)
  have neW : Bw ≠ B := fun e => by
    have h1 := hG.wid
    rw [e] at h1
    have h2 := h1.symm.trans hB
    injection h2 with h2
    injection h2 with _ h2
    exact absurd h2 (by decide)
  have hA : ∀ a, A = some a → a.block ≠ B ∧ v.ownBlock ≠ some a.block := fun a ha => by
    obtain ⟨cs, fr, h8⟩ := hT8 a ha
    refine ⟨fun e => ?_, fun e => ?_⟩
    · rw [e, hB] at h8
      injection h8 with h8
      injection h8 with _ h8
      exact absurd h8 (by decide)
    · obtain ⟨cur, hc, _⟩ := own_block hO _ e
      rw [hc] at h8
      injection h8 with h8
      injection h8 with _ h8
      exact absurd h8 (by decide)
  have olt : ∀ k, v.ownBlock = some k → base ≤ k ∧ k < w.heap.size := hO.lt
  have HP : Hid (∀ V, Keeps (fun k => v.ownBlock = some k) W1 V → V.cell? ⟨Bp, 0, none⟩ = some (.pointer (some ⟨B, 0, none⟩))) := Lib.hid (fun V hV => ((hG.ptr.keeps k1 id).keeps hV (fun e => apP _ e rfl)).cell 0)
  have HBR : Hid (∀ V, Keeps (fun k => v.ownBlock = some k) W1 V → Row V B 51 [v]) := Lib.hid (fun V hV => (hB.keeps k1 id).keeps hV (fun e => apB _ e rfl))
  have HBC : Hid (∀ V, Keeps (fun k => v.ownBlock = some k) W1 V → V.cell? ⟨B, 0, none⟩ = some v) := Lib.hid (fun V hV => (HBR.out V hV).cell 0)
  have HO : Hid (W1.ownsRow base 23 1 v n xs) := Lib.hid (k1.owns hO (fun _ _ => id))
  obtain ⟨i0, hi0, hi1⟩ := info_parts info_st
  have HI : Hid (Tryd.prog.info? 23 = some i0 ∧ i0.zero = some (.slice none 0 0) ∧ i0.size = 1 ∧ i0.bytes = 24) := Lib.hid ⟨hi0, hi1⟩
  obtain ⟨l, hl⟩ : ∃ l, row.length = l := ⟨_, rfl⟩
  have HBS : Hid (∀ W : World, (Instr.buildSlice 51 1 #[(0, .slice A l c)]).run Tryd.prog W = .ok (.slice (some ⟨W.heap.size, 0, none⟩) 1 1) (W.alloc (.cells #[.slice A l c] 23))) := Lib.hid (fun W => by go_simp)
  have HBS2 : Hid (base ≤ W1.heap.size) := Lib.hid (Nat.le_trans hbw k1.size)
  have hlt := hB.lt
  have hGP := hG.ptr.lt
  have hGW := hG.wid.lt
  -- behind the store
  have hlate : ∀ V v', Keeps (fun k => v.ownBlock = some k) W1 V → V.ownsRow base 23 1 v' (n + 1) (xs ++ [.slice A l c]) →
      Row (V.setCell ⟨B, 0, none⟩ v') B 51 [v'] ∧ (V.setCell ⟨B, 0, none⟩ v').ownsRow base 23 1 v' (n + 1) (xs ++ [.slice A l c]) ∧ (V.setCell ⟨B, 0, none⟩ v').cell? ⟨Bw, 0, none⟩ = some (.int .i64 wide) ∧ Keeps (fun k => k = B ∨ v.ownBlock = some k) w (V.setCell ⟨B, 0, none⟩ v') ∧
      Calls Tryd.prog 21 #[.int .i64 wide, .slice A l c] (V.setCell ⟨B, 0, none⟩ v') (fun e w' => e = .returned (.agg (bvs (Cl.nar (Cl.wid wide) row)).toArray) ∧ Keeps (fun _ => False) (V.setCell ⟨B, 0, none⟩ v') w') ∧
      (V.setCell ⟨B, 0, none⟩ v').heap[w.heap.size]? = some (.cells Z 26 (0, 0)) := fun V v' hV hO' => by
    have hks : Keeps (fun k => k = B) V (V.setCell ⟨B, 0, none⟩ v') := (Keeps.refl (fun k => k = B) V).setCell (p := ⟨B, 0, none⟩) (fun _ => rfl) v'
    have hkv : Keeps (fun k => k = B ∨ v.ownBlock = some k) w V := (k1.mono (fun _ _ h => h.elim)).trans (hV.mono (fun _ _ h => .inr h))
    have hkk : Keeps (fun k => k = B ∨ v.ownBlock = some k) w (V.setCell ⟨B, 0, none⟩ v') := hkv.trans (hks.mono (fun _ _ h => .inl h))
    have ap' : ∀ k, v'.ownBlock = some k → k ≠ B := own_apart hO' (HBR.out V hV) (by decide)
    refine ⟨by simpa using (HBR.out V hV).set 0 v', hks.owns hO' (fun k hk e => ap' k hk e), ?_, hkk, ?_, ?_⟩
    · exact (hG.wid.keeps hkk (fun e => by rcases e with e | e; exact neW e; exact apW _ e rfl)).cell 0
    · have hsr : Src (V.setCell ⟨B, 0, none⟩ v') A (bvs row) := hs.keeps hkk (fun a ha _ e => by rcases e with e | e; exact (hA a ha).1 e; exact (hA a ha).2 e)
      have h := narrow_any wide A c row _ (hT.keeps hkk (fun e => by rcases e with e | e; omega; have := olt _ e; omega) (fun e => by rcases e with e | e; omega; have := olt _ e; omega)) hsr hc hc1 (by omega)
      rw [hl] at h
      exact h
    · exact (hks.block _ (Nat.lt_of_lt_of_le (Array.getElem?_eq_some_iff.1 r1).1 hV.size) (by omega)).trans ((hV.block _ (Array.getElem?_eq_some_iff.1 r1).1 (fun e => by have := (olt _ e).2; omega)).trans r1)
  have HLATE := Lib.hid hlate
  obtain ⟨sn, zn, on⟩ := arr_hash (Cl.nar (Cl.wid wide) row) (Cl.nar_length _ _)
  obtain ⟨R, hR⟩ : ∃ R, (bvs (Cl.nar (Cl.wid wide) row)).toArray = R := ⟨_, rfl⟩
  rw [hR] at sn zn on HLATE ⊢
  have SN := Lib.hid sn
  have ZN := Lib.hid (hzs.trans zn.symm)
  have ON := Lib.hid on
  rw [hl]
  clear hlate hR sn zn on hZ hzs hi0 hi1 apB apP apW neP neW olt hT hG hB hO hs hA hT8 r1 k1 hc hc1 hl hx
  go_enter Tryd.func41, Tryd.ntmps41
  go_wp2_with fail
  refine wp_region_stores 8 [5, 6] [0, 1, 2, 3, 4, 5, 6, 7] (fun V => Keeps (fun k => v.ownBlock = some k) W1 V) (fun V => V.ownsRow base 23 1 v n xs) (by kernel_rfl) (by kernel_rfl) (fun _ _ h k => h.trans' k (fun _ _ h => h.elim)) (fun _ _ h k => k.owns h (fun _ _ => id)) (((Keeps.refl _ _).drew)) (HO.out) ?_
  refine T_cell (get_op rfl) (by rfl) (by rfl) 71 (.tmp 1) (by rfl) ⟨Bp, 0, none⟩ (by rfl) (.pointer (some ⟨B, 0, none⟩)) _ (fun V hV => HP.out V hV) Tryd.underlying71 rfl ?_
  simp only [Act.put, List.setIfInBounds_toArray, List.set_cons_zero, List.set_cons_succ]
  refine T_cell (get_op rfl) (by rfl) (by rfl) 71 (.tmp 1) (by rfl) ⟨Bp, 0, none⟩ (by rfl) (.pointer (some ⟨B, 0, none⟩)) _ (fun V hV => HP.out V hV) Tryd.underlying71 rfl ?_
  simp only [Act.put, List.setIfInBounds_toArray, List.set_cons_zero, List.set_cons_succ]
  refine T_value (get_op rfl) (by rfl) (by rfl) (.pointer (some ⟨B, 0, none⟩)) (fun _ _ => by go_simp) ?_
  simp only [Act.put, List.setIfInBounds_toArray, List.set_cons_zero, List.set_cons_succ]
  refine T_cell (get_op rfl) (by rfl) (by rfl) 51 (.tmp 7) (by rfl) ⟨B, 0, none⟩ (by rfl) v _ (fun V hV => HBC.out V hV) Tryd.underlying51 rfl ?_
  simp only [Act.put, List.setIfInBounds_toArray, List.set_cons_zero, List.set_cons_succ]
  refine T_value (get_op rfl) (by rfl) (by rfl) (.slice A l c) (fun _ _ => by go_simp) ?_
  simp only [Act.put, List.setIfInBounds_toArray, List.set_cons_zero, List.set_cons_succ]
  refine T_build (get_op rfl) (by rfl) (by rfl) 51 23 (.tmp 9) (.slice A l c) #[.slice A l c] (by rfl) (by rfl) HBS.out (fun _ _ h k => h.trans' k (fun _ _ h => h.elim)) (fun _ _ h k => k.owns h (fun _ _ => id)) W1.heap.size (fun V hV => hV.size) ?_
  intro g10 hg10
  simp only [Act.put, List.setIfInBounds_toArray, List.set_cons_zero, List.set_cons_succ]
  refine T_append_own (get_op rfl) (by rfl) (by rfl) 51 (.tmp 8) (.tmp 10) (by rfl) base 23 i0 (.slice none 0 0) 1 24 Tryd.underlying51 HI.out.1 HI.out.2.1 HI.out.2.2.1 HI.out.2.2.2 rfl (by decide) v n xs (by rfl) ⟨g10, 0, none⟩ 1 1 [.slice A l c] (by rfl) rfl (fun u hu => by rw [List.mem_singleton] at hu; subst hu; rfl) (by unfold maxLen; omega) (by omega) (fun V hb hf => ⟨hf.1, World.news_of_block hf.2, Nat.le_trans HBS2.out hb.size⟩) (fun V V' hb hg => hb.grown hg (fun k _ e => e)) ?_
  intro v11
  simp only [Act.put, List.setIfInBounds_toArray, List.set_cons_zero, List.set_cons_succ]
  refine T_value (get_op rfl) (by rfl) (by rfl) (.pointer (some ⟨B, 0, none⟩)) (fun _ _ => by go_simp) ?_
  simp only [Act.put, List.setIfInBounds_toArray, List.set_cons_zero, List.set_cons_succ]
  refine T_nil ?_
  intro V h8 f8
  simp only [List.drop_succ_cons, List.drop_zero]
  obtain ⟨A11, c11, rfl⟩ := own_slice f8
  obtain ⟨l1, l2, l3, l4, l5, l6⟩ := HLATE.out V _ h8 f8
  have hcB := HBC.out V h8
  have hfB := (HBR.out V h8).frozen 0
  obtain ⟨V2, hV2⟩ : ∃ X, V.setCell ⟨B, 0, none⟩ (.slice A11 (n + 1) c11) = X := ⟨_, rfl⟩
  rw [hV2] at l1 l2 l3 l4 l5 l6
  have L1 := Lib.hid l1
  have L2 := Lib.hid l2
  have L4 := Lib.hid l4
  have L5 := Lib.hid l5
  have L6 := Lib.hid l6
  clear l1 l2 l4 l5 l6 HLATE h8 f8 HI HBS HBS2 HP HBR HBC HO
  go_wp2_with fail
  refine L5.out.mono ?_
  rintro e w9 ⟨rfl, k9⟩
  have R9 := Lib.hid ((k9.block _ (Array.getElem?_eq_some_iff.1 L6.out).1 id).trans L6.out)
  have K9 := Lib.hid (L4.out.trans' k9 (fun _ _ h => h.elim))
  have B9 := Lib.hid (L1.out.keeps k9 id)
  have O9 := Lib.hid (k9.owns L2.out (fun _ _ => id))
  clear k9 L5 L6 L4 L1 L2
  go_wp2_with (refine wpList_store_row rfl 26 _ _ rfl w.heap.size R rfl rfl 26 Z R9.out SN.out ZN.out ON.out ?_)
  refine bodyPost_ret (results_cell_row rfl _ _ w.heap.size 26 R (0, 0) _ rfl (setRow_heap _ _ _ _ _ _ R9.out) Tryd.underlying26 rfl SN.out) rfl ?_
  have kf := Keeps.setRow (w := w9) w.heap.size R
  have own9 := O9.out.lt
  refine ⟨rfl, ⟨_, B9.out.keeps kf (by omega), kf.owns O9.out (fun k hk e => ?_)⟩, K9.out.trans' kf (fun i hi e => by omega)⟩
  exact own_apart (t := 26) O9.out R9.out (by decide) k hk e
end Go.Proofs.YtjblnjeloimbgaaDoor
