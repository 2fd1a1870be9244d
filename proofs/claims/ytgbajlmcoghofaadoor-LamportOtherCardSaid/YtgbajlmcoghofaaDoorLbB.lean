/-
  Halves as a row of hashes. WRITTEN BY wip/gen/mklbb.py.
-/
import Derived.Test.YtgbajlmcoghofaaDoorLbA
import Derived.Test.YtgbajlmcoghofaaDoorOwnL
import Derived.Laws.OwnMore
namespace Go.Proofs.YtgbajlmcoghofaaDoor
open Go.RowKit Go.BigFrame
set_option linter.unusedVariables false

/-- So many values are laid from a place on. -/
theorem fold_at : ∀ (R : List Value) (n off : Nat) (cs : Array Value), off + n + R.length ≤ cs.size → (R.zipIdx n).foldl (fun cs (p : Value × Nat) => cs.setIfInBounds (off + p.2) p.1) cs = (cs.toList.take (off + n) ++ R ++ cs.toList.drop (off + n + R.length)).toArray
  | [], n, off, cs, h => by simp
  | c :: R, n, off, cs, h => by
    simp only [List.length_cons] at h
    rw [List.zipIdx_cons, List.foldl_cons, fold_at R (n + 1) off _ (by simp; omega)]
    have hk : off + n < cs.toList.length := by simp; omega
    congr 1
    rw [Array.toList_setIfInBounds, show off + (n + 1) = off + n + 1 by omega, List.take_succ_eq_append_getElem (by simpa using hk), List.take_set_of_le (Nat.le_refl _), List.getElem_set_self, List.drop_set_of_lt (by omega), List.length_cons, show off + n + 1 + R.length = off + n + (R.length + 1) by omega]
    simp
theorem run_buildSlice_two {P : Program} (w : World) (t e : TypeId) {i : TypeInfo} (ht : P.underlying t = some (.slice e)) (hi : P.info? e = some i) (X Y : Array Value) (hX : X.size = i.size) (hY : Y.size = i.size) (h0 : 0 < i.size) (h1 : i.size ≤ 1000000) (z : Value) (hz : (zeroValue e).run P w = .ok z w) :
    (Instr.buildSlice t 2 #[(0, .agg X), (1, .agg Y)]).run P w = .ok (.slice (some ⟨w.heap.size, 0, none⟩) 2 2) (w.alloc (.cells (X.toList ++ Y.toList).toArray e)) := by
  obtain ⟨zc, hzc⟩ : ∃ zc, z.cells = zc := ⟨_, rfl⟩
  obtain ⟨c0, hc0⟩ : ∃ c0, (Array.range (2 * i.size)).map (fun j => zc[j % zc.size]!) = c0 := ⟨_, rfl⟩
  have hs0 : c0.size = 2 * i.size := by rw [← hc0]; simp
  have f1 : (Array.foldl (fun cs (p : Value × Nat) => cs.setIfInBounds (0 * i.size + p.2) p.1) c0 X.zipIdx) = (X.toList ++ c0.toList.drop i.size).toArray := by
    rw [← Array.foldl_toList, Array.toList_zipIdx, fold_at X.toList 0 (0 * i.size) c0 (by simp [hX, hs0]; omega)]
    simp [hX]
  have hs1 : ((X.toList ++ c0.toList.drop i.size).toArray).size = 2 * i.size := by simp [hX, hs0]; omega
  have f2 : (Array.foldl (fun cs (p : Value × Nat) => cs.setIfInBounds (1 * i.size + p.2) p.1) ((X.toList ++ c0.toList.drop i.size).toArray) Y.zipIdx) = (X.toList ++ Y.toList).toArray := by
    rw [← Array.foldl_toList, Array.toList_zipIdx, fold_at Y.toList 0 (1 * i.size) _ (by rw [hs1]; simp [hY]; omega)]
    have e1 : (X.toList ++ c0.toList.drop i.size).take i.size = X.toList := by rw [List.take_left' (by simp [hX])]
    have e2 : (X.toList ++ c0.toList.drop i.size).drop (i.size + i.size) = [] := List.drop_of_length_le (by simp [hX, hs0]; omega)
    simp only [Nat.one_mul, Nat.add_zero, Array.length_toList, hY, e1, e2, List.append_nil]
  have hf : Instr.fill (fun j => some (j * i.size, i.size)) c0 [(0, .agg X), (1, .agg Y)] = some (X.toList ++ Y.toList).toArray := by
    have hcx : (Value.agg X).cells = X := rfl
    have hcy : (Value.agg Y).cells = Y := rfl
    have g1 : (decide (X.size ≠ i.size) || decide (0 * i.size + X.size > c0.size)) = false := by simp [hX, hs0]; omega
    have g2 : (decide (Y.size ≠ i.size) || decide (1 * i.size + Y.size > (X.toList ++ c0.toList.drop i.size).toArray.size)) = false := by rw [hs1]; simp [hY]; omega
    unfold Instr.fill
    simp only [hcx]
    rw [if_neg (by rw [g1]; decide), f1]
    unfold Instr.fill
    simp only [hcy]
    rw [if_neg (by rw [g2]; decide), f2]
    rfl
  have h2 : ¬ 2 * i.size > 2 ^ 24 := by omega
  have h3 : ¬ 2 * i.size = 0 := by omega
  have hsize : (sizeOf e).run P w = .ok i.size w := by simp [sizeOf, typeInfo, hi]
  have hu : (underlying t).run P w = .ok (.slice e) w := run_underlying ht w
  unfold Instr.buildSlice
  simp only [Sem.run_bind, hu, Result.andThen_ok, hsize, Sem.run_ite, if_neg h2, if_neg h3, Sem.run_pure, hz, hzc, hc0, hf, newRow, run_newObj]
  rfl
theorem wpList_built_two {P : Program} {ops : Array Oper} {rest : List Oper} {o : Oper} {a : Act} {w w' : World} {Q : Exit → Act → World → Prop} (hgd : o.guard = none) (t : TypeId) (n : Nat) (x y : Operand) (ho : o.op = .buildSlice t n #[(0, x), (1, y)])
    (u1 u2 v : Value) (hx : a.eval x = u1) (hy : a.eval y = u2) (hrun : (Instr.buildSlice t n #[(0, u1), (1, u2)]).run P w = .ok v w') (h : wpList P ops Q rest (a.put o.dst v) w') : wpList P ops Q (o :: rest) a w := by
  refine wpList_plain hgd fun _ hK => ?_
  unfold Oper.wp execOp
  simp only [ho, Sem.run_bind, Sem.run_pure, Result.andThen_ok, List.map_toArray, List.map_cons, List.map_nil, hx, hy, hrun]
  exact hK _ _ h
theorem wpList_built_one {P : Program} {ops : Array Oper} {rest : List Oper} {o : Oper} {a : Act} {w w' : World} {Q : Exit → Act → World → Prop} (hgd : o.guard = none) (t : TypeId) (n m : Nat) (x : Operand) (ho : o.op = .buildSlice t n #[(m, x)])
    (u v : Value) (hx : a.eval x = u) (hrun : (Instr.buildSlice t n #[(m, u)]).run P w = .ok v w') (h : wpList P ops Q rest (a.put o.dst v) w') : wpList P ops Q (o :: rest) a w := by
  refine wpList_plain hgd fun _ hK => ?_
  unfold Oper.wp execOp
  simp only [ho, Sem.run_bind, Sem.run_pure, Result.andThen_ok, List.map_toArray, List.map_cons, List.map_nil, hx, hrun]
  exact hK _ _ h
theorem info_hash' : ∃ i z, Tryd.prog.info? 23 = some i ∧ i.zero = some z ∧ i.size = 32 ∧ i.bytes = 32 ∧ z.cells.size = 32 := by
  have h : (Tryd.prog.info? 23).map (fun i => (i.size, i.bytes, i.zero.map (·.cells.size))) = some (32, 32, some 32) := by kernel_rfl
  cases hq : Tryd.prog.info? 23 with
  | none => rw [hq] at h; cases h
  | some i =>
    rw [hq] at h
    injection h with h
    injection h with h1 h
    injection h with h2 h3
    cases hz : i.zero with
    | none => rw [hz] at h3; cases h3
    | some z => rw [hz] at h3; injection h3 with h3; exact ⟨i, z, rfl, hz, h1, h2, h3⟩
/-- A row of hashes of the call's own lies in a block. -/
theorem own_lies {w : World} {base n c : Nat} {A : Option Addr} {e : TypeId} {h : Nat → List UInt8} (ho : w.ownsRow base e 32 (.slice A n c) n (bvs (Lm.cat h n))) (hn : 0 < n) (hh : ∀ i, i < n → (h i).length = 32) :
    ∃ g, A = some ⟨g, 0, none⟩ ∧ base ≤ g ∧ n ≤ c ∧ c ≤ 9223372036854775807 ∧ ∀ j, j < n → w.rangeAt g (j * 32) (bvs (h j)) := by
  obtain ⟨_, hc1, hc2⟩ := own_cap ho
  rcases ho.2 with ⟨h1, h2⟩ | ⟨g, cap, cur, h1, h2, h3, _⟩
  · omega
  · injection h1 with h1 _ h4
    subst h1
    refine ⟨g, rfl, h2, hc1, hc2, fun j hj i v hv => ?_⟩
    have hi : i < 32 := by have := (List.getElem?_eq_some_iff.1 hv).1; rwa [bvs_length, hh j hj] at this
    have e := Lm.part_cat h n j hh hj
    rw [bvs_get, ← e] at hv
    unfold Lm.part at hv
    rw [List.getElem?_take, if_pos hi, List.getElem?_drop] at hv
    have hx : (bvs (Lm.cat h n))[j * 32 + i]? = some v := by rw [bvs_get, show j * 32 + i = 32 * j + i by omega]; exact hv
    have := ho.cells (g := g) rfl (j * 32 + i) v hx
    rw [add_plain, Nat.zero_add] at this
    exact this
set_option maxRecDepth 100000 in
set_option maxHeartbeats 2000000 in
theorem halves_any (h : Nat → List UInt8) (w : World) (hh : ∀ i, i < 128 → (h i).length = 32) :
    Calls Tryd.prog 11 #[.agg (bvs (Lm.cat h 128)).toArray] w fun e w' => ∃ A c, e = .returned (.slice A 128 c) ∧ w'.ownsRow w.heap.size 23 32 (.slice A 128 c) 128 (bvs (Lm.cat h 128)) ∧ Keeps (fun _ => False) w w' := by
  obtain ⟨i0, z0, hi, hz0, hz1, hz2, hz3⟩ := info_hash'
  obtain ⟨X, hX⟩ : ∃ X : Array Value, (bvs (Lm.cat h 128)).toArray = X := ⟨_, rfl⟩
  rw [hX]
  obtain ⟨B, hB⟩ : ∃ b, w.heap.size = b := ⟨_, rfl⟩
  obtain ⟨W1, hW1⟩ : ∃ V, w.alloc (.cells X 29) = V := ⟨_, rfl⟩
  have k1 : Keeps (fun _ => False) w W1 := by rw [← hW1]; exact (Keeps.refl _ _).alloc _
  have r1 : Row W1 B 29 (bvs (Lm.cat h 128)) := by rw [← hW1, ← hB]; show _ = some (Obj.cells (bvs _).toArray _ _); rw [hX]; exact heap_alloc_new w _
  have R1 := Lib.hid r1
  have K1 := Lib.hid k1
  have HH := Lib.hid hh
  have hBW : B < W1.heap.size := r1.lt
  have HI := Lib.hid (And.intro hi (And.intro hz0 (And.intro hz1 (And.intro hz2 hz3))))
  clear hX r1 k1 hh hi hz0 hz1 hz2 hz3
  go_enter Tryd.func11, Tryd.ntmps11
  go_wp2_with fail
  go_loopw [3, 4] (fun ov kv wr => ∃ (k : Nat) (A : Option Addr) (k2 c : Nat), k ≤ 64 ∧ Hid (k2 = 2 * k) ∧ kv = .int .i64 k ∧ ov = .slice A k2 c ∧ Hid (wr.ownsRow B 23 32 (.slice A k2 c) k2 (bvs (Lm.cat h k2))) ∧ Hid (Keeps (fun q => B < q ∧ W1.heap.size ≤ q) W1 wr)) (fun _ kv _ => 64 - (intOf kv).toNat)
  case atStart => exact ⟨0, none, 0, 0, by omega, Lib.hid rfl, rfl, rfl, Lib.hid (World.ownsRow_nil _ _ _ _), Lib.hid (Keeps.refl _ _)⟩
  case round =>
    obtain ⟨k, A, k2, c, hk, HK2, rfl, rfl, HO, HK⟩ := hrel
    have hk2 := HK2.out
    by_cases hlt : k < 64
    · have hki : (k : Int) < 64 := by omega
      have hk128 : k2 ≤ 126 := by omega
      obtain ⟨x, hx⟩ : ∃ x, h k2 = x := ⟨_, rfl⟩
      obtain ⟨y, hy⟩ : ∃ y, h (k2 + 1) = y := ⟨_, rfl⟩
      have hxl : x.length = 32 := by rw [← hx]; exact HH.out _ (by omega)
      have hyl : y.length = 32 := by rw [← hy]; exact HH.out _ (by omega)
      have hnext : bvs (Lm.cat h (k2 + 2)) = bvs (Lm.cat h k2) ++ (bvs x ++ bvs y) := by
        rw [show k2 + 2 = k2 + 1 + 1 by omega, Lm.cat_succ, Lm.cat_succ, hx, hy, bvs_append, bvs_append, List.append_assoc]
      have hR : Row wr B 29 (bvs (Lm.cat h 128)) := (R1.out : Row _ _ _ _).keeps HK.out (by omega)
      have mx : ∀ V, Later wr V → V.rangeAt B (k * 64) (bvs x) := fun V hV => by
        have h1 := sig_at (hR.keeps hV.out id) HH.out (show k2 < 128 by omega)
        rw [hx, show 32 * k2 = k * 64 by omega] at h1
        exact h1
      have my : ∀ V, Later wr V → V.rangeAt B (k * 64 + 32) (bvs y) := fun V hV => by
        have h1 := sig_at (hR.keeps hV.out id) HH.out (show k2 + 1 < 128 by omega)
        rw [hy, show 32 * (k2 + 1) = k * 64 + 32 by omega] at h1
        exact h1
      have sx : (Tryd.prog.info? 23).map (·.size) = some (bvs x).length := by rw [bvs_length, hxl]; exact size_hash'
      have sy : (Tryd.prog.info? 23).map (·.size) = some (bvs y).length := by rw [bvs_length, hyl]; exact size_hash'
      have hone : ∀ u ∈ bvs x ++ bvs y, u.oneCell' = true := by rw [bvs_append]; exact bvs_one _
      have hnl : (bvs x ++ bvs y).length = 2 * 32 := by rw [List.length_append, bvs_length, bvs_length, hxl, hyl]
      have hbt : ∀ V : World, (Instr.buildSlice 31 2 #[(0, .agg (bvs x).toArray), (1, .agg (bvs y).toArray)]).run Tryd.prog V = .ok (.slice (some ⟨V.heap.size, 0, none⟩) 2 2) (V.alloc (.cells (bvs x ++ bvs y).toArray 23)) := fun V =>
        run_buildSlice_two V 31 23 Tryd.underlying31 HI.out.1 _ _ (by rw [HI.out.2.2.1, List.size_toArray, bvs_length, hxl]) (by rw [HI.out.2.2.1, List.size_toArray, bvs_length, hyl]) (by rw [HI.out.2.2.1]; omega) (by rw [HI.out.2.2.1]; omega) _ (zero_hash V)
      obtain ⟨XL, hXL⟩ : ∃ L, bvs x = L := ⟨_, rfl⟩
      obtain ⟨YL, hYL⟩ : ∃ L, bvs y = L := ⟨_, rfl⟩
      rw [hXL] at mx sx
      rw [hYL] at my sy
      rw [hXL, hYL] at hbt hnext hone hnl
      have HX := Lib.hid mx
      have HY := Lib.hid my
      have SX := Lib.hid sx
      have SY := Lib.hid sy
      have HBT := Lib.hid hbt
      have HN := Lib.hid hnext
      have HONE := Lib.hid hone
      have HNL := Lib.hid hnl
      clear hx hy hxl hyl hnext hR mx my sx sy hbt hXL hYL hone hnl hk2
      go_wp2_with fail
      refine wp_region_phaseM 9 (Later wr) (by kernel_rfl) (by kernel_rfl) (⟨(Keeps.refl _ _).drew⟩) _ (.slice A k2 c) rfl (fun _ _ _ h => h) (.inl ⟨by rfl, fun _ => by go_simp⟩) ?_
      simp only [List.take_succ_cons, List.take_zero, List.drop_succ_cons, List.drop_zero, Act.put, List.setIfInBounds_toArray, List.set_cons_zero, List.set_cons_succ]
      refine class_value (by rfl) (.int .i64 (k : Int)) (fun V hV => by go_simp) ?_
      simp only [Act.put, List.setIfInBounds_toArray, List.set_cons_zero, List.set_cons_succ]
      refine class_value (by rfl) (.pointer (some ⟨B, k * 64, none⟩)) (fun V hV => by go_simp) ?_
      simp only [Act.put, List.setIfInBounds_toArray, List.set_cons_zero, List.set_cons_succ]
      refine class_value (by rfl) (.pointer (some ⟨B, k * 64, none⟩)) (fun V hV => by go_simp) ?_
      simp only [Act.put, List.setIfInBounds_toArray, List.set_cons_zero, List.set_cons_succ]
      refine class_mid (by rfl) 23 (.tmp 12) (by rfl) B (k * 64) (by rfl) XL _ (fun V hV => HX.out V hV) Tryd.underlying23 rfl SX.out ?_
      simp only [Act.put, List.setIfInBounds_toArray, List.set_cons_zero, List.set_cons_succ]
      refine class_value (by rfl) (.int .i64 (k : Int)) (fun V hV => by go_simp) ?_
      simp only [Act.put, List.setIfInBounds_toArray, List.set_cons_zero, List.set_cons_succ]
      refine class_value (by rfl) (.pointer (some ⟨B, k * 64, none⟩)) (fun V hV => by go_simp) ?_
      simp only [Act.put, List.setIfInBounds_toArray, List.set_cons_zero, List.set_cons_succ]
      refine class_value (by rfl) (.pointer (some ⟨B, k * 64 + 32, none⟩)) (fun V hV => by go_simp) ?_
      simp only [Act.put, List.setIfInBounds_toArray, List.set_cons_zero, List.set_cons_succ]
      refine class_mid (by rfl) 23 (.tmp 16) (by rfl) B (k * 64 + 32) (by rfl) YL _ (fun V hV => HY.out V hV) Tryd.underlying23 rfl SY.out ?_
      simp only [Act.put, List.setIfInBounds_toArray, List.set_cons_zero, List.set_cons_succ]
      refine wpQuiet_nil ?_
      intro w6 k6
      obtain ⟨G, hG⟩ : ∃ g, w6.heap.size = g := ⟨_, rfl⟩
      obtain ⟨W7, hW7⟩ : ∃ V, w6.alloc (.cells (XL ++ YL).toArray 23) = V := ⟨_, rfl⟩
      have hbt6 := HBT.out w6
      rw [hG, hW7] at hbt6
      have k67 : Keeps (fun _ => False) w6 W7 := by rw [← hW7]; exact (Keeps.refl _ _).alloc _
      have kr7 := k6.out.trans k67
      have g7 : W7.heap[G]? = some (.cells (XL ++ YL).toArray 23 (0, 0)) := by rw [← hW7, ← hG]; exact heap_alloc_new w6 _
      have own7 : W7.ownsRow B 23 32 (.slice A k2 c) k2 (bvs (Lm.cat h k2)) := kr7.owns HO.out (fun _ _ => id)
      have new7 : W7.ownsRow 0 23 32 (.slice (some ⟨G, 0, none⟩) 2 2) 2 (XL ++ YL) := own_fresh g7 (Nat.zero_le _) HNL.out (by unfold maxLen; omega)
      have hB7 : B ≤ W7.heap.size := Nat.le_trans (Nat.le_of_lt hBW) (Nat.le_trans HK.out.size kr7.size)
      have HBT6 := Lib.hid hbt6
      have O7 := Lib.hid own7
      have N7 := Lib.hid new7
      have HB7 := Lib.hid hB7
      have KR7 := Lib.hid kr7
      clear hbt6 k67 kr7 g7 own7 new7 hB7 k6 HX HY SX SY HBT hW7 hG
      go_wp2_with (first
        | (refine wpList_built_two rfl 31 2 (.tmp 13) (.tmp 17) rfl (.agg XL.toArray) (.agg YL.toArray) _ rfl rfl HBT6.out ?_)
        | (refine wpList_append_hashes rfl (.tmp 9) (.tmp 18) 31 rfl B 23 i0 z0 32 32 Tryd.underlying31 HI.out.1 HI.out.2.1 HI.out.2.2.1 HI.out.2.2.2.1 HI.out.2.2.2.2 (by omega) (.slice A k2 c) k2 (bvs (Lm.cat h k2)) rfl O7.out (.slice (some ⟨G, 0, none⟩) 2 2) 2 (XL ++ YL) 0 rfl N7.out HONE.out (by unfold maxLen; omega) (by omega) HB7.out ?_))
      intro v' w8 hown hgr
      obtain ⟨A2, c2, rfl⟩ := own_slice hown
      rw [← HN.out] at hown
      have k8 : Keeps (fun q => B < q ∧ W1.heap.size ≤ q) W1 w8 := by
        refine (HK.out.trans' KR7.out (fun _ _ h => h.elim)).grown hgr (fun q hq hrow => ?_)
        exfalso
        obtain ⟨cur, hcur, hle⟩ := own_block O7.out q hrow
        have hB1 : B ≠ q := fun e => by
          have hb := ((HK.out.trans' KR7.out (fun _ _ h => h.elim)).block B hBW (by omega)).trans R1.out
          subst e
          rw [hb] at hcur
          injection hcur with hcur
          injection hcur with _ ht _
          exact absurd ht (by decide)
        rw [← hW1] at hq
        simp at hq
        omega
      have HO8 := Lib.hid hown
      have HK8 := Lib.hid k8
      clear hown hgr k8 O7 N7 HBT6 HB7 KR7 HK HO HONE HNL HN
      go_wp2
      go_roundw
      case rel => exact ⟨k + 1, A2, k2 + 2, c2, by omega, Lib.hid (by have := HK2.out; omega), by go_num, rfl, HO8, HK8⟩
      case measure => simp [intOf]; omega
    · obtain rfl : k = 64 := by omega
      obtain rfl : k2 = 128 := by omega
      clear HK2 hk2
      have KF : Hid (Keeps (fun _ => False) w wr) := Lib.hid (K1.out.trans' HK.out (fun i hi h => by omega))
      have HOF := HO
      clear HK
      go_wp2
      go_ret
      exact ⟨A, c, rfl, by rw [hB]; exact HOF.out, KF.out⟩
end Go.Proofs.YtgbajlmcoghofaaDoor
