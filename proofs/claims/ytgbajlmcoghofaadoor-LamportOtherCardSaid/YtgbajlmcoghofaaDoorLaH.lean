/-
  The document's example of layer 7 holds: 'awake' returns true, and leaves all that was as it was. WRITTEN BY wip/gen/mklah.py.
-/
import Derived.Test.YtgbajlmcoghofaaDoorLaG
import Derived.Test.YtgbajlmcoghofaaDoorEvC
import Derived.Test.YtgbajlmcoghofaaDoorWalkT
import Derived.Lib.SlBytesConst
namespace Go.Proofs.YtgbajlmcoghofaaDoor
open Go.RowKit Go.BigFrame
set_option linter.unusedVariables false

theorem info_u8v : (Tryd.prog.info? 5).map (fun i => (i.zero, i.size, i.bytes)) = some (some (.int .u8 0), 1, 1) := by kernel_rfl
/-- Two hashes are held against one another. -/
theorem eq_hash (x y : List UInt8) (hx : x.length = 32) (hy : y.length = 32) (W : World) : (binOp .eql 23 (.agg (bvs x).toArray) (.agg (bvs y).toArray)).run Tryd.prog W = .ok (.bool (x == y)) W := by
  obtain ⟨i0, hi, _⟩ := info_parts info_u8v
  rw [run_eql_bytes W 23 5 32 Tryd.underlying23 Tryd.underlying5 hi (by kernel_rfl) (by kernel_rfl) x y hx hy]
theorem ne_hash (x y : List UInt8) (hx : x.length = 32) (hy : y.length = 32) (W : World) : (binOp .neq 23 (.agg (bvs x).toArray) (.agg (bvs y).toArray)).run Tryd.prog W = .ok (.bool (x != y)) W := by
  obtain ⟨i0, hi, _⟩ := info_parts info_u8v
  rw [run_neq_bytes W 23 5 32 Tryd.underlying23 Tryd.underlying5 hi (by kernel_rfl) (by kernel_rfl) x y hx hy]
theorem Made.src {w0 w : World} {t : TypeId} {g : Nat} {c : UInt8} (h : Made w0 t #[.int .u8 c.toNat] (.slice (some ⟨g, 0, none⟩) 1 1) w) : Src w (some ⟨g, 0, none⟩) (bvs [c]) := by
  obtain ⟨g', fr, h0, h1, h2⟩ := h
  injection h1 with h1
  injection h1 with h1
  injection h1 with h1
  subst h1
  intro j u hu
  refine ⟨_, rfl, ?_⟩
  rw [add_plain, Nat.zero_add, cell_of_row w g j _ t fr h2, ← hu]
  simp [bvs, bv]
theorem src_block {w : World} {g : Nat} {t : TypeId} {fr : Nat × Nat} {xs : List Value} (h : w.heap[g]? = some (.cells xs.toArray t fr)) : Src w (some ⟨g, 0, none⟩) xs := fun j u hu => ⟨_, rfl, by rw [add_plain, Nat.zero_add, cell_of_row w g j _ t fr h, ← hu]; simp⟩
set_option maxRecDepth 100000 in
set_option maxHeartbeats 2000000 in
theorem awake7_any (w : World) (hT : Tabs w) : Calls Tryd.prog 8 #[] w fun e w' => e = .returned (.bool true) ∧ Keeps (fun _ => False) w w' := by
  obtain ⟨sd, hsd⟩ : ∃ s : List UInt8, 1 :: List.replicate 31 0 = s := ⟨_, rfl⟩
  have hsl : sd.length = 32 := by rw [← hsd]; rfl
  have hne1 := Ev.frm_ne
  have hne2 := Ev.pub_ne
  have hne3 := Ev.leaf_ne
  have hee := Lm.frm_sign sd 3 [97]
  rw [hsd] at hne1 hne2
  obtain ⟨z, hz0⟩ : ∃ z : List UInt8, List.replicate 32 0 = z := ⟨_, rfl⟩
  have hzl : z.length = 32 := by rw [← hz0]; rfl
  rw [hz0] at hne2 hne3
  have hbz : ∀ W : World, (Instr.build 23 #[]).run Tryd.prog W = .ok (.agg (bvs z).toArray) W := fun _ => by rw [← hz0]; kernel_rfl
  have hbs : ∀ W : World, (Instr.build 23 #[(0, .int .u8 1)]).run Tryd.prog W = .ok (.agg (bvs sd).toArray) W := fun _ => by rw [← hsd]; kernel_rfl
  obtain ⟨p, hp⟩ : ∃ p, Lm.pub sd 3 = p := ⟨_, rfl⟩
  obtain ⟨s, hs⟩ : ∃ s, Lm.sign sd 3 [97] = s := ⟨_, rfl⟩
  obtain ⟨f, hf⟩ : ∃ f, Lm.frm [98] s = f := ⟨_, rfl⟩
  obtain ⟨l, hl⟩ : ∃ l, Sh.sha [0] = l := ⟨_, rfl⟩
  have hpl : p.length = 32 := by rw [← hp]; exact Sh.sha_length _
  have hsg : s.length = 4096 := by rw [← hs]; exact Lm.sign_length _ _ _
  have hfl : f.length = 32 := by rw [← hf]; exact Sh.sha_length _
  have hll : l.length = 32 := by rw [← hl]; exact Sh.sha_length _
  rw [hs, hp] at hne1 hee
  rw [hf] at hne1
  rw [hp] at hne2
  rw [hl] at hne3
  have ep := fun W => eq_hash p p hpl hpl W
  have ef := fun W => ne_hash f p hfl hpl W
  have ez := fun W => ne_hash p z hpl hzl W
  have el := fun W => ne_hash l z hll hzl W
  simp only [beq_self_eq_true] at ep
  simp only [bne_iff_ne.2 hne1] at ef
  simp only [bne_iff_ne.2 hne2] at ez
  simp only [bne_iff_ne.2 hne3] at el
  have csign := fun (A : Option Addr) (V : World) (hV : Tabs V) (hA : Src V A (bvs [97])) => sign_any sd 3 A 1 [97] V hV hsl hA (Nat.le_refl _) (by omega) (by show 1 ≤ _; omega)
  have cpub := fun (V : World) (hV : Tabs V) => public_any sd 3 V hV hsl
  have cfa := fun (A : Option Addr) (V : World) (hV : Tabs V) (hA : Src V A (bvs [97])) => from_any s A 1 [97] V hV hsg hA (Nat.le_refl _) (by omega) (by show 1 ≤ _; omega)
  have cfb := fun (A : Option Addr) (V : World) (hV : Tabs V) (hA : Src V A (bvs [98])) => from_any s A 1 [98] V hV hsg hA (Nat.le_refl _) (by omega) (by show 1 ≤ _; omega)
  have cleaf := fun (V : World) (hV : Tabs V) => leaf_any none 0 [] V hV (Src.nil _ _) (Nat.le_refl _) (by omega) (by simp)
  rw [hs] at csign
  rw [hp] at cpub
  rw [hee] at cfa
  rw [hf] at cfb
  rw [hl] at cleaf
  obtain ⟨s1, s2, s3⟩ := sig_arr s hsg
  obtain ⟨p1, p2, p3⟩ := hash_arr p hpl
  obtain ⟨LS, hLS⟩ : ∃ L, bvs s = L := ⟨_, rfl⟩
  obtain ⟨LP, hLP⟩ : ∃ L, bvs p = L := ⟨_, rfl⟩
  obtain ⟨LF, hLF⟩ : ∃ L, bvs f = L := ⟨_, rfl⟩
  obtain ⟨LL, hLL⟩ : ∃ L, bvs l = L := ⟨_, rfl⟩
  obtain ⟨LZ, hLZ⟩ : ∃ L, bvs z = L := ⟨_, rfl⟩
  obtain ⟨X, hX⟩ : ∃ X, (bvs sd).toArray = X := ⟨_, rfl⟩
  rw [hLS] at csign cfa cfb s1 s2 s3
  rw [hLP] at cpub cfa ep ef ez p1 p2 p3
  rw [hLF] at cfb ef
  rw [hLL] at cleaf el
  rw [hLZ] at ez el hbz
  rw [hX] at csign cpub hbs
  have ss : (Tryd.prog.info? 29).map (·.size) = some LS.length := by rw [s1, List.size_toArray]
  have sp : (Tryd.prog.info? 23).map (·.size) = some LP.length := by rw [p1, List.size_toArray]
  obtain ⟨Z, hZ⟩ : ∃ Z : Array Value, (bvs (List.replicate 32 0)).toArray = Z := ⟨_, rfl⟩
  have hz : ∀ w : World, (zeroValue 23).run Tryd.prog w = .ok (.agg Z) w := fun w => by rw [← hZ]; exact zero_hash w
  have hzs : Z.size = 32 := by subst hZ; rfl
  obtain ⟨Y, hY⟩ : ∃ Y : Array Value, (bvs (List.replicate 4096 0)).toArray = Y := ⟨_, rfl⟩
  have hy : ∀ w : World, (zeroValue 29).run Tryd.prog w = .ok (.agg Y) w := fun w => by rw [← hY]; exact zero_sig w
  have hys : Y.size = 4096 := by rw [← hY, List.size_toArray, bvs_length, List.length_replicate]
  have kc := fun (w : World) (C : Array Value) (n c : Nat) => Lib.run_convert_bytes_const (P := Tryd.prog) w 24 5 C n c Tryd.underlying24 Tryd.underlying5
  obtain ⟨W1, hW1⟩ : ∃ V, w.alloc (.cells #[.int .u8 97] 5 (1, 2)) = V := ⟨_, rfl⟩
  have k1 : Keeps (fun _ => False) w W1 := by rw [← hW1]; exact (Keeps.refl _ _).alloc _
  have q1 : Src W1 (some ⟨w.heap.size, 0, none⟩) (bvs [97]) := by rw [← hW1]; exact src_block (xs := bvs [97]) (fr := (1, 2)) (t := 5) (heap_alloc_new w _)
  have HS1 := Lib.hid (csign (some ⟨w.heap.size, 0, none⟩) W1 (hT.keeps k1 id id) q1)
  have CPUB := Lib.hid cpub
  have CFA := Lib.hid cfa
  have CFB := Lib.hid cfb
  have CLEAF := Lib.hid cleaf
  have EP := Lib.hid ep
  have EF := Lib.hid ef
  have EZ := Lib.hid ez
  have EL := Lib.hid el
  have HBZ := Lib.hid hbz
  have HBS := Lib.hid hbs
  have SS := Lib.hid ss
  have SP := Lib.hid sp
  have S1 := Lib.hid s1
  have S2 := Lib.hid (hys.trans s2.symm)
  have S3 := Lib.hid s3
  have P1 := Lib.hid p1
  have P2 := Lib.hid (hzs.trans p2.symm)
  have P3 := Lib.hid p3
  have HT := Lib.hid hT
  have K1 := Lib.hid k1
  clear csign cpub cfa cfb cleaf ep ef ez el hbz hbs ss sp s1 s2 s3 p1 p2 p3 q1 k1 hT hX hLZ hLL hLF hLP hLS hne1 hne2 hne3 hee hpl hsg hfl hll hzl hsl hsd hz0 hp hs hf hl hZ hY hzs hys
  go_enter Tryd.func8, Tryd.ntmps8
  go_wp2_with (refine wpList_build_run (by rfl) 23 0 (.const (.int .u8 1)) (by rfl) (.int .u8 1) (.agg X) (by rfl) (HBS.out _) ?_)
  refine HS1.out.mono ?_
  rintro e w2 ⟨rfl, k2⟩
  obtain ⟨g1, hg1⟩ : ∃ g, w2.heap.size = g := ⟨_, rfl⟩
  obtain ⟨W3, hW3⟩ : ∃ V, w2.alloc (.cells Y 29) = V := ⟨_, rfl⟩
  obtain ⟨W4, hW4⟩ : ∃ V, W3.setRow g1 LS.toArray = V := ⟨_, rfl⟩
  have r3 : W3.heap[g1]? = some (.cells Y 29 (0, 0)) := by rw [← hW3, ← hg1]; exact heap_alloc_new w2 _
  have r4 : W4.heap[g1]? = some (.cells LS.toArray 29 (0, 0)) := by rw [← hW4]; exact setRow_heap _ _ _ _ _ _ r3
  have k3 : Keeps (fun _ => False) w2 W3 := by rw [← hW3]; exact (Keeps.refl _ _).alloc _
  have k4 : Keeps (fun k => k = g1) W3 W4 := by rw [← hW4]; exact Keeps.setRow _ _
  have K4 := Lib.hid ((K1.out.trans k2).trans (k3.trans' k4 (fun i hi h => by omega)))
  have R3 := Lib.hid r3
  have R4 := Lib.hid r4
  have HP4 := Lib.hid (CPUB.out W4 (HT.out.keeps K4.out id id))
  clear r3 r4 k2 k3 k4 HS1 K1
  go_wp2_with (first
    | (refine wpList_store_row rfl 29 _ _ rfl g1 LS.toArray rfl rfl 29 Y R3.out S1.out S2.out S3.out ?_; rw [hW4])
    | (refine wpList_build_run (by rfl) 23 0 (.const (.int .u8 1)) (by rfl) (.int .u8 1) (.agg X) (by rfl) (HBS.out _) ?_))
  refine HP4.out.mono ?_
  rintro e w5 ⟨rfl, k5⟩
  obtain ⟨g2, hg2⟩ : ∃ g, w5.heap.size = g := ⟨_, rfl⟩
  obtain ⟨W6, hW6⟩ : ∃ V, w5.alloc (.cells Z 23) = V := ⟨_, rfl⟩
  obtain ⟨W7, hW7⟩ : ∃ V, W6.setRow g2 LP.toArray = V := ⟨_, rfl⟩
  have r6 : W6.heap[g2]? = some (.cells Z 23 (0, 0)) := by rw [← hW6, ← hg2]; exact heap_alloc_new w5 _
  have r7 : W7.heap[g2]? = some (.cells LP.toArray 23 (0, 0)) := by rw [← hW7]; exact setRow_heap _ _ _ _ _ _ r6
  have k6 : Keeps (fun _ => False) w5 W6 := by rw [← hW6]; exact (Keeps.refl _ _).alloc _
  have k7 : Keeps (fun k => k = g2) W6 W7 := by rw [← hW7]; exact Keeps.setRow _ _
  have k57 : Keeps (fun _ => False) w5 W7 := k6.trans' k7 (fun i hi h => by omega)
  have r47 : W7.heap[g1]? = some (.cells LS.toArray 29 (0, 0)) := by
    have h := (k5.trans k57).block g1 (Array.getElem?_eq_some_iff.1 R4.out).1 id
    exact h.trans R4.out
  have K7 := Lib.hid (K4.out.trans (k5.trans k57))
  have R6 := Lib.hid r6
  have HLS : Hid (∀ V, Later W7 V → V.rangeAt g1 0 LS) := Lib.hid fun V hV => rangeAt_row ((hV.out.block g1 (Array.getElem?_eq_some_iff.1 r47).1 id).trans r47)
  have HLP : Hid (∀ V, Later W7 V → V.rangeAt g2 0 LP) := Lib.hid fun V hV => rangeAt_row ((hV.out.block g2 (Array.getElem?_eq_some_iff.1 r7).1 id).trans r7)
  have HFA : Hid (∀ g V, Later W7 V → Made W7 5 #[.int .u8 97] (.slice (some ⟨g, 0, none⟩) 1 1) V → Calls Tryd.prog 14 #[.slice (some ⟨g, 0, none⟩) 1 1, .agg LS.toArray] V fun e w' => e = .returned (.agg LP.toArray) ∧ Keeps (fun _ => False) V w') :=
    Lib.hid fun g V hV hM => CFA.out _ V (HT.out.keeps (K7.out.trans hV.out) id id) (Made.src (c := 97) hM)
  have HFB : Hid (∀ g V, Later W7 V → Made W7 5 #[.int .u8 98] (.slice (some ⟨g, 0, none⟩) 1 1) V → Calls Tryd.prog 14 #[.slice (some ⟨g, 0, none⟩) 1 1, .agg LS.toArray] V fun e w' => e = .returned (.agg LF.toArray) ∧ Keeps (fun _ => False) V w') :=
    Lib.hid fun g V hV hM => CFB.out _ V (HT.out.keeps (K7.out.trans hV.out) id id) (Made.src (c := 98) hM)
  have HLEAF : Hid (∀ V, Later W7 V → Calls Tryd.prog 17 #[.slice none 0 0] V fun e w' => e = .returned (.agg LL.toArray) ∧ Keeps (fun _ => False) V w') :=
    Lib.hid fun V hV => CLEAF.out V (HT.out.keeps (K7.out.trans hV.out) id id)
  clear r6 r7 k5 k6 k7 k57 r47 HP4 K4 R3 R4 CPUB CFA CFB CLEAF
  go_wp2_with (refine wpList_store_row rfl 23 _ _ rfl g2 LP.toArray rfl rfl 23 Z R6.out P1.out P2.out P3.out ?_; rw [hW7])
  refine wp_region_loose [0, 1, 7, 8] [2, 4, 0, 1, 3, 5, 6, 9, 11, 7, 8, 10, 12, 13, 14, 15, 16, 17, 18, 19, 20, 21, 22, 23, 24] (by kernel_rfl) (by kernel_rfl) ?_
  refine R_load (get_op rfl) (by rfl) (by rfl) 29 (.tmp 1) (by rfl) g1 0 (by rfl) LS _ (fun V hV => HLS.out V hV) Tryd.underlying29 rfl SS.out ?_
  simp only [Act.put, List.setIfInBounds_toArray, List.set_cons_zero, List.set_cons_succ]
  refine R_load (get_op rfl) (by rfl) (by rfl) 23 (.tmp 2) (by rfl) g2 0 (by rfl) LP _ (fun V hV => HLP.out V hV) Tryd.underlying23 rfl SP.out ?_
  simp only [Act.put, List.setIfInBounds_toArray, List.set_cons_zero, List.set_cons_succ]
  refine R_loose (get_op rfl) (by rfl) (by rfl) _ _ (loose_build 24 5 (.const (.int .u8 97)) (.int .u8 97) (by rfl) (by rfl) (fun V hV => hV) (fun _ => by kernel_rfl)) ?_
  rintro _ ⟨ga, rfl⟩
  simp only [Act.put, List.setIfInBounds_toArray, List.set_cons_zero, List.set_cons_succ]
  refine R_loose (get_op rfl) (by rfl) (by rfl) _ _ (loose_conv 24 5 (.tmp 9) ga #[.int .u8 97] (by rfl) (by rfl) (fun V hV => ⟨hV.1, hV.2⟩) Tryd.underlying24 Tryd.underlying5) ?_
  rintro _ rfl
  simp only [Act.put, List.setIfInBounds_toArray, List.set_cons_zero, List.set_cons_succ]
  refine R_call (get_op rfl) (by rfl) (by rfl) _ _ (.agg LP.toArray) (fun _ => by go_simp) (fun V hV => HFA.out ga V hV.1.1 hV.1.2) ?_
  simp only [Act.put, List.setIfInBounds_toArray, List.set_cons_zero, List.set_cons_succ]
  refine R_eq (get_op rfl) (by rfl) (by rfl) .eql 23 _ (.tmp 12) (.tmp 13) (by rfl) LP.toArray LP.toArray (by rfl) (by rfl) (by kernel_rfl) (.bool true) (EP.out) ?_
  simp only [Act.put, List.setIfInBounds_toArray, List.set_cons_zero, List.set_cons_succ]
  refine R_value (get_op rfl) (by rfl) (by rfl) (.bool true) (fun _ _ => by go_simp) ?_
  simp only [Act.put, List.setIfInBounds_toArray, List.set_cons_zero, List.set_cons_succ]
  refine R_load (get_op rfl) (by rfl) (by rfl) 29 (.tmp 1) (by rfl) g1 0 (by rfl) LS _ (fun V hV => HLS.out V hV.1.1) Tryd.underlying29 rfl SS.out ?_
  simp only [Act.put, List.setIfInBounds_toArray, List.set_cons_zero, List.set_cons_succ]
  refine R_load (get_op rfl) (by rfl) (by rfl) 23 (.tmp 2) (by rfl) g2 0 (by rfl) LP _ (fun V hV => HLP.out V hV.1.1) Tryd.underlying23 rfl SP.out ?_
  simp only [Act.put, List.setIfInBounds_toArray, List.set_cons_zero, List.set_cons_succ]
  refine R_loose (get_op rfl) (by rfl) (by rfl) _ _ (loose_build 24 5 (.const (.int .u8 98)) (.int .u8 98) (by rfl) (by rfl) (fun V hV => hV.1.1) (fun _ => by kernel_rfl)) ?_
  rintro _ ⟨gb, rfl⟩
  simp only [Act.put, List.setIfInBounds_toArray, List.set_cons_zero, List.set_cons_succ]
  refine R_loose (get_op rfl) (by rfl) (by rfl) _ _ (loose_conv 24 5 (.tmp 16) gb #[.int .u8 98] (by rfl) (by rfl) (fun V hV => ⟨hV.1.1.1, hV.2⟩) Tryd.underlying24 Tryd.underlying5) ?_
  rintro _ rfl
  simp only [Act.put, List.setIfInBounds_toArray, List.set_cons_zero, List.set_cons_succ]
  refine R_call (get_op rfl) (by rfl) (by rfl) _ _ (.agg LF.toArray) (fun _ => by go_simp) (fun V hV => HFB.out gb V hV.1.1.1.1 hV.1.2) ?_
  simp only [Act.put, List.setIfInBounds_toArray, List.set_cons_zero, List.set_cons_succ]
  refine R_eq (get_op rfl) (by rfl) (by rfl) .neq 23 _ (.tmp 19) (.tmp 20) (by rfl) LF.toArray LP.toArray (by rfl) (by rfl) (by kernel_rfl) (.bool true) (EF.out) ?_
  simp only [Act.put, List.setIfInBounds_toArray, List.set_cons_zero, List.set_cons_succ]
  refine R_value (get_op rfl) (by rfl) (by rfl) (.bool true) (fun _ _ => by go_simp) ?_
  simp only [Act.put, List.setIfInBounds_toArray, List.set_cons_zero, List.set_cons_succ]
  refine R_value (get_op rfl) (by rfl) (by rfl) (.bool true) (fun _ _ => by go_simp) ?_
  simp only [Act.put, List.setIfInBounds_toArray, List.set_cons_zero, List.set_cons_succ]
  refine R_load (get_op rfl) (by rfl) (by rfl) 23 (.tmp 2) (by rfl) g2 0 (by rfl) LP _ (fun V hV => HLP.out V hV.1.1.1.1) Tryd.underlying23 rfl SP.out ?_
  simp only [Act.put, List.setIfInBounds_toArray, List.set_cons_zero, List.set_cons_succ]
  refine R_value (get_op rfl) (by rfl) (by rfl) (.agg LZ.toArray) (fun V hV => by unfold execOp; simp only [Sem.run_bind, Sem.run_pure, Result.andThen_ok, List.map_toArray, List.map_nil, HBZ.out]) ?_
  simp only [Act.put, List.setIfInBounds_toArray, List.set_cons_zero, List.set_cons_succ]
  refine R_eq (get_op rfl) (by rfl) (by rfl) .neq 23 _ (.tmp 24) (.tmp 25) (by rfl) LP.toArray LZ.toArray (by rfl) (by rfl) (by kernel_rfl) (.bool true) (EZ.out) ?_
  simp only [Act.put, List.setIfInBounds_toArray, List.set_cons_zero, List.set_cons_succ]
  refine R_value (get_op rfl) (by rfl) (by rfl) (.bool true) (fun _ _ => by go_simp) ?_
  simp only [Act.put, List.setIfInBounds_toArray, List.set_cons_zero, List.set_cons_succ]
  refine R_value (get_op rfl) (by rfl) (by rfl) (.bool true) (fun _ _ => by go_simp) ?_
  simp only [Act.put, List.setIfInBounds_toArray, List.set_cons_zero, List.set_cons_succ]
  refine R_call (get_op rfl) (by rfl) (by rfl) _ _ (.agg LL.toArray) (fun _ => by go_simp) (fun V hV => HLEAF.out V hV.1.1.1.1) ?_
  simp only [Act.put, List.setIfInBounds_toArray, List.set_cons_zero, List.set_cons_succ]
  refine R_value (get_op rfl) (by rfl) (by rfl) (.agg LZ.toArray) (fun V hV => by unfold execOp; simp only [Sem.run_bind, Sem.run_pure, Result.andThen_ok, List.map_toArray, List.map_nil, HBZ.out]) ?_
  simp only [Act.put, List.setIfInBounds_toArray, List.set_cons_zero, List.set_cons_succ]
  refine R_eq (get_op rfl) (by rfl) (by rfl) .neq 23 _ (.tmp 29) (.tmp 30) (by rfl) LL.toArray LZ.toArray (by rfl) (by rfl) (by kernel_rfl) (.bool true) (EL.out) ?_
  simp only [Act.put, List.setIfInBounds_toArray, List.set_cons_zero, List.set_cons_succ]
  refine R_value (get_op rfl) (by rfl) (by rfl) (.bool true) (fun _ _ => by go_simp) ?_
  simp only [Act.put, List.setIfInBounds_toArray, List.set_cons_zero, List.set_cons_succ]
  refine R_value (get_op rfl) (by rfl) (by rfl) (.bool true) (fun _ _ => by go_simp) ?_
  simp only [Act.put, List.setIfInBounds_toArray, List.set_cons_zero]
  refine R_nil ?_
  rintro w10 hw10
  have k10 := hw10.1.1.1.1.out
  have KF := Lib.hid (K7.out.trans k10)
  clear k10 hw10
  go_wp2
  go_ret
  exact ⟨rfl, KF.out⟩
end Go.Proofs.YtgbajlmcoghofaaDoor
