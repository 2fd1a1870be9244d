/-
  The document's own disk: Crash. WRITTEN BY wip/gen/mkrke.py.
-/
import Derived.Test.YtonokeldlknadaaRkD
namespace Go.Proofs.Ytonokeldlknadaa
open Go.RowKit Go.BigFrame
set_option linter.unusedVariables false

theorem size_L : (Try.prog.info? 67).map (·.size) = some 2 := by kernel_rfl
theorem zero_L (V : World) : (zeroValue 67).run Try.prog V = .ok (.agg #[.int .i64 0, .string ByteArray.empty]) V := by kernel_rfl
theorem strOf_size (b : List UInt8) : (strOf b).size = b.length := by simp [strOf, ByteArray.size]
theorem strOf_get (b : List UInt8) (i : Nat) (c : UInt8) (h : b[i]? = some c) : (strOf b)[i]? = some c := by
  have hi := (List.getElem?_eq_some_iff.1 h).1
  rw [getElem?_pos (strOf b) i (by rw [strOf_size]; exact hi)]
  congr 1
  exact (List.getElem?_eq_some_iff.1 h).2
theorem strOf_to (b : List UInt8) (k : Nat) : (strOf b).extract 0 k = strOf (b.take k) := by
  apply ByteArray.ext
  simp [strOf, ByteArray.data_extract]
theorem strOf_from (b : List UInt8) (k : Nat) : (strOf b).extract k b.length = strOf (b.drop k) := by
  apply ByteArray.ext
  simp [strOf, ByteArray.data_extract]
  exact List.take_of_length_le (by rw [List.length_drop]; exact Nat.le_refl _)
theorem build_D (A : Option Addr) (n c : Nat) (V : World) : (Instr.build 31 #[(0, .slice A n c), (2, .int .i64 (-1))]).run Try.prog V = .ok (.agg (rrow A n c none 0 0 (-1) false).toArray) V := by kernel_rfl
set_option maxRecDepth 100000 in
set_option maxHeartbeats 4000000 in
theorem rcrash_any (A : Option Addr) (n c : Nat) (A2 : Option Addr) (m c2 : Nat) (f : Int) (d : Bool) (g : Nat → List UInt8) (ls : List (Nat × List UInt8)) (fs : List UInt8) (w : World) (hg : w.ownsRow 0 9 1 (.slice A n c) n (svals (gl n g))) (hl : w.ownsRow 0 67 2 (.slice A2 m c2) m (lcells ls)) (hls : ∀ p ∈ ls, p.1 < n ∧ p.2.length = 256) (hgg : ∀ i, (g i).length = 256) (hn : n ≤ 1000) (hm : m ≤ 1000) (hfs : fs.length ≤ 1000) :
    Calls Try.prog 20 #[.agg (rrow A n c A2 m c2 f d).toArray, .string (strOf fs)] w fun e w' => ∃ A' c', e = .returned (.agg (rrow A' n c' none 0 0 (-1) false).toArray) ∧ w'.ownsRow 0 9 1 (.slice A' n c') n (svals (gl n (Dk.crash g ls fs))) ∧ OldNew w (.slice A n c) (.slice A' n c') ∧ Keeps (fun _ => False) w w' := by
  obtain ⟨Z, hZ⟩ : ∃ Z : Array Value, (#[.slice none 0 0, .slice none 0 0, .int .i64 0, .bool false] : Array Value) = Z := ⟨_, rfl⟩
  have hz : ∀ V : World, (zeroValue 31).run Try.prog V = .ok (.agg Z) V := fun V => by rw [← hZ]; exact zero_D V
  have ZS : Hid (Z.size = 4) := Lib.hid (by rw [← hZ]; rfl)
  obtain ⟨RA, hRA⟩ : ∃ R, (rrow A n c A2 m c2 f d).toArray = R := ⟨_, rfl⟩
  have RAN : Hid (RA.size = 4) := Lib.hid (by rw [← hRA]; rfl)
  have RAS : Hid ((Try.prog.info? 31).map (·.size) = some RA.size) := Lib.hid (by rw [RAN.out]; exact size_D)
  have RAO : Hid (RA.all (·.oneCell') = true) := Lib.hid (by rw [← hRA]; exact rrow_one _ _ _ _ _ _ _ _)
  obtain ⟨b1, hb1⟩ : ∃ x, w.heap.size = x := ⟨_, rfl⟩
  obtain ⟨W1, hW1⟩ : ∃ V, w.alloc (.cells RA 31) = V := ⟨_, rfl⟩
  obtain ⟨b2, hb2⟩ : ∃ x, W1.heap.size = x := ⟨_, rfl⟩
  obtain ⟨W2, hW2⟩ : ∃ V, W1.alloc (.cells Z 31) = V := ⟨_, rfl⟩
  have k1 : Keeps (fun _ => False) w W1 := by rw [← hW1]; exact (Keeps.refl _ _).alloc _
  have k2 : Keeps (fun _ => False) W1 W2 := by rw [← hW2]; exact (Keeps.refl _ _).alloc _
  have r1 : W2.heap[b1]? = some (.cells RA 31 (0, 0)) := (k2.block b1 (by rw [← hW1, ← hb1]; simp) id).trans (by rw [← hW1, ← hb1]; exact heap_alloc_new w _)
  have r2 : W2.heap[b2]? = some (.cells Z 31 (0, 0)) := by rw [← hW2, ← hb2]; exact heap_alloc_new W1 _
  have hb12 : b1 < b2 := by rw [← hb1, ← hb2, ← hW1]; simp
  have hwb : w.heap.size ≤ b1 := by omega
  have kk := k1.trans k2
  clear k1 k2
  have hll : ls.length = m := by have h := hl.1; rw [lcells_length] at h; omega
  have r10 : Row W2 b1 31 (rrow A n c A2 m c2 f d) := by show _ = some (Obj.cells (_ : List Value).toArray _ _); rw [hRA]; exact r1
  obtain ⟨sf, hsf⟩ : ∃ s, strOf fs = s := ⟨_, rfl⟩
  have hsz : sf.size = fs.length := by rw [← hsf]; exact strOf_size fs
  have R1 := Lib.hid r10
  have R2 := Lib.hid r2
  have HL := Lib.hid (kk.owns hl (fun _ _ => id))
  have HG := Lib.hid (kk.owns hg (fun _ _ => id))
  have KK := Lib.hid kk
  have HLL := Lib.hid hll
  have HLN := Lib.hid hls
  have HGG := Lib.hid hgg
  have HSF := Lib.hid hsf
  have HSZ := Lib.hid hsz
  rw [hRA, hsf]
  clear r1 r10 r2 kk hZ hRA hl hg hll hls hgg hsf hsz
  go_enter Try.func20, Try.ntmps20
  go_wp2_with fail
  go_loopw [5] (fun iv wr => ∃ (i : Nat) (A1 : Option Addr) (c1 : Nat), i ≤ m ∧ i ≤ fs.length ∧ iv = .int .i64 (i : Int) ∧ Hid (Row wr b1 31 (rrow A1 n c1 A2 m c2 f d)) ∧ Hid (wr.heap[b2]? = some (.cells Z 31 (0, 0))) ∧ Hid (wr.ownsRow 0 9 1 (.slice A1 n c1) n (svals (gl n (Dk.crash g (ls.take i) (fs.take i))))) ∧ Hid (OldNew w (.slice A n c) (.slice A1 n c1)) ∧ Hid (wr.ownsRow 0 67 2 (.slice A2 m c2) m (lcells ls)) ∧ Hid (Keeps (fun _ => False) w wr)) (fun iv _ => m - (intOf iv).toNat)
  case atStart => exact ⟨0, A, c, by omega, by omega, rfl, R1, R2, Lib.hid (by rw [List.take_zero, List.take_zero]; exact HG.out), Lib.hid (.inl rfl), HL, KK⟩
  case round =>
    clear R1 R2 HG HL KK
    obtain ⟨i, A1, c1, hi, hif, rfl, HR1, HR2, HG1, HON, HL1, HKW⟩ := hrel
    have hc1 : wr.cell? ⟨b1, 1, none⟩ = some (.slice A2 m c2) := HR1.out.cell 1
    by_cases hlt : i < m ∧ i < fs.length
    · obtain ⟨hlm, hlf⟩ := hlt
      have hii : (i : Int) < (m : Int) := by omega
      have hff : (i : Int) < (sf.size : Int) := by rw [HSZ.out]; omega
      obtain ⟨gl, rfl⟩ := own_some HL1.out (by omega)
      obtain ⟨p, hp⟩ : ∃ p, ls[i]? = some p := ⟨_, List.getElem?_eq_getElem (by rw [HLL.out]; exact hlm)⟩
      obtain ⟨cc, hcc⟩ : ∃ x, fs[i]? = some x := ⟨_, List.getElem?_eq_getElem hlf⟩
      obtain ⟨l1, l2⟩ := lcells_get ls i p hp
      obtain ⟨hpn, hpl⟩ := HLN.out p (List.mem_of_getElem? hp)
      obtain ⟨gg, rfl⟩ := own_some HG1.out (by omega)
      obtain ⟨gf, hgf⟩ : ∃ x, Dk.crash g (ls.take i) (fs.take i) = x := ⟨_, rfl⟩
      have hgfl : ∀ j, (gf j).length = 256 := by rw [← hgf]; exact Dk.crash_length g _ _ HGG.out (fun q hq => (HLN.out q (List.mem_of_mem_take hq)).2)
      obtain ⟨sp, hsp⟩ : ∃ s, strOf p.2 = s := ⟨_, rfl⟩
      obtain ⟨so, hso⟩ : ∃ s, strOf (gf p.1) = s := ⟨_, rfl⟩
      obtain ⟨k, hk⟩ : ∃ k, Dk.size cc = k := ⟨_, rfl⟩
      have hk256 : k ≤ 256 := by rw [← hk]; exact Dk.size_le cc
      obtain ⟨gs, hgs⟩ : ∃ l, Go.Proofs.Ytonokeldlknadaa.gl n gf = l := ⟨_, rfl⟩
      obtain ⟨bn, hbn⟩ : ∃ l, Dk.front p.2 (gf p.1) k = l := ⟨_, rfl⟩
      obtain ⟨s1, hs1⟩ : ∃ s, strOf (p.2.take k) = s := ⟨_, rfl⟩
      obtain ⟨s2, hs2⟩ : ∃ s, strOf ((gf p.1).drop k) = s := ⟨_, rfl⟩
      obtain ⟨s3, hs3⟩ : ∃ s, strOf bn = s := ⟨_, rfl⟩
      have hsl1 : ∀ V : World, (Instr.slice 9 (.string sp) none (some (.int .i64 (k : Int))) none).run Try.prog V = .ok (.string s1) V := fun V => by
        rw [run_slice_string_h V 9 sp Try.underlying9 .i64 k (by omega) (by rw [← hsp, strOf_size]; omega), ← hsp, ← hs1, ← strOf_to]; rfl
      have hsl2 : ∀ V : World, (Instr.slice 9 (.string so) (some (.int .i64 (k : Int))) none none).run Try.prog V = .ok (.string s2) V := fun V => by
        rw [run_slice_string_l V 9 so Try.underlying9 .i64 k (by omega) (by rw [← hso, strOf_size, hgfl]; omega), ← hso, ← hs2, ← strOf_from, strOf_size]; rfl
      have hsum : ∀ V : World, (Op.stringOp .add s1 s2).run Try.prog V = .ok (.string s3) V := fun V => by
        rw [← hs1, ← hs2, ← hs3, ← hbn]
        exact run_string_add_lists V _ _ (by rw [List.length_take]; omega) (by rw [List.length_drop, hgfl]; omega)
      have hix : ∀ V : World, (Instr.index 9 (.string sf) (.int .i64 (i : Int))).run Try.prog V = .ok (.int .u8 (cc.toNat : Int)) V := fun V => by
        have hb : sf[i]? = some cc := by rw [← HSF.out]; exact strOf_get _ _ _ hcc
        simp [Instr.index, asIntOf, run_underlying Try.underlying9, hb]
      obtain ⟨b3, hb3⟩ : ∃ x, wr.heap.size = x := ⟨_, rfl⟩
      obtain ⟨ZL, hZL⟩ : ∃ Z : Array Value, (#[.int .i64 0, .string ByteArray.empty] : Array Value) = Z := ⟨_, rfl⟩
      have hzl : ∀ V : World, (zeroValue 67).run Try.prog V = .ok (.agg ZL) V := fun V => by rw [← hZL]; exact zero_L V
      have ZLS : Hid (ZL.size = 2) := Lib.hid (by rw [← hZL]; rfl)
      obtain ⟨RL, hRL⟩ : ∃ R : Array Value, ([.int .i64 (p.1 : Int), .string sp] : List Value).toArray = R := ⟨_, rfl⟩
      have HRL := Lib.hid hRL
      have RLN : Hid (RL.size = 2) := Lib.hid (by rw [← hRL]; rfl)
      have RLS : Hid ((Try.prog.info? 67).map (·.size) = some RL.size) := Lib.hid (by rw [RLN.out]; exact size_L)
      have RLO : Hid (RL.all (·.oneCell') = true) := Lib.hid (by rw [← hRL]; simp [Value.oneCell'])
      obtain ⟨W5, hW5⟩ : ∃ V, wr.alloc (.cells ZL 67) = V := ⟨_, rfl⟩
      have k5a : Keeps (fun _ => False) wr W5 := by rw [← hW5]; exact (Keeps.refl _ _).alloc _
      have r5 : W5.heap[b3]? = some (.cells ZL 67 (0, 0)) := by rw [← hW5, ← hb3]; exact heap_alloc_new wr _
      obtain ⟨W6, hW6⟩ : ∃ V, W5.setRow b3 RL = V := ⟨_, rfl⟩
      have k56 : Keeps (fun k => k = b3) W5 W6 := by rw [← hW6]; exact Keeps.setRow _ _
      have r6 : Row W6 b3 67 [.int .i64 (p.1 : Int), .string sp] := by show _ = some (Obj.cells (_ : List Value).toArray _ _); rw [hRL, ← hW6]; exact setRow_heap _ _ _ _ _ _ r5
      have k06 : Keeps (fun _ => False) wr W6 := k5a.trans' k56 (fun i hi e => by omega)
      have R5 := Lib.hid r5
      have HR6 := Lib.hid (HR1.out.keeps k06 id)
      have HR26 : Hid (W6.heap[b2]? = some (.cells Z 31 (0, 0))) := Lib.hid ((k06.block b2 (Array.getElem?_eq_some_iff.1 HR2.out).1 id).trans HR2.out)
      have HL6 := Lib.hid (k06.owns HL1.out (fun _ _ => id))
      have HG6 := Lib.hid (k06.owns HG1.out (fun _ _ => id))
      have HKW6 := Lib.hid (HKW.out.trans k06)
      have HRG : Hid (wr.rangeAt gl (i * 2) [.int .i64 (p.1 : Int), .string sp]) := Lib.hid (by
        have h5 := HL1.out
        intro j v hv
        match j, hv with
        | 0, hv => simp at hv; subst hv; rw [Nat.add_zero, h5.cellAt (i * 2) (by omega), l1]
        | 1, hv => simp at hv; subst hv; rw [h5.cellAt (i * 2 + 1) (by omega), l2, hsp]
        | j + 2, hv => simp at hv)
      have HC0 : Hid (∀ V, Later W6 V → V.cell? ⟨b1, 0, none⟩ = some (.slice (some ⟨gg, 0, none⟩) n c1)) := Lib.hid (fun V hV => (HR6.out.keeps hV.out id).cell 0)
      have HCA : Hid (∀ V, Later W6 V → V.cell? ⟨b3, 0, none⟩ = some (.int .i64 (p.1 : Int))) := Lib.hid (fun V hV => (r6.keeps hV.out id).cell 0)
      have HCB : Hid (∀ V, Later W6 V → V.cell? ⟨b3, 1, none⟩ = some (.string sp)) := Lib.hid (fun V hV => (r6.keeps hV.out id).cell 1)
      have HCO : Hid (∀ V, Later W6 V → V.cell? ⟨gg, p.1, none⟩ = some (.string so)) := Lib.hid (fun V hV => by rw [(hV.out.owns HG6.out (fun _ _ => id)).cellAt p.1 (by omega), svals_get, hgf, gl_get n gf p.1 hpn, ← hso]; rfl)
      have HSET : Hid (∀ V, Later W6 V → Calls Try.prog 32 #[.slice (some ⟨gg, 0, none⟩) n c1, .int .i64 (p.1 : Int), .string s3] V fun e w' => ∃ x : Option Addr × Nat, e = .returned (.slice x.1 n x.2) ∧ Later W6 w' ∧ w'.ownsRow wr.heap.size 9 1 (.slice x.1 n x.2) n (svals (gs.set p.1 bn))) := Lib.hid (fun V hV => by
        have h := rset_any (some ⟨gg, 0, none⟩) n c1 gs p.1 bn V (hV.out.owns (by rw [← hgs, ← hgf]; exact HG6.out) (fun _ _ => id)) hpn hn
        rw [hs3] at h
        exact h.mono fun e w' ⟨A', c', h1, h2, h3⟩ => ⟨(A', c'), h1, ⟨hV.out.trans h3⟩, own_base h2 (Nat.le_trans k06.size hV.out.size)⟩)
      have HGS : Hid (gs.set p.1 bn = Go.Proofs.Ytonokeldlknadaa.gl n (Dk.crash g (ls.take (i + 1)) (fs.take (i + 1)))) := Lib.hid (by
        rw [Dk.crash_snoc g ls fs i p cc hp hcc, hgf, hk, ← hgs, gl_put, ← hbn]; rfl)
      have hkk : (k : Int) = if cc.toNat = 255 then 256 else (cc.toNat : Int) := by rw [← hk]; unfold Dk.size; split <;> rfl
      have hcl := cc.toNat_lt
      obtain ⟨cn, hcn⟩ : ∃ x, cc.toNat = x := ⟨_, rfl⟩
      rw [hcn] at hkk hix hcl
      clear l1 l2 hp hsp hso hk hgf hbn hs1 hs2 hs3 hcc hcn r5 r6 k5a k56 k06 hgfl hZL hRL hpl
      by_cases h255 : cn = 255
      · have hb255 : ((cn : Int) == 255) = true := by rw [beq_iff_eq]; omega
        rw [if_pos h255] at hkk
        rw [hkk] at hsl1 hsl2
        obtain rfl : k = 256 := by omega
        clear hkk
        go_wp2_with (first
          | (refine wpList_load_mid (by rfl) 67 (.tmp 30) (by rfl) gl (i * 2) (by rfl) [.int .i64 (p.1 : Int), .string sp] _ HRG.out Try.underlying67 rfl size_L ?_)
          | (refine wpList_store_row (by rfl) 67 (.tmp 7) (.tmp 31) (by rfl) b3 RL (by rfl) (by rw [← HRL.out]; rfl) 67 ZL R5.out RLS.out (ZLS.out.trans RLN.out.symm) RLO.out ?_; rw [hW6]))
        refine wp_region_stores 19 [17] [0, 1, 2, 3, 4, 5, 6, 7, 8, 9, 10, 11, 12, 13, 14, 15, 16, 17, 18] (Later W6) (fun _ => True) (by kernel_rfl) (by kernel_rfl) (Lasts.later _) (Lasts.true) (⟨(Keeps.refl _ _).drew⟩) (trivial) ?_
        refine T_value (get_op rfl) (by rfl) (by rfl) (.pointer (some ⟨b1, 0, none⟩)) (fun _ _ => by go_simp) ?_
        simp only [Act.put, List.setIfInBounds_toArray, List.set_cons_zero, List.set_cons_succ]
        refine T_cell (get_op rfl) (by rfl) (by rfl) 28 (.tmp 32) (by rfl) ⟨b1, 0, none⟩ (by rfl) (.slice (some ⟨gg, 0, none⟩) n c1) _ (fun V hV => HC0.out V hV) Try.underlying28 rfl ?_
        simp only [Act.put, List.setIfInBounds_toArray, List.set_cons_zero, List.set_cons_succ]
        refine T_value (get_op rfl) (by rfl) (by rfl) (.pointer (some ⟨b3, 0, none⟩)) (fun _ _ => by go_simp) ?_
        simp only [Act.put, List.setIfInBounds_toArray, List.set_cons_zero, List.set_cons_succ]
        refine T_cell (get_op rfl) (by rfl) (by rfl) 3 (.tmp 34) (by rfl) ⟨b3, 0, none⟩ (by rfl) (.int .i64 (p.1 : Int)) _ (fun V hV => HCA.out V hV) Try.underlying3 rfl ?_
        simp only [Act.put, List.setIfInBounds_toArray, List.set_cons_zero, List.set_cons_succ]
        refine T_value (get_op rfl) (by rfl) (by rfl) (.pointer (some ⟨b3, 1, none⟩)) (fun _ _ => by go_simp) ?_
        simp only [Act.put, List.setIfInBounds_toArray, List.set_cons_zero, List.set_cons_succ]
        refine T_cell (get_op rfl) (by rfl) (by rfl) 9 (.tmp 36) (by rfl) ⟨b3, 1, none⟩ (by rfl) (.string sp) _ (fun V hV => HCB.out V hV) Try.underlying9 rfl ?_
        simp only [Act.put, List.setIfInBounds_toArray, List.set_cons_zero, List.set_cons_succ]
        refine T_value (get_op rfl) (by rfl) (by rfl) (.int .i64 256) (fun _ _ => by go_simp) ?_
        simp only [Act.put, List.setIfInBounds_toArray, List.set_cons_zero, List.set_cons_succ]
        refine T_value (get_op rfl) (by rfl) (by rfl) (.string s1) (fun _ _ => by go_simp) ?_
        simp only [Act.put, List.setIfInBounds_toArray, List.set_cons_zero, List.set_cons_succ]
        refine T_value (get_op rfl) (by rfl) (by rfl) (.pointer (some ⟨b1, 0, none⟩)) (fun _ _ => by go_simp) ?_
        simp only [Act.put, List.setIfInBounds_toArray, List.set_cons_zero, List.set_cons_succ]
        refine T_cell (get_op rfl) (by rfl) (by rfl) 28 (.tmp 40) (by rfl) ⟨b1, 0, none⟩ (by rfl) (.slice (some ⟨gg, 0, none⟩) n c1) _ (fun V hV => HC0.out V hV) Try.underlying28 rfl ?_
        simp only [Act.put, List.setIfInBounds_toArray, List.set_cons_zero, List.set_cons_succ]
        refine T_value (get_op rfl) (by rfl) (by rfl) (.pointer (some ⟨b3, 0, none⟩)) (fun _ _ => by go_simp) ?_
        simp only [Act.put, List.setIfInBounds_toArray, List.set_cons_zero, List.set_cons_succ]
        refine T_cell (get_op rfl) (by rfl) (by rfl) 3 (.tmp 42) (by rfl) ⟨b3, 0, none⟩ (by rfl) (.int .i64 (p.1 : Int)) _ (fun V hV => HCA.out V hV) Try.underlying3 rfl ?_
        simp only [Act.put, List.setIfInBounds_toArray, List.set_cons_zero, List.set_cons_succ]
        refine T_value (get_op rfl) (by rfl) (by rfl) (.pointer (some ⟨gg, p.1, none⟩)) (fun _ _ => by go_simp) ?_
        simp only [Act.put, List.setIfInBounds_toArray, List.set_cons_zero, List.set_cons_succ]
        refine T_cell (get_op rfl) (by rfl) (by rfl) 9 (.tmp 44) (by rfl) ⟨gg, p.1, none⟩ (by rfl) (.string so) _ (fun V hV => HCO.out V hV) Try.underlying9 rfl ?_
        simp only [Act.put, List.setIfInBounds_toArray, List.set_cons_zero, List.set_cons_succ]
        refine T_value (get_op rfl) (by rfl) (by rfl) (.int .i64 256) (fun _ _ => by go_simp) ?_
        simp only [Act.put, List.setIfInBounds_toArray, List.set_cons_zero, List.set_cons_succ]
        refine T_value (get_op rfl) (by rfl) (by rfl) (.string s2) (fun _ _ => by go_simp) ?_
        simp only [Act.put, List.setIfInBounds_toArray, List.set_cons_zero, List.set_cons_succ]
        refine T_value (get_op rfl) (by rfl) (by rfl) (.string s3) (fun _ _ => by go_simp) ?_
        simp only [Act.put, List.setIfInBounds_toArray, List.set_cons_zero, List.set_cons_succ]
        refine T_enterR (get_op rfl) (by rfl) (by rfl) _ _ (fun x : Option Addr × Nat => .slice x.1 n x.2) (fun x y h => by cases x; cases y; simp at h; simp [h]) (fun _ => by go_simp) (fun x V => V.ownsRow wr.heap.size 9 1 (.slice x.1 n x.2) n (svals (gs.set p.1 bn))) (fun x w w' h hk => hk.owns h (fun _ _ => id)) (fun V hb hf => HSET.out V hb) ?_
        intro x9
        simp only [Act.put, List.setIfInBounds_toArray, List.set_cons_zero, List.set_cons_succ]
        refine T_value (get_op rfl) (by rfl) (by rfl) (.pointer (some ⟨b1, 0, none⟩)) (fun _ _ => by go_simp) ?_
        simp only [Act.put, List.setIfInBounds_toArray, List.set_cons_zero, List.set_cons_succ]
        refine T_nil ?_
        intro V5 k5 o5
        simp only [List.drop_succ_cons, List.drop_zero]
        have hr5 := HR6.out.keeps k5.out id
        have hc5 : V5.cell? ⟨b1, 0, none⟩ = some (.slice (some ⟨gg, 0, none⟩) n c1) := hr5.cell 0
        have hf5 := hr5.frozen 0
        obtain ⟨W8, hW8⟩ : ∃ V, V5.setCell ⟨b1, 0, none⟩ (.slice x9.1 n x9.2) = V := ⟨_, rfl⟩
        have k6 : Keeps (fun k => k = b1) V5 W8 := by rw [← hW8]; exact (Keeps.refl (fun k => k = b1) V5).setCell (p := ⟨b1, 0, none⟩) (fun _ => rfl) _
        have hr2 : V5.heap[b2]? = some (.cells Z 31 (0, 0)) := (k5.out.block b2 (Array.getElem?_eq_some_iff.1 HR26.out).1 id).trans HR26.out
        have hne : ∀ k, (Value.slice x9.1 n x9.2).ownBlock = some k → k ≠ b1 := fun k hk e => by
          have := (o5.lt k hk).1
          have := HR1.out.lt
          omega
        have N1 : Hid (Row W8 b1 31 (rrow x9.1 n x9.2 (some ⟨gl, 0, none⟩) m c2 f d)) := Lib.hid (by rw [← hW8]; exact hr5.set 0 _)
        have N2 : Hid (W8.heap[b2]? = some (.cells Z 31 (0, 0))) := Lib.hid ((k6.block b2 (Array.getElem?_eq_some_iff.1 hr2).1 (fun e => by omega)).trans hr2)
        have N3 : Hid (W8.ownsRow 0 9 1 (.slice x9.1 n x9.2) n (svals (Go.Proofs.Ytonokeldlknadaa.gl n (Dk.crash g (ls.take (i + 1)) (fs.take (i + 1)))))) := Lib.hid (by rw [← HGS.out]; exact k6.owns (own_base o5 (Nat.zero_le _)) (fun k hk e => hne k hk e))
        have N4 : Hid (OldNew w (.slice A n c) (.slice x9.1 n x9.2)) := Lib.hid (by
          cases h : (Value.slice x9.1 n x9.2).ownBlock with
          | none =>
            exfalso
            rcases o5.2 with ⟨_, h3⟩ | ⟨g2, cap, cur, h2, _⟩
            · omega
            · rw [h2] at h; cases h
          | some k => exact .inr ⟨k, Nat.le_trans HKW.out.size (o5.lt k h).1, h⟩)
        have N5 : Hid (W8.ownsRow 0 67 2 (.slice (some ⟨gl, 0, none⟩) m c2) m (lcells ls)) := Lib.hid (k6.owns (k5.out.owns HL6.out (fun _ _ => id)) (fun k hk e => own_apart HL1.out HR1.out (by decide) k hk e))
        have N6 : Hid (Keeps (fun _ => False) w W8) := Lib.hid ((HKW6.out.trans k5.out).trans' k6 (fun i hi e => by omega))
        clear k5 o5 hr5 k6 hr2 hne HC0 HCA HCB HCO HSET HGS HR1 HR2 HG1 HON HL1 HKW HR6 HR26 HL6 HKW6
        go_wp2_with fail
        go_roundw
        case rel => exact ⟨i + 1, x9.1, x9.2, by omega, by omega, by go_num, N1, N2, N3, N4, N5, N6⟩
        case measure => simp [intOf]; omega
      · have hb255 : ((cn : Int) == 255) = false := by rw [beq_eq_false_iff_ne]; omega
        rw [if_neg h255] at hkk
        rw [hkk] at hsl1 hsl2
        have hwr : IntKind.i64.wrap (cn : Int) = cn := IntWalk.i64_in _ (by omega)
        have hwr' : wrap64 (cn : Int) = cn := IntWalk.wrap64_in _ (by omega)
        go_wp2_with (first
          | (refine wpList_load_mid (by rfl) 67 (.tmp 30) (by rfl) gl (i * 2) (by rfl) [.int .i64 (p.1 : Int), .string sp] _ HRG.out Try.underlying67 rfl size_L ?_)
          | (refine wpList_store_row (by rfl) 67 (.tmp 7) (.tmp 31) (by rfl) b3 RL (by rfl) (by rw [← HRL.out]; rfl) 67 ZL R5.out RLS.out (ZLS.out.trans RLN.out.symm) RLO.out ?_; rw [hW6]))
        refine wp_region_stores 19 [17] [0, 1, 2, 3, 4, 5, 6, 7, 8, 9, 10, 11, 12, 13, 14, 15, 16, 17, 18] (Later W6) (fun _ => True) (by kernel_rfl) (by kernel_rfl) (Lasts.later _) (Lasts.true) (⟨(Keeps.refl _ _).drew⟩) (trivial) ?_
        refine T_value (get_op rfl) (by rfl) (by rfl) (.pointer (some ⟨b1, 0, none⟩)) (fun _ _ => by go_simp) ?_
        simp only [Act.put, List.setIfInBounds_toArray, List.set_cons_zero, List.set_cons_succ]
        refine T_cell (get_op rfl) (by rfl) (by rfl) 28 (.tmp 32) (by rfl) ⟨b1, 0, none⟩ (by rfl) (.slice (some ⟨gg, 0, none⟩) n c1) _ (fun V hV => HC0.out V hV) Try.underlying28 rfl ?_
        simp only [Act.put, List.setIfInBounds_toArray, List.set_cons_zero, List.set_cons_succ]
        refine T_value (get_op rfl) (by rfl) (by rfl) (.pointer (some ⟨b3, 0, none⟩)) (fun _ _ => by go_simp) ?_
        simp only [Act.put, List.setIfInBounds_toArray, List.set_cons_zero, List.set_cons_succ]
        refine T_cell (get_op rfl) (by rfl) (by rfl) 3 (.tmp 34) (by rfl) ⟨b3, 0, none⟩ (by rfl) (.int .i64 (p.1 : Int)) _ (fun V hV => HCA.out V hV) Try.underlying3 rfl ?_
        simp only [Act.put, List.setIfInBounds_toArray, List.set_cons_zero, List.set_cons_succ]
        refine T_value (get_op rfl) (by rfl) (by rfl) (.pointer (some ⟨b3, 1, none⟩)) (fun _ _ => by go_simp) ?_
        simp only [Act.put, List.setIfInBounds_toArray, List.set_cons_zero, List.set_cons_succ]
        refine T_cell (get_op rfl) (by rfl) (by rfl) 9 (.tmp 36) (by rfl) ⟨b3, 1, none⟩ (by rfl) (.string sp) _ (fun V hV => HCB.out V hV) Try.underlying9 rfl ?_
        simp only [Act.put, List.setIfInBounds_toArray, List.set_cons_zero, List.set_cons_succ]
        refine T_value (get_op rfl) (by rfl) (by rfl) (.int .i64 (cn : Int)) (fun _ _ => by go_simp) ?_
        simp only [Act.put, List.setIfInBounds_toArray, List.set_cons_zero, List.set_cons_succ]
        refine T_value (get_op rfl) (by rfl) (by rfl) (.string s1) (fun _ _ => by go_simp) ?_
        simp only [Act.put, List.setIfInBounds_toArray, List.set_cons_zero, List.set_cons_succ]
        refine T_value (get_op rfl) (by rfl) (by rfl) (.pointer (some ⟨b1, 0, none⟩)) (fun _ _ => by go_simp) ?_
        simp only [Act.put, List.setIfInBounds_toArray, List.set_cons_zero, List.set_cons_succ]
        refine T_cell (get_op rfl) (by rfl) (by rfl) 28 (.tmp 40) (by rfl) ⟨b1, 0, none⟩ (by rfl) (.slice (some ⟨gg, 0, none⟩) n c1) _ (fun V hV => HC0.out V hV) Try.underlying28 rfl ?_
        simp only [Act.put, List.setIfInBounds_toArray, List.set_cons_zero, List.set_cons_succ]
        refine T_value (get_op rfl) (by rfl) (by rfl) (.pointer (some ⟨b3, 0, none⟩)) (fun _ _ => by go_simp) ?_
        simp only [Act.put, List.setIfInBounds_toArray, List.set_cons_zero, List.set_cons_succ]
        refine T_cell (get_op rfl) (by rfl) (by rfl) 3 (.tmp 42) (by rfl) ⟨b3, 0, none⟩ (by rfl) (.int .i64 (p.1 : Int)) _ (fun V hV => HCA.out V hV) Try.underlying3 rfl ?_
        simp only [Act.put, List.setIfInBounds_toArray, List.set_cons_zero, List.set_cons_succ]
        refine T_value (get_op rfl) (by rfl) (by rfl) (.pointer (some ⟨gg, p.1, none⟩)) (fun _ _ => by go_simp) ?_
        simp only [Act.put, List.setIfInBounds_toArray, List.set_cons_zero, List.set_cons_succ]
        refine T_cell (get_op rfl) (by rfl) (by rfl) 9 (.tmp 44) (by rfl) ⟨gg, p.1, none⟩ (by rfl) (.string so) _ (fun V hV => HCO.out V hV) Try.underlying9 rfl ?_
        simp only [Act.put, List.setIfInBounds_toArray, List.set_cons_zero, List.set_cons_succ]
        refine T_value (get_op rfl) (by rfl) (by rfl) (.int .i64 (cn : Int)) (fun _ _ => by go_simp) ?_
        simp only [Act.put, List.setIfInBounds_toArray, List.set_cons_zero, List.set_cons_succ]
        refine T_value (get_op rfl) (by rfl) (by rfl) (.string s2) (fun _ _ => by go_simp) ?_
        simp only [Act.put, List.setIfInBounds_toArray, List.set_cons_zero, List.set_cons_succ]
        refine T_value (get_op rfl) (by rfl) (by rfl) (.string s3) (fun _ _ => by go_simp) ?_
        simp only [Act.put, List.setIfInBounds_toArray, List.set_cons_zero, List.set_cons_succ]
        refine T_enterR (get_op rfl) (by rfl) (by rfl) _ _ (fun x : Option Addr × Nat => .slice x.1 n x.2) (fun x y h => by cases x; cases y; simp at h; simp [h]) (fun _ => by go_simp) (fun x V => V.ownsRow wr.heap.size 9 1 (.slice x.1 n x.2) n (svals (gs.set p.1 bn))) (fun x w w' h hk => hk.owns h (fun _ _ => id)) (fun V hb hf => HSET.out V hb) ?_
        intro x9
        simp only [Act.put, List.setIfInBounds_toArray, List.set_cons_zero, List.set_cons_succ]
        refine T_value (get_op rfl) (by rfl) (by rfl) (.pointer (some ⟨b1, 0, none⟩)) (fun _ _ => by go_simp) ?_
        simp only [Act.put, List.setIfInBounds_toArray, List.set_cons_zero, List.set_cons_succ]
        refine T_nil ?_
        intro V5 k5 o5
        simp only [List.drop_succ_cons, List.drop_zero]
        have hr5 := HR6.out.keeps k5.out id
        have hc5 : V5.cell? ⟨b1, 0, none⟩ = some (.slice (some ⟨gg, 0, none⟩) n c1) := hr5.cell 0
        have hf5 := hr5.frozen 0
        obtain ⟨W8, hW8⟩ : ∃ V, V5.setCell ⟨b1, 0, none⟩ (.slice x9.1 n x9.2) = V := ⟨_, rfl⟩
        have k6 : Keeps (fun k => k = b1) V5 W8 := by rw [← hW8]; exact (Keeps.refl (fun k => k = b1) V5).setCell (p := ⟨b1, 0, none⟩) (fun _ => rfl) _
        have hr2 : V5.heap[b2]? = some (.cells Z 31 (0, 0)) := (k5.out.block b2 (Array.getElem?_eq_some_iff.1 HR26.out).1 id).trans HR26.out
        have hne : ∀ k, (Value.slice x9.1 n x9.2).ownBlock = some k → k ≠ b1 := fun k hk e => by
          have := (o5.lt k hk).1
          have := HR1.out.lt
          omega
        have N1 : Hid (Row W8 b1 31 (rrow x9.1 n x9.2 (some ⟨gl, 0, none⟩) m c2 f d)) := Lib.hid (by rw [← hW8]; exact hr5.set 0 _)
        have N2 : Hid (W8.heap[b2]? = some (.cells Z 31 (0, 0))) := Lib.hid ((k6.block b2 (Array.getElem?_eq_some_iff.1 hr2).1 (fun e => by omega)).trans hr2)
        have N3 : Hid (W8.ownsRow 0 9 1 (.slice x9.1 n x9.2) n (svals (Go.Proofs.Ytonokeldlknadaa.gl n (Dk.crash g (ls.take (i + 1)) (fs.take (i + 1)))))) := Lib.hid (by rw [← HGS.out]; exact k6.owns (own_base o5 (Nat.zero_le _)) (fun k hk e => hne k hk e))
        have N4 : Hid (OldNew w (.slice A n c) (.slice x9.1 n x9.2)) := Lib.hid (by
          cases h : (Value.slice x9.1 n x9.2).ownBlock with
          | none =>
            exfalso
            rcases o5.2 with ⟨_, h3⟩ | ⟨g2, cap, cur, h2, _⟩
            · omega
            · rw [h2] at h; cases h
          | some k => exact .inr ⟨k, Nat.le_trans HKW.out.size (o5.lt k h).1, h⟩)
        have N5 : Hid (W8.ownsRow 0 67 2 (.slice (some ⟨gl, 0, none⟩) m c2) m (lcells ls)) := Lib.hid (k6.owns (k5.out.owns HL6.out (fun _ _ => id)) (fun k hk e => own_apart HL1.out HR1.out (by decide) k hk e))
        have N6 : Hid (Keeps (fun _ => False) w W8) := Lib.hid ((HKW6.out.trans k5.out).trans' k6 (fun i hi e => by omega))
        clear k5 o5 hr5 k6 hr2 hne HC0 HCA HCB HCO HSET HGS HR1 HR2 HG1 HON HL1 HKW HR6 HR26 HL6 HKW6
        go_wp2_with fail
        go_roundw
        case rel => exact ⟨i + 1, x9.1, x9.2, by omega, by omega, by go_num, N1, N2, N3, N4, N5, N6⟩
        case measure => simp [intOf]; omega
    · by_cases hlm : i < m
      · obtain rfl : fs.length = i := by omega
        have hii : ((fs.length : Nat) : Int) < (m : Int) := by omega
        have hff : ¬ ((fs.length : Nat) : Int) < (sf.size : Int) := by rw [HSZ.out]; omega
        have ht : Dk.crash g (ls.take fs.length) (fs.take fs.length) = Dk.crash g ls fs := Dk.crash_cut g ls fs fs.length (by rw [HLL.out]; omega)
        have hg1 := HG1.out
        rw [ht] at hg1
        have hc0 : wr.cell? ⟨b1, 0, none⟩ = some (.slice A1 n c1) := HR1.out.cell 0
        obtain ⟨RD, hRD⟩ : ∃ R, (rrow A1 n c1 none 0 0 (-1) false).toArray = R := ⟨_, rfl⟩
        have RDN : Hid (RD.size = 4) := Lib.hid (by rw [← hRD]; rfl)
        have RDS : Hid ((Try.prog.info? 31).map (·.size) = some RD.size) := Lib.hid (by rw [RDN.out]; exact size_D)
        have RDO : Hid (RD.all (·.oneCell') = true) := Lib.hid (by rw [← hRD]; exact rrow_one _ _ _ _ _ _ _ _)
        obtain ⟨W8, hW8⟩ : ∃ V, wr.setRow b2 RD = V := ⟨_, rfl⟩
        have k8 : Keeps (fun k => k = b2) wr W8 := by rw [← hW8]; exact Keeps.setRow _ _
        have R8 : Hid (W8.heap[b2]? = some (.cells RD 31 (0, 0))) := Lib.hid (by rw [← hW8]; exact setRow_heap _ _ _ _ _ _ HR2.out)
        have hne : ∀ k, (Value.slice A1 n c1).ownBlock = some k → k ≠ b2 := fun k hk => by
          obtain ⟨cur, hc, _⟩ := own_block hg1 k hk
          intro e
          rw [e, HR2.out] at hc
          simp at hc
        have HO8 : Hid (W8.ownsRow 0 9 1 (.slice A1 n c1) n (svals (gl n (Dk.crash g ls fs)))) := Lib.hid (k8.owns hg1 (fun k hk e => hne k hk e))
        have K8 : Hid (Keeps (fun _ => False) w W8) := Lib.hid (HKW.out.trans' k8 (fun i hi e => by omega))
        have HEQ := Lib.hid hRD
        have hbd : ∀ V : World, (Instr.build 31 #[(0, .slice A1 n c1), (2, .int .i64 (-1))]).run Try.prog V = .ok (.agg RD) V := fun V => by rw [build_D, hRD]
        clear ht hg1 k8 hne hRD HG1 HL1 HKW hz
        go_wp2_with (first
          | (refine wpList_store_row (by rfl) 31 (.tmp 4) (.tmp 53) (by rfl) b2 RD (by rfl) (by rw [← HEQ.out]; rfl) 31 Z HR2.out RDS.out (ZS.out.trans RDN.out.symm) RDO.out ?_; rw [hW8]))
        refine bodyPost_ret (results_cell_row rfl _ _ b2 31 RD (0, 0) _ rfl R8.out Try.underlying31 rfl RDS.out) rfl ?_
        exact ⟨A1, c1, by rw [HEQ.out], HO8.out, HON.out, K8.out⟩
      · obtain rfl : m = i := by omega
        have hii : ¬ ((m : Nat) : Int) < (m : Int) := by omega
        have ht : Dk.crash g (ls.take m) (fs.take m) = Dk.crash g ls fs := Dk.crash_cut g ls fs m (by rw [HLL.out]; omega)
        have hg1 := HG1.out
        rw [ht] at hg1
        have hc0 : wr.cell? ⟨b1, 0, none⟩ = some (.slice A1 n c1) := HR1.out.cell 0
        obtain ⟨RD, hRD⟩ : ∃ R, (rrow A1 n c1 none 0 0 (-1) false).toArray = R := ⟨_, rfl⟩
        have RDN : Hid (RD.size = 4) := Lib.hid (by rw [← hRD]; rfl)
        have RDS : Hid ((Try.prog.info? 31).map (·.size) = some RD.size) := Lib.hid (by rw [RDN.out]; exact size_D)
        have RDO : Hid (RD.all (·.oneCell') = true) := Lib.hid (by rw [← hRD]; exact rrow_one _ _ _ _ _ _ _ _)
        obtain ⟨W8, hW8⟩ : ∃ V, wr.setRow b2 RD = V := ⟨_, rfl⟩
        have k8 : Keeps (fun k => k = b2) wr W8 := by rw [← hW8]; exact Keeps.setRow _ _
        have R8 : Hid (W8.heap[b2]? = some (.cells RD 31 (0, 0))) := Lib.hid (by rw [← hW8]; exact setRow_heap _ _ _ _ _ _ HR2.out)
        have hne : ∀ k, (Value.slice A1 n c1).ownBlock = some k → k ≠ b2 := fun k hk => by
          obtain ⟨cur, hc, _⟩ := own_block hg1 k hk
          intro e
          rw [e, HR2.out] at hc
          simp at hc
        have HO8 : Hid (W8.ownsRow 0 9 1 (.slice A1 n c1) n (svals (gl n (Dk.crash g ls fs)))) := Lib.hid (k8.owns hg1 (fun k hk e => hne k hk e))
        have K8 : Hid (Keeps (fun _ => False) w W8) := Lib.hid (HKW.out.trans' k8 (fun i hi e => by omega))
        have HEQ := Lib.hid hRD
        have hbd : ∀ V : World, (Instr.build 31 #[(0, .slice A1 n c1), (2, .int .i64 (-1))]).run Try.prog V = .ok (.agg RD) V := fun V => by rw [build_D, hRD]
        clear ht hg1 k8 hne hRD HG1 HL1 HKW hz
        go_wp2_with (first
          | (refine wpList_store_row (by rfl) 31 (.tmp 4) (.tmp 53) (by rfl) b2 RD (by rfl) (by rw [← HEQ.out]; rfl) 31 Z HR2.out RDS.out (ZS.out.trans RDN.out.symm) RDO.out ?_; rw [hW8]))
        refine bodyPost_ret (results_cell_row rfl _ _ b2 31 RD (0, 0) _ rfl R8.out Try.underlying31 rfl RDS.out) rfl ?_
        exact ⟨A1, c1, by rw [HEQ.out], HO8.out, HON.out, K8.out⟩
end Go.Proofs.Ytonokeldlknadaa
