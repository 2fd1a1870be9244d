/-
  The document's own disk: New. WRITTEN BY wip/gen/mkrkf.py.
-/
import Derived.Test.YtonokeldlknadaaRkE
import Derived.Test.YtonokeldlknadaaDkRb
namespace Go.Proofs.Ytonokeldlknadaa
open Go.RowKit Go.BigFrame
set_option linter.unusedVariables false

section
variable {P : Program} {ops : Array Oper} {B : World → Prop} {ls : List Nat} {E : Act → World → Prop} {k : Nat} {o : Oper} {rest : List Nat} {a : Act} {F : World → Prop}
/-- A slice is made. -/
theorem T_makes (h0 : ops[k]? = some o) (hw : Region.wanted o (yielded ops a.tmps) = true) (hk : ls.contains k = true) (t e : TypeId) (n : Nat) (x y : Operand) (ho : o.op = .makeSlice t x y) (vx vy : Value) (hx : a.eval x = vx) (hy : a.eval y = vy) (cs : Array Value)
    (hrun : ∀ w, (Instr.makeSlice t vx vy).run P w = .ok (.slice (some ⟨w.heap.size, 0, none⟩) n n) (w.alloc (.cells cs e))) (hB : Lasts B) (hF : Lasts F) (n0 : Nat) (hn : ∀ w, B w → n0 ≤ w.heap.size)
    (h : ∀ g, n0 ≤ g → wpT P ops B ls E rest (a.put o.dst (.slice (some ⟨g, 0, none⟩) n n)) (fun w => F w ∧ w.heap[g]? = some (.cells cs e (0, 0)))) : wpT P ops B ls E (k :: rest) a F := by
  refine T_loose h0 hw hk (fun v => ∃ g, n0 ≤ g ∧ v = .slice (some ⟨g, 0, none⟩) n n) (fun v w => F w ∧ ∀ g, v = .slice (some ⟨g, 0, none⟩) n n → w.heap[g]? = some (.cells cs e (0, 0))) ⟨fun v => ?_, fun w hb hf => ?_⟩ ?_
  · exact hF.and (fun w w' hq hk g hv => (hk.block g (Array.getElem?_eq_some_iff.1 (hq g hv)).1 id).trans (hq g hv))
  · unfold execOp
    simp only [ho, hx, hy, Sem.run_bind, Sem.run_pure, Result.andThen_ok, hrun]
    refine ⟨hB _ _ hb ((Keeps.refl _ _).alloc _), ⟨_, hn w hb, rfl⟩, hF _ _ hf ((Keeps.refl _ _).alloc _), fun g hv => ?_⟩
    injection hv with hv
    injection hv with hv
    injection hv with hv
    subst hv
    exact heap_alloc_new w _
  · rintro v ⟨g, hg, rfl⟩
    exact T_alloc.wpT_weak (fun w hh => ⟨hh.1, hh.2 g rfl⟩) (h g hg)
/-- A conversion that reads what is new. -/
theorem T_lconv (h0 : ops[k]? = some o) (hw : Region.wanted o (yielded ops a.tmps) = true) (hk : ls.contains k = true) (t1 t2 : TypeId) (x : Operand) (ho : o.op = .convert t1 t2 x) (u : Value) (hx : a.eval x = u) (v : Value) (hF : Lasts F) (hrun : ∀ w, B w → F w → (convert t1 t2 u).run P w = .ok v w)
    (h : wpT P ops B ls E rest (a.put o.dst v) F) : wpT P ops B ls E (k :: rest) a F := by
  refine T_loose h0 hw hk (fun x => x = v) (fun _ w => F w) ⟨fun _ => hF, fun w hb hf => ?_⟩ ?_
  · unfold execOp
    simp only [ho, hx, Sem.run_bind, Sem.run_pure, Result.andThen_ok, hrun w hb hf]
    exact ⟨hb, rfl, hf⟩
  · rintro _ rfl
    exact h
end
theorem wpList_made {P : Program} {w : World} {ops : Array Oper} {rest : List Oper} {o : Oper} {a : Act} {Q : Exit → Act → World → Prop} (hgd : o.guard = none) (t : TypeId) (parts : List (Nat × Operand)) (ho : o.op = .build t parts.toArray) (vs : List (Nat × Value)) (hx : parts.map (fun (i, x) => (i, a.eval x)) = vs)
    (v : Value) (hrun : ∀ w, (Instr.build t vs.toArray).run P w = .ok v w) (h : wpList P ops Q rest (a.put o.dst v) w) : wpList P ops Q (o :: rest) a w := by
  refine wpList_plain hgd fun _ hK => ?_
  unfold Oper.wp execOp
  simp only [ho, List.map_toArray, hx, Sem.run_bind, Sem.run_pure, Result.andThen_ok, hrun]
  exact hK _ _ h
theorem build_D0 (V : World) : (Instr.build 31 #[]).run Try.prog V = .ok (.agg #[.slice none 0 0, .slice none 0 0, .int .i64 0, .bool false]) V := by kernel_rfl
theorem build_D1 (V : World) : (Instr.build 31 #[(2, .int .i64 (-1))]).run Try.prog V = .ok (.agg (rrow none 0 0 none 0 0 (-1) false).toArray) V := by kernel_rfl
theorem build_str (s : ByteArray) (V : World) : (Instr.buildSlice 28 1 #[(0, .string s)]).run Try.prog V = .ok (.slice (some ⟨V.heap.size, 0, none⟩) 1 1) (V.alloc (.cells #[.string s] 9)) := by kernel_rfl
set_option maxRecDepth 100000 in
set_option maxHeartbeats 4000000 in
theorem rnew_ok (n : Nat) (h1n : 1 ≤ n) (hn : n ≤ 1000) (w : World) :
    Calls Try.prog 11 #[.int .i64 (n : Int)] w fun e w' => ∃ A' c', e = .returned (.tuple #[.agg (rrow A' n c' none 0 0 (-1) false).toArray, .int .i64 0]) ∧ w'.ownsRow 0 9 1 (.slice A' n c') n (svals (gl n fun _ => Dk.nought)) ∧ (∀ k, (Value.slice A' n c').ownBlock = some k → w.heap.size ≤ k) ∧ Keeps (fun _ => False) w w' := by
  obtain ⟨Z, hZ⟩ : ∃ Z : Array Value, (#[.slice none 0 0, .slice none 0 0, .int .i64 0, .bool false] : Array Value) = Z := ⟨_, rfl⟩
  have hz : ∀ V : World, (zeroValue 31).run Try.prog V = .ok (.agg Z) V := fun V => by rw [← hZ]; exact zero_D V
  have ZS : Hid (Z.size = 4) := Lib.hid (by rw [← hZ]; rfl)
  obtain ⟨RB, hRB⟩ : ∃ R, (rrow none 0 0 none 0 0 (-1) false).toArray = R := ⟨_, rfl⟩
  have RBN : Hid (RB.size = 4) := Lib.hid (by rw [← hRB]; rfl)
  have RBS : Hid ((Try.prog.info? 31).map (·.size) = some RB.size) := Lib.hid (by rw [RBN.out]; exact size_D)
  have RBO : Hid (RB.all (·.oneCell') = true) := Lib.hid (by rw [← hRB]; exact rrow_one _ _ _ _ _ _ _ _)
  obtain ⟨b1, hb1⟩ : ∃ x, w.heap.size = x := ⟨_, rfl⟩
  obtain ⟨W1, hW1⟩ : ∃ V, w.alloc (.cells Z 31) = V := ⟨_, rfl⟩
  obtain ⟨b2, hb2⟩ : ∃ x, W1.heap.size = x := ⟨_, rfl⟩
  obtain ⟨W2, hW2⟩ : ∃ V, W1.alloc (.cells Z 31) = V := ⟨_, rfl⟩
  have k1 : Keeps (fun _ => False) w W1 := by rw [← hW1]; exact (Keeps.refl _ _).alloc _
  have k2 : Keeps (fun _ => False) W1 W2 := by rw [← hW2]; exact (Keeps.refl _ _).alloc _
  have r1 : W2.heap[b1]? = some (.cells Z 31 (0, 0)) := (k2.block b1 (by rw [← hW1, ← hb1]; simp) id).trans (by rw [← hW1, ← hb1]; exact heap_alloc_new w _)
  have r2 : W2.heap[b2]? = some (.cells Z 31 (0, 0)) := by rw [← hW2, ← hb2]; exact heap_alloc_new W1 _
  have hb12 : b1 < b2 := by rw [← hb1, ← hb2, ← hW1]; simp
  have hwb : w.heap.size ≤ b1 := by omega
  have kk := k1.trans k2
  clear k1 k2
  obtain ⟨W3, hW3⟩ : ∃ V, W2.setRow b2 RB = V := ⟨_, rfl⟩
  have k3 : Keeps (fun k => k = b2) W2 W3 := by rw [← hW3]; exact Keeps.setRow _ _
  have r23 : Row W3 b2 31 (rrow none 0 0 none 0 0 (-1) false) := by show _ = some (Obj.cells (_ : List Value).toArray _ _); rw [hRB, ← hW3]; exact setRow_heap _ _ _ _ _ _ r2
  have r13 : W3.heap[b1]? = some (.cells Z 31 (0, 0)) := (k3.block b1 (Array.getElem?_eq_some_iff.1 r1).1 (fun e => by omega)).trans r1
  have hbd : ∀ V : World, (Instr.build 31 #[(2, .int .i64 (-1))]).run Try.prog V = .ok (.agg RB) V := fun V => by rw [build_D1, hRB]
  obtain ⟨i0, hi0, hz0, hs0, hb0⟩ := info_parts info_str
  have HII := Lib.hid (And.intro hi0 (And.intro hz0 (And.intro hs0 hb0)))
  obtain ⟨ZR, hZR⟩ : ∃ l, bvs Dk.nought = l := ⟨_, rfl⟩
  obtain ⟨s0, hs00⟩ : ∃ s, strOf Dk.nought = s := ⟨_, rfl⟩
  have HMK : Hid (∀ V : World, (Instr.makeSlice 34 (.int .i64 256) (.int .i64 256)).run Try.prog V = .ok (.slice (some ⟨V.heap.size, 0, none⟩) 256 256) (V.alloc (.cells ZR.toArray 5))) := Lib.hid (fun V => by rw [← hZR]; exact make_zeros 256 (by decide) V)
  have HCV : Hid (∀ (V : World) (g : Nat), V.heap[g]? = some (.cells ZR.toArray 5 (0, 0)) → (convert 34 9 (.slice (some ⟨g, 0, none⟩) 256 256)).run Try.prog V = .ok (.string s0) V) := Lib.hid (fun V g hr => by
    have hrw : Row V g 5 ZR := hr
    rw [← hZR] at hrw
    have h := run_string_src (P := Try.prog) V 34 9 5 Try.underlying34 Try.underlying5 Try.underlying9 (some ⟨g, 0, none⟩) Dk.nought 256 hrw.src
    rw [hs00, show Dk.nought.length = 256 from by unfold Dk.nought; rw [List.length_replicate]] at h
    exact h)
  have HBS : Hid (∀ V : World, (Instr.buildSlice 28 1 #[(0, .string s0)]).run Try.prog V = .ok (.slice (some ⟨V.heap.size, 0, none⟩) 1 1) (V.alloc (.cells #[.string s0] 9))) := Lib.hid (build_str s0)
  have HS0 := Lib.hid hs00
  have HRB := Lib.hid hRB
  have HBD := Lib.hid hbd
  have R2 := Lib.hid r2
  have KW3 : Hid (Keeps (fun _ => False) w W3) := Lib.hid (kk.trans' k3 (fun i hi e => by omega))
  have R23 := Lib.hid r23
  have R13 := Lib.hid r13
  have HO3 : Hid (W3.ownsRow 0 9 1 (.slice none 0 0) 0 (svals (gl 0 fun _ => Dk.nought))) := Lib.hid (World.ownsRow_nil _ _ _ _)
  have h2 : ¬ (n : Int) < 1 := by omega
  have h3 : ¬ (n : Int) > 65536 := by omega
  clear r1 r2 r13 r23 k3 kk hZ hbd hRB hi0 hz0 hs0 hb0 hs00 hZR
  go_enter Try.func11, Try.ntmps11
  go_wp2_with (first
    | (refine wpList_made (by rfl) 31 [(2, .const (.int .i64 (-1)))] (by rfl) [(2, .int .i64 (-1))] (by rfl) (.agg RB) HBD.out ?_)
    | (refine wpList_store_row (by rfl) 31 (.tmp 4) (.tmp 13) (by rfl) b2 RB (by rfl) (by rfl) 31 Z R2.out RBS.out (ZS.out.trans RBN.out.symm) RBO.out ?_; rw [hW3]))
  go_loopw [5] (fun iv wr => ∃ (i : Nat) (A1 : Option Addr) (c1 : Nat), i ≤ n ∧ iv = .int .i64 (i : Int) ∧ Hid (Row wr b2 31 (rrow A1 i c1 none 0 0 (-1) false)) ∧ Hid (wr.heap[b1]? = some (.cells Z 31 (0, 0))) ∧ Hid (wr.ownsRow 0 9 1 (.slice A1 i c1) i (svals (gl i fun _ => Dk.nought))) ∧ Hid (∀ k, (Value.slice A1 i c1).ownBlock = some k → w.heap.size ≤ k) ∧ Hid (Keeps (fun _ => False) w wr)) (fun iv _ => n - (intOf iv).toNat)
  case atStart => exact ⟨0, none, 0, by omega, rfl, R23, R13, HO3, Lib.hid (fun k hk => by cases hk), KW3⟩
  case round =>
    clear R23 R13 HO3 KW3 R2
    obtain ⟨i, A1, c1, hi, rfl, HR2, HR1, HO1, HNB, HKW⟩ := hrel
    by_cases hlt : i < n
    · have hii : (i : Int) < (n : Int) := by omega
      obtain ⟨XS, hXS⟩ : ∃ l, svals (gl i fun _ => Dk.nought) = l := ⟨_, rfl⟩
      have HOWN : Hid (wr.ownsRow 0 9 1 (.slice A1 i c1) i XS) := Lib.hid (by rw [← hXS]; exact HO1.out)
      have HXS : Hid (XS ++ [.string s0] = svals (gl (i + 1) fun _ => Dk.nought)) := Lib.hid (by
        rw [← hXS, ← HS0.out]
        unfold gl
        rw [List.range_succ, List.map_append]
        unfold svals
        rw [List.map_append]
        rfl)
      have hne2 : ∀ k, (Value.slice A1 i c1).ownBlock = some k → k ≠ b2 := fun k hk => own_apart HO1.out HR2.out (by decide) k hk
      have hne1 : ∀ k, (Value.slice A1 i c1).ownBlock = some k → k ≠ b1 := fun k hk => by
        obtain ⟨cur, hc, _⟩ := own_block HO1.out k hk
        intro e
        rw [e, HR1.out] at hc
        simp at hc
      have HD2 : Hid (∀ V, Keeps (fun k => (Value.slice A1 i c1).ownBlock = some k) wr V → V.cell? ⟨b2, 0, none⟩ = some (.slice A1 i c1)) := Lib.hid (fun V hV => (HR2.out.keeps hV (fun e => hne2 _ e rfl)).cell 0)
      have HNE2 := Lib.hid hne2
      have HNE1 := Lib.hid hne1
      clear hne1 hne2 hXS
      go_wp2_with fail
      refine wp_region_stores 7 [2, 3, 4, 5] [0, 1, 2, 3, 4, 5, 6] (fun V => Keeps (fun k => (Value.slice A1 i c1).ownBlock = some k) wr V) (fun V => V.ownsRow 0 9 1 (.slice A1 i c1) i XS) (by kernel_rfl) (by kernel_rfl) (fun _ _ h k => h.trans' k (fun _ _ h => h.elim)) (fun _ _ h k => k.owns h (fun _ _ => id)) (((Keeps.refl _ _).drew)) (HOWN.out) ?_
      refine T_value (get_op rfl) (by rfl) (by rfl) (.pointer (some ⟨b2, 0, none⟩)) (fun _ _ => by go_simp) ?_
      simp only [Act.put, List.setIfInBounds_toArray, List.set_cons_zero, List.set_cons_succ]
      refine T_cell (get_op rfl) (by rfl) (by rfl) 28 (.tmp 19) (by rfl) ⟨b2, 0, none⟩ (by rfl) (.slice A1 i c1) _ (fun V hV => HD2.out V hV) Try.underlying28 rfl ?_
      simp only [Act.put, List.setIfInBounds_toArray, List.set_cons_zero, List.set_cons_succ]
      refine T_makes (get_op rfl) (by rfl) (by rfl) 34 5 256 _ _ (by rfl) (.int .i64 256) (.int .i64 256) (by rfl) (by rfl) ZR.toArray HMK.out (fun _ _ h k => h.trans' k (fun _ _ h => h.elim)) (fun _ _ h k => k.owns h (fun _ _ => id)) wr.heap.size (fun V hV => hV.size) ?_
      intro g21 hg21
      simp only [Act.put, List.setIfInBounds_toArray, List.set_cons_zero, List.set_cons_succ]
      refine T_lconv (get_op rfl) (by rfl) (by rfl) 34 9 (.tmp 21) (by rfl) (.slice (some ⟨g21, 0, none⟩) 256 256) (by rfl) (.string s0) (Lasts.and (F := fun V => V.ownsRow 0 9 1 (.slice A1 i c1) i XS) (fun _ _ h k => k.owns h (fun _ _ => id)) (Lasts.block g21 _)) (fun V hb hf => HCV.out V g21 hf.2) ?_
      simp only [Act.put, List.setIfInBounds_toArray, List.set_cons_zero, List.set_cons_succ]
      refine T_build (get_op rfl) (by rfl) (by rfl) 28 9 (.tmp 22) (.string s0) #[.string s0] (by rfl) (by rfl) HBS.out (fun _ _ h k => h.trans' k (fun _ _ h => h.elim)) (Lasts.and (F := fun V => V.ownsRow 0 9 1 (.slice A1 i c1) i XS) (fun _ _ h k => k.owns h (fun _ _ => id)) (Lasts.block g21 _)) wr.heap.size (fun V hV => hV.size) ?_
      intro g23 hg23
      simp only [Act.put, List.setIfInBounds_toArray, List.set_cons_zero, List.set_cons_succ]
      refine T_append_own (get_op rfl) (by rfl) (by rfl) 28 (.tmp 20) (.tmp 23) (by rfl) 9 i0 (.string ByteArray.empty) 1 16 Try.underlying28 HII.out.1 HII.out.2.1 HII.out.2.2.1 HII.out.2.2.2 rfl (by decide) A1 i c1 XS (by rfl) g23 1 (by rfl) [.string s0] rfl (by intro u hu; simp at hu; subst hu; rfl) (by unfold maxLen; omega) (by omega) (fun A' c' V => V.ownsRow 0 9 1 (.slice A' (i + 1) c') (i + 1) (XS ++ [.string s0]) ∧ ((Value.slice A' (i + 1) c').ownBlock = (Value.slice A1 i c1).ownBlock ∨ ∃ k, wr.heap.size ≤ k ∧ (Value.slice A' (i + 1) c').ownBlock = some k)) (fun A' c' _ _ h k => ⟨k.owns h.1 (fun _ _ => id), h.2⟩) (fun V hb hf => ⟨hf.1.1, hf.2⟩) (fun V V' A' c' hb hf ho hg hat => ⟨hb.grown hg (fun k _ h => h), ho, hat.imp id (fun h => ⟨_, hb.size, h⟩)⟩) ?_
      intro A' c'
      simp only [Act.put, List.setIfInBounds_toArray, List.set_cons_zero, List.set_cons_succ]
      refine T_value (get_op rfl) (by rfl) (by rfl) (.pointer (some ⟨b2, 0, none⟩)) (fun _ _ => by go_simp) ?_
      simp only [Act.put, List.setIfInBounds_toArray, List.set_cons_zero, List.set_cons_succ]
      refine T_nil ?_
      intro V5 k5 r5
      simp only [List.drop_succ_cons, List.drop_zero]
      obtain ⟨o5, n5⟩ := r5
      have hr5 : Row V5 b2 31 (rrow A1 i c1 none 0 0 (-1) false) := HR2.out.keeps k5 (fun e => HNE2.out _ e rfl)
      have hc5 : V5.cell? ⟨b2, 0, none⟩ = some (.slice A1 i c1) := hr5.cell 0
      have hf5 := hr5.frozen 0
      obtain ⟨W8, hW8⟩ : ∃ V, V5.setCell ⟨b2, 0, none⟩ (.slice A' (i + 1) c') = V := ⟨_, rfl⟩
      have k6 : Keeps (fun k => k = b2) V5 W8 := by rw [← hW8]; exact (Keeps.refl (fun k => k = b2) V5).setCell (p := ⟨b2, 0, none⟩) (fun _ => rfl) _
      have hr1 : V5.heap[b1]? = some (.cells Z 31 (0, 0)) := (k5.block b1 (Array.getElem?_eq_some_iff.1 HR1.out).1 (fun e => HNE1.out _ e rfl)).trans HR1.out
      have N1 : Hid (Row W8 b2 31 (rrow A' (i + 1) c' none 0 0 (-1) false)) := Lib.hid (by rw [← hW8]; exact hr5.set 0 _)
      have N2 : Hid (W8.heap[b1]? = some (.cells Z 31 (0, 0))) := Lib.hid ((k6.block b1 (Array.getElem?_eq_some_iff.1 hr1).1 (fun e => by omega)).trans hr1)
      have N3 : Hid (W8.ownsRow 0 9 1 (.slice A' (i + 1) c') (i + 1) (svals (gl (i + 1) fun _ => Dk.nought))) := Lib.hid (by rw [← HXS.out]; exact k6.owns o5 (fun k hk => own_apart o5 hr5 (by decide) k hk))
      have N4 : Hid (∀ k, (Value.slice A' (i + 1) c').ownBlock = some k → w.heap.size ≤ k) := Lib.hid (fun k hk => by
        rcases n5 with h | ⟨k2, h4, h5⟩
        · exact HNB.out k (by rw [← h]; exact hk)
        · rw [h5] at hk
          injection hk with hk
          have := HKW.out.size
          omega)
      have N5 : Hid (Keeps (fun _ => False) w W8) := Lib.hid ((HKW.out.trans' k5 (fun j hj e => by have := HNB.out j e; omega)).trans' k6 (fun j hj e => by omega))
      clear k5 o5 n5 hr5 k6 hr1 HD2 HOWN HXS HR1 HR2 HO1 HNB HKW HNE1 HNE2
      go_wp2_with fail
      go_roundw
      case rel => exact ⟨i + 1, A', c', by omega, by go_num, N1, N2, N3, N4, N5⟩
      case measure => simp [intOf]; omega
    · obtain rfl : n = i := by omega
      have hii : ¬ ((n : Nat) : Int) < (n : Int) := by omega
      obtain ⟨RD, hRD⟩ : ∃ R, (rrow A1 n c1 none 0 0 (-1) false).toArray = R := ⟨_, rfl⟩
      have RDN : Hid (RD.size = 4) := Lib.hid (by rw [← hRD]; rfl)
      have RDS : Hid ((Try.prog.info? 31).map (·.size) = some RD.size) := Lib.hid (by rw [RDN.out]; exact size_D)
      have RDO : Hid (RD.all (·.oneCell') = true) := Lib.hid (by rw [← hRD]; exact rrow_one _ _ _ _ _ _ _ _)
      have r2d : wr.heap[b2]? = some (.cells RD 31 (0, 0)) := by rw [← hRD]; exact HR2.out
      obtain ⟨W8, hW8⟩ : ∃ V, wr.setRow b1 RD = V := ⟨_, rfl⟩
      have k8 : Keeps (fun k => k = b1) wr W8 := by rw [← hW8]; exact Keeps.setRow _ _
      have R8 : Hid (W8.heap[b1]? = some (.cells RD 31 (0, 0))) := Lib.hid (by rw [← hW8]; exact setRow_heap _ _ _ _ _ _ HR1.out)
      have R2D := Lib.hid r2d
      have HO8 : Hid (W8.ownsRow 0 9 1 (.slice A1 n c1) n (svals (gl n fun _ => Dk.nought))) := Lib.hid (k8.owns HO1.out (fun k hk e => by
        obtain ⟨cur, hc, _⟩ := own_block HO1.out k hk
        rw [e, HR1.out] at hc
        simp at hc))
      have K8 : Hid (Keeps (fun _ => False) w W8) := Lib.hid (HKW.out.trans' k8 (fun i hi e => by omega))
      have HEQ := Lib.hid hRD
      clear k8 r2d hRD HO1 HKW hz
      go_wp2_with (first
        | (refine wpList_load_row (by rfl) 31 (.tmp 4) (by rfl) b2 (by rfl) 31 RD (0, 0) _ R2D.out Try.underlying31 rfl RDS.out ?_)
        | (refine wpList_store_row (by rfl) 31 (.tmp 2) (.tmp 26) (by rfl) b1 RD (by rfl) (by rfl) 31 Z HR1.out RDS.out (ZS.out.trans RDN.out.symm) RDO.out ?_; rw [hW8]))
      refine bodyPost_ret (results_cell_tmp11 rfl _ _ b1 31 RD (0, 0) _ rfl R8.out Try.underlying31 rfl RDS.out) rfl ?_
      exact ⟨A1, c1, by rw [HEQ.out]; rfl, HO8.out, fun k hk => by have := HNB.out k hk; omega, K8.out⟩
set_option maxRecDepth 100000 in
set_option maxHeartbeats 1000000 in
theorem rnew_bad (n : Int) (hn : n < 1) (w : World) :
    Calls Try.prog 11 #[.int .i64 n] w fun e w' => e = .returned (.tuple #[.agg #[.slice none 0 0, .slice none 0 0, .int .i64 0, .bool false], .int .i64 1]) ∧ Keeps (fun _ => False) w w' := by
  obtain ⟨Z, hZ⟩ : ∃ Z : Array Value, (#[.slice none 0 0, .slice none 0 0, .int .i64 0, .bool false] : Array Value) = Z := ⟨_, rfl⟩
  have hz : ∀ V : World, (zeroValue 31).run Try.prog V = .ok (.agg Z) V := fun V => by rw [← hZ]; exact zero_D V
  have ZN : Hid (Z.size = 4) := Lib.hid (by rw [← hZ]; rfl)
  have ZS : Hid ((Try.prog.info? 31).map (·.size) = some Z.size) := Lib.hid (by rw [ZN.out]; exact size_D)
  have ZO : Hid (Z.all (·.oneCell') = true) := Lib.hid (by rw [← hZ]; simp [Value.oneCell'])
  obtain ⟨b1, hb1⟩ : ∃ x, w.heap.size = x := ⟨_, rfl⟩
  obtain ⟨W1, hW1⟩ : ∃ V, w.alloc (.cells Z 31) = V := ⟨_, rfl⟩
  have k1 : Keeps (fun _ => False) w W1 := by rw [← hW1]; exact (Keeps.refl _ _).alloc _
  have r1 : W1.heap[b1]? = some (.cells Z 31 (0, 0)) := by rw [← hW1, ← hb1]; exact heap_alloc_new w _
  obtain ⟨W2, hW2⟩ : ∃ V, W1.setRow b1 Z = V := ⟨_, rfl⟩
  have K2 : Hid (Keeps (fun _ => False) w W2) := Lib.hid (k1.trans' (T := fun k => k = b1) (by rw [← hW2]; exact Keeps.setRow _ _) (fun i hi e => by omega))
  have R1 := Lib.hid r1
  have R2 : Hid (W2.heap[b1]? = some (.cells Z 31 (0, 0))) := Lib.hid (by rw [← hW2]; exact setRow_heap _ _ _ _ _ _ r1)
  have hbd : ∀ V : World, (Instr.build 31 #[]).run Try.prog V = .ok (.agg Z) V := fun V => by rw [build_D0, hZ]
  have HZ := Lib.hid hZ
  rw [hZ]
  clear k1 r1 hZ
  go_enter Try.func11, Try.ntmps11
  go_wp2_with (first
    | (refine wpList_store_row (by rfl) 31 (.tmp 2) (.tmp 12) (by rfl) b1 Z (by rfl) (by first | rfl | (rw [← HZ.out]; rfl)) 31 Z R1.out ZS.out rfl ZO.out ?_; rw [hW2]))
  refine bodyPost_ret (results_cell_tmp11 rfl _ _ b1 31 Z (0, 0) _ rfl R2.out Try.underlying31 rfl ZS.out) rfl ?_
  exact ⟨rfl, K2.out⟩
end Go.Proofs.Ytonokeldlknadaa
