/-
  The law FrontierPlays: where there is nothing to play. WRITTEN BY wip/gen/mkfrpl.py.
-/
import Derived.Test.YtnnhbgaeohdojaaDoorFrRe
import Derived.Test.YtnnhbgaeohdojaaDoorFork
namespace Go.Proofs.YtnnhbgaeohdojaaDoor
open Go.RowKit Go.BigFrame
set_option linter.unusedVariables false

set_option maxRecDepth 100000 in
set_option maxHeartbeats 1000000 in
theorem fplays_out (n : Int) (A : Option Addr) (m c : Nat) (B : Option Addr) (m2 c2 : Nat) (W : World) (hT : Tabs W) (HFEW : Hid (∀ V, Keeps (fun _ => False) W V → Calls Tryd.prog 30 #[.slice B m2 c2] V fun e w' => e = .returned (.bool false) ∧ w' = V)) :
    Calls Tryd.prog 5 #[.int .u64 n, .slice A m c, .slice B m2 c2] W fun e W' => e = .returned (.bool true) ∧ Below W.heap.size W W' := by
  have HAW := Lib.hid (awake5_any W hT)
  clear hT
  go_enter Tryd.func5, Tryd.ntmps5
  go_wp2_with fail
  refine HAW.out.mono ?_
  rintro e1 w1 ⟨rfl, k1⟩
  go_wp2_with fail
  refine (HFEW.out w1 k1).mono ?_
  rintro e2 w2 ⟨rfl, rfl⟩
  go_wp2
  go_ret
  exact ⟨rfl, keeps_below3 k1⟩
set_option maxRecDepth 100000 in
set_option maxHeartbeats 1000000 in
theorem fplays_long (n : Int) (A : Option Addr) (m c : Nat) (B : Option Addr) (m2 c2 : Nat) (W : World) (hT : Tabs W) (hm : 70 < m) (HFEW : Hid (∀ V, Keeps (fun _ => False) W V → Calls Tryd.prog 30 #[.slice B m2 c2] V fun e w' => e = .returned (.bool true) ∧ w' = V)) :
    Calls Tryd.prog 5 #[.int .u64 n, .slice A m c, .slice B m2 c2] W fun e W' => e = .returned (.bool true) ∧ Below W.heap.size W W' := by
  have HAW := Lib.hid (awake5_any W hT)
  have hm' : (70 : Int) < m := by omega
  have hmd : decide ((70 : Int) < m) = true := by simp; omega
  clear hT hm
  go_enter Tryd.func5, Tryd.ntmps5
  go_wp2_with fail
  refine HAW.out.mono ?_
  rintro e1 w1 ⟨rfl, k1⟩
  go_wp2_with fail
  refine (HFEW.out w1 k1).mono ?_
  rintro e2 w2 ⟨rfl, rfl⟩
  go_wp2
  go_ret
  exact ⟨rfl, keeps_below3 k1⟩
set_option maxRecDepth 100000 in
set_option maxHeartbeats 1500000 in
theorem fplays_not (n : Nat) (A : Option Addr) (m c : Nat) (B : Option Addr) (m2 c2 : Nat) (W : World) (hT : Tabs W) (hn : n ≤ 18446744073709551615) (hm : m ≤ 70) (hne : m ≠ On.ones 64 n) (HFEW : Hid (∀ V, Keeps (fun _ => False) W V → Calls Tryd.prog 30 #[.slice B m2 c2] V fun e w' => e = .returned (.bool true) ∧ w' = V)) :
    Calls Tryd.prog 5 #[.int .u64 (n : Int), .slice A m c, .slice B m2 c2] W fun e W' => e = .returned (.bool true) ∧ Below W.heap.size W W' := by
  have HAW := Lib.hid (awake5_any W hT)
  have hm' : ¬ (70 : Int) < m := by omega
  have hmd : decide ((70 : Int) < m) = false := by rw [decide_eq_false_iff_not]; exact hm'
  have h02 : (0 : Int) ≤ m2 := by omega
  have HF1 := Lib.hid (fun V => from_not n A m c V hn (by omega) hne)
  have HF2 := Lib.hid (fun V => rfrom_not n A m c V hn hne)
  obtain ⟨u0, hu0, _⟩ := info_parts info_u8t
  have heqn : ∀ V, (binOp .eql 34 (.agg (bvs (Sh.sha [])).toArray) (.agg (bvs (Sh.sha [])).toArray)).run Tryd.prog V = .ok (.bool true) V := fun V => by
    rw [run_eql_bytes (P := Tryd.prog) V 34 5 32 Tryd.underlying34 Tryd.underlying5 hu0 (by kernel_rfl) (by kernel_rfl) _ _ rfl rfl]
    simp
  have hrn := fun V (hV : Keeps (fun _ => False) W V) => froot_none V (hT.keeps hV id id)
  have hsn := fun V (hV : Keeps (fun _ => False) W V) => sha_none 0 V (hT.keeps hV id id)
  obtain ⟨RN, hRN⟩ : ∃ R, (bvs (Sh.sha [])).toArray = R := ⟨_, rfl⟩
  rw [hRN] at heqn hrn hsn
  have HEQN := Lib.hid heqn
  have HRN := Lib.hid hrn
  have HSNN := Lib.hid hsn
  clear hu0 heqn hrn hsn hRN
  clear hT hm hne
  go_enter Tryd.func5, Tryd.ntmps5
  go_wp2_with fail
  refine HAW.out.mono ?_
  rintro e1 w1 ⟨rfl, k1⟩
  go_wp2_with fail
  refine (HFEW.out w1 k1).mono ?_
  rintro e2 w2 ⟨rfl, h2⟩
  obtain rfl : w1 = w2 := h2.symm
  go_wp2_with fail
  refine (HF1.out w1).mono ?_
  rintro e3 w3 ⟨rfl, h3⟩
  obtain rfl : w1 = w3 := h3.symm
  go_wp2_with fail
  refine (HF2.out w1).mono ?_
  rintro e4 w4 ⟨rfl, k4⟩
  obtain ⟨W5, hW5⟩ : ∃ V, w4.alloc (.cells #[.int .u64 0, .slice none 0 0, .slice none 0 0] 47) = V := ⟨_, rfl⟩
  obtain ⟨B5, hB5⟩ : ∃ q, w4.heap.size = q := ⟨_, rfl⟩
  have k5 : Keeps (fun _ => False) w4 W5 := by rw [← hW5]; exact (Keeps.refl _ _).alloc _
  have r5 : W5.heap[B5]? = some (.cells (fval 0 (.slice none 0 0) (.slice none 0 0)).toArray 47 (0, 0)) := by rw [← hW5, ← hB5]; exact heap_alloc_new w4 _
  obtain ⟨VV, hVV⟩ : ∃ V, W5.setRow B5 (fval 0 (.slice none 0 0) (.slice none 0 0)).toArray = V := ⟨_, rfl⟩
  have k6 : Keeps (fun k => k = B5) W5 VV := by rw [← hVV]; exact Keeps.setRow _ _
  have KV : Hid (Keeps (fun _ => False) W VV) := Lib.hid (((k1.trans k4).trans k5).trans' k6 (fun i hi e => by have := (k1.trans k4).size; omega))
  have R5 := Lib.hid r5
  clear k1 k4 k5 r5 k6 HAW HFEW HF1 HF2
  go_wp2_with (first
    | (refine wpList_store_row rfl 47 _ _ rfl B5 (fval 0 (.slice none 0 0) (.slice none 0 0)).toArray rfl rfl 47 _ R5.out (fval_size _ _ _) rfl (fval_one _ _ _ _ _ _ _) ?_; rw [hVV]))
  refine wp_loop_rounds 1 ?_
  rw [rounds_succ]
  go_wp2_with fail
  refine (fadd_none none 0 0 _).mono ?_
  rintro e v1 ⟨rfl, hv1⟩
  obtain rfl : VV = v1 := hv1.symm
  go_wp2_with fail
  refine (size_none _).mono ?_
  rintro e v1 ⟨rfl, hv1⟩
  obtain rfl : VV = v1 := hv1.symm
  go_wp2_with fail
  refine (peaks_none _).mono ?_
  rintro e v1 ⟨rfl, hv1⟩
  obtain rfl : VV = v1 := hv1.symm
  go_wp2_with fail
  refine (HRN.out _ KV.out).mono ?_
  rintro e v4 ⟨rfl, k4⟩
  go_wp2_with fail
  refine (HSNN.out _ (KV.out.trans k4)).mono ?_
  rintro e v5 ⟨rfl, k5⟩
  have KE := Lib.hid (KV.out.trans (k4.trans k5))
  clear k4 k5
  go_wp2_with (refine wpList_eq_agg_w (by rfl) .eql 34 _ (.tmp 120) (.tmp 121) (by rfl) RN RN (by rfl) (by rfl) (by kernel_rfl) _ (HEQN.out _) ?_)
  go_ret
  exact ⟨rfl, keeps_below3 KE.out⟩

structure AddV where
  O : Option Addr
  A : Option Addr
  oc : Nat
  c : Nat
theorem AddV.inj {sz m2 : Nat} (x y : AddV) (h : (Value.tuple #[.agg (fval (sz + 1) (.slice x.O m2 x.oc) (.slice x.A m2 x.c)).toArray, .int .i64 0]) = .tuple #[.agg (fval (sz + 1) (.slice y.O m2 y.oc) (.slice y.A m2 y.c)).toArray, .int .i64 0]) : x = y := by
  cases x
  cases y
  simp [fval] at h
  simp [h]
structure PkW where
  fst : Option Addr
  snd : Nat
section
variable {P : Program} {ops : Array Oper} {B : World → Prop} {ls : List Nat} {E : Act → World → Prop} {k : Nat} {o : Oper} {rest : List Nat} {a : Act} {F : World → Prop}
/-- A function is called whose value has letters, of which more is known. -/
theorem T_enterR {α : Type} (h0 : ops[k]? = some o) (hw : Region.wanted o (yielded ops a.tmps) = true) (hk : ls.contains k = true) (f : FuncId) (args : Array Value) (v : α → Value) (hinj : ∀ x y, v x = v y → x = y) (hrun : ∀ w, (execOp a.eval o).run P w = .ok (.enter f args) w) (R : α → World → Prop) (hR : ∀ x, Lasts (R x))
    (hc : ∀ w, B w → F w → Calls P f args w (fun e w' => ∃ x, e = .returned (v x) ∧ B w' ∧ R x w')) (h : ∀ x, wpT P ops B ls E rest (a.put o.dst (v x)) (R x)) : wpT P ops B ls E (k :: rest) a F := by
  refine T_loose h0 hw hk (fun u => ∃ x, u = v x) (fun u w => ∃ x, u = v x ∧ R x w) ⟨fun u => fun w w' ⟨x, h1, h2⟩ hk => ⟨x, h1, hR x w w' h2 hk⟩, fun w hb hf => ?_⟩ ?_
  · rw [hrun w]
    exact (hc w hb hf).mono fun e w' ⟨x, h⟩ => ⟨v x, h.1, h.2.1, ⟨x, rfl⟩, x, rfl, h.2.2⟩
  · rintro u ⟨x, rfl⟩
    refine T_alloc.wpT_weak (fun w ⟨y, h1, h2⟩ => ?_) (h x)
    rw [hinj x y h1]
    exact h2
end
theorem PathAt.apart' {S : Nat → Prop} {w w' : World} {A : Option Addr} {ps : List (List UInt8)} (h : PathAt w A ps) (hk : Keeps S w w') (hne : ∀ a, A = some a → ps ≠ [] → ¬ S a.block) : PathAt w' A ps := by
  by_cases hp : ps = []
  · subst hp
    exact PathAt.nil _ _
  · exact h.apart hk (fun a e => hne a e hp)
set_option maxRecDepth 100000 in
set_option maxHeartbeats 1500000 in
theorem fplays_in (n : Nat) (A : Option Addr) (c : Nat) (ps0 : List (List UInt8)) (Bl : Option Addr) (c2 : Nat) (rs : List RowOf) (W : World) (hT : Tabs W) (hn : n ≤ 18446744073709551615) (hP : PathAt W A ps0) (hc : ps0.length ≤ c) (he : ps0.length = On.ones 64 n) (hR : RowsAt W Bl rs) (h20 : rs.length ≤ 20) (h60 : ∀ r ∈ rs, r.2.2.length ≤ 60)
    (HFEW : Hid (∀ V, Keeps (fun _ => False) W V → Calls Tryd.prog 30 #[.slice Bl rs.length c2] V fun e w' => e = .returned (.bool true) ∧ w' = V)) :
    Calls Tryd.prog 5 #[.int .u64 (n : Int), .slice A ps0.length c, .slice Bl rs.length c2] W fun e W' => e = .returned (.bool true) ∧ Below W.heap.size W W' := by
  have HAW := Lib.hid (awake5_any W hT)
  obtain ⟨m0, hm0⟩ : ∃ m, ps0.length = m := ⟨_, rfl⟩
  have hm64 : m0 ≤ 64 := by rw [← hm0, he]; exact On.ones_le 64 n
  have hfrom := fun V (hV : Keeps (fun _ => False) W V) => from_any n A c ps0 V hn (hP.keeps hV (fun _ _ => id)) he
  have hrfrom := fun V => rfrom_in n A m0 c V hn (by rw [← hm0]; exact he)
  have hA : ∀ a, A = some a → ps0 ≠ [] → a.block < W.heap.size := fun a e hne => by
    obtain ⟨p, hp⟩ : ∃ p, ps0[0]? = some p := by
      cases ps0 with
      | nil => exact absurd rfl hne
      | cons p q => exact ⟨p, rfl⟩
    have hpl := hP.all p (List.mem_of_getElem? hp)
    obtain ⟨b, o, e2, hr⟩ := hP.lie 0 p hp
    rw [e] at e2
    injection e2 with e2
    subst e2
    obtain ⟨u, hu⟩ : ∃ u, (bvs p)[0]? = some u := ⟨_, List.getElem?_eq_getElem (by rw [bvs_length, hpl]; omega)⟩
    exact World.block_lt_of_cell? W _ (hr 0 u hu)
  rw [hm0] at hfrom hc ⊢
  have hm' : ¬ (70 : Int) < m0 := by omega
  have hmd : decide ((70 : Int) < m0) = false := by rw [decide_eq_false_iff_not]; exact hm'
  have HFR := Lib.hid hfrom
  have HRF := Lib.hid hrfrom
  have HA := Lib.hid hA
  have HP0 := Lib.hid hP
  have HM0 := Lib.hid (And.intro hm0 he)
  have HT := Lib.hid hT
  have HR := Lib.hid hR
  have H60 := Lib.hid h60
  have hW2 : 2 ≤ W.heap.size := by have := hT.lt; omega
  obtain ⟨u0, hu0, _⟩ := info_parts info_u8t
  have heqn : ∀ V, (binOp .eql 34 (.agg (bvs (Sh.sha [])).toArray) (.agg (bvs (Sh.sha [])).toArray)).run Tryd.prog V = .ok (.bool true) V := fun V => by
    rw [run_eql_bytes (P := Tryd.prog) V 34 5 32 Tryd.underlying34 Tryd.underlying5 hu0 (by kernel_rfl) (by kernel_rfl) _ _ rfl rfl]
    simp
  have hrn := fun V (hV : Keeps (fun _ => False) W V) => froot_none V (hT.keeps hV id id)
  have hsn := fun V (hV : Keeps (fun _ => False) W V) => sha_none 0 V (hT.keeps hV id id)
  obtain ⟨RN, hRN⟩ : ∃ R, (bvs (Sh.sha [])).toArray = R := ⟨_, rfl⟩
  rw [hRN] at heqn hrn hsn
  have HEQN := Lib.hid heqn
  have HRN := Lib.hid hrn
  have HSNN := Lib.hid hsn
  clear hu0 heqn hrn hsn hRN
  obtain ⟨n2, hn2⟩ : ∃ n2, rs.length = n2 := ⟨_, rfl⟩
  have HN2 := Lib.hid hn2
  rw [hn2] at HFEW h20 ⊢
  clear hT hfrom hrfrom hA hP hm0 he hR h60 hn2
  go_enter Tryd.func5, Tryd.ntmps5
  go_wp2_with fail
  refine HAW.out.mono ?_
  rintro e1 w1 ⟨rfl, k1⟩
  go_wp2_with fail
  refine (HFEW.out w1 k1).mono ?_
  rintro e2 w2 ⟨rfl, h2⟩
  obtain rfl : w1 = w2 := h2.symm
  go_wp2_with fail
  refine (HFR.out w1 k1).mono ?_
  rintro e3 w3 ⟨g, rfl, hf3, k3⟩
  go_wp2_with fail
  refine (HRF.out w3).mono ?_
  rintro e4 w4 ⟨O0, oc0, rfl, ho4, k4⟩
  obtain ⟨W5, hW5⟩ : ∃ V, w4.alloc (.cells #[.int .u64 0, .slice none 0 0, .slice none 0 0] 47) = V := ⟨_, rfl⟩
  obtain ⟨B5, hB5⟩ : ∃ q, w4.heap.size = q := ⟨_, rfl⟩
  have k5 : Keeps (fun _ => False) w4 W5 := by rw [← hW5]; exact (Keeps.refl _ _).alloc _
  have r5 : W5.heap[B5]? = some (.cells (fval 0 (.slice none 0 0) (.slice none 0 0)).toArray 47 (0, 0)) := by rw [← hW5, ← hB5]; exact heap_alloc_new w4 _
  obtain ⟨V6, hV6⟩ : ∃ V, W5.setRow B5 (fval n (.slice O0 m0 oc0) (.slice A m0 c)).toArray = V := ⟨_, rfl⟩
  have k6 : Keeps (fun k => k = B5) W5 V6 := by rw [← hV6]; exact Keeps.setRow _ _
  have r6 : Row V6 B5 47 (fval n (.slice O0 m0 oc0) (.slice A m0 c)) := by rw [← hV6]; exact setRow_heap _ _ _ _ _ _ r5
  have kw4 : Keeps (fun _ => False) W w4 := k1.trans (k3.trans k4)
  have hf6 : Fro V6 w1.heap.size g n ps0 := (hf3.later (k4.trans k5)).apart (show Row W5 B5 47 (fval 0 (.slice none 0 0) (.slice none 0 0)) from r5) (by decide) (by decide) k6
  have ho6 : V6.ownsRow w3.heap.size 23 1 (.slice O0 m0 oc0) m0 (u64s (Tr.pts n)) := k6.owns (k5.owns ho4 (fun _ _ => id)) (fun k e hk => own_apart (k5.owns ho4 (fun _ _ => id)) (show Row W5 B5 47 (fval 0 (.slice none 0 0) (.slice none 0 0)) from r5) (by decide) k e hk)
  have hgl := hf3.lo
  have hb1 : W.heap.size ≤ w1.heap.size := k1.size
  have hg5 : B5 ≥ W.heap.size := by rw [← hB5]; exact kw4.size
  have hap6 : ∀ a, A = some a → ps0 ≠ [] → a.block ≠ g ∧ a.block ≠ B5 := fun a e hne => by
    have := HA.out a e hne
    omega
  have hp6 : PathAt V6 A ps0 := (HP0.out.keeps (kw4.trans k5) (fun _ _ => id)).apart' k6 (fun a e hne => (hap6 a e hne).2)
  have KV6 := Lib.hid ((kw4.trans k5).trans' k6 (fun i hi e => by omega))
  obtain ⟨b0, hb0⟩ : ∃ b, w1.heap.size = b := ⟨_, rfl⟩
  rw [hb0] at hf6 hgl hb1
  have R5 := Lib.hid r5
  have R6 := Lib.hid r6
  have HF6 := Lib.hid hf6
  have HO6 := Lib.hid ho6
  have HP6 := Lib.hid (And.intro hp6 hap6)
  clear k1 k3 k4 k5 r5 k6 r6 kw4 hf3 ho4 hf6 ho6 hap6 hp6 hb0 HAW HFEW HFR HRF
  go_wp2_with (first
    | (refine wpList_store_row rfl 47 _ _ rfl B5 (fval n (.slice O0 m0 oc0) (.slice A m0 c)).toArray rfl rfl 47 _ R5.out (fval_size _ _ _) rfl (fval_one _ _ _ _ _ _ _) ?_; rw [hV6]))
  clear hW5 hV6 hB5 R5
  go_loopw [13, 14, 15] (fun iv vv hv wr => ∃ (i sz m : Nat) (ps : List (List UInt8)) (O A2 : Option Addr) (oc ca : Nat), iv = .int .i64 (i : Int) ∧ i ≤ n2 ∧ m ≤ 64 ∧ sz ≤ 18446744073709551615 ∧ Hid (ps.length = m ∧ m = On.ones 64 sz ∧ m ≤ ca) ∧ Hid (Fro wr b0 g sz ps) ∧ Hid (Row wr B5 47 (fval sz (.slice O m oc) (.slice A2 m ca))) ∧ Hid (∃ b1, wr.ownsRow b1 23 1 (.slice O m oc) m (u64s (Tr.pts sz))) ∧ Hid (PathAt wr A2 ps ∧ ∀ a, A2 = some a → ps ≠ [] → a.block ≠ g ∧ a.block ≠ B5) ∧ Hid (Keeps (fun _ => False) W wr)) (fun iv _ _ _ => n2 - (intOf iv).toNat)
  case atStart => exact ⟨0, n, m0, ps0, O0, A, oc0, c, rfl, by omega, hm64, hn, Lib.hid ⟨HM0.out.1, by rw [← HM0.out.1]; exact HM0.out.2, hc⟩, HF6, R6, Lib.hid ⟨_, HO6.out⟩, HP6, KV6⟩
  case round =>
    clear HF6 R6 HO6 HP6 KV6
    obtain ⟨i, sz, m, ps, O, A2, oc, ca, rfl, hi, hm, hsz, HL, HF, HB, HO, HP, HK⟩ := hrel
    have hi2 : (i : Int) ≤ n2 := by omega
    have hroot := fun V (hV : Later wr V) => froot_any b0 g sz ps V (HT.out.keeps (HK.out.trans hV.out) id id) (HF.out.later hV.out) hsz (by rw [HL.out.1]; exact HL.out.2.1)
    have hrr := fun V (hV : Later wr V) => rroot5_any sz O m oc A2 ca ps V (HP.out.1.keeps hV.out (fun _ _ => id)) (by rw [HL.out.1]; exact HL.out.2.1) hsz (by rw [HL.out.1]; exact HL.out.2.2)
    have hrl : (Tr.peakRoot ps).length = 32 := Tr.peakRoot_len ps HF.out.all
    obtain ⟨ro, hro⟩ : ∃ r, Tr.peakRoot ps = r := ⟨_, rfl⟩
    rw [hro] at hroot hrr hrl
    obtain ⟨u0, hu0, _⟩ := info_parts info_u8t
    have hne : ∀ V, (binOp .neq 34 (.agg (bvs ro).toArray) (.agg (bvs ro).toArray)).run Tryd.prog V = .ok (.bool false) V := fun V => by
      rw [run_neq_bytes (P := Tryd.prog) V 34 5 32 Tryd.underlying34 Tryd.underlying5 hu0 (by kernel_rfl) (by kernel_rfl) ro ro hrl hrl]
      simp
    obtain ⟨R, hRR⟩ : ∃ R, bvs ro = R := ⟨_, rfl⟩
    rw [hRR] at hroot hrr hne
    rw [HL.out.1] at hrr
    obtain ⟨FW, hFW⟩ : ∃ FW, fval sz (.slice O m oc) (.slice A2 m ca) = FW := ⟨_, rfl⟩
    have hfw0 : FW[0]? = some (.int .u64 (sz : Int)) := by rw [← hFW]; rfl
    have hfw2 : FW[2]? = some (.slice A2 m ca) := by rw [← hFW]; rfl
    have sfw : (Tryd.prog.info? 47).map (·.size) = some FW.length := by rw [← hFW]; exact fval_size _ _ _
    have hbw := HB.out
    rw [hFW] at hrr hbw
    have hrow : ∀ V, Later wr V → Row V B5 47 FW := fun V hV => hbw.keeps hV.out id
    have HSIZE : Hid (∀ V, Later wr V → Calls Tryd.prog 33 #[.pointer (some ⟨g, 0, none⟩)] V fun e w' => e = .returned (.int .u64 (sz : Int)) ∧ Keeps (fun _ => False) V w') := Lib.hid (fun V hV => (size_any b0 g sz ps V (HF.out.later hV.out)).mono fun e w' h => ⟨h.1, by rw [h.2]; exact Keeps.refl _ _⟩)
    have HPEAKS : Hid (∀ V, Later wr V → Calls Tryd.prog 35 #[.pointer (some ⟨g, 0, none⟩)] V fun e w' => ∃ x : PkW, e = .returned (.slice x.fst m x.snd) ∧ Later wr w' ∧ PathAt w' x.fst ps) := Lib.hid (fun V hV => (peaks_any b0 g sz ps V (HF.out.later hV.out) (by rw [HL.out.1]; omega)).mono fun e w' h => by
      obtain ⟨v, h1, h2, h3⟩ := h
      rw [HL.out.1] at h2
      obtain ⟨A9, c9, rfl⟩ := own_slice h2
      exact ⟨⟨A9, c9⟩, h1, ⟨hV.out.trans h3⟩, PathAt.of_own' h2 HF.out.all⟩)
    have HSAME : Hid (∀ V (x : PkW), Later wr V → PathAt V x.fst ps → Calls Tryd.prog 34 #[.slice x.fst m x.snd, .slice A2 m ca] V fun e w' => e = .returned (.bool true) ∧ Later wr w' ∧ True) := Lib.hid (fun V x hV hx => by
      have h := same5_eq x.fst A2 x.snd ca ps V hx (HP.out.1.keeps hV.out (fun _ _ => id)) (by rw [HL.out.1]; omega)
      rw [HL.out.1] at h
      exact h.mono fun e w' h => ⟨h.1, ⟨hV.out.trans h.2⟩, trivial⟩)
    have HROOT := Lib.hid hroot
    have HRR := Lib.hid hrr
    have HNE := Lib.hid hne
    have SFW := Lib.hid sfw
    have HC0 : Hid (∀ V, Later wr V → V.cell? ⟨B5, 0, none⟩ = some (.int .u64 (sz : Int))) := Lib.hid (fun V hV => ((hrow V hV).cell 0).trans hfw0)
    have HC2 : Hid (∀ V, Later wr V → V.cell? ⟨B5, 2, none⟩ = some (.slice A2 m ca)) := Lib.hid (fun V hV => ((hrow V hV).cell 2).trans hfw2)
    have HFW : Hid (∀ V, Later wr V → V.rangeAt B5 0 FW) := Lib.hid (fun V hV => rangeAt_row (hrow V hV))
    have HROW := Lib.hid hrow
    have HFWE := Lib.hid hFW
    clear hroot hrr hrl hro hu0 hne hRR hFW hfw0 hfw2 sfw hbw hrow
    go_wp2_with fail
    refine wp_region_stores 20 [7, 10] [0, 1, 2, 3, 4, 5, 6, 8, 9, 7, 10, 11, 12, 13, 14, 15, 16, 17, 18, 19] (Later wr) (fun _ => True) (by kernel_rfl) (by kernel_rfl) (Lasts.later wr) (Lasts.true) (⟨(Keeps.refl _ _).drew⟩) (trivial) ?_
    refine T_value (get_op rfl) (by rfl) (by rfl) (.pointer (some ⟨g, 0, none⟩)) (fun _ _ => by go_simp) ?_
    simp only [Act.put, List.setIfInBounds_toArray, List.set_cons_zero, List.set_cons_succ]
    refine T_call (get_op rfl) (by rfl) (by rfl) _ _ (.int .u64 (sz : Int)) (fun _ => by go_simp) (fun V hV => HSIZE.out V hV) ?_
    simp only [Act.put, List.setIfInBounds_toArray, List.set_cons_zero, List.set_cons_succ]
    refine T_value (get_op rfl) (by rfl) (by rfl) (.pointer (some ⟨B5, 0, none⟩)) (fun _ _ => by go_simp) ?_
    simp only [Act.put, List.setIfInBounds_toArray, List.set_cons_zero, List.set_cons_succ]
    refine T_cell (get_op rfl) (by rfl) (by rfl) 23 (.tmp 63) (by rfl) ⟨B5, 0, none⟩ (by rfl) (.int .u64 (sz : Int)) _ (fun V hV => HC0.out V hV) Tryd.underlying23 rfl ?_
    simp only [Act.put, List.setIfInBounds_toArray, List.set_cons_zero, List.set_cons_succ]
    refine T_value (get_op rfl) (by rfl) (by rfl) (.bool false) (fun _ _ => by go_simp) ?_
    simp only [Act.put, List.setIfInBounds_toArray, List.set_cons_zero, List.set_cons_succ]
    refine T_quiet (get_op rfl) (by rfl) (by rfl) (by rfl) ?_
    intro K hK
    go_big_quiet_op
    first | go_big_quiet_on | go_big_quiet_call ((intro _; rfl))
    refine T_value (get_op rfl) (by rfl) (by rfl) (.pointer (some ⟨g, 0, none⟩)) (fun _ _ => by go_simp) ?_
    simp only [Act.put, List.setIfInBounds_toArray, List.set_cons_zero, List.set_cons_succ]
    refine T_value (get_op rfl) (by rfl) (by rfl) (.pointer (some ⟨B5, 2, none⟩)) (fun _ _ => by go_simp) ?_
    simp only [Act.put, List.setIfInBounds_toArray, List.set_cons_zero, List.set_cons_succ]
    refine T_cell (get_op rfl) (by rfl) (by rfl) 28 (.tmp 69) (by rfl) ⟨B5, 2, none⟩ (by rfl) (.slice A2 m ca) _ (fun V hV => HC2.out V hV) Tryd.underlying28 rfl ?_
    simp only [Act.put, List.setIfInBounds_toArray, List.set_cons_zero, List.set_cons_succ]
    refine T_enterR (get_op rfl) (by rfl) (by rfl) _ _ (fun x : PkW => .slice (PkW.fst x) m (PkW.snd x)) (fun x y h => by cases x; cases y; simp at h; simp [h]) (fun _ => by go_simp) (fun x w => PathAt w (PkW.fst x) ps) (fun x w w' h hk => h.keeps hk (fun _ _ => id)) (fun V hb hf => HPEAKS.out V hb) ?_
    intro pk
    simp only [Act.put, List.setIfInBounds_toArray, List.set_cons_zero, List.set_cons_succ]
    refine T_enter (get_op rfl) (by rfl) (by rfl) _ _ (.bool true) (fun _ => by go_simp) (fun _ => True) Lasts.true (fun V hb hf => HSAME.out V pk hb hf) ?_
    simp only [Act.put, List.setIfInBounds_toArray, List.set_cons_zero, List.set_cons_succ]
    refine T_value (get_op rfl) (by rfl) (by rfl) (.bool false) (fun _ _ => by go_simp) ?_
    simp only [Act.put, List.setIfInBounds_toArray, List.set_cons_zero, List.set_cons_succ]
    refine T_value (get_op rfl) (by rfl) (by rfl) (.bool false) (fun _ _ => by go_simp) ?_
    simp only [Act.put, List.setIfInBounds_toArray, List.set_cons_zero, List.set_cons_succ]
    refine T_quiet (get_op rfl) (by rfl) (by rfl) (by rfl) ?_
    intro K hK
    go_big_quiet_op
    first | go_big_quiet_on | go_big_quiet_call ((intro _; rfl))
    refine T_value (get_op rfl) (by rfl) (by rfl) (.pointer (some ⟨g, 0, none⟩)) (fun _ _ => by go_simp) ?_
    simp only [Act.put, List.setIfInBounds_toArray, List.set_cons_zero, List.set_cons_succ]
    refine T_call (get_op rfl) (by rfl) (by rfl) _ _ (.agg R.toArray) (fun _ => by go_simp) (fun V hV => HROOT.out V hV) ?_
    simp only [Act.put, List.setIfInBounds_toArray, List.set_cons_zero, List.set_cons_succ]
    refine T_load (get_op rfl) (by rfl) (by rfl) 47 (.tmp 11) (by rfl) B5 0 (by rfl) FW _ (fun V hV => HFW.out V hV) Tryd.underlying47 rfl SFW.out ?_
    simp only [Act.put, List.setIfInBounds_toArray, List.set_cons_zero, List.set_cons_succ]
    refine T_call (get_op rfl) (by rfl) (by rfl) _ _ (.agg R.toArray) (fun _ => by go_simp) (fun V hV => HRR.out V hV) ?_
    simp only [Act.put, List.setIfInBounds_toArray, List.set_cons_zero, List.set_cons_succ]
    refine T_eq (get_op rfl) (by rfl) (by rfl) .neq 34 _ (.tmp 76) (.tmp 78) (by rfl) R.toArray R.toArray (by rfl) (by rfl) (by kernel_rfl) (.bool false) (HNE.out) ?_
    simp only [Act.put, List.setIfInBounds_toArray, List.set_cons_zero, List.set_cons_succ]
    refine T_value (get_op rfl) (by rfl) (by rfl) (.bool false) (fun _ _ => by go_simp) ?_
    simp only [Act.put, List.setIfInBounds_toArray, List.set_cons_zero, List.set_cons_succ]
    refine T_nil ?_
    intro VV hVV _
    simp only [List.drop_succ_cons, List.drop_zero]
    have KV := Lib.hid (HK.out.trans hVV.out)
    clear HSIZE HPEAKS HSAME HROOT HRR HNE SFW HC0 HC2 HFW
    by_cases hin : i = n2
    · subst hin
      go_wp2_with fail
      refine (fadd_none none 0 0 _).mono ?_
      rintro e v1 ⟨rfl, hv1⟩
      obtain rfl : VV = v1 := hv1.symm
      go_wp2_with fail
      refine (size_none _).mono ?_
      rintro e v1 ⟨rfl, hv1⟩
      obtain rfl : VV = v1 := hv1.symm
      go_wp2_with fail
      refine (peaks_none _).mono ?_
      rintro e v1 ⟨rfl, hv1⟩
      obtain rfl : VV = v1 := hv1.symm
      go_wp2_with fail
      refine (HRN.out _ KV.out).mono ?_
      rintro e v4 ⟨rfl, k4⟩
      go_wp2_with fail
      refine (HSNN.out _ (KV.out.trans k4)).mono ?_
      rintro e v5 ⟨rfl, k5⟩
      have KE := Lib.hid (KV.out.trans (k4.trans k5))
      clear k4 k5
      go_wp2_with (refine wpList_eq_agg_w (by rfl) .eql 34 _ (.tmp 120) (.tmp 121) (by rfl) RN RN (by rfl) (by rfl) (by kernel_rfl) _ (HEQN.out _) ?_)
      go_ret
      exact ⟨rfl, keeps_below3 KE.out⟩
    · have hlt : i < n2 := by omega
      have hin' : ((i : Int) == (n2 : Int)) = false := by simp; omega
      have hind : decide ((i : Int) = (n2 : Int)) = false := by simp; omega
      have hiq : (i : Int) < n2 := by omega
      obtain ⟨r, hr⟩ : ∃ r, rs[i]? = some r := ⟨_, List.getElem?_eq_getElem (by rw [HN2.out]; exact hlt)⟩
      obtain ⟨ad, e, hcell⟩ := HR.out.cell i r hr
      subst e
      have hcap := HR.out.cap r (List.mem_of_getElem? hr)
      have hsrc := HR.out.src r (List.mem_of_getElem? hr)
      have hl60 := H60.out r (List.mem_of_getElem? hr)
      obtain ⟨rA, rc, xs⟩ := r
      simp only at hcell hcap hsrc hl60
      have hadb := World.block_lt_of_cell? W _ hcell
      have hcl2 : ∀ V, Later VV V → V.cell? (ad.add i) = some (.slice rA xs.length rc) := fun V hV => ((KV.out.trans hV.out).cell hadb id).trans hcell
      have hcv : ∀ V, Later VV V → (convert 55 9 (.slice rA xs.length rc)).run Tryd.prog V = .ok (.string (strOf xs)) V := fun V hV => run_string_src (P := Tryd.prog) V 55 9 5 Tryd.underlying55 Tryd.underlying5 Tryd.underlying9 rA xs rc (hsrc.keeps (KV.out.trans hV.out) (fun _ _ _ => id))
      obtain ⟨m1, hm1⟩ : ∃ m, xs.length = m := ⟨_, rfl⟩
      obtain ⟨st, hst⟩ : ∃ s, strOf xs = s := ⟨_, rfl⟩
      rw [hm1] at hcl2 hcv
      rw [hst] at hcv
      have HCELL := Lib.hid hcl2
      have HCV := Lib.hid hcv
      have HSRC := Lib.hid hsrc
      have HCAP := Lib.hid (And.intro hcap.1 (And.intro hcap.2 hl60))
      have HM1 := Lib.hid hm1
      have HADB : Hid ((ad.add i).block < W.heap.size) := Lib.hid hadb
      have HB5 : Hid (W.heap.size ≤ B5 ∧ W.heap.size ≤ b0 ∧ b0 ≤ g ∧ 2 ≤ W.heap.size) := Lib.hid ⟨hg5, hb1, HF.out.lo, hW2⟩
      have HST := Lib.hid hst
      have HFW : Hid (∀ V, Later VV V → V.rangeAt B5 0 FW) := Lib.hid (fun V hV => rangeAt_row (HROW.out V ⟨hVV.out.trans hV.out⟩))
      have SFW : Hid ((Tryd.prog.info? 47).map (·.size) = some FW.length) := Lib.hid (by rw [← HFWE.out]; exact fval_size _ _ _)
      have HAL3 : Hid (∀ V : World, (Instr.alloc 47 true (.tuple #[])).run Tryd.prog V = .ok (.pointer (some ⟨V.heap.size, 0, none⟩)) (V.alloc (.cells #[.int .u64 0, .slice none 0 0, .slice none 0 0] 47))) := Lib.hid (fun V => by go_simp)
      clear hin hr hcell hcap hsrc hl60 hadb hcl2 hcv hm1 hst
      by_cases hszlt : sz < 18446744073709551615
      · obtain ⟨qs, hqs⟩ : ∃ q, Tr.addP sz ps (Tr.leaf xs) = q := ⟨_, rfl⟩
        have hql := Tr.addP_length sz ps (Tr.leaf xs) hszlt (by rw [HL.out.1]; exact HL.out.2.1)
        rw [hqs] at hql
        obtain ⟨m2, hm2⟩ : ∃ q, qs.length = q := ⟨_, rfl⟩
        have hm64 : m2 ≤ 64 := by rw [← hm2, hql]; exact On.ones_le 64 _
        have HQS := Lib.hid hqs
        have HQL : Hid (qs.length = m2 ∧ m2 = On.ones 64 (sz + 1)) := Lib.hid ⟨hm2, by rw [← hm2]; exact hql⟩
        obtain ⟨RX, hRX⟩ : ∃ RX : AddV → World → Prop, RX = fun x w => w.ownsRow VV.heap.size 23 1 (.slice x.O m2 x.oc) m2 (u64s (Tr.pts (sz + 1))) ∧ w.ownsRow VV.heap.size 34 32 (.slice x.A m2 x.c) m2 (flat qs) := ⟨_, rfl⟩
        have HLX : Hid (∀ x, Lasts (RX x)) := Lib.hid (fun x => by rw [hRX]; exact fun w w' h hk => ⟨hk.owns h.1 (fun _ _ => id), hk.owns h.2 (fun _ _ => id)⟩)
        have HADDR : Hid (∀ V, Later VV V → Calls Tryd.prog 38 #[.agg FW.toArray, .string st] V fun e w' => ∃ x : AddV, e = .returned (.tuple #[.agg (fval (sz + 1) (.slice x.O m2 x.oc) (.slice x.A m2 x.c)).toArray, .int .i64 0]) ∧ Later VV w' ∧ RX x w' ∧ Keeps (fun _ => False) V w') := Lib.hid (fun V hV => by
          obtain ⟨bo, hbo⟩ := HO.out
          have hkv := hVV.out.trans hV.out
          have h := radd_in sz O oc bo A2 ca ps xs V (by rw [HL.out.1]; exact hkv.owns hbo (fun _ _ => id)) (HP.out.1.keeps hkv (fun _ _ => id)) hszlt (by rw [HL.out.1]; exact HL.out.2.1) (by have := HCAP.out.2.2; omega)
          rw [HL.out.1, HFWE.out, HST.out, hqs, hm2] at h
          refine h.mono fun e w' h => ?_
          obtain ⟨O2, oc2, A9, c9, h1, h2, h3, h4⟩ := h
          refine ⟨⟨O2, A9, oc2, c9⟩, h1, ⟨hV.out.trans h4⟩, ?_, h4⟩
          rw [hRX]
          exact ⟨own_base h2 hV.out.size, own_base h3 hV.out.size⟩)
        have HSTO : Hid (∀ V (x : AddV) g14, VV.heap.size ≤ g14 → Later VV V → RX x V → V.heap[g14]? = some (.cells #[.int .u64 0, .slice none 0 0, .slice none 0 0] 47 (0, 0)) → Later VV (V.setRow g14 (fval (sz + 1) (.slice x.O m2 x.oc) (.slice x.A m2 x.c)).toArray) ∧ RX x (V.setRow g14 (fval (sz + 1) (.slice x.O m2 x.oc) (.slice x.A m2 x.c)).toArray) ∧ (V.setRow g14 (fval (sz + 1) (.slice x.O m2 x.oc) (.slice x.A m2 x.c)).toArray).heap[g14]? = some (.cells (fval (sz + 1) (.slice x.O m2 x.oc) (.slice x.A m2 x.c)).toArray 47 (0, 0))) := Lib.hid (fun V x g14 hg hV hx hz => by
          rw [hRX] at hx ⊢
          have ks : Keeps (fun k => k = g14) V (V.setRow g14 (fval (sz + 1) (.slice x.O m2 x.oc) (.slice x.A m2 x.c)).toArray) := Keeps.setRow _ _
          have hz' : Row V g14 47 [.int .u64 0, .slice none 0 0, .slice none 0 0] := hz
          exact ⟨⟨hV.out.trans' ks (fun k hk e => by omega)⟩, ⟨ks.owns hx.1 (fun k e hk => own_apart hx.1 hz' (by decide) k e hk), ks.owns hx.2 (fun k e hk => own_apart hx.2 hz' (by decide) k e hk)⟩, setRow_heap _ _ _ _ _ _ hz⟩)
        clear hqs hql hm2
        go_wp2_with fail
        refine wp_region_fork [6, 10, 11] [0, 1, 2, 3, 4, 5] 6 10 [7, 8, 9, 10, 11, 12] [6, 7, 8, 9, 11, 12] (Later VV) (fun _ => True) (by kernel_rfl) (by kernel_rfl) (Lasts.later VV) Lasts.true ⟨(Keeps.refl _ _).drew⟩ trivial ?_
        refine T_load (get_op rfl) (by rfl) (by rfl) 47 (.tmp 11) (by rfl) B5 0 (by rfl) FW _ (fun V hV => HFW.out V hV) Tryd.underlying47 rfl SFW.out ?_
        simp only [Act.put, List.setIfInBounds_toArray, List.set_cons_zero, List.set_cons_succ]
        refine T_quiet (get_op rfl) (by rfl) (by rfl) (by rfl) ?_
        intro K hK
        go_big_quiet_op
        first | go_big_quiet_on | go_big_quiet_call ((intro _; rfl))
        refine T_quiet (get_op rfl) (by rfl) (by rfl) (by rfl) ?_
        intro K hK
        go_big_quiet_op
        first | go_big_quiet_on | go_big_quiet_call ((intro _; rfl))
        refine T_quiet (get_op rfl) (by rfl) (by rfl) (by rfl) ?_
        intro K hK
        go_big_quiet_op
        first | go_big_quiet_on | go_big_quiet_call ((intro _; rfl))
        refine T_cell (get_op rfl) (by rfl) (by rfl) 55 (.tmp 89) (by rfl) (ad.add i) (by rfl) (.slice rA m1 rc) _ (fun V hV => HCELL.out V hV) Tryd.underlying55 rfl ?_
        simp only [Act.put, List.setIfInBounds_toArray, List.set_cons_zero, List.set_cons_succ]
        refine T_value (get_op rfl) (by rfl) (by rfl) (.string st) (fun _ _ => by rename_i V hV; have hcv := HCV.out V hV; go_simp) ?_
        simp only [Act.put, List.setIfInBounds_toArray, List.set_cons_zero, List.set_cons_succ]
        refine T_nil ?_
        intro _ _ _
        refine ⟨?_, ?_⟩
        · skip
          refine T_enterR (get_op rfl) (by rfl) (by rfl) _ _ (fun x : AddV => (.tuple #[.agg (fval (sz + 1) (.slice x.O m2 x.oc) (.slice x.A m2 x.c)).toArray, .int .i64 0])) AddV.inj (fun _ => by go_simp) (RX) (fun x => HLX.out x) (fun V hb hf => (HADDR.out V hb).mono fun e w' ⟨x, h1, h2, h3, h4⟩ => ⟨x, h1, h2, h3⟩) ?_
          intro x
          simp only [Act.put, List.setIfInBounds_toArray, List.set_cons_zero, List.set_cons_succ]
          refine T_quiet (get_op rfl) (by rfl) (by rfl) (by rfl) ?_
          intro K hK
          go_big_quiet_op
          first | go_big_quiet_on | go_big_quiet_call ((intro _; rfl))
          refine T_value (get_op rfl) (by rfl) (by rfl) (.agg (fval (sz + 1) (.slice x.O m2 x.oc) (.slice x.A m2 x.c)).toArray) (fun _ _ => by go_simp) ?_
          simp only [Act.put, List.setIfInBounds_toArray, List.set_cons_zero, List.set_cons_succ]
          refine T_value (get_op rfl) (by rfl) (by rfl) (.int .i64 0) (fun _ _ => by go_simp) ?_
          simp only [Act.put, List.setIfInBounds_toArray, List.set_cons_zero, List.set_cons_succ]
          refine T_alloc (get_op rfl) (by rfl) (by rfl) 47 #[.int .u64 0, .slice none 0 0, .slice none 0 0] (by rfl) HAL3.out (Lasts.later VV) (HLX.out x) VV.heap.size (fun V hV => hV.out.size) ?_
          intro g14 hge
          simp only [Act.put, List.setIfInBounds_toArray, List.set_cons_zero, List.set_cons_succ]
          refine T_store (get_op rfl) (by rfl) (by rfl) 47 (.tmp 14) (.tmp 93) (by rfl) (by rfl) g14 (by rfl) (fval (sz + 1) (.slice x.O m2 x.oc) (.slice x.A m2 x.c)).toArray #[.int .u64 0, .slice none 0 0, .slice none 0 0] (by rfl) 47 (fval_size _ _ _) (by rfl) (fval_one _ _ _ _ _ _ _) (fun V => RX x V ∧ V.heap[g14]? = some (.cells (fval (sz + 1) (.slice x.O m2 x.oc) (.slice x.A m2 x.c)).toArray 47 (0, 0))) ((HLX.out x).and (Lasts.block _ _)) (fun V hb hf => ⟨hf.2, HSTO.out V x g14 hge hb hf.1 hf.2⟩) ?_
          refine T_quiet (get_op rfl) (by rfl) (by rfl) (by rfl) ?_
          intro K hK
          go_big_quiet_op
          first | go_big_quiet_on | go_big_quiet_call ((intro _; rfl))
          refine T_nil ?_
          subst hRX
          intro V8 h8 f8
          have hsc : ∀ (V : World), Keeps (fun _ => False) V V := fun V => Keeps.refl _ _
          have r14 := f8.2
          have hrow8 : Row V8 B5 47 FW := HROW.out V8 ⟨hVV.out.trans h8.out⟩
          obtain ⟨V9, hV9⟩ : ∃ V, V8.setRow B5 (fval (sz + 1) (.slice x.O m2 x.oc) (.slice x.A m2 x.c)).toArray = V := ⟨_, rfl⟩
          have k9 : Keeps (fun k => k = B5) V8 V9 := by rw [← hV9]; exact Keeps.setRow _ _
          have r9 : Row V9 B5 47 (fval (sz + 1) (.slice x.O m2 x.oc) (.slice x.A m2 x.c)) := by rw [← hV9]; exact setRow_heap _ _ _ _ _ _ hrow8
          have kb9 : Keeps (fun _ => False) W V9 := (KV.out.trans h8.out).trans' k9 (fun k hk e => by have := HB5.out; omega)
          have hf9 : Fro V9 b0 g sz ps := (HF.out.later (hVV.out.trans h8.out)).apart hrow8 (by decide) (by decide) k9
          have ho9 := k9.owns f8.1.1 (fun k e hk => own_apart f8.1.1 hrow8 (by decide) k e hk)
          have hh9 := k9.owns f8.1.2 (fun k e hk => own_apart f8.1.2 hrow8 (by decide) k e hk)
          have hadd := fadd_any b0 g sz ps rA rc xs V9 (HT.out.keeps kb9 id id) hf9 (HSRC.out.keeps kb9 (fun _ _ _ => id)) HCAP.out.1 HCAP.out.2.1 (by have := HCAP.out.2.2; omega) hszlt (by rw [HL.out.1]; exact HL.out.2.1) (by have := HB5.out; omega)
          rw [HQS.out, HM1.out] at hadd
          have hcell9 : V9.cell? (ad.add i) = some (.slice rA m1 rc) := (k9.cell (World.block_lt_of_cell? V8 _ (HCELL.out V8 h8)) (by have := HADB.out; omega)).trans (HCELL.out V8 h8)
          obtain ⟨vf, hvr, _⟩ := hf9.var
          have HVR := Lib.hid hvr
          have HO9 := Lib.hid ho9
          have HH9 := Lib.hid hh9
          have R9 := Lib.hid r9
          have R14 := Lib.hid r14
          have R8 := Lib.hid hrow8
          have KB9 := Lib.hid kb9
          have HADD := Lib.hid hadd
          have hsf : (Tryd.prog.info? 47).map (·.size) = some FW.toArray.size := by rw [← HFWE.out]; exact fval_size _ _ _
          have HFS := Lib.hid (show FW.toArray.size = (fval (sz + 1) (.slice x.O m2 x.oc) (.slice x.A m2 x.c)).toArray.size by rw [← HFWE.out]; rfl)
          clear r14 hrow8 k9 r9 kb9 hf9 ho9 hh9 hadd hvr f8 h8 hsf hsc
          go_wp2_with (first
            | (rw [hV9])
            | (refine wpList_load_row rfl 47 _ rfl g14 rfl 47 (fval (sz + 1) (.slice x.O m2 x.oc) (.slice x.A m2 x.c)).toArray (0, 0) _ R14.out Tryd.underlying47 rfl (fval_size _ _ _) ?_)
            | (refine wpList_store_row rfl 47 _ _ rfl B5 (fval (sz + 1) (.slice x.O m2 x.oc) (.slice x.A m2 x.c)).toArray rfl rfl 47 _ R8.out (fval_size _ _ _) HFS.out (fval_one _ _ _ _ _ _ _) ?_))
          clear hV9
          go_wp2_with fail
          refine HADD.out.mono ?_
          rintro e VX ⟨rfl, hfx, kx⟩
          have hgB : ¬ B5 = g := fun e => by
            have h1 := HVR.out
            have h2 := R9.out
            unfold Row at h1 h2
            rw [e, h1] at h2
            injection h2 with h2
            injection h2 with _ h2 _
            exact absurd h2 (by decide)
          have hox := kx.owns HO9.out (fun k e hk => own_apart HO9.out HVR.out (by decide) k e hk)
          have hhx := kx.owns HH9.out (fun k e hk => own_apart HH9.out HVR.out (by decide) k e hk)
          have hpx := PathAt.of_own' hhx hfx.all
          have hapx : ∀ a, x.A = some a → qs ≠ [] → a.block ≠ g ∧ a.block ≠ B5 := fun a e _ => ⟨own_apart HH9.out HVR.out (by decide) a.block (by rw [e]; rfl), own_apart HH9.out R9.out (by decide) a.block (by rw [e]; rfl)⟩
          have HRX := Lib.hid (R9.out.keeps kx hgB)
          have HFX := Lib.hid hfx
          have HOX := Lib.hid hox
          have HPX := Lib.hid (And.intro hpx hapx)
          have HCX := Lib.hid (own_cap hhx).2.1
          have KX := Lib.hid (KB9.out.trans' kx (fun k hk e => by have := HB5.out; omega))
          clear hfx kx hox hhx hpx hapx HADD
          go_wp2_with fail
          go_roundw
          case rel => exact ⟨i + 1, sz + 1, m2, qs, x.O, x.A, x.oc, x.c, by go_num, by omega, by omega, by omega, Lib.hid ⟨HQL.out.1, HQL.out.2, HCX.out⟩, HFX, HRX, Lib.hid ⟨_, HOX.out⟩, HPX, KX⟩
          case measure => simp [intOf]; omega
        · skip
          refine T_alloc (get_op rfl) (by rfl) (by rfl) 47 #[.int .u64 0, .slice none 0 0, .slice none 0 0] (by rfl) HAL3.out (Lasts.later VV) (Lasts.true) VV.heap.size (fun V hV => hV.out.size) ?_
          intro g14 hge
          simp only [Act.put, List.setIfInBounds_toArray, List.set_cons_zero, List.set_cons_succ]
          refine T_enterR (get_op rfl) (by rfl) (by rfl) _ _ (fun x : AddV => (.tuple #[.agg (fval (sz + 1) (.slice x.O m2 x.oc) (.slice x.A m2 x.c)).toArray, .int .i64 0])) AddV.inj (fun _ => by go_simp) (fun x w => RX x w ∧ w.heap[g14]? = some (.cells #[.int .u64 0, .slice none 0 0, .slice none 0 0] 47 (0, 0))) (fun x => (HLX.out x).and (Lasts.block _ _)) (fun V hb hf => (HADDR.out V hb).mono fun e w' ⟨x, h1, h2, h3, h4⟩ => ⟨x, h1, h2, h3, Lasts.block _ _ _ _ hf.2 h4⟩) ?_
          intro x
          simp only [Act.put, List.setIfInBounds_toArray, List.set_cons_zero, List.set_cons_succ]
          refine T_quiet (get_op rfl) (by rfl) (by rfl) (by rfl) ?_
          intro K hK
          go_big_quiet_op
          first | go_big_quiet_on | go_big_quiet_call ((intro _; rfl))
          refine T_value (get_op rfl) (by rfl) (by rfl) (.agg (fval (sz + 1) (.slice x.O m2 x.oc) (.slice x.A m2 x.c)).toArray) (fun _ _ => by go_simp) ?_
          simp only [Act.put, List.setIfInBounds_toArray, List.set_cons_zero, List.set_cons_succ]
          refine T_value (get_op rfl) (by rfl) (by rfl) (.int .i64 0) (fun _ _ => by go_simp) ?_
          simp only [Act.put, List.setIfInBounds_toArray, List.set_cons_zero, List.set_cons_succ]
          refine T_store (get_op rfl) (by rfl) (by rfl) 47 (.tmp 14) (.tmp 93) (by rfl) (by rfl) g14 (by rfl) (fval (sz + 1) (.slice x.O m2 x.oc) (.slice x.A m2 x.c)).toArray #[.int .u64 0, .slice none 0 0, .slice none 0 0] (by rfl) 47 (fval_size _ _ _) (by rfl) (fval_one _ _ _ _ _ _ _) (fun V => RX x V ∧ V.heap[g14]? = some (.cells (fval (sz + 1) (.slice x.O m2 x.oc) (.slice x.A m2 x.c)).toArray 47 (0, 0))) ((HLX.out x).and (Lasts.block _ _)) (fun V hb hf => ⟨hf.2, HSTO.out V x g14 hge hb hf.1 hf.2⟩) ?_
          refine T_quiet (get_op rfl) (by rfl) (by rfl) (by rfl) ?_
          intro K hK
          go_big_quiet_op
          first | go_big_quiet_on | go_big_quiet_call ((intro _; rfl))
          refine T_nil ?_
          subst hRX
          intro V8 h8 f8
          have hsc : ∀ (V : World), Keeps (fun _ => False) V V := fun V => Keeps.refl _ _
          have r14 := f8.2
          have hrow8 : Row V8 B5 47 FW := HROW.out V8 ⟨hVV.out.trans h8.out⟩
          obtain ⟨V9, hV9⟩ : ∃ V, V8.setRow B5 (fval (sz + 1) (.slice x.O m2 x.oc) (.slice x.A m2 x.c)).toArray = V := ⟨_, rfl⟩
          have k9 : Keeps (fun k => k = B5) V8 V9 := by rw [← hV9]; exact Keeps.setRow _ _
          have r9 : Row V9 B5 47 (fval (sz + 1) (.slice x.O m2 x.oc) (.slice x.A m2 x.c)) := by rw [← hV9]; exact setRow_heap _ _ _ _ _ _ hrow8
          have kb9 : Keeps (fun _ => False) W V9 := (KV.out.trans h8.out).trans' k9 (fun k hk e => by have := HB5.out; omega)
          have hf9 : Fro V9 b0 g sz ps := (HF.out.later (hVV.out.trans h8.out)).apart hrow8 (by decide) (by decide) k9
          have ho9 := k9.owns f8.1.1 (fun k e hk => own_apart f8.1.1 hrow8 (by decide) k e hk)
          have hh9 := k9.owns f8.1.2 (fun k e hk => own_apart f8.1.2 hrow8 (by decide) k e hk)
          have hadd := fadd_any b0 g sz ps rA rc xs V9 (HT.out.keeps kb9 id id) hf9 (HSRC.out.keeps kb9 (fun _ _ _ => id)) HCAP.out.1 HCAP.out.2.1 (by have := HCAP.out.2.2; omega) hszlt (by rw [HL.out.1]; exact HL.out.2.1) (by have := HB5.out; omega)
          rw [HQS.out, HM1.out] at hadd
          have hcell9 : V9.cell? (ad.add i) = some (.slice rA m1 rc) := (k9.cell (World.block_lt_of_cell? V8 _ (HCELL.out V8 h8)) (by have := HADB.out; omega)).trans (HCELL.out V8 h8)
          obtain ⟨vf, hvr, _⟩ := hf9.var
          have HVR := Lib.hid hvr
          have HO9 := Lib.hid ho9
          have HH9 := Lib.hid hh9
          have R9 := Lib.hid r9
          have R14 := Lib.hid r14
          have R8 := Lib.hid hrow8
          have KB9 := Lib.hid kb9
          have HADD := Lib.hid hadd
          have hsf : (Tryd.prog.info? 47).map (·.size) = some FW.toArray.size := by rw [← HFWE.out]; exact fval_size _ _ _
          have HFS := Lib.hid (show FW.toArray.size = (fval (sz + 1) (.slice x.O m2 x.oc) (.slice x.A m2 x.c)).toArray.size by rw [← HFWE.out]; rfl)
          clear r14 hrow8 k9 r9 kb9 hf9 ho9 hh9 hadd hvr f8 h8 hsf hsc
          go_wp2_with (first
            | (rw [hV9])
            | (refine wpList_load_row rfl 47 _ rfl g14 rfl 47 (fval (sz + 1) (.slice x.O m2 x.oc) (.slice x.A m2 x.c)).toArray (0, 0) _ R14.out Tryd.underlying47 rfl (fval_size _ _ _) ?_)
            | (refine wpList_store_row rfl 47 _ _ rfl B5 (fval (sz + 1) (.slice x.O m2 x.oc) (.slice x.A m2 x.c)).toArray rfl rfl 47 _ R8.out (fval_size _ _ _) HFS.out (fval_one _ _ _ _ _ _ _) ?_))
          clear hV9
          go_wp2_with fail
          refine HADD.out.mono ?_
          rintro e VX ⟨rfl, hfx, kx⟩
          have hgB : ¬ B5 = g := fun e => by
            have h1 := HVR.out
            have h2 := R9.out
            unfold Row at h1 h2
            rw [e, h1] at h2
            injection h2 with h2
            injection h2 with _ h2 _
            exact absurd h2 (by decide)
          have hox := kx.owns HO9.out (fun k e hk => own_apart HO9.out HVR.out (by decide) k e hk)
          have hhx := kx.owns HH9.out (fun k e hk => own_apart HH9.out HVR.out (by decide) k e hk)
          have hpx := PathAt.of_own' hhx hfx.all
          have hapx : ∀ a, x.A = some a → qs ≠ [] → a.block ≠ g ∧ a.block ≠ B5 := fun a e _ => ⟨own_apart HH9.out HVR.out (by decide) a.block (by rw [e]; rfl), own_apart HH9.out R9.out (by decide) a.block (by rw [e]; rfl)⟩
          have HRX := Lib.hid (R9.out.keeps kx hgB)
          have HFX := Lib.hid hfx
          have HOX := Lib.hid hox
          have HPX := Lib.hid (And.intro hpx hapx)
          have HCX := Lib.hid (own_cap hhx).2.1
          have KX := Lib.hid (KB9.out.trans' kx (fun k hk e => by have := HB5.out; omega))
          clear hfx kx hox hhx hpx hapx HADD
          go_wp2_with fail
          go_roundw
          case rel => exact ⟨i + 1, sz + 1, m2, qs, x.O, x.A, x.oc, x.c, by go_num, by omega, by omega, by omega, Lib.hid ⟨HQL.out.1, HQL.out.2, HCX.out⟩, HFX, HRX, Lib.hid ⟨_, HOX.out⟩, HPX, KX⟩
          case measure => simp [intOf]; omega
      · obtain rfl : sz = 18446744073709551615 := by omega
        have HADDF : Hid (∀ V, Later VV V → Calls Tryd.prog 38 #[.agg FW.toArray, .string st] V fun e w' => e = .returned (.tuple #[.agg FW.toArray, .int .i64 31]) ∧ Keeps (fun _ => False) V w') := Lib.hid (fun V hV => by
          have h := radd_full O m oc A2 m ca (.string st) V
          rw [HFWE.out] at h
          exact h)
        have HFS1 : Hid ((Tryd.prog.info? 47).map (·.size) = some FW.toArray.size) := Lib.hid (by rw [← HFWE.out]; exact fval_size _ _ _)
        have HFS2 : Hid ((#[.int .u64 0, .slice none 0 0, .slice none 0 0] : Array Value).size = FW.toArray.size) := Lib.hid (by rw [← HFWE.out]; rfl)
        have HFS3 : Hid (FW.toArray.all (·.oneCell') = true) := Lib.hid (by rw [← HFWE.out]; exact fval_one _ _ _ _ _ _ _)
        go_wp2_with fail
        refine wp_region_stores 13 [10, 11] [0, 1, 2, 3, 4, 5, 6, 7, 8, 9, 10, 11, 12] (Later VV) (fun _ => True) (by kernel_rfl) (by kernel_rfl) (Lasts.later VV) (Lasts.true) (⟨(Keeps.refl _ _).drew⟩) (trivial) ?_
        refine T_load (get_op rfl) (by rfl) (by rfl) 47 (.tmp 11) (by rfl) B5 0 (by rfl) FW _ (fun V hV => HFW.out V hV) Tryd.underlying47 rfl SFW.out ?_
        simp only [Act.put, List.setIfInBounds_toArray, List.set_cons_zero, List.set_cons_succ]
        refine T_quiet (get_op rfl) (by rfl) (by rfl) (by rfl) ?_
        intro K hK
        go_big_quiet_op
        first | go_big_quiet_on | go_big_quiet_call ((intro _; rfl))
        refine T_quiet (get_op rfl) (by rfl) (by rfl) (by rfl) ?_
        intro K hK
        go_big_quiet_op
        first | go_big_quiet_on | go_big_quiet_call ((intro _; rfl))
        refine T_quiet (get_op rfl) (by rfl) (by rfl) (by rfl) ?_
        intro K hK
        go_big_quiet_op
        first | go_big_quiet_on | go_big_quiet_call ((intro _; rfl))
        refine T_cell (get_op rfl) (by rfl) (by rfl) 55 (.tmp 89) (by rfl) (ad.add i) (by rfl) (.slice rA m1 rc) _ (fun V hV => HCELL.out V hV) Tryd.underlying55 rfl ?_
        simp only [Act.put, List.setIfInBounds_toArray, List.set_cons_zero, List.set_cons_succ]
        refine T_value (get_op rfl) (by rfl) (by rfl) (.string st) (fun _ _ => by rename_i V hV; have hcv := HCV.out V hV; go_simp) ?_
        simp only [Act.put, List.setIfInBounds_toArray, List.set_cons_zero, List.set_cons_succ]
        refine T_call (get_op rfl) (by rfl) (by rfl) _ _ (.tuple #[.agg FW.toArray, .int .i64 31]) (fun _ => by go_simp) (fun V hV => HADDF.out V hV) ?_
        simp only [Act.put, List.setIfInBounds_toArray, List.set_cons_zero, List.set_cons_succ]
        refine T_quiet (get_op rfl) (by rfl) (by rfl) (by rfl) ?_
        intro K hK
        go_big_quiet_op
        first | go_big_quiet_on | go_big_quiet_call ((intro _; rfl))
        refine T_value (get_op rfl) (by rfl) (by rfl) (.agg FW.toArray) (fun _ _ => by go_simp) ?_
        simp only [Act.put, List.setIfInBounds_toArray, List.set_cons_zero, List.set_cons_succ]
        refine T_value (get_op rfl) (by rfl) (by rfl) (.int .i64 31) (fun _ _ => by go_simp) ?_
        simp only [Act.put, List.setIfInBounds_toArray, List.set_cons_zero, List.set_cons_succ]
        refine T_alloc (get_op rfl) (by rfl) (by rfl) 47 #[.int .u64 0, .slice none 0 0, .slice none 0 0] (by rfl) HAL3.out (Lasts.later VV) (Lasts.true) VV.heap.size (fun V hV => hV.out.size) ?_
        intro g14 hge
        simp only [Act.put, List.setIfInBounds_toArray, List.set_cons_zero, List.set_cons_succ]
        refine T_store (get_op rfl) (by rfl) (by rfl) 47 (.tmp 14) (.tmp 93) (by rfl) (by rfl) g14 (by rfl) FW.toArray #[.int .u64 0, .slice none 0 0, .slice none 0 0] (by rfl) 47 HFS1.out HFS2.out HFS3.out (fun V => V.heap[g14]? = some (.cells FW.toArray 47 (0, 0))) (Lasts.block _ _) (fun V hb hf => ⟨hf.2, ⟨hb.out.trans' (Keeps.setRow _ _) (fun i hi h => by omega)⟩, setRow_heap _ _ _ _ _ _ hf.2⟩) ?_
        refine T_quiet (get_op rfl) (by rfl) (by rfl) (by rfl) ?_
        intro K hK
        go_big_quiet_op
        first | go_big_quiet_on | go_big_quiet_call ((intro _; rfl))
        refine T_nil ?_
        intro V8 h8 r14
        simp only [List.drop_succ_cons, List.drop_zero]
        have hrow8 : Row V8 B5 47 FW := HROW.out V8 ⟨hVV.out.trans h8.out⟩
        have hl8 := hVV.out.trans h8.out
        obtain ⟨V9, hV9⟩ : ∃ V, V8.setRow B5 FW.toArray = V := ⟨_, rfl⟩
        have k9 : Keeps (fun k => k = B5) V8 V9 := by rw [← hV9]; exact Keeps.setRow _ _
        have r9 : Row V9 B5 47 FW := by rw [← hV9]; exact setRow_heap _ _ _ _ _ _ hrow8
        have kb9 : Keeps (fun _ => False) W V9 := (KV.out.trans h8.out).trans' k9 (fun k hk e => by have := HB5.out; omega)
        have hf9 : Fro V9 b0 g 18446744073709551615 ps := (HF.out.later hl8).apart hrow8 (by decide) (by decide) k9
        have hadd := fadd_full b0 g ps rA m1 rc V9 hf9
        have hcell9 : V9.cell? (ad.add i) = some (.slice rA m1 rc) := (k9.cell (World.block_lt_of_cell? V8 _ (HCELL.out V8 h8)) (by have := HADB.out; have := HB5.out; omega)).trans (HCELL.out V8 h8)
        have HO9 : Hid (∃ b1, V9.ownsRow b1 23 1 (.slice O m oc) m (u64s (Tr.pts 18446744073709551615))) := Lib.hid (HO.out.elim fun b1 h => ⟨b1, k9.owns (hl8.owns h (fun _ _ => id)) (fun k e hk => own_apart (hl8.owns h (fun _ _ => id)) hrow8 (by decide) k e hk)⟩)
        have HP9 : Hid (PathAt V9 A2 ps ∧ ∀ a, A2 = some a → ps ≠ [] → a.block ≠ g ∧ a.block ≠ B5) := Lib.hid ⟨(HP.out.1.keeps hl8 (fun _ _ => id)).apart' k9 (fun a e hne => (HP.out.2 a e hne).2), HP.out.2⟩
        have R9 : Hid (Row V9 B5 47 (fval 18446744073709551615 (.slice O m oc) (.slice A2 m ca))) := Lib.hid (by rw [HFWE.out]; exact r9)
        have HF9 := Lib.hid hf9
        have KB9 := Lib.hid kb9
        have R14 := Lib.hid r14
        have R8 := Lib.hid hrow8
        have HADD := Lib.hid hadd
        clear hrow8 hl8 k9 r9 kb9 hf9 hadd r14 h8
        go_wp2_with (first
          | (rw [hV9])
          | (refine wpList_load_row rfl 47 _ rfl g14 rfl 47 FW.toArray (0, 0) _ R14.out Tryd.underlying47 rfl HFS1.out ?_)
          | (refine wpList_store_row rfl 47 _ _ rfl B5 FW.toArray rfl rfl 47 _ R8.out HFS1.out rfl HFS3.out ?_))
        clear hV9
        go_wp2_with fail
        refine HADD.out.mono ?_
        rintro e VX ⟨rfl, hx⟩
        obtain rfl : V9 = VX := hx.symm
        go_wp2_with fail
        go_roundw
        case rel => exact ⟨i + 1, 18446744073709551615, m, ps, O, A2, oc, ca, by go_num, by omega, hm, by omega, HL, HF9, R9, HO9, HP9, KB9⟩
        case measure => simp [intOf]; omega
theorem fplays_walk (n : Int) (A : Option Addr) (len c : Nat) (hs : List (List UInt8)) (B : Option Addr) (len2 c2 : Nat) (rs : List RowOf) (W : World) (hT : Tabs W) (h0 : (Lit.int .u64 n).wf = true) (h1 : IsHashes W A len c hs) (h2 : IsRows W B len2 c2 rs) :
    Calls Tryd.prog 5 #[.int .u64 n, .slice A len c, .slice B len2 c2] W fun e W' => e = .returned (.bool true) ∧ Below W.heap.size W W' := by
  have b0 := bounds_u64 h0
  obtain ⟨n, rfl⟩ := Int.eq_ofNat_of_zero_le b0.1
  have hP := PathAt.of_hashes h1
  obtain ⟨rfl, hc, hm, _⟩ := h1
  obtain ⟨rfl, hc2, hmax, hR⟩ := h2
  have hfew : ∀ V, Keeps (fun _ => False) W V → Calls Tryd.prog 30 #[.slice B rs.length c2] V fun e w' => e = .returned (.bool (fewB rs)) ∧ w' = V := fun V hk => few5_any B c2 rs V (hR.keeps hk (fun _ _ => id)) (by omega)
  cases hq : fewB rs with
  | false => rw [hq] at hfew; exact fplays_out _ A _ c B _ c2 W hT (Lib.hid hfew)
  | true =>
    rw [hq] at hfew
    rcases Nat.lt_or_ge 70 hs.length with h70 | h70
    · exact fplays_long _ A _ c B _ c2 W hT h70 (Lib.hid hfew)
    · by_cases he : hs.length = On.ones 64 n
      · exact fplays_in n A c hs B c2 rs W hT (by omega) hP hc he hR (few_short hq).1 (few_sixty5 hq) (Lib.hid hfew)
      · exact fplays_not n A _ c B _ c2 W hT (by omega) h70 he (Lib.hid hfew)
end Go.Proofs.YtnnhbgaeohdojaaDoor
