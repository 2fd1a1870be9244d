/-
  The document's own of layer 21, by value: what is told on.
-/
import Derived.Test.YtmhbfchhooggjaaGoB
namespace Go.Proofs.Ytmhbfchhooggjaa
open Go.RowKit Go.BigFrame
set_option linter.unusedVariables false
set_option linter.unusedSimpArgs false

theorem info_h21s : (Try.prog.info? 36).map (fun i => (i.zero.map (·.cells.size), i.size, i.bytes)) = some (some 32, 32, 32) := by kernel_rfl
theorem info_h21 : ∃ (ih : TypeInfo) (zh : Value), Try.prog.info? 36 = some ih ∧ ih.zero = some zh ∧ ih.size = 32 ∧ ih.bytes = 32 ∧ zh.cells.size = 32 := by
  obtain ⟨ih, hi, h⟩ := Option.map_eq_some_iff.1 info_h21s
  simp only [Prod.mk.injEq, Option.map_eq_some_iff] at h
  obtain ⟨⟨zh, h1, h2⟩, h3, h4⟩ := h
  exact ⟨ih, zh, hi, h1, h3, h4, h2⟩
theorem zero_h21 : ∃ z, ∀ w : World, (zeroValue 36).run Try.prog w = .ok z w := by
  obtain ⟨ih, zh, hi, hz, _⟩ := info_h21
  refine ⟨zh, fun w => ?_⟩
  simp [zeroValue, typeInfo, hi, hz]
theorem build_h21 (L : List Value) (hL : L.length = 32) (w : World) : (Instr.buildSlice 29 1 #[(0, .agg L.toArray)]).run Try.prog w = .ok (.slice (some ⟨w.heap.size, 0, none⟩) 1 1) (w.alloc (.cells L.toArray 36)) := by
  obtain ⟨ih, zh, hi, hz, hs, _, _⟩ := info_h21
  obtain ⟨z, hzz⟩ := zero_h21
  exact run_buildSlice_one w _ 36 Try.underlying29 hi L.toArray (by rw [List.size_toArray, hL, hs]) (by omega) (by omega) z (hzz w)
/-- Things that were told on, as a row of one's own. -/
abbrev Told (w : World) (B : Nat) (A : Option Addr) (n c : Nat) (l : List (List UInt8)) : Prop := w.ownsRow B 36 32 (.slice A n c) n (flt bvs l)
theorem Told.list {w : World} {B : Nat} {A : Option Addr} {n c : Nat} {l : List (List UInt8)} (h : Told w B A n c l) (hl : l.length = n) (hok : ∀ q ∈ l, q.length = 32) : LH w A n c l := by
  subst hl
  exact IsList.of_own hbs_len (by decide) hok h
set_option maxRecDepth 100000 in
set_option maxHeartbeats 4000000 in
theorem rflood_any (w : World) (g : Gp.G) (BT : Nat) (A : Option Addr) (tn tc : Nat) (qk : List UInt8) (A2 : Option Addr) (c2 : Nat) (l : List Int) (but : Int) (hg : g.Ok) (hT : Told w BT A tn tc g.told) (htn : g.told.length = tn) (ht9 : tn ≤ 1000) (hBT : BT ≤ w.heap.size) (hi : qk.length = 32) (hS : Src w A2 (ivs l)) (hlc : l.length ≤ c2) (hcx : c2 ≤ 9223372036854775807) (hn : l.length ≤ 1000) :
    Calls Try.prog 14 #[.agg (gcs g (.slice A tn tc)).toArray, .agg (bvs qk).toArray, .slice A2 l.length c2, .int .i64 but] w fun e w' => ∃ (A3 : Option Addr) (c3 : Nat) (A' : Option Addr) (c' : Nat), e = .returned (.tuple #[.agg (gcs (Gp.flood g qk l but).1 (.slice A3 (Gp.flood g qk l but).1.told.length c3)).toArray, .slice A' (Gp.flood g qk l but).2.length c']) ∧ (Told w' BT A3 (Gp.flood g qk l but).1.told.length c3 (Gp.flood g qk l but).1.told ∧ (A3 = A ∨ Told w' w.heap.size A3 (Gp.flood g qk l but).1.told.length c3 (Gp.flood g qk l but).1.told)) ∧ w'.ownsRow w.heap.size 3 1 (.slice A' (Gp.flood g qk l but).2.length c') (Gp.flood g qk l but).2.length (ivs (Gp.flood g qk l but).2) ∧ Keeps (fun _ => False) w w' := by
  have hcan := hg.inn
  unfold Gp.In at hcan
  have hLT := hT.list htn hg.told
  have hcap := hLT.le
  have hcax := hLT.max
  have hse := fun V (hV : Keeps (fun _ => False) w V) => rseen_any V g A tn tc qk (hLT.later hV) hi
  obtain ⟨n, hnn⟩ : ∃ n, l.length = n := ⟨_, rfl⟩
  have hot := fun V T (hT : T.oneCell' = true) (hV : Src V A2 (ivs l)) => rothers_any V { g with told := g.told ++ [qk] } T A2 c2 l but hT hV hlc hcx hn (show g.many ≤ 64 ∧ g.me ≤ 64 by omega)
  rw [hnn] at hot hlc hn
  rw [hnn]
  obtain ⟨CL, hCL⟩ : ∃ C, gcs g (.slice A tn tc) = C := ⟨_, rfl⟩
  obtain ⟨YL, hYL⟩ : ∃ C, bvs qk = C := ⟨_, rfl⟩
  obtain ⟨Z, hZ⟩ : ∃ Z, gz = Z := ⟨_, rfl⟩
  have hz : ∀ V : World, (zeroValue 31).run Try.prog V = .ok (.agg Z) V := fun V => by rw [← hZ]; exact zero_g21 V
  obtain ⟨b1, hb1⟩ : ∃ x, w.heap.size = x := ⟨_, rfl⟩
  obtain ⟨W1, hW1⟩ : ∃ V, w.alloc (.cells CL.toArray 31) = V := ⟨_, rfl⟩
  obtain ⟨b2, hb2⟩ : ∃ x, W1.heap.size = x := ⟨_, rfl⟩
  obtain ⟨W2, hW2⟩ : ∃ V, W1.alloc (.cells YL.toArray 36) = V := ⟨_, rfl⟩
  obtain ⟨b8, hb8⟩ : ∃ x, W2.heap.size = x := ⟨_, rfl⟩
  obtain ⟨W3, hW3⟩ : ∃ V, W2.alloc (.cells Z 31) = V := ⟨_, rfl⟩
  have k1 : Keeps (fun _ => False) w W1 := by rw [← hW1]; exact (Keeps.refl _ _).alloc _
  have k2 : Keeps (fun _ => False) W1 W2 := by rw [← hW2]; exact (Keeps.refl _ _).alloc _
  have k3 : Keeps (fun _ => False) W2 W3 := by rw [← hW3]; exact (Keeps.refl _ _).alloc _
  have r1 : Row W3 b1 31 CL := by
    have h : Row W1 b1 31 CL := by rw [← hW1, ← hb1]; exact heap_alloc_new w _
    exact h.keeps (k2.trans k3) id
  have r2 : Row W3 b2 36 YL := by
    have h : Row W2 b2 36 YL := by rw [← hW2, ← hb2]; exact heap_alloc_new W1 _
    exact h.keeps k3 id
  have r8 : W3.heap[b8]? = some (.cells Z 31 (0, 0)) := by rw [← hW3, ← hb8]; exact heap_alloc_new W2 _
  have hnum : b2 = b1 + 1 ∧ b8 = b1 + 2 ∧ W3.heap.size = b1 + 3 := by
    have h2 : b2 = b1 + 1 := by rw [← hb2, ← hW1, ← hb1]; simp
    have h8 : b8 = b1 + 2 := by rw [← hb8, ← hW2]; simp; omega
    exact ⟨h2, h8, by rw [← hW3]; simp; omega⟩
  have k13 := (k1.trans k2).trans k3
  have HBB := Lib.hid (And.intro hb1 hnum)
  have K3 := Lib.hid k13
  have R1 := Lib.hid r1
  have R2 := Lib.hid r2
  have R8 := Lib.hid r8
  have HTO := Lib.hid (k13.owns hT (fun _ _ => id))
  have HSE := Lib.hid (hse W3 k13)
  rw [hCL, hYL] at HSE
  have HSS := Lib.hid (hS.keeps k13 (fun _ _ _ => id))
  have hS0 : Hid (∀ j u, (ivs l)[j]? = some u → ∀ ad, A2 = some ad → w.cell? (ad.add j) = some u) := Lib.hid (fun j u hu ad ha => by obtain ⟨a2, h1, h2⟩ := hS j u hu; rw [ha] at h1; injection h1 with h1; subst h1; exact h2)
  have SCL : Hid ((Try.prog.info? 31).map (·.size) = some CL.toArray.size ∧ Z.size = CL.toArray.size ∧ CL.toArray.all (·.oneCell') = true) := Lib.hid ⟨by rw [← hCL]; exact size_g21, by rw [← hCL, ← hZ]; rfl, by rw [← hCL]; exact gcs_one _ _ _ _⟩
  have SYL : Hid ((Try.prog.info? 36).map (·.size) = some YL.toArray.size) := Lib.hid (by rw [← hYL, List.size_toArray, bvs_length, hi]; exact info_h)
  have HCL := Lib.hid hCL
  have HYL := Lib.hid hYL
  have HZ := Lib.hid hZ
  have HQ := Lib.hid (And.intro hi (And.intro htn (And.intro hLT.okAll hBT)))
  have HLT := Lib.hid (hLT.later k13)
  have HOT0 := Lib.hid hot
  rw [hCL, hYL]
  clear hCL hYL hZ k1 k2 k3 k13 r1 r2 r8 hnum hT hS hse hot hg hcan hLT hi htn hBT
  by_cases hseen : qk ∈ g.told
  · have hfl : Gp.flood g qk l but = (g, []) := by unfold Gp.flood; rw [if_pos hseen]
    have HFL := Lib.hid hfl
    rw [decide_eq_true hseen] at HSE
    clear hfl hseen
    go_enter Try.func14, Try.ntmps14
    go_wp2_with (first
      | (refine wpList_load_row (by rfl) 31 _ (by rfl) b1 (by rfl) 31 CL.toArray (0, 0) _ R1.out Try.underlying31 rfl SCL.out.1 ?_)
      | (refine wpList_load_row (by rfl) 36 _ (by rfl) b2 (by rfl) 36 YL.toArray (0, 0) _ R2.out Try.underlying36 rfl SYL.out ?_)
      | fail)
    refine HSE.out.mono ?_
    rintro e w4 ⟨rfl, k4⟩
    have e1 := R1.out.keeps k4 id
    have e8 := (k4.block b8 (Array.getElem?_eq_some_iff.1 R8.out).1 id).trans R8.out
    obtain ⟨W5, hW5⟩ : ∃ V, w4.setRow b8 CL.toArray = V := ⟨_, rfl⟩
    have k5 : Keeps (fun j => j = b8) w4 W5 := by rw [← hW5]; exact Keeps.setRow _ _
    have q5 : W5.heap[b8]? = some (.cells CL.toArray 31 (0, 0)) := by rw [← hW5]; exact setRow_heap _ _ _ _ _ _ e8
    have FIN : Hid (Told W5 BT A tn tc g.told ∧ Keeps (fun _ => False) w W5) := Lib.hid ⟨k5.owns (k4.owns HTO.out (fun _ _ => id)) (fun j hj e => by
      obtain ⟨cur, h1, _⟩ := own_block (k4.owns HTO.out (fun _ _ => id)) j hj
      have e' : j = b8 := e
      rw [e', e8] at h1
      injection h1 with h1
      injection h1 with _ h1
      exact absurd h1 (by decide)), (K3.out.trans k4).trans' k5 (fun i hi e => by have := HBB.out; have e' : i = b8 := e; omega)⟩
    have E1 := Lib.hid e1
    have E8 := Lib.hid e8
    have Q5 := Lib.hid q5
    clear k4 e1 e8 k5 q5
    go_wp2_with (first
      | (refine wpList_load_row (by rfl) 31 _ (by rfl) b1 (by rfl) 31 CL.toArray (0, 0) _ E1.out Try.underlying31 rfl SCL.out.1 ?_)
      | (refine wpList_store_row (by rfl) 31 _ _ (by rfl) b8 CL.toArray (by rfl) (by rfl) 31 Z E8.out SCL.out.1 SCL.out.2.1 SCL.out.2.2 ?_; rw [hW5])
      | fail)
    refine bodyPost_ret (results_cell_tmp21 rfl _ _ b8 31 CL.toArray (0, 0) _ rfl Q5.out Try.underlying31 rfl SCL.out.1) rfl ?_
    rw [HFL.out]
    refine ⟨A, tc, none, 0, ?_, ?_, World.ownsRow_nil _ _ _ _, FIN.out.2⟩
    · show _ = Ending.returned (.tuple #[.agg (gcs g (.slice A g.told.length tc)).toArray, _])
      rw [HQ.out.2.1, HCL.out]; rfl
    · refine ⟨?_, .inl rfl⟩
      show Told W5 BT A g.told.length tc g.told
      rw [HQ.out.2.1]; exact FIN.out.1
  · have hfl : Gp.flood g qk l but = ({ g with told := g.told ++ [qk] }, Gp.oth g l but) := by unfold Gp.flood; rw [if_neg hseen]
    have HFL := Lib.hid hfl
    rw [decide_eq_false hseen] at HSE
    have hol := Gp.oth_le g l but
    have HOE : Hid (Gp.oth { g with told := g.told ++ [qk] } l but = Gp.oth g l but) := Lib.hid rfl
    obtain ⟨ih, zh, hih, hzh, hsh, hbh, hzsh⟩ := info_h21
    have HII := Lib.hid (And.intro hih (And.intro hzh (And.intro hsh (And.intro hbh hzsh))))
    have HY32 : Hid (YL.length = 32 ∧ ∀ u ∈ YL, u.oneCell' = true) := Lib.hid ⟨by rw [← HYL.out, bvs_length]; exact HQ.out.1, by rw [← HYL.out]; exact bvs_one _⟩
    clear hfl hseen hih hzh hsh hbh hzsh
    go_enter Try.func14, Try.ntmps14
    go_wp2_with (first
      | (refine wpList_load_row (by rfl) 31 _ (by rfl) b1 (by rfl) 31 CL.toArray (0, 0) _ R1.out Try.underlying31 rfl SCL.out.1 ?_)
      | (refine wpList_load_row (by rfl) 36 _ (by rfl) b2 (by rfl) 36 YL.toArray (0, 0) _ R2.out Try.underlying36 rfl SYL.out ?_)
      | fail)
    refine HSE.out.mono ?_
    rintro e w4 ⟨rfl, k4⟩
    obtain ⟨B5, hB5⟩ : ∃ B, w4.heap.size = B := ⟨_, rfl⟩
    have HB5 : Hid (w4.heap.size = B5 ∧ b1 + 3 ≤ B5) := Lib.hid ⟨hB5, by have := k4.size; have := HBB.out; omega⟩
    have E4 := Lib.hid (R1.out.keeps k4 id)
    have F4 := Lib.hid (R2.out.keeps k4 id)
    have L4 := Lib.hid (HLT.out.later k4)
    have K4 := Lib.hid k4
    have hc4 : w4.cell? ⟨b1, 4, none⟩ = some (.slice A tn tc) := by have h := E4.out.cell 4; rw [← HCL.out] at h; exact h
    clear k4 hW1 hW2 hW3 hb1 hb2 hb8 hB5
    go_wp2_with (first
      | (refine wpList_append_list19 (by rfl) _ _ 29 (by rfl) B5 36 ih zh 32 32 Try.underlying29 HII.out.1 HII.out.2.1 HII.out.2.2.1 HII.out.2.2.2.1 HII.out.2.2.2.2 (by decide) (.slice none 0 0) 0 [] (by rfl) (World.ownsRow_nil _ _ _ _) A tn tc g.told (by rfl) L4.out hbs_len (flt_one bvs_one g.told) (by unfold maxLen; omega) (by omega) (by have := HB5.out; omega) ?_; intro v5 w5 ho5 hg5; simp only [List.nil_append, Nat.zero_add] at ho5; have HO5 := Lib.hid ho5; have K5 : Hid (Keeps (fun _ => False) w4 w5) := Lib.hid ((Keeps.refl _ _).grown hg5 (fun _ _ h => by cases h)); obtain ⟨A5, c5, rfl⟩ := own_slice ho5; have F5 := Lib.hid (F4.out.keeps K5.out id); clear ho5 hg5)
      | (refine wpList_load_row (by rfl) 36 _ (by rfl) b2 (by rfl) 36 YL.toArray (0, 0) _ F5.out Try.underlying36 rfl SYL.out ?_)
      | (refine wpList_build1_21 (by rfl) 29 1 0 _ (by rfl) (.agg YL.toArray) _ (by rfl) (build_h21 YL HY32.out.1 w5) ?_)
      | (refine wpList_append_own _ (by rfl) _ _ 29 (by rfl) B5 36 ih zh 32 32 Try.underlying29 HII.out.1 HII.out.2.1 HII.out.2.2.1 HII.out.2.2.2.1 HII.out.2.2.2.2 (by decide) (.slice A5 tn c5) tn (flt bvs g.told) (by rfl) (((Keeps.refl (fun _ => False) w5).alloc _).owns HO5.out (fun _ _ => id)) ⟨w5.heap.size, 0, none⟩ 1 1 YL (by rfl) (by have := HY32.out.1; omega) (World.news_of_block (heap_alloc_new w5 _)) HY32.out.2 (by unfold maxLen; omega) (by omega) (by have := HB5.out; have := K5.out.size; simp; omega) ?_; intro v7 V7 ho7 hg7 _; have HO7 := Lib.hid ho7; have K7 : Hid (Keeps (fun j => B5 ≤ j) w5 V7) := Lib.hid (Keeps.trans ((Keeps.refl (fun j => B5 ≤ j) w5).alloc _) (own_grow21 (((Keeps.refl (fun _ => False) w5).alloc _).owns HO5.out (fun _ _ => id)) hg7)); obtain ⟨A7, c7, rfl⟩ := own_slice ho7; have E7 := Lib.hid ((E4.out.keeps K5.out id).keeps K7.out (fun e => by have := HB5.out; have e' : B5 ≤ b1 := e; omega)); have hc7 : V7.cell? ⟨b1, 4, none⟩ = some (.slice A tn tc) := (by have h := E7.out.cell 4; rw [← HCL.out] at h; exact h); have hf7 : V7.frozen? ⟨b1, 4, none⟩ = false := E7.out.frozen 4; obtain ⟨W9, hW9⟩ : ∃ V, V7.setCell ⟨b1, 4, none⟩ (.slice A7 (tn + 1) c7) = V := ⟨_, rfl⟩; clear ho7 hg7)
      | fail)
    obtain ⟨os, hos⟩ : ∃ os, Gp.oth g l but = os := ⟨_, rfl⟩
    obtain ⟨mo, hmo⟩ : ∃ n, os.length = n := ⟨_, rfl⟩
    obtain ⟨B9, hB9⟩ : ∃ B, b1 + 3 = B := ⟨_, rfl⟩
    obtain ⟨CN, hCN⟩ : ∃ C, gcs { g with told := g.told ++ [qk] } (.slice A7 (tn + 1) c7) = C := ⟨_, rfl⟩
    have k79 : Keeps (fun j => j = b1) V7 W9 := by rw [← hW9]; exact (Keeps.refl (fun j => j = b1) V7).setCell (p := ⟨b1, 4, none⟩) (fun _ => rfl) _
    have e9 : Row W9 b1 31 CN := by
      have h := E7.out.set 4 (.slice A7 (tn + 1) c7)
      rw [hW9] at h
      have e : CL.set 4 (.slice A7 (tn + 1) c7) = CN := by rw [← HCL.out, ← hCN]; rfl
      rw [← e]; exact h
    have hsz : b1 + 3 ≤ W9.heap.size := by have := HB5.out; have := K5.out.size; have := K7.out.size; have := k79.size; omega
    have k49 : Keeps (fun j => B5 ≤ j ∨ j = b1) w4 W9 := ((K5.out.mono (fun _ _ h => h.elim)).trans (K7.out.mono (fun _ _ h => .inl h))).trans (k79.mono (fun _ _ h => .inr h))
    have HOT : Hid (∀ V, Keeps (fun _ => False) W9 V → Calls Try.prog 22 #[.agg CN.toArray, .slice A2 n c2, .int .i64 but] V fun e w' => ∃ x : Option Addr × Nat, e = .returned (.slice x.1 mo x.2) ∧ Later W9 w' ∧ w'.ownsRow B9 3 1 (.slice x.1 mo x.2) mo (ivs os)) := Lib.hid (fun V hV => by
      rw [← hCN]
      have hsrc : Src V A2 (ivs l) := fun j u hu => by
        obtain ⟨ad, ha, hcell⟩ := HSS.out j u hu
        have hbl : (ad.add j).block < w.heap.size := (World.block_lt_of_cell? _ _ (by exact (hS0.out j u hu ad ha)))
        exact ⟨ad, ha, ((hV.cell (by have := hsz; have := HBB.out; omega) id).trans ((k49.cell (by have := K4.out.size; have := K3.out.size; omega) (by rintro (e | e) <;> (have := HB5.out; have := HBB.out; omega))).trans ((K4.out.cell (by have := K3.out.size; omega) id).trans hcell)))⟩
      have h := HOT0.out V (.slice A7 (tn + 1) c7) rfl hsrc
      rw [HOE.out, hos, hmo] at h
      refine h.mono ?_
      rintro e w' ⟨A', c', rfl, ho, hk⟩
      exact ⟨(A', c'), rfl, ⟨hV.trans hk⟩, own_base ho (by have := hV.size; omega)⟩)
    have HCN : Hid (∀ V, Later W9 V → V.rangeAt b1 0 CN) := Lib.hid (fun V hV j v hv => by rw [(e9.keeps hV.out id).cell, Nat.zero_add]; exact hv)
    have SCN : Hid ((Try.prog.info? 31).map (·.size) = some CN.length ∧ (Try.prog.info? 31).map (·.size) = some CN.toArray.size ∧ Z.size = CN.toArray.size ∧ CN.toArray.all (·.oneCell') = true) := Lib.hid ⟨by rw [← hCN]; exact size_g21, by rw [← hCN]; exact size_g21, by rw [← hCN, ← HZ.out]; rfl, by rw [← hCN]; exact gcs_one _ _ _ _⟩
    have e8 : W9.heap[b8]? = some (.cells Z 31 (0, 0)) := (k49.block b8 (by have := HBB.out; have := HB5.out; omega) (by rintro (e | e) <;> (have := HB5.out; have := HBB.out; omega))).trans ((K4.out.block b8 (Array.getElem?_eq_some_iff.1 R8.out).1 id).trans R8.out)
    have E8 := Lib.hid e8
    have O9 := Lib.hid (k79.owns HO7.out (fun j hj e => by obtain ⟨_, _, h0⟩ := own_block HO7.out j hj; have := HB5.out; have e' : j = b1 := e; omega))
    have K9 : Hid (Keeps (fun _ => False) w W9) := Lib.hid ((K3.out.trans K4.out).trans' k49 (fun i hi e => by have := HB5.out; have := HBB.out; have := K3.out.size; rcases e with e | e <;> omega))
    have HMO := Lib.hid (And.intro hos (And.intro hmo (And.intro hCN hB9)))
    clear hos hmo hB9 hCN k79 e9 hsz k49 e8 hc4 hc7 hf7 hW9 E7
    refine wp_region_stores 5 [4] [0, 1, 2, 3, 4] (Later W9) (fun _ => True) (by kernel_rfl) (by kernel_rfl) (Lasts.later W9) (Lasts.true) (⟨(Keeps.refl _ _).drew⟩) (trivial) ?_
    refine T_load (get_op rfl) (by rfl) (by rfl) 31 (.tmp 4) (by rfl) b1 0 (by rfl) CN _ (fun V hV => HCN.out V hV) Try.underlying31 rfl SCN.out.1 ?_
    simp only [Act.put, List.setIfInBounds_toArray, List.set_cons_zero, List.set_cons_succ]
    refine T_load (get_op rfl) (by rfl) (by rfl) 31 (.tmp 4) (by rfl) b1 0 (by rfl) CN _ (fun V hV => HCN.out V hV) Try.underlying31 rfl SCN.out.1 ?_
    simp only [Act.put, List.setIfInBounds_toArray, List.set_cons_zero, List.set_cons_succ]
    refine T_quiet (get_op rfl) (by rfl) (by rfl) (by rfl) ?_
    intro K hK
    go_big_quiet_op
    first | go_big_quiet_on | go_big_quiet_call ((intro _; rfl))
    refine T_quiet (get_op rfl) (by rfl) (by rfl) (by rfl) ?_
    intro K hK
    go_big_quiet_op
    first | go_big_quiet_on | go_big_quiet_call ((intro _; rfl))
    refine T_enterR (get_op rfl) (by rfl) (by rfl) _ _ (fun x : Option Addr × Nat => Value.slice x.1 mo x.2) (fun x y h => isl21 x y mo h) (fun _ => by go_simp) (fun x V => V.ownsRow B9 3 1 (.slice x.1 mo x.2) mo (ivs os)) (fun x V V' h k => k.owns h (fun _ _ => id)) (fun V hV hf => HOT.out V hV.out) ?_
    intro xo
    simp only [Act.put, List.setIfInBounds_toArray, List.set_cons_zero, List.set_cons_succ]
    refine T_nil ?_
    intro V10 k10 f10
    simp only [List.drop_succ_cons, List.drop_zero]
    obtain ⟨V11, hV11⟩ : ∃ V, V10.setRow b8 CN.toArray = V := ⟨_, rfl⟩
    have k11 : Keeps (fun j => j = b8) V10 V11 := by rw [← hV11]; exact Keeps.setRow _ _
    have e10 := (k10.out.block b8 (Array.getElem?_eq_some_iff.1 E8.out).1 id).trans E8.out
    have q11 : V11.heap[b8]? = some (.cells CN.toArray 31 (0, 0)) := by rw [← hV11]; exact setRow_heap _ _ _ _ _ _ e10
    have o10 := k10.out.owns O9.out (fun _ _ => id)
    have FIN : Hid (V11.ownsRow w.heap.size 36 32 (.slice A7 (tn + 1) c7) (tn + 1) (flt bvs g.told ++ YL) ∧ V11.ownsRow w.heap.size 3 1 (.slice xo.1 mo xo.2) mo (ivs os) ∧ Keeps (fun _ => False) w V11) := Lib.hid ⟨own_base (k11.owns o10 (fun j hj e => by obtain ⟨_, _, h0⟩ := own_block o10 j hj; have := HB5.out; have := HBB.out; have e' : j = b8 := e; omega)) (by have := HB5.out; have := HBB.out; have := HQ.out.2.2.2; omega), own_base (k11.owns f10 (fun j hj e => by obtain ⟨_, _, h0⟩ := own_block f10 j hj; have := HMO.out.2.2.2; have := HBB.out; have e' : j = b8 := e; omega)) (by have := HMO.out.2.2.2; have := HBB.out; omega), (K9.out.trans k10.out).trans' k11 (fun i hi e => by have := HBB.out; have e' : i = b8 := e; omega)⟩
    have E10 := Lib.hid e10
    have Q11 := Lib.hid q11
    clear k10 f10 k11 e10 q11 o10
    go_wp2_with (first
      | (refine wpList_store_row (by rfl) 31 _ _ (by rfl) b8 CN.toArray (by rfl) (by rfl) 31 Z E10.out SCN.out.2.1 SCN.out.2.2.1 SCN.out.2.2.2 ?_; rw [hV11])
      | fail)
    refine bodyPost_ret (results_cell_tmp21 rfl _ _ b8 31 CN.toArray (0, 0) _ rfl Q11.out Try.underlying31 rfl SCN.out.2.1) rfl ?_
    rw [HFL.out]
    have hlen : (g.told ++ [qk]).length = tn + 1 := by rw [List.length_append, HQ.out.2.1]; rfl
    refine ⟨A7, c7, xo.1, xo.2, ?_, ?_, ?_, FIN.out.2.2⟩
    · show _ = Ending.returned (.tuple #[.agg (gcs { g with told := g.told ++ [qk] } (.slice A7 (g.told ++ [qk]).length c7)).toArray, .slice xo.1 (Gp.oth g l but).length xo.2])
      rw [hlen, HMO.out.2.2.1, HMO.out.1, HMO.out.2.1]; rfl
    · have hnew : V11.ownsRow w.heap.size 36 32 (.slice A7 (g.told ++ [qk]).length c7) (g.told ++ [qk]).length (flt bvs (g.told ++ [qk])) := by
        rw [hlen, ← flt_snoc, HYL.out]; exact FIN.out.1
      exact ⟨own_base hnew HQ.out.2.2.2, .inr hnew⟩
    · show V11.ownsRow w.heap.size 3 1 (.slice xo.1 (Gp.oth g l but).length xo.2) (Gp.oth g l but).length (ivs (Gp.oth g l but))
      rw [HMO.out.1, HMO.out.2.1]; exact FIN.out.2.1
end Go.Proofs.Ytmhbfchhooggjaa
