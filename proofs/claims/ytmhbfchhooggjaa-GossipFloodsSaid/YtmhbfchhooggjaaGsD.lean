/-
  The landed gossip keeps the contracts: Flood; of nil; goss_ok.
-/
import Derived.Test.YtmhbfchhooggjaaGsC
namespace Go.Proofs.Ytmhbfchhooggjaa
open Go.RowKit Go.BigFrame
set_option linter.unusedVariables false
set_option linter.unusedSimpArgs false

theorem map_nonnil (b : Nat) (V : World) : (binOp .eql 56 (.map (some b)) (.map none)).run Try.prog V = .ok (.bool false) V := by kernel_rfl
theorem ground_none (w : World) (A : Option Addr) (n c : Nat) : Calls Try.prog 10 #[.pointer none, .slice A n c] w fun e w' => ∃ A' c', e = .returned (.slice A' 0 c') ∧ Keeps (fun _ => False) w w' := by
  go_enter Try.func10, Try.ntmps10
  go_wp2
  go_ret
  exact ⟨none, 0, rfl, Keeps.refl _ _⟩
theorem gflood_none (w : World) (qk : List UInt8) (A : Option Addr) (n c : Nat) (but : Int) (hi : qk.length = 32) : Calls Try.prog 13 #[.pointer none, .agg (bvs qk).toArray, .slice A n c, .int .i64 but] w fun e w' => ∃ A' c', e = .returned (.slice A' 0 c') ∧ Keeps (fun _ => False) w w' := by
  obtain ⟨KX, hKX⟩ : ∃ K, (bvs qk).toArray = K := ⟨_, rfl⟩
  rw [hKX]
  have HF : Hid (Keeps (fun _ => False) w (w.alloc (.cells KX 36))) := Lib.hid ((Keeps.refl _ _).alloc _)
  clear hKX hi
  go_enter Try.func13, Try.ntmps13
  go_wp2
  go_ret
  exact ⟨none, 0, rfl, HF.out⟩
set_option maxRecDepth 100000 in
set_option maxHeartbeats 1000000 in
theorem gflood_any {w : World} {F : Nat → Prop} {g : Nat} {t : Gp.G} (qk : List UInt8) (A : Option Addr) (n c : Nat) (l : List Int) (but : Int) (h : GsAt w F g t) (hi : qk.length = 32) (hS : Src w A (ivs l)) (hl : l.length = n) (hnc : n ≤ c) (hcx : c ≤ 9223372036854775807) (hA : A = none → c = 0) (hF : ∀ ad, A = some ad → 0 < n → ¬ F ad.block) (hn : n ≤ 1000) :
    Calls Try.prog 13 #[.pointer (some ⟨g, 0, none⟩), .agg (bvs qk).toArray, .slice A n c, .int .i64 but] w fun e w' => ∃ F' A' c', e = .returned (.slice A' (Gp.flood t qk l but).2.length c') ∧ GsAt w' F' g (Gp.flood t qk l but).1 ∧ w'.ownsRow w.heap.size 3 1 (.slice A' (Gp.flood t qk l but).2.length c') (Gp.flood t qk l but).2.length (ivs (Gp.flood t qk l but).2) ∧
      (∀ b, F' b → F b ∨ w.heap.size ≤ b) ∧ (∀ ad, A' = some ad → ¬ F' ad.block) ∧ Keeps F w w' := by
  obtain ⟨d, m, h⟩ := h
  have hmn := map_nonnil m
  obtain ⟨bk, hbk⟩ : ∃ x, w.heap.size = x := ⟨_, rfl⟩
  obtain ⟨W1, hW1⟩ : ∃ V, w.alloc (.cells (bvs qk).toArray 36) = V := ⟨_, rfl⟩
  have k1 : Keeps (fun _ => False) w W1 := by rw [← hW1]; exact (Keeps.refl _ _).alloc _
  have r1 : Row W1 bk 36 (bvs qk) := by rw [← hW1, ← hbk]; exact heap_alloc_new w _
  have h1 := h.later k1
  have hsn := gseen_any qk h1 hi
  have hc4 : W1.cell? ⟨g, 4, none⟩ = some (.map (some m)) := h1.told
  by_cases hin : qk ∈ t.told
  · have e1 : Gp.flood t qk l but = (t, []) := if_pos hin
    rw [e1]
    rw [show ∀ i : Decidable (qk ∈ t.told), @decide _ i = true from fun i => decide_eq_true hin] at hsn
    obtain ⟨KL, hKL⟩ : ∃ K, (bvs qk).toArray = K := ⟨_, rfl⟩
    have HSX : Hid ((Try.prog.info? 36).map (·.size) = some KL.size) := Lib.hid (by rw [← hKL, List.size_toArray, bvs_length, hi]; exact info_h)
    have R1 : Hid (W1.heap[bk]? = some (.cells KL 36 (0, 0))) := Lib.hid (by rw [← hKL]; exact r1)
    have HSN := Lib.hid hsn
    have H1 := Lib.hid h1
    have K1 := Lib.hid k1
    have H0 := Lib.hid h
    rw [hKL] at HSN hW1 ⊢
    clear h k1 r1 h1 hsn hKL hi hin e1
    go_enter Try.func13, Try.ntmps13
    go_wp2_with (first
      | (refine wpList_load_row_w (by rfl) 36 (.tmp 5) (by rfl) bk (by rfl) 36 KL (0, 0) _ R1.out Try.underlying36 rfl HSX.out ?_)
      | fail)
    refine HSN.out.mono ?_
    rintro e w2 ⟨rfl, k2⟩
    have FIN : Hid (GsAt w2 F g t ∧ Keeps F w w2) := Lib.hid ⟨⟨d, m, H1.out.later k2⟩, (K1.out.trans k2).mono (fun _ _ h => h.elim)⟩
    clear k2
    go_wp2
    go_ret
    exact ⟨F, none, 0, rfl, FIN.out.1, World.ownsRow_nil _ _ _ _, fun b hb => .inl hb, (fun ad e => by cases e), FIN.out.2⟩
  · have e1 : Gp.flood t qk l but = ({ t with told := t.told ++ [qk] }, Gp.oth t l but) := if_neg hin
    rw [e1]
    rw [show ∀ i : Decidable (qk ∈ t.told), @decide _ i = false from fun i => decide_eq_false hin] at hsn
    have hok : Gp.G.Ok ({ t with told := t.told ++ [qk] } : Gp.G) := by have h2 := Gp.flood_ok h.ok hi l but; rw [e1] at h2; exact h2
    obtain ⟨KL, hKL⟩ : ∃ K, bvs qk = K := ⟨_, rfl⟩
    have HSX : Hid ((Try.prog.info? 36).map (·.size) = some KL.length) := Lib.hid (by rw [← hKL, bvs_length, hi]; exact info_h)
    have HSY : Hid ((Try.prog.info? 36).map (·.size) = some KL.toArray.size) := Lib.hid (by rw [List.size_toArray]; exact HSX.out)
    have HQ : Hid (qk.length = 32 ∧ (bvs qk).toArray = KL.toArray) := Lib.hid ⟨hi, by rw [hKL]⟩
    rw [hKL] at r1 hsn hW1 ⊢
    have R1 := Lib.hid r1
    have HSN := Lib.hid hsn
    have H1 := Lib.hid h1
    have K1 := Lib.hid k1
    have H0 := Lib.hid h
    have HOK := Lib.hid hok
    have HS := Lib.hid hS
    have HBK := Lib.hid hbk
    have HSS : Hid (∀ V : World, (Instr.build 63 #[]).run Try.prog V = .ok (.agg #[]) V) := Lib.hid build_S
    obtain ⟨os, hos⟩ : ∃ os, Gp.oth t l but = os := ⟨_, rfl⟩
    obtain ⟨mo, hmo⟩ : ∃ n, os.length = n := ⟨_, rfl⟩
    have HO := Lib.hid (And.intro hos hmo)
    have HL := Lib.hid hl
    rw [hos, hmo]
    clear h k1 r1 h1 hsn hKL hi hin e1 hok hos hmo hS hl
    go_enter Try.func13, Try.ntmps13
    go_wp2_with (first
      | (refine wpList_load_row_w (by rfl) 36 (.tmp 5) (by rfl) bk (by rfl) 36 KL.toArray (0, 0) _ R1.out Try.underlying36 rfl HSY.out ?_)
      | fail)
    refine HSN.out.mono ?_
    rintro e w2 ⟨rfl, k2⟩
    have HC4 : Hid (∀ V, Later w2 V → V.cell? ⟨g, 4, none⟩ = some (.map (some m))) := Lib.hid (fun V hV => ((H1.out.later k2).later hV.out).told)
    have HKX : Hid (∀ V, Later w2 V → V.rangeAt bk 0 KL) := Lib.hid (fun V hV j v hv => by rw [((Row.keeps R1.out k2 id).keeps hV.out id).cell, Nat.zero_add]; exact hv)
    have HM2 : Hid (∀ V, Later w2 V → SMap bvs (fun h => h.length = 32) V m t.told) := Lib.hid (fun V hV => ((H1.out.later k2).later hV.out).map)
    have K2 := Lib.hid k2
    clear k2
    go_wp2_with fail
    refine wp_region_stores 6 [] [0, 1, 2, 3, 4, 5] (Later w2) (fun _ => True) (by kernel_rfl) (by kernel_rfl) (Lasts.later w2) (Lasts.true) (⟨(Keeps.refl _ _).drew⟩) (trivial) ?_
    refine T_value (get_op rfl) (by rfl) (by rfl) (.pointer (some ⟨g, 0, none⟩)) (fun _ _ => by go_simp) ?_
    simp only [Act.put, List.setIfInBounds_toArray, List.set_cons_zero, List.set_cons_succ]
    refine T_value (get_op rfl) (by rfl) (by rfl) (.pointer (some ⟨g, 0, none⟩)) (fun _ _ => by go_simp) ?_
    simp only [Act.put, List.setIfInBounds_toArray, List.set_cons_zero, List.set_cons_succ]
    refine T_value (get_op rfl) (by rfl) (by rfl) (.pointer (some ⟨g, 4, none⟩)) (fun _ _ => by go_simp) ?_
    simp only [Act.put, List.setIfInBounds_toArray, List.set_cons_zero, List.set_cons_succ]
    refine T_cell (get_op rfl) (by rfl) (by rfl) 56 (.tmp 25) (by rfl) ⟨g, 4, none⟩ (by rfl) (.map (some m)) _ (fun V hV => HC4.out V hV) Try.underlying56 rfl ?_
    simp only [Act.put, List.setIfInBounds_toArray, List.set_cons_zero, List.set_cons_succ]
    refine T_load (get_op rfl) (by rfl) (by rfl) 36 (.tmp 5) (by rfl) bk 0 (by rfl) KL _ (fun V hV => HKX.out V hV) Try.underlying36 rfl HSX.out ?_
    simp only [Act.put, List.setIfInBounds_toArray, List.set_cons_zero, List.set_cons_succ]
    refine T_value (get_op rfl) (by rfl) (by rfl) (.agg #[]) (fun _ _ => by go_simp) ?_
    simp only [Act.put, List.setIfInBounds_toArray, List.set_cons_zero, List.set_cons_succ]
    refine T_nil ?_
    intro V hV hf
    have HV := Lib.hid hV
    clear hV hf
    simp only [List.drop_succ_cons, List.drop_zero]
    go_wp2_with (first
      | (refine wpList_sstore hashes_T (by rfl) _ _ _ (by rfl) m t.told qk HQ.out.1 (by rfl) KL.toArray (by rfl) (by rfl) HQ.out.2 (HM2.out V HV.out) ?_; intro w5 hm5 hk5; have HM5 := Lib.hid hm5; have HK5 := Lib.hid hk5; clear hm5 hk5)
      | fail)
    have h5 : GsT w5 F g d m { t with told := t.told ++ [qk] } := by
      have hv := H1.out.later (K2.out.trans HV.out.out)
      exact ⟨hv.row.keeps HK5.out hv.mg.symm, Row.keeps hv.dice HK5.out hv.md.symm, HM5.out, hv.ne, hv.own, HOK.out⟩
    have k5 : Keeps F w w5 := ((K1.out.trans (K2.out.trans HV.out.out)).mono (fun _ _ h => h.elim)).trans (HK5.out.mono (fun k _ e => (h5.own k).2 (.inr (.inr e))))
    have hsr : Src w5 A (ivs l) := by
      by_cases hz : 0 < n
      · exact HS.out.keeps k5 (fun ad e _ => hF ad e hz)
      · obtain rfl : l = [] := List.eq_nil_of_length_eq_zero (by have := HL.out; omega)
        exact fun j u hu => by cases hu
    have HC := Lib.hid (gothers_any h5 A n c l but hsr HL.out hn hnc hcx hA)
    have H5 := Lib.hid h5
    have K5 := Lib.hid k5
    clear h5 k5 hsr
    refine HC.out.mono ?_
    rintro e w6 ⟨A6, c6, rfl, ho, hk⟩
    have e6 : Gp.oth { t with told := t.told ++ [qk] } l but = os := HO.out.1
    rw [e6, HO.out.2] at ho ⊢
    have FIN : Hid (GsAt w6 F g { t with told := t.told ++ [qk] } ∧ w6.ownsRow w.heap.size 3 1 (.slice A6 mo c6) mo (ivs os) ∧ (∀ ad, A6 = some ad → ¬ F ad.block) ∧ Keeps F w w6) := Lib.hid (by
      refine ⟨⟨d, m, H5.out.later hk⟩, own_base ho K5.out.size, fun ad e hFa => ?_, K5.out.trans (hk.mono (fun _ _ h => h.elim))⟩
      have h1 := H5.out.lt _ hFa
      obtain ⟨_, _, h2⟩ := own_block ho ad.block (by rw [e]; rfl)
      omega)
    clear ho hk
    go_wp2
    go_ret
    exact ⟨F, A6, c6, rfl, FIN.out.1, FIN.out.2.1, fun b hb => .inl hb, FIN.out.2.2⟩
theorem goss_ok : Goss GsAt where
  ok := fun h => by obtain ⟨d, m, h⟩ := h; exact h.ok
  lt := fun h => by obtain ⟨d, m, h⟩ := h; exact h.lt
  keeps := fun h hk hs => by obtain ⟨d, m, h⟩ := h; exact ⟨d, m, h.keeps hk hs⟩
  new_on := fun w me many fan s h => gnew_on w me many fan s h
  new_off := fun w me many fan s h => gnew_off w me many fan s h
  round := fun A n c l h hS hl hnc hcx hA hF hn => ground_any A n c l h hS hl hnc hcx hA hF hn
  flood := fun qk A n c l but h hi hS hl hnc hcx hA hF hn _ => gflood_any qk A n c l but h hi hS hl hnc hcx hA hF hn
  seen := fun qk h hi => by
    obtain ⟨d, m, h⟩ := h
    exact gseen_any qk h hi
  round_none := fun w A n c => ground_none w A n c
  flood_none := fun w qk A n c but hi => gflood_none w qk A n c but hi
  seen_none := fun w qk hi => gseen_none w qk hi
end Go.Proofs.Ytmhbfchhooggjaa
