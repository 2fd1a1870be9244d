/-
  The document's own table of what is asked for, by value: Done.
-/
import Derived.Test.YthnpgiagajfaiaaFtT
namespace Go.Proofs.Ythnpgiagajfaiaa
open Go.RowKit Go.BigFrame
set_option linter.unusedVariables false
set_option linter.unusedSimpArgs false

namespace Ft
theorem done_snoc (l : List Q) (q : Q) (k : Wn) : done (l ++ [q]) k = done l k ++ (if q.key = k then [] else [q]) := by
  unfold done
  rw [List.filter_append]
  congr 1
  by_cases h : q.key = k <;> simp [h]
theorem done_lt (l : List Q) (k : Wn) : decide ((done l k).length < l.length) = has l k := by
  have e : (done l k).length < l.length ↔ has l k = true := by
    unfold done
    rw [List.length_filter_lt_length_iff_exists, has_iff]
    simp
  rw [Bool.eq_iff_iff, decide_eq_true_iff]
  exact e
end Ft
set_option maxRecDepth 100000 in
set_option maxHeartbeats 4000000 in
theorem rdone_any (base most budget : Nat) (A : Option Addr) (n c B0 : Nat) (l : List Ft.Q) (k : Ft.Wn) (w : World) (hk : Ft.Wn.Ok k) (hok : ∀ q ∈ l, Ft.Q.Ok q) (ho : w.ownsRow B0 71 68 (.slice A n c) n (qfl l)) (hn : n ≤ 1000) :
    Calls Try.prog 15 #[.agg (tcs base most budget (.slice A n c)), .agg (kcs k.1).toArray, .agg (kcs k.2).toArray] w fun e w' => ∃ (A' : Option Addr) (c' : Nat), e = .returned (.tuple #[.agg (tcs base most budget (.slice A' (Ft.done l k).length c')), .bool (Ft.has l k)]) ∧ Keeps (fun _ => False) w w' ∧ w'.ownsRow w.heap.size 71 68 (.slice A' (Ft.done l k).length c') (Ft.done l k).length (qfl (Ft.done l k)) := by
  obtain ⟨Z, hZ⟩ : ∃ Z, tcs 0 0 0 (.slice none 0 0) = Z := ⟨_, rfl⟩
  have hz : ∀ V : World, (zeroValue 31).run Try.prog V = .ok (.agg Z) V := fun V => by rw [← hZ]; exact zero_T V
  have SZ : Hid ((Try.prog.info? 31).map (·.size) = some Z.size) := Lib.hid (by rw [← hZ]; exact size_T)
  obtain ⟨T, hT⟩ : ∃ T, tcs base most budget (.slice A n c) = T := ⟨_, rfl⟩
  obtain ⟨KO, hKO⟩ : ∃ K, kcs k.1 = K := ⟨_, rfl⟩
  obtain ⟨KN, hKN⟩ : ∃ K, kcs k.2 = K := ⟨_, rfl⟩
  rw [hT, hKO, hKN]
  obtain ⟨b1, hb1⟩ : ∃ x, w.heap.size = x := ⟨_, rfl⟩
  obtain ⟨W1, hW1⟩ : ∃ V, w.alloc (.cells T 31) = V := ⟨_, rfl⟩
  obtain ⟨b2, hb2⟩ : ∃ x, W1.heap.size = x := ⟨_, rfl⟩
  obtain ⟨W2, hW2⟩ : ∃ V, W1.alloc (.cells KO.toArray 39) = V := ⟨_, rfl⟩
  obtain ⟨b3, hb3⟩ : ∃ x, W2.heap.size = x := ⟨_, rfl⟩
  obtain ⟨W3, hW3⟩ : ∃ V, W2.alloc (.cells KN.toArray 39) = V := ⟨_, rfl⟩
  obtain ⟨b4, hb4⟩ : ∃ x, W3.heap.size = x := ⟨_, rfl⟩
  obtain ⟨W7, hW4⟩ : ∃ V, W3.alloc (.cells Z 31) = V := ⟨_, rfl⟩
  have k1 : Keeps (fun _ => False) w W1 := by rw [← hW1]; exact (Keeps.refl _ _).alloc _
  have k2 : Keeps (fun _ => False) W1 W2 := by rw [← hW2]; exact (Keeps.refl _ _).alloc _
  have k3 : Keeps (fun _ => False) W2 W3 := by rw [← hW3]; exact (Keeps.refl _ _).alloc _
  have k4 : Keeps (fun _ => False) W3 W7 := by rw [← hW4]; exact (Keeps.refl _ _).alloc _
  have r1 : Row W7 b1 31 [.int .i64 (base : Int), .int .i64 (most : Int), .int .i64 (budget : Int), .slice A n c] := Row.keeps (w := W1) (by rw [← hW1, ← hb1, ← hT]; exact heap_alloc_new w _) ((k2.trans k3).trans k4) id
  have r2 : W7.heap[b2]? = some (.cells KO.toArray 39 (0, 0)) := ((k3.trans k4).block b2 (by rw [← hW2, ← hb2]; simp) id).trans (by rw [← hW2, ← hb2]; exact heap_alloc_new W1 _)
  have r3 : W7.heap[b3]? = some (.cells KN.toArray 39 (0, 0)) := (k4.block b3 (by rw [← hW3, ← hb3]; simp) id).trans (by rw [← hW3, ← hb3]; exact heap_alloc_new W2 _)
  have r4 : W7.heap[b4]? = some (.cells Z 31 (0, 0)) := by rw [← hW4, ← hb4]; exact heap_alloc_new W3 _
  have k04 := ((k1.trans k2).trans k3).trans k4
  have HBO : Hid (w.heap.size = b1 ∧ b1 < b2 ∧ b2 < b3 ∧ b3 < b4 ∧ W7.heap.size = b4 + 1 ∧ b4 < W7.heap.size) := Lib.hid (by
    have e1 : W1.heap.size = w.heap.size + 1 := by rw [← hW1]; simp
    have e2 : W2.heap.size = W1.heap.size + 1 := by rw [← hW2]; simp
    have e3 : W3.heap.size = W2.heap.size + 1 := by rw [← hW3]; simp
    have e4 : W7.heap.size = W3.heap.size + 1 := by rw [← hW4]; simp
    omega)
  have HR1 := Lib.hid r1
  have HR2 := Lib.hid r2
  have HR3 := Lib.hid r3
  have HR4 := Lib.hid r4
  have HO := Lib.hid (k04.owns ho (fun _ _ => id))
  have K4 := Lib.hid k04
  have K47 : Hid (Keeps (fun _ => False) W7 W7) := Lib.hid (Keeps.refl _ _)
  have SKO : Hid ((Try.prog.info? 39).map (·.size) = some KO.toArray.size) := Lib.hid (by rw [← hKO, List.size_toArray, kcs_length hk.1.2]; exact info_k)
  have SKN : Hid ((Try.prog.info? 39).map (·.size) = some KN.toArray.size) := Lib.hid (by rw [← hKN, List.size_toArray, kcs_length hk.2.2]; exact info_k)
  have HLL : Hid (l.length = n) := Lib.hid (by have h := ho.1; rw [qfl_length l hok] at h; omega)
  have HOK := Lib.hid hok
  have HKK := Lib.hid (And.intro hk (And.intro hKO hKN))
  obtain ⟨ih, zh, hih, hzh, hsh, hbh, hzsh⟩ := info_Q_in
  have HII := Lib.hid (And.intro hih (And.intro hzh (And.intro hsh (And.intro hbh hzsh))))
  clear hT hKO hKN r1 r2 r3 r4 k1 k2 k3 k4 k04 ho hok hk hZ hih hzh hsh hbh hzsh
  go_enter Try.func15, Try.ntmps15
  go_wp2_with fail
  obtain ⟨B, hB⟩ : ∃ B, W7.heap.size = B := ⟨_, rfl⟩
  have HBE := Lib.hid (show W7.heap.size = B ∧ b4 < B ∧ b1 < b2 ∧ b2 < b3 ∧ b3 < b4 ∧ w.heap.size = b1 by have := HBO.out; omega)
  have hb1B : b1 < B := by have := HBE.out; omega
  clear hB
  go_loopw [8, 9] (fun lv iv wr => ∃ (i m : Nat) (o : List Ft.Q) (A2 : Option Addr) (c2 : Nat), i ≤ n ∧ lv = .slice A2 m c2 ∧ iv = .int .i64 (i : Int) ∧ Hid (Ft.done (l.take i) k = o) ∧ Hid (m = o.length ∧ m ≤ i) ∧ Hid (wr.ownsRow B 71 68 (.slice A2 m c2) m (qfl o)) ∧ Hid (Keeps (fun j => B ≤ j) W7 wr)) (fun _ iv _ => n - (intOf iv).toNat)
  case atStart => exact ⟨0, 0, [], none, 0, by omega, rfl, rfl, Lib.hid rfl, Lib.hid ⟨rfl, by omega⟩, Lib.hid (World.ownsRow_nil _ _ _ _), Lib.hid (Keeps.refl _ _)⟩
  case round =>
    obtain ⟨i, m, o, A2, c2, hi, rfl, rfl, HP, HM, HOO, HKB⟩ := hrel
    have r1w := Row.keeps HR1.out HKB.out (by omega)
    have hl0 : wr.cell? ⟨b1, 3, none⟩ = some (.slice A n c) := r1w.cell 3
    have HR1W := Lib.hid r1w
    have hbl : ∀ b, b < W7.heap.size → ¬ B ≤ b := fun b hb => by have := HBE.out; omega
    have HOW := Lib.hid (HKB.out.owns HO.out (fun b hb e => by
      obtain ⟨_, hg, _⟩ := own_block HO.out b hb
      exact hbl b (Array.getElem?_eq_some_iff.1 hg).1 e))
    have HBV : Hid (B ≤ wr.heap.size) := Lib.hid (by have := HKB.out.size; have := HBE.out; omega)
    have h2w := (HKB.out.block b2 (Array.getElem?_eq_some_iff.1 HR2.out).1 (hbl b2 (Array.getElem?_eq_some_iff.1 HR2.out).1)).trans HR2.out
    have h3w := (HKB.out.block b3 (Array.getElem?_eq_some_iff.1 HR3.out).1 (hbl b3 (Array.getElem?_eq_some_iff.1 HR3.out).1)).trans HR3.out
    by_cases hlt : i < n
    · have hii : (i : Int) < (n : Int) := by omega
      obtain ⟨g, rfl⟩ := own_some18 (g := 0) HOW.out (by omega)
      obtain ⟨a, ha⟩ : ∃ a, l[i]? = some a := ⟨_, List.getElem?_eq_getElem (by have := HLL.out; omega)⟩
      have haok := HOK.out a (List.mem_of_getElem? ha)
      have hal := own_q HOW.out HOK.out ha
      obtain ⟨hx1, hx2, _, _⟩ := range_q haok hal
      have hba := fun V => build_Q1 a haok V
      have hsa : (Try.prog.info? 71).map (·.size) = some (qcs a).length := by rw [qcs_length haok]; exact info_Q
      have hala : (qcs a).length = 68 := qcs_length haok
      have ha1 := qcs_one a
      obtain ⟨AL, hAL⟩ : ∃ L, qcs a = L := ⟨_, rfl⟩
      rw [hAL] at hal hba hsa hala ha1
      have htk : l.take (i + 1) = l.take i ++ [a] := by
        obtain ⟨h1, h2⟩ := List.getElem?_eq_some_iff.1 ha
        rw [List.take_succ_eq_append_getElem h1, h2]
      have E1 : Hid (∀ V : World, (binOp .neq 39 (.agg (kcs a.key.1).toArray) (.agg (kcs k.1).toArray)).run Try.prog V = .ok (.bool (!decide (a.key.1 = k.1))) V) := Lib.hid (fun V => run_neq_key a.key.1 k.1 haok.1 HKK.out.1.1 V)
      have E2 : Hid (∀ V : World, (binOp .neq 39 (.agg (kcs a.key.2).toArray) (.agg (kcs k.2).toArray)).run Try.prog V = .ok (.bool (!decide (a.key.2 = k.2))) V) := Lib.hid (fun V => run_neq_key a.key.2 k.2 haok.2 HKK.out.1.2 V)
      rw [HKK.out.2.1] at E1
      rw [HKK.out.2.2] at E2
      have SX1 : Hid ((Try.prog.info? 39).map (·.size) = some (kcs a.key.1).length) := Lib.hid (by rw [kcs_length haok.1.2]; exact info_k)
      have SX2 : Hid ((Try.prog.info? 39).map (·.size) = some (kcs a.key.2).length) := Lib.hid (by rw [kcs_length haok.2.2]; exact info_k)
      obtain ⟨X1, hX1⟩ : ∃ K, kcs a.key.1 = K := ⟨_, rfl⟩
      obtain ⟨X2, hX2⟩ : ∃ K, kcs a.key.2 = K := ⟨_, rfl⟩
      rw [hX1] at E1 SX1 hx1
      rw [hX2] at E2 SX2 hx2
      have HBA := Lib.hid (And.intro (And.intro hba ha1) hala)
      have SAL := Lib.hid hsa
      have HA := Lib.hid (And.intro ha hAL)
      have HTK := Lib.hid htk
      have HC3 : Hid (∀ V, Later wr V → V.cell? ⟨b1, 3, none⟩ = some (.slice (some ⟨g, 0, none⟩) n c)) := Lib.hid (fun V hV => (HR1W.out.keeps hV.out id).cell 3)
      have HAL : Hid (∀ V, Later wr V → V.rangeAt g (i * 68) AL) := Lib.hid (fun V hV => range_keeps17 hal hV.out id)
      have HX1 : Hid (∀ V, Later wr V → V.rangeAt g (i * 68) X1) := Lib.hid (fun V hV => range_keeps17 hx1 hV.out id)
      have HX2 : Hid (∀ V, Later wr V → V.rangeAt g (i * 68 + 33) X2) := Lib.hid (fun V hV => range_keeps17 hx2 hV.out id)
      have HKO : Hid (∀ V, Later wr V → V.heap[b2]? = some (.cells KO.toArray 39 (0, 0))) := Lib.hid (fun V hV => (hV.out.block b2 (Array.getElem?_eq_some_iff.1 h2w).1 id).trans h2w)
      have HKN : Hid (∀ V, Later wr V → V.heap[b3]? = some (.cells KN.toArray 39 (0, 0))) := Lib.hid (fun V hV => (hV.out.block b3 (Array.getElem?_eq_some_iff.1 h3w).1 id).trans h3w)
      have hm9 : m ≤ 1001 := by have := HM.out; omega
      have heq : a.key = k ↔ (a.key.1 = k.1 ∧ a.key.2 = k.2) := Prod.ext_iff
      cases h1 : decide (a.key.1 = k.1) with
      | false =>
        rw [h1] at E1
        have HNE : Hid (¬ a.key = k) := Lib.hid (fun e => (of_decide_eq_false h1) (heq.1 e).1)
        clear htk heq h1 ha haok hal hx1 hx2 hX1 hX2 hba hsa hala ha1 hAL h2w h3w hbl
        go_wp2_with fail
        refine wp_region_class (Later wr) (by kernel_rfl) (by kernel_rfl) (⟨(Keeps.refl _ _).drew⟩) ?_
        refine class_value (by rfl) (.pointer (some ⟨b1, 3, none⟩)) (fun V hV => by go_simp) ?_
        simp only [Act.put, List.setIfInBounds_toArray, List.set_cons_zero, List.set_cons_succ]
        refine class_cell (by rfl) 29 (.tmp 18) (by rfl) ⟨b1, 3, none⟩ (by rfl) (.slice (some ⟨g, 0, none⟩) n c) _ (fun V hV => HC3.out V hV) Try.underlying29 rfl ?_
        simp only [Act.put, List.setIfInBounds_toArray, List.set_cons_zero, List.set_cons_succ]
        refine class_value (by rfl) (.int .i64 (i : Int)) (fun V hV => by go_simp) ?_
        simp only [Act.put, List.setIfInBounds_toArray, List.set_cons_zero, List.set_cons_succ]
        refine class_value (by rfl) (.pointer (some ⟨g, i * 68, none⟩)) (fun V hV => by go_simp) ?_
        simp only [Act.put, List.setIfInBounds_toArray, List.set_cons_zero, List.set_cons_succ]
        refine class_value (by rfl) (.pointer (some ⟨g, i * 68, none⟩)) (fun V hV => by go_simp) ?_
        simp only [Act.put, List.setIfInBounds_toArray, List.set_cons_zero, List.set_cons_succ]
        refine class_mid (by rfl) 39 (.tmp 22) (by rfl) g (i * 68) (by rfl) X1 _ (fun V hV => HX1.out V hV) Try.underlying39 rfl SX1.out ?_
        simp only [Act.put, List.setIfInBounds_toArray, List.set_cons_zero, List.set_cons_succ]
        refine class_load (by rfl) 39 (.tmp 4) (by rfl) b2 (by rfl) _ KO.toArray _ _ (fun V hV => HKO.out V hV) Try.underlying39 rfl SKO.out ?_
        simp only [Act.put, List.setIfInBounds_toArray, List.set_cons_zero, List.set_cons_succ]
        refine class_eq (by rfl) .neq 39 _ (.tmp 23) (.tmp 24) (by rfl) X1.toArray KO.toArray (by rfl) (by rfl) (by kernel_rfl) (.bool true) (E1.out) ?_
        simp only [Act.put, List.setIfInBounds_toArray, List.set_cons_zero, List.set_cons_succ]
        refine class_value (by rfl) (.bool true) (fun V hV => by go_simp) ?_
        simp only [Act.put, List.setIfInBounds_toArray, List.set_cons_zero, List.set_cons_succ]
        go_big_quiet_skip
        go_big_quiet_skip
        go_big_quiet_skip
        go_big_quiet_skip
        go_big_quiet_skip
        go_big_quiet_skip
        go_big_quiet_skip
        go_big_quiet_skip
        refine class_value (by rfl) (.bool true) (fun V hV => by go_simp) ?_
        simp only [Act.put, List.setIfInBounds_toArray, List.set_cons_zero, List.set_cons_succ]
        refine wpQuiet_nil ?_
        intro w8 k8
        have HK8 := Lib.hid (HKB.out.trans' k8.out (fun _ _ h => h.elim))
        have HO8 := Lib.hid (k8.out.owns HOO.out (fun _ _ => id))
        have HB8 := Lib.hid (Nat.le_trans HBV.out k8.out.size)
        have HAL8 := Lib.hid (HAL.out w8 k8)
        have hl8 : w8.cell? ⟨b1, 3, none⟩ = some (.slice (some ⟨g, 0, none⟩) n c) := HC3.out w8 k8
        clear k8 HC3 HAL HX1 HX2 HKO HKN
        go_wp2_with (first
          | (refine wpList_load_mid_w17 (by rfl) 71 (.tmp 40) (by rfl) g (i * 68) (by rfl) AL _ HAL8.out Try.underlying71 rfl SAL.out ?_)
          | (refine wpList_build1_18 (by rfl) 29 1 0 _ (by rfl) (.agg AL.toArray) _ (by rfl) (HBA.out.1.1 w8) ?_)
          | (refine wpList_append_own _ (by rfl) _ _ 29 (by rfl) B 71 ih zh 68 96 Try.underlying29 HII.out.1 HII.out.2.1 HII.out.2.2.1 HII.out.2.2.2.1 HII.out.2.2.2.2 (by decide) (.slice A2 (m) c2) (m) (qfl (o)) (by rfl) (((Keeps.refl (fun _ => False) w8).alloc _).owns HO8.out (fun _ _ => id)) ⟨w8.heap.size, 0, none⟩ 1 1 AL (by rfl) (by have := HBA.out.2; omega) (World.news_of_block (heap_alloc_new w8 _)) HBA.out.1.2 (by unfold maxLen; omega) (by omega) (by have := HB8.out; simp; omega) ?_; intro v3 V3 ho3 hg3 _; have HO3 := Lib.hid ho3; have K3 := Lib.hid (own_grow HO8.out hg3); obtain ⟨A3, c3, rfl⟩ := own_slice ho3; have HBV3 := Lib.hid (show B ≤ V3.heap.size by have h1 := hg3.size; have h2 := HB8.out; simp at h1; omega); clear ho3 hg3)
          | fail)
        go_roundw
        case rel => exact ⟨i + 1, m + 1, o ++ [a], A3, c3, by omega, rfl, by go_num, Lib.hid (by rw [HTK.out, Ft.done_snoc, if_neg HNE.out, HP.out]), Lib.hid ⟨by rw [List.length_append, ← HM.out.1]; rfl, by have := HM.out; omega⟩, Lib.hid (by rw [← qfl_snoc, HA.out.2]; exact HO3.out), Lib.hid (HK8.out.trans K3.out)⟩
        case measure => simp [intOf]; omega
      | true =>
        rw [h1] at E1
        cases h2 : decide (a.key.2 = k.2) with
        | false =>
          rw [h2] at E2
          have HNE : Hid (¬ a.key = k) := Lib.hid (fun e => (of_decide_eq_false h2) (heq.1 e).2)
          clear htk heq h1 h2 ha haok hal hx1 hx2 hX1 hX2 hba hsa hala ha1 hAL h2w h3w hbl
          go_wp2_with fail
          refine wp_region_class (Later wr) (by kernel_rfl) (by kernel_rfl) (⟨(Keeps.refl _ _).drew⟩) ?_
          refine class_value (by rfl) (.pointer (some ⟨b1, 3, none⟩)) (fun V hV => by go_simp) ?_
          simp only [Act.put, List.setIfInBounds_toArray, List.set_cons_zero, List.set_cons_succ]
          refine class_cell (by rfl) 29 (.tmp 18) (by rfl) ⟨b1, 3, none⟩ (by rfl) (.slice (some ⟨g, 0, none⟩) n c) _ (fun V hV => HC3.out V hV) Try.underlying29 rfl ?_
          simp only [Act.put, List.setIfInBounds_toArray, List.set_cons_zero, List.set_cons_succ]
          refine class_value (by rfl) (.int .i64 (i : Int)) (fun V hV => by go_simp) ?_
          simp only [Act.put, List.setIfInBounds_toArray, List.set_cons_zero, List.set_cons_succ]
          refine class_value (by rfl) (.pointer (some ⟨g, i * 68, none⟩)) (fun V hV => by go_simp) ?_
          simp only [Act.put, List.setIfInBounds_toArray, List.set_cons_zero, List.set_cons_succ]
          refine class_value (by rfl) (.pointer (some ⟨g, i * 68, none⟩)) (fun V hV => by go_simp) ?_
          simp only [Act.put, List.setIfInBounds_toArray, List.set_cons_zero, List.set_cons_succ]
          refine class_mid (by rfl) 39 (.tmp 22) (by rfl) g (i * 68) (by rfl) X1 _ (fun V hV => HX1.out V hV) Try.underlying39 rfl SX1.out ?_
          simp only [Act.put, List.setIfInBounds_toArray, List.set_cons_zero, List.set_cons_succ]
          refine class_load (by rfl) 39 (.tmp 4) (by rfl) b2 (by rfl) _ KO.toArray _ _ (fun V hV => HKO.out V hV) Try.underlying39 rfl SKO.out ?_
          simp only [Act.put, List.setIfInBounds_toArray, List.set_cons_zero, List.set_cons_succ]
          refine class_eq (by rfl) .neq 39 _ (.tmp 23) (.tmp 24) (by rfl) X1.toArray KO.toArray (by rfl) (by rfl) (by kernel_rfl) (.bool false) (E1.out) ?_
          simp only [Act.put, List.setIfInBounds_toArray, List.set_cons_zero, List.set_cons_succ]
          refine class_value (by rfl) (.bool false) (fun V hV => by go_simp) ?_
          simp only [Act.put, List.setIfInBounds_toArray, List.set_cons_zero, List.set_cons_succ]
          refine class_value (by rfl) (.pointer (some ⟨b1, 3, none⟩)) (fun V hV => by go_simp) ?_
          simp only [Act.put, List.setIfInBounds_toArray, List.set_cons_zero, List.set_cons_succ]
          refine class_cell (by rfl) 29 (.tmp 27) (by rfl) ⟨b1, 3, none⟩ (by rfl) (.slice (some ⟨g, 0, none⟩) n c) _ (fun V hV => HC3.out V hV) Try.underlying29 rfl ?_
          simp only [Act.put, List.setIfInBounds_toArray, List.set_cons_zero, List.set_cons_succ]
          refine class_value (by rfl) (.int .i64 (i : Int)) (fun V hV => by go_simp) ?_
          simp only [Act.put, List.setIfInBounds_toArray, List.set_cons_zero, List.set_cons_succ]
          refine class_value (by rfl) (.pointer (some ⟨g, i * 68, none⟩)) (fun V hV => by go_simp) ?_
          simp only [Act.put, List.setIfInBounds_toArray, List.set_cons_zero, List.set_cons_succ]
          refine class_value (by rfl) (.pointer (some ⟨g, i * 68 + 33, none⟩)) (fun V hV => by go_simp) ?_
          simp only [Act.put, List.setIfInBounds_toArray, List.set_cons_zero, List.set_cons_succ]
          refine class_mid (by rfl) 39 (.tmp 31) (by rfl) g (i * 68 + 33) (by rfl) X2 _ (fun V hV => HX2.out V hV) Try.underlying39 rfl SX2.out ?_
          simp only [Act.put, List.setIfInBounds_toArray, List.set_cons_zero, List.set_cons_succ]
          refine class_load (by rfl) 39 (.tmp 5) (by rfl) b3 (by rfl) _ KN.toArray _ _ (fun V hV => HKN.out V hV) Try.underlying39 rfl SKN.out ?_
          simp only [Act.put, List.setIfInBounds_toArray, List.set_cons_zero, List.set_cons_succ]
          refine class_eq (by rfl) .neq 39 _ (.tmp 32) (.tmp 33) (by rfl) X2.toArray KN.toArray (by rfl) (by rfl) (by kernel_rfl) (.bool true) (E2.out) ?_
          simp only [Act.put, List.setIfInBounds_toArray, List.set_cons_zero, List.set_cons_succ]
          refine class_value (by rfl) (.bool true) (fun V hV => by go_simp) ?_
          simp only [Act.put, List.setIfInBounds_toArray, List.set_cons_zero, List.set_cons_succ]
          refine wpQuiet_nil ?_
          intro w8 k8
          have HK8 := Lib.hid (HKB.out.trans' k8.out (fun _ _ h => h.elim))
          have HO8 := Lib.hid (k8.out.owns HOO.out (fun _ _ => id))
          have HB8 := Lib.hid (Nat.le_trans HBV.out k8.out.size)
          have HAL8 := Lib.hid (HAL.out w8 k8)
          have hl8 : w8.cell? ⟨b1, 3, none⟩ = some (.slice (some ⟨g, 0, none⟩) n c) := HC3.out w8 k8
          clear k8 HC3 HAL HX1 HX2 HKO HKN
          go_wp2_with (first
            | (refine wpList_load_mid_w17 (by rfl) 71 (.tmp 40) (by rfl) g (i * 68) (by rfl) AL _ HAL8.out Try.underlying71 rfl SAL.out ?_)
            | (refine wpList_build1_18 (by rfl) 29 1 0 _ (by rfl) (.agg AL.toArray) _ (by rfl) (HBA.out.1.1 w8) ?_)
            | (refine wpList_append_own _ (by rfl) _ _ 29 (by rfl) B 71 ih zh 68 96 Try.underlying29 HII.out.1 HII.out.2.1 HII.out.2.2.1 HII.out.2.2.2.1 HII.out.2.2.2.2 (by decide) (.slice A2 (m) c2) (m) (qfl (o)) (by rfl) (((Keeps.refl (fun _ => False) w8).alloc _).owns HO8.out (fun _ _ => id)) ⟨w8.heap.size, 0, none⟩ 1 1 AL (by rfl) (by have := HBA.out.2; omega) (World.news_of_block (heap_alloc_new w8 _)) HBA.out.1.2 (by unfold maxLen; omega) (by omega) (by have := HB8.out; simp; omega) ?_; intro v3 V3 ho3 hg3 _; have HO3 := Lib.hid ho3; have K3 := Lib.hid (own_grow HO8.out hg3); obtain ⟨A3, c3, rfl⟩ := own_slice ho3; have HBV3 := Lib.hid (show B ≤ V3.heap.size by have h1 := hg3.size; have h2 := HB8.out; simp at h1; omega); clear ho3 hg3)
            | fail)
          go_roundw
          case rel => exact ⟨i + 1, m + 1, o ++ [a], A3, c3, by omega, rfl, by go_num, Lib.hid (by rw [HTK.out, Ft.done_snoc, if_neg HNE.out, HP.out]), Lib.hid ⟨by rw [List.length_append, ← HM.out.1]; rfl, by have := HM.out; omega⟩, Lib.hid (by rw [← qfl_snoc, HA.out.2]; exact HO3.out), Lib.hid (HK8.out.trans K3.out)⟩
          case measure => simp [intOf]; omega
        | true =>
          rw [h2] at E2
          have HNE : Hid (a.key = k) := Lib.hid (heq.2 ⟨of_decide_eq_true h1, of_decide_eq_true h2⟩)
          clear htk heq h1 h2 ha haok hal hx1 hx2 hX1 hX2 hba hsa hala ha1 hAL h2w h3w hbl
          go_wp2_with fail
          refine wp_region_class (Later wr) (by kernel_rfl) (by kernel_rfl) (⟨(Keeps.refl _ _).drew⟩) ?_
          refine class_value (by rfl) (.pointer (some ⟨b1, 3, none⟩)) (fun V hV => by go_simp) ?_
          simp only [Act.put, List.setIfInBounds_toArray, List.set_cons_zero, List.set_cons_succ]
          refine class_cell (by rfl) 29 (.tmp 18) (by rfl) ⟨b1, 3, none⟩ (by rfl) (.slice (some ⟨g, 0, none⟩) n c) _ (fun V hV => HC3.out V hV) Try.underlying29 rfl ?_
          simp only [Act.put, List.setIfInBounds_toArray, List.set_cons_zero, List.set_cons_succ]
          refine class_value (by rfl) (.int .i64 (i : Int)) (fun V hV => by go_simp) ?_
          simp only [Act.put, List.setIfInBounds_toArray, List.set_cons_zero, List.set_cons_succ]
          refine class_value (by rfl) (.pointer (some ⟨g, i * 68, none⟩)) (fun V hV => by go_simp) ?_
          simp only [Act.put, List.setIfInBounds_toArray, List.set_cons_zero, List.set_cons_succ]
          refine class_value (by rfl) (.pointer (some ⟨g, i * 68, none⟩)) (fun V hV => by go_simp) ?_
          simp only [Act.put, List.setIfInBounds_toArray, List.set_cons_zero, List.set_cons_succ]
          refine class_mid (by rfl) 39 (.tmp 22) (by rfl) g (i * 68) (by rfl) X1 _ (fun V hV => HX1.out V hV) Try.underlying39 rfl SX1.out ?_
          simp only [Act.put, List.setIfInBounds_toArray, List.set_cons_zero, List.set_cons_succ]
          refine class_load (by rfl) 39 (.tmp 4) (by rfl) b2 (by rfl) _ KO.toArray _ _ (fun V hV => HKO.out V hV) Try.underlying39 rfl SKO.out ?_
          simp only [Act.put, List.setIfInBounds_toArray, List.set_cons_zero, List.set_cons_succ]
          refine class_eq (by rfl) .neq 39 _ (.tmp 23) (.tmp 24) (by rfl) X1.toArray KO.toArray (by rfl) (by rfl) (by kernel_rfl) (.bool false) (E1.out) ?_
          simp only [Act.put, List.setIfInBounds_toArray, List.set_cons_zero, List.set_cons_succ]
          refine class_value (by rfl) (.bool false) (fun V hV => by go_simp) ?_
          simp only [Act.put, List.setIfInBounds_toArray, List.set_cons_zero, List.set_cons_succ]
          refine class_value (by rfl) (.pointer (some ⟨b1, 3, none⟩)) (fun V hV => by go_simp) ?_
          simp only [Act.put, List.setIfInBounds_toArray, List.set_cons_zero, List.set_cons_succ]
          refine class_cell (by rfl) 29 (.tmp 27) (by rfl) ⟨b1, 3, none⟩ (by rfl) (.slice (some ⟨g, 0, none⟩) n c) _ (fun V hV => HC3.out V hV) Try.underlying29 rfl ?_
          simp only [Act.put, List.setIfInBounds_toArray, List.set_cons_zero, List.set_cons_succ]
          refine class_value (by rfl) (.int .i64 (i : Int)) (fun V hV => by go_simp) ?_
          simp only [Act.put, List.setIfInBounds_toArray, List.set_cons_zero, List.set_cons_succ]
          refine class_value (by rfl) (.pointer (some ⟨g, i * 68, none⟩)) (fun V hV => by go_simp) ?_
          simp only [Act.put, List.setIfInBounds_toArray, List.set_cons_zero, List.set_cons_succ]
          refine class_value (by rfl) (.pointer (some ⟨g, i * 68 + 33, none⟩)) (fun V hV => by go_simp) ?_
          simp only [Act.put, List.setIfInBounds_toArray, List.set_cons_zero, List.set_cons_succ]
          refine class_mid (by rfl) 39 (.tmp 31) (by rfl) g (i * 68 + 33) (by rfl) X2 _ (fun V hV => HX2.out V hV) Try.underlying39 rfl SX2.out ?_
          simp only [Act.put, List.setIfInBounds_toArray, List.set_cons_zero, List.set_cons_succ]
          refine class_load (by rfl) 39 (.tmp 5) (by rfl) b3 (by rfl) _ KN.toArray _ _ (fun V hV => HKN.out V hV) Try.underlying39 rfl SKN.out ?_
          simp only [Act.put, List.setIfInBounds_toArray, List.set_cons_zero, List.set_cons_succ]
          refine class_eq (by rfl) .neq 39 _ (.tmp 32) (.tmp 33) (by rfl) X2.toArray KN.toArray (by rfl) (by rfl) (by kernel_rfl) (.bool false) (E2.out) ?_
          simp only [Act.put, List.setIfInBounds_toArray, List.set_cons_zero, List.set_cons_succ]
          refine class_value (by rfl) (.bool false) (fun V hV => by go_simp) ?_
          simp only [Act.put, List.setIfInBounds_toArray, List.set_cons_zero, List.set_cons_succ]
          refine wpQuiet_nil ?_
          intro w8 k8
          have HK8 := Lib.hid (HKB.out.trans' k8.out (fun _ _ h => h.elim))
          have HO8 := Lib.hid (k8.out.owns HOO.out (fun _ _ => id))
          have HB8 := Lib.hid (Nat.le_trans HBV.out k8.out.size)
          have HAL8 := Lib.hid (HAL.out w8 k8)
          have hl8 : w8.cell? ⟨b1, 3, none⟩ = some (.slice (some ⟨g, 0, none⟩) n c) := HC3.out w8 k8
          clear k8 HC3 HAL HX1 HX2 HKO HKN
          go_wp2
          go_roundw
          case rel => exact ⟨i + 1, m, o, A2, c2, by omega, rfl, by go_num, Lib.hid (by rw [HTK.out, Ft.done_snoc, if_pos HNE.out, List.append_nil, HP.out]), Lib.hid ⟨HM.out.1, by have := HM.out; omega⟩, HO8, HK8⟩
          case measure => simp [intOf]; omega
    · obtain rfl : i = n := by omega
      have hfin := HP.out
      rw [List.take_of_length_le (by have := HLL.out; omega)] at hfin
      have hm : m = (Ft.done l k).length := by rw [hfin]; exact HM.out.1
      have HO9 : Hid (wr.ownsRow B 71 68 (.slice A2 m c2) m (qfl (Ft.done l k))) := Lib.hid (by rw [hfin]; exact HOO.out)
      obtain ⟨r, hr⟩ : ∃ r, decide (m < i) = r := ⟨_, rfl⟩
      have HR0 : Hid (Ft.has l k = r) := Lib.hid (by rw [← Ft.done_lt, ← hm, HLL.out]; exact hr)
      clear hfin h2w h3w hbl r1w
      obtain ⟨T9, hT9⟩ : ∃ T, tcs base most budget (.slice A2 m c2) = T := ⟨_, rfl⟩
      obtain ⟨W9, hW9⟩ : ∃ V, wr.setCell ⟨b1, 3, none⟩ (.slice A2 m c2) = V := ⟨_, rfl⟩
      have f9 : wr.frozen? ⟨b1, 3, none⟩ = false := HR1W.out.frozen 3
      have rt9 : W9.heap[b1]? = some (.cells T9 31 (0, 0)) := by rw [← hW9, ← hT9]; exact HR1W.out.set 3 _
      have k79 : Keeps (fun j => B ≤ j ∨ j = b1) W7 W9 := (HKB.out.mono (fun _ _ h => Or.inl h)).trans (by rw [← hW9]; exact (Keeps.refl (fun j => B ≤ j ∨ j = b1) wr).setCell (p := ⟨b1, 3, none⟩) (fun _ => Or.inr rfl) _)
      have r49 : W9.heap[b4]? = some (.cells Z 31 (0, 0)) := ((k79.block b4 (by have := HBE.out; omega) (by have := HBE.out; omega)).trans (K47.out.block b4 (by have := HBO.out; omega) id)).trans HR4.out
      obtain ⟨W10, hW10⟩ : ∃ V, W9.setRow b4 T9 = V := ⟨_, rfl⟩
      have R10 : Hid (W10.heap[b4]? = some (.cells T9 31 (0, 0))) := Lib.hid (by rw [← hW10]; exact setRow_heap _ _ _ _ _ _ r49)
      have K10 : Hid (Keeps (fun _ => False) w W10) := Lib.hid ((((K4.out.trans K47.out).trans' k79 (fun j hj e => by have := HBE.out; omega))).trans' (T := fun j => j = b4) (by rw [← hW10]; exact Keeps.setRow _ _) (fun j hj e => by have := HBE.out; omega))
      have HO10 : Hid (W10.ownsRow w.heap.size 71 68 (.slice A2 m c2) (m) (qfl (Ft.done l k))) := Lib.hid (by
        have k1 : Keeps (fun j => j = b1 ∨ j = b4) wr W10 := ((by rw [← hW9]; exact (Keeps.refl (fun j => j = b1 ∨ j = b4) wr).setCell (p := ⟨b1, 3, none⟩) (fun _ => Or.inl rfl) _) : Keeps (fun j => j = b1 ∨ j = b4) wr W9).trans (by rw [← hW10]; exact (Keeps.setRow b4 T9).mono (fun _ _ h => Or.inr h))
        exact own_base (k1.owns HO9.out (fun b hb e => by obtain ⟨_, _, h⟩ := own_block HO9.out b hb; have := HBE.out; omega)) (by have := HBE.out; omega))
      have S9 : Hid ((Try.prog.info? 31).map (·.size) = some T9.size) := Lib.hid (by rw [← hT9]; exact size_T)
      have SZ9 : Hid (Z.size = T9.size) := Lib.hid (by have h1 := SZ.out; have h2 := S9.out; rw [h1] at h2; injection h2)
      have O9 : Hid (T9.all (·.oneCell') = true) := Lib.hid (by rw [← hT9]; exact tcs_one _ _ _ _ _ _)
      have RT9 := Lib.hid rt9
      have R49 := Lib.hid r49
      have HT9 := Lib.hid hT9
      have HLEN := Lib.hid hm
      clear rt9 k79 r49 hT9 hm
      go_wp2_with (first
        | (refine wpList_load_row (by rfl) 31 _ (by rfl) b1 (by rfl) 31 T9 (0, 0) _ RT9.out Try.underlying31 rfl S9.out ?_)
        | (refine wpList_store_row (by rfl) 31 _ _ (by rfl) b4 T9 (by rfl) (by rfl) 31 Z R49.out S9.out SZ9.out O9.out ?_; rw [hW10])
        | fail)
      refine bodyPost_ret (results_cell_tmp18 rfl _ _ b4 31 T9 (0, 0) _ rfl R10.out Try.underlying31 rfl S9.out) rfl ?_
      refine ⟨A2, c2, ?_, K10.out, ?_⟩
      · rw [← HLEN.out, HT9.out, HR0.out]; rfl
      · rw [← HLEN.out]; exact HO10.out
end Go.Proofs.Ythnpgiagajfaiaa
