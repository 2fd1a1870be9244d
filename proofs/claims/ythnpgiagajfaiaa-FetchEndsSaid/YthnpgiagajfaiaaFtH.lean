/-
  The document's own table of what is asked for, by value: is something asked for?
-/
import Derived.Test.YthnpgiagajfaiaaFtQ
namespace Go.Proofs.Ythnpgiagajfaiaa
open Go.RowKit Go.BigFrame
set_option linter.unusedVariables false
set_option linter.unusedSimpArgs false

/-- A table's cells. -/
def tcs (base most budget : Nat) (lv : Value) : Array Value := #[.int .i64 (base : Int), .int .i64 (most : Int), .int .i64 (budget : Int), lv]
theorem own_some18 {w : World} {B g n c : Nat} {A : Option Addr} {xs : List Value} {e : TypeId} {size : Nat} (h : w.ownsRow B e size (.slice A n c) n xs) (hn : 0 < n) : ∃ g, A = some ⟨g, 0, none⟩ := by
  rcases h.2 with ⟨_, h2⟩ | ⟨g, cap, cur, h1, _⟩
  · omega
  · injection h1 with h1; exact ⟨g, h1⟩
set_option maxRecDepth 100000 in
set_option maxHeartbeats 2000000 in
theorem rhas_any (base most budget : Nat) (A : Option Addr) (n c B : Nat) (l : List Ft.Q) (k : Ft.Wn) (w : World) (hk : Ft.Wn.Ok k) (hok : ∀ q ∈ l, Ft.Q.Ok q) (ho : w.ownsRow B 71 68 (.slice A n c) n (qfl l)) (hn : n ≤ 1000) :
    Calls Try.prog 21 #[.agg (tcs base most budget (.slice A n c)), .agg (kcs k.1).toArray, .agg (kcs k.2).toArray] w fun e w' => e = .returned (.bool (Ft.has l k)) ∧ Keeps (fun _ => False) w w' := by
  obtain ⟨T, hT⟩ : ∃ T, tcs base most budget (.slice A n c) = T := ⟨_, rfl⟩
  obtain ⟨KO, hKO⟩ : ∃ K, kcs k.1 = K := ⟨_, rfl⟩
  obtain ⟨KN, hKN⟩ : ∃ K, kcs k.2 = K := ⟨_, rfl⟩
  rw [hT, hKO, hKN]
  obtain ⟨b1, hb1⟩ : ∃ x, w.heap.size = x := ⟨_, rfl⟩
  obtain ⟨W1, hW1⟩ : ∃ V, w.alloc (.cells T 31) = V := ⟨_, rfl⟩
  obtain ⟨b2, hb2⟩ : ∃ x, W1.heap.size = x := ⟨_, rfl⟩
  obtain ⟨W2, hW2⟩ : ∃ V, W1.alloc (.cells KO.toArray 39) = V := ⟨_, rfl⟩
  obtain ⟨b3, hb3⟩ : ∃ x, W2.heap.size = x := ⟨_, rfl⟩
  obtain ⟨W3, hW3⟩ : ∃ V, W2.alloc (.cells KN.toArray 39) = V := ⟨_, rfl⟩
  have k1 : Keeps (fun _ => False) w W1 := by rw [← hW1]; exact (Keeps.refl _ _).alloc _
  have k2 : Keeps (fun _ => False) W1 W2 := by rw [← hW2]; exact (Keeps.refl _ _).alloc _
  have k3 : Keeps (fun _ => False) W2 W3 := by rw [← hW3]; exact (Keeps.refl _ _).alloc _
  have r1 : Row W3 b1 31 [.int .i64 (base : Int), .int .i64 (most : Int), .int .i64 (budget : Int), .slice A n c] := Row.keeps (w := W1) (by rw [← hW1, ← hb1, ← hT]; exact heap_alloc_new w _) (k2.trans k3) id
  have r2 : W3.heap[b2]? = some (.cells KO.toArray 39 (0, 0)) := (k3.block b2 (by rw [← hW2, ← hb2]; simp) id).trans (by rw [← hW2, ← hb2]; exact heap_alloc_new W1 _)
  have r3 : W3.heap[b3]? = some (.cells KN.toArray 39 (0, 0)) := by rw [← hW3, ← hb3]; exact heap_alloc_new W2 _
  have HR1 := Lib.hid r1
  have HR2 := Lib.hid r2
  have HR3 := Lib.hid r3
  have HO := Lib.hid (((k1.trans k2).trans k3).owns ho (fun _ _ => id))
  have K3 := Lib.hid ((k1.trans k2).trans k3)
  have SKO : Hid ((Try.prog.info? 39).map (·.size) = some KO.toArray.size) := Lib.hid (by rw [← hKO, List.size_toArray, kcs_length hk.1.2]; exact info_k)
  have SKN : Hid ((Try.prog.info? 39).map (·.size) = some KN.toArray.size) := Lib.hid (by rw [← hKN, List.size_toArray, kcs_length hk.2.2]; exact info_k)
  have HLL : Hid (l.length = n) := Lib.hid (by have h := ho.1; rw [qfl_length l hok] at h; omega)
  have HOK := Lib.hid hok
  have HKK := Lib.hid (And.intro hk (And.intro hKO hKN))
  have hl0 : W3.cell? ⟨b1, 3, none⟩ = some (.slice A n c) := r1.cell 3
  clear hT hKO hKN r1 r2 r3 k1 k2 k3 ho hok hk
  go_enter Try.func21, Try.ntmps21
  go_wp2_with fail
  clear hl0
  go_loopw [7] (fun iv wr => ∃ i : Nat, i ≤ n ∧ iv = .int .i64 (i : Int) ∧ Hid (Ft.has (l.take i) k = false) ∧ Hid (Keeps (fun _ => False) W3 wr)) (fun iv _ => n - (intOf iv).toNat)
  case atStart => exact ⟨0, by omega, rfl, Lib.hid rfl, Lib.hid (Keeps.refl _ _)⟩
  case round =>
    obtain ⟨i, hi, rfl, HH, K⟩ := hrel
    have hl0 : wr.cell? ⟨b1, 3, none⟩ = some (.slice A n c) := (HR1.out.keeps K.out id).cell 3
    by_cases hlt : i < n
    · have hii : (i : Int) < (n : Int) := by omega
      obtain ⟨g, rfl⟩ := own_some18 (g := 0) HO.out (by omega)
      obtain ⟨q, hq⟩ : ∃ q, l[i]? = some q := ⟨_, List.getElem?_eq_getElem (by have := HLL.out; omega)⟩
      have hqok := HOK.out q (List.mem_of_getElem? hq)
      obtain ⟨hx1, hx2, _, _⟩ := range_q hqok (own_q HO.out HOK.out hq)
      have htk : l.take (i + 1) = l.take i ++ [q] := by
        obtain ⟨h1, h2⟩ := List.getElem?_eq_some_iff.1 hq
        rw [List.take_succ_eq_append_getElem h1, h2]
      have hhs : Ft.has (l.take (i + 1)) k = (Ft.has (l.take i) k || decide (q.key = k)) := by rw [htk]; unfold Ft.has; rw [List.any_append]; simp
      rw [HH.out, Bool.false_or] at hhs
      have E1 : Hid (∀ V : World, (binOp .eql 39 (.agg (kcs q.key.1).toArray) (.agg (kcs k.1).toArray)).run Try.prog V = .ok (.bool (decide (q.key.1 = k.1))) V) := Lib.hid (fun V => run_eql_key q.key.1 k.1 hqok.1 HKK.out.1.1 V)
      have E2 : Hid (∀ V : World, (binOp .eql 39 (.agg (kcs q.key.2).toArray) (.agg (kcs k.2).toArray)).run Try.prog V = .ok (.bool (decide (q.key.2 = k.2))) V) := Lib.hid (fun V => run_eql_key q.key.2 k.2 hqok.2 HKK.out.1.2 V)
      rw [HKK.out.2.1] at E1
      rw [HKK.out.2.2] at E2
      have SX1 : Hid ((Try.prog.info? 39).map (·.size) = some (kcs q.key.1).length) := Lib.hid (by rw [kcs_length hqok.1.2]; exact info_k)
      have SX2 : Hid ((Try.prog.info? 39).map (·.size) = some (kcs q.key.2).length) := Lib.hid (by rw [kcs_length hqok.2.2]; exact info_k)
      obtain ⟨X1, hX1⟩ : ∃ K, kcs q.key.1 = K := ⟨_, rfl⟩
      obtain ⟨X2, hX2⟩ : ∃ K, kcs q.key.2 = K := ⟨_, rfl⟩
      rw [hX1] at E1 SX1 hx1
      rw [hX2] at E2 SX2 hx2
      have HC3 : Hid (∀ V, Later wr V → V.cell? ⟨b1, 3, none⟩ = some (.slice (some ⟨g, 0, none⟩) n c)) := Lib.hid (fun V hV => (HR1.out.keeps (K.out.trans hV.out) id).cell 3)
      have HX1 : Hid (∀ V, Later wr V → V.rangeAt g (i * 68) X1) := Lib.hid (fun V hV => range_keeps17 hx1 (K.out.trans hV.out) id)
      have HX2 : Hid (∀ V, Later wr V → V.rangeAt g (i * 68 + 33) X2) := Lib.hid (fun V hV => range_keeps17 hx2 (K.out.trans hV.out) id)
      have HKO : Hid (∀ V, Later wr V → V.heap[b2]? = some (.cells KO.toArray 39 (0, 0))) := Lib.hid (fun V hV => ((K.out.trans hV.out).block b2 (Array.getElem?_eq_some_iff.1 HR2.out).1 id).trans HR2.out)
      have HKN : Hid (∀ V, Later wr V → V.heap[b3]? = some (.cells KN.toArray 39 (0, 0))) := Lib.hid (fun V hV => ((K.out.trans hV.out).block b3 (Array.getElem?_eq_some_iff.1 HR3.out).1 id).trans HR3.out)
      have HHS := Lib.hid hhs
      have heq : decide (q.key = k) = (decide (q.key.1 = k.1) && decide (q.key.2 = k.2)) := (want_eq q.key k).symm
      cases h1 : decide (q.key.1 = k.1) with
      | false =>
        rw [h1] at E1 heq
        have HEQ := Lib.hid heq
        clear htk hhs heq h1 hq hqok hx1 hx2 hX1 hX2
        go_wp2_with fail
        refine wp_region_class (Later wr) (by kernel_rfl) (by kernel_rfl) (⟨(Keeps.refl _ _).drew⟩) ?_
        refine class_value (by rfl) (.pointer (some ⟨b1, 3, none⟩)) (fun V hV => by go_simp) ?_
        simp only [Act.put, List.setIfInBounds_toArray, List.set_cons_zero, List.set_cons_succ]
        refine class_cell (by rfl) 29 (.tmp 15) (by rfl) ⟨b1, 3, none⟩ (by rfl) (.slice (some ⟨g, 0, none⟩) n c) _ (fun V hV => HC3.out V hV) Try.underlying29 rfl ?_
        simp only [Act.put, List.setIfInBounds_toArray, List.set_cons_zero, List.set_cons_succ]
        refine class_value (by rfl) (.int .i64 (i : Int)) (fun V hV => by go_simp) ?_
        simp only [Act.put, List.setIfInBounds_toArray, List.set_cons_zero, List.set_cons_succ]
        refine class_value (by rfl) (.pointer (some ⟨g, i * 68, none⟩)) (fun V hV => by go_simp) ?_
        simp only [Act.put, List.setIfInBounds_toArray, List.set_cons_zero, List.set_cons_succ]
        refine class_value (by rfl) (.pointer (some ⟨g, i * 68, none⟩)) (fun V hV => by go_simp) ?_
        simp only [Act.put, List.setIfInBounds_toArray, List.set_cons_zero, List.set_cons_succ]
        refine class_mid (by rfl) 39 (.tmp 19) (by rfl) g (i * 68) (by rfl) X1 _ (fun V hV => HX1.out V hV) Try.underlying39 rfl SX1.out ?_
        simp only [Act.put, List.setIfInBounds_toArray, List.set_cons_zero, List.set_cons_succ]
        refine class_load (by rfl) 39 (.tmp 4) (by rfl) b2 (by rfl) _ KO.toArray _ _ (fun V hV => HKO.out V hV) Try.underlying39 rfl SKO.out ?_
        simp only [Act.put, List.setIfInBounds_toArray, List.set_cons_zero, List.set_cons_succ]
        refine class_eq (by rfl) .eql 39 _ (.tmp 20) (.tmp 21) (by rfl) X1.toArray KO.toArray (by rfl) (by rfl) (by kernel_rfl) (.bool false) (E1.out) ?_
        simp only [Act.put, List.setIfInBounds_toArray, List.set_cons_zero, List.set_cons_succ]
        refine class_value (by rfl) (.bool false) (fun V hV => by go_simp) ?_
        simp only [Act.put, List.setIfInBounds_toArray, List.set_cons_zero, List.set_cons_succ]
        go_big_quiet_skip
        go_big_quiet_skip
        go_big_quiet_skip
        go_big_quiet_skip
        go_big_quiet_skip
        go_big_quiet_skip
        go_big_quiet_skip
        go_big_quiet_skip
        refine class_value (by rfl) (.bool false) (fun V hV => by go_simp) ?_
        simp only [Act.put, List.setIfInBounds_toArray, List.set_cons_zero, List.set_cons_succ]
        refine wpQuiet_nil ?_
        intro V6 k6
        have K6 := Lib.hid (K.out.trans k6.out)
        clear k6 HC3 HX1 HX2 HKO HKN
        go_wp2
        go_roundw
        case rel => exact ⟨i + 1, by omega, by go_num, Lib.hid (by rw [HHS.out, HEQ.out]; rfl), K6⟩
        case measure => simp [intOf]; omega
      | true =>
        rw [h1] at E1 heq
        cases h2 : decide (q.key.2 = k.2) with
        | false =>
          rw [h2] at E2 heq
          have HEQ := Lib.hid heq
          clear htk hhs heq h1 h2 hq hqok hx1 hx2 hX1 hX2
          go_wp2_with fail
          refine wp_region_class (Later wr) (by kernel_rfl) (by kernel_rfl) (⟨(Keeps.refl _ _).drew⟩) ?_
          refine class_value (by rfl) (.pointer (some ⟨b1, 3, none⟩)) (fun V hV => by go_simp) ?_
          simp only [Act.put, List.setIfInBounds_toArray, List.set_cons_zero, List.set_cons_succ]
          refine class_cell (by rfl) 29 (.tmp 15) (by rfl) ⟨b1, 3, none⟩ (by rfl) (.slice (some ⟨g, 0, none⟩) n c) _ (fun V hV => HC3.out V hV) Try.underlying29 rfl ?_
          simp only [Act.put, List.setIfInBounds_toArray, List.set_cons_zero, List.set_cons_succ]
          refine class_value (by rfl) (.int .i64 (i : Int)) (fun V hV => by go_simp) ?_
          simp only [Act.put, List.setIfInBounds_toArray, List.set_cons_zero, List.set_cons_succ]
          refine class_value (by rfl) (.pointer (some ⟨g, i * 68, none⟩)) (fun V hV => by go_simp) ?_
          simp only [Act.put, List.setIfInBounds_toArray, List.set_cons_zero, List.set_cons_succ]
          refine class_value (by rfl) (.pointer (some ⟨g, i * 68, none⟩)) (fun V hV => by go_simp) ?_
          simp only [Act.put, List.setIfInBounds_toArray, List.set_cons_zero, List.set_cons_succ]
          refine class_mid (by rfl) 39 (.tmp 19) (by rfl) g (i * 68) (by rfl) X1 _ (fun V hV => HX1.out V hV) Try.underlying39 rfl SX1.out ?_
          simp only [Act.put, List.setIfInBounds_toArray, List.set_cons_zero, List.set_cons_succ]
          refine class_load (by rfl) 39 (.tmp 4) (by rfl) b2 (by rfl) _ KO.toArray _ _ (fun V hV => HKO.out V hV) Try.underlying39 rfl SKO.out ?_
          simp only [Act.put, List.setIfInBounds_toArray, List.set_cons_zero, List.set_cons_succ]
          refine class_eq (by rfl) .eql 39 _ (.tmp 20) (.tmp 21) (by rfl) X1.toArray KO.toArray (by rfl) (by rfl) (by kernel_rfl) (.bool true) (E1.out) ?_
          simp only [Act.put, List.setIfInBounds_toArray, List.set_cons_zero, List.set_cons_succ]
          refine class_value (by rfl) (.bool true) (fun V hV => by go_simp) ?_
          simp only [Act.put, List.setIfInBounds_toArray, List.set_cons_zero, List.set_cons_succ]
          refine class_value (by rfl) (.pointer (some ⟨b1, 3, none⟩)) (fun V hV => by go_simp) ?_
          simp only [Act.put, List.setIfInBounds_toArray, List.set_cons_zero, List.set_cons_succ]
          refine class_cell (by rfl) 29 (.tmp 24) (by rfl) ⟨b1, 3, none⟩ (by rfl) (.slice (some ⟨g, 0, none⟩) n c) _ (fun V hV => HC3.out V hV) Try.underlying29 rfl ?_
          simp only [Act.put, List.setIfInBounds_toArray, List.set_cons_zero, List.set_cons_succ]
          refine class_value (by rfl) (.int .i64 (i : Int)) (fun V hV => by go_simp) ?_
          simp only [Act.put, List.setIfInBounds_toArray, List.set_cons_zero, List.set_cons_succ]
          refine class_value (by rfl) (.pointer (some ⟨g, i * 68, none⟩)) (fun V hV => by go_simp) ?_
          simp only [Act.put, List.setIfInBounds_toArray, List.set_cons_zero, List.set_cons_succ]
          refine class_value (by rfl) (.pointer (some ⟨g, i * 68 + 33, none⟩)) (fun V hV => by go_simp) ?_
          simp only [Act.put, List.setIfInBounds_toArray, List.set_cons_zero, List.set_cons_succ]
          refine class_mid (by rfl) 39 (.tmp 28) (by rfl) g (i * 68 + 33) (by rfl) X2 _ (fun V hV => HX2.out V hV) Try.underlying39 rfl SX2.out ?_
          simp only [Act.put, List.setIfInBounds_toArray, List.set_cons_zero, List.set_cons_succ]
          refine class_load (by rfl) 39 (.tmp 5) (by rfl) b3 (by rfl) _ KN.toArray _ _ (fun V hV => HKN.out V hV) Try.underlying39 rfl SKN.out ?_
          simp only [Act.put, List.setIfInBounds_toArray, List.set_cons_zero, List.set_cons_succ]
          refine class_eq (by rfl) .eql 39 _ (.tmp 29) (.tmp 30) (by rfl) X2.toArray KN.toArray (by rfl) (by rfl) (by kernel_rfl) (.bool false) (E2.out) ?_
          simp only [Act.put, List.setIfInBounds_toArray, List.set_cons_zero, List.set_cons_succ]
          refine class_value (by rfl) (.bool false) (fun V hV => by go_simp) ?_
          simp only [Act.put, List.setIfInBounds_toArray, List.set_cons_zero, List.set_cons_succ]
          refine wpQuiet_nil ?_
          intro V6 k6
          have K6 := Lib.hid (K.out.trans k6.out)
          clear k6 HC3 HX1 HX2 HKO HKN
          go_wp2
          go_roundw
          case rel => exact ⟨i + 1, by omega, by go_num, Lib.hid (by rw [HHS.out, HEQ.out]; rfl), K6⟩
          case measure => simp [intOf]; omega
        | true =>
          rw [h2] at E2 heq
          have HEQ := Lib.hid heq
          have HFIN : Hid (Ft.has l k = true) := Lib.hid (by
            have h3 : Ft.has (l.take (i + 1)) k = true := by rw [hhs, heq]; rfl
            obtain ⟨y, hy, hyk⟩ := Ft.has_iff.1 h3
            exact Ft.has_iff.2 ⟨y, List.mem_of_mem_take hy, hyk⟩)
          clear htk hhs heq h1 h2 hq hqok hx1 hx2 hX1 hX2
          go_wp2_with fail
          refine wp_region_class (Later wr) (by kernel_rfl) (by kernel_rfl) (⟨(Keeps.refl _ _).drew⟩) ?_
          refine class_value (by rfl) (.pointer (some ⟨b1, 3, none⟩)) (fun V hV => by go_simp) ?_
          simp only [Act.put, List.setIfInBounds_toArray, List.set_cons_zero, List.set_cons_succ]
          refine class_cell (by rfl) 29 (.tmp 15) (by rfl) ⟨b1, 3, none⟩ (by rfl) (.slice (some ⟨g, 0, none⟩) n c) _ (fun V hV => HC3.out V hV) Try.underlying29 rfl ?_
          simp only [Act.put, List.setIfInBounds_toArray, List.set_cons_zero, List.set_cons_succ]
          refine class_value (by rfl) (.int .i64 (i : Int)) (fun V hV => by go_simp) ?_
          simp only [Act.put, List.setIfInBounds_toArray, List.set_cons_zero, List.set_cons_succ]
          refine class_value (by rfl) (.pointer (some ⟨g, i * 68, none⟩)) (fun V hV => by go_simp) ?_
          simp only [Act.put, List.setIfInBounds_toArray, List.set_cons_zero, List.set_cons_succ]
          refine class_value (by rfl) (.pointer (some ⟨g, i * 68, none⟩)) (fun V hV => by go_simp) ?_
          simp only [Act.put, List.setIfInBounds_toArray, List.set_cons_zero, List.set_cons_succ]
          refine class_mid (by rfl) 39 (.tmp 19) (by rfl) g (i * 68) (by rfl) X1 _ (fun V hV => HX1.out V hV) Try.underlying39 rfl SX1.out ?_
          simp only [Act.put, List.setIfInBounds_toArray, List.set_cons_zero, List.set_cons_succ]
          refine class_load (by rfl) 39 (.tmp 4) (by rfl) b2 (by rfl) _ KO.toArray _ _ (fun V hV => HKO.out V hV) Try.underlying39 rfl SKO.out ?_
          simp only [Act.put, List.setIfInBounds_toArray, List.set_cons_zero, List.set_cons_succ]
          refine class_eq (by rfl) .eql 39 _ (.tmp 20) (.tmp 21) (by rfl) X1.toArray KO.toArray (by rfl) (by rfl) (by kernel_rfl) (.bool true) (E1.out) ?_
          simp only [Act.put, List.setIfInBounds_toArray, List.set_cons_zero, List.set_cons_succ]
          refine class_value (by rfl) (.bool true) (fun V hV => by go_simp) ?_
          simp only [Act.put, List.setIfInBounds_toArray, List.set_cons_zero, List.set_cons_succ]
          refine class_value (by rfl) (.pointer (some ⟨b1, 3, none⟩)) (fun V hV => by go_simp) ?_
          simp only [Act.put, List.setIfInBounds_toArray, List.set_cons_zero, List.set_cons_succ]
          refine class_cell (by rfl) 29 (.tmp 24) (by rfl) ⟨b1, 3, none⟩ (by rfl) (.slice (some ⟨g, 0, none⟩) n c) _ (fun V hV => HC3.out V hV) Try.underlying29 rfl ?_
          simp only [Act.put, List.setIfInBounds_toArray, List.set_cons_zero, List.set_cons_succ]
          refine class_value (by rfl) (.int .i64 (i : Int)) (fun V hV => by go_simp) ?_
          simp only [Act.put, List.setIfInBounds_toArray, List.set_cons_zero, List.set_cons_succ]
          refine class_value (by rfl) (.pointer (some ⟨g, i * 68, none⟩)) (fun V hV => by go_simp) ?_
          simp only [Act.put, List.setIfInBounds_toArray, List.set_cons_zero, List.set_cons_succ]
          refine class_value (by rfl) (.pointer (some ⟨g, i * 68 + 33, none⟩)) (fun V hV => by go_simp) ?_
          simp only [Act.put, List.setIfInBounds_toArray, List.set_cons_zero, List.set_cons_succ]
          refine class_mid (by rfl) 39 (.tmp 28) (by rfl) g (i * 68 + 33) (by rfl) X2 _ (fun V hV => HX2.out V hV) Try.underlying39 rfl SX2.out ?_
          simp only [Act.put, List.setIfInBounds_toArray, List.set_cons_zero, List.set_cons_succ]
          refine class_load (by rfl) 39 (.tmp 5) (by rfl) b3 (by rfl) _ KN.toArray _ _ (fun V hV => HKN.out V hV) Try.underlying39 rfl SKN.out ?_
          simp only [Act.put, List.setIfInBounds_toArray, List.set_cons_zero, List.set_cons_succ]
          refine class_eq (by rfl) .eql 39 _ (.tmp 29) (.tmp 30) (by rfl) X2.toArray KN.toArray (by rfl) (by rfl) (by kernel_rfl) (.bool true) (E2.out) ?_
          simp only [Act.put, List.setIfInBounds_toArray, List.set_cons_zero, List.set_cons_succ]
          refine class_value (by rfl) (.bool true) (fun V hV => by go_simp) ?_
          simp only [Act.put, List.setIfInBounds_toArray, List.set_cons_zero, List.set_cons_succ]
          refine wpQuiet_nil ?_
          intro V6 k6
          have K6 := Lib.hid (K.out.trans k6.out)
          clear k6 HC3 HX1 HX2 HKO HKN
          go_wp2
          go_ret
          exact ⟨by rw [HFIN.out]; rfl, K3.out.trans K6.out⟩
    · obtain rfl : i = n := by omega
      have HFIN : Hid (Ft.has l k = false) := Lib.hid (by have h := HH.out; rwa [List.take_of_length_le (by have := HLL.out; omega)] at h)
      go_wp2
      go_ret
      exact ⟨by rw [HFIN.out]; rfl, K3.out.trans K.out⟩
end Go.Proofs.Ythnpgiagajfaiaa
