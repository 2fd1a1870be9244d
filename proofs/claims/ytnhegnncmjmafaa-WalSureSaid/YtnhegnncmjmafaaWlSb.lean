/-
  Layer 12's same: it decides whether rows are texts.
-/
import Derived.Test.YtnhegnncmjmafaaWlSa
namespace Go.Proofs.Ytnhegnncmjmafaa
open Go.RowKit Go.BigFrame
set_option linter.unusedVariables false
set_option linter.unusedSimpArgs false
set_option maxRecDepth 100000 in
set_option maxHeartbeats 2000000 in
theorem same12_long (A B : Option Addr) (c d b2 : Nat) (rs : List RowOf) (ws : List Wl.Bs) (w : World) (hR : RowsAt w A rs) (n : Nat) (hn : rs.length = n) (hw : ws.length = n) (hB : w.ownsRow b2 9 1 (.slice B n d) n (svals12 ws)) (hmax : n ≤ 100000) :
    Calls Try.prog 19 #[.slice A n c, .slice B n d] w fun e w' => e = .returned (.bool (decide (bsOf rs = ws))) ∧ Keeps (fun _ => False) w w' := by
  obtain ⟨dd, hdd⟩ : ∃ b, decide (bsOf rs = ws) = b := ⟨_, rfl⟩
  have HDD := Lib.hid hdd
  have HW := Lib.hid hw
  rw [hdd]
  clear hdd hw
  have HN := Lib.hid hn
  have HR := Lib.hid hR
  have HO := Lib.hid hB
  clear hn hR hB
  go_enter Try.func19, Try.ntmps19
  go_wp2
  go_loopw [5] (fun iv wr => ∃ (i : Nat), i ≤ n ∧ iv = .int .i64 (i : Int) ∧ Hid ((bsOf rs).take i = ws.take i) ∧ Hid (Keeps (fun _ => False) w wr)) (fun iv _ => n - (intOf iv).toNat)
  case atStart => exact ⟨0, by omega, rfl, Lib.hid rfl, Lib.hid (Keeps.refl _ _)⟩
  case round =>
    obtain ⟨i, hi, rfl, E, K⟩ := hrel
    by_cases hlt : i < n
    · have hii : (i : Int) < (n : Int) := by omega
      obtain ⟨r, hr⟩ : ∃ r, rs[i]? = some r := ⟨_, List.getElem?_eq_getElem (by rw [HN.out]; exact hlt)⟩
      obtain ⟨ad, e, hc⟩ := (HR.out.keeps K.out (fun _ _ => id)).cell i r hr
      subst e
      obtain ⟨y, hy⟩ : ∃ y, ws[i]? = some y := ⟨_, List.getElem?_eq_getElem (by rw [HW.out]; exact hlt)⟩
      have hs0 : (svals12 ws)[i]? = some (.string (strOf y)) := by rw [svals12_get, hy]; rfl
      have hbi : (bsOf rs)[i]? = some r.2.2 := by unfold bsOf; rw [List.getElem?_map, hr]; rfl
      obtain ⟨g2, e, hc2⟩ := own_one12 (K.out.owns HO.out (fun _ _ => id)) hs0
      subst e
      have hsr := HR.out.src r (List.mem_of_getElem? hr)
      obtain ⟨A1, c1, xs⟩ := r
      simp only at hc hsr hc2 hs0 hbi
      have hst := fun (V : World) (hV : Keeps (fun _ => False) w V) => run_string_src (P := Try.prog) (w := V) 33 9 5 Try.underlying33 Try.underlying5 Try.underlying9 A1 xs c1 (hsr.keeps hV (fun _ _ _ => id))
      obtain ⟨m, hm⟩ : ∃ m, xs.length = m := ⟨_, rfl⟩
      rw [hm] at hc hst
      obtain ⟨s1, hsx⟩ : ∃ s, strOf xs = s := ⟨_, rfl⟩
      rw [hsx] at hst
      obtain ⟨s2, hsy⟩ : ∃ s, strOf y = s := ⟨_, rfl⟩
      rw [hsy] at hc2
      have HYX := Lib.hid (And.intro hbi (And.intro hy (And.intro hsx hsy)))
      have HCV : Hid (∀ V, Later wr V → (convert 33 9 (.slice A1 m c1)).run Try.prog V = .ok (.string s1) V) := Lib.hid (fun V hV => hst V (K.out.trans hV.out))
      have HC1 : Hid (∀ V, Later wr V → V.cell? (ad.add i) = some (.slice A1 m c1)) := Lib.hid (fun V hV => (hV.out.cell (World.block_lt_of_cell? wr _ hc) id).trans hc)
      have HC2 : Hid (∀ V, Later wr V → V.cell? ⟨g2, i, none⟩ = some (.string s2)) := Lib.hid (fun V hV => (hV.out.cell (p := ⟨g2, i, none⟩) (World.block_lt_of_cell? wr _ hc2) id).trans hc2)
      clear hs0 hc hc2 hsr hst hr hm hsx hsy hy hbi
      by_cases hxy : xs = y
      · subst hxy
        have hss : s1 = s2 := by rw [← HYX.out.2.2.1, HYX.out.2.2.2]
        subst hss
        have E2 : Hid ((bsOf rs).take (i + 1) = ws.take (i + 1)) := Lib.hid (by rw [List.take_add_one, List.take_add_one, E.out, HYX.out.1, HYX.out.2.1])
        clear E HYX
        go_wp2_with fail
        refine wp_region_class (Later wr) (by kernel_rfl) (by kernel_rfl) (⟨(Keeps.refl _ _).drew⟩) ?_
        refine class_value (by rfl) (.slice (some ad) n c) (fun V hV => by go_simp) ?_
        simp only [Act.put, List.setIfInBounds_toArray, List.set_cons_zero, List.set_cons_succ]
        refine class_value (by rfl) (.int .i64 (i : Int)) (fun V hV => by go_simp) ?_
        simp only [Act.put, List.setIfInBounds_toArray, List.set_cons_zero, List.set_cons_succ]
        refine class_value (by rfl) (.pointer (some (ad.add i))) (fun V hV => by go_simp) ?_
        simp only [Act.put, List.setIfInBounds_toArray, List.set_cons_zero, List.set_cons_succ]
        refine class_cell (by rfl) 33 (.tmp 19) (by rfl) (ad.add i) (by rfl) (.slice A1 m c1) _ (fun V hV => HC1.out V hV) Try.underlying33 rfl ?_
        simp only [Act.put, List.setIfInBounds_toArray, List.set_cons_zero, List.set_cons_succ]
        refine class_value (by rfl) (.string s1) (fun V hV => exec_conv12 33 9 (.tmp 20) (by rfl) (.slice A1 m c1) _ (by rfl) (HCV.out V hV)) ?_
        simp only [Act.put, List.setIfInBounds_toArray, List.set_cons_zero, List.set_cons_succ]
        refine class_value (by rfl) (.slice (some ⟨g2, 0, none⟩) n d) (fun V hV => by go_simp) ?_
        simp only [Act.put, List.setIfInBounds_toArray, List.set_cons_zero, List.set_cons_succ]
        refine class_value (by rfl) (.int .i64 (i : Int)) (fun V hV => by go_simp) ?_
        simp only [Act.put, List.setIfInBounds_toArray, List.set_cons_zero, List.set_cons_succ]
        refine class_value (by rfl) (.pointer (some ⟨g2, i, none⟩)) (fun V hV => by go_simp) ?_
        simp only [Act.put, List.setIfInBounds_toArray, List.set_cons_zero, List.set_cons_succ]
        refine class_cell (by rfl) 9 (.tmp 24) (by rfl) ⟨g2, i, none⟩ (by rfl) (.string s1) _ (fun V hV => HC2.out V hV) Try.underlying9 rfl ?_
        simp only [Act.put, List.setIfInBounds_toArray, List.set_cons_zero, List.set_cons_succ]
        refine class_value (by rfl) (.bool false) (fun V hV => by go_simp) ?_
        simp only [Act.put, List.setIfInBounds_toArray, List.set_cons_zero, List.set_cons_succ]
        refine wpQuiet_nil ?_
        intro V6 k6
        have K6 := Lib.hid (K.out.trans k6.out)
        clear k6 HC1 HC2 HCV
        go_wp2
        go_roundw
        case rel => exact ⟨i + 1, by omega, by go_num, E2, K6⟩
        case measure => simp [intOf]; omega
      · skip
        have hnl : ¬ s1.toList = s2.toList := fun h => by
          have h1 : ((strOf xs).toList == (strOf y).toList) = true := by rw [HYX.out.2.2.1, HYX.out.2.2.2, h]; simp
          rw [strOf_eq] at h1
          exact hxy (by simpa using h1)
        have hbe : (s1.toList == s2.toList) = false := by simpa using hnl
        have hdf : dd = false := by
          rw [← HDD.out]
          refine decide_eq_false (fun h => hxy ?_)
          have h1 := HYX.out.1
          rw [h, HYX.out.2.1] at h1
          exact (Option.some.inj h1).symm
        subst hdf
        clear E HYX
        go_wp2_with fail
        refine wp_region_class (Later wr) (by kernel_rfl) (by kernel_rfl) (⟨(Keeps.refl _ _).drew⟩) ?_
        refine class_value (by rfl) (.slice (some ad) n c) (fun V hV => by go_simp) ?_
        simp only [Act.put, List.setIfInBounds_toArray, List.set_cons_zero, List.set_cons_succ]
        refine class_value (by rfl) (.int .i64 (i : Int)) (fun V hV => by go_simp) ?_
        simp only [Act.put, List.setIfInBounds_toArray, List.set_cons_zero, List.set_cons_succ]
        refine class_value (by rfl) (.pointer (some (ad.add i))) (fun V hV => by go_simp) ?_
        simp only [Act.put, List.setIfInBounds_toArray, List.set_cons_zero, List.set_cons_succ]
        refine class_cell (by rfl) 33 (.tmp 19) (by rfl) (ad.add i) (by rfl) (.slice A1 m c1) _ (fun V hV => HC1.out V hV) Try.underlying33 rfl ?_
        simp only [Act.put, List.setIfInBounds_toArray, List.set_cons_zero, List.set_cons_succ]
        refine class_value (by rfl) (.string s1) (fun V hV => exec_conv12 33 9 (.tmp 20) (by rfl) (.slice A1 m c1) _ (by rfl) (HCV.out V hV)) ?_
        simp only [Act.put, List.setIfInBounds_toArray, List.set_cons_zero, List.set_cons_succ]
        refine class_value (by rfl) (.slice (some ⟨g2, 0, none⟩) n d) (fun V hV => by go_simp) ?_
        simp only [Act.put, List.setIfInBounds_toArray, List.set_cons_zero, List.set_cons_succ]
        refine class_value (by rfl) (.int .i64 (i : Int)) (fun V hV => by go_simp) ?_
        simp only [Act.put, List.setIfInBounds_toArray, List.set_cons_zero, List.set_cons_succ]
        refine class_value (by rfl) (.pointer (some ⟨g2, i, none⟩)) (fun V hV => by go_simp) ?_
        simp only [Act.put, List.setIfInBounds_toArray, List.set_cons_zero, List.set_cons_succ]
        refine class_cell (by rfl) 9 (.tmp 24) (by rfl) ⟨g2, i, none⟩ (by rfl) (.string s2) _ (fun V hV => HC2.out V hV) Try.underlying9 rfl ?_
        simp only [Act.put, List.setIfInBounds_toArray, List.set_cons_zero, List.set_cons_succ]
        refine class_value (by rfl) (.bool true) (fun V hV => by go_simp) ?_
        simp only [Act.put, List.setIfInBounds_toArray, List.set_cons_zero, List.set_cons_succ]
        refine wpQuiet_nil ?_
        intro V6 k6
        have K6 := Lib.hid (K.out.trans k6.out)
        clear k6 HC1 HC2 HCV
        go_wp2
        go_ret
        exact ⟨rfl, K6.out⟩
    · obtain rfl : i = n := by omega
      have hdt : dd = true := by
        rw [← HDD.out]
        have h := E.out
        rw [List.take_of_length_le (by unfold bsOf; rw [List.length_map, HN.out]; exact Nat.le_refl _), List.take_of_length_le (by rw [HW.out]; exact Nat.le_refl _)] at h
        exact decide_eq_true h
      subst hdt
      go_wp2
      go_ret
      exact ⟨rfl, K.out⟩
set_option maxRecDepth 100000 in
set_option maxHeartbeats 2000000 in
theorem same12_short (A B : Option Addr) (n m c d : Nat) (w : World) (hnm : n ≠ m) :
    Calls Try.prog 19 #[.slice A n c, .slice B m d] w fun e w' => e = .returned (.bool false) ∧ Keeps (fun _ => False) w w' := by
  have h1 : ¬ (n : Int) = (m : Int) := by omega
  have h2 : ((n : Int) == (m : Int)) = false := by simpa using h1
  have h3 : ((n : Int) != (m : Int)) = true := by simpa using h1
  go_enter Try.func19, Try.ntmps19
  go_wp2
  go_ret
  exact ⟨rfl, Keeps.refl _ _⟩
theorem same12_any (A B : Option Addr) (n m c d b2 : Nat) (rs : List RowOf) (ws : List Wl.Bs) (w : World) (hR : RowsAt w A rs) (hn : rs.length = n) (hw : ws.length = m) (hB : w.ownsRow b2 9 1 (.slice B m d) m (svals12 ws)) (hmax : n ≤ 100000) :
    Calls Try.prog 19 #[.slice A n c, .slice B m d] w fun e w' => e = .returned (.bool (decide (bsOf rs = ws))) ∧ Keeps (fun _ => False) w w' := by
  by_cases h : n = m
  · subst h
    exact same12_long A B c d b2 rs ws w hR n hn hw hB hmax
  · rw [decide_eq_false (fun e => h (by rw [← hn, ← hw, ← e]; unfold bsOf; rw [List.length_map]))]
    exact same12_short A B n m c d w h
end Go.Proofs.Ytnhegnncmjmafaa
