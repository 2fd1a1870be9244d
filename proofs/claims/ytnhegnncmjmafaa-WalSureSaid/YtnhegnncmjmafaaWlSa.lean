/-
  Layer 12's same: are rows these texts?
-/
import Derived.Test.YtnhegnncmjmafaaWlTx
namespace Go.Proofs.Ytnhegnncmjmafaa
open Go.RowKit Go.BigFrame
set_option linter.unusedVariables false
set_option linter.unusedSimpArgs false
set_option maxRecDepth 100000 in
set_option maxHeartbeats 2000000 in
theorem same12_eq (A B : Option Addr) (c d b2 : Nat) (rs : List RowOf) (w : World) (hR : RowsAt w A rs) (n : Nat) (hn : rs.length = n) (hB : w.ownsRow b2 9 1 (.slice B n d) n (svals12 (bsOf rs))) (hmax : n ≤ 100000) :
    Calls Try.prog 19 #[.slice A n c, .slice B n d] w fun e w' => e = .returned (.bool true) ∧ Keeps (fun _ => False) w w' := by
  have HN := Lib.hid hn
  have HR := Lib.hid hR
  have HO := Lib.hid hB
  clear hn hR hB
  go_enter Try.func19, Try.ntmps19
  go_wp2
  go_loopw [5] (fun iv wr => ∃ (i : Nat), i ≤ n ∧ iv = .int .i64 (i : Int) ∧ Hid (Keeps (fun _ => False) w wr)) (fun iv _ => n - (intOf iv).toNat)
  case atStart => exact ⟨0, by omega, rfl, Lib.hid (Keeps.refl _ _)⟩
  case round =>
    obtain ⟨i, hi, rfl, K⟩ := hrel
    by_cases hlt : i < n
    · have hii : (i : Int) < (n : Int) := by omega
      obtain ⟨r, hr⟩ : ∃ r, rs[i]? = some r := ⟨_, List.getElem?_eq_getElem (by rw [HN.out]; exact hlt)⟩
      obtain ⟨ad, e, hc⟩ := (HR.out.keeps K.out (fun _ _ => id)).cell i r hr
      subst e
      have hs0 : (svals12 (bsOf rs))[i]? = some (.string (strOf r.2.2)) := by rw [svals12_get]; unfold bsOf; rw [List.getElem?_map, hr]; rfl
      obtain ⟨g2, e, hc2⟩ := own_one12 (K.out.owns HO.out (fun _ _ => id)) hs0
      subst e
      have hsr := HR.out.src r (List.mem_of_getElem? hr)
      obtain ⟨A1, c1, xs⟩ := r
      simp only at hc hsr hc2 hs0
      have hst := fun (V : World) (hV : Keeps (fun _ => False) w V) => run_string_src (P := Try.prog) (w := V) 33 9 5 Try.underlying33 Try.underlying5 Try.underlying9 A1 xs c1 (hsr.keeps hV (fun _ _ _ => id))
      obtain ⟨m, hm⟩ : ∃ m, xs.length = m := ⟨_, rfl⟩
      rw [hm] at hc hst
      obtain ⟨s1, hsx⟩ : ∃ s, strOf xs = s := ⟨_, rfl⟩
      rw [hsx] at hst hc2
      have HCV : Hid (∀ V, Later wr V → (convert 33 9 (.slice A1 m c1)).run Try.prog V = .ok (.string s1) V) := Lib.hid (fun V hV => hst V (K.out.trans hV.out))
      have HC1 : Hid (∀ V, Later wr V → V.cell? (ad.add i) = some (.slice A1 m c1)) := Lib.hid (fun V hV => (hV.out.cell (World.block_lt_of_cell? wr _ hc) id).trans hc)
      have HC2 : Hid (∀ V, Later wr V → V.cell? ⟨g2, i, none⟩ = some (.string s1)) := Lib.hid (fun V hV => (hV.out.cell (p := ⟨g2, i, none⟩) (World.block_lt_of_cell? wr _ hc2) id).trans hc2)
      clear hs0 hc hc2 hsr hst hr hm hsx
      go_wp2_with fail
      refine wp_region_class (Later wr) (by kernel_rfl) (by kernel_rfl) (⟨(Keeps.refl _ _).drew⟩) ?_
      refine class_value (by rfl) (.slice (some ad) n c) (fun V hV => by go_simp) ?_
      simp only [Act.put, List.setIfInBounds_toArray, List.set_cons_zero, List.set_cons_succ]
      refine class_value (by rfl) (.int .i64 (i : Int)) (fun V hV => by go_simp) ?_
      simp only [Act.put, List.setIfInBounds_toArray, List.set_cons_zero, List.set_cons_succ]
      refine class_value (by rfl) (.pointer (some (ad.add i))) (fun V hV => by go_simp) ?_
      simp only [Act.put, List.setIfInBounds_toArray, List.set_cons_zero, List.set_cons_succ]
      refine class_cell (by rfl) 33 (.tmp 19) (by rfl) (ad.add i) (by rfl) (.slice A1 m c1) _ (fun V hV => HC1.out V hV) Try.underlying33 rfl ?_
      simp only [Act.put, List.setIfInBounds_toArray, List.set_cons_zero, List.set_cons_succ]
      refine class_value (by rfl) (.string s1) (fun V hV => exec_conv12 33 9 (.tmp 20) (by rfl) (.slice A1 m c1) _ (by rfl) (HCV.out V hV)) ?_
      simp only [Act.put, List.setIfInBounds_toArray, List.set_cons_zero, List.set_cons_succ]
      refine class_value (by rfl) (.slice (some ⟨g2, 0, none⟩) n d) (fun V hV => by go_simp) ?_
      simp only [Act.put, List.setIfInBounds_toArray, List.set_cons_zero, List.set_cons_succ]
      refine class_value (by rfl) (.int .i64 (i : Int)) (fun V hV => by go_simp) ?_
      simp only [Act.put, List.setIfInBounds_toArray, List.set_cons_zero, List.set_cons_succ]
      refine class_value (by rfl) (.pointer (some ⟨g2, i, none⟩)) (fun V hV => by go_simp) ?_
      simp only [Act.put, List.setIfInBounds_toArray, List.set_cons_zero, List.set_cons_succ]
      refine class_cell (by rfl) 9 (.tmp 24) (by rfl) ⟨g2, i, none⟩ (by rfl) (.string s1) _ (fun V hV => HC2.out V hV) Try.underlying9 rfl ?_
      simp only [Act.put, List.setIfInBounds_toArray, List.set_cons_zero, List.set_cons_succ]
      refine class_value (by rfl) (.bool false) (fun V hV => by go_simp) ?_
      simp only [Act.put, List.setIfInBounds_toArray, List.set_cons_zero, List.set_cons_succ]
      refine wpQuiet_nil ?_
      intro V6 k6
      have K6 := Lib.hid (K.out.trans k6.out)
      clear k6 HC1 HC2 HCV
      go_wp2
      go_roundw
      case rel => exact ⟨i + 1, by omega, by go_num, K6⟩
      case measure => simp [intOf]; omega
    · obtain rfl : i = n := by omega
      go_wp2
      go_ret
      exact ⟨rfl, K.out⟩
end Go.Proofs.Ytnhegnncmjmafaa
