/-
  Rows of wants; the law's same: wants that are the document's.
-/
import Derived.Test.YthnpgiagajfaiaaFtQ
import Derived.Test.YthnpgiagajfaiaaRowU
namespace Go.Proofs.Ythnpgiagajfaiaa
open Go.RowKit Go.BigFrame
set_option linter.unusedVariables false
set_option linter.unusedSimpArgs false

def wfl (l : List Ft.Wn) : List Value := l.flatMap wcs
theorem wfl_length : ∀ (l : List Ft.Wn), (∀ q ∈ l, Ft.Wn.Ok q) → (wfl l).length = l.length * 66
  | [], _ => rfl
  | q :: l, h => by
    have ih := wfl_length l (fun x hx => h x (List.mem_cons_of_mem _ hx))
    unfold wfl at ih ⊢
    rw [List.flatMap_cons, List.length_append, wcs_length (h q (by simp)), ih, List.length_cons]
    omega
theorem wfl_snoc (l : List Ft.Wn) (q : Ft.Wn) : wfl l ++ wcs q = wfl (l ++ [q]) := by unfold wfl; rw [List.flatMap_append]; simp
theorem wfl_one (l : List Ft.Wn) : ∀ u ∈ wfl l, u.oneCell' = true := by
  intro u hu
  obtain ⟨q, _, h⟩ := List.mem_flatMap.1 hu
  exact wcs_one q u h
theorem wfl_at : ∀ (l : List Ft.Wn), (∀ q ∈ l, Ft.Wn.Ok q) → ∀ (i : Nat) (q : Ft.Wn), l[i]? = some q → ∀ (j : Nat) (v : Value), (wcs q)[j]? = some v → (wfl l)[i * 66 + j]? = some v
  | [], _, i, q, h, _, _, _ => by simp at h
  | a :: l, hok, 0, q, h, j, v, hv => by
    simp at h
    subst h
    unfold wfl
    rw [List.flatMap_cons, Nat.zero_mul, Nat.zero_add, List.getElem?_append_left (List.getElem?_eq_some_iff.1 hv).1]
    exact hv
  | a :: l, hok, i + 1, q, h, j, v, hv => by
    have ih := wfl_at l (fun x hx => hok x (List.mem_cons_of_mem _ hx)) i q (by simpa using h) j v hv
    unfold wfl at ih ⊢
    rw [List.flatMap_cons, List.getElem?_append_right (by rw [wcs_length (hok a (by simp))]; omega), wcs_length (hok a (by simp))]
    rw [show (i + 1) * 66 + j - 66 = i * 66 + j by omega]
    exact ih
theorem own_w {w : World} {base g n c : Nat} {l : List Ft.Wn} (h : w.ownsRow base 41 66 (.slice (some ⟨g, 0, none⟩) n c) n (wfl l)) (hok : ∀ q ∈ l, Ft.Wn.Ok q) {i : Nat} {q : Ft.Wn} (hq : l[i]? = some q) : w.rangeAt g (i * 66) (wcs q) := fun j v hv => by
  have hl := (List.getElem?_eq_some_iff.1 hq).1
  have hll := h.1
  rw [wfl_length l hok] at hll
  have hj : j < 66 := by have := (List.getElem?_eq_some_iff.1 hv).1; rwa [wcs_length (hok q (List.mem_of_getElem? hq))] at this
  rw [h.cellAt (i * 66 + j) (by have : l.length = n := by omega
                                subst this; omega)]
  exact wfl_at l hok i q hq j v hv
theorem range_w {w : World} {g o : Nat} {q : Ft.Wn} (hok : Ft.Wn.Ok q) (h : w.rangeAt g o (wcs q)) : w.rangeAt g o (kcs q.1) ∧ w.rangeAt g (o + 33) (kcs q.2) := by
  unfold wcs at h
  obtain ⟨h3, h4⟩ := range_part h
  rw [kcs_length hok.1.2] at h4
  exact ⟨h3, h4⟩
theorem own_some66 {w : World} {B n c : Nat} {A : Option Addr} {xs : List Value} {e : TypeId} {size : Nat} (h : w.ownsRow B e size (.slice A n c) n xs) (hn : 0 < n) : ∃ g, A = some ⟨g, 0, none⟩ := by
  rcases h.2 with ⟨_, h2⟩ | ⟨g, cap, cur, h1, _⟩
  · omega
  · injection h1 with h1; exact ⟨g, h1⟩
set_option maxRecDepth 100000 in
set_option maxHeartbeats 2000000 in
theorem same18_eq (A A2 : Option Addr) (n c d b1 b2 : Nat) (qs : List Ft.Q) (w : World) (hok : ∀ q ∈ qs, Ft.Q.Ok q) (h1 : w.ownsRow b1 41 66 (.slice A n c) n (wfl (qs.map (·.key)))) (h2 : w.ownsRow b2 71 68 (.slice A2 n d) n (qfl qs)) (hn : n ≤ 1000) :
    Calls Try.prog 18 #[.slice A n c, .slice A2 n d] w fun e w' => e = .returned (.bool true) ∧ Keeps (fun _ => False) w w' := by
  have H1 := Lib.hid h1
  have H2 := Lib.hid h2
  have HOK := Lib.hid hok
  have HWK : Hid (∀ q ∈ qs.map (·.key), Ft.Wn.Ok q) := Lib.hid (fun k hk => by obtain ⟨q, hq, rfl⟩ := List.mem_map.1 hk; exact hok q hq)
  have HL : Hid (qs.length = n) := Lib.hid (by have := h2.1; rw [qfl_length qs hok] at this; omega)
  clear h1 h2 hok
  go_enter Try.func18, Try.ntmps18
  go_wp2
  go_loopw [5] (fun iv wr => ∃ (i : Nat), i ≤ n ∧ iv = .int .i64 (i : Int) ∧ Hid (Keeps (fun _ => False) w wr)) (fun iv _ => n - (intOf iv).toNat)
  case atStart => exact ⟨0, by omega, rfl, Lib.hid (Keeps.refl _ _)⟩
  case round =>
    obtain ⟨i, hi, rfl, K⟩ := hrel
    by_cases hlt : i < n
    · have hii : (i : Int) < (n : Int) := by omega
      obtain ⟨g1, rfl⟩ := own_some66 H1.out (by omega)
      obtain ⟨g2, rfl⟩ := own_some66 H2.out (by omega)
      obtain ⟨q, hq⟩ : ∃ q, qs[i]? = some q := ⟨_, List.getElem?_eq_getElem (by have := HL.out; omega)⟩
      have hqok := HOK.out q (List.mem_of_getElem? hq)
      obtain ⟨hx1, hx2⟩ := range_w hqok (own_w H1.out HWK.out (show (qs.map (·.key))[i]? = some q.key by rw [List.getElem?_map, hq]; rfl))
      obtain ⟨hy1, hy2, _, _⟩ := range_q hqok (own_q H2.out HOK.out hq)
      have E1 : Hid (∀ V : World, (binOp .neq 39 (.agg (kcs q.key.1).toArray) (.agg (kcs q.key.1).toArray)).run Try.prog V = .ok (.bool false) V) := Lib.hid (fun V => by have h := run_neq_key q.key.1 q.key.1 hqok.1 hqok.1 V; rwa [decide_eq_true rfl] at h)
      have E2 : Hid (∀ V : World, (binOp .neq 39 (.agg (kcs q.key.2).toArray) (.agg (kcs q.key.2).toArray)).run Try.prog V = .ok (.bool false) V) := Lib.hid (fun V => by have h := run_neq_key q.key.2 q.key.2 hqok.2 hqok.2 V; rwa [decide_eq_true rfl] at h)
      have SX1 : Hid ((Try.prog.info? 39).map (·.size) = some (kcs q.key.1).length) := Lib.hid (by rw [kcs_length hqok.1.2]; exact info_k)
      have SX2 : Hid ((Try.prog.info? 39).map (·.size) = some (kcs q.key.2).length) := Lib.hid (by rw [kcs_length hqok.2.2]; exact info_k)
      obtain ⟨X1, hX1⟩ : ∃ K, kcs q.key.1 = K := ⟨_, rfl⟩
      obtain ⟨X2, hX2⟩ : ∃ K, kcs q.key.2 = K := ⟨_, rfl⟩
      rw [hX1] at hx1 hy1 E1 SX1
      rw [hX2] at hx2 hy2 E2 SX2
      have HX1 : Hid (∀ V, Later wr V → V.rangeAt g1 (i * 66) X1) := Lib.hid (fun V hV => range_keeps17 hx1 (K.out.trans hV.out) id)
      have HX2 : Hid (∀ V, Later wr V → V.rangeAt g1 (i * 66 + 33) X2) := Lib.hid (fun V hV => range_keeps17 hx2 (K.out.trans hV.out) id)
      have HY1 : Hid (∀ V, Later wr V → V.rangeAt g2 (i * 68) X1) := Lib.hid (fun V hV => range_keeps17 hy1 (K.out.trans hV.out) id)
      have HY2 : Hid (∀ V, Later wr V → V.rangeAt g2 (i * 68 + 33) X2) := Lib.hid (fun V hV => range_keeps17 hy2 (K.out.trans hV.out) id)
      clear hx1 hx2 hy1 hy2 hX1 hX2 hq hqok
      go_wp2_with fail
      refine wp_region_class (Later wr) (by kernel_rfl) (by kernel_rfl) (⟨(Keeps.refl _ _).drew⟩) ?_
      refine class_value (by rfl) (.slice (some ⟨g1, 0, none⟩) n c) (fun V hV => by go_simp) ?_
      simp only [Act.put, List.setIfInBounds_toArray, List.set_cons_zero, List.set_cons_succ]
      refine class_value (by rfl) (.int .i64 (i : Int)) (fun V hV => by go_simp) ?_
      simp only [Act.put, List.setIfInBounds_toArray, List.set_cons_zero, List.set_cons_succ]
      refine class_value (by rfl) (.pointer (some ⟨g1, i * 66, none⟩)) (fun V hV => by go_simp) ?_
      simp only [Act.put, List.setIfInBounds_toArray, List.set_cons_zero, List.set_cons_succ]
      refine class_value (by rfl) (.pointer (some ⟨g1, i * 66, none⟩)) (fun V hV => by go_simp) ?_
      simp only [Act.put, List.setIfInBounds_toArray, List.set_cons_zero, List.set_cons_succ]
      refine class_mid (by rfl) 39 (.tmp 20) (by rfl) g1 (i * 66) (by rfl) X1 _ (fun V hV => HX1.out V hV) Try.underlying39 rfl SX1.out ?_
      simp only [Act.put, List.setIfInBounds_toArray, List.set_cons_zero, List.set_cons_succ]
      refine class_value (by rfl) (.slice (some ⟨g2, 0, none⟩) n d) (fun V hV => by go_simp) ?_
      simp only [Act.put, List.setIfInBounds_toArray, List.set_cons_zero, List.set_cons_succ]
      refine class_value (by rfl) (.int .i64 (i : Int)) (fun V hV => by go_simp) ?_
      simp only [Act.put, List.setIfInBounds_toArray, List.set_cons_zero, List.set_cons_succ]
      refine class_value (by rfl) (.pointer (some ⟨g2, i * 68, none⟩)) (fun V hV => by go_simp) ?_
      simp only [Act.put, List.setIfInBounds_toArray, List.set_cons_zero, List.set_cons_succ]
      refine class_value (by rfl) (.pointer (some ⟨g2, i * 68, none⟩)) (fun V hV => by go_simp) ?_
      simp only [Act.put, List.setIfInBounds_toArray, List.set_cons_zero, List.set_cons_succ]
      refine class_mid (by rfl) 39 (.tmp 25) (by rfl) g2 (i * 68) (by rfl) X1 _ (fun V hV => HY1.out V hV) Try.underlying39 rfl SX1.out ?_
      simp only [Act.put, List.setIfInBounds_toArray, List.set_cons_zero, List.set_cons_succ]
      refine class_eq (by rfl) .neq 39 _ (.tmp 21) (.tmp 26) (by rfl) X1.toArray X1.toArray (by rfl) (by rfl) (by kernel_rfl) (.bool false) (E1.out) ?_
      simp only [Act.put, List.setIfInBounds_toArray, List.set_cons_zero, List.set_cons_succ]
      refine class_value (by rfl) (.bool false) (fun V hV => by go_simp) ?_
      simp only [Act.put, List.setIfInBounds_toArray, List.set_cons_zero, List.set_cons_succ]
      refine class_value (by rfl) (.slice (some ⟨g1, 0, none⟩) n c) (fun V hV => by go_simp) ?_
      simp only [Act.put, List.setIfInBounds_toArray, List.set_cons_zero, List.set_cons_succ]
      refine class_value (by rfl) (.int .i64 (i : Int)) (fun V hV => by go_simp) ?_
      simp only [Act.put, List.setIfInBounds_toArray, List.set_cons_zero, List.set_cons_succ]
      refine class_value (by rfl) (.pointer (some ⟨g1, i * 66, none⟩)) (fun V hV => by go_simp) ?_
      simp only [Act.put, List.setIfInBounds_toArray, List.set_cons_zero, List.set_cons_succ]
      refine class_value (by rfl) (.pointer (some ⟨g1, i * 66 + 33, none⟩)) (fun V hV => by go_simp) ?_
      simp only [Act.put, List.setIfInBounds_toArray, List.set_cons_zero, List.set_cons_succ]
      refine class_mid (by rfl) 39 (.tmp 32) (by rfl) g1 (i * 66 + 33) (by rfl) X2 _ (fun V hV => HX2.out V hV) Try.underlying39 rfl SX2.out ?_
      simp only [Act.put, List.setIfInBounds_toArray, List.set_cons_zero, List.set_cons_succ]
      refine class_value (by rfl) (.slice (some ⟨g2, 0, none⟩) n d) (fun V hV => by go_simp) ?_
      simp only [Act.put, List.setIfInBounds_toArray, List.set_cons_zero, List.set_cons_succ]
      refine class_value (by rfl) (.int .i64 (i : Int)) (fun V hV => by go_simp) ?_
      simp only [Act.put, List.setIfInBounds_toArray, List.set_cons_zero, List.set_cons_succ]
      refine class_value (by rfl) (.pointer (some ⟨g2, i * 68, none⟩)) (fun V hV => by go_simp) ?_
      simp only [Act.put, List.setIfInBounds_toArray, List.set_cons_zero, List.set_cons_succ]
      refine class_value (by rfl) (.pointer (some ⟨g2, i * 68 + 33, none⟩)) (fun V hV => by go_simp) ?_
      simp only [Act.put, List.setIfInBounds_toArray, List.set_cons_zero, List.set_cons_succ]
      refine class_mid (by rfl) 39 (.tmp 37) (by rfl) g2 (i * 68 + 33) (by rfl) X2 _ (fun V hV => HY2.out V hV) Try.underlying39 rfl SX2.out ?_
      simp only [Act.put, List.setIfInBounds_toArray, List.set_cons_zero, List.set_cons_succ]
      refine class_eq (by rfl) .neq 39 _ (.tmp 33) (.tmp 38) (by rfl) X2.toArray X2.toArray (by rfl) (by rfl) (by kernel_rfl) (.bool false) (E2.out) ?_
      simp only [Act.put, List.setIfInBounds_toArray, List.set_cons_zero, List.set_cons_succ]
      refine class_value (by rfl) (.bool false) (fun V hV => by go_simp) ?_
      simp only [Act.put, List.setIfInBounds_toArray, List.set_cons_zero, List.set_cons_succ]
      refine wpQuiet_nil ?_
      intro V6 k6
      have K6 := Lib.hid (K.out.trans k6.out)
      clear k6 HX1 HX2 HY1 HY2
      go_wp2
      go_roundw
      case rel => exact ⟨i + 1, by omega, by go_num, K6⟩
      case measure => simp [intOf]; omega
    · obtain rfl : i = n := by omega
      go_wp2
      go_ret
      exact ⟨rfl, K.out⟩
end Go.Proofs.Ythnpgiagajfaiaa
