/-
  Are two rows the same? The document's own table: who isn't kept away; time goes by.
-/
import Derived.Test.YtdihkbkcefjeoaaSrD
namespace Go.Proofs.Ytdihkbkcefjeoaa
open Go.RowKit Go.BigFrame
set_option linter.unusedVariables false
set_option linter.unusedSimpArgs false

set_option maxRecDepth 100000 in
set_option maxHeartbeats 2000000 in
theorem same_eq (A B : Option Addr) (n c d b1 b2 : Nat) (l : List Nat) (w : World) (h1 : w.ownsRow b1 3 1 (.slice A n c) n (nvs l)) (h2 : w.ownsRow b2 3 1 (.slice B n d) n (nvs l)) (hn : n ≤ 64) :
    Calls Try.prog 16 #[.slice A n c, .slice B n d] w fun e w' => e = .returned (.bool true) ∧ Keeps (fun _ => False) w w' := by
  have H1 := Lib.hid h1
  have H2 := Lib.hid h2
  have HL : Hid ((nvs l).length = n) := Lib.hid (by have := h1.1; omega)
  clear h1 h2
  go_enter Try.func16, Try.ntmps16
  go_wp2
  go_loopw [5] (fun iv wr => ∃ (i : Nat), i ≤ n ∧ iv = .int .i64 (i : Int) ∧ Hid (Keeps (fun _ => False) w wr)) (fun iv _ => n - (intOf iv).toNat)
  case atStart => exact ⟨0, by omega, rfl, Lib.hid (Keeps.refl _ _)⟩
  case round =>
    obtain ⟨i, hi, rfl, K⟩ := hrel
    by_cases hlt : i < n
    · have hii : (i : Int) < (n : Int) := by omega
      obtain ⟨k, hk⟩ : ∃ k, l[i]? = some k := ⟨_, List.getElem?_eq_getElem (by have := HL.out; rw [nvs_length] at this; omega)⟩
      have hv : (nvs l)[i]? = some (.int .i64 (k : Int)) := by unfold nvs; rw [List.getElem?_map, hk]; rfl
      obtain ⟨x, hx⟩ : ∃ x : Int, (k : Int) = x := ⟨_, rfl⟩
      rw [hx] at hv
      obtain ⟨g1, rfl, c1⟩ := own_one (K.out.owns H1.out (fun _ _ => id)) hv
      obtain ⟨g2, rfl, c2⟩ := own_one (K.out.owns H2.out (fun _ _ => id)) hv
      have HC1 : Hid (∀ V, Later wr V → V.cell? ⟨g1, i, none⟩ = some (.int .i64 x)) := Lib.hid (fun V hV => (hV.out.cell (p := ⟨g1, i, none⟩) (World.block_lt_of_cell? wr _ c1) id).trans c1)
      have HC2 : Hid (∀ V, Later wr V → V.cell? ⟨g2, i, none⟩ = some (.int .i64 x)) := Lib.hid (fun V hV => (hV.out.cell (p := ⟨g2, i, none⟩) (World.block_lt_of_cell? wr _ c2) id).trans c2)
      clear hv c1 c2 hk hx
      go_wp2_with fail
      refine wp_region_class (Later wr) (by kernel_rfl) (by kernel_rfl) (⟨(Keeps.refl _ _).drew⟩) ?_
      refine class_value (by rfl) (.slice (some ⟨g1, 0, none⟩) n c) (fun V hV => by go_simp) ?_
      simp only [Act.put, List.setIfInBounds_toArray, List.set_cons_zero, List.set_cons_succ]
      refine class_value (by rfl) (.int .i64 (i : Int)) (fun V hV => by go_simp) ?_
      simp only [Act.put, List.setIfInBounds_toArray, List.set_cons_zero, List.set_cons_succ]
      refine class_value (by rfl) (.pointer (some ⟨g1, i, none⟩)) (fun V hV => by go_simp) ?_
      simp only [Act.put, List.setIfInBounds_toArray, List.set_cons_zero, List.set_cons_succ]
      refine class_cell (by rfl) 3 (.tmp 19) (by rfl) ⟨g1, i, none⟩ (by rfl) (.int .i64 x) _ (fun V hV => HC1.out V hV) Try.underlying3 rfl ?_
      simp only [Act.put, List.setIfInBounds_toArray, List.set_cons_zero, List.set_cons_succ]
      refine class_value (by rfl) (.slice (some ⟨g2, 0, none⟩) n d) (fun V hV => by go_simp) ?_
      simp only [Act.put, List.setIfInBounds_toArray, List.set_cons_zero, List.set_cons_succ]
      refine class_value (by rfl) (.int .i64 (i : Int)) (fun V hV => by go_simp) ?_
      simp only [Act.put, List.setIfInBounds_toArray, List.set_cons_zero, List.set_cons_succ]
      refine class_value (by rfl) (.pointer (some ⟨g2, i, none⟩)) (fun V hV => by go_simp) ?_
      simp only [Act.put, List.setIfInBounds_toArray, List.set_cons_zero, List.set_cons_succ]
      refine class_cell (by rfl) 3 (.tmp 23) (by rfl) ⟨g2, i, none⟩ (by rfl) (.int .i64 x) _ (fun V hV => HC2.out V hV) Try.underlying3 rfl ?_
      simp only [Act.put, List.setIfInBounds_toArray, List.set_cons_zero, List.set_cons_succ]
      refine class_value (by rfl) (.bool false) (fun V hV => by go_simp) ?_
      simp only [Act.put, List.setIfInBounds_toArray, List.set_cons_zero, List.set_cons_succ]
      refine wpQuiet_nil ?_
      intro V6 k6
      have K6 := Lib.hid (K.out.trans k6.out)
      clear k6 HC1 HC2
      go_wp2
      go_roundw
      case rel => exact ⟨i + 1, by omega, by go_num, K6⟩
      case measure => simp [intOf]; omega
    · obtain rfl : i = n := by omega
      go_wp2
      go_ret
      exact ⟨rfl, K.out⟩
set_option maxRecDepth 100000 in
set_option maxHeartbeats 2000000 in
theorem ropen_any (A : Option Addr) (n c : Nat) (s : Sc.Tb) (w : World) (ok : Sc.Ok s) (hn : s.ps.length = n) (hg : w.ownsRow 0 42 2 (.slice A n c) n (pcells s.ps)) :
    Calls Try.prog 18 #[.agg (tcs s.limit s.hold A n c)] w fun e w' => ∃ A2 m c2, e = .returned (.slice A2 m c2) ∧ m = (Sc.opens s.ps n).length ∧ w'.ownsRow w.heap.size 3 1 (.slice A2 m c2) m (nvs (Sc.opens s.ps n)) ∧ Keeps (fun _ => False) w w' := by
  have hn64 := ok.many
  rw [hn] at hn64
  obtain ⟨g0, rfl⟩ := own_some13 hg (by omega)
  obtain ⟨L, hL⟩ : ∃ L, s.limit = L := ⟨_, rfl⟩
  obtain ⟨H, hH⟩ : ∃ L, s.hold = L := ⟨_, rfl⟩
  rw [hL, hH]
  obtain ⟨TC, hTC⟩ : ∃ C, tcs L H (some ⟨g0, 0, none⟩) n c = C := ⟨_, rfl⟩
  obtain ⟨b3, hb3⟩ : ∃ x, w.heap.size = x := ⟨_, rfl⟩
  obtain ⟨W1, hW1⟩ : ∃ V, w.alloc (.cells TC 30) = V := ⟨_, rfl⟩
  have k1 : Keeps (fun _ => False) w W1 := by rw [← hW1]; exact (Keeps.refl _ _).alloc _
  have r1 : Row W1 b3 30 [.int .i64 L, .int .i64 H, .slice (some ⟨g0, 0, none⟩) n c] := by rw [← hW1, ← hb3, ← hTC]; exact heap_alloc_new w _
  obtain ⟨ih, zh, hih, hzh, hsh, hbh, hzsh⟩ := info_in
  have HII := Lib.hid (And.intro hih (And.intro hzh (And.intro hsh (And.intro hbh hzsh))))
  have HG := Lib.hid hg
  have K1 := Lib.hid k1
  have R1 := Lib.hid r1
  have HN := Lib.hid (And.intro hn hn64)
  have HOK := Lib.hid ok
  have HB3 : Hid (w.heap.size = b3 ∧ b3 < W1.heap.size) := Lib.hid ⟨hb3, r1.lt⟩
  rw [hTC]
  clear hg k1 r1 hn ok hL hH hTC hn64 hih hzh hsh hbh hzsh
  go_enter Try.func18, Try.ntmps18
  go_wp2
  go_loopw [3, 4] (fun lv iv wr => ∃ (i m : Nat) (A2 : Option Addr) (c2 : Nat), i ≤ n ∧ lv = .slice A2 m c2 ∧ iv = .int .i64 (i : Int) ∧ Hid (m = (Sc.opens s.ps i).length) ∧ Hid (wr.ownsRow b3 3 1 (.slice A2 m c2) m (nvs (Sc.opens s.ps i))) ∧ Hid (Keeps (fun _ => False) W1 wr)) (fun _ iv _ => n - (intOf iv).toNat)
  case atStart => exact ⟨0, 0, none, 0, by omega, rfl, rfl, Lib.hid rfl, Lib.hid (World.ownsRow_nil _ _ _ _), Lib.hid (Keeps.refl _ _)⟩
  case round =>
    obtain ⟨i, m, A2, c2, hi, rfl, rfl, HM, HO, HK⟩ := hrel
    have c32 : wr.cell? ⟨b3, 2, none⟩ = some (.slice (some ⟨g0, 0, none⟩) n c) := (R1.out.keeps HK.out id).cell 2
    have h64 : n ≤ 64 := HN.out.2.2
    by_cases hlt : i < n
    · have hii : (i : Int) < (n : Int) := by omega
      obtain ⟨p, hp⟩ : ∃ p, s.ps[i]? = some p := ⟨_, List.getElem?_eq_getElem (by have := HN.out.1; omega)⟩
      obtain ⟨_, cy⟩ := cell_own2 ((K1.out.trans HK.out).owns HG.out (fun _ _ => id)) hp hlt
      have hos := Sc.opens_succ s.ps i
      rw [show s.ps.getD i (0, 0) = p by rw [List.getD_eq_getElem?_getD, hp]; rfl] at hos
      have hlp := (HOK.out.left p (List.mem_of_getElem? hp)).1
      have hmi := Sc.opens_le s.ps i
      rw [← HM.out] at hmi
      obtain ⟨x, y⟩ := p
      dsimp only at cy hos hlp
      by_cases hy0 : y = 0
      · subst hy0
        rw [if_pos (by decide)] at hos
        obtain ⟨V1, hV1⟩ : ∃ V, wr.alloc (.cells #[.int .i64 (i : Int)] 3) = V := ⟨_, rfl⟩
        have kv1 : Keeps (fun _ => False) wr V1 := by rw [← hV1]; exact (Keeps.refl _ _).alloc _
        have rv1 : V1.heap[wr.heap.size]? = some (.cells [Value.int .i64 (i : Int)].toArray 3 (0, 0)) := by rw [← hV1]; exact heap_alloc_new wr _
        have HBI := Lib.hid (build_int (i : Int) wr)
        rw [hV1] at HBI
        have KV1 := Lib.hid kv1
        have RV1 := Lib.hid rv1
        have HBV : b3 ≤ V1.heap.size := by have := HK.out.size; have := KV1.out.size; have := HB3.out; omega
        have HOS := Lib.hid hos
        clear kv1 rv1 hV1 hos hp hlp
        go_wp2_with (first
          | (refine wpList_buildSlice_run13 (by rfl) 43 1 0 (.tmp 20) (by rfl) _ _ (by rfl) HBI.out ?_)
          | (at_builtin; refine wpList_append_own _ (by rfl) _ _ 43 (by rfl) b3 3 ih zh 1 8 Try.underlying43 HII.out.1 HII.out.2.1 HII.out.2.2.1 HII.out.2.2.2.1 HII.out.2.2.2.2 (by decide) (.slice A2 m c2) m (nvs (Sc.opens s.ps i)) (by rfl) (KV1.out.owns HO.out (fun _ _ => id)) ⟨wr.heap.size, 0, none⟩ 1 1 [.int .i64 (i : Int)] (by rfl) (by rfl) (World.news_of_block RV1.out) (by intro u hu; cases hu with | head => rfl | tail _ h => cases h) (by unfold maxLen; omega) (by omega) HBV ?_; intro v3 V3 ho3 hg3 _; have HO3 := Lib.hid ho3; have HG3 := Lib.hid hg3; obtain ⟨A3, c3, rfl⟩ := own_slice ho3; clear ho3 hg3))
        have ho2 := KV1.out.owns HO.out (fun _ _ => id)
        have KW3 : Hid (Keeps (fun _ => False) W1 V3) := Lib.hid ((HK.out.trans KV1.out).trans' (T := fun k => (Value.slice A2 m c2).ownBlock = some k) ((Keeps.refl _ _).grown HG3.out (fun _ _ h => h)) (fun k hk e => by
          obtain ⟨cur, hcu, hbk⟩ := own_block ho2 k e
          by_cases hkb : k = b3
          · subst hkb
            have hr := (R1.out.keeps (HK.out.trans KV1.out) id)
            unfold Row at hr
            rw [hr] at hcu
            injection hcu with hcu
            injection hcu with _ h2
            exact absurd h2 (by decide)
          · have := HB3.out
            have h9 : W1.heap.size = w.heap.size + 1 := by rw [← hW1]; simp
            omega))
        have HO4 : Hid (V3.ownsRow b3 3 1 (.slice A3 (m + 1) c3) (m + 1) (nvs (Sc.opens s.ps (i + 1)))) := Lib.hid (by rw [HOS.out, ← nvs_snoc]; exact HO3.out)
        have HM4 : Hid (m + 1 = (Sc.opens s.ps (i + 1)).length) := Lib.hid (by rw [HOS.out, List.length_append, ← HM.out]; rfl)
        clear ho2 HO3 HG3
        go_roundw
        case rel => exact ⟨i + 1, m + 1, A3, c3, by omega, rfl, by go_num, HM4, HO4, KW3⟩
        case measure => simp [intOf]; omega
      · have hyd : (y == 0) = false := by simpa using hy0
        rw [if_neg (by omega), List.append_nil] at hos
        have HOS := Lib.hid hos
        clear hos hp hlp hy0
        go_wp2
        go_roundw
        case rel => exact ⟨i + 1, m, A2, c2, by omega, rfl, by go_num, Lib.hid (by rw [HOS.out]; exact HM.out), Lib.hid (by rw [HOS.out]; exact HO.out), HK⟩
        case measure => simp [intOf]; omega
    · obtain rfl : i = n := by omega
      have FIN := Lib.hid (And.intro HM.out (And.intro HO.out (K1.out.trans HK.out)))
      go_wp2
      go_ret
      exact ⟨A2, m, c2, rfl, FIN.out.1, by first | exact FIN.out.2.1 | (rw [hb3]; exact FIN.out.2.1), FIN.out.2.2⟩
end Go.Proofs.Ytdihkbkcefjeoaa
