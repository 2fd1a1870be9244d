/-
  Time goes by.
-/
import Derived.Test.YtdihkbkcefjeoaaScF
namespace Go.Proofs.Ytdihkbkcefjeoaa
open Go.RowKit Go.BigFrame
set_option linter.unusedVariables false
set_option linter.unusedSimpArgs false

theorem set_same {α : Type} (l : List α) (i : Nat) (p : α) (h : l[i]? = some p) : l.set i p = l := by
  obtain ⟨hi, hp⟩ := List.getElem?_eq_some_iff.1 h
  apply List.ext_getElem?
  intro j
  rw [List.getElem?_set]
  by_cases hj : i = j
  · subst hj
    simp [hi, hp]
  · simp [hj]
set_option maxRecDepth 100000 in
set_option maxHeartbeats 4000000 in
theorem tick_tab (w : World) (g b : Nat) (s : Sc.Tb) (h : TabAt w g b s) : Calls Try.prog 14 #[.pointer (some ⟨g, 0, none⟩)] w fun e w' =>
    ∃ A m c, e = .returned (.slice A m c) ∧ m = (Sc.ins s.ps s.ps.length).length ∧ w'.ownsRow w.heap.size 3 1 (.slice A m c) m (nvs (Sc.ins s.ps s.ps.length)) ∧ TabAt w' g b (Sc.tick s) ∧ Keeps (fun k => k = b) w w' := by
  obtain ⟨Z, hZ⟩ : ∃ Z, pc (0, 0) = Z := ⟨_, rfl⟩
  have hz : ∀ V : World, (zeroValue 40).run Try.prog V = .ok (.agg Z) V := fun V => by rw [← hZ]; exact zero_peer V
  have SZ2 : Hid (Z.size = 2) := Lib.hid (by rw [← hZ]; rfl)
  have HALL := Lib.hid (all_any w g b s h)
  have HT := Lib.hid h
  obtain ⟨n, hn⟩ : ∃ n, s.ps.length = n := ⟨_, rfl⟩
  have hn64 := h.ok.many.2
  have HTK : Hid (Sc.tick s = { s with ps := Sc.tks s.ps n }) := Lib.hid (by rw [← hn, Sc.tks_all]; rfl)
  obtain ⟨S', hS'⟩ : ∃ S', Sc.tick s = S' := ⟨_, rfl⟩
  rw [hn] at HALL hn64 ⊢
  rw [hS'] at HTK ⊢
  have HN := Lib.hid (And.intro hn hn64)
  obtain ⟨ih, zh, hih, hzh, hsh, hbh, hzsh⟩ := info_in
  have HII := Lib.hid (And.intro hih (And.intro hzh (And.intro hsh (And.intro hbh hzsh))))
  clear h hn hn64 hih hzh hsh hbh hzsh hZ hS'
  go_enter Try.func14, Try.ntmps14
  go_wp2_with fail
  refine HALL.out.mono ?_
  rintro e w1 ⟨A, c, rfl, hrow, k1⟩
  have T1 := Lib.hid (HT.out.later k1)
  have HRK : Hid (∀ V, Keeps (fun k => k = b) w1 V → V.ownsRow w.heap.size 3 1 (.slice A n c) n (nvs (List.range n))) := Lib.hid (fun V hV => hV.owns hrow (fun k hk e => by
    obtain ⟨cur, hcu, _⟩ := own_block hrow k hk
    exact T1.out.map.apart hcu e.symm))
  have K1 := Lib.hid k1
  have HW1 := Lib.hid k1.size
  obtain ⟨B, hB⟩ : ∃ x, w1.heap.size = x := ⟨_, rfl⟩
  have HB : Hid (w1.heap.size = B ∧ b < B) := Lib.hid ⟨hB, by rw [← hB]; exact T1.out.map.lt⟩
  clear hrow k1 hB
  go_wp2_with fail
  go_loopw [3, 5, 6, 10] (fun lv _ _ iv wr => ∃ (i m : Nat) (A2 : Option Addr) (c2 : Nat), i ≤ n ∧ lv = .slice A2 m c2 ∧ iv = .int .i64 (i : Int) ∧ Hid (m = (Sc.ins s.ps i).length) ∧ Hid (wr.ownsRow B 3 1 (.slice A2 m c2) m (nvs (Sc.ins s.ps i))) ∧ Hid (TabAt wr g b { s with ps := Sc.tks s.ps i }) ∧ Hid (Keeps (fun k => k = b) w1 wr)) (fun _ _ _ iv _ => n - (intOf iv).toNat)
  case atStart => exact ⟨0, 0, none, 0, by omega, rfl, rfl, Lib.hid rfl, Lib.hid (World.ownsRow_nil _ _ _ _), T1, Lib.hid (Keeps.refl _ _)⟩
  case round =>
    obtain ⟨i, m, A2, c2, hi, rfl, rfl, HM, HO, HTr, HK⟩ := hrel
    by_cases hlt : i < n
    · have hii : (i : Int) < (n : Int) := by omega
      obtain ⟨ad, rfl, hc⟩ := (Src.of_own (HRK.out wr HK.out)) i (.int .i64 (i : Int)) (nvs_range n i hlt)
      obtain ⟨p, hp⟩ : ∃ p, s.ps[i]? = some p := ⟨_, List.getElem?_eq_getElem (by have := HN.out.1; omega)⟩
      have hpt := Sc.tks_at s.ps i p hp
      have hsu := Sc.tks_succ s.ps i p hp
      have his := Sc.ins_succ s.ps i
      rw [show s.ps.getD i (0, 0) = p by rw [List.getD_eq_getElem?_getD, hp]; rfl] at his
      have hlp := HT.out.ok.left p (List.mem_of_getElem? hp)
      have hhd := HT.out.ok.hold
      have h64 : n ≤ 64 := HN.out.2
      have hmi := Sc.ins_le s.ps i
      rw [← HM.out] at hmi
      have haw := fun V => away_any p V
      obtain ⟨x, y⟩ := p
      obtain ⟨C, hC⟩ : ∃ C, pc (x, y) = C := ⟨_, rfl⟩
      rw [hC] at haw
      have SC : Hid ((Try.prog.info? 40).map (·.size) = some C.size) := Lib.hid (by rw [← hC]; exact size_Peer)
      have SZC : Hid (Z.size = C.size) := Lib.hid (by rw [← hC, SZ2.out]; rfl)
      have OC : Hid (C.all (·.oneCell') = true) := Lib.hid (by rw [← hC]; exact pc_one _)
      have cg : wr.cell? ⟨g, 0, none⟩ = some (.map (some b)) := HTr.out.row.cell 0
      obtain ⟨b6, hb6⟩ : ∃ x, wr.heap.size = x := ⟨_, rfl⟩
      obtain ⟨W2, hW2⟩ : ∃ V, wr.alloc (.cells Z 40) = V := ⟨_, rfl⟩
      have k2 : Keeps (fun _ => False) wr W2 := by rw [← hW2]; exact (Keeps.refl _ _).alloc _
      have r2 : W2.heap[b6]? = some (.cells Z 40 (0, 0)) := by rw [← hW2, ← hb6]; exact heap_alloc_new wr _
      obtain ⟨W3, hW3⟩ : ∃ V, W2.setRow b6 C = V := ⟨_, rfl⟩
      have k3 : Keeps (fun _ => False) wr W3 := k2.trans' (T := fun k => k = b6) (by rw [← hW3]; exact Keeps.setRow _ _) (fun i hi e => by omega)
      have r3 : W3.heap[b6]? = some (.cells C 40 (0, 0)) := by rw [← hW3]; exact setRow_heap _ _ _ _ _ _ r2
      have HMP := Lib.hid HTr.out.map
      have HPT := Lib.hid hpt
      have HPC : Hid (pv (x, y) = .agg C) := Lib.hid (by rw [← hC]; rfl)
      have HCC := Lib.hid hC
      have R2 := Lib.hid r2
      have R3 := Lib.hid r3
      have K3 := Lib.hid k3
      have HLP := Lib.hid (And.intro hlp hhd)
      have HSU := Lib.hid hsu
      have HIS := Lib.hid his
      have HAW := Lib.hid haw
      have HB6 : Hid (B ≤ b6) := Lib.hid (by have := HK.out.size; have := HB.out.1; omega)
      clear hpt hsu his hlp hhd haw hC k2 r2 k3 r3 hp
      by_cases hy0 : 0 < y
      · have hyd : decide (0 < (x, y).2) = true := decide_eq_true hy0
        rw [hyd] at HAW
        obtain ⟨y1, hy1⟩ : ∃ y1, y - 1 = y1 := ⟨_, rfl⟩
        have hwy : IntKind.i64.wrap (y - 1) = y1 := by rw [← hy1]; exact IntWalk.i64_in _ (by have := HLP.out; omega)
        have HY := Lib.hid (And.intro hy1 hy0)
        clear hy0 hyd hy1
        go_wp2_with (first
          | (refine wpList_pmap_look (by rfl) _ _ 59 3 40 (by rfl) Try.underlying59 Try.underlying3 b (Sc.tks s.ps i) i (x, y) HPT.out (by rfl) (by rfl) HMP.out ?_; rw [HPC.out])
          | (refine wpList_load_row (by rfl) 40 _ (by rfl) b6 (by rfl) 40 C (0, 0) _ R3.out Try.underlying40 rfl SC.out ?_)
          | (refine wpList_store_row (by rfl) 40 _ _ (by rfl) b6 C (by rfl) (by rfl) 40 Z R2.out SC.out SZC.out OC.out ?_; rw [hW3])
          | fail)
        refine (HAW.out _).mono ?_
        rintro e w3 ⟨rfl, k3⟩
        have r3 : Row w3 b6 40 [.int .i64 x, .int .i64 y] := by
          have := (k3.block b6 (Array.getElem?_eq_some_iff.1 R3.out).1 id).trans R3.out
          rw [← HCC.out] at this
          exact this
        have c61 : w3.cell? ⟨b6, 1, none⟩ = some (.int .i64 y) := r3.cell 1
        have f61 := r3.frozen 1
        obtain ⟨w4, hw4⟩ : ∃ V, w3.setCell ⟨b6, 1, none⟩ (.int .i64 y1) = V := ⟨_, rfl⟩
        have k4 : Keeps (fun k => k = b6) w3 w4 := by rw [← hw4]; exact (Keeps.refl (fun k => k = b6) w3).setCell (p := ⟨b6, 1, none⟩) (fun _ => rfl) _
        obtain ⟨D, hD⟩ : ∃ D, pc (x, y1) = D := ⟨_, rfl⟩
        have r4 : w4.heap[b6]? = some (.cells D 40 (0, 0)) := by
          rw [← hw4, ← hD]
          exact r3.set 1 (.int .i64 y1)
        have SD : Hid ((Try.prog.info? 40).map (·.size) = some D.size) := Lib.hid (by rw [← hD]; exact size_Peer)
        have K4 : Hid (Keeps (fun _ => False) wr w4) := Lib.hid ((K3.out.trans k3).trans' k4 (fun j hj e => by omega))
        have t4 := HTr.out.later K4.out
        have HM5 : Hid (∀ V, Later w4 V → V.cell? ⟨g, 0, none⟩ = some (.map (some b))) := Lib.hid (fun V hV => (t4.row.keeps hV.out id).cell 0)
        have HD5 : Hid (∀ V, Later w4 V → V.heap[b6]? = some (.cells D 40 (0, 0))) := Lib.hid (fun V hV => (hV.out.block b6 (Array.getElem?_eq_some_iff.1 r4).1 id).trans r4)
        have T4 := Lib.hid t4
        have R4 := Lib.hid r4
        have HDD := Lib.hid hD
        clear k3 r3 k4 r4 t4 hD HMP HPT HPC R2 R3 K3 HAW HCC hW2 hW3 hb6 cg
        go_wp2_with fail
        refine wp_region_phase 6 (Later w4) (by kernel_rfl) (by kernel_rfl) (⟨(Keeps.refl _ _).drew⟩) ?_
        simp only [List.take_succ_cons, List.take_zero, List.drop_succ_cons, List.drop_zero]
        refine class_value (by rfl) (.pointer (some ⟨g, 0, none⟩)) (fun V hV => by go_simp) ?_
        simp only [Act.put, List.setIfInBounds_toArray, List.set_cons_zero, List.set_cons_succ]
        refine class_value (by rfl) (.pointer (some ⟨g, 0, none⟩)) (fun V hV => by go_simp) ?_
        simp only [Act.put, List.setIfInBounds_toArray, List.set_cons_zero, List.set_cons_succ]
        refine class_value (by rfl) (.pointer (some ⟨g, 0, none⟩)) (fun V hV => by go_simp) ?_
        simp only [Act.put, List.setIfInBounds_toArray, List.set_cons_zero, List.set_cons_succ]
        refine class_cell (by rfl) 59 (.tmp 29) (by rfl) ⟨g, 0, none⟩ (by rfl) (.map (some b)) _ (fun V hV => HM5.out V hV) Try.underlying59 rfl ?_
        simp only [Act.put, List.setIfInBounds_toArray, List.set_cons_zero, List.set_cons_succ]
        refine class_value (by rfl) (.int .i64 (i : Int)) (fun V hV => by go_simp) ?_
        simp only [Act.put, List.setIfInBounds_toArray, List.set_cons_zero, List.set_cons_succ]
        refine class_load (by rfl) 40 (.tmp 6) (by rfl) b6 (by rfl) _ D _ _ (fun V hV => HD5.out V hV) Try.underlying40 rfl SD.out ?_
        simp only [Act.put, List.setIfInBounds_toArray, List.set_cons_zero, List.set_cons_succ]
        refine wpQuiet_nil ?_
        intro V6 k6
        refine wpList_pmap_store (by rfl) _ _ _ 59 3 40 (by rfl) Try.underlying59 Try.underlying3 b (Sc.tks s.ps i) i (by rw [Sc.tks_length]; have := HN.out.1; omega) (x, y1) (by rfl) (by rfl) (by rw [pv_pc, HDD.out]; rfl) (T4.out.later k6.out).map ?_
        intro w7 m7 k7
        have htk : Sc.tk (x, y) = (x, y1) := by unfold Sc.tk; rw [if_pos HY.out.2]; show (x, y - 1) = _; rw [HY.out.1]
        have T7 : Hid (TabAt w7 g b { s with ps := Sc.tks s.ps (i + 1) }) := Lib.hid ((T4.out.later k6.out).put k7 (by show PMap w7 b (Sc.tks s.ps (i + 1)); rw [HSU.out, htk]; exact m7) rfl rfl (Sc.tks_ok HT.out.ok (i + 1)))
        have R7 : Hid (w7.heap[b6]? = some (.cells D 40 (0, 0))) := Lib.hid (by
          have h6 := HD5.out V6 ⟨k6.out⟩
          exact (k7.block b6 (Array.getElem?_eq_some_iff.1 h6).1 (fun e => by have := HB.out.2; have := HB6.out; omega)).trans h6)
        have K7 : Hid (Keeps (fun k => k = b) w1 w7) := Lib.hid ((HK.out.trans ((K4.out.trans k6.out).mono (fun _ _ h => h.elim))).trans k7)
        have HO7 : Hid (w7.ownsRow B 3 1 (.slice A2 m c2) m (nvs (Sc.ins s.ps i))) := Lib.hid (k7.owns ((K4.out.trans k6.out).owns HO.out (fun _ _ => id)) (fun k hk e => by
          obtain ⟨_, _, hbk⟩ := own_block HO.out k hk
          have := HB.out.2
          omega))
        have haw := fun V => away_any (x, y1) V
        rw [HDD.out] at haw
        clear k6 m7 k7 htk T4 K4 HM5 HD5
        by_cases hy2 : y1 = 0
        · rw [decide_eq_false (show ¬ 0 < (x, y1).2 by show ¬ 0 < y1; omega)] at haw
          have HIS2 : Hid (Sc.ins s.ps (i + 1) = Sc.ins s.ps i ++ [i]) := Lib.hid (by rw [HIS.out, if_pos (show (x, y).2 = 1 by have := HY.out.1; show y = 1; omega)])
          have HAW := Lib.hid haw
          clear haw hy2 HIS
          go_wp2_with (first
            | (refine wpList_load_row (by rfl) 40 _ (by rfl) b6 (by rfl) 40 D (0, 0) _ R7.out Try.underlying40 rfl SD.out ?_)
            | fail)
          refine (HAW.out _).mono ?_
          rintro e w8 ⟨rfl, k8⟩
          obtain ⟨V1, hV1⟩ : ∃ V, w8.alloc (.cells #[.int .i64 (i : Int)] 3) = V := ⟨_, rfl⟩
          have kv1 : Keeps (fun _ => False) w8 V1 := by rw [← hV1]; exact (Keeps.refl _ _).alloc _
          have rv1 : V1.heap[w8.heap.size]? = some (.cells [Value.int .i64 (i : Int)].toArray 3 (0, 0)) := by rw [← hV1]; exact heap_alloc_new w8 _
          have HBI := Lib.hid (build_int (i : Int) w8)
          rw [hV1] at HBI
          have KV1 := Lib.hid (k8.trans kv1)
          have RV1 := Lib.hid rv1
          have HBV : B ≤ V1.heap.size := by have := K7.out.size; have := KV1.out.size; have := HB.out; omega
          clear k8 kv1 rv1 hV1
          go_wp2_with (first
            | (refine wpList_buildSlice_run13 (by rfl) 43 1 0 _ (by rfl) _ _ (by rfl) HBI.out ?_)
            | (refine wpList_append_own _ (by rfl) _ _ 43 (by rfl) B 3 ih zh 1 8 Try.underlying43 HII.out.1 HII.out.2.1 HII.out.2.2.1 HII.out.2.2.2.1 HII.out.2.2.2.2 (by decide) (.slice A2 m c2) m (nvs (Sc.ins s.ps i)) (by rfl) (KV1.out.owns HO7.out (fun _ _ => id)) ⟨w8.heap.size, 0, none⟩ 1 1 [.int .i64 (i : Int)] (by rfl) (by rfl) (World.news_of_block RV1.out) (by intro u hu; cases hu with | head => rfl | tail _ h => cases h) (by unfold maxLen; omega) (by omega) HBV ?_; intro v3 V3 ho3 hg3 _; have HO3 := Lib.hid ho3; have HG3 := Lib.hid hg3; obtain ⟨A3, c3, rfl⟩ := own_slice ho3; clear ho3 hg3))
          have ho2 := KV1.out.owns HO7.out (fun _ _ => id)
          have kg : Keeps (fun k => (Value.slice A2 m c2).ownBlock = some k) V1 V3 := (Keeps.refl _ _).grown HG3.out (fun _ _ h => h)
          have T9 : Hid (TabAt V3 g b { s with ps := Sc.tks s.ps (i + 1) }) := Lib.hid ((T7.out.later KV1.out).keeps kg (fun e => by
            obtain ⟨cur, hcu, hbk⟩ := own_block ho2 g e
            have hr := (T7.out.later KV1.out).row
            unfold Row at hr
            rw [hr] at hcu
            injection hcu with hcu
            injection hcu with _ h2
            exact absurd h2 (by decide)) (fun e => by
            obtain ⟨cur, hcu, hbk⟩ := own_block ho2 b e
            exact (T7.out.later KV1.out).map.apart hcu rfl))
          have K9 : Hid (Keeps (fun k => k = b) w1 V3) := Lib.hid ((K7.out.trans (KV1.out.mono (fun _ _ h => h.elim))).trans' kg (fun k hk e => by
            obtain ⟨_, _, hbk⟩ := own_block ho2 k e
            have := HB.out
            omega))
          have HO9 : Hid (V3.ownsRow B 3 1 (.slice A3 (m + 1) c3) (m + 1) (nvs (Sc.ins s.ps (i + 1)))) := Lib.hid (by rw [HIS2.out, ← nvs_snoc]; exact HO3.out)
          have HM9 : Hid (m + 1 = (Sc.ins s.ps (i + 1)).length) := Lib.hid (by rw [HIS2.out, List.length_append, ← HM.out]; rfl)
          clear ho2 HO3 HG3 kg
          go_roundw
          case rel => exact ⟨i + 1, m + 1, A3, c3, by omega, rfl, by go_num, HM9, HO9, T9, K9⟩
          case measure => simp [intOf]; omega
        · rw [decide_eq_true (show 0 < (x, y1).2 by show 0 < y1; have := HY.out; omega)] at haw
          have HIS2 : Hid (Sc.ins s.ps (i + 1) = Sc.ins s.ps i) := Lib.hid (by rw [HIS.out, if_neg (show ¬ (x, y).2 = 1 by have := HY.out.1; show ¬ y = 1; omega), List.append_nil])
          have HAW := Lib.hid haw
          clear haw hy2 HIS
          go_wp2_with (first
            | (refine wpList_load_row (by rfl) 40 _ (by rfl) b6 (by rfl) 40 D (0, 0) _ R7.out Try.underlying40 rfl SD.out ?_)
            | fail)
          refine (HAW.out _).mono ?_
          rintro e w8 ⟨rfl, k8⟩
          have K8 := Lib.hid k8
          clear k8
          go_wp2
          go_roundw
          case rel => exact ⟨i + 1, m, A2, c2, by omega, rfl, by go_num, Lib.hid (by rw [HIS2.out]; exact HM.out), Lib.hid (by rw [HIS2.out]; exact K8.out.owns HO7.out (fun _ _ => id)), Lib.hid (T7.out.later K8.out), Lib.hid (K7.out.trans (K8.out.mono (fun _ _ h => h.elim)))⟩
          case measure => simp [intOf]; omega
      · have hyd : decide (0 < (x, y).2) = false := decide_eq_false hy0
        rw [hyd] at HAW
        have htk : Sc.tk (x, y) = (x, y) := if_neg hy0
        have HSU2 : Hid (Sc.tks s.ps (i + 1) = Sc.tks s.ps i) := Lib.hid (by rw [HSU.out, htk]; exact set_same _ _ _ HPT.out)
        have HIS2 : Hid (Sc.ins s.ps (i + 1) = Sc.ins s.ps i) := Lib.hid (by rw [HIS.out, if_neg (show ¬ (x, y).2 = 1 by show ¬ y = 1; omega), List.append_nil])
        clear hy0 hyd htk
        go_wp2_with (first
          | (refine wpList_pmap_look (by rfl) _ _ 59 3 40 (by rfl) Try.underlying59 Try.underlying3 b (Sc.tks s.ps i) i (x, y) HPT.out (by rfl) (by rfl) HMP.out ?_; rw [HPC.out])
          | (refine wpList_load_row (by rfl) 40 _ (by rfl) b6 (by rfl) 40 C (0, 0) _ R3.out Try.underlying40 rfl SC.out ?_)
          | (refine wpList_store_row (by rfl) 40 _ _ (by rfl) b6 C (by rfl) (by rfl) 40 Z R2.out SC.out SZC.out OC.out ?_; rw [hW3])
          | fail)
        refine (HAW.out _).mono ?_
        rintro e w3 ⟨rfl, k3⟩
        have K8 : Hid (Keeps (fun _ => False) wr w3) := Lib.hid (K3.out.trans k3)
        clear k3
        go_wp2
        go_roundw
        case rel => exact ⟨i + 1, m, A2, c2, by omega, rfl, by go_num, Lib.hid (by rw [HIS2.out]; exact HM.out), Lib.hid (by rw [HIS2.out]; exact K8.out.owns HO.out (fun _ _ => id)), Lib.hid (by rw [HSU2.out]; exact HTr.out.later K8.out), Lib.hid (HK.out.trans (K8.out.mono (fun _ _ h => h.elim)))⟩
        case measure => simp [intOf]; omega
    · obtain rfl : i = n := by omega
      have FIN := Lib.hid (And.intro HM.out (And.intro (own_base HO.out (show w.heap.size ≤ B by have := HB.out; have := HW1.out; omega)) (And.intro (show TabAt wr g b S' by rw [HTK.out]; exact HTr.out) ((K1.out.mono (fun _ _ h => h.elim)).trans HK.out))))
      go_wp2
      go_ret
      exact ⟨A2, m, c2, rfl, FIN.out.1, FIN.out.2.1, FIN.out.2.2.1, FIN.out.2.2.2⟩
end Go.Proofs.Ytdihkbkcefjeoaa
