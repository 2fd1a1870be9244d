/-
  A tick of the program's table.
-/
import Derived.Test.YthnpgiagajfaiaaFcW
namespace Go.Proofs.Ythnpgiagajfaiaa
open Go.RowKit Go.BigFrame
set_option linter.unusedVariables false
set_option linter.unusedSimpArgs false

theorem row_range {w : World} {b : Nat} {t : TypeId} {xs : List Value} (h : Row w b t xs) : w.rangeAt b 0 xs := fun j v hv => by
  rw [h.cell, Nat.zero_add]
  exact hv
structure LaterD (d : Nat) (w V : World) : Prop where
  out : Keeps (fun k => k = d) w V
theorem LaterD.lasts (d : Nat) (w0 : World) : Lasts (LaterD d w0) := fun w w' h hk => ⟨h.out.trans' hk (fun _ _ h => h.elim)⟩
theorem dice_lasts (d : Nat) (s : BitVec 64) : Lasts (fun V => DiceAt V d s) := fun w w' h hk => Row.keeps h hk id
set_option maxRecDepth 100000 in
set_option maxHeartbeats 8000000 in
theorem ftick_any (w : World) (F : Nat → Prop) (g : Nat) (t : Ft.Tb) (d : Nat) (s : BitVec 64) (h : FAt w F g t) (hlen : t.l.length ≤ 1000) (hdice : DiceAt w d s) (hFd : ¬ F d) :
    Calls Try.prog 16 #[.pointer (some ⟨g, 0, none⟩), .pointer (some ⟨d, 0, none⟩)] w fun e w' => ∃ A c A' c', e = .returned (.tuple #[.slice A (t.tk s).asks.length c, .slice A' (t.tk s).lost.length c']) ∧ FAt w' F g { t with l := (t.tk s).l } ∧ DiceAt w' d (t.tk s).s ∧
      w'.ownsRow w.heap.size 41 66 (.slice A (t.tk s).asks.length c) (t.tk s).asks.length (wfl (Ft.keys (t.tk s).asks)) ∧ w'.ownsRow w.heap.size 41 66 (.slice A' (t.tk s).lost.length c') (t.tk s).lost.length (wfl (Ft.keys (t.tk s).lost)) ∧
      Keeps (fun b => F b ∨ b = d) w w' := by
  have HOP := Lib.hid (fopen_any w F g t h hlen)
  obtain ⟨b, h⟩ := h
  have HF := Lib.hid h
  have HDI := Lib.hid (And.intro hdice hFd)
  obtain ⟨n, hn⟩ : ∃ n, t.l.length = n := ⟨_, rfl⟩
  rw [hn] at HOP hlen
  have HN := Lib.hid hn
  obtain ⟨ih, zh, hih, hzh, hsh, hbh, hzsh⟩ := info_W_in
  have HII := Lib.hid (And.intro hih (And.intro hzh (And.intro hsh (And.intro hbh hzsh))))
  clear hih hzh hsh hbh hzsh h hdice hFd hn
  go_enter Try.func16, Try.ntmps16
  go_wp2_with fail
  refine HOP.out.mono ?_
  rintro e w1 ⟨A, c, rfl, ho, k1⟩
  obtain ⟨B, hB⟩ : ∃ x, w1.heap.size = x := ⟨_, rfl⟩
  have hwB := k1.size
  have ht0 : Tki w1 F g b d B t (Ft.tick t.base t.most t.budget s (t.l.take 0)) (t.l.drop 0) (.slice A n c) (.slice none 0 0) (.slice none 0 0) := by
    have hf := HF.out.later k1
    have h1 := HF.out.glt
    have h2 := HF.out.map.lt
    have h3 := (Array.getElem?_eq_some_iff.1 HDI.out.1).1
    have hgd : g ≠ d := fun e => HDI.out.2 ((HF.out.own d).2 (.inl e.symm))
    have hbd : b ≠ d := fun e => HDI.out.2 ((HF.out.own d).2 (.inr e.symm))
    refine ⟨hf.row, ?_, Row.keeps HDI.out.1 k1 id, ⟨w.heap.size, by rw [HN.out]; exact ho, fun k hk => ?_⟩, World.ownsRow_nil _ _ _ _, World.ownsRow_nil _ _ _ _, fun k hk => (by cases hk), ⟨by omega, by omega, by omega, by omega, HF.out.ne.symm, hgd, hbd⟩⟩
    · simpa [Ft.tick] using hf.map
    · have := own_lt18 ho hk; omega
  have HT0 := Lib.hid ht0
  have K1 := Lib.hid k1
  have HWB : Hid (w.heap.size ≤ B) := Lib.hid (by omega)
  clear ht0 ho k1 hwB hB
  go_wp2_with fail
  go_loopw [6, 7, 9, 10, 14] (fun nv ov _ _ iv wr => ∃ (i : Nat) (A1 : Option Addr) (c1 : Nat) (A2 : Option Addr) (c2 m1 m2 : Nat), i ≤ n ∧ iv = .int .i64 (i : Int) ∧ nv = .slice A1 m1 c1 ∧ ov = .slice A2 m2 c2 ∧
    Hid (m1 = (Ft.tick t.base t.most t.budget s (t.l.take i)).asks.length ∧ m2 = (Ft.tick t.base t.most t.budget s (t.l.take i)).lost.length) ∧
    Hid (Tki wr F g b d B t (Ft.tick t.base t.most t.budget s (t.l.take i)) (t.l.drop i) (.slice A n c) (.slice A1 m1 c1) (.slice A2 m2 c2)) ∧ Hid (Keeps (fun k => k = b ∨ k = d) w wr)) (fun _ _ _ _ iv _ => n - (intOf iv).toNat)
  case atStart => exact ⟨0, none, 0, none, 0, 0, 0, by omega, rfl, rfl, rfl, Lib.hid ⟨rfl, rfl⟩, HT0, Lib.hid (K1.out.mono (fun _ _ h => h.elim))⟩
  case round =>
    obtain ⟨i, A1, c1, A2, c2, m1, m2, hi, rfl, rfl, rfl, HM, HT, HK⟩ := hrel
    by_cases hlt : i < n
    · have hii : (i : Int) < (n : Int) := by omega
      obtain ⟨q, hq⟩ : ∃ q, t.l[i]? = some q := ⟨_, List.getElem?_eq_getElem (by have := HN.out; omega)⟩
      obtain ⟨hqok, hqt, hqL, hqL2⟩ := HF.out.ok.fine q (List.mem_of_getElem? hq)
      obtain ⟨hil, hqe⟩ := List.getElem?_eq_some_iff.1 hq
      have hdrop : t.l.drop i = q :: t.l.drop (i + 1) := by rw [List.drop_eq_getElem_cons hil, hqe]
      have htake : Ft.tick t.base t.most t.budget s (t.l.take (i + 1)) = Ft.tk1 t.base t.most t.budget (Ft.tick t.base t.most t.budget s (t.l.take i)) q := by rw [List.take_succ_eq_append_getElem hil, hqe, Ft.tick_snoc]
      have hshort := Ft.tick_short t.base t.most t.budget s (t.l.take i)
      have hm1000 : m1 ≤ 1000 ∧ m2 ≤ 1000 := by
        have := HM.out
        rw [List.length_take] at hshort
        omega
      obtain ⟨hm1, hm2⟩ := hm1000
      have htk := HT.out
      rw [hdrop] at htk
      obtain ⟨TT, hTT⟩ : ∃ T, Ft.tick t.base t.most t.budget s (t.l.take i) = T := ⟨_, rfl⟩
      have HMT := Lib.hid HM.out
      rw [hTT] at htk htake HMT
      obtain ⟨B0, hl1, hl2⟩ := htk.lst
      rw [HN.out] at hl1
      obtain ⟨gA, rfl⟩ := own_some66 hl1 (by omega)
      have hkok : ∀ k ∈ Ft.keys t.l, Ft.Wn.Ok k := fun k hk => by obtain ⟨x, hx, rfl⟩ := List.mem_map.1 hk; exact (HF.out.ok.fine x hx).1
      have hrng : wr.rangeAt gA (i * 66) (wcs q.key) := own_w hl1 hkok (show (Ft.keys t.l)[i]? = some q.key by unfold Ft.keys; rw [List.getElem?_map, hq]; rfl)
      obtain ⟨KL, hKL⟩ : ∃ K, wcs q.key = K := ⟨_, rfl⟩
      have hkl66 : KL.length = 66 := by rw [← hKL]; exact wcs_length hqok
      have HSX : Hid ((Try.prog.info? 41).map (·.size) = some KL.length) := Lib.hid (by rw [hkl66]; exact info_want)
      have HSA : Hid ((Try.prog.info? 41).map (·.size) = some KL.toArray.size) := Lib.hid (by rw [List.size_toArray, hkl66]; exact info_want)
      have HZX : Hid (Try.zeroCells41.size = KL.toArray.size) := Lib.hid (by rw [zeroc_want, List.size_toArray, hkl66])
      have HKL : Hid ((∀ u ∈ KL, u.oneCell' = true) ∧ KL.length = 66) := Lib.hid ⟨by rw [← hKL]; exact wcs_one _, hkl66⟩
      have HOX : Hid (KL.toArray.all (·.oneCell') = true) := Lib.hid (by rw [List.all_toArray]; exact List.all_eq_true.2 HKL.out.1)
      have HQK := Lib.hid (And.intro hKL hqok)
      rw [hKL] at hrng
      have HRG := Lib.hid hrng
      obtain ⟨Y1, hY1⟩ : ∃ y, wr.heap.size = y := ⟨_, rfl⟩
      obtain ⟨W3, hW3⟩ : ∃ V, wr.alloc (.cells Try.zeroCells41 41) = V := ⟨_, rfl⟩
      have hr3 : W3.heap[Y1]? = some (.cells Try.zeroCells41 41 (0, 0)) := by rw [← hW3, ← hY1]; exact heap_alloc_new wr _
      obtain ⟨W4, hW4⟩ : ∃ V, W3.setRow Y1 KL.toArray = V := ⟨_, rfl⟩
      have hr4 : Row W4 Y1 41 KL := by rw [← hW4]; exact setRow_heap _ _ _ _ _ _ hr3
      have k34 : Keeps (fun _ => False) wr W4 := by
        have k3 : Keeps (fun _ => False) wr W3 := by rw [← hW3]; exact (Keeps.refl _ _).alloc _
        have k4 : Keeps (fun k => k = Y1) W3 W4 := by rw [← hW4]; exact Keeps.setRow _ _
        exact k3.trans' k4 (fun i hi e => by omega)
      have ht4 := htk.later k34
      have hqm : q ∈ TT.l ++ q :: t.l.drop (i + 1) := by simp
      have HM0 : Hid (∀ V, Later W4 V → V.cell? ⟨g, 0, none⟩ = some (.map (some b))) := Lib.hid (fun V hV => (ht4.row.keeps hV.out id).cell 0)
      have HKX : Hid (∀ V, Later W4 V → V.rangeAt Y1 0 KL) := Lib.hid (fun V hV => by
        have h3 := Row.keeps hr4 hV.out id
        rw [← hKL] at h3 ⊢
        exact want_range h3)
      obtain ⟨SV, hSV⟩ : ∃ S, scs q = S := ⟨_, rfl⟩
      have HLKR : Hid (∀ V, Later W4 V → (Instr.lookup 63 (.map (some b)) (.agg KL.toArray) false).run Try.prog V = .ok (.agg SV) V) := Lib.hid (fun V hV => by
        rw [← hKL, ← hSV]
        exact (ht4.map.keeps hV.out id).look_in q hqm hqok false)
      have HSZ : Hid (SV.size = 2) := Lib.hid (by rw [← hSV]; rfl)
      have HSO : Hid (SV.all (·.oneCell') = true) := Lib.hid (by rw [← hSV]; simp [scs, Value.oneCell'])
      have HSS : Hid ((Try.prog.info? 69).map (·.size) = some SV.size) := Lib.hid (by rw [HSZ.out]; exact info_state)
      have HR3 := Lib.hid hr3
      have HR4 := Lib.hid hr4
      have HT4 := Lib.hid ht4
      have HK4 : Hid (Keeps (fun k => k = b ∨ k = d) w W4) := Lib.hid (HK.out.trans (k34.mono (fun _ _ h => h.elim)))
      have HTAKE := Lib.hid htake
      have HQ := Lib.hid (And.intro hqok (And.intro hqt (And.intro hqL (And.intro hqL2 hSV))))
      have HY1B : Hid (B ≤ Y1) := Lib.hid (by have := htk.low; omega)
      have HY14 : Hid (Y1 < W4.heap.size) := Lib.hid ((Array.getElem?_eq_some_iff.1 hr4).1)
      clear hr3 hr4 ht4 k34 htake hrng hKL hkl66 hl1 hl2 htk hdrop hq hqe hil hqok hqt hqL hqL2 hshort hqm hSV hkok hTT
      go_wp2_with (first
        | (refine wpList_load_mid_w17 (by rfl) 41 _ (by rfl) gA (i * 66) (by rfl) KL _ HRG.out Try.underlying41 rfl HSX.out ?_)
        | (refine wpList_store_row rfl 41 _ _ rfl Y1 KL.toArray rfl rfl 41 Try.zeroCells41 HR3.out HSA.out HZX.out HOX.out ?_; rw [hW4])
        | fail)
      refine wp_region_stores 8 [6, 7] [0, 1, 2, 3, 4, 5, 6, 7] (Later W4) (fun _ => True) (by kernel_rfl) (by kernel_rfl) (Lasts.later W4) (Lasts.true) (⟨(Keeps.refl _ _).drew⟩) (trivial) ?_
      refine T_value (get_op rfl) (by rfl) (by rfl) (.pointer (some ⟨g, 0, none⟩)) (fun _ _ => by go_simp) ?_
      simp only [Act.put, List.setIfInBounds_toArray, List.set_cons_zero, List.set_cons_succ]
      refine T_value (get_op rfl) (by rfl) (by rfl) (.pointer (some ⟨g, 0, none⟩)) (fun _ _ => by go_simp) ?_
      simp only [Act.put, List.setIfInBounds_toArray, List.set_cons_zero, List.set_cons_succ]
      refine T_value (get_op rfl) (by rfl) (by rfl) (.pointer (some ⟨g, 0, none⟩)) (fun _ _ => by go_simp) ?_
      simp only [Act.put, List.setIfInBounds_toArray, List.set_cons_zero, List.set_cons_succ]
      refine T_cell (get_op rfl) (by rfl) (by rfl) 63 (.tmp 20) (by rfl) ⟨g, 0, none⟩ (by rfl) (.map (some b)) _ (fun V hV => HM0.out V hV) Try.underlying63 rfl ?_
      simp only [Act.put, List.setIfInBounds_toArray, List.set_cons_zero, List.set_cons_succ]
      refine T_load (get_op rfl) (by rfl) (by rfl) 41 (.tmp 9) (by rfl) Y1 0 (by rfl) KL _ (fun V hV => HKX.out V hV) Try.underlying41 rfl HSX.out ?_
      simp only [Act.put, List.setIfInBounds_toArray, List.set_cons_zero, List.set_cons_succ]
      refine T_value (get_op rfl) (by rfl) (by rfl) (.agg SV) (fun V hV => exec_wlook _ _ _ false (by rfl) V _ _ _ (by rfl) (by rfl) (HLKR.out V hV)) ?_
      simp only [Act.put, List.setIfInBounds_toArray, List.set_cons_zero, List.set_cons_succ]
      refine T_alloc (get_op rfl) (by rfl) (by rfl) 69 #[.int .i64 0, .int .i64 0] (by rfl) (fun V => alloc_state V) (Lasts.later W4) Lasts.true W4.heap.size (fun V hV => hV.out.size) ?_
      intro Y2 hY2
      simp only [Act.put, List.setIfInBounds_toArray, List.set_cons_zero, List.set_cons_succ]
      refine T_store (get_op rfl) (by rfl) (by rfl) 69 _ _ (by rfl) (by rfl) Y2 (by rfl) SV #[.int .i64 0, .int .i64 0] (by rfl) 69 HSS.out (by rw [HSZ.out]; rfl) HSO.out (fun V => V.heap[Y2]? = some (.cells SV 69 (0, 0))) (Lasts.block Y2 _) (fun V hV hf => ⟨hf.2, ⟨hV.out.trans' (Keeps.setRow Y2 SV) (fun i hi e => by omega)⟩, setRow_heap _ _ _ _ _ _ hf.2⟩) ?_
      refine T_nil ?_
      intro V5 hV5 hf5
      simp only [List.drop_succ_cons, List.drop_zero]
      have hsv2 : SV = #[.int .i64 (q.tries : Int), .int .i64 q.left] := by rw [← HQ.out.2.2.2.2]; rfl
      obtain ⟨tr, htr⟩ : ∃ x : Int, (q.tries : Int) = x := ⟨_, rfl⟩
      obtain ⟨L, hL⟩ : ∃ x : Int, q.left = x := ⟨_, rfl⟩
      obtain ⟨bud, hbud⟩ : ∃ x : Int, (t.budget : Int) = x := ⟨_, rfl⟩
      rw [htr, hL] at hsv2
      have hL1 : 1 ≤ L := by rw [← hL]; exact HQ.out.2.2.1
      have hL2 : L ≤ 1100 := by rw [← hL]; exact HQ.out.2.2.2.1
      have htr0 : 0 ≤ tr := by omega
      have htr20 : tr ≤ 20 := by have := HQ.out.2.1; have := HF.out.ok.inn.2.2.2; omega
      have r5 : Row V5 Y2 69 [.int .i64 tr, .int .i64 L] := by rw [hsv2] at hf5; exact hf5
      have c51 : V5.cell? ⟨Y2, 1, none⟩ = some (.int .i64 L) := r5.cell 1
      have f51 : V5.frozen? ⟨Y2, 1, none⟩ = false := r5.frozen 1
      obtain ⟨W6, hW6⟩ : ∃ V, V5.setCell ⟨Y2, 1, none⟩ (.int .i64 (L - 1)) = V := ⟨_, rfl⟩
      have r6 : Row W6 Y2 69 [.int .i64 tr, .int .i64 (L - 1)] := by rw [← hW6]; exact r5.set 1 _
      have k56 : Keeps (fun k => k = Y2) V5 W6 := by rw [← hW6]; exact (Keeps.refl (fun k => k = Y2) V5).setCell (p := ⟨Y2, 1, none⟩) (fun _ => rfl) _
      have hnew := HT4.out.new hY2
      have t6 : Tki W6 F g b d B t TT (q :: t.l.drop (i + 1)) (.slice (some ⟨gA, 0, none⟩) n c) (.slice A1 m1 c1) (.slice A2 m2 c2) := (HT4.out.later hV5.out).keeps k56 (fun j hj => by rw [hj]; exact hnew)
      have rk6 : Row W6 Y1 41 KL := (Row.keeps HR4.out hV5.out id).keeps k56 (fun e => by have := HY14.out; omega)
      have kw6 : Keeps (fun k => k = b ∨ k = d) w W6 := (HK4.out.trans (hV5.out.mono (fun _ _ h => h.elim))).trans' (T := fun k => k = Y2) k56 (fun i hi e => by have := HK4.out.size; omega)
      have c61 : W6.cell? ⟨Y2, 1, none⟩ = some (.int .i64 (L - 1)) := r6.cell 1
      have HM6 : Hid (∀ V, Later W6 V → V.cell? ⟨g, 0, none⟩ = some (.map (some b))) := Lib.hid (fun V hV => (t6.row.keeps hV.out id).cell 0)
      have HB6 : Hid (∀ V, Later W6 V → V.cell? ⟨g, 3, none⟩ = some (.int .i64 bud)) := Lib.hid (fun V hV => by rw [← hbud]; exact (t6.row.keeps hV.out id).cell 3)
      have HT6 : Hid (∀ V, Later W6 V → V.cell? ⟨Y2, 0, none⟩ = some (.int .i64 tr)) := Lib.hid (fun V hV => (r6.keeps hV.out id).cell 0)
      have HS6 : Hid (∀ V, Later W6 V → V.rangeAt Y2 0 [.int .i64 tr, .int .i64 (L - 1)]) := Lib.hid (fun V hV => row_range (r6.keeps hV.out id))
      have HK6 : Hid (∀ V, Later W6 V → V.rangeAt Y1 0 KL) := Lib.hid (fun V hV => row_range (rk6.keeps hV.out id))
      have HTK6 := Lib.hid t6
      have HRK6 := Lib.hid rk6
      have HR6 := Lib.hid r6
      have HKW6 := Lib.hid kw6
      have HY12 : Hid (Y1 ≠ Y2) := Lib.hid (by have := HY14.out; omega)
      have HY26 : Hid (Y2 < W6.heap.size) := Lib.hid ((Array.getElem?_eq_some_iff.1 r6).1)
      have HLT := Lib.hid (And.intro htr (And.intro hL hbud))
      clear r5 r6 k56 hnew t6 rk6 kw6 hsv2 hf5 htr hL hbud hV5
      by_cases hA : 1 < L
      · have hd : 0 < L - 1 := by omega
        have htk1 : Ft.tk1 t.base t.most t.budget TT q = { TT with l := TT.l ++ [{ q with left := q.left - 1 }] } := by
          unfold Ft.tk1 Ft.say
          rw [if_pos (by rw [HLT.out.2.1]; omega)]
        have HTK1 := Lib.hid htk1
        clear htk1
        go_wp2_with fail
        refine wp_region_phase 6 (Later W6) (by kernel_rfl) (by kernel_rfl) (⟨(Keeps.refl _ _).drew⟩) ?_
        simp only [List.take_succ_cons, List.take_zero, List.drop_succ_cons, List.drop_zero]
        refine class_value (by rfl) (.pointer (some ⟨g, 0, none⟩)) (fun V hV => by go_simp) ?_
        simp only [Act.put, List.setIfInBounds_toArray, List.set_cons_zero, List.set_cons_succ]
        refine class_value (by rfl) (.pointer (some ⟨g, 0, none⟩)) (fun V hV => by go_simp) ?_
        simp only [Act.put, List.setIfInBounds_toArray, List.set_cons_zero, List.set_cons_succ]
        refine class_value (by rfl) (.pointer (some ⟨g, 0, none⟩)) (fun V hV => by go_simp) ?_
        simp only [Act.put, List.setIfInBounds_toArray, List.set_cons_zero, List.set_cons_succ]
        refine class_cell (by rfl) 63 (.tmp 33) (by rfl) ⟨g, 0, none⟩ (by rfl) (.map (some b)) _ (fun V hV => HM6.out V hV) Try.underlying63 rfl ?_
        simp only [Act.put, List.setIfInBounds_toArray, List.set_cons_zero, List.set_cons_succ]
        refine class_mid (by rfl) 41 (.tmp 9) (by rfl) Y1 0 (by rfl) KL _ (fun V hV => HK6.out V hV) Try.underlying41 rfl HSX.out ?_
        simp only [Act.put, List.setIfInBounds_toArray, List.set_cons_zero, List.set_cons_succ]
        refine class_mid (by rfl) 69 (.tmp 10) (by rfl) Y2 0 (by rfl) [.int .i64 tr, .int .i64 (L - 1)] _ (fun V hV => HS6.out V hV) Try.underlying69 rfl info_state ?_
        simp only [Act.put, List.setIfInBounds_toArray, List.set_cons_zero, List.set_cons_succ]
        refine wpQuiet_nil ?_
        intro V8 hV8
        have t8 := HTK6.out.later hV8.out
        have hm8 := t8.map
        have hdm := done_mid hm8.dis
        refine wpList_wstore (by rfl) _ _ _ (by rfl) b (TT.l ++ q :: t.l.drop (i + 1)) { q with left := q.left - 1 } HQ.out.1 (by rfl) KL.toArray #[.int .i64 tr, .int .i64 (L - 1)] (by rfl) (by rfl) (by show (wcs q.key).toArray = _; rw [HQK.out.1]) (by unfold scs; rw [← HLT.out.1, ← HLT.out.2.1]) hm8 ?_
        intro w7 hm7 hk7
        have hm7' : WMap w7 b ((TT.l ++ [{ q with left := q.left - 1 }]) ++ t.l.drop (i + 1)) := by
          refine hm7.to ?_
          show (Ft.Q.mk q.key q.tries (q.left - 1) :: Ft.done (TT.l ++ q :: t.l.drop (i + 1)) q.key).Perm _
          rw [hdm, List.append_assoc]
          exact List.perm_middle.symm
        have HTN : Hid (Tki w7 F g b d B t (Ft.tick t.base t.most t.budget s (t.l.take (i + 1))) (t.l.drop (i + 1)) (.slice (some ⟨gA, 0, none⟩) n c) (.slice A1 m1 c1) (.slice A2 m2 c2)) := Lib.hid (by
          rw [HTAKE.out, HTK1.out]
          exact t8.put (T' := { TT with l := TT.l ++ [{ q with left := q.left - 1 }] }) hk7 hm7' rfl rfl rfl)
        have HMN : Hid (m1 = (Ft.tick t.base t.most t.budget s (t.l.take (i + 1))).asks.length ∧ m2 = (Ft.tick t.base t.most t.budget s (t.l.take (i + 1))).lost.length) := Lib.hid (by rw [HTAKE.out, HTK1.out]; exact HMT.out)
        have HKN : Hid (Keeps (fun k => k = b ∨ k = d) w w7) := Lib.hid ((HKW6.out.trans (hV8.out.mono (fun _ _ h => h.elim))).trans (hk7.mono (fun _ _ h => .inl h)))
        clear t8 hm8 hdm hm7 hk7 hm7' hV8
        go_wp2
        go_roundw
        case rel => exact ⟨i + 1, A1, c1, A2, c2, m1, m2, by omega, by go_num, rfl, rfl, HMN, HTN, HKN⟩
        case measure => simp [intOf]; omega
      · have hd : ¬ 0 < L - 1 := by omega
        by_cases hC : q.tries = t.budget
        · have hge : bud ≤ tr := by have := HLT.out.1; have := HLT.out.2.2; omega
          have htk1 : Ft.tk1 t.base t.most t.budget TT q = { TT with lost := TT.lost ++ [{ q with left := q.left - 1 }] } := by
            unfold Ft.tk1 Ft.say
            rw [if_neg (by rw [HLT.out.2.1]; omega), if_pos hC]
          have HTK1 := Lib.hid htk1
          clear htk1 hC
          go_wp2_with fail
          refine wp_region_class (Later W6) (by kernel_rfl) (by kernel_rfl) (⟨(Keeps.refl _ _).drew⟩) ?_
          refine class_value (by rfl) (.pointer (some ⟨Y2, 0, none⟩)) (fun V hV => by go_simp) ?_
          simp only [Act.put, List.setIfInBounds_toArray, List.set_cons_zero, List.set_cons_succ]
          refine class_cell (by rfl) 3 (.tmp 37) (by rfl) ⟨Y2, 0, none⟩ (by rfl) (.int .i64 tr) _ (fun V hV => HT6.out V hV) Try.underlying3 rfl ?_
          simp only [Act.put, List.setIfInBounds_toArray, List.set_cons_zero, List.set_cons_succ]
          refine class_value (by rfl) (.pointer (some ⟨g, 0, none⟩)) (fun V hV => by go_simp) ?_
          simp only [Act.put, List.setIfInBounds_toArray, List.set_cons_zero, List.set_cons_succ]
          refine class_value (by rfl) (.pointer (some ⟨g, 0, none⟩)) (fun V hV => by go_simp) ?_
          simp only [Act.put, List.setIfInBounds_toArray, List.set_cons_zero, List.set_cons_succ]
          refine class_value (by rfl) (.pointer (some ⟨g, 3, none⟩)) (fun V hV => by go_simp) ?_
          simp only [Act.put, List.setIfInBounds_toArray, List.set_cons_zero, List.set_cons_succ]
          refine class_cell (by rfl) 3 (.tmp 41) (by rfl) ⟨g, 3, none⟩ (by rfl) (.int .i64 bud) _ (fun V hV => HB6.out V hV) Try.underlying3 rfl ?_
          simp only [Act.put, List.setIfInBounds_toArray, List.set_cons_zero, List.set_cons_succ]
          refine class_value (by rfl) (.bool true) (fun V hV => by go_simp) ?_
          simp only [Act.put, List.setIfInBounds_toArray, List.set_cons_zero, List.set_cons_succ]
          refine wpQuiet_nil ?_
          intro W9 hV9
          have t9 := HTK6.out.later hV9.out
          have rk9 := HRK6.out.keeps hV9.out id
          have HM9 : Hid (∀ V, Later W9 V → V.cell? ⟨g, 0, none⟩ = some (.map (some b))) := Lib.hid (fun V hV => (t9.row.keeps hV.out id).cell 0)
          have HK9 : Hid (∀ V, Later W9 V → V.rangeAt Y1 0 KL) := Lib.hid (fun V hV => row_range (rk9.keeps hV.out id))
          have HTK9 := Lib.hid t9
          have HRK9 := Lib.hid rk9
          have HKW9 : Hid (Keeps (fun k => k = b ∨ k = d) w W9) := Lib.hid (HKW6.out.trans (hV9.out.mono (fun _ _ h => h.elim)))
          clear t9 rk9 hV9
          go_wp2_with fail
          refine wp_region_phase 5 (Later W9) (by kernel_rfl) (by kernel_rfl) (⟨(Keeps.refl _ _).drew⟩) ?_
          simp only [List.take_succ_cons, List.take_zero, List.drop_succ_cons, List.drop_zero]
          refine class_value (by rfl) (.pointer (some ⟨g, 0, none⟩)) (fun V hV => by go_simp) ?_
          simp only [Act.put, List.setIfInBounds_toArray, List.set_cons_zero, List.set_cons_succ]
          refine class_value (by rfl) (.pointer (some ⟨g, 0, none⟩)) (fun V hV => by go_simp) ?_
          simp only [Act.put, List.setIfInBounds_toArray, List.set_cons_zero, List.set_cons_succ]
          refine class_value (by rfl) (.pointer (some ⟨g, 0, none⟩)) (fun V hV => by go_simp) ?_
          simp only [Act.put, List.setIfInBounds_toArray, List.set_cons_zero, List.set_cons_succ]
          refine class_cell (by rfl) 63 (.tmp 46) (by rfl) ⟨g, 0, none⟩ (by rfl) (.map (some b)) _ (fun V hV => HM9.out V hV) Try.underlying63 rfl ?_
          simp only [Act.put, List.setIfInBounds_toArray, List.set_cons_zero, List.set_cons_succ]
          refine class_mid (by rfl) 41 (.tmp 9) (by rfl) Y1 0 (by rfl) KL _ (fun V hV => HK9.out V hV) Try.underlying41 rfl HSX.out ?_
          simp only [Act.put, List.setIfInBounds_toArray, List.set_cons_zero, List.set_cons_succ]
          refine wpQuiet_nil ?_
          intro V10 hV10
          have t10 := HTK9.out.later hV10.out
          have hdm := done_mid t10.map.dis
          refine wpList_wdrop (by rfl) _ _ (by rfl) b (TT.l ++ q :: t.l.drop (i + 1)) q.key HQ.out.1 (by rfl) KL.toArray (by rfl) (by rw [HQK.out.1]) t10.map ?_
          intro w10 hm10 hk10
          rw [hdm] at hm10
          have tw : Tki w10 F g b d B t TT (t.l.drop (i + 1)) (.slice (some ⟨gA, 0, none⟩) n c) (.slice A1 m1 c1) (.slice A2 m2 c2) := t10.put hk10 hm10 rfl rfl rfl
          have rk10 : Row w10 Y1 41 KL := (HRK9.out.keeps hV10.out id).keeps hk10 (fun e => by have := HTK9.out.low; have := HY1B.out; omega)
          have kw10 : Keeps (fun k => k = b ∨ k = d) w w10 := (HKW9.out.trans (hV10.out.mono (fun _ _ h => h.elim))).trans (hk10.mono (fun _ _ h => .inl h))
          obtain ⟨Y3, hY3⟩ : ∃ y, w10.heap.size = y := ⟨_, rfl⟩
          obtain ⟨V11, hV11⟩ : ∃ V, w10.alloc (.cells KL.toArray 41) = V := ⟨_, rfl⟩
          have hbw := build_Wc1 q.key HQK.out.2 w10
          rw [HQK.out.1, hV11, hY3] at hbw
          have k11 : Keeps (fun _ => False) w10 V11 := by rw [← hV11]; exact (Keeps.refl _ _).alloc _
          have t11 := tw.later k11
          have hro := t11.ro
          rw [← HMT.out.2] at hro
          have HRO := Lib.hid hro
          have HT11 := Lib.hid t11
          have HBW := Lib.hid hbw
          have HN1 : Hid (V11.heap[Y3]? = some (.cells KL.toArray 41 (0, 0))) := Lib.hid (by rw [← hV11, ← hY3]; exact heap_alloc_new w10 _)
          have HBV : Hid (B ≤ V11.heap.size) := Lib.hid t11.low.1
          have RK10 : Hid (w10.heap[Y1]? = some (.cells KL.toArray 41 (0, 0))) := Lib.hid rk10
          have KW11 : Hid (Keeps (fun k => k = b ∨ k = d) w V11) := Lib.hid (kw10.trans (k11.mono (fun _ _ h => h.elim)))
          clear t10 hdm hm10 hk10 tw rk10 kw10 hbw k11 t11 hro hV11 hY3 hV10
          go_wp2_with (first
            | (refine wpList_load_row rfl 41 _ rfl Y1 rfl 41 KL.toArray (0, 0) _ RK10.out Try.underlying41 rfl HSA.out ?_)
            | (refine wpList_build1_18 (by rfl) 47 1 0 _ (by rfl) _ _ (by rfl) HBW.out ?_)
            | (refine wpList_append_own_at _ (by rfl) _ _ 47 (by rfl) B 41 ih zh 66 80 Try.underlying47 HII.out.1 HII.out.2.1 HII.out.2.2.1 HII.out.2.2.2.1 HII.out.2.2.2.2 (by decide) (.slice A2 m2 c2) m2 (wfl (Ft.keys TT.lost)) (by rfl) HRO.out ⟨Y3, 0, none⟩ 1 1 KL (by rfl) (by rw [HKL.out.2]) (World.news_of_block HN1.out) HKL.out.1 (by unfold maxLen; omega) (by omega) HBV.out ?_; intro v3 V3 ho3 hg3 hnil3 hob3; have HO3 := Lib.hid ho3; have HG3 := Lib.hid (And.intro hg3 hob3); obtain ⟨A3, c3, rfl⟩ := own_slice ho3; clear ho3 hg3 hnil3 hob3)
            | fail)
          have HTN : Hid (Tki V3 F g b d B t (Ft.tick t.base t.most t.budget s (t.l.take (i + 1))) (t.l.drop (i + 1)) (.slice (some ⟨gA, 0, none⟩) n c) (.slice A1 m1 c1) (.slice A3 (m2 + 1) c3)) := Lib.hid (by
            rw [HTAKE.out, HTK1.out]
            exact HT11.out.pushO (q := { q with left := q.left - 1 }) (by rw [← HMT.out.2]; show V3.ownsRow _ _ _ _ _ (_ ++ wcs q.key); rw [HQK.out.1]; exact HO3.out) HG3.out.1 HG3.out.2)
          have HMN : Hid (m1 = (Ft.tick t.base t.most t.budget s (t.l.take (i + 1))).asks.length ∧ m2 + 1 = (Ft.tick t.base t.most t.budget s (t.l.take (i + 1))).lost.length) := Lib.hid (by rw [HTAKE.out, HTK1.out]; exact ⟨HMT.out.1, by show _ = (TT.lost ++ [_]).length; rw [List.length_append, ← HMT.out.2]; rfl⟩)
          have HKN : Hid (Keeps (fun k => k = b ∨ k = d) w V3) := Lib.hid (KW11.out.trans' (T := fun k => (Value.slice A2 m2 c2).ownBlock = some k) ((Keeps.refl _ _).grown HG3.out.1 (fun _ _ h => h)) (fun k hk e => by have := (own_lt18 HRO.out e).1; have := HWB.out; omega))
          clear HO3 HG3
          go_roundw
          case rel => exact ⟨i + 1, A1, c1, A3, c3, m1, m2 + 1, by omega, by go_num, rfl, by go_num, HMN, HTN, HKN⟩
          case measure => simp [intOf]; omega
        · have hge : ¬ bud ≤ tr := by have := HLT.out.1; have := HLT.out.2.2; have := HQ.out.2.1; omega
          obtain ⟨q2, hq2⟩ : ∃ x : Ft.Q, ({ q with tries := q.tries + 1, left := (Ft.wait t.base t.most q.tries : Int) + ((Di.bel TT.s t.base).2 : Int) } : Ft.Q) = x := ⟨_, rfl⟩
          obtain ⟨s0, hs0⟩ : ∃ x, TT.s = x := ⟨_, rfl⟩
          obtain ⟨s1, hs1⟩ : ∃ x, (Di.bel TT.s t.base).1 = x := ⟨_, rfl⟩
          have htk1 : Ft.tk1 t.base t.most t.budget TT q = ⟨TT.l ++ [q2], s1, TT.asks ++ [q2], TT.lost⟩ := by
            unfold Ft.tk1 Ft.say
            rw [if_neg (by rw [HLT.out.2.1]; omega), if_neg hC, ← hq2, ← hs1]
          have HTK1 := Lib.hid htk1
          clear htk1
          obtain ⟨WT, hWT⟩ : ∃ x : Int, (Ft.wait t.base t.most q.tries : Int) = x := ⟨_, rfl⟩
          obtain ⟨DR, hDR⟩ : ∃ x : Int, ((Di.bel TT.s t.base).2 : Int) = x := ⟨_, rfl⟩
          obtain ⟨BS, hBS⟩ : ∃ x : Int, (t.base : Int) = x := ⟨_, rfl⟩
          have hin := HF.out.ok.inn
          have hWT0 : 0 ≤ WT := by omega
          have hWT1 : WT ≤ 1000 := by
            rw [← hWT]
            have : Ft.wait t.base t.most q.tries ≤ t.most := Nat.min_le_right _ _
            have := hin.2.1.2
            omega
          have hDR0 : 0 ≤ DR := by omega
          have hDR1 : DR ≤ 100 := by
            have := Di.bel_lt TT.s (t.base : Int) (by have := hin.1.1; omega)
            have := hin.1.2
            omega
          have HWA : Hid (IntKind.i64.wrap (tr + 1) = tr + 1) := Lib.hid (by simp [IntKind.wrap, IntKind.bits, IntKind.signed]; omega)
          have HWC : Hid (IntKind.i64.wrap (WT + DR) = WT + DR) := Lib.hid (by simp [IntKind.wrap, IntKind.bits, IntKind.signed]; omega)
          have hscs : scs q2 = #[.int .i64 (tr + 1), .int .i64 (WT + DR)] := by
            rw [← hq2]
            unfold scs
            show #[Value.int .i64 ((q.tries + 1 : Nat) : Int), Value.int .i64 ((Ft.wait t.base t.most q.tries : Int) + ((Di.bel TT.s t.base).2 : Int))] = _
            rw [hWT, hDR, ← HLT.out.1]
            simp
          have hq2k : q2.key = q.key := by rw [← hq2]
          have hq2o : Ft.Q.Ok q2 := by unfold Ft.Q.Ok; rw [hq2k]; exact HQ.out.1
          have HSCS := Lib.hid (And.intro hscs (And.intro hq2k hq2o))
          have HIN := Lib.hid (And.intro hin (And.intro hWT (And.intro hDR (And.intro hBS (And.intro hs0 hs1)))))
          have HTR20 : Hid (q.tries ≤ 20) := Lib.hid (by have := HQ.out.2.1; have := hin.2.2.2; omega)
          clear hC hq2 hscs hq2k hq2o hin hWT hDR hBS hs1
          go_wp2_with fail
          refine wp_region_class (Later W6) (by kernel_rfl) (by kernel_rfl) (⟨(Keeps.refl _ _).drew⟩) ?_
          refine class_value (by rfl) (.pointer (some ⟨Y2, 0, none⟩)) (fun V hV => by go_simp) ?_
          simp only [Act.put, List.setIfInBounds_toArray, List.set_cons_zero, List.set_cons_succ]
          refine class_cell (by rfl) 3 (.tmp 37) (by rfl) ⟨Y2, 0, none⟩ (by rfl) (.int .i64 tr) _ (fun V hV => HT6.out V hV) Try.underlying3 rfl ?_
          simp only [Act.put, List.setIfInBounds_toArray, List.set_cons_zero, List.set_cons_succ]
          refine class_value (by rfl) (.pointer (some ⟨g, 0, none⟩)) (fun V hV => by go_simp) ?_
          simp only [Act.put, List.setIfInBounds_toArray, List.set_cons_zero, List.set_cons_succ]
          refine class_value (by rfl) (.pointer (some ⟨g, 0, none⟩)) (fun V hV => by go_simp) ?_
          simp only [Act.put, List.setIfInBounds_toArray, List.set_cons_zero, List.set_cons_succ]
          refine class_value (by rfl) (.pointer (some ⟨g, 3, none⟩)) (fun V hV => by go_simp) ?_
          simp only [Act.put, List.setIfInBounds_toArray, List.set_cons_zero, List.set_cons_succ]
          refine class_cell (by rfl) 3 (.tmp 41) (by rfl) ⟨g, 3, none⟩ (by rfl) (.int .i64 bud) _ (fun V hV => HB6.out V hV) Try.underlying3 rfl ?_
          simp only [Act.put, List.setIfInBounds_toArray, List.set_cons_zero, List.set_cons_succ]
          refine class_value (by rfl) (.bool false) (fun V hV => by go_simp) ?_
          simp only [Act.put, List.setIfInBounds_toArray, List.set_cons_zero, List.set_cons_succ]
          refine wpQuiet_nil ?_
          intro W9 hV9
          have t9 := HTK6.out.later hV9.out
          have rk9 := HRK6.out.keeps hV9.out id
          have r9 := HR6.out.keeps hV9.out id
          have hlow := t9.low
          have HMD : Hid (∀ V, LaterD d W9 V → V.cell? ⟨g, 0, none⟩ = some (.map (some b))) := Lib.hid (fun V hV => (t9.row.keeps hV.out (fun e => by omega)).cell 0)
          have HBD : Hid (∀ V, LaterD d W9 V → V.cell? ⟨g, 1, none⟩ = some (.int .i64 BS)) := Lib.hid (fun V hV => by rw [← HIN.out.2.2.2.1]; exact (t9.row.keeps hV.out (fun e => by omega)).cell 1)
          have HTD : Hid (∀ V, LaterD d W9 V → V.cell? ⟨Y2, 0, none⟩ = some (.int .i64 tr)) := Lib.hid (fun V hV => (r9.keeps hV.out (fun e => by have := HY1B.out; have := HY14.out; omega)).cell 0)
          have HKD : Hid (∀ V, LaterD d W9 V → V.rangeAt Y1 0 KL) := Lib.hid (fun V hV => row_range (rk9.keeps hV.out (fun e => by have := HY1B.out; omega)))
          have HD9 : Hid (DiceAt W9 d s0) := Lib.hid (by rw [← hs0]; exact t9.dice)
          have HWD : Hid (∀ V, LaterD d W9 V → Calls Try.prog 24 #[.pointer (some ⟨g, 0, none⟩), .int .i64 tr] V fun e w' => e = .returned (.int .i64 WT) ∧ Keeps (fun _ => False) V w') := Lib.hid (fun V hV => by
            rw [← HLT.out.1, ← HIN.out.2.1]
            exact wait_any V g b t q.tries (t9.row.keeps hV.out (fun e => by omega)) HIN.out.1 HTR20.out)
          have HBE : Hid (∀ V, LaterD d W9 V → DiceAt V d s0 → Calls Try.prog 25 #[.pointer (some ⟨d, 0, none⟩), .int .i64 BS] V fun e w' => e = .returned (.int .i64 DR) ∧ LaterD d W9 w' ∧ DiceAt w' d s1) := Lib.hid (fun V hV hf => by
            have hb := below_any V d s0 (t.base : Int) hf (by
              have := HIN.out.1.1
              have h1 : IntKind.i64.min = -9223372036854775808 := by decide
              have h2 : IntKind.i64.max = 9223372036854775807 := by decide
              show (decide (IntKind.i64.min ≤ (t.base : Int)) && decide ((t.base : Int) ≤ IntKind.i64.max)) = true
              rw [h1, h2]
              simp
              omega)
            rw [← HIN.out.2.2.2.1, ← HIN.out.2.2.1, ← HIN.out.2.2.2.2.2, hs0]
            exact hb.mono (fun e w' h => ⟨h.1, ⟨hV.out.trans h.2.2⟩, h.2.1⟩))
          have HTK9 := Lib.hid t9
          have HRK9 := Lib.hid rk9
          have HKW9 : Hid (Keeps (fun k => k = b ∨ k = d) w W9) := Lib.hid (HKW6.out.trans (hV9.out.mono (fun _ _ h => h.elim)))
          clear t9 rk9 r9 hlow hV9 hs0
          go_wp2_with fail
          refine wp_region_stores 20 [17] [0, 1, 2, 3, 4, 5, 6, 7, 8, 9, 10, 11, 12, 13, 14, 15, 16, 17, 18, 19] (LaterD d W9) (fun V => DiceAt V d s0) (by kernel_rfl) (by kernel_rfl) (LaterD.lasts d W9) (dice_lasts d s0) (⟨(Keeps.refl _ _).drew⟩) (HD9.out) ?_
          refine T_value (get_op rfl) (by rfl) (by rfl) (.pointer (some ⟨g, 0, none⟩)) (fun _ _ => by go_simp) ?_
          simp only [Act.put, List.setIfInBounds_toArray, List.set_cons_zero, List.set_cons_succ]
          refine T_value (get_op rfl) (by rfl) (by rfl) (.pointer (some ⟨g, 0, none⟩)) (fun _ _ => by go_simp) ?_
          simp only [Act.put, List.setIfInBounds_toArray, List.set_cons_zero, List.set_cons_succ]
          refine T_value (get_op rfl) (by rfl) (by rfl) (.pointer (some ⟨g, 0, none⟩)) (fun _ _ => by go_simp) ?_
          simp only [Act.put, List.setIfInBounds_toArray, List.set_cons_zero, List.set_cons_succ]
          refine T_cell (get_op rfl) (by rfl) (by rfl) 63 (.tmp 55) (by rfl) ⟨g, 0, none⟩ (by rfl) (.map (some b)) _ (fun V hV => HMD.out V hV) Try.underlying63 rfl ?_
          simp only [Act.put, List.setIfInBounds_toArray, List.set_cons_zero, List.set_cons_succ]
          refine T_load (get_op rfl) (by rfl) (by rfl) 41 (.tmp 9) (by rfl) Y1 0 (by rfl) KL _ (fun V hV => HKD.out V hV) Try.underlying41 rfl HSX.out ?_
          simp only [Act.put, List.setIfInBounds_toArray, List.set_cons_zero, List.set_cons_succ]
          refine T_value (get_op rfl) (by rfl) (by rfl) (.pointer (some ⟨Y2, 0, none⟩)) (fun _ _ => by go_simp) ?_
          simp only [Act.put, List.setIfInBounds_toArray, List.set_cons_zero, List.set_cons_succ]
          refine T_cell (get_op rfl) (by rfl) (by rfl) 3 (.tmp 58) (by rfl) ⟨Y2, 0, none⟩ (by rfl) (.int .i64 tr) _ (fun V hV => HTD.out V hV) Try.underlying3 rfl ?_
          simp only [Act.put, List.setIfInBounds_toArray, List.set_cons_zero, List.set_cons_succ]
          refine T_value (get_op rfl) (by rfl) (by rfl) (.int .i64 (tr + 1)) (fun _ _ => by go_simp; exact HWA.out) ?_
          simp only [Act.put, List.setIfInBounds_toArray, List.set_cons_zero, List.set_cons_succ]
          refine T_value (get_op rfl) (by rfl) (by rfl) (.pointer (some ⟨g, 0, none⟩)) (fun _ _ => by go_simp) ?_
          simp only [Act.put, List.setIfInBounds_toArray, List.set_cons_zero, List.set_cons_succ]
          refine T_value (get_op rfl) (by rfl) (by rfl) (.pointer (some ⟨Y2, 0, none⟩)) (fun _ _ => by go_simp) ?_
          simp only [Act.put, List.setIfInBounds_toArray, List.set_cons_zero, List.set_cons_succ]
          refine T_cell (get_op rfl) (by rfl) (by rfl) 3 (.tmp 62) (by rfl) ⟨Y2, 0, none⟩ (by rfl) (.int .i64 tr) _ (fun V hV => HTD.out V hV) Try.underlying3 rfl ?_
          simp only [Act.put, List.setIfInBounds_toArray, List.set_cons_zero, List.set_cons_succ]
          refine T_call (get_op rfl) (by rfl) (by rfl) _ _ (.int .i64 WT) (fun _ => by go_simp) (fun V hV => HWD.out V hV) ?_
          simp only [Act.put, List.setIfInBounds_toArray, List.set_cons_zero, List.set_cons_succ]
          refine T_value (get_op rfl) (by rfl) (by rfl) (.pointer (some ⟨d, 0, none⟩)) (fun _ _ => by go_simp) ?_
          simp only [Act.put, List.setIfInBounds_toArray, List.set_cons_zero, List.set_cons_succ]
          refine T_value (get_op rfl) (by rfl) (by rfl) (.pointer (some ⟨g, 0, none⟩)) (fun _ _ => by go_simp) ?_
          simp only [Act.put, List.setIfInBounds_toArray, List.set_cons_zero, List.set_cons_succ]
          refine T_value (get_op rfl) (by rfl) (by rfl) (.pointer (some ⟨g, 0, none⟩)) (fun _ _ => by go_simp) ?_
          simp only [Act.put, List.setIfInBounds_toArray, List.set_cons_zero, List.set_cons_succ]
          refine T_value (get_op rfl) (by rfl) (by rfl) (.pointer (some ⟨g, 1, none⟩)) (fun _ _ => by go_simp) ?_
          simp only [Act.put, List.setIfInBounds_toArray, List.set_cons_zero, List.set_cons_succ]
          refine T_cell (get_op rfl) (by rfl) (by rfl) 3 (.tmp 68) (by rfl) ⟨g, 1, none⟩ (by rfl) (.int .i64 BS) _ (fun V hV => HBD.out V hV) Try.underlying3 rfl ?_
          simp only [Act.put, List.setIfInBounds_toArray, List.set_cons_zero, List.set_cons_succ]
          refine T_enter (get_op rfl) (by rfl) (by rfl) _ _ (.int .i64 DR) (fun _ => by go_simp) (fun V => DiceAt V d s1) (dice_lasts d s1) (fun V hb hf => HBE.out V hb hf) ?_
          simp only [Act.put, List.setIfInBounds_toArray, List.set_cons_zero, List.set_cons_succ]
          refine T_value (get_op rfl) (by rfl) (by rfl) (.int .i64 (WT + DR)) (fun _ _ => by go_simp; exact HWC.out) ?_
          simp only [Act.put, List.setIfInBounds_toArray, List.set_cons_zero, List.set_cons_succ]
          refine T_value (get_op rfl) (by rfl) (by rfl) (.agg #[.int .i64 (tr + 1), .int .i64 (WT + DR)]) (fun V hV => exec_made18 _ [(0, .tmp 60), (1, .tmp 71)] (by rfl) [(0, .int .i64 (tr + 1)), (1, .int .i64 (WT + DR))] (by rfl) _ V (build_S2 (tr + 1) (WT + DR) V)) ?_
          simp only [Act.put, List.setIfInBounds_toArray, List.set_cons_zero, List.set_cons_succ]
          refine T_nil ?_
          intro V12 hV12 hd12
          simp only [List.drop_succ_cons, List.drop_zero]
          have t12 := HTK9.out.draw hV12.out hd12
          have hdm := done_mid t12.map.dis
          refine wpList_wstore (by rfl) _ _ _ (by rfl) b (TT.l ++ q :: t.l.drop (i + 1)) q2 HSCS.out.2.2 (by rfl) KL.toArray #[.int .i64 (tr + 1), .int .i64 (WT + DR)] (by rfl) (by rfl) (by rw [HSCS.out.2.1, HQK.out.1]) HSCS.out.1 t12.map ?_
          intro w10 hm10 hk10
          have hm10' : WMap w10 b ((TT.l ++ [q2]) ++ t.l.drop (i + 1)) := by
            refine hm10.to ?_
            rw [HSCS.out.2.1, hdm, List.append_assoc]
            exact List.perm_middle.symm
          have tw : Tki w10 F g b d B t ⟨TT.l ++ [q2], s1, TT.asks, TT.lost⟩ (t.l.drop (i + 1)) (.slice (some ⟨gA, 0, none⟩) n c) (.slice A1 m1 c1) (.slice A2 m2 c2) := t12.put (T' := ⟨TT.l ++ [q2], s1, TT.asks, TT.lost⟩) hk10 hm10' rfl rfl rfl
          have rk10 : Row w10 Y1 41 KL := (HRK9.out.keeps hV12.out (fun e => by have := HTK9.out.low; have := HY1B.out; omega)).keeps hk10 (fun e => by have := HTK9.out.low; have := HY1B.out; omega)
          have kw10 : Keeps (fun k => k = b ∨ k = d) w w10 := (HKW9.out.trans (hV12.out.mono (fun _ _ h => .inr h))).trans (hk10.mono (fun _ _ h => .inl h))
          obtain ⟨Y3, hY3⟩ : ∃ y, w10.heap.size = y := ⟨_, rfl⟩
          obtain ⟨V11, hV11⟩ : ∃ V, w10.alloc (.cells KL.toArray 41) = V := ⟨_, rfl⟩
          have hbw := build_Wc1 q.key HQK.out.2 w10
          rw [HQK.out.1, hV11, hY3] at hbw
          have k11 : Keeps (fun _ => False) w10 V11 := by rw [← hV11]; exact (Keeps.refl _ _).alloc _
          have t11 := tw.later k11
          have hro : V11.ownsRow B 41 66 (.slice A1 m1 c1) TT.asks.length (wfl (Ft.keys TT.asks)) := t11.ra
          rw [← HMT.out.1] at hro
          have HRO := Lib.hid hro
          have HT11 := Lib.hid t11
          have HBW := Lib.hid hbw
          have HN1 : Hid (V11.heap[Y3]? = some (.cells KL.toArray 41 (0, 0))) := Lib.hid (by rw [← hV11, ← hY3]; exact heap_alloc_new w10 _)
          have HBV : Hid (B ≤ V11.heap.size) := Lib.hid t11.low.1
          have RK10 : Hid (w10.heap[Y1]? = some (.cells KL.toArray 41 (0, 0))) := Lib.hid rk10
          have KW11 : Hid (Keeps (fun k => k = b ∨ k = d) w V11) := Lib.hid (kw10.trans (k11.mono (fun _ _ h => h.elim)))
          clear t12 hdm hm10 hm10' hk10 tw rk10 kw10 hbw k11 t11 hro hV11 hY3 hV12 hd12
          go_wp2_with (first
            | (refine wpList_load_row rfl 41 _ rfl Y1 rfl 41 KL.toArray (0, 0) _ RK10.out Try.underlying41 rfl HSA.out ?_)
            | (refine wpList_build1_18 (by rfl) 47 1 0 _ (by rfl) _ _ (by rfl) HBW.out ?_)
            | (refine wpList_append_own_at _ (by rfl) _ _ 47 (by rfl) B 41 ih zh 66 80 Try.underlying47 HII.out.1 HII.out.2.1 HII.out.2.2.1 HII.out.2.2.2.1 HII.out.2.2.2.2 (by decide) (.slice A1 m1 c1) m1 (wfl (Ft.keys TT.asks)) (by rfl) HRO.out ⟨Y3, 0, none⟩ 1 1 KL (by rfl) (by rw [HKL.out.2]) (World.news_of_block HN1.out) HKL.out.1 (by unfold maxLen; omega) (by omega) HBV.out ?_; intro v3 V3 ho3 hg3 hnil3 hob3; have HO3 := Lib.hid ho3; have HG3 := Lib.hid (And.intro hg3 hob3); obtain ⟨A3, c3, rfl⟩ := own_slice ho3; clear ho3 hg3 hnil3 hob3)
            | fail)
          have HTN : Hid (Tki V3 F g b d B t (Ft.tick t.base t.most t.budget s (t.l.take (i + 1))) (t.l.drop (i + 1)) (.slice (some ⟨gA, 0, none⟩) n c) (.slice A3 (m1 + 1) c3) (.slice A2 m2 c2)) := Lib.hid (by
            rw [HTAKE.out, HTK1.out]
            exact HT11.out.pushA (q := q2) (by show V3.ownsRow _ _ _ _ (TT.asks.length + 1) (wfl (Ft.keys TT.asks) ++ wcs q2.key); rw [← HMT.out.1, HSCS.out.2.1, HQK.out.1]; exact HO3.out) HG3.out.1 HG3.out.2)
          have HMN : Hid (m1 + 1 = (Ft.tick t.base t.most t.budget s (t.l.take (i + 1))).asks.length ∧ m2 = (Ft.tick t.base t.most t.budget s (t.l.take (i + 1))).lost.length) := Lib.hid (by rw [HTAKE.out, HTK1.out]; exact ⟨by show _ = (TT.asks ++ [_]).length; rw [List.length_append, ← HMT.out.1]; rfl, HMT.out.2⟩)
          have HKN : Hid (Keeps (fun k => k = b ∨ k = d) w V3) := Lib.hid (KW11.out.trans' (T := fun k => (Value.slice A1 m1 c1).ownBlock = some k) ((Keeps.refl _ _).grown HG3.out.1 (fun _ _ h => h)) (fun k hk e => by have := (own_lt18 HRO.out e).1; have := HWB.out; omega))
          clear HO3 HG3
          go_roundw
          case rel => exact ⟨i + 1, A3, c3, A2, c2, m1 + 1, m2, by omega, by go_num, by go_num, rfl, HMN, HTN, HKN⟩
          case measure => simp [intOf]; omega
    · obtain rfl : n = i := by omega
      have hall : t.l.take n = t.l := List.take_of_length_le (by rw [HN.out]; exact Nat.le_refl _)
      have hnil : t.l.drop n = [] := List.drop_of_length_le (by rw [HN.out]; exact Nat.le_refl _)
      have htk := HT.out
      rw [hall, hnil] at htk
      have hm := HM.out
      rw [hall] at hm
      have hfin : FAt wr F g { t with l := (t.tk s).l } ∧ DiceAt wr d (t.tk s).s ∧ wr.ownsRow w.heap.size 41 66 (.slice A1 (t.tk s).asks.length c1) (t.tk s).asks.length (wfl (Ft.keys (t.tk s).asks)) ∧ wr.ownsRow w.heap.size 41 66 (.slice A2 (t.tk s).lost.length c2) (t.tk s).lost.length (wfl (Ft.keys (t.tk s).lost)) ∧ Keeps (fun b => F b ∨ b = d) w wr := by
        have h1 := own_base htk.ra HWB.out
        have h2 := own_base htk.ro HWB.out
        have e1 : m1 = (t.tk s).asks.length := hm.1
        have e2 : m2 = (t.tk s).lost.length := hm.2
        rw [e1] at h1
        rw [e2] at h2
        refine ⟨⟨b, htk.row, ?_, HF.out.own, Ft.tab_tick_ok HF.out.ok s⟩, htk.dice, h1, h2, HK.out.mono (fun k _ e => ?_)⟩
        · have := htk.map
          rwa [List.append_nil] at this
        · rcases e with e | e
          · exact .inl ((HF.out.own k).2 (.inr e))
          · exact .inr e
      have e1 : m1 = (t.tk s).asks.length := hm.1
      have e2 : m2 = (t.tk s).lost.length := hm.2
      have FIN := Lib.hid hfin
      have HE := Lib.hid (And.intro e1 e2)
      clear hfin e1 e2 hm htk hall hnil
      go_wp2
      go_ret2
      exact ⟨A1, c1, A2, c2, by rw [← HE.out.1, ← HE.out.2]; rfl, FIN.out⟩
end Go.Proofs.Ythnpgiagajfaiaa
