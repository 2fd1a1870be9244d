/-
  What is asked for, in order: the library's AppendSeq, Collect and SortedFunc at wants; Open.
-/
import Derived.Test.YthnpgiagajfaiaaFcI
import Derived.Test.YthnpgiagajfaiaaFtS
import Derived.Test.YthnpgiagajfaiaaFtC
namespace Go.Proofs.Ythnpgiagajfaiaa
open Go.RowKit Go.BigFrame
set_option linter.unusedVariables false
set_option linter.unusedSimpArgs false
attribute [local go_sem] Oper.semAt_some

theorem wkeys_stops (n Bm b : Nat) (es : Array MapEntry) (clock : Nat) (tl : List Ft.Q) (w : World) (hM : WMapAt w b es clock tl) (hB : Bm < w.heap.size) (hc : w.cell? ⟨Bm, 0, none⟩ = some (.map (some b))) :
    SeqStopsK Fence.wide n Try.prog 35 #[.pointer (some ⟨Bm, 0, none⟩)] kEnc KeepsWalks (fun ys => (ys.map (·.1)).Perm (tl.map (·.key))) (fun _ => True) tl.length w := fun l J Jx W hW hJ hJx hY h0 => by
  have hk : Keeps (fun _ => False) w W := Keeps.of_below hW
  have hbl := (Array.getElem?_eq_some_iff.1 hM.heap).1
  exact wkeys1_in n l Bm b es clock tl J Jx W ⟨(hk.block b hbl id).trans hM.heap, hM.stm, hM.perm, hM.ok, hM.dis⟩ hJ hY ((hk.cell (p := ⟨Bm, 0, none⟩) hB id).trans hc) h0
theorem kw_keeps {S : Nat → Prop} {V V' : World} (h : Keeps S V V') (hs : ∀ k o, S k → V.heap[k]? = some o → o.isWalk = false) : KeepsWalks V V' :=
  ⟨h.size, fun k o hk hw => (h.block k (Array.getElem?_eq_some_iff.1 hk).1 (fun e => by rw [hs k o e hk] at hw; cases hw)).trans hk⟩
theorem info_Ws : (Try.prog.info? 41).map (fun i => (i.zero.map (·.cells.size), i.size, i.bytes)) = some (some 66, 66, 80) := by kernel_rfl
theorem info_W_in : ∃ (ih : TypeInfo) (zh : Value), Try.prog.info? 41 = some ih ∧ ih.zero = some zh ∧ ih.size = 66 ∧ ih.bytes = 80 ∧ zh.cells.size = 66 := by
  obtain ⟨ih, hi, h⟩ := Option.map_eq_some_iff.1 info_Ws
  simp only [Prod.mk.injEq, Option.map_eq_some_iff] at h
  obtain ⟨⟨zh, h1, h2⟩, h3, h4⟩ := h
  exact ⟨ih, zh, hi, h1, h3, h4, h2⟩
theorem build_Wc1 (k : Ft.Wn) (hk : Ft.Wn.Ok k) (w : World) : (Instr.buildSlice 47 1 #[(0, .agg (wcs k).toArray)]).run Try.prog w = .ok (.slice (some ⟨w.heap.size, 0, none⟩) 1 1) (w.alloc (.cells (wcs k).toArray 41)) := by
  obtain ⟨ih, zh, hi, hz, hs, _, _⟩ := info_W_in
  exact run_buildSlice_one w _ 41 Try.underlying47 hi (wcs k).toArray (by rw [List.size_toArray, wcs_length hk, hs]) (by omega) (by omega) zh (by simp [zeroValue, typeInfo, hi, hz])
set_option maxRecDepth 100000 in
set_option maxHeartbeats 4000000 in
theorem apseq_any (w : World) (Bm b : Nat) (es : Array MapEntry) (clock : Nat) (tl : List Ft.Q) (hM : WMapAt w b es clock tl) (hB : Bm < w.heap.size) (hc : w.cell? ⟨Bm, 0, none⟩ = some (.map (some b))) (hlen : tl.length ≤ 1000) :
    Calls Try.prog 39 #[.slice none 0 0, .func (.func 35) #[] #[.pointer (some ⟨Bm, 0, none⟩)]] w fun e w' =>
      ∃ (A : Option Addr) (c : Nat) (ks : List WnK), e = .returned (.slice A tl.length c) ∧ (ks.map (·.1)).Perm (tl.map (·.key)) ∧ w'.ownsRow w.heap.size 41 66 (.slice A tl.length c) tl.length (wfl (ks.map (·.1))) ∧ Keeps (fun _ => False) w w' := by
  obtain ⟨b0, hb0⟩ : ∃ x, w.heap.size = x := ⟨_, rfl⟩
  obtain ⟨W1, hW1⟩ : ∃ V, w.alloc (.cells #[.slice none 0 0] 47) = V := ⟨_, rfl⟩
  have k1 : Keeps (fun _ => False) w W1 := by rw [← hW1]; exact (Keeps.refl _ _).alloc _
  have r1 : Row W1 b0 47 [.slice none 0 0] := by rw [← hW1, ← hb0]; exact heap_alloc_new w _
  have z1 : W1.heap.size = b0 + 1 := by rw [← hW1, ← hb0]; simp
  have hbl := (Array.getElem?_eq_some_iff.1 hM.heap).1
  have hseq := wkeys_stops (3 - 1) Bm b es clock tl W1 ⟨(k1.block b hbl id).trans hM.heap, hM.stm, hM.perm, hM.ok, hM.dis⟩ (by omega) ((k1.cell (p := ⟨Bm, 0, none⟩) hB id).trans hc)
  obtain ⟨ih, zh, hih, hzh, hsh, hbh, hzsh⟩ := info_W_in
  have HII := Lib.hid (And.intro hih (And.intro hzh (And.intro hsh (And.intro hbh hzsh))))
  have HSEQ := Lib.hid hseq
  have K1 := Lib.hid k1
  have R1 := Lib.hid r1
  have Z1 := Lib.hid z1
  have HB0 := Lib.hid hb0
  have HLEN := Lib.hid hlen
  rw [hb0]
  clear hih hzh hsh hbh hzsh hseq k1 r1 z1 hM hB hc hlen hb0 hbl
  refine callsIn_wide.1 (callsIn_of_wp_marks (n := 3) Try.func39 rfl trivial ((wpIn_wide (n := 3)).2 ?_) rfl)
  simp only [Try.ntmps39, List.size_toArray, List.length_cons, List.length_nil, Nat.reduceAdd, Nat.reduceSub, Array.replicate_succ, Array.replicate_zero, List.push_toArray, List.append_toArray, List.nil_append, List.cons_append]
  have hb0 := HB0.out
  go_wp2_with fail
  have hsz1 := Z1.out
  refine (wpIn_wide (n := 3)).1 ?_
  refine wpIn_rangeFunc_ownH (n := 3) rfl (by omega) (gf := 35) (lb := #[.pointer (some ⟨Bm, 0, none⟩)]) rfl trivial (enters_of Try.func35 (by kernel_rfl) rfl) HSEQ.out walksK_t walksK_b (Below.refl _ _) (fun _ => rfl)
    (fun pre V => ∃ A c, Row V b0 47 [.slice A pre.length c] ∧ V.ownsRow (b0 + 1) 41 66 (.slice A pre.length c) pre.length (wfl (pre.map (·.1))) ∧ Keeps (fun _ => False) w V)
    (fun _ _ _ => False)
    (fun s X Y row hs hg hr => ?hI)
    (fun _ _ _ _ _ hs _ _ => hs)
    ⟨none, 0, R1.out, World.ownsRow_nil _ _ _ _, K1.out⟩
    (fun x a' V => ∃ Bx, b0 + 1 ≤ Bx ∧ V.heap[Bx]? = some (.cells (wcs x.1).toArray 41 (0, 0)) ∧ a' = { tmps := #[.slice none 0 0, .func (.func 35) #[] #[.pointer (some ⟨Bm, 0, none⟩)], .pointer (some ⟨b0, 0, none⟩), undef, .slice none 0 0, .pointer (some ⟨Bx, 0, none⟩), .func (.func 35) #[] #[.pointer (some ⟨Bm, 0, none⟩)], .agg (wcs x.1).toArray, undef, undef, undef, undef, undef], defers := [] })
    (fun x a' s X Y row hs hg hr => by
      obtain ⟨Bx, h1, h2, h3⟩ := hs
      refine ⟨Bx, h1, (hg.block Bx (Array.getElem?_eq_some_iff.1 h2).1 (fun e => ?_)).trans h2, h3⟩
      obtain ⟨_, o, ho, hc⟩ := hr _ e.symm
      rw [h2] at ho
      injection ho with ho
      rw [← ho] at hc
      cases hc) ?assign ?body ?done ?stop
  case hI =>
    obtain ⟨A, c, h1, h2, h3⟩ := hs
    have hne : ∀ k cs t fr, X.heap[k]? = some (.cells cs t fr) → some k ≠ row := fun k cs t fr hk e => by
      obtain ⟨_, o, ho, hc⟩ := hr k e.symm
      rw [hk] at ho
      injection ho with ho
      rw [← ho] at hc
      cases hc
    refine ⟨A, c, (hg.block b0 (Array.getElem?_eq_some_iff.1 h1).1 (hne b0 _ _ _ h1)).trans h1, ?_, h3.grown hg (fun k hk e => by have := (hr k e).1; have := HB0.out; omega)⟩
    refine ⟨h2.1, ?_⟩
    rcases h2.2 with hn | ⟨g, cap, cur, hv, hbs, hg2, rest⟩
    · exact .inl hn
    · exact .inr ⟨g, cap, cur, hv, hbs, (hg.block g (Array.getElem?_eq_some_iff.1 hg2).1 (hne g _ _ _ hg2)).trans hg2, rest⟩
  case assign =>
    intro l pre x V K hI hK
    refine wpIn_region_lit (listIn_of_list (fun hh => by obtain ⟨_, _, hh⟩ := hh; exact hh) _ _ _ (fun o ho c => by rcases List.mem_cons.1 ho with rfl | ho; (intro hh; cases hh); rcases List.mem_cons.1 ho with rfl | ho; (intro hh; cases hh); cases ho) ?_)
    obtain ⟨KX, hKX⟩ : ∃ K, (wcs x.1).toArray = K := ⟨_, rfl⟩
    have HSX : Hid ((Try.prog.info? 41).map (·.size) = some KX.size) := Lib.hid (by rw [← hKX, List.size_toArray, wcs_length x.2]; exact info_want)
    have HZX : Hid (Try.zeroCells41.size = KX.size) := Lib.hid (by rw [zeroc_want, ← hKX, List.size_toArray, wcs_length x.2])
    have HOX : Hid (KX.all (·.oneCell') = true) := Lib.hid (by rw [← hKX, List.all_toArray]; exact List.all_eq_true.2 (wcs_one _))
    obtain ⟨Y, hY⟩ : ∃ y, V.heap.size = y := ⟨_, rfl⟩
    obtain ⟨W3, hW3⟩ : ∃ U, V.alloc (.cells Try.zeroCells41 41) = U := ⟨_, rfl⟩
    have hr3 : W3.heap[Y]? = some (.cells Try.zeroCells41 41 (0, 0)) := by rw [← hW3, ← hY]; exact heap_alloc_new V _
    obtain ⟨W4, hW4⟩ : ∃ U, W3.setRow Y KX = U := ⟨_, rfl⟩
    have hr4 : W4.heap[Y]? = some (.cells KX 41 (0, 0)) := by rw [← hW4]; exact setRow_heap _ _ _ _ _ _ hr3
    have k34 : Keeps (fun _ => False) V W4 := by
      have k3 : Keeps (fun _ => False) V W3 := by rw [← hW3]; exact (Keeps.refl _ _).alloc _
      have k4 : Keeps (fun k => k = Y) W3 W4 := by rw [← hW4]; exact Keeps.setRow _ _
      exact k3.trans' k4 (fun i hi e => by omega)
    have hke : kEnc x = #[.agg KX] := by rw [← hKX]; rfl
    have hYb : b0 + 1 ≤ Y := by
      obtain ⟨_, _, h1, _, h3⟩ := hI
      have h := (Array.getElem?_eq_some_iff.1 h1).1
      omega
    have HFIN : Hid (∀ a', a' = { tmps := #[.slice none 0 0, .func (.func 35) #[] #[.pointer (some ⟨Bm, 0, none⟩)], .pointer (some ⟨b0, 0, none⟩), undef, .slice none 0 0, .pointer (some ⟨Y, 0, none⟩), .func (.func 35) #[] #[.pointer (some ⟨Bm, 0, none⟩)], .agg KX, undef, undef, undef, undef, undef], defers := [] } → K a' W4) := Lib.hid (fun a' ha => by
      refine hK a' W4 (kf_keeps k34 (fun _ _ => id)) (kw_keeps k34 (fun _ _ h _ => h.elim)) ?_ ⟨Y, hYb, by rw [hKX]; exact hr4, by rw [hKX]; exact ha⟩
      obtain ⟨A, c, h1, h2, h3⟩ := hI
      exact ⟨A, c, h1.keeps k34 id, k34.owns h2 (fun _ _ => id), h3.trans k34⟩)
    have HR3 := Lib.hid hr3
    rw [hke]
    clear hK hI hKX hr3 hr4 k34 hke hYb
    go_wp2_with (first
      | (refine wpList_store_row rfl 41 _ _ rfl Y KX rfl rfl 41 Try.zeroCells41 HR3.out HSX.out HZX.out HOX.out ?_; rw [hW4])
      | fail)
    exact HFIN.out _ rfl
  case body =>
    rintro l pre x a' V hl _ ⟨A, c, h1, h2, h3⟩ ⟨Bx, hBx, hx, rfl⟩ hlt
    obtain ⟨m, hm⟩ : ∃ m, pre.length = m := ⟨_, rfl⟩
    rw [hm] at h1 h2 hlt
    have hml : m ≤ 1000 := by have := HLEN.out; omega
    have c1 : V.cell? ⟨b0, 0, none⟩ = some (.slice A m c) := h1.cell 0
    have hbw := build_Wc1 x.1 x.2 V
    have hb0V : b0 < V.heap.size := (Array.getElem?_eq_some_iff.1 h1).1
    obtain ⟨KX, hKX⟩ : ∃ K, (wcs x.1).toArray = K := ⟨_, rfl⟩
    rw [hKX] at hbw hx ⊢
    have HSX : Hid ((Try.prog.info? 41).map (·.size) = some KX.size) := Lib.hid (by rw [← hKX, List.size_toArray, wcs_length x.2]; exact info_want)
    obtain ⟨Y, hY⟩ : ∃ y, V.heap.size = y := ⟨_, rfl⟩
    obtain ⟨V1, hV1⟩ : ∃ U, V.alloc (.cells KX 41) = U := ⟨_, rfl⟩
    rw [hV1, hY] at hbw
    have rv1 : V1.heap[Y]? = some (.cells KX 41 (0, 0)) := by rw [← hV1, ← hY]; exact heap_alloc_new V _
    have kv1 : Keeps (fun _ => False) V V1 := by rw [← hV1]; exact (Keeps.refl _ _).alloc _
    have hY1 : V1.heap.size = Y + 1 := by rw [← hV1, ← hY]; simp
    have HBW := Lib.hid hbw
    have HX := Lib.hid hx
    have HKX := Lib.hid hKX
    have RV1 : Hid (V1.heap[Y]? = some (.cells (wcs x.1).toArray 41 (0, 0))) := Lib.hid (by rw [hKX]; exact rv1)
    have KV1 := Lib.hid kv1
    have H1 := Lib.hid h1
    have H2 := Lib.hid h2
    have H3 := Lib.hid h3
    have HM := Lib.hid (And.intro hm hml)
    have HY1 := Lib.hid (And.intro hY (And.intro hY1 hb0V))
    have HXL : Hid ((wcs x.1).length = 66) := Lib.hid (wcs_length x.2)
    clear hbw hx hKX rv1 kv1 h1 h2 h3 hm hlt hY hY1 hV1 hb0V hBx
    refine wpIn_block (wpIn_region_lit (listIn_of_list (fun hh => by obtain ⟨_, _, hh⟩ := hh; exact hh) _ _ _ (fun o ho c => by
      rcases List.mem_cons.1 ho with rfl | ho; (intro hh; cases hh)
      rcases List.mem_cons.1 ho with rfl | ho; (intro hh; cases hh)
      rcases List.mem_cons.1 ho with rfl | ho; (intro hh; cases hh)
      rcases List.mem_cons.1 ho with rfl | ho; (intro hh; cases hh)
      rcases List.mem_cons.1 ho with rfl | ho; (intro hh; cases hh)
      cases ho) ?_))
    go_wp2_with (first
      | (refine wpList_load_row rfl 41 _ rfl Bx rfl 41 KX (0, 0) _ HX.out Try.underlying41 rfl HSX.out ?_)
      | (refine wpList_build1_18 (by rfl) 47 1 0 _ (by rfl) _ _ (by rfl) HBW.out ?_)
      | (refine wpList_append_own _ (by rfl) _ _ 47 (by rfl) (b0 + 1) 41 ih zh 66 80 Try.underlying47 HII.out.1 HII.out.2.1 HII.out.2.2.1 HII.out.2.2.2.1 HII.out.2.2.2.2 (by decide) (.slice A m c) m (wfl (pre.map (·.1))) (by rfl) (KV1.out.owns H2.out (fun _ _ => id)) ⟨Y, 0, none⟩ 1 1 (wcs x.1) (by rfl) (by rw [HXL.out]) (World.news_of_block RV1.out) (wcs_one _) (by unfold maxLen; omega) (by omega) (by have := HY1.out.2.1; have := HY1.out.2.2; have := HY1.out.1; omega) ?_; intro v3 V3 ho3 hg3 _; have HO3 := Lib.hid ho3; have HG3 := Lib.hid hg3; obtain ⟨A3, c3, rfl⟩ := own_slice ho3; clear ho3 hg3
         have k13 : Keeps (fun j => (Value.slice A m c).ownBlock = some j) V1 V3 := (Keeps.refl _ _).grown HG3.out (fun _ _ h => h)
         have r3 : Row V3 b0 47 [.slice A m c] := (H1.out.keeps KV1.out id).keeps k13 (fun e => by obtain ⟨_, _, h⟩ := own_block H2.out b0 e; omega)
         have cc3 : V3.cell? ⟨b0, 0, none⟩ = some (.slice A m c) := r3.cell 0
         have f3 : V3.frozen? ⟨b0, 0, none⟩ = false := r3.frozen 0
         have R3 := Lib.hid r3
         have K13 := Lib.hid k13
         clear r3 k13)
      | fail)
    have hRr : Row (V3.setCell ⟨b0, 0, none⟩ (.slice A3 (m + 1) c3)) b0 47 [.slice A3 (m + 1) c3] := R3.out.set 0 _
    have kst : Keeps (fun k => k = b0) V3 (V3.setCell ⟨b0, 0, none⟩ (.slice A3 (m + 1) c3)) := (Keeps.refl (fun k => k = b0) V3).setCell (p := ⟨b0, 0, none⟩) (fun _ => rfl) _
    have hown := kst.owns HO3.out (fun b hb e => by
      obtain ⟨_, _, h⟩ := own_block HO3.out b hb
      omega)
    have hkk : Keeps (fun k => k = b0 ∨ (Value.slice A m c).ownBlock = some k) V (V3.setCell ⟨b0, 0, none⟩ (.slice A3 (m + 1) c3)) := (((KV1.out.mono (fun _ _ h => h.elim)).trans (K13.out.mono (fun _ _ h => .inr h))).trans (kst.mono (fun _ _ h => .inl h)))
    have hcell : ∀ k, (k = b0 ∨ (Value.slice A m c).ownBlock = some k) → ∃ cs t fr, V.heap[k]? = some (.cells cs t fr) := fun k hk => by
      rcases hk with rfl | hk
      · exact ⟨_, _, _, H1.out⟩
      · obtain ⟨cs, hcs, _⟩ := own_block H2.out k hk
        exact ⟨_, _, _, hcs⟩
    have hwalk : KeepsWalks V (V3.setCell ⟨b0, 0, none⟩ (.slice A3 (m + 1) c3)) := kw_keeps hkk (fun k o hk ho => by
      obtain ⟨cs, t, fr, h⟩ := hcell k hk
      rw [h] at ho
      injection ho with ho
      rw [← ho]
      rfl)
    have hkf : KeepsFrom W1.heap.size V (V3.setCell ⟨b0, 0, none⟩ (.slice A3 (m + 1) c3)) := ⟨hkk.size, fun k o _ hk hc => by
      by_cases hs : k = b0 ∨ (Value.slice A m c).ownBlock = some k
      · obtain ⟨cs, t, fr, h⟩ := hcell k hs
        rw [h] at hk
        injection hk with hk
        rw [← hk] at hc
        cases hc
      · exact (hkk.block k (Array.getElem?_eq_some_iff.1 hk).1 hs).trans hk⟩
    refine ⟨hkf, hwalk, A3, c3, ?_, ?_, ?_⟩
    · rw [List.length_append, HM.out.1]; exact hRr
    · rw [List.length_append, HM.out.1, List.map_append]
      have h := hown
      rw [wfl_snoc] at h
      exact h
    · exact H3.out.trans' (T := fun k => k = b0 ∨ (Value.slice A m c).ownBlock = some k) hkk (fun i hi hs => by
        rcases hs with rfl | hs
        · have := HB0.out; omega
        · obtain ⟨_, _, h⟩ := own_block H2.out i hs
          have := HB0.out
          omega)
  case done =>
    rintro D xs V hD hS ⟨A, c, h1, h2, h3⟩ hK
    have hxl : xs.length = tl.length := by have := hS.length_eq; simpa using this
    obtain ⟨m, hm⟩ : ∃ m, xs.length = m := ⟨_, rfl⟩
    have hmt : m = tl.length := by omega
    rw [hm] at h1 h2
    have c1 : V.cell? ⟨b0, 0, none⟩ = some (.slice A m c) := h1.cell 0
    have H2 := Lib.hid h2
    have H3 := Lib.hid h3
    have HS := Lib.hid hS
    have HD := Lib.hid hK
    have HMT := Lib.hid (And.intro hmt hD)
    clear h1 h2 h3 hS hxl hm hmt hK hD
    go_wp2_with fail
    refine ⟨by simp, .inl ⟨_, _, rfl, run_takeDeferred HD.out, ?_⟩⟩
    have hk2 : Keeps (fun k => k = D) V (V.putObj D (.deferred none)) := ⟨rfl, rfl, rfl, by simp [World.putObj], fun k hk hs => World.putObj_heap_other hs⟩
    have hown := hk2.owns H2.out (fun b hb e => by
      obtain ⟨cs, hcs, _⟩ := own_block H2.out b hb
      rw [e, HD.out] at hcs
      cases hcs)
    refine ⟨_, results_tmp rfl _ _ _, A, c, xs, by rw [← HMT.out.1]; rfl, HS.out, ?_, H3.out.trans' hk2 (fun i hi e => by have := HMT.out.2; have := Z1.out; have := HB0.out; omega)⟩
    rw [← HMT.out.1]
    exact own_base hown (by omega)
  case stop =>
    rintro D c pre V _ _ h _
    exact h.elim
theorem collect_any (w : World) (Bm b : Nat) (es : Array MapEntry) (clock : Nat) (tl : List Ft.Q) (hM : WMapAt w b es clock tl) (hB : Bm < w.heap.size) (hc : w.cell? ⟨Bm, 0, none⟩ = some (.map (some b))) (hlen : tl.length ≤ 1000) :
    Calls Try.prog 33 #[.func (.func 35) #[] #[.pointer (some ⟨Bm, 0, none⟩)]] w fun e w' =>
      ∃ (A : Option Addr) (c : Nat) (ks : List WnK), e = .returned (.slice A tl.length c) ∧ (ks.map (·.1)).Perm (tl.map (·.key)) ∧ w'.ownsRow w.heap.size 41 66 (.slice A tl.length c) tl.length (wfl (ks.map (·.1))) ∧ Keeps (fun _ => False) w w' := by
  have HA := Lib.hid (apseq_any w Bm b es clock tl hM hB hc hlen)
  clear hM hB hc hlen
  go_enter Try.func33, Try.ntmps33
  go_wp2_with fail
  refine HA.out.mono ?_
  rintro e w2 ⟨A, c, ks, rfl, hp, ho, hk⟩
  have HF := Lib.hid (And.intro hp (And.intro ho hk))
  clear hp ho hk
  go_wp2
  go_ret
  exact ⟨A, c, ks, rfl, HF.out⟩
/-- In order. -/
theorem sorted_any (w : World) (Bm b : Nat) (tl : List Ft.Q) (hM : WMap w b tl) (hs : Ft.Sorted tl) (hB : Bm < w.heap.size) (hc : w.cell? ⟨Bm, 0, none⟩ = some (.map (some b))) (hlen : tl.length ≤ 1000) :
    Calls Try.prog 27 #[.func (.func 35) #[] #[.pointer (some ⟨Bm, 0, none⟩)], .func (.func 29) #[] #[]] w fun e w' =>
      ∃ (A : Option Addr) (c : Nat), e = .returned (.slice A tl.length c) ∧ w'.ownsRow w.heap.size 41 66 (.slice A tl.length c) tl.length (wfl (Ft.keys tl)) ∧ Keeps (fun _ => False) w w' := by
  obtain ⟨es, clock, hM⟩ := hM
  have HA := Lib.hid (collect_any w Bm b es clock tl hM hB hc hlen)
  have HS := Lib.hid hs
  obtain ⟨n, hn⟩ : ∃ n, tl.length = n := ⟨_, rfl⟩
  rw [hn] at HA hlen ⊢
  have HN := Lib.hid (And.intro hn hlen)
  clear hM hB hc hlen hs hn
  go_enter Try.func27, Try.ntmps27
  go_wp2_with fail
  refine HA.out.mono ?_
  rintro e w2 ⟨A, c, ks, rfl, hp, ho, hk⟩
  have hok : ∀ k ∈ ks.map (·.1), Ft.Wn.Ok k := fun k hk => by obtain ⟨x, _, rfl⟩ := List.mem_map.1 hk; exact x.2
  have hsrt : srt (ks.map (·.1)) = Ft.keys tl := srt_eq hp (List.pairwise_map.2 HS.out)
  have hcall : Calls Try.prog 34 #[.slice A n c, .func (.func 29) #[] #[]] w2 fun e w' => e = .returned (.tuple #[]) ∧ w'.ownsRow w.heap.size 41 66 (.slice A n c) n (wfl (Ft.keys tl)) ∧ Keeps (fun _ => False) w w' := by
    rcases ho.2 with ⟨h1, h2⟩ | ⟨g, cap, cur, h1, h2, h3, h4⟩
    · subst h2
      refine (sortf_none w2 c A).mono ?_
      rintro e w3 ⟨rfl, rfl⟩
      have hke : ks.map (·.1) = Ft.keys tl := by
        have e1 : tl = [] := List.eq_nil_of_length_eq_zero HN.out.1
        have e2 : ks.map (·.1) = [] := List.eq_nil_of_length_eq_zero (by rw [hp.length_eq, e1]; rfl)
        rw [e2, e1]
        rfl
      rw [hke] at ho
      exact ⟨rfl, ho, hk⟩
    · injection h1 with h1 _ hcc
      subst h1
      refine (sortf_some w2 g n c w.heap.size _ hok ho (by have := HN.out.2; omega)).mono ?_
      rintro e w3 ⟨rfl, ho3, hk3⟩
      rw [hsrt] at ho3
      exact ⟨rfl, ho3, hk.trans' hk3 (fun i hi e => by omega)⟩
  have HC := Lib.hid hcall
  clear hcall hsrt hok hp ho hk
  go_wp2_with fail
  refine HC.out.mono ?_
  rintro e w3 ⟨rfl, ho3, hk3⟩
  have HF := Lib.hid (And.intro ho3 hk3)
  clear ho3 hk3
  go_wp2
  go_ret
  exact ⟨A, c, rfl, HF.out⟩
end Go.Proofs.Ythnpgiagajfaiaa
