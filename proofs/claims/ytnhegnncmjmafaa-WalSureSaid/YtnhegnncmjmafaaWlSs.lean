/-
  WalSure's walk.
-/
import Derived.Test.YtnhegnncmjmafaaWlSr
import Derived.Deep.LoopGhost
import Derived.Deep.CutRange
import Derived.Deep.CutBlock
import Derived.Deep.DeepCutAuto
import Derived.Laws.Closers25b
namespace Go.Proofs.Ytnhegnncmjmafaa
open Go.RowKit Go.BigFrame
set_option linter.unusedVariables false
set_option linter.unusedSimpArgs false
set_option maxRecDepth 100000 in
set_option maxHeartbeats 16000000 in
theorem sure_go (S : Option Addr) (len cS : Nat) (acts : List ActOf) (T : Option Addr) (nt cT : Nat) (rt : List RowOf) (w : World) (ha : IsActs w S len cS acts) (hR : RowsAt w T rt) (hnt : rt.length = nt) (hle : len ≤ nt) :
    Calls Try.prog 3 #[.slice S len cS, .slice T nt cT] w fun e w' => e = .returned (.bool true) ∧ Keeps (fun _ => False) w w' := by
  obtain ⟨ZA, hZA⟩ : ∃ Z : Array Value, (#[.int .i64 0, .int .i64 0, .slice none 0 0, .slice none 0 0] : Array Value) = Z := ⟨_, rfl⟩
  have hza : ∀ V : World, (zeroValue 35).run Try.prog V = .ok (.agg ZA) V := fun V => by rw [← hZA]; exact zero_act V
  have NZA : Hid (ZA.size = 4) := Lib.hid (by rw [← hZA]; rfl)
  have haw := awake12_any w
  have HAW := Lib.hid haw
  have HA := Lib.hid ha
  have HR := Lib.hid hR
  have HNT := Lib.hid hnt
  have hll : ¬ (nt : Int) < (len : Int) := by omega
  have HLE := Lib.hid hle
  clear haw ha hR hnt hZA hle
  go_enter Try.func3, Try.ntmps3
  go_wp2_with fail
  refine HAW.out.mono ?_
  rintro e w0 ⟨rfl, k0⟩
  obtain ⟨F, hF⟩ : ∃ F : Nat → Prop, (fun k => w0.heap.size ≤ k) = F := ⟨_, rfl⟩
  have HFK : Hid (∀ k, F k → w.heap.size ≤ k) := Lib.hid (fun k h => by rw [← hF] at h; have := k0.size; omega)
  have hnew := new_disk 16 w0 (by omega) (by omega)
  rw [show ((16 : Nat) : Int) = 16 from rfl, hF] at hnew
  have HNEW := Lib.hid hnew
  have K0 := Lib.hid k0
  clear hnew k0 HAW
  go_wp2_with fail
  refine HNEW.out.mono ?_
  rintro e w1 ⟨g, rfl, hg, d1, k1⟩
  have hT0 := GI.fresh 16 (by omega) (by omega)
  have hop := sv_open w1 F g _ _ _ 16 0 0 d1 (fun k hk => by rw [← hF]; have := k1.size; omega) hT0 rfl rfl (by omega)
  obtain ⟨l0, hl0⟩ : ∃ l, (⟨(16 - 2) / 2, 0, 0, [], 0, 0⟩ : Wl.St) = l := ⟨_, rfl⟩
  rw [hl0] at hT0 hop
  have HL0 : Hid (l0.rows = [] ∧ l0.sure = 0) := Lib.hid (by rw [← hl0]; exact ⟨rfl, rfl⟩)
  have HOP := Lib.hid hop
  have T2 : Hid (GI l0 (Dk.fresh 16) 7 16 (11 * 0) 0) := Lib.hid hT0
  have K1 := Lib.hid (K0.out.trans k1)
  clear hop HNEW k1 d1 hF K0 hT0 hl0
  go_wp2_with fail
  refine HOP.out.mono ?_
  rintro e w2 ⟨p, rfl, hp, x2, k2⟩
  have X2 := Lib.hid x2
  have K2 := Lib.hid (K1.out.trans k2)
  clear HOP x2 k2 K1 hp
  go_wp2_with fail
  go_loopg [8, 10, 11, 12] 20 (fun gk lv sv av iv ww => ∃ (i p na ca ns cs : Nat) (Aa As : Option Addr) (F1 : Nat → Prop) (l : Wl.St) (s : Dk.St), gk = 20 - i ∧ i ≤ len ∧ i ≤ 20 ∧ lv = .pointer (some ⟨p, 0, none⟩) ∧ sv = .slice As ns cs ∧ av = .slice Aa na ca ∧ iv = .int .i64 (i : Int) ∧ Hid (Wal ww F1 p g l s) ∧ Hid (∀ k, F1 k → w.heap.size ≤ k) ∧ Hid (TxAt ww w.heap.size F1 l Aa na ca As ns cs) ∧ Hid (GI l s 7 16 (11 * i) i) ∧ Hid (Keeps (fun _ => False) w ww))
  case atStart => exact ⟨0, p, 0, 0, 0, 0, none, none, F, l0, _, rfl, by omega, by omega, rfl, rfl, rfl, rfl, X2, HFK, Lib.hid (TxAt.nil _ _ _ _ HL0.out.1 HL0.out.2), T2, K2⟩
  case round =>
    clear HL0 T2 X2 K2 HFK
    obtain ⟨i, p, na, ca, ns, cs, Aa, As, F1, l, s, hgk, hi, hi20, rfl, rfl, rfl, rfl, X, HFK, TX, G, K⟩ := hrel
    have HGK := Lib.hid hgk
    clear hgk
    by_cases hil : i < len
    · have hil2 : (i : Int) < (len : Int) := by omega
      by_cases hi6 : i < 20
      · have hi62 : (i : Int) < 20 := by omega
        obtain ⟨x, hx⟩ : ∃ x, acts[i]? = some x := ⟨_, List.getElem?_eq_getElem (by rw [HA.out.many]; omega)⟩
        obtain ⟨ad, rfl, hxc, hsb, hbC, hC9, hrw, hrc, hr9, wk, wn⟩ := HA.out.at_ i x hx
        obtain ⟨r, hr⟩ : ∃ r, rt[i]? = some r := ⟨_, List.getElem?_eq_getElem (by rw [HNT.out]; have := HLE.out; omega)⟩
        obtain ⟨kd, qn, R, cR, rs, Ab, Cb, bs⟩ := x
        obtain ⟨fA, fC, fs⟩ := r
        obtain ⟨at_, rfl, hcf⟩ := HR.out.cell i _ hr
        have hfs := HR.out.src _ (List.mem_of_getElem? hr)
        have hfc := HR.out.cap _ (List.mem_of_getElem? hr)
        simp only at hsb hbC hC9 hrw hrc hr9 wk wn hcf hfs hfc
        simp only [ActOf.cells] at hxc
        have hfew := fun V hV => few12_any R cR rs V (hrw.keeps (S := fun _ => False) hV (fun _ _ => id)) (by omega)
        obtain ⟨nr, hnr⟩ : ∃ n, rs.length = n := ⟨_, rfl⟩
        obtain ⟨nb, hnb⟩ : ∃ n, bs.length = n := ⟨_, rfl⟩
        obtain ⟨nf, hnf⟩ : ∃ n, fs.length = n := ⟨_, rfl⟩
        rw [hnr] at hxc hfew
        rw [hnb] at hxc
        rw [hnf] at hcf
        obtain ⟨RX, hRX⟩ : ∃ R' : Array Value, ([.int .i64 kd, .int .i64 qn, .slice R nr cR, .slice Ab nb Cb] : List Value).toArray = R' := ⟨_, rfl⟩
        have RXN : Hid (RX.size = 4) := Lib.hid (by rw [← hRX]; rfl)
        have RXS : Hid ((Try.prog.info? 35).map (·.size) = some RX.size) := Lib.hid (by rw [RXN.out]; exact size_act)
        have RXO : Hid (RX.all (·.oneCell') = true) := Lib.hid (by rw [← hRX]; simp [Value.oneCell'])
        have HXC : Hid (∀ q u, ([.int .i64 kd, .int .i64 qn, .slice R nr cR, .slice Ab nb Cb] : List Value)[q]? = some u → wr.cell? ((ad.add (i * 4)).add q) = some u) := Lib.hid (fun q u hq => by
          have h := hxc q u hq
          rw [Go.Deep.add_add]
          rw [K.out.cell (World.block_lt_of_cell? w _ h) id]
          exact h)
        obtain ⟨b13, hb13⟩ : ∃ x, wr.heap.size = x := ⟨_, rfl⟩
        obtain ⟨W5, hW5⟩ : ∃ V, wr.alloc (.cells ZA 35) = V := ⟨_, rfl⟩
        have k5 : Keeps (fun _ => False) wr W5 := by rw [← hW5]; exact (Keeps.refl _ _).alloc _
        have r5 : W5.heap[b13]? = some (.cells ZA 35 (0, 0)) := by rw [← hW5, ← hb13]; exact heap_alloc_new wr _
        obtain ⟨W6, hW6⟩ : ∃ V, W5.setRow b13 RX = V := ⟨_, rfl⟩
        have k6 : Keeps (fun _ => False) wr W6 := k5.trans' (T := fun k => k = b13) (by rw [← hW6]; exact Keeps.setRow _ _) (fun i hi e => by omega)
        have r6 : Row W6 b13 35 [.int .i64 kd, .int .i64 qn, .slice R nr cR, .slice Ab nb Cb] := by show _ = some (Obj.cells (_ : List Value).toArray _ _); rw [hRX, ← hW6]; exact setRow_heap _ _ _ _ _ _ r5
        have X6 := Lib.hid (X.out.later k6)
        have TX6 := Lib.hid (TX.out.keeps (G := cutW F1 wr.heap.size W6.heap.size) k6 (fun _ h => h.elim) (fun k h => h.1))
        have HB13 : Hid (¬ cutW F1 wr.heap.size W6.heap.size b13) := Lib.hid (fun h => by have := r6.lt; rcases h.2 with h | h <;> omega)
        have HFK6 : Hid (∀ k, cutW F1 wr.heap.size W6.heap.size k → w.heap.size ≤ k) := Lib.hid (fun k h => HFK.out k h.1)
        obtain ⟨F2, hF2⟩ : ∃ G, cutW F1 wr.heap.size W6.heap.size = G := ⟨_, rfl⟩
        rw [hF2] at X6 TX6 HB13 HFK6
        have K6 := Lib.hid (K.out.trans k6)
        have HFEW := Lib.hid (hfew W6 K6.out)
        have R5 := Lib.hid r5
        have R6 := Lib.hid r6
        have HRX := Lib.hid hRX
        have hc0 : W6.cell? ⟨b13, 0, none⟩ = some (.int .i64 kd) := r6.cell 0
        have hc1 : W6.cell? ⟨b13, 1, none⟩ = some (.int .i64 qn) := r6.cell 1
        have hc2 : W6.cell? ⟨b13, 2, none⟩ = some (.slice R nr cR) := r6.cell 2
        have hc3 : W6.cell? ⟨b13, 3, none⟩ = some (.slice Ab nb Cb) := r6.cell 3
        have HCF : Hid (∀ V, Keeps (fun _ => False) w V → V.cell? (at_.add i) = some (.slice fA nf fC)) := Lib.hid (fun V hV => (hV.cell (World.block_lt_of_cell? w _ hcf) id).trans hcf)
        have hcf6 : W6.cell? (at_.add i) = some (.slice fA nf fC) := (K6.out.cell (World.block_lt_of_cell? w _ hcf) id).trans hcf
        have HBY := Lib.hid (And.intro hsb (And.intro hbC (And.intro hC9 hnb)))
        have HRW := Lib.hid (And.intro hrw (And.intro hrc (And.intro hr9 hnr)))
        have HFS := Lib.hid (And.intro hfs (And.intro hfc hnf))
        have HQN := Lib.hid (And.intro (bounds_i64 wk) (bounds_i64 wn))
        have hfew2 := fun h : few12B rs = true => few12_all h
        obtain ⟨qf, hqf⟩ : ∃ q, few12B rs = q := ⟨_, rfl⟩
        rw [hqf] at HFEW hfew2
        have HFA := Lib.hid hfew2
        clear r5 r6 k5 k6 hRX hxc hx X TX HFK K wk wn hsb hbC hC9 hrw hrc hr9 hfs hfc hcf hnr hnb hnf hr hfew hF2 hqf hfew2
        go_wp2_with (first
          | (refine wpList_load_any (by rfl) 35 (.tmp 50) (by rfl) (ad.add (i * 4)) (by rfl) [.int .i64 kd, .int .i64 qn, .slice R nr cR, .slice Ab nb Cb] _ HXC.out Try.underlying35 rfl size_act ?_)
          | (refine wpList_store_row (by rfl) 35 (.tmp 13) (.tmp 51) (by rfl) b13 RX (by rfl) (by rw [← HRX.out]; rfl) 35 ZA R5.out RXS.out (NZA.out.trans RXN.out.symm) RXO.out ?_; rw [hW6])
          | fail)
        refine HFEW.out.mono ?_
        rintro e wx ⟨rfl, hx⟩
        obtain rfl : W6 = wx := hx.symm
        clear HFEW HXC R5 RXN RXS RXO HRX hW5 hW6
        cases qf with
        | false =>
          go_wp2
          go_ret
          exact ⟨rfl, K6.out⟩
        | true =>
          have HFA2 := Lib.hid (HFA.out rfl)
          clear HFA
          by_cases hb6 : nb ≤ 600
          · have hb62 : ¬ (600 : Int) < (nb : Int) := by omega
            by_cases hf3 : nf ≤ 30
            · have hf32 : ¬ (30 : Int) < (nf : Int) := by omega
              obtain ⟨q16, hand16⟩ : ∃ r, bits .and .i64 kd 16 = r := ⟨_, rfl⟩
              obtain ⟨r, hand7⟩ : ∃ r, bits .and .i64 kd 7 = r := ⟨_, rfl⟩
              obtain ⟨v, handn⟩ : ∃ r, bits .and .i64 qn 7 = r := ⟨_, rfl⟩
              have HV : Hid (-9223372036854775808 ≤ v ∧ v ≤ 9223372036854775807) := Lib.hid (by rw [← handn]; exact ⟨bits_lo_i64 _ _ _, bits_hi_i64 _ _ _⟩)
              have M6 := Lib.hid (Mid.mk X6.out HFK6.out K6.out R6.out HB13.out)
              clear X6 HFK6 R6 HB13
              go_upto_if 75 with fail
              go_cut [] (fun wx => ∃ s2 : Dk.St, Hid (Mid w b13 [.int .i64 kd, .int .i64 qn, .slice R nr cR, .slice Ab nb Cb] wx F2 p g l s2) ∧ Hid (TxAt wx w.heap.size F2 l Aa na ca As ns cs) ∧ Hid (GI l s2 7 16 (11 * i) i))
              case first =>
                by_cases h16 : q16 = 16
                · have h16b : (q16 == 16) = true := by simpa using h16
                  have HFL := Lib.hid (sv_fail W6 F2 p g l s v M6.out.wal HV.out)
                  go_wp2_with fail
                  refine HFL.out.mono ?_
                  rintro e w7 ⟨s2, rfl, x7, k7, hgi⟩
                  have M7 := Lib.hid (M6.out.call x7 k7)
                  have TX7 := Lib.hid (TX6.out.keeps (G := F2) k7 (fun _ h => h) (fun _ h => h))
                  have G7 := Lib.hid (hgi _ _ _ _ G.out)
                  clear HFL x7 k7 hgi M6 TX6 G hc0 hc1 hc2 hc3
                  go_wp2_with fail
                  go_meet
                  exact ⟨s2, M7, TX7, G7⟩
                · have h16b : (q16 == 16) = false := by simpa using h16
                  go_wp2_with fail
                  go_meet
                  exact ⟨s, M6, TX6, G⟩
              case rest =>
                obtain ⟨s2, M7, TX7, G7⟩ := hcut
                obtain ⟨w7, hw7⟩ : ∃ V, V = wc := ⟨_, rfl⟩
                subst hw7
                clear M6 TX6 G hc0 hc1 hc2 hc3 hand16 handn HV K6 hcf6 hb62 hf32
                have c0 : w7.cell? ⟨b13, 0, none⟩ = some (.int .i64 kd) := M7.out.row.cell 0
                have c2 : w7.cell? ⟨b13, 2, none⟩ = some (.slice R nr cR) := M7.out.row.cell 2
                have c3 : w7.cell? ⟨b13, 3, none⟩ = some (.slice Ab nb Cb) := M7.out.row.cell 3
                go_upto_block 2 with fail
                go_cut [10, 11, 15, 16] (fun sv av mv xv wx => ∃ (x : Int) (l3 : Wl.St) (s3 : Dk.St) (F3 : Nat → Prop) (As3 : Option Addr) (ns3 cs3 : Nat) (Aa3 : Option Addr) (na3 ca3 : Nat) (Am : Option Addr) (nm cm : Nat) (R1 R2 : List Wl.Bs), sv = .slice As3 ns3 cs3 ∧ av = .slice Aa3 na3 ca3 ∧ mv = .slice Am nm cm ∧ xv = .int .i64 x ∧ Hid (Aft w b13 [.int .i64 kd, .int .i64 qn, .slice R nr cR, .slice Ab nb Cb] wx F3 p g l3 s3 As3 ns3 cs3 Aa3 na3 ca3 Am nm cm R1 R2 x r i))
                case first =>
                  rcases (show r = 0 ∨ r = 1 ∨ r = 2 ∨ r = 3 ∨ r = 4 ∨ r = 5 ∨ r = 6 ∨ (r ≠ 0 ∧ r ≠ 1 ∧ r ≠ 2 ∧ r ≠ 3 ∧ r ≠ 4 ∧ r ≠ 5 ∧ r ≠ 6) by omega) with hr | hr | hr | hr | hr | hr | hr | hr
                  · subst hr
                    as_aux_lemma =>
                      have hap := sv_append w7 F2 p g l s2 7 16 (11 * i) i M7.out.wal G7.out (by omega) Ab Cb bs (HBY.out.1.keeps M7.out.k (fun _ _ _ => id)) ⟨HBY.out.2.1, HBY.out.2.2.1⟩ (by have := HBY.out.2.2.2; omega)
                      rw [HBY.out.2.2.2] at hap
                      have HAP := Lib.hid hap
                      clear hap
                      go_wp2_with fail
                      refine HAP.out.mono ?_
                      rintro e w8 ⟨x, l3, s3, rfl, x8, k8, hh⟩
                      have M8 := Lib.hid (M7.out.call x8 k8)
                      have TX8 := Lib.hid (TX7.out.keeps (G := F2) k8 (fun _ h => h) (fun _ h => h))
                      have HN := G7.out.few M7.out.wal.ok
                      have d3 : w8.cell? ⟨b13, 3, none⟩ = some (.slice Ab nb Cb) := M8.out.row.cell 3
                      rcases hh with ⟨e1, hr3, hs3, g3⟩ | ⟨e1, e2, e3⟩ | ⟨e1, hlo, hcr⟩
                      · subst e1
                        have hst := run_string_src (P := Try.prog) (w := w8) 33 9 5 Try.underlying33 Try.underlying5 Try.underlying9 Ab bs Cb (HBY.out.1.keeps M8.out.k (fun _ _ _ => id))
                        obtain ⟨sx, hsx⟩ : ∃ s, strOf bs = s := ⟨_, rfl⟩
                        rw [HBY.out.2.2.2, hsx] at hst
                        obtain ⟨V1, hV1⟩ : ∃ V, w8.alloc (.cells #[.string sx] 9) = V := ⟨_, rfl⟩
                        have kv1 : Keeps (fun _ => False) w8 V1 := by rw [← hV1]; exact (Keeps.refl _ _).alloc _
                        have rv1 : V1.heap[w8.heap.size]? = some (.cells [Value.string sx].toArray 9 (0, 0)) := by rw [← hV1]; exact heap_alloc_new w8 _
                        have hbi := build_str12 sx w8
                        rw [hV1] at hbi
                        have HBI := Lib.hid hbi
                        obtain ⟨ih, zh, hih, hzh, hsh, hbh, hzsh⟩ := info_st12s
                        obtain ⟨A3, c4, w9, hrun, ho, hc⟩ := run_append_two (P := Try.prog) V1 w.heap.size 32 32 9 ih zh 16 Try.underlying32 hih hzh hsh hbh hzsh Aa na ca (svals12 l.rows) (kv1.owns TX8.out.all.own (fun _ _ => id)) ⟨w8.heap.size, 0, none⟩ 1 (.string sx) (World.news_of_block rv1) rfl (by have := TX8.out.all.len; omega) (by decide) (by have := M8.out.k.size; have := kv1.size; omega)
                        have HRUN := Lib.hid hrun
                        have AF := Lib.hid (Aft.appended (i := i) M8.out TX8.out g3 bs hr3 hs3 kv1 (by rw [hsx]; exact ho) hc 0 (by decide))
                        clear HAP hbi hih hzh hsh hbh hzsh hrun ho hc kv1 rv1 hV1 hsx hr3 hs3 g3 x8 k8 HN M8 TX8
                        go_wp2_with (first
                          | (refine wpList_buildSlice_run12 (by rfl) 32 1 0 (.tmp 98) (by rfl) _ _ (by rfl) HBI.out ?_)
                          | (refine wpList_append_run (by rfl) (.tmp 95) (.tmp 99) 32 32 (by rfl) _ _ _ w9 (by rfl) (by rfl) HRUN.out ?_)
                          | fail)
                        go_meet
                        exact ⟨0, l3, s3, _, As, ns, cs, A3, na + 1, c4, As, ns, cs, _, _, rfl, rfl, rfl, rfl, AF⟩
                      · subst e1 e2 e3
                        have AF := Lib.hid (Aft.calm M8.out TX8.out G7.out (by omega) 31 0 (by decide))
                        clear HAP x8 k8 HN M8 TX8
                        go_wp2_with fail
                        go_meet
                        exact ⟨31, _, _, F2, As, ns, cs, Aa, na, ca, As, ns, cs, _, _, rfl, rfl, rfl, rfl, AF⟩
                      · subst e1
                        have AF := Lib.hid (Aft.broken (Aa := Aa) (na := na) (ca := ca) M8.out TX8.out.sur TX8.out.sur hlo (hcr.more (Nat.le_succ _) (fun _ h => .inl h)) 0)
                        clear HAP x8 k8 HN M8 TX8 hcr hlo
                        go_wp2_with fail
                        go_meet
                        exact ⟨30, l3, s3, F2, As, ns, cs, Aa, na, ca, As, ns, cs, _, _, rfl, rfl, rfl, rfl, AF⟩
                  · subst hr
                    as_aux_lemma =>
                      have hap := sv_append w7 F2 p g l s2 7 16 (11 * i) i M7.out.wal G7.out (by omega) Ab Cb bs (HBY.out.1.keeps M7.out.k (fun _ _ _ => id)) ⟨HBY.out.2.1, HBY.out.2.2.1⟩ (by have := HBY.out.2.2.2; omega)
                      rw [HBY.out.2.2.2] at hap
                      have HAP := Lib.hid hap
                      clear hap
                      go_wp2_with fail
                      refine HAP.out.mono ?_
                      rintro e w8 ⟨x, l3, s3, rfl, x8, k8, hh⟩
                      have M8 := Lib.hid (M7.out.call x8 k8)
                      have TX8 := Lib.hid (TX7.out.keeps (G := F2) k8 (fun _ h => h) (fun _ h => h))
                      have HN := G7.out.few M7.out.wal.ok
                      have d3 : w8.cell? ⟨b13, 3, none⟩ = some (.slice Ab nb Cb) := M8.out.row.cell 3
                      rcases hh with ⟨e1, hr3, hs3, g3⟩ | ⟨e1, e2, e3⟩ | ⟨e1, hlo, hcr⟩
                      · subst e1
                        have hst := run_string_src (P := Try.prog) (w := w8) 33 9 5 Try.underlying33 Try.underlying5 Try.underlying9 Ab bs Cb (HBY.out.1.keeps M8.out.k (fun _ _ _ => id))
                        obtain ⟨sx, hsx⟩ : ∃ s, strOf bs = s := ⟨_, rfl⟩
                        rw [HBY.out.2.2.2, hsx] at hst
                        obtain ⟨V1, hV1⟩ : ∃ V, w8.alloc (.cells #[.string sx] 9) = V := ⟨_, rfl⟩
                        have kv1 : Keeps (fun _ => False) w8 V1 := by rw [← hV1]; exact (Keeps.refl _ _).alloc _
                        have rv1 : V1.heap[w8.heap.size]? = some (.cells [Value.string sx].toArray 9 (0, 0)) := by rw [← hV1]; exact heap_alloc_new w8 _
                        have hbi := build_str12 sx w8
                        rw [hV1] at hbi
                        have HBI := Lib.hid hbi
                        obtain ⟨ih, zh, hih, hzh, hsh, hbh, hzsh⟩ := info_st12s
                        obtain ⟨A3, c4, w9, hrun, ho, hc⟩ := run_append_two (P := Try.prog) V1 w.heap.size 32 32 9 ih zh 16 Try.underlying32 hih hzh hsh hbh hzsh Aa na ca (svals12 l.rows) (kv1.owns TX8.out.all.own (fun _ _ => id)) ⟨w8.heap.size, 0, none⟩ 1 (.string sx) (World.news_of_block rv1) rfl (by have := TX8.out.all.len; omega) (by decide) (by have := M8.out.k.size; have := kv1.size; omega)
                        have HRUN := Lib.hid hrun
                        have AF := Lib.hid (Aft.appended (i := i) M8.out TX8.out g3 bs hr3 hs3 kv1 (by rw [hsx]; exact ho) hc 1 (by decide))
                        clear HAP hbi hih hzh hsh hbh hzsh hrun ho hc kv1 rv1 hV1 hsx hr3 hs3 g3 x8 k8 HN M8 TX8
                        go_wp2_with (first
                          | (refine wpList_buildSlice_run12 (by rfl) 32 1 0 (.tmp 98) (by rfl) _ _ (by rfl) HBI.out ?_)
                          | (refine wpList_append_run (by rfl) (.tmp 95) (.tmp 99) 32 32 (by rfl) _ _ _ w9 (by rfl) (by rfl) HRUN.out ?_)
                          | fail)
                        go_meet
                        exact ⟨0, l3, s3, _, As, ns, cs, A3, na + 1, c4, As, ns, cs, _, _, rfl, rfl, rfl, rfl, AF⟩
                      · subst e1 e2 e3
                        have AF := Lib.hid (Aft.calm M8.out TX8.out G7.out (by omega) 31 1 (by decide))
                        clear HAP x8 k8 HN M8 TX8
                        go_wp2_with fail
                        go_meet
                        exact ⟨31, _, _, F2, As, ns, cs, Aa, na, ca, As, ns, cs, _, _, rfl, rfl, rfl, rfl, AF⟩
                      · subst e1
                        have AF := Lib.hid (Aft.broken (Aa := Aa) (na := na) (ca := ca) M8.out TX8.out.sur TX8.out.sur hlo (hcr.more (Nat.le_succ _) (fun _ h => .inl h)) 1)
                        clear HAP x8 k8 HN M8 TX8 hcr hlo
                        go_wp2_with fail
                        go_meet
                        exact ⟨30, l3, s3, F2, As, ns, cs, Aa, na, ca, As, ns, cs, _, _, rfl, rfl, rfl, rfl, AF⟩
                  · subst hr
                    as_aux_lemma =>
                      have hap := sv_append w7 F2 p g l s2 7 16 (11 * i) i M7.out.wal G7.out (by omega) Ab Cb bs (HBY.out.1.keeps M7.out.k (fun _ _ _ => id)) ⟨HBY.out.2.1, HBY.out.2.2.1⟩ (by have := HBY.out.2.2.2; omega)
                      rw [HBY.out.2.2.2] at hap
                      have HAP := Lib.hid hap
                      clear hap
                      go_wp2_with fail
                      refine HAP.out.mono ?_
                      rintro e w8 ⟨x, l3, s3, rfl, x8, k8, hh⟩
                      have M8 := Lib.hid (M7.out.call x8 k8)
                      have TX8 := Lib.hid (TX7.out.keeps (G := F2) k8 (fun _ h => h) (fun _ h => h))
                      have HN := G7.out.few M7.out.wal.ok
                      have d3 : w8.cell? ⟨b13, 3, none⟩ = some (.slice Ab nb Cb) := M8.out.row.cell 3
                      rcases hh with ⟨e1, hr3, hs3, g3⟩ | ⟨e1, e2, e3⟩ | ⟨e1, hlo, hcr⟩
                      · subst e1
                        have hst := run_string_src (P := Try.prog) (w := w8) 33 9 5 Try.underlying33 Try.underlying5 Try.underlying9 Ab bs Cb (HBY.out.1.keeps M8.out.k (fun _ _ _ => id))
                        obtain ⟨sx, hsx⟩ : ∃ s, strOf bs = s := ⟨_, rfl⟩
                        rw [HBY.out.2.2.2, hsx] at hst
                        obtain ⟨V1, hV1⟩ : ∃ V, w8.alloc (.cells #[.string sx] 9) = V := ⟨_, rfl⟩
                        have kv1 : Keeps (fun _ => False) w8 V1 := by rw [← hV1]; exact (Keeps.refl _ _).alloc _
                        have rv1 : V1.heap[w8.heap.size]? = some (.cells [Value.string sx].toArray 9 (0, 0)) := by rw [← hV1]; exact heap_alloc_new w8 _
                        have hbi := build_str12 sx w8
                        rw [hV1] at hbi
                        have HBI := Lib.hid hbi
                        obtain ⟨ih, zh, hih, hzh, hsh, hbh, hzsh⟩ := info_st12s
                        obtain ⟨A3, c4, w9, hrun, ho, hc⟩ := run_append_two (P := Try.prog) V1 w.heap.size 32 32 9 ih zh 16 Try.underlying32 hih hzh hsh hbh hzsh Aa na ca (svals12 l.rows) (kv1.owns TX8.out.all.own (fun _ _ => id)) ⟨w8.heap.size, 0, none⟩ 1 (.string sx) (World.news_of_block rv1) rfl (by have := TX8.out.all.len; omega) (by decide) (by have := M8.out.k.size; have := kv1.size; omega)
                        have HRUN := Lib.hid hrun
                        have AF := Lib.hid (Aft.appended (i := i) M8.out TX8.out g3 bs hr3 hs3 kv1 (by rw [hsx]; exact ho) hc 2 (by decide))
                        clear HAP hbi hih hzh hsh hbh hzsh hrun ho hc kv1 rv1 hV1 hsx hr3 hs3 g3 x8 k8 HN M8 TX8
                        go_wp2_with (first
                          | (refine wpList_buildSlice_run12 (by rfl) 32 1 0 (.tmp 98) (by rfl) _ _ (by rfl) HBI.out ?_)
                          | (refine wpList_append_run (by rfl) (.tmp 95) (.tmp 99) 32 32 (by rfl) _ _ _ w9 (by rfl) (by rfl) HRUN.out ?_)
                          | fail)
                        go_meet
                        exact ⟨0, l3, s3, _, As, ns, cs, A3, na + 1, c4, As, ns, cs, _, _, rfl, rfl, rfl, rfl, AF⟩
                      · subst e1 e2 e3
                        have AF := Lib.hid (Aft.calm M8.out TX8.out G7.out (by omega) 31 2 (by decide))
                        clear HAP x8 k8 HN M8 TX8
                        go_wp2_with fail
                        go_meet
                        exact ⟨31, _, _, F2, As, ns, cs, Aa, na, ca, As, ns, cs, _, _, rfl, rfl, rfl, rfl, AF⟩
                      · subst e1
                        have AF := Lib.hid (Aft.broken (Aa := Aa) (na := na) (ca := ca) M8.out TX8.out.sur TX8.out.sur hlo (hcr.more (Nat.le_succ _) (fun _ h => .inl h)) 2)
                        clear HAP x8 k8 HN M8 TX8 hcr hlo
                        go_wp2_with fail
                        go_meet
                        exact ⟨30, l3, s3, F2, As, ns, cs, Aa, na, ca, As, ns, cs, _, _, rfl, rfl, rfl, rfl, AF⟩
                  · subst hr
                    as_aux_lemma =>
                      have hap := sv_append w7 F2 p g l s2 7 16 (11 * i) i M7.out.wal G7.out (by omega) Ab Cb bs (HBY.out.1.keeps M7.out.k (fun _ _ _ => id)) ⟨HBY.out.2.1, HBY.out.2.2.1⟩ (by have := HBY.out.2.2.2; omega)
                      rw [HBY.out.2.2.2] at hap
                      have HAP := Lib.hid hap
                      clear hap
                      go_wp2_with fail
                      refine HAP.out.mono ?_
                      rintro e w8 ⟨x, l3, s3, rfl, x8, k8, hh⟩
                      have M8 := Lib.hid (M7.out.call x8 k8)
                      have TX8 := Lib.hid (TX7.out.keeps (G := F2) k8 (fun _ h => h) (fun _ h => h))
                      have HN := G7.out.few M7.out.wal.ok
                      have d3 : w8.cell? ⟨b13, 3, none⟩ = some (.slice Ab nb Cb) := M8.out.row.cell 3
                      rcases hh with ⟨e1, hr3, hs3, g3⟩ | ⟨e1, e2, e3⟩ | ⟨e1, hlo, hcr⟩
                      · subst e1
                        have hst := run_string_src (P := Try.prog) (w := w8) 33 9 5 Try.underlying33 Try.underlying5 Try.underlying9 Ab bs Cb (HBY.out.1.keeps M8.out.k (fun _ _ _ => id))
                        obtain ⟨sx, hsx⟩ : ∃ s, strOf bs = s := ⟨_, rfl⟩
                        rw [HBY.out.2.2.2, hsx] at hst
                        obtain ⟨V1, hV1⟩ : ∃ V, w8.alloc (.cells #[.string sx] 9) = V := ⟨_, rfl⟩
                        have kv1 : Keeps (fun _ => False) w8 V1 := by rw [← hV1]; exact (Keeps.refl _ _).alloc _
                        have rv1 : V1.heap[w8.heap.size]? = some (.cells [Value.string sx].toArray 9 (0, 0)) := by rw [← hV1]; exact heap_alloc_new w8 _
                        have hbi := build_str12 sx w8
                        rw [hV1] at hbi
                        have HBI := Lib.hid hbi
                        obtain ⟨ih, zh, hih, hzh, hsh, hbh, hzsh⟩ := info_st12s
                        obtain ⟨A3, c4, w9, hrun, ho, hc⟩ := run_append_two (P := Try.prog) V1 w.heap.size 32 32 9 ih zh 16 Try.underlying32 hih hzh hsh hbh hzsh Aa na ca (svals12 l.rows) (kv1.owns TX8.out.all.own (fun _ _ => id)) ⟨w8.heap.size, 0, none⟩ 1 (.string sx) (World.news_of_block rv1) rfl (by have := TX8.out.all.len; omega) (by decide) (by have := M8.out.k.size; have := kv1.size; omega)
                        have HRUN := Lib.hid hrun
                        have AF := Lib.hid (Aft.appended (i := i) M8.out TX8.out g3 bs hr3 hs3 kv1 (by rw [hsx]; exact ho) hc 3 (by decide))
                        clear HAP hbi hih hzh hsh hbh hzsh hrun ho hc kv1 rv1 hV1 hsx hr3 hs3 g3 x8 k8 HN M8 TX8
                        go_wp2_with (first
                          | (refine wpList_buildSlice_run12 (by rfl) 32 1 0 (.tmp 98) (by rfl) _ _ (by rfl) HBI.out ?_)
                          | (refine wpList_append_run (by rfl) (.tmp 95) (.tmp 99) 32 32 (by rfl) _ _ _ w9 (by rfl) (by rfl) HRUN.out ?_)
                          | fail)
                        go_meet
                        exact ⟨0, l3, s3, _, As, ns, cs, A3, na + 1, c4, As, ns, cs, _, _, rfl, rfl, rfl, rfl, AF⟩
                      · subst e1 e2 e3
                        have AF := Lib.hid (Aft.calm M8.out TX8.out G7.out (by omega) 31 3 (by decide))
                        clear HAP x8 k8 HN M8 TX8
                        go_wp2_with fail
                        go_meet
                        exact ⟨31, _, _, F2, As, ns, cs, Aa, na, ca, As, ns, cs, _, _, rfl, rfl, rfl, rfl, AF⟩
                      · subst e1
                        have AF := Lib.hid (Aft.broken (Aa := Aa) (na := na) (ca := ca) M8.out TX8.out.sur TX8.out.sur hlo (hcr.more (Nat.le_succ _) (fun _ h => .inl h)) 3)
                        clear HAP x8 k8 HN M8 TX8 hcr hlo
                        go_wp2_with fail
                        go_meet
                        exact ⟨30, l3, s3, F2, As, ns, cs, Aa, na, ca, As, ns, cs, _, _, rfl, rfl, rfl, rfl, AF⟩
                  · subst hr
                    as_aux_lemma =>
                      have HSY := Lib.hid (sv_sync w7 F2 p g l s2 7 16 (11 * i) i M7.out.wal G7.out (by omega) (by omega))
                      go_wp2_with fail
                      refine HSY.out.mono ?_
                      rintro e w8 ⟨x, l3, s3, rfl, x8, k8, hh⟩
                      have M8 := Lib.hid (M7.out.call x8 k8)
                      have TX8 := Lib.hid (TX7.out.keeps (G := F2) k8 (fun _ h => h) (fun _ h => h))
                      rcases hh with ⟨e1, hr3, hs3, g3⟩ | ⟨e1, hlo, hcr⟩
                      · subst e1
                        have AF := Lib.hid (Aft.whole (i := i) M8.out (by rw [hr3]; exact TX8.out.all) (by rw [hs3, hr3]) TX8.out.all g3 (by omega) (by omega) 4 (by decide))
                        clear HSY x8 k8 M8 TX8 hr3 hs3 g3
                        go_wp2_with fail
                        go_meet
                        exact ⟨0, l3, s3, F2, Aa, na, ca, Aa, na, ca, Aa, na, ca, _, _, rfl, rfl, rfl, rfl, AF⟩
                      · subst e1
                        have AF := Lib.hid (Aft.broken (Aa := Aa) (na := na) (ca := ca) M8.out TX8.out.sur TX8.out.all hlo hcr 4)
                        clear HSY x8 k8 M8 TX8 hcr hlo
                        go_wp2_with fail
                        go_meet
                        exact ⟨30, l3, s3, F2, As, ns, cs, Aa, na, ca, Aa, na, ca, _, _, rfl, rfl, rfl, rfl, AF⟩
                  · subst hr
                    as_aux_lemma =>
                      have HSY := Lib.hid (sv_sync w7 F2 p g l s2 7 16 (11 * i) i M7.out.wal G7.out (by omega) (by omega))
                      go_wp2_with fail
                      refine HSY.out.mono ?_
                      rintro e w8 ⟨x, l3, s3, rfl, x8, k8, hh⟩
                      have M8 := Lib.hid (M7.out.call x8 k8)
                      have TX8 := Lib.hid (TX7.out.keeps (G := F2) k8 (fun _ h => h) (fun _ h => h))
                      rcases hh with ⟨e1, hr3, hs3, g3⟩ | ⟨e1, hlo, hcr⟩
                      · subst e1
                        have AF := Lib.hid (Aft.whole (i := i) M8.out (by rw [hr3]; exact TX8.out.all) (by rw [hs3, hr3]) TX8.out.all g3 (by omega) (by omega) 5 (by decide))
                        clear HSY x8 k8 M8 TX8 hr3 hs3 g3
                        go_wp2_with fail
                        go_meet
                        exact ⟨0, l3, s3, F2, Aa, na, ca, Aa, na, ca, Aa, na, ca, _, _, rfl, rfl, rfl, rfl, AF⟩
                      · subst e1
                        have AF := Lib.hid (Aft.broken (Aa := Aa) (na := na) (ca := ca) M8.out TX8.out.sur TX8.out.all hlo hcr 5)
                        clear HSY x8 k8 M8 TX8 hcr hlo
                        go_wp2_with fail
                        go_meet
                        exact ⟨30, l3, s3, F2, As, ns, cs, Aa, na, ca, Aa, na, ca, _, _, rfl, rfl, rfl, rfl, AF⟩
                  · subst hr
                    as_aux_lemma =>
                      have hbl : (bsOf rs).length = nr := by unfold bsOf; rw [List.length_map]; exact HRW.out.2.2.2
                      have htx := texts12_any R cR rs w7 (HRW.out.1.keeps M7.out.k (fun _ _ => id)) (by have := HFA2.out.1; omega)
                      rw [HRW.out.2.2.2] at htx
                      have HTX := Lib.hid htx
                      have HBL := Lib.hid hbl
                      clear htx hbl
                      go_wp2_with fail
                      refine HTX.out.mono ?_
                      rintro e w8 ⟨Am, cm, rfl, om, k8⟩
                      have M8 := Lib.hid (M7.out.aside k8 (fun k h => h.elim))
                      have TX8 := Lib.hid (TX7.out.keeps (G := cutW F2 w7.heap.size w8.heap.size) k8 (fun _ h => h.elim) (fun k h => h.1))
                      have T8 : Hid (Tx w8 w.heap.size (cutW F2 w7.heap.size w8.heap.size) Am nr cm (bsOf rs)) := Lib.hid ⟨own_base om M7.out.k.size, HBL.out, fun k hv hf => by
                        have := om.lt k hv
                        rcases hf.2 with h | h <;> omega⟩
                      obtain ⟨F4, hF4⟩ : ∃ G, cutW F2 w7.heap.size w8.heap.size = G := ⟨_, rfl⟩
                      rw [hF4] at M8 TX8 T8
                      have hcp := sv_compact w8 F4 p g l s2 7 16 (11 * i) i M8.out.wal G7.out (by omega) (by omega) (by omega) R cR rs (HRW.out.1.keeps M8.out.k (fun _ _ => id)) HFA2.out.1 HFA2.out.2
                      rw [HRW.out.2.2.2] at hcp
                      have HCP := Lib.hid hcp
                      have d2 : w8.cell? ⟨b13, 2, none⟩ = some (.slice R nr cR) := M8.out.row.cell 2
                      clear HTX om k8 hF4 hcp c0 c2 c3
                      go_wp2_with fail
                      refine HCP.out.mono ?_
                      rintro e w9 ⟨x, l3, s3, rfl, x9, k9, hh⟩
                      have M9 := Lib.hid (M8.out.call x9 k9)
                      have TX9 := Lib.hid (TX8.out.keeps (G := F4) k9 (fun _ h => h) (fun _ h => h))
                      have T9 := Lib.hid (T8.out.keeps (G := F4) k9 (fun _ h => h) (fun _ h => h))
                      clear HCP M8 TX8 T8 d2
                      rcases hh with ⟨e1, hr3, hs3, g3⟩ | ⟨e1, e2, e3⟩ | ⟨e1, hlo, hcr⟩
                      · subst e1
                        have htx := texts12_any R cR rs w9 (HRW.out.1.keeps M9.out.k (fun _ _ => id)) (by have := HFA2.out.1; omega)
                        rw [HRW.out.2.2.2] at htx
                        have HTX := Lib.hid htx
                        have d2 : w9.cell? ⟨b13, 2, none⟩ = some (.slice R nr cR) := M9.out.row.cell 2
                        have L3 := Lib.hid (And.intro hr3 (And.intro hs3 g3))
                        clear htx x9 k9 hr3 hs3 g3
                        go_wp2_with fail
                        refine HTX.out.mono ?_
                        rintro e wa ⟨Ac, cc, rfl, oc, ka⟩
                        have T1 : Tx wa w.heap.size (cutW F4 w9.heap.size wa.heap.size) Ac nr cc l3.rows := ⟨by rw [L3.out.1]; exact own_base oc M9.out.k.size, by rw [L3.out.1]; exact HBL.out, fun k hv hf => by
                          have := oc.lt k hv
                          rcases hf.2 with h | h <;> omega⟩
                        have AF := Lib.hid (Aft.whole (i := i) (M9.out.aside ka (fun k h => h.elim)) T1 (by have h1 := L3.out.2.1; have h2 := HRW.out.2.2.2; have h3 := HBL.out; rw [L3.out.1]; omega) (T9.out.keeps (G := cutW F4 w9.heap.size wa.heap.size) ka (fun _ h => h.elim) (fun _ h => h.1)) L3.out.2.2 (by omega) (by omega) 6 (by decide))
                        clear HTX oc ka T1 L3 d2 M9 TX9 T9
                        go_wp2_with fail
                        go_meet
                        exact ⟨0, l3, s3, _, Ac, nr, cc, Ac, nr, cc, Am, nr, cm, _, _, rfl, rfl, rfl, rfl, AF⟩
                      · subst e1 e2 e3
                        have AF := Lib.hid (Aft.calm M9.out TX9.out G7.out (by omega) 31 6 (by decide))
                        clear x9 k9 M9 TX9 T9
                        go_wp2_with fail
                        go_meet
                        exact ⟨31, _, _, F4, As, ns, cs, Aa, na, ca, As, ns, cs, _, _, rfl, rfl, rfl, rfl, AF⟩
                      · subst e1
                        have AF := Lib.hid (Aft.broken (Aa := Aa) (na := na) (ca := ca) M9.out TX9.out.sur T9.out hlo hcr 6)
                        clear x9 k9 M9 TX9 T9 hcr hlo
                        go_wp2_with fail
                        go_meet
                        exact ⟨30, l3, s3, F4, As, ns, cs, Aa, na, ca, Am, nr, cm, _, _, rfl, rfl, rfl, rfl, AF⟩
                  · have z0 : (r == 0) = false := by simpa using hr.1
                    have z1 : (r == 1) = false := by simpa using hr.2.1
                    have z2 : (r == 2) = false := by simpa using hr.2.2.1
                    have z3 : (r == 3) = false := by simpa using hr.2.2.2.1
                    have z4 : (r == 4) = false := by simpa using hr.2.2.2.2.1
                    have z5 : (r == 5) = false := by simpa using hr.2.2.2.2.2.1
                    have z6 : (r == 6) = false := by simpa using hr.2.2.2.2.2.2
                    have AF := Lib.hid (Aft.calm M7.out TX7.out G7.out (by omega) 0 r (by decide))
                    clear M7 TX7 G7
                    go_wp2_with fail
                    go_meet
                    exact ⟨0, l, s2, F2, As, ns, cs, Aa, na, ca, As, ns, cs, _, _, rfl, rfl, rfl, rfl, AF⟩
                case rest =>
                  obtain ⟨x, l3, s3, F3, As3, ns3, cs3, Aa3, na3, ca3, Am, nm, cm, R1, R2, rfl, rfl, rfl, rfl, AF⟩ := hcut
                  obtain ⟨w8, hw8⟩ : ∃ V, V = wc := ⟨_, rfl⟩
                  subst hw8
                  clear M7 TX7 G7 c0 c2 c3
                  have c0 : w8.cell? ⟨b13, 0, none⟩ = some (.int .i64 kd) := AF.out.mid.row.cell 0
                  go_upto_region 45 with fail
                  go_cut [135] (fun qv wx => ∃ q : Bool, qv = .bool q ∧ Dn q x r ∧ w8 = wx)
                  case first =>
                    as_aux_lemma =>
                      by_cases hx : x = 30
                      · subst hx
                        have HQ : Dn true 30 r := ⟨fun _ => .inl rfl, fun h => (by cases h)⟩
                        go_wp2_with fail
                        go_meet
                        exact ⟨true, rfl, HQ, rfl⟩
                      · have hxb : (x == 30) = false := by simpa using hx
                        by_cases hr : r = 7
                        · subst hr
                          have HQ : Dn true x 7 := ⟨fun _ => .inr rfl, fun h => (by cases h)⟩
                          go_wp2_with fail
                          go_meet
                          exact ⟨true, rfl, HQ, rfl⟩
                        · have hrb : (r == 7) = false := by simpa using hr
                          have HQ : Dn false x r := ⟨fun h => (by cases h), fun _ => hx⟩
                          go_wp2_with fail
                          go_meet
                          exact ⟨false, rfl, HQ, rfl⟩
                  case rest =>
                    obtain ⟨q, rfl, HQ, hwc⟩ := hcut
                    obtain rfl : w8 = wc := hwc
                    clear c0 hand7
                    go_upto_if 135 with fail
                    go_cut [8, 10, 11] (fun lv sv av wx => ∃ (p2 : Nat) (l4 : Wl.St) (s4 : Dk.St) (F4 : Nat → Prop) (As4 : Option Addr) (ns4 cs4 : Nat) (Aa4 : Option Addr) (na4 ca4 : Nat), lv = .pointer (some ⟨p2, 0, none⟩) ∧ sv = .slice As4 ns4 cs4 ∧ av = .slice Aa4 na4 ca4 ∧ Hid (Mid w b13 [.int .i64 kd, .int .i64 qn, .slice R nr cR, .slice Ab nb Cb] wx F4 p2 g l4 s4) ∧ Hid (TxAt wx w.heap.size F4 l4 Aa4 na4 ca4 As4 ns4 cs4) ∧ Hid (GI l4 s4 7 16 (11 * (i + 1)) (i + 1)))
                    case first =>
                      cases q with
                      | false =>
                        have UP := AF.out.up (HQ.u rfl)
                        have UM := Lib.hid AF.out.mid
                        have U1 := Lib.hid UP.1
                        have U2 := Lib.hid UP.2
                        clear UP AF HQ
                        go_wp2_with fail
                        go_meet
                        exact ⟨p, l3, s3, F3, As3, ns3, cs3, Aa3, na3, ca3, rfl, rfl, rfl, UM, U2, U1⟩
                      | true =>
                        as_aux_lemma =>
                          have hdn := AF.out.down (HQ.d rfl)
                          have hcr := sv_crash w8 F3 p g l3 s3 7 16 (i + 1) _ AF.out.mid.wal hdn.2 (by omega) fA fC fs (HFS.out.1.keeps AF.out.mid.k (fun _ _ _ => id)) (fun a ha h0 hf => by have := src_block12 HFS.out.1 a ha h0; have := AF.out.mid.f _ hf; omega) (by have := HFS.out.2.2; omega)
                          rw [HFS.out.2.2] at hcr
                          have HCR := Lib.hid hcr
                          have cf8 : w8.cell? (at_.add i) = some (.slice fA nf fC) := HCF.out w8 AF.out.mid.k
                          clear hdn hcr
                          go_wp2_with fail
                          refine HCR.out.mono ?_
                          rintro e w9 ⟨l4, s4, rfl, hP, hsu, d9, clo9, g4, k9⟩
                          have HOP := Lib.hid (sv_open w9 F3 g l4 s4 7 16 0 (i + 1) d9 clo9 g4 hsu rfl (by omega))
                          have HP := Lib.hid hP
                          have L4 := Lib.hid (And.intro hsu g4)
                          have K9 := Lib.hid k9
                          clear HCR hP hsu d9 clo9 g4 k9 cf8
                          go_wp2_with fail
                          refine HOP.out.mono ?_
                          rintro e wa ⟨p2, rfl, hp2, xa, ka⟩
                          have k9a : Keeps F3 w8 wa := K9.out.trans (ka.mono (fun _ _ h => h.elim))
                          have MA := Lib.hid (AF.out.mid.call xa k9a)
                          have T1 := Lib.hid (AF.out.t1.keeps (G := F3) k9a (fun _ h => h) (fun _ h => h))
                          have T2 := Lib.hid (AF.out.t2.keeps (G := F3) k9a (fun _ h => h) (fun _ h => h))
                          obtain ⟨n4, hn4⟩ : ∃ n, l4.rows.length = n := ⟨_, rfl⟩
                          have HN4 : Hid (l4.rows.length = n4 ∧ n4 ≤ 224) := Lib.hid ⟨hn4, by have := L4.out.2.few xa.ok; omega⟩
                          have HRE := Lib.hid (tl_records wa F3 p2 g l4 s4 xa n4 hn4)
                          clear HOP hp2 xa ka k9a hn4 K9 AF HQ
                          go_wp2_with fail
                          refine HRE.out.mono ?_
                          rintro e wb ⟨Ar, cr, rr, rfl, hrl, hrb, hra, kb⟩
                          have hsm := same12_any Ar Am n4 nm cr cm w.heap.size rr R2 wb hra hrl T2.out.len (T2.out.keeps (G := F3) kb (fun _ h => h.elim) (fun _ h => h)).own (by have := HN4.out.2; omega)
                          obtain ⟨dd, hdd⟩ : ∃ d, decide (bsOf rr = R2) = d := ⟨_, rfl⟩
                          rw [hdd] at hsm
                          have HSM := Lib.hid hsm
                          have HDD := Lib.hid (And.intro hdd hrb)
                          have MB := Lib.hid (MA.out.still kb)
                          have KB := Lib.hid kb
                          clear HRE hsm hdd hrl hrb hra kb MA
                          go_wp2_with fail
                          refine HSM.out.mono ?_
                          rintro e wd ⟨rfl, kdd⟩
                          have MD := Lib.hid (MB.out.still kdd)
                          have KD := Lib.hid (KB.out.trans kdd)
                          have T1D := Lib.hid (T1.out.keeps (G := F3) KD.out (fun _ h => h.elim) (fun _ h => h))
                          have T2D := Lib.hid (T2.out.keeps (G := F3) KD.out (fun _ h => h.elim) (fun _ h => h))
                          clear HSM MB KB kdd T1 T2 KD
                          go_upto_if 152 with fail
                          go_cut [10] (fun sv wx => ∃ (A5 : Option Addr) (n5 c5 : Nat), sv = .slice A5 n5 c5 ∧ Hid (Tx wd w.heap.size F3 A5 n5 c5 l4.rows) ∧ wd = wx)
                          case first =>
                            cases dd with
                            | true =>
                              have T5 : Hid (Tx wd w.heap.size F3 Am nm cm l4.rows) := Lib.hid (by
                                have h := HDD.out.1
                                rw [decide_eq_true_eq] at h
                                rw [← HDD.out.2, h]
                                exact T2D.out)
                              clear T1D T2D
                              go_wp2_with fail
                              go_meet
                              exact ⟨Am, nm, cm, rfl, T5, rfl⟩
                            | false =>
                              have T5 : Hid (Tx wd w.heap.size F3 As3 ns3 cs3 l4.rows) := Lib.hid (by
                                have h := HDD.out.1
                                rw [decide_eq_false_iff_not] at h
                                rcases HP.out with h1 | h1
                                · rw [h1]; exact T1D.out
                                · exact absurd (HDD.out.2.trans h1) h)
                              clear T1D T2D
                              go_wp2_with fail
                              go_meet
                              exact ⟨As3, ns3, cs3, rfl, T5, rfl⟩
                          case rest =>
                            obtain ⟨A5, n5, c5, rfl, T5, hwc⟩ := hcut
                            obtain rfl : wd = wc := hwc
                            have HN5 : Hid (n4 = n5 ∧ n5 ≤ 224) := Lib.hid (by have := HN4.out; have := T5.out.len; omega)
                            have HRE := Lib.hid (tl_records wd F3 p2 g l4 s4 MD.out.wal n5 T5.out.len)
                            clear T1D T2D HDD HN4 HP
                            go_wp2_with fail
                            refine HRE.out.mono ?_
                            rintro e we ⟨Ar2, cr2, rr2, rfl, hrl, hrb, hra, ke⟩
                            have hsm := same12_any Ar2 A5 n5 n5 cr2 c5 w.heap.size rr2 l4.rows we hra hrl T5.out.len (T5.out.keeps (G := F3) ke (fun _ h => h.elim) (fun _ h => h)).own (by have := HN5.out.2; omega)
                            rw [decide_eq_true hrb] at hsm
                            have HSM := Lib.hid hsm
                            have KE := Lib.hid ke
                            clear HRE hsm hrl hrb hra ke
                            go_wp2_with fail
                            refine HSM.out.mono ?_
                            rintro e wf ⟨rfl, kf⟩
                            have MF := Lib.hid (MD.out.still (KE.out.trans kf))
                            have T5F := Lib.hid (T5.out.keeps (G := F3) (KE.out.trans kf) (fun _ h => h.elim) (fun _ h => h))
                            have HOP := Lib.hid (sv_open wf F3 g l4 s4 7 16 0 (i + 1) MF.out.wal.disk MF.out.wal.clo L4.out.2 L4.out.1 rfl (by omega))
                            clear HSM KE kf T5 MD
                            go_wp2_with fail
                            refine HOP.out.mono ?_
                            rintro e wg ⟨p3, rfl, hp3, xg, kg⟩
                            have MG := Lib.hid (MF.out.still kg)
                            have T5G := Lib.hid (T5F.out.keeps (G := F3) kg (fun _ h => h.elim) (fun _ h => h))
                            have XG := Lib.hid xg
                            have HRE := Lib.hid (tl_records wg F3 p3 g l4 s4 xg n5 T5F.out.len)
                            clear HOP hp3 xg kg MF T5F
                            go_wp2_with fail
                            refine HRE.out.mono ?_
                            rintro e wh ⟨Ar3, cr3, rr3, rfl, hrl, hrb, hra, kh⟩
                            have hsm := same12_any Ar3 A5 n5 n5 cr3 c5 w.heap.size rr3 l4.rows wh hra hrl T5G.out.len (T5G.out.keeps (G := F3) kh (fun _ h => h.elim) (fun _ h => h)).own (by have := HN5.out.2; omega)
                            rw [decide_eq_true hrb] at hsm
                            have HSM := Lib.hid hsm
                            have KH := Lib.hid kh
                            clear HRE hsm hrl hrb hra kh
                            go_wp2_with fail
                            refine HSM.out.mono ?_
                            rintro e wi ⟨rfl, ki⟩
                            have MI := Lib.hid (MG.out.still (KH.out.trans ki))
                            have T5I := Lib.hid (T5G.out.keeps (G := F3) (KH.out.trans ki) (fun _ h => h.elim) (fun _ h => h))
                            have XI := Lib.hid (XG.out.still (KH.out.trans ki))
                            have hsu := wsure_any wi F3 p3 g l4 XI.out.log
                            rw [L4.out.1, T5I.out.len] at hsu
                            have HSU := Lib.hid hsu
                            clear HSM KH ki MG T5G XG hsu
                            go_wp2_with fail
                            refine HSU.out.mono ?_
                            rintro e wx ⟨rfl, hx⟩
                            obtain rfl : wi = wx := hx.symm
                            obtain ⟨fr, hfr⟩ : ∃ n : Int, ((256 * l4.k - (Wl.hv l4).length : Nat) : Int) = n := ⟨_, rfl⟩
                            have hfe := wfree_any wi F3 p3 g l4 XI.out.log
                            have hff := fun (V : World) (hV : Keeps (fun _ => False) wi V) => wfree_any V F3 p2 g l4 (MI.out.wal.still hV).log
                            rw [hfr] at hfe
                            simp only [hfr] at hff
                            have HFE := Lib.hid hfe
                            have HFF := Lib.hid hff
                            clear HSU hfe hff hfr hx
                            go_wp2_with fail
                            refine HFE.out.mono ?_
                            rintro e wj ⟨rfl, kj⟩
                            have HFG := Lib.hid (HFF.out wj kj)
                            have KJ := Lib.hid kj
                            clear HFE HFF kj
                            go_wp2_with fail
                            refine HFG.out.mono ?_
                            rintro e wk ⟨rfl, kk⟩
                            have MK := Lib.hid (MI.out.still (KJ.out.trans kk))
                            have T5K := Lib.hid (T5I.out.keeps (G := F3) (KJ.out.trans kk) (fun _ h => h.elim) (fun _ h => h))
                            clear HFG KJ kk MI T5I XI
                            go_wp2_with fail
                            go_meet
                            exact ⟨p2, l4, s4, F3, A5, n5, c5, A5, n5, c5, rfl, rfl, rfl, MK, Lib.hid (TxAt.both T5K.out L4.out.1), Lib.hid (L4.out.2.more (by omega) (Nat.le_refl _))⟩
                    case rest =>
                      as_aux_lemma =>
                        obtain ⟨p2, l4, s4, F4, As4, ns4, cs4, Aa4, na4, ca4, rfl, rfl, rfl, M4, TX4, G4⟩ := hcut
                        obtain ⟨w9, hw9⟩ : ∃ V, V = wc := ⟨_, rfl⟩
                        subst hw9
                        clear AF HQ
                        have HFL := Lib.hid (sv_fail w9 F4 p2 g l4 s4 (-1) M4.out.wal (by omega))
                        go_wp2_with fail
                        refine HFL.out.mono ?_
                        rintro e wa ⟨s5, rfl, xa, ka, hgi⟩
                        have MA := Lib.hid (M4.out.call xa ka)
                        have TXA := Lib.hid (TX4.out.keeps (G := F4) ka (fun _ h => h) (fun _ h => h))
                        have GA := Lib.hid (hgi _ _ _ _ G4.out)
                        have HRE := Lib.hid (tl_records wa F4 p2 g l4 s5 xa na4 TXA.out.all.len)
                        clear HFL xa ka hgi M4 TX4 G4
                        go_wp2_with fail
                        refine HRE.out.mono ?_
                        rintro e wb ⟨Ar, cr, rr, rfl, hrl, hrb, hra, kb⟩
                        have hsm := same12_any Ar Aa4 na4 na4 cr ca4 w.heap.size rr l4.rows wb hra hrl TXA.out.all.len (TXA.out.keeps (G := F4) kb (fun _ h => h.elim) (fun _ h => h)).all.own (by have := GA.out.few MA.out.wal.ok; have := TXA.out.all.len; omega)
                        rw [decide_eq_true hrb] at hsm
                        have HSM := Lib.hid hsm
                        have KB := Lib.hid kb
                        clear HRE hsm hrl hrb hra kb
                        go_wp2_with fail
                        refine HSM.out.mono ?_
                        rintro e wd ⟨rfl, kdd⟩
                        have MD := Lib.hid (MA.out.still (KB.out.trans kdd))
                        have TXD := Lib.hid (TXA.out.keeps (G := F4) (KB.out.trans kdd) (fun _ h => h.elim) (fun _ h => h))
                        have hsu := wsure_any wd F4 p2 g l4 MD.out.wal.log
                        rw [TXD.out.sure] at hsu
                        have HSU := Lib.hid hsu
                        have hle4 : ¬ (na4 : Int) < (ns4 : Int) := by have := TXD.out.le; omega
                        clear HSM KB kdd hsu MA TXA
                        go_wp2_with fail
                        refine HSU.out.mono ?_
                        rintro e wx ⟨rfl, hx⟩
                        obtain rfl : wd = wx := hx.symm
                        have X5 := Lib.hid MD.out.wal
                        have HF5 := Lib.hid MD.out.f
                        have K5 := Lib.hid MD.out.k
                        clear HSU hx MD
                        go_wp2_with fail
                        go_roundg (20 - (i + 1))
                        case measure => have := HGK.out; omega
                        case rel => exact ⟨i + 1, p2, na4, ca4, ns4, cs4, Aa4, As4, F4, l4, s5, rfl, by omega, by omega, rfl, rfl, rfl, by go_num, X5, HF5, TXD, GA, K5⟩
            · have hf32 : (30 : Int) < (nf : Int) := by omega
              go_wp2
              go_ret
              exact ⟨rfl, K6.out⟩
          · have hb62 : (600 : Int) < (nb : Int) := by omega
            go_wp2
            go_ret
            exact ⟨rfl, K6.out⟩
      · obtain rfl : i = 20 := by omega
        go_wp2
        go_ret
        exact ⟨rfl, K.out⟩
    · obtain rfl : i = len := by omega
      go_wp2
      go_ret
      exact ⟨rfl, K.out⟩
end Go.Proofs.Ytnhegnncmjmafaa
