/-
  The document's own signature (assayerref07.Sign). WRITTEN BY wip/gen/mklbb.py.
-/
import Derived.Test.YtgbajlmcoghofaaDoorLbC
import Derived.Test.YtgbajlmcoghofaaDoorLaF
namespace Go.Proofs.YtgbajlmcoghofaaDoor
open Go.RowKit Go.BigFrame
set_option linter.unusedVariables false

set_option maxRecDepth 100000 in
set_option maxHeartbeats 3000000 in
theorem rsign_any (seed : List UInt8) (i : Int) (xs : List UInt8) (w : World) (hs : seed.length = 32) (hxs : xs.length ≤ 5000) :
    Calls Tryd.prog 10 #[.agg (bvs seed).toArray, .int .i64 i, .string (strOf xs)] w fun e w' => ∃ A c, e = .returned (.slice A 128 c) ∧ w'.ownsRow w.heap.size 23 32 (.slice A 128 c) 128 (bvs (Lm.sign seed i xs)) ∧ Keeps (fun _ => False) w w' := by
  obtain ⟨Z, hZ⟩ : ∃ Z : Array Value, (bvs (List.replicate 32 0)).toArray = Z := ⟨_, rfl⟩
  have hz : ∀ w : World, (zeroValue 23).run Tryd.prog w = .ok (.agg Z) w := fun w => by rw [← hZ]; exact zero_hash w
  have hzs : Z.size = 32 := by subst hZ; rfl
  obtain ⟨i0, z0, hi, hz0, hz1, hz2, hz3⟩ := info_hash'
  have HI := Lib.hid (And.intro hi (And.intro hz0 (And.intro hz1 (And.intro hz2 hz3))))
  obtain ⟨a1, a2, a3⟩ := hash_arr seed hs
  have hsec := fun (k v : Nat) (V : World) (hk : k < 64) (hv : v < 2) => rsecret_any seed i k v V hs hk hv
  obtain ⟨g, hg⟩ : ∃ g, Sh.sha xs = g := ⟨_, rfl⟩
  have hgl : g.length = 32 := by rw [← hg]; exact Sh.sha_length _
  obtain ⟨f, hf⟩ : ∃ f, Lm.sigs seed i g = f := ⟨_, rfl⟩
  have hfl : ∀ j, (f j).length = 32 := fun j => by rw [← hf]; exact Lm.sigs_length _ _ _ _
  have hown : ∀ k v, v < 2 → Lm.bit g k = v → f (2 * k + v) = Lm.sec seed i k v := fun k v hv hb => by rw [← hf]; exact sigs_own seed i g k v hv hb
  have hoth : ∀ k u, u < 2 → u ≠ Lm.bit g k → f (2 * k + u) = Lm.opn (Lm.sec seed i k u) := fun k u hu hb => by rw [← hf]; exact sigs_other seed i g k u hu hb
  have hsign : Lm.sign seed i xs = Lm.cat f 128 := by unfold Lm.sign; rw [hg, hf]
  rw [hsign]
  have hof := fun V => rof_any xs V hxs
  rw [hg] at hof
  obtain ⟨g1, g2, g3⟩ := hash_arr g hgl
  have hval := fun (k : Nat) (V : World) (hk : k < 64) => rvalue_any g k V hgl hk
  obtain ⟨GA, hGA⟩ : ∃ X : Array Value, (bvs g).toArray = X := ⟨_, rfl⟩
  rw [hGA] at hof g1 g2 g3 hval
  obtain ⟨X, hX⟩ : ∃ X : Array Value, (bvs seed).toArray = X := ⟨_, rfl⟩
  rw [hX] at a1 hsec
  rw [hX]
  obtain ⟨st, hst⟩ : ∃ s, strOf xs = s := ⟨_, rfl⟩
  rw [hst] at hof
  rw [hst]
  obtain ⟨W1, hW1⟩ : ∃ V, w.alloc (.cells X 23) = V := ⟨_, rfl⟩
  have k1 : Keeps (fun _ => False) w W1 := by rw [← hW1]; exact (Keeps.refl _ _).alloc _
  have r1 : W1.heap[w.heap.size]? = some (.cells X 23 (0, 0)) := by rw [← hW1]; exact heap_alloc_new w _
  have bw : w.heap.size < W1.heap.size := by rw [← hW1]; simp
  have K1 := Lib.hid k1
  have R1 := Lib.hid r1
  have SX := Lib.hid a1
  have HOF := Lib.hid (hof W1)
  have G1 := Lib.hid g1
  have G2 := Lib.hid (hzs.trans g2.symm)
  have G3 := Lib.hid g3
  have HZS := Lib.hid hzs
  have HSEC := Lib.hid hsec
  have HVAL := Lib.hid hval
  have HFL := Lib.hid hfl
  have HOWN := Lib.hid hown
  have HOTH := Lib.hid hoth
  obtain ⟨bw0, hbw0⟩ : ∃ b, w.heap.size = b := ⟨_, rfl⟩
  clear a1 a2 a3 g1 g2 g3 hX hGA hZ hzs k1 r1 hs hsec hval hfl hown hoth hf hg hgl hsign hof hst hi hz0 hz1 hz2 hz3 hxs
  go_enter Tryd.func10, Tryd.ntmps10
  go_wp2_with fail
  refine HOF.out.mono ?_
  rintro e w2 ⟨rfl, k2⟩
  obtain ⟨gh, hgh⟩ : ∃ g, w2.heap.size = g := ⟨_, rfl⟩
  obtain ⟨Wa, hWa⟩ : ∃ V, w2.alloc (.cells Z 23) = V := ⟨_, rfl⟩
  obtain ⟨Wb, hWb⟩ : ∃ V, Wa.setRow gh GA = V := ⟨_, rfl⟩
  have ra : Wa.heap[gh]? = some (.cells Z 23 (0, 0)) := by rw [← hWa, ← hgh]; exact heap_alloc_new w2 _
  have rb : Wb.heap[gh]? = some (.cells GA 23 (0, 0)) := by rw [← hWb]; exact setRow_heap _ _ _ _ _ _ ra
  have kab : Keeps (fun _ => False) w2 Wb := by
    have ka : Keeps (fun _ => False) w2 Wa := by rw [← hWa]; exact (Keeps.refl _ _).alloc _
    have kb : Keeps (fun q => q = gh) Wa Wb := by rw [← hWb]; exact Keeps.setRow _ _
    exact ka.trans' kb (fun i hi e => by omega)
  have RB := Lib.hid rb
  have RA := Lib.hid ra
  have KB := Lib.hid ((K1.out.trans k2).trans kab)
  have RXB : Hid (Wb.heap[bw0]? = some (.cells X 23 (0, 0))) := Lib.hid (by rw [← hbw0]; exact ((k2.trans kab).block _ (Array.getElem?_eq_some_iff.1 R1.out).1 id).trans R1.out)
  obtain ⟨b0, hb0⟩ : ∃ b, Wb.heap.size = b := ⟨_, rfl⟩
  have HB0 : Hid (b0 ≤ Wb.heap.size) := Lib.hid (by omega)
  have HB1 : Hid (Wb.heap.size ≤ b0) := Lib.hid (by omega)
  clear hb0
  clear ra rb kab k2 K1 R1 HOF
  go_wp2_with (refine wpList_store_row rfl 23 _ _ rfl gh GA rfl rfl 23 Z RA.out G1.out G2.out G3.out ?_; rw [hWb])
  clear RA G2 G3 hWa hWb hgh
  go_loopw [8, 9] (fun ov kv wr => ∃ (k : Nat) (A : Option Addr) (k2 c : Nat), k ≤ 64 ∧ Hid (k2 = 2 * k) ∧ kv = .int .i64 k ∧ ov = .slice A k2 c ∧ Hid (wr.ownsRow b0 23 32 (.slice A k2 c) k2 (bvs (Lm.cat f k2))) ∧ Hid (Keeps (fun q => b0 ≤ q) Wb wr)) (fun _ kv _ => 64 - (intOf kv).toNat)
  case atStart => exact ⟨0, none, 0, 0, by omega, Lib.hid rfl, rfl, rfl, Lib.hid (World.ownsRow_nil _ _ _ _), Lib.hid (Keeps.refl _ _)⟩
  case round =>
    obtain ⟨k, A, k2, c, hk, HK2, rfl, rfl, HO, HK⟩ := hrel
    by_cases hlt : k < 64
    · have hki : (k : Int) < 64 := by omega
      obtain ⟨v, hbv⟩ : ∃ v, Lm.bit g k = v := ⟨_, rfl⟩
      have hlv : v < 2 := by rw [← hbv]; exact Lm.bit_lt _ _
      have hv := HVAL.out k wr hlt
      rw [hbv] at hv
      have HV := Lib.hid hv
      have HBV := Lib.hid hbv
      have RH : Hid (wr.heap[gh]? = some (.cells GA 23 (0, 0))) := Lib.hid ((HK.out.block _ (Array.getElem?_eq_some_iff.1 RB.out).1 (by have := HB1.out; have := (Array.getElem?_eq_some_iff.1 RB.out).1; omega)).trans RB.out)
      clear hv hbv
      go_wp2_with (refine wpList_load_row rfl 23 _ rfl gh rfl 23 GA (0, 0) _ RH.out Tryd.underlying23 rfl G1.out ?_)
      refine HV.out.mono ?_
      rintro e w4 ⟨rfl, k4⟩
      have HO4 := Lib.hid (k4.owns HO.out (fun _ _ => id))
      have HK4 : Hid (Keeps (fun q => b0 ≤ q) Wb w4) := Lib.hid (HK.out.trans' k4 (fun _ _ h => h.elim))
      clear k4 HO HK HV RH
      go_wp2_with fail
      go_loopw [8, 11] (fun ov tv wr => ∃ (t : Nat) (A : Option Addr) (j c : Nat), t ≤ 2 ∧ Hid (j = k2 + t) ∧ tv = .int .i64 t ∧ ov = .slice A j c ∧ Hid (wr.ownsRow b0 23 32 (.slice A j c) j (bvs (Lm.cat f j))) ∧ Hid (Keeps (fun q => b0 ≤ q) Wb wr)) (fun _ tv _ => 2 - (intOf tv).toNat)
      case atStart => exact ⟨0, A, k2, c, by omega, Lib.hid rfl, rfl, rfl, HO4, HK4⟩
      case round =>
        clear HO4 HK4
        obtain ⟨t, A, j, c, ht, HJ, rfl, rfl, HOW, HK⟩ := hrel
        by_cases hlt2 : t < 2
        · have hti : (t : Int) < 2 := by omega
          have hj128 : j ≤ 127 := by have := HJ.out; have := HK2.out; omega
          have hfj : j = 2 * k + t := by rw [HJ.out, HK2.out]
          have hnx : Lm.cat f (j + 1) = Lm.cat f j ++ f j := Lm.cat_succ _ _
          have hsc := HSEC.out k t wr hlt hlt2
          obtain ⟨e1, he1⟩ : ∃ e, Lm.sec seed i k t = e := ⟨_, rfl⟩
          have he1l : e1.length = 32 := by rw [← he1]; exact Lm.sec_length _ _ _ _
          rw [he1] at hsc
          obtain ⟨x1, x2, x3⟩ := hash_arr e1 he1l
          obtain ⟨ED, hED⟩ : ∃ L, bvs e1 = L := ⟨_, rfl⟩
          rw [hED] at hsc x1 x2 x3
          have HSC := Lib.hid hsc
          have X1 := Lib.hid x1
          have X2 := Lib.hid (HZS.out.trans x2.symm)
          have X3 := Lib.hid x3
          have HE1 := Lib.hid he1
          have HE1L := Lib.hid he1l
          have HED := Lib.hid hED
          have HFJ := Lib.hid hfj
          have RXW : Hid (wr.heap[bw0]? = some (.cells X 23 (0, 0))) := Lib.hid ((HK.out.block _ (Array.getElem?_eq_some_iff.1 RXB.out).1 (by have := HB1.out; have := (Array.getElem?_eq_some_iff.1 RXB.out).1; omega)).trans RXB.out)
          have HNX' := Lib.hid hnx
          clear hsc x1 x2 x3 he1 he1l hED hfj hnx
          go_wp2_with (refine wpList_load_row rfl 23 _ rfl bw0 rfl 23 X (0, 0) _ RXW.out Tryd.underlying23 rfl SX.out ?_)
          refine HSC.out.mono ?_
          rintro e w5 ⟨rfl, k5⟩
          obtain ⟨gx, hgx⟩ : ∃ g, w5.heap.size = g := ⟨_, rfl⟩
          obtain ⟨Wc, hWc⟩ : ∃ V, w5.alloc (.cells Z 23) = V := ⟨_, rfl⟩
          obtain ⟨Wd, hWd⟩ : ∃ V, Wc.setRow gx ED.toArray = V := ⟨_, rfl⟩
          have rc : Wc.heap[gx]? = some (.cells Z 23 (0, 0)) := by rw [← hWc, ← hgx]; exact heap_alloc_new w5 _
          have rd : Wd.heap[gx]? = some (.cells ED.toArray 23 (0, 0)) := by rw [← hWd]; exact setRow_heap _ _ _ _ _ _ rc
          have kc : Keeps (fun _ => False) w5 Wc := by rw [← hWc]; exact (Keeps.refl _ _).alloc _
          have kd : Keeps (fun q => q = gx) Wc Wd := by rw [← hWd]; exact Keeps.setRow _ _
          have kwd : Keeps (fun _ => False) wr Wd := k5.trans (kc.trans' kd (fun i hi e => by omega))
          have hgxw : wr.heap.size ≤ gx := by rw [← hgx]; exact k5.size
          have RC := Lib.hid rc
          have RD := Lib.hid rd
          have KWD := Lib.hid kwd
          clear rc rd kc kd kwd k5 HSC RXW
          by_cases htv : t = v
          · subst htv
            have hff : f j = e1 := by rw [HFJ.out, HOWN.out k t hlv HBV.out, HE1.out]
            have HNX : Hid (Lm.cat f (j + 1) = Lm.cat f j ++ e1) := Lib.hid (by rw [HNX'.out, hff])
            have SEF := X1
            have HEFE := HED
            have HEFL := HE1L
            have HONE : Hid (∀ u ∈ ED, u.oneCell' = true) := Lib.hid (by rw [← HED.out]; exact bvs_one _)
            obtain ⟨EF, hEF⟩ : ∃ E, ED = E := ⟨_, rfl⟩
            obtain ⟨w7, hw7⟩ : ∃ V, Wd = V := ⟨_, rfl⟩
            have kf7 : Keeps (fun _ => False) wr w7 := by rw [← hw7]; exact KWD.out
            have rx7 : w7.heap[gx]? = some (.cells EF.toArray 23 (0, 0)) := by rw [← hw7, ← hEF]; exact RD.out
            rw [hEF] at SEF HEFE HONE X1 X2 X3
            rw [hEF]
            rw [hw7, hEF] at hWd
            clear RD KWD hw7 hEF HED HOWN HOTH HSEC HFJ hff
            have KF7 := Lib.hid kf7
            have RX7 := Lib.hid rx7
            obtain ⟨G, hG⟩ : ∃ g, w7.heap.size = g := ⟨_, rfl⟩
            obtain ⟨W8, hW8⟩ : ∃ V, w7.alloc (.cells EF.toArray 23) = V := ⟨_, rfl⟩
            have k78 : Keeps (fun _ => False) w7 W8 := by rw [← hW8]; exact (Keeps.refl _ _).alloc _
            have g8 : W8.heap[G]? = some (.cells EF.toArray 23 (0, 0)) := by rw [← hW8, ← hG]; exact heap_alloc_new w7 _
            have kr8 := kf7.trans k78
            have own8 : W8.ownsRow b0 23 32 (.slice A j c) j (bvs (Lm.cat f j)) := kr8.owns HOW.out (fun _ _ => id)
            have new8 : W8.ownsRow 0 23 32 (.slice (some ⟨G, 0, none⟩) 1 1) 1 EF := own_fresh g8 (Nat.zero_le _) (by rw [← HEFE.out, bvs_length, HEFL.out]) (by unfold maxLen; omega)
            have hb8 : b0 ≤ W8.heap.size := Nat.le_trans (Nat.le_trans HB0.out HK.out.size) kr8.size
            have hbt8 : (Instr.buildSlice 31 1 #[(0, .agg EF.toArray)]).run Tryd.prog w7 = .ok (.slice (some ⟨G, 0, none⟩) 1 1) W8 := by
              rw [run_buildSlice_one w7 31 23 Tryd.underlying31 HI.out.1 EF.toArray (by rw [HI.out.2.2.1, List.size_toArray, ← HEFE.out, bvs_length, HEFL.out]) (by rw [HI.out.2.2.1]; omega) (by rw [HI.out.2.2.1]; omega) _ (zero_hash w7), hG, hW8]
            have HBT8 := Lib.hid hbt8
            have O8 := Lib.hid own8
            have N8 := Lib.hid new8
            have HB8 := Lib.hid hb8
            have KR8 := Lib.hid kr8
            clear k78 g8 kr8 own8 new8 hb8 hbt8 hW8 hG kf7 rx7
            go_wp2_with (first
              | (refine wpList_store_row rfl 23 _ _ rfl gx EF.toArray rfl rfl 23 Z RC.out X1.out X2.out X3.out ?_; rw [hWd])
              | (refine wpList_load_row rfl 23 _ rfl gx rfl 23 EF.toArray (0, 0) _ RX7.out Tryd.underlying23 rfl SEF.out ?_)
              | (refine wpList_built_one rfl 31 1 0 (.tmp 37) rfl (.agg EF.toArray) _ rfl HBT8.out ?_)
              | (refine wpList_append_hashes rfl (.tmp 36) (.tmp 38) 31 rfl b0 23 i0 z0 32 32 Tryd.underlying31 HI.out.1 HI.out.2.1 HI.out.2.2.1 HI.out.2.2.2.1 HI.out.2.2.2.2 (by omega) (.slice A j c) j (bvs (Lm.cat f j)) rfl O8.out (.slice (some ⟨G, 0, none⟩) 1 1) 1 EF 0 rfl N8.out HONE.out (by unfold maxLen; omega) (by omega) HB8.out ?_))
            intro v' w9 hown hgr
            obtain ⟨A2, c2, rfl⟩ := own_slice hown
            have k9 : Keeps (fun q => b0 ≤ q) Wb w9 := by
              refine (HK.out.trans' KR8.out (fun _ _ h => h.elim)).grown hgr (fun q hq hrow => ?_)
              obtain ⟨cur, hcur, hle⟩ := own_block O8.out q hrow
              exact hle
            rw [← HEFE.out, bvs_append, ← HNX.out] at hown
            have HO9 := Lib.hid hown
            have HK9 := Lib.hid k9
            clear hown hgr k9 O8 N8 HBT8 HB8 KR8 HK HOW HONE HNX KF7 RX7 SEF HEFE HEFL
            go_wp2
            go_roundw
            case rel => exact ⟨t + 1, A2, j + 1, c2, by omega, Lib.hid (by have := HJ.out; omega), by go_num, rfl, HO9, HK9⟩
            case measure => simp [intOf]; omega
          · have htn : ¬ (t : Int) = (v : Int) := by omega
            have htb : ((t : Int) == (v : Int)) = false := by simp; omega
            have hff : f j = Lm.opn e1 := by rw [HFJ.out, HOTH.out k t hlt2 (by rw [HBV.out]; exact htv), HE1.out]
            have hop := ropen_any e1 Wd HE1L.out
            have hol := Lm.opn_length e1
            obtain ⟨e2, he2⟩ : ∃ e, Lm.opn e1 = e := ⟨_, rfl⟩
            rw [he2] at hop hff hol
            obtain ⟨y1, y2, y3⟩ := hash_arr e2 hol
            obtain ⟨EF, hEF⟩ : ∃ L, bvs e2 = L := ⟨_, rfl⟩
            rw [hEF] at y1 y2 y3 hop
            rw [HED.out] at hop
            have HNX : Hid (Lm.cat f (j + 1) = Lm.cat f j ++ e2) := Lib.hid (by rw [HNX'.out, hff])
            have SEF := Lib.hid y1
            have Y2 := Lib.hid ((HZS.out.trans y2.symm))
            have Y3 := Lib.hid y3
            have XY : Hid (ED.toArray.size = EF.toArray.size) := Lib.hid (X2.out.symm.trans Y2.out)
            have HEFE := Lib.hid hEF
            have HEFL := Lib.hid hol
            have HONE : Hid (∀ u ∈ EF, u.oneCell' = true) := Lib.hid (by rw [← hEF]; exact bvs_one _)
            have HOP := Lib.hid hop
            clear hop hol y1 y2 y3 hEF he2 hff HED
            go_wp2_with (first
              | (refine wpList_store_row rfl 23 _ _ rfl gx ED.toArray rfl rfl 23 Z RC.out X1.out X2.out X3.out ?_; rw [hWd])
              | (refine wpList_load_row rfl 23 _ rfl gx rfl 23 ED.toArray (0, 0) _ RD.out Tryd.underlying23 rfl X1.out ?_))
            refine HOP.out.mono ?_
            rintro e w8' ⟨rfl, k8'⟩
            obtain ⟨w7, hw7⟩ : ∃ V, w8'.setRow gx EF.toArray = V := ⟨_, rfl⟩
            have rd8 : w8'.heap[gx]? = some (.cells ED.toArray 23 (0, 0)) := (k8'.block _ (Array.getElem?_eq_some_iff.1 RD.out).1 id).trans RD.out
            have rx7 : w7.heap[gx]? = some (.cells EF.toArray 23 (0, 0)) := by rw [← hw7]; exact setRow_heap _ _ _ _ _ _ rd8
            have kf7 : Keeps (fun _ => False) wr w7 := by
              have ks : Keeps (fun q => q = gx) w8' w7 := by rw [← hw7]; exact Keeps.setRow _ _
              exact (KWD.out.trans k8').trans' ks (fun i hi e => by omega)
            have RD8 := Lib.hid rd8
            clear k8' rd8 HOP RD RC KWD HOWN HOTH HSEC HFJ X1 X2 X3
            have KF7 := Lib.hid kf7
            have RX7 := Lib.hid rx7
            obtain ⟨G, hG⟩ : ∃ g, w7.heap.size = g := ⟨_, rfl⟩
            obtain ⟨W8, hW8⟩ : ∃ V, w7.alloc (.cells EF.toArray 23) = V := ⟨_, rfl⟩
            have k78 : Keeps (fun _ => False) w7 W8 := by rw [← hW8]; exact (Keeps.refl _ _).alloc _
            have g8 : W8.heap[G]? = some (.cells EF.toArray 23 (0, 0)) := by rw [← hW8, ← hG]; exact heap_alloc_new w7 _
            have kr8 := kf7.trans k78
            have own8 : W8.ownsRow b0 23 32 (.slice A j c) j (bvs (Lm.cat f j)) := kr8.owns HOW.out (fun _ _ => id)
            have new8 : W8.ownsRow 0 23 32 (.slice (some ⟨G, 0, none⟩) 1 1) 1 EF := own_fresh g8 (Nat.zero_le _) (by rw [← HEFE.out, bvs_length, HEFL.out]) (by unfold maxLen; omega)
            have hb8 : b0 ≤ W8.heap.size := Nat.le_trans (Nat.le_trans HB0.out HK.out.size) kr8.size
            have hbt8 : (Instr.buildSlice 31 1 #[(0, .agg EF.toArray)]).run Tryd.prog w7 = .ok (.slice (some ⟨G, 0, none⟩) 1 1) W8 := by
              rw [run_buildSlice_one w7 31 23 Tryd.underlying31 HI.out.1 EF.toArray (by rw [HI.out.2.2.1, List.size_toArray, ← HEFE.out, bvs_length, HEFL.out]) (by rw [HI.out.2.2.1]; omega) (by rw [HI.out.2.2.1]; omega) _ (zero_hash w7), hG, hW8]
            have HBT8 := Lib.hid hbt8
            have O8 := Lib.hid own8
            have N8 := Lib.hid new8
            have HB8 := Lib.hid hb8
            have KR8 := Lib.hid kr8
            clear k78 g8 kr8 own8 new8 hb8 hbt8 hW8 hG kf7 rx7
            go_wp2_with (first
              | (refine wpList_store_row rfl 23 _ _ rfl gx EF.toArray rfl rfl 23 ED.toArray RD8.out SEF.out XY.out Y3.out ?_; rw [hw7])
              | (refine wpList_load_row rfl 23 _ rfl gx rfl 23 EF.toArray (0, 0) _ RX7.out Tryd.underlying23 rfl SEF.out ?_)
              | (refine wpList_built_one rfl 31 1 0 (.tmp 37) rfl (.agg EF.toArray) _ rfl HBT8.out ?_)
              | (refine wpList_append_hashes rfl (.tmp 36) (.tmp 38) 31 rfl b0 23 i0 z0 32 32 Tryd.underlying31 HI.out.1 HI.out.2.1 HI.out.2.2.1 HI.out.2.2.2.1 HI.out.2.2.2.2 (by omega) (.slice A j c) j (bvs (Lm.cat f j)) rfl O8.out (.slice (some ⟨G, 0, none⟩) 1 1) 1 EF 0 rfl N8.out HONE.out (by unfold maxLen; omega) (by omega) HB8.out ?_))
            intro v' w9 hown hgr
            obtain ⟨A2, c2, rfl⟩ := own_slice hown
            have k9 : Keeps (fun q => b0 ≤ q) Wb w9 := by
              refine (HK.out.trans' KR8.out (fun _ _ h => h.elim)).grown hgr (fun q hq hrow => ?_)
              obtain ⟨cur, hcur, hle⟩ := own_block O8.out q hrow
              exact hle
            rw [← HEFE.out, bvs_append, ← HNX.out] at hown
            have HO9 := Lib.hid hown
            have HK9 := Lib.hid k9
            clear hown hgr k9 O8 N8 HBT8 HB8 KR8 HK HOW HONE HNX KF7 RX7 SEF HEFE HEFL
            go_wp2
            go_roundw
            case rel => exact ⟨t + 1, A2, j + 1, c2, by omega, Lib.hid (by have := HJ.out; omega), by go_num, rfl, HO9, HK9⟩
            case measure => simp [intOf]; omega
        · obtain rfl : t = 2 := by omega
          go_wp2
          go_roundw
          case rel => exact ⟨k + 1, A, j, c, by omega, Lib.hid (by have := HJ.out; have := HK2.out; omega), by go_num, rfl, HOW, HK⟩
          case measure => simp [intOf]; omega
    · obtain rfl : k = 64 := by omega
      obtain rfl : k2 = 128 := HK2.out
      clear HK2
      have KF : Hid (Keeps (fun _ => False) w wr) := Lib.hid (KB.out.trans' HK.out (fun i hi h => by have := KB.out.size; have := HB1.out; omega))
      have HOF := Lib.hid (own_base HO.out (show w.heap.size ≤ b0 from Nat.le_trans KB.out.size HB1.out))
      clear HK HO
      go_wp2
      go_ret
      exact ⟨A, c, rfl, HOF.out, KF.out⟩
end Go.Proofs.YtgbajlmcoghofaaDoor
