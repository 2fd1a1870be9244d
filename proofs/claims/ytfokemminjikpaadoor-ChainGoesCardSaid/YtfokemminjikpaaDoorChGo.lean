/-
  The law ChainGoes walked: a tree goes on from each of its first ones. WRITTEN BY wip/gen/mkchgo.py.
-/
import Derived.Test.YtfokemminjikpaaDoorChWh
import Derived.Test.YtfokemminjikpaaDoorTrAp
namespace Go.Proofs.YtfokemminjikpaaDoor
open Go.RowKit Go.BigFrame
set_option linter.unusedVariables false

set_option maxRecDepth 100000 in
set_option maxHeartbeats 4000000 in
theorem goes_in (a : Addr) (c : Nat) (rs : List RowOf) (x : Int) (W : World) (hT : Tabs W) (hR : RowsAt W (some a) rs) (h1 : 1 ≤ rs.length) (h20 : rs.length ≤ 20) (hc : rs.length ≤ c) (hmax : c ≤ 9223372036854775807) (hlen : ∀ r ∈ rs, r.2.2.length ≤ 1000) (hx0 : 0 ≤ x) (hx1 : x ≤ 255)
    (HFEW : Hid (∀ V, Keeps (fun _ => False) W V → Calls Tryd.prog 36 #[.slice (some a) rs.length c] V fun e w' => e = .returned (.bool true) ∧ w' = V)) :
    Calls Tryd.prog 8 #[.slice (some a) rs.length c, .int .u8 x] W fun e W' => e = .returned (.bool true) ∧ Below W.heap.size W W' := by
  obtain ⟨n, hn⟩ : ∃ n, rs.length = n := ⟨_, rfl⟩
  obtain ⟨i, hi⟩ : ∃ i : Nat, x % (n : Int) = i := Int.eq_ofNat_of_zero_le (Int.emod_nonneg _ (by omega))
  have hin : i < n := by have := Int.emod_lt_of_pos x (show (0 : Int) < n by omega); omega
  have ht : x.tmod (n : Int) = (i : Int) := by rw [Int.tmod_eq_emod_of_nonneg hx0, hi]
  obtain ⟨m, hm⟩ : ∃ m : Nat, i + 1 = m := ⟨_, rfl⟩
  have hm1 : 1 ≤ m := by omega
  have hmn : m ≤ n := by omega
  have him : (i : Int) + 1 = (m : Int) := by omega
  have HAW := Lib.hid (awake4_any W hT)
  have hproof := fun V (hk : Keeps (fun _ => False) W V) => proof_in a c rs m V (hT.keeps hk id id) (hR.keeps hk (fun _ _ => id)) hm1 (by omega) hc hmax hlen (by omega)
  have hpl := Tr.prf_long (ents rs) m true hm1 (by rw [ents_length]; omega) (by rw [ents_length]; omega)
  have hpf := Tr.prf_few (ents rs) m true hm1 (by rw [ents_length]; omega)
  have hpm := Tr.prf_made (ents rs) m true (Tr.root ((ents rs).take m)) hm1 (by rw [ents_length]; omega) (by rw [ents_length]; omega) (fun _ => rfl)
  have hpall : ∀ p ∈ Tr.prf (ents rs) m true, p.length = 32 := fun p hp => Tr.prf_all _ _ _ _ p hp
  rw [ents_length, hn] at hpl hpf hpm
  have e3 : (ents rs).take m = ents (rs.take m) := by simp [ents, List.map_take]
  have l3 : (rs.take m).length = m := by rw [List.length_take]; omega
  have hrn : ∀ V, Keeps (fun _ => False) W V → Calls Tryd.prog 27 #[.slice (some a) rs.length c] V fun e w' => e = .returned (.agg (bvs (Tr.root (ents rs))).toArray) ∧ Keeps (fun _ => False) V w' := fun V hk =>
    root_any (some a) c rs V (hT.keeps hk id id) (hR.keeps hk (fun _ _ => id)) hc hmax hlen
  have hrm : ∀ V, Keeps (fun _ => False) W V → Calls Tryd.prog 27 #[.slice (some a) m c] V fun e w' => e = .returned (.agg (bvs (Tr.root ((ents rs).take m))).toArray) ∧ Keeps (fun _ => False) V w' := fun V hk => by
    have h := root_any (some a) c (rs.take m) V (hT.keeps hk id id) ((hR.take m).keeps hk (fun _ _ => id)) (by omega) hmax (fun r hr => hlen r (List.mem_of_mem_take hr))
    rw [l3, ← e3] at h
    exact h
  have hR7 : (Tr.root (ents rs)).length = 32 := Tr.root_length _
  have hR3 : (Tr.root ((ents rs).take m)).length = 32 := Tr.root_length _
  have hlong := fun V => long_in m n V hm1 hmn (by omega)
  rw [← hpl] at hlong
  obtain ⟨ps, hps⟩ : ∃ ps, Tr.prf (ents rs) m true = ps := ⟨_, rfl⟩
  obtain ⟨r7, hr7⟩ : ∃ r, Tr.root (ents rs) = r := ⟨_, rfl⟩
  obtain ⟨r3, hr3⟩ : ∃ r, Tr.root ((ents rs).take m) = r := ⟨_, rfl⟩
  rw [hps] at hproof hpl hpm hpall hpf hlong
  rw [hr7] at hrn hpm hR7
  rw [hr3] at hrm hpm hR3
  rw [hn] at hrn hproof hc HFEW ⊢
  have cv0 : Tr.cverify m r3 n r7 ps = 0 := by
    unfold Tr.cverify
    rw [if_neg (by omega), if_pos hpl, hpm, if_pos ⟨rfl, rfl⟩]
  have hv0 : ∀ (A : Option Addr) (cp : Nat) (V : World), Keeps (fun _ => False) W V → PathAt V A ps → ps.length ≤ cp → cp ≤ 9223372036854775807 → Calls Tryd.prog 44 #[.agg (keyCells m r3).toArray, .agg (keyCells n r7).toArray, .slice A ps.length cp] V fun e w' => e = .returned (.int .i64 0) ∧ Keeps (fun _ => False) V w' := fun A cp V hk hP h1 h2 => by
    have h := cverify_any m n r3 r7 A ps cp V (hT.keeps hk id id) hR3 hR7 hP h1 h2 (by omega) (by omega)
    rw [cv0] at h
    exact h
  have hv20 : ∀ (A : Option Addr) (l cp : Nat) (V : World), l ≠ ps.length → Calls Tryd.prog 44 #[.agg (keyCells m r3).toArray, .agg (keyCells n r7).toArray, .slice A l cp] V fun e w' => e = .returned (.int .i64 20) ∧ Keeps (fun _ => False) V w' := fun A l cp V hl =>
    cver_len m n r3 r7 A l cp V hm1 hmn (by omega) (by rw [← hpl]; exact hl)
  have hb3 := build_key m r3 hR3
  have hb7 := build_key n r7 hR7
  have l33 := keyCells_length m r3 hR3
  have l37 := keyCells_length n r7 hR7
  have o33 := keyCells_one m r3
  have o37 := keyCells_one n r7
  obtain ⟨ZK, hzk, hzks⟩ := zero_key
  obtain ⟨s, hs⟩ : ∃ s, ps.length = s := ⟨_, rfl⟩
  rw [hs] at hproof hlong hv0 hv20 hpf
  have hs20 : s ≤ 20 := by omega
  obtain ⟨F3, hF3⟩ : ∃ R, (bvs r3).toArray = R := ⟨_, rfl⟩
  obtain ⟨F7, hF7⟩ : ∃ R, (bvs r7).toArray = R := ⟨_, rfl⟩
  have hbl := build_hash r3 hR3
  have hbs3 : (bvs r3).length = 32 := by rw [bvs_length, hR3]
  have hrootv : ∀ (g : Nat) (V : World), V.heap[g]? = some (.cells (keyCells m r3).toArray 55 (0, 0)) → V.cell? ⟨g, 0, none⟩ = some (.int .u64 (m : Int)) ∧ V.rangeAt g 1 (bvs r3) := fun g V h => key_row h
  have hsizev : ∀ (g : Nat) (V : World), V.heap[g]? = some (.cells (keyCells n r7).toArray 55 (0, 0)) → V.cell? ⟨g, 0, none⟩ = some (.int .u64 (n : Int)) := fun g V h => (key_row h).1
  obtain ⟨KA, hKA⟩ : ∃ R, keyCells m r3 = R := ⟨_, rfl⟩
  obtain ⟨KB, hKB⟩ : ∃ R, keyCells n r7 = R := ⟨_, rfl⟩
  obtain ⟨O3, hO3⟩ : ∃ R, bvs r3 = R := ⟨_, rfl⟩
  have hOF : O3.toArray = F3 := by rw [← hO3]; exact hF3
  rw [hF3] at hrm hb3
  rw [hF7] at hrn hb7
  rw [hKA] at hb3 l33 o33 hv0 hv20 hrootv
  rw [hKB] at hb7 l37 o37 hv0 hv20 hsizev
  rw [hO3] at hbl hbs3 hrootv
  have ska : (Tryd.prog.info? 55).map (·.size) = some KA.toArray.size := by rw [List.size_toArray, l33]; exact size_key
  have skb : (Tryd.prog.info? 55).map (·.size) = some KB.toArray.size := by rw [List.size_toArray, l37]; exact size_key
  have SKA := Lib.hid ska
  have SKB := Lib.hid skb
  have ZKA := Lib.hid (show ZK.size = KA.toArray.size by rw [hzks, List.size_toArray, l33])
  have ZKB := Lib.hid (show ZK.size = KB.toArray.size by rw [hzks, List.size_toArray, l37])
  have OKA := Lib.hid o33
  have OKB := Lib.hid o37
  have HB3 := Lib.hid hb3
  have HB7 := Lib.hid hb7
  have HBL := Lib.hid hbl
  have HPR := Lib.hid hproof
  have HLO := Lib.hid hlong
  have HRM := Lib.hid hrm
  have HRN := Lib.hid hrn
  have HV0 := Lib.hid hv0
  have HV20 := Lib.hid hv20
  have HALL := Lib.hid hpall
  have HSL := Lib.hid hs
  have HRV := Lib.hid hrootv
  have HSV := Lib.hid hsizev
  have HO3 := Lib.hid hO3
  have HOF := Lib.hid hOF
  have HR3 := Lib.hid hR3
  have HB32 := Lib.hid hbs3
  have HI3 : Hid ((Tryd.prog.info? 24).map (·.size) = some O3.length) := Lib.hid (by rw [hbs3]; exact size_hash')
  have hn20 : (n : Int) ≤ 20 := by omega
  have hn1 : ((n : Int) == 0) = false := by rw [beq_eq_false_iff_ne]; omega
  have hn0 : ¬ (n : Int) = 0 := by omega
  have hm20 : (m : Int) ≤ 20 := by omega
  have hmn' : (m : Int) ≤ n := by omega
  have hmc : (m : Int) ≤ c := by omega
  have hss : ((s : Int) != (s : Int)) = false := by simp
  have hii : (i : Int) ≤ 19 := by omega
  clear ska skb hb3 hb7 hbl hproof hlong hrm hrn hv0 hv20 hpall hs hrootv hsizev hO3 hOF hR3 hR7 hbs3 l33 l37 o33 o37 hpl hpf hpm hps hr7 hr3 hF3 hF7 hKA hKB e3 l3 cv0 hn hi hT hR hlen h1 h20 hc hin hm hm1 hmn
  go_enter Tryd.func8, Tryd.ntmps8
  go_wp2_with fail
  refine HAW.out.mono ?_
  rintro e1 w1 ⟨rfl, k1⟩
  go_wp2_with fail
  refine (HFEW.out w1 k1).mono ?_
  rintro e2 w2 ⟨rfl, rfl⟩
  clear HAW HFEW
  go_wp2_with fail
  refine (HRM.out w2 k1).mono ?_
  rintro e3 w3 ⟨rfl, k3⟩
  have K3 := Lib.hid (k1.trans k3)
  clear k1 k3 HRM
  obtain ⟨V3, hV3⟩ : ∃ V, w3.alloc (.cells ZK 55) = V := ⟨_, rfl⟩
  have kvV3 : Keeps (fun _ => False) w3 V3 := by rw [← hV3]; exact (Keeps.refl _ _).alloc _
  have hzV3 : V3.heap[w3.heap.size]? = some (.cells ZK 55 (0, 0)) := by rw [← hV3]; exact heap_alloc_new w3 _
  obtain ⟨g8, hg8⟩ : ∃ g, w3.heap.size = g := ⟨_, rfl⟩
  have hkV3 : Keeps (fun _ => False) w3 (V3.setRow g8 KA.toArray) := kvV3.trans' (Keeps.setRow g8 KA.toArray) (fun i hi h => by omega)
  rw [hg8] at hzV3
  have hrV3 : (V3.setRow g8 KA.toArray).heap[g8]? = some (.cells KA.toArray 55 (0, 0)) := setRow_heap _ _ _ _ _ _ hzV3
  have ZV3 := Lib.hid hzV3
  have RV3 := Lib.hid hrV3
  have KV3 := Lib.hid hkV3
  clear kvV3 hzV3 hkV3 hrV3
  go_wp2_with (first
    | (refine wpList_build_runs (by rfl) 55 _ (by rfl) [(0, .int .u64 (m : Int)), (1, .agg F3)] (by rfl) (.agg KA.toArray) (HB3.out _) ?_)
    | (refine wpList_store_row rfl 55 _ _ rfl g8 KA.toArray rfl rfl 55 ZK ZV3.out SKA.out ZKA.out OKA.out ?_))
  have K4 := Lib.hid (K3.out.trans KV3.out)
  refine (HRN.out _ K4.out).mono ?_
  rintro e5 w5 ⟨rfl, k5⟩
  have r8 := (k5.block _ (Array.getElem?_eq_some_iff.1 RV3.out).1 id).trans RV3.out
  have R85 := Lib.hid r8
  have K5 := Lib.hid (K4.out.trans k5)
  clear k5 r8 HRN K4 K3 KV3 RV3 hV3 ZV3 hg8
  obtain ⟨V5, hV5⟩ : ∃ V, w5.alloc (.cells ZK 55) = V := ⟨_, rfl⟩
  have kvV5 : Keeps (fun _ => False) w5 V5 := by rw [← hV5]; exact (Keeps.refl _ _).alloc _
  have hzV5 : V5.heap[w5.heap.size]? = some (.cells ZK 55 (0, 0)) := by rw [← hV5]; exact heap_alloc_new w5 _
  obtain ⟨g9, hg9⟩ : ∃ g, w5.heap.size = g := ⟨_, rfl⟩
  have hkV5 : Keeps (fun _ => False) w5 (V5.setRow g9 KB.toArray) := kvV5.trans' (Keeps.setRow g9 KB.toArray) (fun i hi h => by omega)
  rw [hg9] at hzV5
  have hrV5 : (V5.setRow g9 KB.toArray).heap[g9]? = some (.cells KB.toArray 55 (0, 0)) := setRow_heap _ _ _ _ _ _ hzV5
  have ZV5 := Lib.hid hzV5
  have RV5 := Lib.hid hrV5
  have KV5 := Lib.hid hkV5
  clear kvV5 hzV5 hkV5 hrV5
  go_wp2_with (first
    | (refine wpList_build_runs (by rfl) 55 _ (by rfl) [(0, .int .u64 (n : Int)), (1, .agg F7)] (by rfl) (.agg KB.toArray) (HB7.out _) ?_)
    | (refine wpList_store_row rfl 55 _ _ rfl g9 KB.toArray rfl rfl 55 ZK ZV5.out SKB.out ZKB.out OKB.out ?_))
  have K6 := Lib.hid (K5.out.trans KV5.out)
  refine (HPR.out _ K6.out).mono ?_
  rintro e7 w7 ⟨v, rfl, ho7, k7⟩
  obtain ⟨A7, c7, rfl⟩ := own_slice ho7
  obtain ⟨_, cc1, cc2⟩ := own_cap ho7
  have HO7 := Lib.hid ho7
  have P7 := Lib.hid (show PathAt w7 A7 ps from PathAt.of_own ho7 HALL.out)
  have K7 := Lib.hid (K6.out.trans k7)
  have r87 := (k7.block _ (Array.getElem?_eq_some_iff.1 ((KV5.out.block _ (Array.getElem?_eq_some_iff.1 R85.out).1 id).trans R85.out)).1 id).trans ((KV5.out.block _ (Array.getElem?_eq_some_iff.1 R85.out).1 id).trans R85.out)
  have r97 := (k7.block _ (Array.getElem?_eq_some_iff.1 RV5.out).1 id).trans RV5.out
  have R87 := Lib.hid r87
  have R97 := Lib.hid r97
  have cg8 := (HRV.out g8 w7 r87).1
  have cg9 := HSV.out g9 w7 r97
  have CC := Lib.hid (And.intro cc1 cc2)
  clear HPR ho7 k7 r87 r97 K6 K5 KV5 RV5 R85 hV5 ZV5 hg9
  obtain ⟨b7, hb7⟩ : ∃ b, (V5.setRow g9 KB.toArray).heap.size = b := ⟨_, rfl⟩
  rw [hb7] at HO7
  clear hb7
  go_wp2_with fail
  refine (HLO.out w7).mono ?_
  rintro e8 w8 ⟨rfl, rfl⟩
  go_wp2_with (first
    | (refine wpList_load_row_w (by rfl) 55 (.tmp 8) (by rfl) g8 (by rfl) 55 KA.toArray (0, 0) _ R87.out Tryd.underlying55 rfl SKA.out ?_)
    | (refine wpList_load_row_w (by rfl) 55 (.tmp 9) (by rfl) g9 (by rfl) 55 KB.toArray (0, 0) _ R97.out Tryd.underlying55 rfl SKB.out ?_))
  refine (HV0.out A7 c7 w8 K7.out P7.out CC.out.1 CC.out.2).mono ?_
  rintro e9 w9 ⟨rfl, k9⟩
  have r89 := (k9.block _ (Array.getElem?_eq_some_iff.1 R87.out).1 id).trans R87.out
  have r99 := (k9.block _ (Array.getElem?_eq_some_iff.1 R97.out).1 id).trans R97.out
  have lt8 := (Array.getElem?_eq_some_iff.1 r89).1
  have lt9 := (Array.getElem?_eq_some_iff.1 r99).1
  have A8 : Hid (∀ V, Keeps (fun k => w9.heap.size ≤ k) w9 V → V.heap[g8]? = some (.cells KA.toArray 55 (0, 0))) := fun V hk => (hk.block _ lt8 (by omega)).trans r89
  have A9 : Hid (∀ V, Keeps (fun k => w9.heap.size ≤ k) w9 V → V.heap[g9]? = some (.cells KB.toArray 55 (0, 0))) := fun V hk => (hk.block _ lt9 (by omega)).trans r99
  have O9 : Hid (w9.ownsRow b7 24 32 (.slice A7 s c7) s (flat ps)) := k9.owns HO7.out (fun _ _ => id)
  have K9 := Lib.hid (K7.out.trans k9)
  have b9 := (K7.out.trans k9).size
  clear HV0 HLO k9 r89 r99 lt8 lt9 cg8 cg9 HO7 P7 R87 R97 HSV
  obtain ⟨j0, z0, hj0, hzz, hss', hbb, hzs⟩ := info_hash
  go_wp2_with (first
    | (refine wpList_append_hashes (by rfl) (.tmp 69) (.tmp 70) 37 (by rfl) w9.heap.size 24 j0 z0 32 32 Tryd.underlying37 hj0 hzz hss' hbb hzs (by decide) (.slice none 0 0) 0 [] (by rfl) (World.ownsRow_nil _ _ _ _) (.slice A7 s c7) s (flat ps) b7 (by rfl) O9.out (flat_one ps) (by unfold maxLen; omega) (by omega) (Nat.le_refl _) ?_; intro v10 w10 ho10 hg10; obtain ⟨A10, c10, rfl⟩ := own_slice ho10; rw [Nat.zero_add, List.nil_append] at ho10; rw [Nat.zero_add]; have hk10 : Hid (Keeps (fun k => w9.heap.size ≤ k) w9 w10) := Lib.hid ((Keeps.refl _ _).grown hg10 (fun k _ h => by cases h)); have HO10 := Lib.hid ho10; have hrg := (HRV.out g8 w10 (A8.out w10 hk10.out)).2; have B10 := hk10.out.size; clear ho10 hg10)
    | (refine wpList_load_mid_w (by rfl) 24 (.tmp 73) (by rfl) g8 1 (by rfl) O3 _ hrg Tryd.underlying24 rfl HI3.out ?_)
    | (refine wpList_buildSlice_run (by rfl) 37 1 0 (.tmp 74) (by rfl) _ _ (by rfl) (HBL.out _) ?_)
    | (refine wpList_append_own _ (by rfl) (.tmp 72) (.tmp 75) 37 (by rfl) w9.heap.size 24 j0 z0 32 32 Tryd.underlying37 hj0 hzz hss' hbb hzs (by decide) (.slice A10 s c10) s (flat ps) (by rfl) (Keeps.owns (S := fun _ => False) ((Keeps.refl _ _).alloc _) HO10.out (fun _ _ => id)) ⟨w10.heap.size, 0, none⟩ 1 1 (bvs r3) (by rfl) (by rw [bvs_length, HR3.out]) (World.news_of_block (by rw [← HO3.out]; exact heap_alloc_new w10 _)) (bvs_one _) (by unfold maxLen; omega) (by omega) (by simp; omega) ?_; intro v11 w11 ho11 hg11 _; have HO11 := Lib.hid ho11; have HG11 := Lib.hid hg11; obtain ⟨A11, c11, rfl⟩ := own_slice ho11; have hk11 : Hid (Keeps (fun k => w9.heap.size ≤ k) w9 w11) := Lib.hid (Keeps.grown ((hk10.out).alloc _) hg11 (fun k hk hrow => by obtain ⟨_, _, hb⟩ := own_block HO10.out k hrow; exact hb)); have r8b := A8.out w11 hk11.out; have r9b := A9.out w11 hk11.out; have R8B := Lib.hid r8b; have R9B := Lib.hid r9b; clear ho11 hg11 hrg r8b r9b)
    | (refine wpList_load_row_w (by rfl) 55 (.tmp 8) (by rfl) g8 (by rfl) 55 KA.toArray (0, 0) _ R8B.out Tryd.underlying55 rfl SKA.out ?_)
    | (refine wpList_load_row_w (by rfl) 55 (.tmp 9) (by rfl) g9 (by rfl) 55 KB.toArray (0, 0) _ R9B.out Tryd.underlying55 rfl SKB.out ?_))
  refine (HV20.out A11 (s + 1) c11 w11 (by omega)).mono ?_
  rintro e12 w12 ⟨rfl, k12⟩
  have k912 : Keeps (fun k => w9.heap.size ≤ k) w9 w12 := hk11.out.trans (k12.mono (fun _ _ h => h.elim))
  have KW : Hid (∀ V, Later w12 V → Keeps (fun _ => False) W V) := fun V hV => (K9.out.trans' k912 (fun k hk h => by omega)).trans hV.out
  have A8' : Hid (∀ V, Later w12 V → V.heap[g8]? = some (.cells KA.toArray 55 (0, 0))) := fun V hV => A8.out V (k912.trans (hV.out.mono (fun _ _ h => h.elim)))
  have A9' : Hid (∀ V, Later w12 V → V.heap[g9]? = some (.cells KB.toArray 55 (0, 0))) := fun V hV => A9.out V (k912.trans (hV.out.mono (fun _ _ h => h.elim)))
  clear k12 k912 A8 A9 R8B R9B HO11 HG11 HO10 K9 O9 hk10 hk11
  go_wp2_with fail
  rcases Nat.eq_zero_or_pos s with hs0 | hs0
  · subst hs0
    refine wp_region_class (Later w12) (by kernel_rfl) (by kernel_rfl) ⟨(Keeps.refl _ _).drew⟩ ?_
    repeat (go_big_quiet_step ((intro _; rfl)))
    refine wpQuiet_nil ?_
    intro w13 k13
    go_wp2
    go_ret
    exact ⟨rfl, keeps_below3 (KW.out w13 k13)⟩
  · obtain ⟨l, rfl⟩ : ∃ l, s = l + 1 := ⟨s - 1, by omega⟩
    have hm0 : (((l : Int) + 1) == 0) = false := by rw [beq_eq_false_iff_ne]; omega
    have hl20 : (l : Int) ≤ 20 := by omega
    have hc71 : (1 : Int) ≤ c7 := by have := CC.out.1; omega
    have hlc7 : (l : Int) + 1 ≤ c7 := by have := CC.out.1; omega
    have VA : Hid (∀ (A : Option Addr) (l' cp : Nat) (V : World), l' ≠ l + 1 → Calls Tryd.prog 44 #[.agg KA.toArray, .agg KB.toArray, .slice A l' cp] V fun e w' => e = .returned (.int .i64 20) ∧ Keeps (fun _ => False) V w') := HV20
    have VB : Hid (∀ V, Calls Tryd.prog 44 #[.agg KA.toArray, .agg KB.toArray, .slice none 0 0] V fun e w' => e = .returned (.int .i64 20) ∧ Keeps (fun _ => False) V w') := fun V => HV20.out none 0 0 V (by omega)
    have VC : Hid (∀ (A : Option Addr) (cp : Nat) (V : World), Calls Tryd.prog 44 #[.agg KA.toArray, .agg KB.toArray, .slice A l cp] V fun e w' => e = .returned (.int .i64 20) ∧ Keeps (fun _ => False) V w') := fun A cp V => HV20.out A l cp V (by omega)
    clear HV20 VA
    refine wp_region_class (Later w12) (by kernel_rfl) (by kernel_rfl) ⟨(Keeps.refl _ _).drew⟩ ?_
    go_big_quiet_step ((intro _; rfl))
    go_big_quiet_step ((intro _; rfl))
    go_big_quiet_step ((intro _; rfl))
    go_big_quiet_step ((intro _; rfl))
    refine class_load (by rfl) 55 (.tmp 8) (by rfl) g8 (by rfl) 55 KA.toArray (0, 0) _ (fun V hV => A8'.out V hV) Tryd.underlying55 rfl SKA.out ?_
    simp only [Act.put, List.setIfInBounds_toArray, List.set_cons_zero, List.set_cons_succ]
    refine class_load (by rfl) 55 (.tmp 9) (by rfl) g9 (by rfl) 55 KB.toArray (0, 0) _ (fun V hV => A9'.out V hV) Tryd.underlying55 rfl SKB.out ?_
    simp only [Act.put, List.setIfInBounds_toArray, List.set_cons_zero, List.set_cons_succ]
    go_big_quiet_step ((intro _; rfl))
    go_big_quiet_step ((intro _; rfl))
    go_big_quiet_want
    go_big_quiet_op
    refine ⟨(.int .i64 20), fun V hV => (VC.out _ _ V).mono fun e w' h => ⟨h.1, ⟨hV.out.trans h.2⟩⟩, ?_⟩
    go_big_quiet_on
    go_big_quiet_step ((intro _; rfl))
    go_big_quiet_step ((intro _; rfl))
    refine class_load (by rfl) 55 (.tmp 8) (by rfl) g8 (by rfl) 55 KA.toArray (0, 0) _ (fun V hV => A8'.out V hV) Tryd.underlying55 rfl SKA.out ?_
    simp only [Act.put, List.setIfInBounds_toArray, List.set_cons_zero, List.set_cons_succ]
    refine class_load (by rfl) 55 (.tmp 9) (by rfl) g9 (by rfl) 55 KB.toArray (0, 0) _ (fun V hV => A9'.out V hV) Tryd.underlying55 rfl SKB.out ?_
    simp only [Act.put, List.setIfInBounds_toArray, List.set_cons_zero, List.set_cons_succ]
    go_big_quiet_want
    go_big_quiet_op
    refine ⟨(.int .i64 20), fun V hV => (VB.out V).mono fun e w' h => ⟨h.1, ⟨hV.out.trans h.2⟩⟩, ?_⟩
    go_big_quiet_on
    go_big_quiet_step ((intro _; rfl))
    go_big_quiet_step ((intro _; rfl))
    go_big_quiet_step ((intro _; rfl))
    go_big_quiet_step ((intro _; rfl))
    refine wpQuiet_nil ?_
    intro w13 k13
    go_wp2
    all_goals go_ret
    all_goals exact ⟨rfl, keeps_below3 (KW.out w13 k13)⟩
set_option maxRecDepth 100000 in
set_option maxHeartbeats 1000000 in
theorem goes_out (A : Option Addr) (m c : Nat) (x : Int) (q : Bool) (W : World) (hq : q = true → m = 0) (hT : Tabs W) (HFEW : Hid (∀ V, Keeps (fun _ => False) W V → Calls Tryd.prog 36 #[.slice A m c] V fun e w' => e = .returned (.bool q) ∧ w' = V)) :
    Calls Tryd.prog 8 #[.slice A m c, .int .u8 x] W fun e W' => e = .returned (.bool true) ∧ Below W.heap.size W W' := by
  have HAW := Lib.hid (awake4_any W hT)
  clear hT
  cases q
  · clear hq
    go_enter Tryd.func8, Tryd.ntmps8
    go_wp2_with fail
    refine HAW.out.mono ?_
    rintro e1 w1 ⟨rfl, k1⟩
    go_wp2_with fail
    refine (HFEW.out w1 k1).mono ?_
    rintro e2 w2 ⟨rfl, rfl⟩
    go_wp2
    go_ret
    exact ⟨rfl, keeps_below3 k1⟩
  · obtain rfl := hq rfl
    clear hq
    go_enter Tryd.func8, Tryd.ntmps8
    go_wp2_with fail
    refine HAW.out.mono ?_
    rintro e1 w1 ⟨rfl, k1⟩
    go_wp2_with fail
    refine (HFEW.out w1 k1).mono ?_
    rintro e2 w2 ⟨rfl, rfl⟩
    go_wp2
    go_ret
    exact ⟨rfl, keeps_below3 k1⟩
theorem goes_walk (A : Option Addr) (len c : Nat) (rs : List RowOf) (x : Int) (W : World) (hT : Tabs W) (h0 : IsRows W A len c rs) (h1 : (Lit.int .u8 x).wf = true) :
    Calls Tryd.prog 8 #[.slice A len c, .int .u8 x] W fun e W' => e = .returned (.bool true) ∧ Below W.heap.size W W' := by
  have bn := bounds_u8 h1
  obtain ⟨rfl, hc, hmax, hR⟩ := h0
  have hfew : ∀ V, Keeps (fun _ => False) W V → Calls Tryd.prog 36 #[.slice A rs.length c] V fun e w' => e = .returned (.bool (fewB rs)) ∧ w' = V := fun V hk => few4_any A c rs V (hR.keeps hk (fun _ _ => id)) (by omega)
  cases hq : fewB rs with
  | false => rw [hq] at hfew; exact goes_out A _ c x false W (fun h => by cases h) hT (Lib.hid hfew)
  | true =>
    rw [hq] at hfew
    obtain ⟨h20, hlen⟩ := few_short hq
    rcases Nat.lt_or_ge rs.length 1 with h3 | h3
    · exact goes_out A _ c x true W (fun _ => by omega) hT (Lib.hid hfew)
    · obtain ⟨a, rfl, _⟩ := hR.cell 0 rs[0] (by simp)
      exact goes_in a c rs x W hT hR h3 h20 hc hmax hlen bn.1 bn.2 (Lib.hid hfew)
end Go.Proofs.YtfokemminjikpaaDoor
