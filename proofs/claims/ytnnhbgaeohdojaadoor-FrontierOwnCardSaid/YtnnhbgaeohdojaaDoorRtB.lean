/-
  The document's own root of a tree (assayerref03.Root). WRITTEN BY wip/gen/mkrtb.py.
-/
import Derived.Test.YtnnhbgaeohdojaaDoorRtS
import Derived.Test.YtnnhbgaeohdojaaDoorChE
import Derived.Test.YtnnhbgaeohdojaaDoorWalkT
import Derived.Test.YtnnhbgaeohdojaaDoorTrW
namespace Go.Proofs.YtnnhbgaeohdojaaDoor
open Go.RowKit Go.BigFrame
set_option linter.unusedVariables false

/-- Strings that lie behind one another from a on. -/
structure StrsAt (w : World) (a : Option Addr) (l : List (List UInt8)) : Prop where
  cell : ∀ i x, l[i]? = some x → ∃ ad, a = some ad ∧ w.cell? (ad.add i) = some (.string (strOf x))
theorem StrsAt.keeps {S : Nat → Prop} {w w' : World} {a : Option Addr} {l : List (List UInt8)} (h : StrsAt w a l) (hk : Keeps S w w') (hs : ∀ k, k < w.heap.size → ¬ S k) : StrsAt w' a l := by
  refine ⟨fun i x hx => ?_⟩
  obtain ⟨ad, e, hc⟩ := h.cell i x hx
  have hl := World.block_lt_of_cell? w _ hc
  exact ⟨ad, e, (hk.cell hl (hs _ hl)).trans hc⟩
set_option maxRecDepth 100000 in
set_option maxHeartbeats 1000000 in
theorem rroot_none (A : Option Addr) (c : Nat) (w : World) :
    Calls Tryd.prog 17 #[.slice A 0 c] w fun e w' => e = .returned (.agg (bvs (Tr.root [])).toArray) ∧ Keeps (fun _ => False) w w' := by
  obtain ⟨Z, hZ, hz, hzs⟩ := zero_hash
  have hof : ∀ V : World, Calls Tryd.prog 47 #[.string ⟨#[]⟩] V fun e w' => e = .returned (.agg (bvs (Tr.root [])).toArray) ∧ Keeps (fun _ => False) V w' := fun V => rof_any [] V (by decide)
  obtain ⟨s1, z1, o1⟩ := arr_hash (Tr.root []) (Tr.root_length _)
  obtain ⟨R, hR⟩ : ∃ R, (bvs (Tr.root [])).toArray = R := ⟨_, rfl⟩
  rw [hR] at hof s1 z1 o1 ⊢
  obtain ⟨W1, hW1⟩ : ∃ V, w.alloc (.cells Z 34) = V := ⟨_, rfl⟩
  have k1 : Keeps (fun _ => False) w W1 := by rw [← hW1]; exact (Keeps.refl _ _).alloc _
  have r2 : W1.heap[w.heap.size]? = some (.cells Z 34 (0, 0)) := by rw [← hW1]; exact heap_alloc_new w _
  have HOF := Lib.hid hof
  have S1 := Lib.hid s1
  have ZZ := Lib.hid (hzs.trans z1.symm)
  have O1 := Lib.hid o1
  have K1 := Lib.hid k1
  have R2 := Lib.hid r2
  clear hof s1 z1 o1 k1 r2 hR hZ hzs
  go_enter Tryd.func17, Tryd.ntmps17
  go_wp2_with fail
  refine (HOF.out _).mono ?_
  rintro e w2 ⟨rfl, k2⟩
  have R22 := Lib.hid ((k2.block _ (Array.getElem?_eq_some_iff.1 R2.out).1 id).trans R2.out)
  have K2 := Lib.hid (K1.out.trans k2)
  clear k2
  go_wp2_with (refine wpList_store_row rfl 34 _ _ rfl w.heap.size R rfl rfl 34 Z R22.out S1.out ZZ.out O1.out ?_)
  refine bodyPost_ret (results_cell_row rfl _ _ w.heap.size 34 R (0, 0) _ rfl (setRow_heap _ _ _ _ _ _ R22.out) Tryd.underlying34 rfl S1.out) rfl ?_
  exact ⟨rfl, K2.out.trans' (Keeps.setRow w.heap.size R) (fun i hi h => by omega)⟩
set_option maxRecDepth 100000 in
set_option maxHeartbeats 8000000 in
theorem rroot_some (ad : Addr) (c : Nat) (l : List (List UInt8)) (w : World) (hS : StrsAt w (some ad) l) (h1 : 1 ≤ l.length) (hn1 : l.length ≤ 1000) (h399 : ∀ x ∈ l, x.length ≤ 399) :
    Calls Tryd.prog 17 #[.slice (some ad) l.length c] w fun e w' => e = .returned (.agg (bvs (Tr.root l)).toArray) ∧ Keeps (fun _ => False) w w' := by
  obtain ⟨Z, hZ, hz, hzs⟩ := zero_hash
  obtain ⟨W1, hW1⟩ : ∃ V, w.alloc (.cells Z 34) = V := ⟨_, rfl⟩
  have k1 : Keeps (fun _ => False) w W1 := by rw [← hW1]; exact (Keeps.refl _ _).alloc _
  have r2 : W1.heap[w.heap.size]? = some (.cells Z 34 (0, 0)) := by rw [← hW1]; exact heap_alloc_new w _
  obtain ⟨n, hn⟩ : ∃ n, l.length = n := ⟨_, rfl⟩
  obtain ⟨ih, zh, hih, hzh, hsh, hbh, hzsh⟩ := info_hash
  obtain ⟨i0, hi0, hz0, hs0, hb0⟩ := info_parts (show (Tryd.prog.info? 3).map (fun i => (i.zero, i.size, i.bytes)) = some (some (.int .i64 0), 1, 8) by kernel_rfl)
  have HN := Lib.hid hn
  have HAL : Hid (∀ V : World, (Instr.alloc 34 true (.tuple #[])).run Tryd.prog V = .ok (.pointer (some ⟨V.heap.size, 0, none⟩)) (V.alloc (.cells Z 34))) := fun V => by go_simp
  have HS := Lib.hid hS
  have H399 := Lib.hid h399
  have K1 := Lib.hid k1
  have R2 := Lib.hid r2
  have HZS := Lib.hid hzs
  have HHH := Lib.hid (And.intro hih (And.intro hzh (And.intro hsh (And.intro hbh hzsh))))
  have HII := Lib.hid (And.intro hi0 (And.intro hz0 (And.intro hs0 hb0)))
  rw [hn] at h1 hn1 ⊢
  have hn0 : ((n : Int) == 0) = false := by rw [beq_eq_false_iff_ne]; omega
  have hst : Stk W1 [] (.slice none 0 0) (.slice none 0 0) W1 := Stk.nil W1
  have HST := Lib.hid hst
  clear hn hS h399 k1 r2 hZ hzs hih hzh hsh hbh hzsh hi0 hz0 hs0 hb0 hst
  go_enter Tryd.func17, Tryd.ntmps17
  go_wp2_with fail
  go_loopw [3, 4, 5, 6, 7] (fun hv sv iv nv xv wr => ∃ (i : Nat) (st : List (List (List UInt8))) (m : Nat) (A1 A2 : Option Addr) (c1 c2 : Nat), i ≤ n ∧ iv = .int .i64 (i : Int) ∧ hv = .slice A1 m c1 ∧ sv = .slice A2 m c2 ∧ m ≤ i ∧ Hid (st.length = m ∧ Tr.Up st ∧ Tr.cat st = l.take i) ∧ Hid (Stk W1 st (.slice A1 m c1) (.slice A2 m c2) wr)) (fun _ _ iv _ _ _ => n - (intOf iv).toNat)
  case atStart => exact ⟨0, [], 0, none, none, 0, 0, by omega, rfl, rfl, rfl, by omega, Lib.hid ⟨rfl, trivial, rfl⟩, HST⟩
  case round =>
    clear HST
    obtain ⟨i, st, m, A1, A2, c1, c2, hi, rfl, rfl, rfl, hmi, HU, HK⟩ := hrel
    by_cases hlt : i < n
    · obtain ⟨x, hx⟩ : ∃ x, l[i]? = some x := ⟨_, List.getElem?_eq_getElem (by rw [HN.out]; exact hlt)⟩
      have hsw := HS.out.keeps (K1.out.trans HK.out.keep) (fun _ _ => id)
      obtain ⟨ad2, e, hc⟩ := hsw.cell i x hx
      injection e with e
      subst e
      have hx399 := H399.out x (List.mem_of_getElem? hx)
      have hleaf := fun V => rleaf_any x V hx399
      have hl1 : (Tr.root [x]).length = 32 := Tr.root_length _
      have hcat : Tr.cat ([x] :: st) = l.take (i + 1) := by
        rw [List.take_add_one, hx, ← HU.out.2.2]
        rfl
      have hnear := Tr.Near.push HU.out.2.1 x
      have hbh := fun V => build_hash (Tr.root [x]) hl1 V
      have hll := bvs_length (Tr.root [x])
      have hone : ∀ u ∈ bvs (Tr.root [x]), u.oneCell' = true := bvs_one _
      have hhs : flat (hashes st) ++ bvs (Tr.root [x]) = flat (hashes ([x] :: st)) := by rw [hashes_cons, flat_snoc]
      rw [hl1] at hll
      have hlf : Sh.sha (0 :: x) = Tr.root [x] := (Tr.root_one x).symm
      rw [hlf] at hleaf
      obtain ⟨LC, hLC⟩ : ∃ L, bvs (Tr.root [x]) = L := ⟨_, rfl⟩
      obtain ⟨s0, hs0⟩ : ∃ s, strOf x = s := ⟨_, rfl⟩
      rw [hLC] at hleaf hbh hll hone hhs
      rw [hs0] at hleaf hc
      have HLF := Lib.hid hleaf
      have HBH := Lib.hid hbh
      have HLL := Lib.hid hll
      have HONE := Lib.hid hone
      have HHS := Lib.hid hhs
      have HCAT := Lib.hid hcat
      have HNR := Lib.hid hnear
      have hm1 : m ≤ 1000 := by omega
      clear hsw hx399 hleaf hl1 hcat hnear hbh hll hone hhs hlf hLC hs0 hx
      go_wp2_with fail
      refine (HLF.out wr).mono ?_
      rintro e3 w3 ⟨rfl, k3⟩
      have HK3 := Lib.hid (HK.out.later k3)
      have hlt3 := HK3.out.keep.size
      clear k3 hc
      go_wp2_with (first
        | (refine wpList_buildSlice_run rfl 28 1 0 (.tmp 25) (by rfl) (.agg LC.toArray) _ (by rfl) (HBH.out _) ?_)
        | (refine wpList_append_own _ (by rfl) (.tmp 20) (.tmp 26) 28 (by rfl) W1.heap.size 34 ih zh 32 32 Tryd.underlying28 HHH.out.1 HHH.out.2.1 HHH.out.2.2.1 HHH.out.2.2.2.1 HHH.out.2.2.2.2 (by decide) (.slice A1 m c1) m (flat (hashes st)) (by rfl) (by have := HU.out.1; subst this; exact Keeps.owns (S := fun _ => False) ((Keeps.refl _ _).alloc _) HK3.out.hash (fun _ _ => id)) ⟨w3.heap.size, 0, none⟩ 1 1 LC (by rfl) (by rw [HLL.out]) (World.news_of_block (heap_alloc_new w3 _)) HONE.out (by unfold maxLen; omega) (by omega) (by simp; omega) ?_; intro v4 w4 ho4 hg4 _; have HO4 := Lib.hid ho4; have HG4 := Lib.hid hg4; obtain ⟨A4, c4, rfl⟩ := own_slice ho4; clear ho4 hg4; have HSZ4 := Lib.hid ((HK3.out.later ((Keeps.refl _ _).alloc (.cells LC.toArray 34))).hashed rfl HG4.out); have hlt4 := HSZ4.out.2.size)
        | (refine wpList_append_own _ (by rfl) (.tmp 28) (.tmp 29) 69 (by rfl) W1.heap.size 3 i0 (.int .i64 0) 1 8 Tryd.underlying69 HII.out.1 HII.out.2.1 HII.out.2.2.1 HII.out.2.2.2 rfl (by decide) (.slice A2 m c2) m (sizes st) (by rfl) (by have := HU.out.1; subst this; exact Keeps.owns (S := fun _ => False) ((Keeps.refl _ _).alloc _) HSZ4.out.1 (fun _ _ => id)) ⟨w4.heap.size, 0, none⟩ 1 1 [.int .i64 1] (by rfl) (by rfl) (World.news_of_block (heap_alloc_new w4 _)) (by intro u hu; rw [List.mem_singleton] at hu; subst hu; rfl) (by unfold maxLen; omega) (by omega) (by simp; omega) ?_; intro v5 w5 ho5 hg5 _; have HO5 := Lib.hid ho5; have HG5 := Lib.hid hg5; obtain ⟨A5, c5, rfl⟩ := own_slice ho5; clear ho5 hg5))
      have HK5 : Hid (Stk W1 ([x] :: st) (.slice A4 (m + 1) c4) (.slice A5 (m + 1) c5) w5) := Lib.hid (by
        have hm := HU.out.1
        have h4 := HO4.out
        rw [HHS.out] at h4
        have ka : Keeps (fun _ => False) w4 (w4.alloc (.cells #[.int .i64 1] 3)) := (Keeps.refl _ _).alloc _
        have hh := ka.owns h4 (fun _ _ => id)
        have hs := ka.owns HSZ4.out.1 (fun _ _ => id)
        subst hm
        exact Stk.sized (s := [x]) hh hs (HSZ4.out.2.trans ka) rfl HG5.out HO5.out)
      clear HO4 HG4 HSZ4 HO5 HG5 HLF HBH HLL HONE HHS HK3 HK hlt3 hlt4
      go_loopw [3, 4, 6, 7] (fun hv sv nv xv wr => ∃ (s : List (List UInt8)) (r : List (List (List UInt8))) (k : Nat) (A1 A2 : Option Addr) (c1 c2 : Nat), hv = .slice A1 k c1 ∧ sv = .slice A2 k c2 ∧ nv = .int .i64 (k : Int) ∧ k ≤ m + 1 ∧ Hid (r.length + 1 = k ∧ Tr.Near s r ∧ Tr.cat (s :: r) = l.take (i + 1)) ∧ Hid (Stk W1 (s :: r) (.slice A1 k c1) (.slice A2 k c2) wr)) (fun _ _ nv _ _ => (intOf nv).toNat)
      case atStart => exact ⟨[x], st, m + 1, A4, A5, c4, c5, rfl, rfl, by go_num, by omega, Lib.hid ⟨by rw [HU.out.1], HNR.out, HCAT.out⟩, HK5⟩
      case round =>
        clear HK5 HCAT HNR HU
        obtain ⟨s, r, k, A6, A7, c6, c7, rfl, rfl, rfl, hkm, HV, HK6⟩ := hrel
        cases r with
        | nil =>
          obtain rfl : k = 1 := HV.out.1.symm
          have HUP := Lib.hid (HV.out.2.1.up (fun t ht => by simp at ht))
          go_wp2_with fail
          go_quiet (fail)
          go_wp2_with fail
          go_roundw
          case rel => exact ⟨i + 1, [s], 1, A6, A7, c6, c7, by omega, by go_num, rfl, rfl, by omega, Lib.hid ⟨rfl, HUP.out, HV.out.2.2⟩, Lib.hid (HK6.out.later ((Keeps.refl _ _).drewN nq))⟩
          case measure => simp [intOf]; omega
        | cons t r =>
          obtain ⟨q, hq⟩ : ∃ q, r.length = q := ⟨_, rfl⟩
          obtain ⟨p, hp⟩ : ∃ p, q + 1 = p := ⟨_, rfl⟩
          have hk := HV.out.1
          rw [List.length_cons, hq] at hk
          have hk1 : (k : Int) - 1 = (p : Int) := by omega
          have hk2 : (k : Int) - 2 = (q : Int) := by omega
          have hk3 : (1 : Int) < k := by omega
          have hpk : (p : Int) < k := by omega
          have hqk : (q : Int) < k := by omega
          have hk1000 : k ≤ 1001 := by omega
          obtain ⟨g7, e7⟩ : ∃ g, A7 = some ⟨g, 0, none⟩ := by
            obtain ⟨g, _, e⟩ := own_some HK6.out.size (by show 0 < r.length + 1 + 1; omega)
            injection e with e
            exact ⟨g, e⟩
          obtain ⟨g6, e6⟩ : ∃ g, A6 = some ⟨g, 0, none⟩ := by
            obtain ⟨g, _, e⟩ := own_some HK6.out.hash (by show 0 < r.length + 1 + 1; omega)
            injection e with e
            exact ⟨g, e⟩
          subst e7
          subst e6
          have hcs := HK6.out.size.cells (g := g7) rfl p (.int .i64 (s.length : Int)) (by rw [← hp, ← hq]; exact (sizes_top s t r).1)
          have hct := HK6.out.size.cells (g := g7) rfl q (.int .i64 (t.length : Int)) (by rw [← hq]; exact (sizes_top s t r).2)
          obtain ⟨sl, hsl⟩ : ∃ a, s.length = a := ⟨_, rfl⟩
          obtain ⟨tl, htl⟩ : ∃ a, t.length = a := ⟨_, rfl⟩
          rw [hsl] at hcs
          rw [htl] at hct
          simp only [add_plain, Nat.zero_add] at hcs hct
          have HSL := Lib.hid hsl
          have HTL := Lib.hid htl
          have HQ := Lib.hid (And.intro hq (And.intro hp hk))
          clear hsl htl hq hp hk
          by_cases he : sl = tl
          · have heq : ((sl : Int) == (tl : Int)) = true := by rw [beq_iff_eq, he]
            go_wp2_with fail
            go_quiet (fail)
            have HK7 := Lib.hid (HK6.out.later ((Keeps.refl (fun _ => False) wr).drewN nq))
            clear hcs hct HK6 heq
            subst he
            obtain ⟨wq, hwq⟩ : ∃ V, wr.drewN nq = V := ⟨_, rfl⟩
            rw [hwq] at HK7
            have hpath := PathAt.of_own HK7.out.hash (hashes_all (s :: t :: r)) rfl
            have htp := hashes_top s t r
            rw [HQ.out.1, HQ.out.2.1] at htp
            obtain ⟨b1, o1, eb, hrs⟩ := hpath.lie p _ htp.1
            injection eb with eb
            injection eb with eb1 eb2 _
            subst eb1
            subst eb2
            obtain ⟨b1, o1, eb, hrt⟩ := hpath.lie q _ htp.2
            injection eb with eb
            injection eb with eb1 eb2 _
            subst eb1
            subst eb2
            rw [Nat.zero_add] at hrs hrt
            have hm := HV.out.2.1.merge (by rw [HSL.out, HTL.out])
            have hml : (t ++ s).length = 2 * sl := by rw [List.length_append, HSL.out, HTL.out, Nat.two_mul]
            have hls : (Tr.root s).length = 32 := Tr.root_length _
            have hlt' : (Tr.root t).length = 32 := Tr.root_length _
            have hnode := fun V => rnode_any (Tr.root t) (Tr.root s) V hlt' hls
            have hnl : (Tr.root (t ++ s)).length = 32 := Tr.root_length _
            rw [← Tr.node, ← hm.2] at hnode
            have hbs := fun V => build_hash (Tr.root (t ++ s)) hnl V
            have hflat : flat (hashes r) ++ bvs (Tr.root (t ++ s)) = flat (hashes ((t ++ s) :: r)) := by rw [hashes_cons, flat_snoc]
            have hsz : sizes r ++ [.int .i64 ((2 * sl : Nat) : Int)] = sizes ((t ++ s) :: r) := by rw [sizes_cons, hml]
            have hone := bvs_one (Tr.root (t ++ s))
            have hcl := bvs_length (Tr.root (t ++ s))
            rw [hnl] at hcl
            obtain ⟨x1, x2, x3⟩ := arr_hash (Tr.root (t ++ s)) hnl
            have sS : (Tryd.prog.info? 34).map (·.size) = some (bvs (Tr.root s)).length := by rw [bvs_length, hls]; exact size_hash'
            have sT : (Tryd.prog.info? 34).map (·.size) = some (bvs (Tr.root t)).length := by rw [bvs_length, hlt']; exact size_hash'
            have sN : (Tryd.prog.info? 34).map (·.size) = some (bvs (Tr.root (t ++ s))).length := by rw [bvs_length, hnl]; exact size_hash'
            obtain ⟨CS, hCS⟩ : ∃ L, bvs (Tr.root s) = L := ⟨_, rfl⟩
            obtain ⟨CT, hCT⟩ : ∃ L, bvs (Tr.root t) = L := ⟨_, rfl⟩
            obtain ⟨CN, hCN⟩ : ∃ L, bvs (Tr.root (t ++ s)) = L := ⟨_, rfl⟩
            rw [hCS] at hrs hnode sS
            rw [hCT] at hrt hnode sT
            rw [hCN] at hnode hbs hflat hone hcl x1 x2 x3 sN
            have hkc : k ≤ c6 := by
              rcases HK7.out.hash.2 with ⟨h1, _⟩ | ⟨_, _, _, h1, _, _, h2, _⟩
              · cases h1
              · injection h1 with h1 _ h3
                subst h3
                have := HV.out.1
                simp only [List.length_cons] at h2 this
                omega
            have hkc7 : k ≤ c7 := by
              rcases HK7.out.size.2 with ⟨h1, _⟩ | ⟨_, _, _, h1, _, _, h2, _⟩
              · cases h1
              · injection h1 with h1 _ h3
                subst h3
                have := HV.out.1
                simp only [List.length_cons] at h2 this
                omega
            have hqc6 : (q : Int) ≤ c6 := by omega
            have hqc7 : (q : Int) ≤ c7 := by omega
            have hslb : sl ≤ 1000 := by
              have h1 := Tr.cat_length_top s (t :: r)
              rw [HV.out.2.2, List.length_take, HN.out, HSL.out] at h1
              omega
            have LS : Hid (∀ V, Later wq V → V.rangeAt g6 (p * 32) CS) := fun V hV => range_keeps hrs hV.out (fun _ _ => id)
            have LT : Hid (∀ V, Later wq V → V.rangeAt g6 (q * 32) CT) := fun V hV => range_keeps hrt hV.out (fun _ _ => id)
            have NODE := Lib.hid hnode
            have HBS := Lib.hid hbs
            have HFL := Lib.hid hflat
            have HSZ := Lib.hid hsz
            have HONE := Lib.hid hone
            have HCL := Lib.hid hcl
            have X1 := Lib.hid x1
            have X2 := Lib.hid (HZS.out.trans x2.symm)
            have X3 := Lib.hid x3
            have SS := Lib.hid sS
            have ST := Lib.hid sT
            have SN := Lib.hid sN
            have HMG := Lib.hid hm
            clear hrs hrt hnode hbs hflat hsz hone hcl x1 x2 x3 sS sT sN hm hml hls hlt' hnl hCS hCT hCN hpath htp hkc hkc7
            go_wp2_with fail
            clear hwq
            refine wp_region_stores 13 [11, 12] [0, 1, 2, 3, 4, 5, 6, 7, 8, 9, 10, 11, 12] (Later wq) (fun _ => True) (by kernel_rfl) (by kernel_rfl) (Lasts.later wq) (Lasts.true) (⟨(Keeps.refl _ _).drew⟩) (trivial) ?_
            refine T_quiet (get_op rfl) (by rfl) (by rfl) (by rfl) ?_
            intro K hK
            go_big_quiet_op
            first | go_big_quiet_on | go_big_quiet_call ((intro _; rfl))
            refine T_quiet (get_op rfl) (by rfl) (by rfl) (by rfl) ?_
            intro K hK
            go_big_quiet_op
            first | go_big_quiet_on | go_big_quiet_call ((intro _; rfl))
            refine T_quiet (get_op rfl) (by rfl) (by rfl) (by rfl) ?_
            intro K hK
            go_big_quiet_op
            first | go_big_quiet_on | go_big_quiet_call ((intro _; rfl))
            refine T_quiet (get_op rfl) (by rfl) (by rfl) (by rfl) ?_
            intro K hK
            go_big_quiet_op
            first | go_big_quiet_on | go_big_quiet_call ((intro _; rfl))
            refine T_load (get_op rfl) (by rfl) (by rfl) 34 (.tmp 53) (by rfl) g6 (q * 32) (by rfl) CT _ (fun V hV => LT.out V hV) Tryd.underlying34 rfl ST.out ?_
            simp only [Act.put, List.setIfInBounds_toArray, List.set_cons_zero, List.set_cons_succ]
            refine T_quiet (get_op rfl) (by rfl) (by rfl) (by rfl) ?_
            intro K hK
            go_big_quiet_op
            first | go_big_quiet_on | go_big_quiet_call ((intro _; rfl))
            refine T_quiet (get_op rfl) (by rfl) (by rfl) (by rfl) ?_
            intro K hK
            go_big_quiet_op
            first | go_big_quiet_on | go_big_quiet_call ((intro _; rfl))
            refine T_quiet (get_op rfl) (by rfl) (by rfl) (by rfl) ?_
            intro K hK
            go_big_quiet_op
            first | go_big_quiet_on | go_big_quiet_call ((intro _; rfl))
            refine T_quiet (get_op rfl) (by rfl) (by rfl) (by rfl) ?_
            intro K hK
            go_big_quiet_op
            first | go_big_quiet_on | go_big_quiet_call ((intro _; rfl))
            refine T_load (get_op rfl) (by rfl) (by rfl) 34 (.tmp 58) (by rfl) g6 (p * 32) (by rfl) CS _ (fun V hV => LS.out V hV) Tryd.underlying34 rfl SS.out ?_
            simp only [Act.put, List.setIfInBounds_toArray, List.set_cons_zero, List.set_cons_succ]
            refine T_call (get_op rfl) (by rfl) (by rfl) _ _ (.agg CN.toArray) (fun _ => by go_simp) (fun V hV => NODE.out V) ?_
            simp only [Act.put, List.setIfInBounds_toArray, List.set_cons_zero, List.set_cons_succ]
            refine T_alloc (get_op rfl) (by rfl) (by rfl) 34 Z (by rfl) HAL.out (Lasts.later wq) Lasts.true wq.heap.size (fun V hV => hV.out.size) ?_
            intro g14 hge
            simp only [Act.put, List.setIfInBounds_toArray, List.set_cons_zero, List.set_cons_succ]
            refine T_store (get_op rfl) (by rfl) (by rfl) 34 (.tmp 7) (.tmp 60) (by rfl) (by rfl) g14 (by rfl) CN.toArray Z (by rfl) 34 X1.out X2.out X3.out (fun V => V.heap[g14]? = some (.cells CN.toArray 34 (0, 0))) (Lasts.block _ _) (fun V hb hf => ⟨hf.2, ⟨hb.out.trans' (Keeps.setRow _ _) (fun i hi h => by omega)⟩, setRow_heap _ _ _ _ _ _ hf.2⟩) ?_
            refine T_nil ?_
            intro V6 h6 r6
            have HK8 := Lib.hid (HK7.out.later h6.out)
            have hh8 := HK8.out.hash
            rw [show (s :: t :: r).length = k from HV.out.1] at hh8
            have hop := own_prefix hh8 (k := q) (by omega) (by omega)
            clear hh8
            have hft := flat_hashes_take s t r
            rw [HQ.out.1] at hft
            rw [hft] at hop
            have HOP := Lib.hid hop
            have R6 := Lib.hid r6
            have K6 : Hid (∀ V, Later V6 V → V.rangeAt g14 0 CN) := fun V hV => rangeAt_row ((hV.out.block _ (Array.getElem?_eq_some_iff.1 r6).1 id).trans r6)
            clear hop hft h6 r6 hge LS LT HK7
            simp only [List.drop_succ_cons, List.drop_zero]
            go_wp2_with fail
            refine wp_region_stores 6 [5] [0, 1, 2, 3, 4, 5] (Later V6) (fun _ => True) (by kernel_rfl) (by kernel_rfl) (Lasts.later V6) (Lasts.true) (⟨(Keeps.refl _ _).drew⟩) (trivial) ?_
            refine T_quiet (get_op rfl) (by rfl) (by rfl) (by rfl) ?_
            intro K hK
            go_big_quiet_op
            first | go_big_quiet_on | go_big_quiet_call ((intro _; rfl))
            refine T_quiet (get_op rfl) (by rfl) (by rfl) (by rfl) ?_
            intro K hK
            go_big_quiet_op
            first | go_big_quiet_on | go_big_quiet_call ((intro _; rfl))
            refine T_quiet (get_op rfl) (by rfl) (by rfl) (by rfl) ?_
            intro K hK
            go_big_quiet_op
            first | go_big_quiet_on | go_big_quiet_call ((intro _; rfl))
            refine T_quiet (get_op rfl) (by rfl) (by rfl) (by rfl) ?_
            intro K hK
            go_big_quiet_op
            first | go_big_quiet_on | go_big_quiet_call ((intro _; rfl))
            refine T_load (get_op rfl) (by rfl) (by rfl) 34 (.tmp 7) (by rfl) g14 0 (by rfl) CN _ (fun V hV => K6.out V hV) Tryd.underlying34 rfl SN.out ?_
            simp only [Act.put, List.setIfInBounds_toArray, List.set_cons_zero, List.set_cons_succ]
            refine T_build (get_op rfl) (by rfl) (by rfl) 28 34 (.tmp 65) (.agg CN.toArray) CN.toArray (by rfl) (by rfl) HBS.out (Lasts.later V6) Lasts.true V6.heap.size (fun V hV => hV.out.size) ?_
            intro g15 hge7
            simp only [Act.put, List.setIfInBounds_toArray, List.set_cons_zero, List.set_cons_succ]
            refine T_nil ?_
            intro V7 h7 r7
            have HK9 := Lib.hid (HK8.out.later h7.out)
            have HOP7 := Lib.hid (h7.out.owns HOP.out (fun _ _ => id))
            have hlt7 := HK9.out.keep.size
            have R7 := Lib.hid r7.2
            clear h7 r7 hge7 K6 R6 HOP HK8
            simp only [List.drop_succ_cons, List.drop_zero]
            go_wp2_with (refine wpList_append_own _ (by rfl) (.tmp 64) (.tmp 66) 28 (by rfl) W1.heap.size 34 ih zh 32 32 Tryd.underlying28 HHH.out.1 HHH.out.2.1 HHH.out.2.2.1 HHH.out.2.2.2.1 HHH.out.2.2.2.2 (by decide) (.slice (some ⟨g6, 0, none⟩) q c6) q (flat (hashes r)) (by rfl) HOP7.out ⟨g15, 0, none⟩ 1 1 CN (by rfl) (by rw [HCL.out]) (World.news_of_block R7.out) HONE.out (by unfold maxLen; omega) (by omega) (by omega) ?_; intro v8 w8 ho8 hg8 _; have HO8 := Lib.hid ho8; have HG8 := Lib.hid hg8; obtain ⟨A8, c8, rfl⟩ := own_slice ho8; clear ho8 hg8)
            have HSZ8 := Lib.hid (HK9.out.hashed (hv2 := .slice (some ⟨g6, 0, none⟩) q c6) rfl HG8.out)
            have hcs8 := HSZ8.out.1.cells (g := g7) rfl p (.int .i64 (s.length : Int)) (by rw [← HQ.out.2.1, ← HQ.out.1]; exact (sizes_top s t r).1)
            rw [HSL.out, add_plain, Nat.zero_add] at hcs8
            have hh8 := HSZ8.out.1
            rw [show (s :: t :: r).length = k from HV.out.1] at hh8
            have hop := own_prefix hh8 (k := q) (by omega) (by omega)
            clear hh8
            have hft := sizes_take s t r
            rw [HQ.out.1] at hft
            rw [hft] at hop
            have HOP8 := Lib.hid hop
            have C8 : Hid (∀ V, Later w8 V → V.cell? ⟨g7, p, none⟩ = some (.int .i64 (sl : Int))) := fun V hV => (hV.out.cell (World.block_lt_of_cell? w8 _ hcs8) id).trans hcs8
            have hmul1 : (0 : Int) ≤ sl := by omega
            have hmul2 : (sl : Int) ≤ 1000 := by omega
            have hmul3 : IntKind.i64.wrap (2 * (sl : Int)) = 2 * (sl : Int) := IntWalk.i64_in _ (by omega)
            clear hop hft hcs8 HK9 HOP7 R7 hlt7
            have hbi : ∀ V, (Instr.buildSlice 69 1 #[(0, .int .i64 (2 * (sl : Int)))]).run Tryd.prog V = .ok (.slice (some ⟨V.heap.size, 0, none⟩) 1 1) (V.alloc (.cells #[.int .i64 (2 * (sl : Int))] 3)) := fun V => by kernel_rfl
            have HBI := Lib.hid hbi
            clear hbi
            go_wp2_with fail
            refine wp_region_stores 11 [10] [0, 1, 2, 3, 4, 5, 6, 7, 8, 9, 10] (Later w8) (fun _ => True) (by kernel_rfl) (by kernel_rfl) (Lasts.later w8) (Lasts.true) (⟨(Keeps.refl _ _).drew⟩) (trivial) ?_
            refine T_quiet (get_op rfl) (by rfl) (by rfl) (by rfl) ?_
            intro K hK
            go_big_quiet_op
            first | go_big_quiet_on | go_big_quiet_call ((intro _; rfl))
            refine T_quiet (get_op rfl) (by rfl) (by rfl) (by rfl) ?_
            intro K hK
            go_big_quiet_op
            first | go_big_quiet_on | go_big_quiet_call ((intro _; rfl))
            refine T_quiet (get_op rfl) (by rfl) (by rfl) (by rfl) ?_
            intro K hK
            go_big_quiet_op
            first | go_big_quiet_on | go_big_quiet_call ((intro _; rfl))
            refine T_quiet (get_op rfl) (by rfl) (by rfl) (by rfl) ?_
            intro K hK
            go_big_quiet_op
            first | go_big_quiet_on | go_big_quiet_call ((intro _; rfl))
            refine T_quiet (get_op rfl) (by rfl) (by rfl) (by rfl) ?_
            intro K hK
            go_big_quiet_op
            first | go_big_quiet_on | go_big_quiet_call ((intro _; rfl))
            refine T_quiet (get_op rfl) (by rfl) (by rfl) (by rfl) ?_
            intro K hK
            go_big_quiet_op
            first | go_big_quiet_on | go_big_quiet_call ((intro _; rfl))
            refine T_quiet (get_op rfl) (by rfl) (by rfl) (by rfl) ?_
            intro K hK
            go_big_quiet_op
            first | go_big_quiet_on | go_big_quiet_call ((intro _; rfl))
            refine T_quiet (get_op rfl) (by rfl) (by rfl) (by rfl) ?_
            intro K hK
            go_big_quiet_op
            first | go_big_quiet_on | go_big_quiet_call ((intro _; rfl))
            refine T_cell (get_op rfl) (by rfl) (by rfl) 3 (.tmp 75) (by rfl) ⟨g7, p, none⟩ (by rfl) (.int .i64 (sl : Int)) _ (fun V hV => C8.out V hV) Tryd.underlying3 rfl ?_
            simp only [Act.put, List.setIfInBounds_toArray, List.set_cons_zero, List.set_cons_succ]
            refine T_value (get_op rfl) (by rfl) (by rfl) (.int .i64 (2 * (sl : Int))) (fun _ _ => by go_simp) ?_
            simp only [Act.put, List.setIfInBounds_toArray, List.set_cons_zero, List.set_cons_succ]
            refine T_build (get_op rfl) (by rfl) (by rfl) 69 3 (.tmp 77) (.int .i64 (2 * (sl : Int))) #[.int .i64 (2 * (sl : Int))] (by rfl) (by rfl) HBI.out (Lasts.later w8) Lasts.true w8.heap.size (fun V hV => hV.out.size) ?_
            intro g16 hge10
            simp only [Act.put, List.setIfInBounds_toArray, List.set_cons_zero, List.set_cons_succ]
            refine T_nil ?_
            intro V10 h10 r10
            have hlt10 := (HSZ8.out.2.trans h10.out).size
            have HOP10 := Lib.hid (h10.out.owns HOP8.out (fun _ _ => id))
            have HH10 := Lib.hid (h10.out.owns HO8.out (fun _ _ => id))
            have HK10 := Lib.hid (HSZ8.out.2.trans h10.out)
            have R10 := Lib.hid r10.2
            clear h10 r10 hge10 C8 HOP8 HSZ8
            simp only [List.drop_succ_cons, List.drop_zero]
            go_wp2_with (refine wpList_append_own _ (by rfl) (.tmp 71) (.tmp 78) 69 (by rfl) W1.heap.size 3 i0 (.int .i64 0) 1 8 Tryd.underlying69 HII.out.1 HII.out.2.1 HII.out.2.2.1 HII.out.2.2.2 rfl (by decide) (.slice (some ⟨g7, 0, none⟩) q c7) q (sizes r) (by rfl) HOP10.out ⟨g16, 0, none⟩ 1 1 [.int .i64 (2 * (sl : Int))] (by rfl) (by rfl) (World.news_of_block R10.out) (by intro u hu; rw [List.mem_singleton] at hu; subst hu; rfl) (by unfold maxLen; omega) (by omega) (by omega) ?_; intro v11 w11 ho11 hg11 _; have HO11 := Lib.hid ho11; have HG11 := Lib.hid hg11; obtain ⟨A11, c11, rfl⟩ := own_slice ho11; clear ho11 hg11)
            have HK11 : Hid (Stk W1 ((t ++ s) :: r) (.slice A8 (q + 1) c8) (.slice A11 (q + 1) c11) w11) := Lib.hid (by
              have hh := HH10.out
              rw [HFL.out] at hh
              have hq1 := HQ.out.1
              have ho := HO11.out
              have hml : (((t ++ s).length : Nat) : Int) = 2 * (sl : Int) := by rw [List.length_append, HSL.out, HTL.out]; omega
              have hs : V10.ownsRow W1.heap.size 3 1 (.slice (some ⟨g7, 0, none⟩) q c7) q (sizes r) := HOP10.out
              subst hq1
              rw [← hml] at ho
              exact Stk.sized (st := r) (s := t ++ s) (hv := .slice A8 (r.length + 1) c8) (sv := .slice (some ⟨g7, 0, none⟩) r.length c7) (sv2 := .slice (some ⟨g7, 0, none⟩) r.length c7) hh hs HK10.out rfl HG11.out ho)
            clear HO11 HG11 HOP10 HK10 HH10 R10 HO8 HG8
            go_roundw
            case rel => exact ⟨t ++ s, r, q + 1, A8, A11, c8, c11, rfl, rfl, by go_num, by omega, Lib.hid ⟨by rw [HQ.out.1], HMG.out.1, by rw [← Tr.cat_merge]; exact HV.out.2.2⟩, HK11⟩
            case measure => simp [intOf]; omega
          · have heq : ((sl : Int) == (tl : Int)) = false := by rw [beq_eq_false_iff_ne]; omega
            have HUP := Lib.hid (HV.out.2.1.up (fun u hu => by
              simp at hu
              subst hu
              rw [HSL.out, HTL.out]
              exact he))
            go_wp2_with fail
            go_quiet (fail)
            have HK7 := Lib.hid (HK6.out.later ((Keeps.refl (fun _ => False) wr).drewN nq))
            clear hcs hct HK6
            go_wp2_with fail
            go_roundw
            case rel => exact ⟨i + 1, s :: t :: r, k, _, _, c6, c7, by omega, by go_num, rfl, rfl, by omega, Lib.hid ⟨HV.out.1, HUP.out, HV.out.2.2⟩, HK7⟩
            case measure => simp [intOf]; omega
    · obtain rfl : i = n := by omega
      have hcl : Tr.cat st = l := by rw [HU.out.2.2, List.take_of_length_le (by rw [HN.out]; exact Nat.le_refl _)]
      obtain ⟨s, r, rfl⟩ : ∃ s r, st = s :: r := by
        cases st with
        | nil =>
          have h0 : ([] : List (List UInt8)) = l := hcl
          have := HN.out
          rw [← h0] at this
          simp at this
          omega
        | cons s r => exact ⟨s, r, rfl⟩
      have hfold := Tr.fold_all s r HU.out.2.1
      rw [hcl] at hfold
      obtain ⟨q, hq⟩ : ∃ q, r.length = q := ⟨_, rfl⟩
      have hm : q + 1 = m := by rw [← hq]; exact HU.out.1
      obtain ⟨g, e1⟩ : ∃ g, A1 = some ⟨g, 0, none⟩ := by
        obtain ⟨g, _, e⟩ := own_some HK.out.hash (by show 0 < r.length + 1; omega)
        injection e with e
        exact ⟨g, e⟩
      subst e1
      have hpath := PathAt.of_own HK.out.hash (hashes_all (s :: r)) rfl
      have htop : (hashes (s :: r))[q]? = some (Tr.root s) := by
        rw [hashes_cons, List.getElem?_append_right (by rw [hashes_length]; omega), hashes_length, hq, Nat.sub_self]
        rfl
      have hlo := hpath.lie q _ htop
      obtain ⟨b, o, eb, hrg⟩ := hlo
      injection eb with eb
      injection eb with eb1 eb2 _
      subst eb1
      subst eb2
      have hmq1 : (m : Int) - 1 = (q : Int) := by omega
      have hmq2 : (m : Int) - 2 = (q : Int) - 1 := by omega
      have hqm : (q : Int) < m := by omega
      obtain ⟨s1, z1, o1⟩ := arr_hash (Tr.root s) (Tr.root_length _)
      have hll : (Tryd.prog.info? 34).map (·.size) = some (bvs (Tr.root s)).length := by rw [bvs_length, Tr.root_length]; exact size_hash'
      rw [Nat.zero_add] at hrg
      have ht0 : bvs (Tr.root s) = bvs (Tr.topFold s r 0) := rfl
      obtain ⟨RS, hRS⟩ : ∃ R, bvs (Tr.root s) = R := ⟨_, rfl⟩
      rw [hRS] at s1 z1 o1 hll hrg ht0
      have HT0 := Lib.hid ht0
      have HFOLD := Lib.hid hfold
      have HPATH := Lib.hid hpath
      have HRG := Lib.hid hrg
      have HQ := Lib.hid (And.intro hq hm)
      have S1 := Lib.hid s1
      have Z1 := Lib.hid (HZS.out.trans z1.symm)
      have O1 := Lib.hid o1
      have HLL := Lib.hid hll
      obtain ⟨V8, hV8⟩ : ∃ V, wr.alloc (.cells Z 34) = V := ⟨_, rfl⟩
      have k8 : Keeps (fun _ => False) wr V8 := by rw [← hV8]; exact (Keeps.refl _ _).alloc _
      have r8 : V8.heap[wr.heap.size]? = some (.cells Z 34 (0, 0)) := by rw [← hV8]; exact heap_alloc_new wr _
      have hlt8 : w.heap.size < wr.heap.size := Nat.lt_of_lt_of_le (Array.getElem?_eq_some_iff.1 R2.out).1 HK.out.keep.size
      obtain ⟨b8, hb8⟩ : ∃ b, wr.heap.size = b := ⟨_, rfl⟩
      rw [hb8] at r8 hlt8
      obtain ⟨V9, hV9⟩ : ∃ V, V8.setRow b8 RS.toArray = V := ⟨_, rfl⟩
      have k9 : Keeps (fun k => k = b8) V8 V9 := by rw [← hV9]; exact Keeps.setRow _ _
      have r9 : V9.heap[b8]? = some (.cells RS.toArray 34 (0, 0)) := by rw [← hV9]; exact setRow_heap _ _ _ _ _ _ r8
      have k89 : Keeps (fun _ => False) wr V9 := k8.trans' k9 (fun i hi h => by omega)
      have r29 : V9.heap[w.heap.size]? = some (.cells Z 34 (0, 0)) := ((k89.block _ (by rw [hb8]; exact hlt8) id).trans ((HK.out.keep.block _ (Array.getElem?_eq_some_iff.1 R2.out).1 id).trans R2.out))
      have K0 := Lib.hid (K1.out.trans (HK.out.keep.trans k89))
      have R8 := Lib.hid r8
      have R9 := Lib.hid r9
      have R29 := Lib.hid r29
      have K89 := Lib.hid k89
      have PT : Hid (∀ (V : World) (j : Nat) (y : List UInt8), Keeps (fun k => k = b8) V9 V → (hashes (s :: r))[j]? = some y → V.rangeAt g (j * 32) (bvs y)) := fun V j y hV hy => by
        obtain ⟨b1, o1, eb, hr1⟩ := HPATH.out.lie j y hy
        injection eb with eb
        injection eb with eb1 eb2 _
        subst eb1
        subst eb2
        rw [Nat.zero_add] at hr1
        exact range_keeps hr1 ((k89.mono (T := fun k => k = b8) (fun _ _ h => h.elim)).trans hV) (fun k hk h => by omega)
      clear hcl hfold hpath hrg hq hm s1 z1 o1 htop hll k8 r8 hRS ht0 k9 r9 k89 r29 HPATH HK
      go_wp2_with (first
        | (refine wpList_load_mid_w (by rfl) 34 (.tmp 84) (by rfl) g (q * 32) (by rfl) RS _ HRG.out Tryd.underlying34 rfl HLL.out ?_)
        | (refine wpList_store_row rfl 34 _ _ rfl b8 RS.toArray rfl rfl 34 Z R8.out S1.out Z1.out O1.out ?_))
      clear hV9 hV8
      have hq1 : q + 1 = m := HQ.out.2
      go_loopw [9] (fun iv wv => ∃ j : Nat, j ≤ q ∧ iv = .int .i64 ((j : Int) - 1) ∧ Hid (wv.heap[b8]? = some (.cells (bvs (Tr.topFold s r (q - j))).toArray 34 (0, 0))) ∧ Hid (Keeps (fun k => k = b8) V9 wv)) (fun iv _ => (intOf iv + 1).toNat)
      case atStart => exact ⟨q, Nat.le_refl _, by go_num, by rw [Nat.sub_self, ← HT0.out]; exact R9, Lib.hid (Keeps.refl _ _)⟩
      case round =>
        clear R9
        obtain ⟨j, hj, rfl, HB, HKV⟩ := hrel
        cases j with
        | zero =>
          have hfa := Tr.topFold_all s r HU.out.2.1
          rw [HU.out.2.2, List.take_of_length_le (by rw [HN.out]; exact Nat.le_refl _), HQ.out.1] at hfa
          have hb := HB.out
          rw [Nat.sub_zero, hfa] at hb
          obtain ⟨s3, z3, o3⟩ := arr_hash (Tr.root l) (Tr.root_length _)
          have hl3 : (Tryd.prog.info? 34).map (·.size) = some (bvs (Tr.root l)).length := by rw [bvs_length, Tr.root_length]; exact size_hash'
          obtain ⟨RL, hRL⟩ : ∃ R, bvs (Tr.root l) = R := ⟨_, rfl⟩
          rw [hRL] at hb s3 z3 o3 hl3
          have HRL := Lib.hid hRL
          have HB2 := Lib.hid hb
          have S3 := Lib.hid s3
          have Z3 := Lib.hid (HZS.out.trans z3.symm)
          have O3 := Lib.hid o3
          have L3 := Lib.hid hl3
          have R2W : Hid (wr.heap[w.heap.size]? = some (.cells Z 34 (0, 0))) := Lib.hid ((HKV.out.block _ (Array.getElem?_eq_some_iff.1 R29.out).1 (by omega)).trans R29.out)
          have KF : Hid (Keeps (fun _ => False) w wr) := Lib.hid (K0.out.trans' HKV.out (fun i hi h => by omega))
          clear hb s3 z3 o3 hl3 hRL hfa HB
          go_wp2_with (first
            | (refine wpList_load_row rfl 34 _ rfl b8 rfl 34 RL.toArray (0, 0) _ HB2.out Tryd.underlying34 rfl S3.out ?_)
            | (refine wpList_store_row rfl 34 _ _ rfl w.heap.size RL.toArray rfl rfl 34 Z R2W.out S3.out Z3.out O3.out ?_))
          refine bodyPost_ret (results_cell_row rfl _ _ w.heap.size 34 RL.toArray (0, 0) _ rfl (setRow_heap _ _ _ _ _ _ R2W.out) Tryd.underlying34 rfl S3.out) rfl ?_
          exact ⟨by rw [HRL.out], KF.out.trans' (Keeps.setRow w.heap.size RL.toArray) (fun i hi h => by omega)⟩
        | succ j =>
          obtain ⟨t, ht⟩ : ∃ t, r[q - (j + 1)]? = some t := ⟨_, List.getElem?_eq_getElem (by rw [HQ.out.1]; omega)⟩
          have hst := Tr.topFold_succ s r (q - (j + 1)) t ht
          rw [show q - (j + 1) + 1 = q - j by omega] at hst
          have hix : (hashes (s :: r))[j]? = some (Tr.root t) := by
            unfold hashes
            rw [List.getElem?_reverse (by simp; have := HQ.out.1; omega), List.getElem?_map]
            rw [show (s :: r)[(List.map Tr.root (s :: r)).length - 1 - j]? = some t by
              rw [show (List.map Tr.root (s :: r)).length - 1 - j = (q - (j + 1)) + 1 by simp; have := HQ.out.1; omega, List.getElem?_cons_succ]
              exact ht]
            rfl
          have hload := fun V hV => PT.out V j (Tr.root t) hV hix
          have hl1 : (Tr.root t).length = 32 := Tr.root_length _
          have hl2 := Tr.topFold_length s r (q - (j + 1))
          have hl3 := Tr.topFold_length s r (q - j)
          have hnode := fun V => rnode_any (Tr.root t) (Tr.topFold s r (q - (j + 1))) V hl1 hl2
          rw [← Tr.node, ← hst] at hnode
          have hb := HB.out
          have l1 : (Tryd.prog.info? 34).map (·.size) = some (bvs (Tr.root t)).length := by rw [bvs_length, hl1]; exact size_hash'
          obtain ⟨s2, z2, o2⟩ := arr_hash _ hl2
          obtain ⟨s3, z3, o3⟩ := arr_hash _ hl3
          obtain ⟨CA, hCA⟩ : ∃ R, bvs (Tr.root t) = R := ⟨_, rfl⟩
          obtain ⟨CB, hCB⟩ : ∃ R, bvs (Tr.topFold s r (q - (j + 1))) = R := ⟨_, rfl⟩
          obtain ⟨CC, hCC⟩ : ∃ R, bvs (Tr.topFold s r (q - j)) = R := ⟨_, rfl⟩
          rw [hCA] at hload hnode l1
          rw [hCB] at hnode hb s2 z2
          rw [hCC] at hnode s3 z3 o3
          have HCC := Lib.hid hCC
          have LA : Hid (∀ V, Later wr V → V.rangeAt g (j * 32) CA) := fun V hV => hload V (HKV.out.trans (hV.out.mono (fun _ _ h => h.elim)))
          have RB : Hid (∀ V, Later wr V → V.heap[b8]? = some (.cells CB.toArray 34 (0, 0))) := fun V hV => (hV.out.block _ (Array.getElem?_eq_some_iff.1 hb).1 id).trans hb
          have NODE : Hid (∀ V, Later wr V → Calls Tryd.prog 49 #[.agg CA.toArray, .agg CB.toArray] V fun e w' => e = .returned (.agg CC.toArray) ∧ Later wr w') := fun V hV => (hnode V).mono fun e w' hh => ⟨hh.1, ⟨hV.out.trans hh.2⟩⟩
          have L1 := Lib.hid l1
          have S2 := Lib.hid s2
          have S3 := Lib.hid s3
          have O3 := Lib.hid o3
          have Z3 := Lib.hid (z2.trans z3.symm)
          have hjm : (j : Int) < m := by omega
          clear hst hix hload hl1 hl2 hl3 hnode hb l1 s2 z2 o2 s3 z3 o3 hCA hCB hCC HB ht
          go_wp2_with fail
          refine wp_region_phase 6 (Later wr) (by kernel_rfl) (by kernel_rfl) ⟨(Keeps.refl _ _).drew⟩ ?_
          simp only [List.take_succ_cons, List.take_zero, List.drop_succ_cons, List.drop_zero]
          go_big_quiet_step ((intro _; rfl))
          go_big_quiet_step ((intro _; rfl))
          go_big_quiet_step ((intro _; rfl))
          refine class_mid (by rfl) 34 (.tmp 95) (by rfl) g (j * 32) (by rfl) (CA) _ LA.out Tryd.underlying34 rfl L1.out ?_
          simp only [Act.put, List.setIfInBounds_toArray, List.set_cons_zero, List.set_cons_succ]
          refine class_load (by rfl) 34 (.tmp 8) (by rfl) b8 (by rfl) 34 CB.toArray (0, 0) _ RB.out Tryd.underlying34 rfl S2.out ?_
          simp only [Act.put, List.setIfInBounds_toArray, List.set_cons_zero, List.set_cons_succ]
          go_big_quiet_want
          go_big_quiet_op
          refine ⟨(.agg CC.toArray), fun V hV => NODE.out V hV, ?_⟩
          go_big_quiet_on
          refine wpQuiet_nil ?_
          intro w6 k6
          have H6 := Lib.hid (RB.out w6 k6)
          have KN := Lib.hid ((HKV.out.trans (k6.out.mono (fun _ _ h => h.elim))).trans' (Keeps.setRow b8 CC.toArray) (fun i hi e => e))
          have HN6 : Hid ((w6.setRow b8 CC.toArray).heap[b8]? = some (.cells CC.toArray 34 (0, 0))) := Lib.hid (setRow_heap _ _ _ _ _ _ H6.out)
          go_wp2_with (refine wpList_store_row rfl 34 _ _ rfl b8 CC.toArray rfl rfl 34 CB.toArray H6.out S3.out Z3.out O3.out ?_)
          go_roundw
          case rel => exact ⟨j, by omega, by go_num, by rw [HCC.out]; exact HN6, KN⟩
          case measure => simp [intOf]
end Go.Proofs.YtnnhbgaeohdojaaDoor
