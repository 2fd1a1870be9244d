/-
  The law ChainSteps walked: a tree goes on from any of its first ones to any later one. WRITTEN BY wip/gen/mkchst.py.
-/
import Derived.Test.YtfokemminjikpaaDoorChWh
import Derived.Test.YtfokemminjikpaaDoorWalkT
namespace Go.Proofs.YtfokemminjikpaaDoor
open Go.RowKit Go.BigFrame
set_option linter.unusedVariables false

/-- A slice is made. -/
theorem T_build {P : Program} {ops : Array Oper} {B : World → Prop} {ls : List Nat} {E : Act → World → Prop} {k : Nat} {o : Oper} {rest : List Nat} {a : Act} {F : World → Prop} (h0 : ops[k]? = some o) (hw : Region.wanted o (yielded ops a.tmps) = true) (hk : ls.contains k = true) (t e : TypeId) (n : Nat) (parts : List (Nat × Operand)) (ho : o.op = .buildSlice t n parts.toArray) (vs : List (Nat × Value)) (hx : parts.map (fun (i, x) => (i, a.eval x)) = vs) (cs : Array Value)
    (hrun : ∀ w, (Instr.buildSlice t n vs.toArray).run P w = .ok (.slice (some ⟨w.heap.size, 0, none⟩) n n) (w.alloc (.cells cs e))) (hB : Lasts B) (hF : Lasts F) (n0 : Nat) (hn : ∀ w, B w → n0 ≤ w.heap.size)
    (h : ∀ g, n0 ≤ g → wpT P ops B ls E rest (a.put o.dst (.slice (some ⟨g, 0, none⟩) n n)) (fun w => F w ∧ w.heap[g]? = some (.cells cs e (0, 0)))) : wpT P ops B ls E (k :: rest) a F := by
  refine T_loose h0 hw hk (fun v => ∃ g, n0 ≤ g ∧ v = .slice (some ⟨g, 0, none⟩) n n) (fun v w => F w ∧ ∀ g, v = .slice (some ⟨g, 0, none⟩) n n → w.heap[g]? = some (.cells cs e (0, 0))) ⟨fun v => ?_, fun w hb hf => ?_⟩ ?_
  · exact hF.and (fun w w' hq hk g hv => (hk.block g (Array.getElem?_eq_some_iff.1 (hq g hv)).1 id).trans (hq g hv))
  · unfold execOp
    simp only [ho, List.map_toArray, hx, Sem.run_bind, Sem.run_pure, Result.andThen_ok, hrun]
    refine ⟨hB _ _ hb ((Keeps.refl _ _).alloc _), ⟨_, hn w hb, rfl⟩, hF _ _ hf ((Keeps.refl _ _).alloc _), fun g hv => ?_⟩
    injection hv with hv
    injection hv with hv
    injection hv with hv
    subst hv
    exact heap_alloc_new w _
  · rintro v ⟨g, hg, rfl⟩
    exact T_alloc.wpT_weak (fun w hh => ⟨hh.1, hh.2 g rfl⟩) (h g hg)
/-- What a walk asks of a key that is built. -/
structure KeyOf (s : Nat) (r : List UInt8) (F : Array Value) (C : List Value) : Prop where
  len : r.length = 32
  f : (bvs r).toArray = F
  c : keyCells s r = C
  build : ∀ W : World, (Instr.build 55 #[(0, .int .u64 (s : Int)), (1, .agg F)]).run Tryd.prog W = .ok (.agg C.toArray) W
  size : (Tryd.prog.info? 55).map (·.size) = some C.toArray.size
  num : C.toArray.size = 33
  one : C.toArray.all (·.oneCell') = true
theorem keyOf (s : Nat) (r : List UInt8) (h : r.length = 32) : ∃ F C, KeyOf s r F C :=
  ⟨_, _, h, rfl, rfl, build_key s r h, by rw [List.size_toArray, keyCells_length s r h]; exact size_key, by rw [List.size_toArray, keyCells_length s r h], keyCells_one s r⟩
theorem rem_in (x : Int) (n : Nat) (hx : 0 ≤ x) (hn : 1 ≤ n) : ∃ m : Nat, 1 ≤ m ∧ m ≤ n ∧ x.tmod (n : Int) + 1 = (m : Int) ∧ x.tmod (n : Int) = (m : Int) - 1 := by
  have h0 : 0 ≤ x % (n : Int) := Int.emod_nonneg _ (by omega)
  have h1 : x % (n : Int) < n := Int.emod_lt_of_pos x (by omega)
  rw [Int.tmod_eq_emod_of_nonneg hx]
  exact ⟨(x % (n : Int)).toNat + 1, by omega, by omega, by omega, by omega⟩
set_option maxRecDepth 100000 in
set_option maxHeartbeats 8000000 in
theorem steps_in (a : Addr) (c : Nat) (rs : List RowOf) (x y z : Int) (W : World) (hT : Tabs W) (hR : RowsAt W (some a) rs) (h1 : 1 ≤ rs.length) (h20 : rs.length ≤ 20) (hc : rs.length ≤ c) (hmax : c ≤ 9223372036854775807) (hlen : ∀ r ∈ rs, r.2.2.length ≤ 1000) (hx0 : 0 ≤ x) (hx1 : x ≤ 255) (hy0 : 0 ≤ y) (hy1 : y ≤ 255) (hz0 : 0 ≤ z) (hz1 : z ≤ 255)
    (HFEW : Hid (∀ V, Keeps (fun _ => False) W V → Calls Tryd.prog 36 #[.slice (some a) rs.length c] V fun e w' => e = .returned (.bool true) ∧ w' = V)) :
    Calls Tryd.prog 11 #[.slice (some a) rs.length c, .int .u8 x, .int .u8 y, .int .u8 z] W fun e W' => e = .returned (.bool true) ∧ Below W.heap.size W W' := by
  have HAW := Lib.hid (awake4_any W hT)
  obtain ⟨n, hn⟩ : ∃ n, rs.length = n := ⟨_, rfl⟩
  have ht : ∀ m, m ≤ n → (rs.take m).length = m := fun m hm => by rw [List.length_take]; omega
  have he : ∀ m, (ents rs).take m = ents (rs.take m) := fun m => by simp [ents, List.map_take]
  have hpr : ∀ u v, 1 ≤ u → u ≤ v → 1 ≤ v → v ≤ n → ∀ V, Keeps (fun _ => False) W V → Calls Tryd.prog 37 #[.slice (some a) v c, .int .i64 (u : Int)] V fun e w' => ∃ p, e = .returned (.tuple #[p, .int .i64 0]) ∧ w'.ownsRow V.heap.size 24 32 p (Tr.prf ((ents rs).take v) u true).length (flat (Tr.prf ((ents rs).take v) u true)) ∧ Keeps (fun _ => False) V w' := fun u v hu huv hv hvn V hk => by
    have h := proof_in a c (rs.take v) u V (hT.keeps hk id id) ((hR.take v).keeps hk (fun _ _ => id)) hu (by rw [ht v hvn]; exact huv) (by rw [ht v hvn]; omega) hmax (fun r hr => hlen r (List.mem_of_mem_take hr)) (by rw [ht v hvn]; omega)
    rw [ht v hvn, ← he v] at h
    exact h
  have hrt : ∀ m, 1 ≤ m → m ≤ n → ∀ V, Keeps (fun _ => False) W V → Calls Tryd.prog 27 #[.slice (some a) m c] V fun e w' => e = .returned (.agg (bvs (Tr.root ((ents rs).take m))).toArray) ∧ Keeps (fun _ => False) V w' := fun m hm hmn V hk => by
    have h := root_any (some a) c (rs.take m) V (hT.keeps hk id id) ((hR.take m).keeps hk (fun _ _ => id)) (by rw [ht m hmn]; omega) hmax (fun r hr => hlen r (List.mem_of_mem_take hr))
    rw [ht m hmn, ← he m] at h
    exact h
  have hcv : ∀ u v, 1 ≤ u → u ≤ v → v ≤ n → Tr.cverify u (Tr.root ((ents rs).take u)) v (Tr.root ((ents rs).take v)) (Tr.prf ((ents rs).take v) u true) = 0 := fun u v hu huv hvn => by
    have lv : ((ents rs).take v).length = v := by rw [List.length_take, ents_length]; omega
    have h1 := Tr.prf_long ((ents rs).take v) u true hu (by omega) (by omega)
    have h2 := Tr.prf_made ((ents rs).take v) u true (Tr.root ((ents rs).take u)) hu (by omega) (by omega) (fun _ => by rw [List.take_take, Nat.min_eq_left huv])
    rw [lv] at h1 h2
    rw [List.take_take, Nat.min_eq_left huv] at h2
    unfold Tr.cverify
    rw [if_neg (by omega), if_pos h1, h2, if_pos ⟨rfl, rfl⟩]
  obtain ⟨mx, hmx1, hmx2, tx, tx2⟩ := rem_in x n hx0 (by omega)
  obtain ⟨my, hmy1, hmy2, ty, ty2⟩ := rem_in y n hy0 (by omega)
  obtain ⟨mz, hmz1, hmz2, tz, tz2⟩ := rem_in z n hz0 (by omega)
  have hbi : ∀ V : World, (Instr.buildSlice 63 3 #[(0, .int .i64 (mx : Int)), (1, .int .i64 (my : Int)), (2, .int .i64 (mz : Int))]).run Tryd.prog V = .ok (.slice (some ⟨V.heap.size, 0, none⟩) 3 3) (V.alloc (.cells #[.int .i64 (mx : Int), .int .i64 (my : Int), .int .i64 (mz : Int)] 3)) := fun _ => by kernel_rfl
  obtain ⟨ZK, hzk, hzks⟩ := zero_key
  rw [hn] at HFEW h1 h20 hc ⊢
  have HPR := Lib.hid hpr
  have HRT := Lib.hid hrt
  have HCV := Lib.hid hcv
  have HBI := Lib.hid hbi
  have HT : Hid (∀ V, Keeps (fun _ => False) W V → Tabs V) := fun V hk => hT.keeps hk id id
  have HM : Hid (∀ (i m : Nat), [mx, my, mz][i]? = some m → 1 ≤ m ∧ m ≤ n) := fun i m h => by
    match i, h with
    | 0, h => cases h; exact ⟨hmx1, hmx2⟩
    | 1, h => cases h; exact ⟨hmy1, hmy2⟩
    | 2, h => cases h; exact ⟨hmz1, hmz2⟩
    | q + 3, h => simp at h
  have hn20 : (n : Int) ≤ 20 := by omega
  have hnc : (n : Int) ≤ c := by omega
  have hn0 : ¬ (n : Int) < 1 := by omega
  have hn1 : ¬ (n : Int) = 0 := by omega
  have qx : (mx : Int) ≤ 20 := by omega
  have qy : (my : Int) ≤ 20 := by omega
  have qz : (mz : Int) ≤ 20 := by omega
  clear hpr hrt hcv hbi hT hR hlen ht he hn hmx1 hmx2 hmy1 hmy2 hmz1 hmz2 tx ty tz
  go_enter Tryd.func11, Tryd.ntmps11
  go_wp2_with fail
  refine HAW.out.mono ?_
  rintro e1 w1 ⟨rfl, k1⟩
  go_wp2_with fail
  refine (HFEW.out w1 k1).mono ?_
  rintro e2 w2 ⟨rfl, rfl⟩
  have K1 := Lib.hid k1
  clear HAW HFEW k1
  go_wp2_with fail
  refine wp_region_stores 20 [18] [0, 1, 2, 3, 4, 5, 6, 7, 8, 9, 10, 11, 12, 13, 14, 15, 16, 17, 18, 19] (Later w2) (fun _ => True) (by kernel_rfl) (by kernel_rfl) (Lasts.later _) (Lasts.true) (⟨(Keeps.refl _ _).drew⟩) (trivial) ?_
  refine T_quiet (get_op rfl) (by rfl) (by rfl) (by rfl) ?_
  intro K hK
  go_big_quiet_op
  first | go_big_quiet_on | go_big_quiet_call ((intro _; rfl))
  refine T_quiet (get_op rfl) (by rfl) (by rfl) (by rfl) ?_
  intro K hK
  go_big_quiet_op
  first | go_big_quiet_on | go_big_quiet_call ((intro _; rfl))
  refine T_quiet (get_op rfl) (by rfl) (by rfl) (by rfl) ?_
  intro K hK
  go_big_quiet_op
  first | go_big_quiet_on | go_big_quiet_call ((intro _; rfl))
  refine T_value (get_op rfl) (by rfl) (by rfl) (.int .i64 (n : Int)) (fun _ _ => by go_simp) ?_
  simp only [Act.put, List.setIfInBounds_toArray, List.set_cons_zero, List.set_cons_succ]
  refine T_quiet (get_op rfl) (by rfl) (by rfl) (by rfl) ?_
  intro K hK
  go_big_quiet_op
  first | go_big_quiet_on | go_big_quiet_call ((intro _; rfl))
  refine T_quiet (get_op rfl) (by rfl) (by rfl) (by rfl) ?_
  intro K hK
  go_big_quiet_op
  first | go_big_quiet_on | go_big_quiet_call ((intro _; rfl))
  refine T_quiet (get_op rfl) (by rfl) (by rfl) (by rfl) ?_
  intro K hK
  go_big_quiet_op
  first | go_big_quiet_on | go_big_quiet_call ((intro _; rfl))
  refine T_quiet (get_op rfl) (by rfl) (by rfl) (by rfl) ?_
  intro K hK
  go_big_quiet_op
  first | go_big_quiet_on | go_big_quiet_call ((intro _; rfl))
  refine T_quiet (get_op rfl) (by rfl) (by rfl) (by rfl) ?_
  intro K hK
  go_big_quiet_op
  first | go_big_quiet_on | go_big_quiet_call ((intro _; rfl))
  refine T_value (get_op rfl) (by rfl) (by rfl) (.int .i64 (n : Int)) (fun _ _ => by go_simp) ?_
  simp only [Act.put, List.setIfInBounds_toArray, List.set_cons_zero, List.set_cons_succ]
  refine T_quiet (get_op rfl) (by rfl) (by rfl) (by rfl) ?_
  intro K hK
  go_big_quiet_op
  first | go_big_quiet_on | go_big_quiet_call ((intro _; rfl))
  refine T_quiet (get_op rfl) (by rfl) (by rfl) (by rfl) ?_
  intro K hK
  go_big_quiet_op
  first | go_big_quiet_on | go_big_quiet_call ((intro _; rfl))
  refine T_quiet (get_op rfl) (by rfl) (by rfl) (by rfl) ?_
  intro K hK
  go_big_quiet_op
  first | go_big_quiet_on | go_big_quiet_call ((intro _; rfl))
  refine T_quiet (get_op rfl) (by rfl) (by rfl) (by rfl) ?_
  intro K hK
  go_big_quiet_op
  first | go_big_quiet_on | go_big_quiet_call ((intro _; rfl))
  refine T_quiet (get_op rfl) (by rfl) (by rfl) (by rfl) ?_
  intro K hK
  go_big_quiet_op
  first | go_big_quiet_on | go_big_quiet_call ((intro _; rfl))
  refine T_value (get_op rfl) (by rfl) (by rfl) (.int .i64 (n : Int)) (fun _ _ => by go_simp) ?_
  simp only [Act.put, List.setIfInBounds_toArray, List.set_cons_zero, List.set_cons_succ]
  refine T_quiet (get_op rfl) (by rfl) (by rfl) (by rfl) ?_
  intro K hK
  go_big_quiet_op
  first | go_big_quiet_on | go_big_quiet_call ((intro _; rfl))
  refine T_quiet (get_op rfl) (by rfl) (by rfl) (by rfl) ?_
  intro K hK
  go_big_quiet_op
  first | go_big_quiet_on | go_big_quiet_call ((intro _; rfl))
  refine T_build (get_op rfl) (by rfl) (by rfl) 63 3 3 _ (by rfl) [(0, .int .i64 (mx : Int)), (1, .int .i64 (my : Int)), (2, .int .i64 (mz : Int))] (by rfl) #[.int .i64 (mx : Int), .int .i64 (my : Int), .int .i64 (mz : Int)] HBI.out (Lasts.later _) Lasts.true w2.heap.size (fun V hV => hV.out.size) ?_
  intro g hg
  simp only [Act.put, List.setIfInBounds_toArray, List.set_cons_zero, List.set_cons_succ]
  refine T_quiet (get_op rfl) (by rfl) (by rfl) (by rfl) ?_
  intro K hK
  go_big_quiet_op
  first | go_big_quiet_on | go_big_quiet_call ((intro _; rfl))
  refine T_nil ?_
  intro W0 h0 r0
  simp only [List.drop_succ_cons, List.drop_zero]
  have hcell : ∀ V, Keeps (fun _ => False) W0 V → ∀ (i m : Nat), [mx, my, mz][i]? = some m → V.cell? ⟨g, i, none⟩ = some (.int .i64 (m : Int)) := fun V hk i m h => by
    have hb := (hk.block _ (Array.getElem?_eq_some_iff.1 r0.2).1 id).trans r0.2
    rw [cell_of_row V g i _ _ _ hb]
    match i, h with
    | 0, h => cases h; rfl
    | 1, h => cases h; rfl
    | 2, h => cases h; rfl
    | q + 3, h => simp at h
  have HCELL := Lib.hid hcell
  have K0 := Lib.hid (K1.out.trans h0.out)
  clear hcell r0 h0 tx2 ty2 tz2 K1 HBI
  go_wp2_with fail
  go_loopw [12] (fun iv wr => ∃ i : Nat, i ≤ 3 ∧ iv = .int .i64 (i : Int) ∧ Keeps (fun _ => False) W0 wr) (fun iv _ => 3 - (intOf iv).toNat)
  case atStart => exact ⟨0, by omega, rfl, Keeps.refl _ _⟩
  case round =>
    obtain ⟨i, hi, rfl, hkr⟩ := hrel
    by_cases hlt : i < 3
    · obtain ⟨u, hu⟩ : ∃ u, [mx, my, mz][i]? = some u := ⟨_, List.getElem?_eq_getElem (by simpa using hlt)⟩
      obtain ⟨hu1, hun⟩ := HM.out i u hu
      have HU := Lib.hid hu
      have KR0 := Lib.hid hkr
      have hu20 : (u : Int) ≤ 20 := by omega
      have hlt' : (i : Int) < 3 := by omega
      clear hu hkr
      go_wp2_with fail
      go_loopw [13] (fun kv wr => ∃ k : Nat, k ≤ 3 ∧ kv = .int .i64 (k : Int) ∧ Keeps (fun _ => False) W0 wr) (fun kv _ => 3 - (intOf kv).toNat)
      case atStart => exact ⟨0, by omega, rfl, KR0.out⟩
      case round =>
        clear KR0
        obtain ⟨k, hk, rfl, hkr⟩ := hrel
        by_cases hlk : k < 3
        · obtain ⟨v, hv⟩ : ∃ v, [mx, my, mz][k]? = some v := ⟨_, List.getElem?_eq_getElem (by simpa using hlk)⟩
          obtain ⟨hv1, hvn⟩ := HM.out k v hv
          have cu := HCELL.out wr hkr i u HU.out
          have cv := HCELL.out wr hkr k v hv
          have hv20 : (v : Int) ≤ 20 := by omega
          have hvc : (v : Int) ≤ c := by omega
          have huc : (u : Int) ≤ c := by omega
          have hlk' : (k : Int) < 3 := by omega
          have K0r := Lib.hid (K0.out.trans hkr)
          obtain ⟨F3, KA, HKA⟩ := keyOf u (Tr.root ((ents rs).take u)) (Tr.root_length _)
          obtain ⟨F7, KB, HKB⟩ := keyOf v (Tr.root ((ents rs).take v)) (Tr.root_length _)
          have KR := Lib.hid hkr
          clear hkr hv HU
          by_cases huv : u ≤ v
          · have hcmp : ¬ (v : Int) < (u : Int) := by omega
            go_wp2_with fail
            refine (HPR.out u v hu1 (by omega) hv1 hvn wr (by exact K0r.out)).mono ?_
            rintro e3 w3 ⟨pv, rfl, ho3, k3⟩
            obtain ⟨A3, c3, rfl⟩ := own_slice ho3
            obtain ⟨_, cc1, cc2⟩ := own_cap ho3
            have P3 := Lib.hid (show PathAt w3 A3 (Tr.prf ((ents rs).take v) u true) from PathAt.of_own ho3 (fun x hx => Tr.prf_all _ _ _ _ x hx))
            have CC := Lib.hid (And.intro cc1 cc2)
            have K3 := Lib.hid (K0r.out.trans k3)
            have L3 := Lib.hid k3
            clear ho3 k3 cc1 cc2
            obtain ⟨s, hs⟩ : ∃ s, (Tr.prf ((ents rs).take v) u true).length = s := ⟨_, rfl⟩
            rw [hs] at CC ⊢
            have HSS := Lib.hid hs
            clear hs
            go_wp2_with fail
            refine (HRT.out u hu1 (by omega) w3 K3.out).mono ?_
            rintro e4 w4 ⟨rfl, k4⟩
            have K4 := Lib.hid (K3.out.trans k4)
            have K34a := Lib.hid k4
            rw [HKA.f]
            clear k4
            obtain ⟨V4, hV4⟩ : ∃ V, w4.alloc (.cells ZK 55) = V := ⟨_, rfl⟩
            have kvV4 : Keeps (fun _ => False) w4 V4 := by rw [← hV4]; exact (Keeps.refl _ _).alloc _
            have hzV4 : V4.heap[w4.heap.size]? = some (.cells ZK 55 (0, 0)) := by rw [← hV4]; exact heap_alloc_new w4 _
            obtain ⟨g8, hg8⟩ : ∃ g, w4.heap.size = g := ⟨_, rfl⟩
            have hkV4 : Keeps (fun _ => False) w4 (V4.setRow g8 KA.toArray) := kvV4.trans' (Keeps.setRow g8 KA.toArray) (fun i hi h => by omega)
            rw [hg8] at hzV4
            have hrV4 : (V4.setRow g8 KA.toArray).heap[g8]? = some (.cells KA.toArray 55 (0, 0)) := setRow_heap _ _ _ _ _ _ hzV4
            have ZV4 := Lib.hid hzV4
            have RV4 := Lib.hid hrV4
            have KV4 := Lib.hid hkV4
            clear kvV4 hzV4 hkV4 hrV4
            go_wp2_with (first
              | (refine wpList_build_runs (by rfl) 55 _ (by rfl) [(0, .int .u64 (u : Int)), (1, .agg F3)] (by rfl) (.agg KA.toArray) (HKA.build _) ?_)
              | (refine wpList_store_row rfl 55 _ _ rfl g8 KA.toArray rfl rfl 55 ZK ZV4.out HKA.size (hzks.trans HKA.num.symm) HKA.one ?_))
            have K5 := Lib.hid (K4.out.trans KV4.out)
            have K34 := Lib.hid (K34a.out.trans KV4.out)
            refine (HRT.out v hv1 hvn _ K5.out).mono ?_
            rintro e5 w5 ⟨rfl, k5⟩
            have r8 := (k5.block _ (Array.getElem?_eq_some_iff.1 RV4.out).1 id).trans RV4.out
            have R8 := Lib.hid r8
            have K45 := Lib.hid k5
            rw [HKB.f]
            clear k5 r8 hV4
            obtain ⟨V5, hV5⟩ : ∃ V, w5.alloc (.cells ZK 55) = V := ⟨_, rfl⟩
            have kvV5 : Keeps (fun _ => False) w5 V5 := by rw [← hV5]; exact (Keeps.refl _ _).alloc _
            have hzV5 : V5.heap[w5.heap.size]? = some (.cells ZK 55 (0, 0)) := by rw [← hV5]; exact heap_alloc_new w5 _
            obtain ⟨g9, hg9⟩ : ∃ g, w5.heap.size = g := ⟨_, rfl⟩
            have hkV5 : Keeps (fun _ => False) w5 (V5.setRow g9 KB.toArray) := kvV5.trans' (Keeps.setRow g9 KB.toArray) (fun i hi h => by omega)
            rw [hg9] at hzV5
            have hrV5 : (V5.setRow g9 KB.toArray).heap[g9]? = some (.cells KB.toArray 55 (0, 0)) := setRow_heap _ _ _ _ _ _ hzV5
            have ZV5 := Lib.hid hzV5
            have RV5 := Lib.hid hrV5
            have KV5 := Lib.hid hkV5
            clear kvV5 hzV5 hkV5 hrV5
            have r8 := (KV5.out.block _ (Array.getElem?_eq_some_iff.1 R8.out).1 id).trans R8.out
            have R88 := Lib.hid r8
            have K56 := Lib.hid KV5.out
            have K6 := Lib.hid (K5.out.trans (K45.out.trans KV5.out))
            have P6 := Lib.hid (P3.out.keeps (K34.out.trans (K45.out.trans K56.out)) (fun _ _ => id))
            have hver := cverify_any u v (Tr.root ((ents rs).take u)) (Tr.root ((ents rs).take v)) A3 (Tr.prf ((ents rs).take v) u true) c3 _ (HT.out _ K6.out) HKA.len HKB.len P6.out (by rw [HSS.out]; exact CC.out.1) CC.out.2 (by omega) (by omega)
            rw [HCV.out u v hu1 (by omega) hvn, HSS.out, HKA.c, HKB.c] at hver
            have HVER := Lib.hid hver
            have KLOC := Lib.hid (L3.out.trans (K34.out.trans (K45.out.trans K56.out)))
            clear r8 hver
            go_wp2_with (first
              | (refine wpList_build_runs (by rfl) 55 _ (by rfl) [(0, .int .u64 (v : Int)), (1, .agg F7)] (by rfl) (.agg KB.toArray) (HKB.build _) ?_)
              | (refine wpList_store_row rfl 55 _ _ rfl g9 KB.toArray rfl rfl 55 ZK ZV5.out HKB.size (hzks.trans HKB.num.symm) HKB.one ?_)
              | (refine wpList_load_row_w (by rfl) 55 (.tmp 18) (by rfl) g8 (by rfl) 55 KA.toArray (0, 0) _ R88.out Tryd.underlying55 rfl HKA.size ?_)
              | (refine wpList_load_row_w (by rfl) 55 (.tmp 19) (by rfl) g9 (by rfl) 55 KB.toArray (0, 0) _ RV5.out Tryd.underlying55 rfl HKB.size ?_))
            refine HVER.out.mono ?_
            rintro e7 w7 ⟨rfl, k7⟩
            have hfin : Keeps (fun _ => False) W0 w7 := KR.out.trans ((KLOC.out).trans k7)
            go_wp2
            go_roundw
            case rel => exact ⟨k + 1, by omega, by go_num, hfin⟩
            case measure => simp [intOf]; omega
          · have hcmp : (v : Int) < (u : Int) := by omega
            go_wp2_with fail
            refine (proof_out (some a) v c (u : Int) wr (.inr hcmp)).mono ?_
            rintro e3 w3 ⟨rfl, rfl⟩
            have K3 := Lib.hid K0r.out
            have L3 := Lib.hid (Keeps.refl (fun _ => False) w3)
            go_wp2_with fail
            refine (HRT.out u hu1 (by omega) w3 K3.out).mono ?_
            rintro e4 w4 ⟨rfl, k4⟩
            have K4 := Lib.hid (K3.out.trans k4)
            have K34a := Lib.hid k4
            rw [HKA.f]
            clear k4
            obtain ⟨V4, hV4⟩ : ∃ V, w4.alloc (.cells ZK 55) = V := ⟨_, rfl⟩
            have kvV4 : Keeps (fun _ => False) w4 V4 := by rw [← hV4]; exact (Keeps.refl _ _).alloc _
            have hzV4 : V4.heap[w4.heap.size]? = some (.cells ZK 55 (0, 0)) := by rw [← hV4]; exact heap_alloc_new w4 _
            obtain ⟨g8, hg8⟩ : ∃ g, w4.heap.size = g := ⟨_, rfl⟩
            have hkV4 : Keeps (fun _ => False) w4 (V4.setRow g8 KA.toArray) := kvV4.trans' (Keeps.setRow g8 KA.toArray) (fun i hi h => by omega)
            rw [hg8] at hzV4
            have hrV4 : (V4.setRow g8 KA.toArray).heap[g8]? = some (.cells KA.toArray 55 (0, 0)) := setRow_heap _ _ _ _ _ _ hzV4
            have ZV4 := Lib.hid hzV4
            have RV4 := Lib.hid hrV4
            have KV4 := Lib.hid hkV4
            clear kvV4 hzV4 hkV4 hrV4
            go_wp2_with (first
              | (refine wpList_build_runs (by rfl) 55 _ (by rfl) [(0, .int .u64 (u : Int)), (1, .agg F3)] (by rfl) (.agg KA.toArray) (HKA.build _) ?_)
              | (refine wpList_store_row rfl 55 _ _ rfl g8 KA.toArray rfl rfl 55 ZK ZV4.out HKA.size (hzks.trans HKA.num.symm) HKA.one ?_))
            have K5 := Lib.hid (K4.out.trans KV4.out)
            have K34 := Lib.hid (K34a.out.trans KV4.out)
            refine (HRT.out v hv1 hvn _ K5.out).mono ?_
            rintro e5 w5 ⟨rfl, k5⟩
            have r8 := (k5.block _ (Array.getElem?_eq_some_iff.1 RV4.out).1 id).trans RV4.out
            have R8 := Lib.hid r8
            have K45 := Lib.hid k5
            rw [HKB.f]
            clear k5 r8 hV4
            obtain ⟨V5, hV5⟩ : ∃ V, w5.alloc (.cells ZK 55) = V := ⟨_, rfl⟩
            have kvV5 : Keeps (fun _ => False) w5 V5 := by rw [← hV5]; exact (Keeps.refl _ _).alloc _
            have hzV5 : V5.heap[w5.heap.size]? = some (.cells ZK 55 (0, 0)) := by rw [← hV5]; exact heap_alloc_new w5 _
            obtain ⟨g9, hg9⟩ : ∃ g, w5.heap.size = g := ⟨_, rfl⟩
            have hkV5 : Keeps (fun _ => False) w5 (V5.setRow g9 KB.toArray) := kvV5.trans' (Keeps.setRow g9 KB.toArray) (fun i hi h => by omega)
            rw [hg9] at hzV5
            have hrV5 : (V5.setRow g9 KB.toArray).heap[g9]? = some (.cells KB.toArray 55 (0, 0)) := setRow_heap _ _ _ _ _ _ hzV5
            have ZV5 := Lib.hid hzV5
            have RV5 := Lib.hid hrV5
            have KV5 := Lib.hid hkV5
            clear kvV5 hzV5 hkV5 hrV5
            have r8 := (KV5.out.block _ (Array.getElem?_eq_some_iff.1 R8.out).1 id).trans R8.out
            have R88 := Lib.hid r8
            have K56 := Lib.hid KV5.out
            have K6 := Lib.hid (K5.out.trans (K45.out.trans KV5.out))
            have hver := cver_out u v (Tr.root ((ents rs).take u)) (Tr.root ((ents rs).take v)) (.slice none 0 0) (V5.setRow g9 KB.toArray) (.inr (by omega)) (by omega) (by omega)
            rw [HKA.c, HKB.c] at hver
            have HVER := Lib.hid hver
            have KLOC := Lib.hid (L3.out.trans (K34.out.trans (K45.out.trans K56.out)))
            clear r8 hver
            go_wp2_with (first
              | (refine wpList_build_runs (by rfl) 55 _ (by rfl) [(0, .int .u64 (v : Int)), (1, .agg F7)] (by rfl) (.agg KB.toArray) (HKB.build _) ?_)
              | (refine wpList_store_row rfl 55 _ _ rfl g9 KB.toArray rfl rfl 55 ZK ZV5.out HKB.size (hzks.trans HKB.num.symm) HKB.one ?_)
              | (refine wpList_load_row_w (by rfl) 55 (.tmp 18) (by rfl) g8 (by rfl) 55 KA.toArray (0, 0) _ R88.out Tryd.underlying55 rfl HKA.size ?_)
              | (refine wpList_load_row_w (by rfl) 55 (.tmp 19) (by rfl) g9 (by rfl) 55 KB.toArray (0, 0) _ RV5.out Tryd.underlying55 rfl HKB.size ?_))
            refine HVER.out.mono ?_
            rintro e7 w7 ⟨rfl, k7⟩
            have hfin : Keeps (fun _ => False) W0 w7 := KR.out.trans ((KLOC.out).trans k7)
            go_wp2
            go_roundw
            case rel => exact ⟨k + 1, by omega, by go_num, hfin⟩
            case measure => simp [intOf]; omega
        · go_wp2
          go_roundw
          case rel => exact ⟨i + 1, by omega, by go_num, hkr⟩
          case measure => simp [intOf]; omega
    · go_wp2
      go_ret
      exact ⟨rfl, keeps_below3 (K0.out.trans hkr)⟩
set_option maxRecDepth 100000 in
set_option maxHeartbeats 1000000 in
theorem steps_out (A : Option Addr) (m c : Nat) (x y z : Int) (q : Bool) (W : World) (hq : q = true → m = 0) (hT : Tabs W) (HFEW : Hid (∀ V, Keeps (fun _ => False) W V → Calls Tryd.prog 36 #[.slice A m c] V fun e w' => e = .returned (.bool q) ∧ w' = V)) :
    Calls Tryd.prog 11 #[.slice A m c, .int .u8 x, .int .u8 y, .int .u8 z] W fun e W' => e = .returned (.bool true) ∧ Below W.heap.size W W' := by
  have HAW := Lib.hid (awake4_any W hT)
  clear hT
  cases q
  · clear hq
    go_enter Tryd.func11, Tryd.ntmps11
    go_wp2_with fail
    refine HAW.out.mono ?_
    rintro e1 w1 ⟨rfl, k1⟩
    go_wp2_with fail
    refine (HFEW.out w1 k1).mono ?_
    rintro e2 w2 ⟨rfl, rfl⟩
    go_wp2
    go_ret
    exact ⟨rfl, keeps_below3 k1⟩
  · obtain rfl := hq rfl
    clear hq
    go_enter Tryd.func11, Tryd.ntmps11
    go_wp2_with fail
    refine HAW.out.mono ?_
    rintro e1 w1 ⟨rfl, k1⟩
    go_wp2_with fail
    refine (HFEW.out w1 k1).mono ?_
    rintro e2 w2 ⟨rfl, rfl⟩
    go_wp2
    go_ret
    exact ⟨rfl, keeps_below3 k1⟩
theorem steps_walk (A : Option Addr) (len c : Nat) (rs : List RowOf) (x y z : Int) (W : World) (hT : Tabs W) (h0 : IsRows W A len c rs) (h1 : (Lit.int .u8 x).wf = true) (h2 : (Lit.int .u8 y).wf = true) (h4 : (Lit.int .u8 z).wf = true) :
    Calls Tryd.prog 11 #[.slice A len c, .int .u8 x, .int .u8 y, .int .u8 z] W fun e W' => e = .returned (.bool true) ∧ Below W.heap.size W W' := by
  have bx := bounds_u8 h1
  have bY := bounds_u8 h2
  have bz := bounds_u8 h4
  obtain ⟨rfl, hc, hmax, hR⟩ := h0
  have hfew : ∀ V, Keeps (fun _ => False) W V → Calls Tryd.prog 36 #[.slice A rs.length c] V fun e w' => e = .returned (.bool (fewB rs)) ∧ w' = V := fun V hk => few4_any A c rs V (hR.keeps hk (fun _ _ => id)) (by omega)
  cases hq : fewB rs with
  | false => rw [hq] at hfew; exact steps_out A _ c x y z false W (fun h => by cases h) hT (Lib.hid hfew)
  | true =>
    rw [hq] at hfew
    obtain ⟨h20, hlen⟩ := few_short hq
    rcases Nat.lt_or_ge rs.length 1 with h3 | h3
    · exact steps_out A _ c x y z true W (fun _ => by omega) hT (Lib.hid hfew)
    · obtain ⟨a, rfl, _⟩ := hR.cell 0 rs[0] (by simp)
      exact steps_in a c rs x y z W hT hR h3 h20 hc hmax hlen bx.1 bx.2 bY.1 bY.2 bz.1 bz.2 (Lib.hid hfew)
end Go.Proofs.YtfokemminjikpaaDoor
