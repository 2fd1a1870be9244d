/-
  The rows of a path, and the root that it makes (clash.pathRows). WRITTEN BY wip/gen/mkclq.py.
-/
import Derived.Test.YtjblnjeloimbgaaDoorClP
import Derived.Test.YtjblnjeloimbgaaDoorClS
namespace Go.Proofs.YtjblnjeloimbgaaDoor
open Go.RowKit Go.BigFrame
set_option linter.unusedVariables false

set_option maxRecDepth 100000 in
set_option maxHeartbeats 1000000 in
theorem prow_out (wide : Int) (n i : Nat) (Ae A : Option Addr) (le ce lp cp : Nat) (w : World) (hT : Tabs w) (hi : n ≤ i) :
    Calls Tryd.prog 18 #[.int .i64 wide, .int .u64 (n : Int), .int .u64 (i : Int), .slice Ae le ce, .slice A lp cp] w fun e w' => e = .returned (.tuple #[.slice none 0 0, .agg (bvs (List.replicate 32 0)).toArray, .int .i64 15]) ∧ Keeps (fun _ => False) w w' := by
  obtain ⟨Z, hZ, hz, hzs⟩ := zero_hash
  obtain ⟨sz, zz, oz⟩ := arr_hash (List.replicate 32 0) (by simp)
  have hbld : ∀ W : World, (Instr.build 26 #[]).run Tryd.prog W = .ok (.agg Z) W := fun _ => by subst hZ; kernel_rfl
  rw [hZ] at sz zz oz ⊢
  obtain ⟨W1, hW1⟩ : ∃ V, w.alloc (.cells Z 26) = V := ⟨_, rfl⟩
  have K1 : Hid (Keeps (fun _ => False) w W1) := Lib.hid (by rw [← hW1]; exact (Keeps.refl _ _).alloc _)
  have R1 : Hid (W1.heap[w.heap.size]? = some (.cells Z 26 (0, 0))) := Lib.hid (by rw [← hW1]; exact heap_alloc_new w _)
  have S1 := Lib.hid sz
  have O1 := Lib.hid oz
  have h1 : (n : Int) ≤ i := by omega
  clear hi
  clear sz zz oz hZ hzs hT
  go_enter Tryd.func18, Tryd.ntmps18
  go_wp2_with (refine wpList_store_row rfl 26 _ _ rfl w.heap.size Z rfl rfl 26 Z R1.out S1.out rfl O1.out ?_)
  refine bodyPost_ret (results_tct rfl _ _ w.heap.size 26 Z (0, 0) _ (.slice none 0 0) (.int .i64 15) rfl rfl (setRow_heap _ _ _ _ _ _ R1.out) Tryd.underlying26 rfl S1.out rfl) rfl ?_
  exact ⟨rfl, K1.out.trans' (Keeps.setRow w.heap.size Z) (fun i hi h => by omega)⟩
set_option maxRecDepth 100000 in
set_option maxHeartbeats 1000000 in
theorem prow_len (wide : Int) (n i : Nat) (Ae A : Option Addr) (le ce lp cp : Nat) (w : World) (hT : Tabs w) (hi : i < n) (hn : n ≤ 18446744073709551615) (hl : lp ≠ Tr.steps n i) :
    Calls Tryd.prog 18 #[.int .i64 wide, .int .u64 (n : Int), .int .u64 (i : Int), .slice Ae le ce, .slice A lp cp] w fun e w' => e = .returned (.tuple #[.slice none 0 0, .agg (bvs (List.replicate 32 0)).toArray, .int .i64 20]) ∧ Keeps (fun _ => False) w w' := by
  obtain ⟨Z, hZ, hz, hzs⟩ := zero_hash
  obtain ⟨sz, zz, oz⟩ := arr_hash (List.replicate 32 0) (by simp)
  have hbld : ∀ W : World, (Instr.build 26 #[]).run Tryd.prog W = .ok (.agg Z) W := fun _ => by subst hZ; kernel_rfl
  rw [hZ] at sz zz oz ⊢
  obtain ⟨W1, hW1⟩ : ∃ V, w.alloc (.cells Z 26) = V := ⟨_, rfl⟩
  have K1 : Hid (Keeps (fun _ => False) w W1) := Lib.hid (by rw [← hW1]; exact (Keeps.refl _ _).alloc _)
  have R1 : Hid (W1.heap[w.heap.size]? = some (.cells Z 26 (0, 0))) := Lib.hid (by rw [← hW1]; exact heap_alloc_new w _)
  have S1 := Lib.hid sz
  have O1 := Lib.hid oz
  have h1 : (i : Int) < n := by omega
  have hst := steps_one n i W1 (by have := hT.lt; have := K1.out.size; omega) hi hn
  have hll : (Cl.down Cl.one n i).length = Tr.steps n i := by rw [Cl.down_one _ n i (Nat.le_refl _) hi hn, Tr.lefts_length _ n i (Nat.le_refl _) (by omega)]
  rw [hll] at hst
  obtain ⟨q, hq⟩ : ∃ q, Tr.steps n i = q := ⟨_, rfl⟩
  rw [hq] at hst hl
  have hne : ((lp : Int) != (q : Int)) = true := by rw [bne_iff_ne]; omega
  have HST := Lib.hid hst
  clear hst hll hq hl hi hn
  clear sz zz oz hZ hzs hT
  go_enter Tryd.func18, Tryd.ntmps18
  go_wp2_with fail
  refine HST.out.mono ?_
  rintro e w2 ⟨AL, cL, rfl, _, _, _, k2⟩
  have K1 := Lib.hid (K1.out.trans k2)
  have R1 := Lib.hid ((k2.block _ (Array.getElem?_eq_some_iff.1 R1.out).1 id).trans R1.out)
  clear k2 HST
  go_wp2_with (refine wpList_store_row rfl 26 _ _ rfl w.heap.size Z rfl rfl 26 Z R1.out S1.out rfl O1.out ?_)
  refine bodyPost_ret (results_tct rfl _ _ w.heap.size 26 Z (0, 0) _ (.slice none 0 0) (.int .i64 20) rfl rfl (setRow_heap _ _ _ _ _ _ R1.out) Tryd.underlying26 rfl S1.out rfl) rfl ?_
  exact ⟨rfl, K1.out.trans' (Keeps.setRow w.heap.size Z) (fun i hi h => by omega)⟩
set_option maxRecDepth 100000 in
set_option maxHeartbeats 4000000 in
theorem prow_in (wide : Int) (n i : Nat) (Ae : Option Addr) (ce : Nat) (xs : List UInt8) (A : Option Addr) (c : Nat) (ps : List (List UInt8)) (w : World) (hT : Tabs w) (hs : Src w Ae (bvs xs)) (hce : xs.length ≤ ce) (hce1 : ce ≤ 9223372036854775807) (hxs : xs.length ≤ 100) (hP : PathAt w A ps) (hi : i < n) (hn : n ≤ 18446744073709551615) (hl : ps.length = Tr.steps n i) (hc : ps.length ≤ c) (hmax : c ≤ 9223372036854775807) :
    Calls Tryd.prog 18 #[.int .i64 wide, .int .u64 (n : Int), .int .u64 (i : Int), .slice Ae xs.length ce, .slice A ps.length c] w fun e w' => ∃ A' c' rs, e = .returned (.tuple #[.slice A' rs.length c', .agg (bvs (Cl.rootOf (Cl.wid wide) (Cl.nar (Cl.wid wide) (Cl.leafRow xs)) (ps.zip (Tr.lefts n i).reverse))).toArray, .int .i64 0]) ∧
      RowsOk w' A' c' rs ∧ ents rs = Cl.leafRow xs :: Cl.rowsOf (Cl.wid wide) (Cl.nar (Cl.wid wide) (Cl.leafRow xs)) (ps.zip (Tr.lefts n i).reverse) ∧ Keeps (fun _ => False) w w' := by
  obtain ⟨Z, hZ, hz, hzs⟩ := zero_hash
  have hst0 := fun V (hV : Keeps (fun _ => False) w V) => steps_one n i V (by have := hT.lt; have := hV.size; omega) hi hn
  have hdl : Cl.down Cl.one n i = Tr.lefts n i := Cl.down_one _ n i (Nat.le_refl _) hi hn
  rw [hdl] at hst0
  obtain ⟨L, hL⟩ : ∃ L, (Tr.lefts n i).reverse = L := ⟨_, rfl⟩
  have hll : (Tr.lefts n i).length = ps.length := by rw [Tr.lefts_length _ n i (Nat.le_refl _) (by omega), hl]
  have hLl : L.length = ps.length := by rw [← hL, List.length_reverse]; exact hll
  rw [hll, hL] at hst0
  rw [hL]
  have hm64 : ps.length ≤ 64 := by rw [hl]; exact Tr.steps_le n i
  obtain ⟨m, hm⟩ : ∃ m, ps.length = m := ⟨_, rfl⟩
  rw [hm] at hst0 hLl hm64 hc ⊢
  obtain ⟨k, hk⟩ : ∃ k, Cl.wid wide = k := ⟨_, rfl⟩
  obtain ⟨h0, hh0⟩ : ∃ h, Cl.nar k (Cl.leafRow xs) = h := ⟨_, rfl⟩
  have hh32 : h0.length = 32 := by rw [← hh0]; exact Cl.nar_length _ _
  rw [hk, hh0]
  obtain ⟨z, hzz⟩ : ∃ z, ps.zip L = z := ⟨_, rfl⟩
  have hzl : z.length = m := by rw [← hzz, List.length_zip, hm, hLl, Nat.min_self]
  have hz0 : z.take m = z := List.take_of_length_le (by omega)
  rw [hzz]
  obtain ⟨W1, hW1⟩ : ∃ V, w.alloc (.cells Z 26) = V := ⟨_, rfl⟩
  have k1 : Keeps (fun _ => False) w W1 := by rw [← hW1]; exact (Keeps.refl _ _).alloc _
  have r1 : W1.heap[w.heap.size]? = some (.cells Z 26 (0, 0)) := by rw [← hW1]; exact heap_alloc_new w _
  have HST := Lib.hid (hst0 W1 k1)
  have h1 : (i : Int) < n := by omega
  have HS := Lib.hid hs
  have HP := Lib.hid hP
  have HT := Lib.hid hT
  have K1 := Lib.hid k1
  have R1 := Lib.hid r1
  have HLL := Lib.hid hLl
  have HM := Lib.hid hm
  have HZZ := Lib.hid hzz
  have HZ0 := Lib.hid hz0
  have HK := Lib.hid hk
  have HH0 := Lib.hid hh0
  have H32 := Lib.hid hh32
  have HZS := Lib.hid hzs
  have HT0 : Hid (2 < w.heap.size) := Lib.hid hT.lt
  clear hst0 hdl hL hll hLl hm hk hh0 hzz hzl hz0 k1 r1 hs hP hT hZ hl hzs hh32
  go_enter Tryd.func18, Tryd.ntmps18
  go_wp2_with fail
  refine HST.out.mono ?_
  rintro e w2 ⟨AL, cL, rfl, hsL, hcL, hcL2, k2⟩
  have K2 := Lib.hid (K1.out.trans k2)
  have R2 := Lib.hid ((k2.block _ (Array.getElem?_eq_some_iff.1 R1.out).1 id).trans R1.out)
  obtain ⟨B, hB⟩ : ∃ b, w2.heap.size = b := ⟨_, rfl⟩
  have HSLB : Hid (∀ (V : World), Keeps (fun k => B ≤ k) w2 V → Src V AL (bls L)) := Lib.hid (fun V hV => hsL.keeps hV (fun a _ hlt => by omega))
  obtain ⟨W3, hW3⟩ : ∃ V, w2.alloc (.cells #[.slice none 0 0] 51) = V := ⟨_, rfl⟩
  have k3 : Keeps (fun _ => False) w2 W3 := by rw [← hW3]; exact (Keeps.refl _ _).alloc _
  have r3 : Row W3 B 51 [.slice none 0 0] := by rw [← hW3, ← hB]; exact heap_alloc_new w2 _
  have HB0 : Hid (w.heap.size < B) := Lib.hid (by rw [← hB]; have := K1.out.size; have := k2.size; have := (Array.getElem?_eq_some_iff.1 R1.out).1; omega)
  have K3 := Lib.hid (K2.out.trans k3)
  have R3 := Lib.hid ((k3.block _ (Array.getElem?_eq_some_iff.1 R2.out).1 id).trans R2.out)
  have RB := Lib.hid r3
  have KB3 : Hid (Keeps (fun k => B ≤ k) w2 W3) := Lib.hid (k3.mono (fun _ _ h => h.elim))
  clear HST K1 R1 R2 K2 hsL k2 k3 r3
  go_wp2_with fail
  refine (gathering_any wide B W3).mono ?_
  rintro e w4 ⟨Bp, Bw, rfl, hG, hbp, hbw, k4⟩
  have K4 := Lib.hid (K3.out.trans k4)
  have R4 := Lib.hid ((k4.block _ (Array.getElem?_eq_some_iff.1 R3.out).1 id).trans R3.out)
  have P4 := Lib.hid (PSt.new (Nat.le_refl _) hG (RB.out.keeps k4 id) : PSt w4 B B Bp Bw wide [])
  have KB4 := Lib.hid (KB3.out.trans (k4.mono (fun _ _ h => h.elim)))
  clear hG hbp hbw k4 K3 R3 RB KB3
  go_wp2_with fail
  refine (leafrow_any Ae ce xs w4 (HS.out.keeps K4.out (fun _ _ _ => id)) hce hce1 (by omega)).mono ?_
  rintro e w5 ⟨A5, c5, rfl, hs5, hc5, hc5', ht5, k5⟩
  have K5 := Lib.hid (K4.out.trans k5)
  have R5 := Lib.hid ((k5.block _ (Array.getElem?_eq_some_iff.1 R4.out).1 id).trans R4.out)
  have hst5 := (P4.out.later k5).step (HT.out.keeps K5.out id id) (Nat.lt_trans HT0.out HB0.out) (by simp) A5 c5 (Cl.leafRow xs) ⟨hs5, ⟨hc5, hc5'⟩, ht5⟩ (by show xs.length + 1 ≤ _; omega)
  have KB5 := Lib.hid (KB4.out.trans (k5.mono (fun _ _ h => h.elim)))
  rw [HK.out, HH0.out, show (Cl.leafRow xs).length = xs.length + 1 from rfl] at hst5
  have HST5 := Lib.hid hst5
  obtain ⟨sh, zh, oh⟩ := arr_hash h0 H32.out
  obtain ⟨RH0, hRH0⟩ : ∃ R, (bvs h0).toArray = R := ⟨_, rfl⟩
  rw [hRH0] at sh zh oh HST5
  have SH := Lib.hid sh
  have ZH := Lib.hid (HZS.out.trans zh.symm)
  have OH := Lib.hid oh
  have HRH0 := Lib.hid hRH0
  clear hst5 hs5 hc5 hc5' ht5 k5 P4 R4 K4 KB4 sh zh oh hRH0
  go_wp2_with fail
  refine HST5.out.mono ?_
  rintro e w6 ⟨rfl, hP6, k6⟩
  have gs_low : ∀ {V V' : World}, Keeps (GS V B B) V V' → ∀ {U : World}, Keeps (fun k => w.heap.size ≤ k) w U → Keeps (fun _ => False) U V → Keeps (fun k => w.heap.size ≤ k) w V' := fun {V V'} hg {U} h1 h2 => (h1.trans' h2 (fun _ _ h => h.elim)).trans' hg (fun i hi e => by
    rcases e with e | e
    · rw [e]; exact Nat.le_of_lt HB0.out
    · exact Nat.le_trans (Nat.le_of_lt HB0.out) e.1)
  have K6 : Hid (Keeps (fun k => w.heap.size ≤ k) w w6) := Lib.hid (gs_low k6 (K5.out.mono (fun _ _ h => h.elim)) (Keeps.refl _ _))
  have R6 := Lib.hid ((k6.block _ (Array.getElem?_eq_some_iff.1 R5.out).1 (GS.not_low HB0.out (Nat.le_refl _))).trans R5.out)
  obtain ⟨W7, hW7⟩ : ∃ V, w6.alloc (.cells Z 26) = V := ⟨_, rfl⟩
  obtain ⟨gr, hgr⟩ : ∃ g, w6.heap.size = g := ⟨_, rfl⟩
  obtain ⟨W8, hW8⟩ : ∃ V, W7.setRow gr RH0 = V := ⟨_, rfl⟩
  have k7 : Keeps (fun _ => False) w6 W7 := by rw [← hW7]; exact (Keeps.refl _ _).alloc _
  have r7 : W7.heap[gr]? = some (.cells Z 26 (0, 0)) := by rw [← hW7, ← hgr]; exact heap_alloc_new w6 _
  have hgrB : B < gr := by rw [← hgr]; have := hP6.var; obtain ⟨_, _, h, _⟩ := this; exact h.lt
  have k8 : Keeps (fun k => k = gr) W7 W8 := by rw [← hW8]; exact Keeps.setRow _ _
  have r8 : W8.heap[gr]? = some (.cells RH0 26 (0, 0)) := by rw [← hW8]; exact setRow_heap _ _ _ _ _ _ r7
  have P8 : Hid (PSt W8 B B Bp Bw wide [Cl.leafRow xs]) := Lib.hid ((hP6.later k7).keeps k8 (fun k cs t fr hc ht e => by
    subst e
    rw [r7] at hc
    injection hc with hc
    injection hc with _ hc
    subst hc
    rcases ht with h | h | h | h | h <;> exact absurd h (by decide)))
  have K8 : Hid (Keeps (fun k => w.heap.size ≤ k) w W8) := Lib.hid ((K6.out.trans' k7 (fun _ _ h => h.elim)).trans' k8 (fun i hi e => by have := HB0.out; omega))
  have R8a : Hid (W8.heap[w.heap.size]? = some (.cells Z 26 (0, 0))) := Lib.hid ((k8.block _ (by have := (Array.getElem?_eq_some_iff.1 R6.out).1; have := k7.size; omega) (by have := HB0.out; omega)).trans ((k7.block _ (Array.getElem?_eq_some_iff.1 R6.out).1 id).trans R6.out))
  have R8 := Lib.hid r8
  have R7 := Lib.hid r7
  have HGR : Hid (B < gr) := Lib.hid hgrB
  have gsB : ∀ {V : World} (i : Nat), GS V B B i → B ≤ i := fun i e => by rcases e with e | e; omega; exact e.1
  have KB8 : Hid (Keeps (fun k => B ≤ k) w2 W8) := Lib.hid (((KB5.out.trans (k6.mono (fun i _ e => gsB i e))).trans (k7.mono (fun _ _ h => h.elim))).trans (k8.mono (fun i _ e => by omega)))
  clear k6 k7 k8 r7 r8 hP6 hgrB K5 R5 K6 R6 KB5 HST5
  go_wp2_with (refine wpList_store_row rfl 26 _ _ rfl gr RH0 rfl rfl 26 Z R7.out SH.out ZH.out OH.out ?_; rw [hW8])
  have HRH1 : Hid (RH0 = (bvs (Cl.rootOf k h0 (z.take 0))).toArray) := Lib.hid (by rw [List.take_zero]; exact HRH0.out.symm)
  go_loopw [40] (fun v wr => ∃ j : Nat, j ≤ m ∧ v = .int .i64 (j : Int) ∧ Hid (PSt wr B B Bp Bw wide (Cl.leafRow xs :: Cl.rowsOf k h0 (z.take j))) ∧ Hid (wr.heap[gr]? = some (.cells (bvs (Cl.rootOf k h0 (z.take j))).toArray 26 (0, 0))) ∧ Hid (Keeps (fun k => B ≤ k) w2 wr) ∧ Hid (Keeps (fun k => w.heap.size ≤ k) w wr) ∧ Hid (wr.heap[w.heap.size]? = some (.cells Z 26 (0, 0)))) (fun v _ => m - (intOf v).toNat)
  case atStart => exact ⟨0, by omega, rfl, P8, by rw [← HRH1.out]; exact R8, KB8, K8, R8a⟩
  case round =>
    clear P8 R8 KB8 K8 R8a R7 HRH1
    obtain ⟨j, hj, rfl, HPJ0, RJ, KBJ, KJ, RZ⟩ := hrel
    by_cases hlt : j < m
    · obtain ⟨p, hp⟩ : ∃ p, ps[j]? = some p := ⟨_, List.getElem?_eq_getElem (by rw [HM.out]; exact hlt)⟩
      obtain ⟨bj, hbj⟩ : ∃ b, L[j]? = some b := ⟨_, List.getElem?_eq_getElem (by rw [HLL.out]; exact hlt)⟩
      have hp32 : p.length = 32 := HP.out.all p (List.mem_of_getElem? hp)
      obtain ⟨b, o, hA, hrg0⟩ := HP.out.lie j p hp
      subst hA
      have hrg := range_keeps hrg0 KJ.out (fun k hk h => by omega)
      have hsl := HSLB.out wr KBJ.out
      obtain ⟨aL, haL, hlj⟩ := hsl.pos (by rw [bls_length, HLL.out]; omega)
      subst haL
      have hlj := hlj j (.bool bj) (by rw [bls_get, hbj]; rfl)
      have htk := Cl.take_zip ps L j p bj hp hbj
      rw [HZZ.out] at htk
      have hrows : Cl.rowsOf k h0 (z.take (j + 1)) = Cl.rowsOf k h0 (z.take j) ++ [Cl.nodeRow bj (Cl.rootOf k h0 (z.take j)) p] := by rw [htk, Cl.rowsOf_snoc]
      have hroot : Cl.rootOf k h0 (z.take (j + 1)) = Cl.nar k (Cl.nodeRow bj (Cl.rootOf k h0 (z.take j)) p) := by rw [htk, Cl.rootOf_snoc]; rfl
      have hh := Cl.rootOf_length k h0 (z.take j) H32.out
      have hh1 := Cl.rootOf_length k h0 (z.take (j + 1)) H32.out
      have hdl : (Cl.leafRow xs :: Cl.rowsOf k h0 (z.take j)).length ≤ 1000 := by rw [List.length_cons, Cl.rowsOf_length, List.length_take]; omega
      obtain ⟨h, hhe⟩ : ∃ h, Cl.rootOf k h0 (z.take j) = h := ⟨_, rfl⟩
      obtain ⟨h', hhe'⟩ : ∃ h, Cl.rootOf k h0 (z.take (j + 1)) = h := ⟨_, rfl⟩
      obtain ⟨row, hrow⟩ : ∃ r, Cl.nodeRow bj h p = r := ⟨_, rfl⟩
      rw [hhe] at hrows hroot hh
      rw [hhe'] at hroot hh1
      rw [hrow] at hrows hroot
      obtain ⟨done, hdone⟩ : ∃ d, Cl.leafRow xs :: Cl.rowsOf k h0 (z.take j) = d := ⟨_, rfl⟩
      have hdone' : Cl.leafRow xs :: Cl.rowsOf k h0 (z.take (j + 1)) = done ++ [row] := by rw [hrows, ← hdone]; rfl
      rw [hdone] at hdl HPJ0
      have hrl : row.length = 65 := by rw [← hrow]; exact Cl.nodeRow_length _ _ _ hh hp32
      obtain ⟨RH, hRH⟩ : ∃ R, bvs h = R := ⟨_, rfl⟩
      obtain ⟨RP, hRP⟩ : ∃ R, bvs p = R := ⟨_, rfl⟩
      obtain ⟨RN, hRN⟩ : ∃ R, (bvs h').toArray = R := ⟨_, rfl⟩
      obtain ⟨s1, z1, o1⟩ := arr_hash h hh
      obtain ⟨s2, z2, o2⟩ := arr_hash p hp32
      obtain ⟨s3, z3, o3⟩ := arr_hash h' hh1
      have rj := RJ.out
      rw [hhe, hRH] at rj
      rw [hRH] at s1 z1 o1
      rw [hRP] at s2 z2 o2 hrg
      rw [hRN] at s3 z3 o3
      -- the world behind the storing of what is beside
      obtain ⟨gb, hgb⟩ : ∃ g, wr.heap.size = g := ⟨_, rfl⟩
      obtain ⟨Wi, hWi⟩ : ∃ V, wr.alloc (.cells Z 26) = V := ⟨_, rfl⟩
      obtain ⟨Wj, hWj⟩ : ∃ V, Wi.setRow gb RP.toArray = V := ⟨_, rfl⟩
      have ki : Keeps (fun _ => False) wr Wi := by rw [← hWi]; exact (Keeps.refl _ _).alloc _
      have ri : Wi.heap[gb]? = some (.cells Z 26 (0, 0)) := by rw [← hWi, ← hgb]; exact heap_alloc_new wr _
      have kj' : Keeps (fun k => k = gb) Wi Wj := by rw [← hWj]; exact Keeps.setRow _ _
      have rjb : Wj.heap[gb]? = some (.cells RP.toArray 26 (0, 0)) := by rw [← hWj]; exact setRow_heap _ _ _ _ _ _ ri
      have kj : Keeps (fun _ => False) wr Wj := ki.trans' kj' (fun i hi e => by omega)
      have hgbl := HPJ0.out.var
      have hBlt : B < gb := by obtain ⟨_, _, hh, _⟩ := hgbl; have := hh.lt; omega
      have hgrlt : gr < gb := by have := (Array.getElem?_eq_some_iff.1 rj).1; omega
      have rjr : Wj.heap[gr]? = some (.cells RH.toArray 26 (0, 0)) := (kj.block _ (Array.getElem?_eq_some_iff.1 rj).1 id).trans rj
      have HPJ : Hid (PSt Wj B B Bp Bw wide done) := Lib.hid (HPJ0.out.later kj)
      have hTj : Tabs Wj := (HT.out.keeps KJ.out (by have := HT0.out; omega) (by have := HT0.out; omega)).keeps kj id id
      have ngr : ¬ GS Wj B B gr := GS.not_type rjr (by decide) (by have := HGR.out; omega)
      have ngb : ¬ GS Wj B B gb := GS.not_type rjb (by decide) (by omega)
      have HNR : Hid (∀ V, Keeps (GS Wj B B) Wj V → PSt V B B Bp Bw wide done → Calls Tryd.prog 34 #[.bool bj, .agg RH.toArray, .agg RP.toArray] V fun e w' => ∃ x : Option Addr × Nat, e = .returned (.slice x.1 65 x.2) ∧ Keeps (GS Wj B B) Wj w' ∧ (PSt w' B B Bp Bw wide done ∧ RowOk w' (x.1, x.2, row))) := Lib.hid (fun V hV hP => by
        have := noderow_any bj h p V hh hp32
        rw [hRH, hRP, hrow] at this
        refine this.mono ?_
        rintro e w' ⟨A', d, rfl, q1, q2, q3, q4, q5⟩
        exact ⟨(A', d), rfl, hV.trans' q5 (fun _ _ h => h.elim), hP.later q5, ⟨q1, by rw [hrl]; exact ⟨q2, q3⟩, q4⟩⟩)
      have HCL : Hid (∀ V (x : Option Addr × Nat), Keeps (GS Wj B B) Wj V → PSt V B B Bp Bw wide done → RowOk V (x.1, x.2, row) → Calls Tryd.prog 41 #[.slice x.1 65 x.2, .pointer (some ⟨Bp, 0, none⟩), .pointer (some ⟨Bw, 0, none⟩)] V fun e w' => e = .returned (.agg RN) ∧ Keeps (GS Wj B B) Wj w' ∧ PSt w' B B Bp Bw wide (done ++ [row])) := Lib.hid (fun V x hV hP hr => by
        have := hP.step (hTj.keeps hV (GS.not_low (by have := HT0.out; have := HB0.out; omega) (Nat.le_refl _)) (GS.not_low (by have := HT0.out; have := HB0.out; omega) (Nat.le_refl _))) (Nat.lt_trans HT0.out HB0.out) hdl x.1 x.2 row hr (by omega)
        rw [hrl, HK.out, ← hroot, hRN] at this
        refine this.mono ?_
        rintro e w' ⟨rfl, q1, q2⟩
        exact ⟨rfl, GS.trans hV q2, q1⟩)
      have HRH : Hid (∀ V, Keeps (GS Wj B B) Wj V → V.rangeAt gr 0 RH) := Lib.hid (fun V hV => rangeAt_row ((hV.block _ (Array.getElem?_eq_some_iff.1 rjr).1 ngr).trans rjr))
      have HRP : Hid (∀ V, Keeps (GS Wj B B) Wj V → V.rangeAt gb 0 RP) := Lib.hid (fun V hV => rangeAt_row ((hV.block _ (Array.getElem?_eq_some_iff.1 rjb).1 ngb).trans rjb))
      have HLJ : Hid (∀ V, Keeps (GS Wj B B) Wj V → V.cell? (aL.add j) = some (.bool bj)) := Lib.hid (fun V hV => by
        have hlt' := World.block_lt_of_cell? wr _ hlj
        have hbl : (aL.add j).block = aL.block := by unfold Addr.add; split <;> rfl
        have h2 := HSLB.out w2 (Keeps.refl _ _)
        obtain ⟨a2, e2, h3⟩ := h2 j (.bool bj) (by rw [bls_get, hbj]; rfl)
        injection e2 with e2
        subst e2
        have h4 := World.block_lt_of_cell? w2 _ h3
        rw [hB] at h4
        exact (hV.cell (Nat.lt_of_lt_of_le hlt' kj.size) (GS.not_low h4 (Nat.le_refl _))).trans ((kj.cell hlt' id).trans hlj))
      have hSR : (Tryd.prog.info? 26).map (·.size) = some RH.length := by rw [← hRH, bvs_length, hh]; exact size_hash'
      have hSP : (Tryd.prog.info? 26).map (·.size) = some RP.length := by rw [← hRP, bvs_length, hp32]; exact size_hash'
      have SRH := Lib.hid hSR
      have SRP := Lib.hid hSP
      have SP := Lib.hid s2
      have ZP := Lib.hid (HZS.out.trans z2.symm)
      have OP := Lib.hid o2
      have SN := Lib.hid s3
      have ZN := Lib.hid (z1.trans z3.symm)
      have ON := Lib.hid o3
      have RI := Lib.hid ri
      have HRG := Lib.hid hrg
      have HNG := Lib.hid ngr
      have RJR := Lib.hid rjr
      have HAFT : Hid (∀ V, Keeps (GS Wj B B) Wj V → Keeps (fun k => B ≤ k) w2 (V.setRow gr RN) ∧ Keeps (fun k => w.heap.size ≤ k) w (V.setRow gr RN) ∧ (V.setRow gr RN).heap[w.heap.size]? = some (.cells Z 26 (0, 0)) ∧ V.heap[gr]? = some (.cells RH.toArray 26 (0, 0))) := Lib.hid (fun V hV => by
        have hg := HGR.out
        have hb0 := HB0.out
        refine ⟨((KBJ.out.trans (kj.mono (fun _ _ h => h.elim))).trans (hV.mono (fun i _ e => gsB i e))).trans ((Keeps.setRow _ _).mono (fun i _ e => by omega)), ((KJ.out.trans (kj.mono (fun _ _ h => h.elim))).trans (hV.mono (fun i _ e => by have := gsB i e; omega))).trans ((Keeps.setRow _ _).mono (fun i _ e => by omega)), ?_, (hV.block _ (Array.getElem?_eq_some_iff.1 rjr).1 ngr).trans rjr⟩
        rw [setRow_other _ _ _ _ (by omega)]
        have hz1 := (kj.block _ (Array.getElem?_eq_some_iff.1 RZ.out).1 id).trans RZ.out
        exact (hV.block _ (Array.getElem?_eq_some_iff.1 hz1).1 (GS.not_low hb0 (Nat.le_refl _))).trans hz1)
      have HDONE := Lib.hid hdone'
      have HHE := Lib.hid hhe'
      have HRN := Lib.hid hRN
      have hjm : (j : Int) < m := by omega
      have hjc : (j : Int) < (m : Nat) := by omega
      clear hrg hrg0 hsl hlj htk hrows hroot hh hh1 hdl hhe hhe' hrow hdone hdone' hrl hRH hRP hRN s1 z1 o1 s2 z2 o2 s3 z3 o3 rj ki ri kj' rjb kj hgbl rjr hTj ngr ngb hSR hSP HPJ0 RJ KBJ KJ RZ hp hbj hp32
      go_wp2_with (first
        | (refine wpList_load_mid_w (by rfl) 26 (.tmp 43) (by rfl) b (o + j * 32) (by rfl) RP _ HRG.out Tryd.underlying26 rfl SRP.out ?_)
        | (refine wpList_store_row rfl 26 _ _ rfl gb RP.toArray rfl rfl 26 Z RI.out SP.out ZP.out OP.out ?_; rw [hWj]))
      clear HRG RI
      refine wp_region_stores 9 [7, 8] [0, 1, 2, 3, 4, 5, 6, 7, 8] (fun V => Keeps (GS Wj B B) Wj V) (fun V => PSt V B B Bp Bw wide done) (by kernel_rfl) (by kernel_rfl) (fun _ _ h k => h.trans' k (fun _ _ h => h.elim)) (fun _ _ h k => h.later k) (((Keeps.refl _ _).drew)) (HPJ.out.later ((Keeps.refl _ _).drew)) ?_
      refine T_value (get_op rfl) (by rfl) (by rfl) (.func (.func 41) #[] #[.pointer (some ⟨Bp, 0, none⟩), .pointer (some ⟨Bw, 0, none⟩)]) (fun _ _ => by go_simp) ?_
      simp only [Act.put, List.setIfInBounds_toArray, List.set_cons_zero, List.set_cons_succ]
      refine T_value (get_op rfl) (by rfl) (by rfl) (.slice (some aL) m cL) (fun _ _ => by go_simp) ?_
      simp only [Act.put, List.setIfInBounds_toArray, List.set_cons_zero, List.set_cons_succ]
      refine T_value (get_op rfl) (by rfl) (by rfl) (.int .i64 (j : Int)) (fun _ _ => by go_simp) ?_
      simp only [Act.put, List.setIfInBounds_toArray, List.set_cons_zero, List.set_cons_succ]
      refine T_value (get_op rfl) (by rfl) (by rfl) (.pointer (some (aL.add j))) (fun _ _ => by go_simp) ?_
      simp only [Act.put, List.setIfInBounds_toArray, List.set_cons_zero, List.set_cons_succ]
      refine T_cell (get_op rfl) (by rfl) (by rfl) 4 (.tmp 48) (by rfl) (aL.add j) (by rfl) (.bool bj) _ (fun V hV => HLJ.out V hV) Tryd.underlying4 rfl ?_
      simp only [Act.put, List.setIfInBounds_toArray, List.set_cons_zero, List.set_cons_succ]
      refine T_load (get_op rfl) (by rfl) (by rfl) 26 (.tmp 16) (by rfl) gr 0 (by rfl) RH _ (fun V hV => HRH.out V hV) Tryd.underlying26 rfl SRH.out ?_
      simp only [Act.put, List.setIfInBounds_toArray, List.set_cons_zero, List.set_cons_succ]
      refine T_load (get_op rfl) (by rfl) (by rfl) 26 (.tmp 18) (by rfl) gb 0 (by rfl) RP _ (fun V hV => HRP.out V hV) Tryd.underlying26 rfl SRP.out ?_
      simp only [Act.put, List.setIfInBounds_toArray, List.set_cons_zero, List.set_cons_succ]
      refine T_enterR (get_op rfl) (by rfl) (by rfl) _ _ (fun x : Option Addr × Nat => .slice x.1 65 x.2) (fun x y h => by cases x; cases y; simp at h; simp [h]) (fun _ => by go_simp) (fun x V => PSt V B B Bp Bw wide done ∧ RowOk V (x.1, x.2, row)) (fun x w w' h hk => ⟨h.1.later hk, h.2.later hk⟩) (fun V hb hf => HNR.out V hb hf) ?_
      intro x7
      simp only [Act.put, List.setIfInBounds_toArray, List.set_cons_zero, List.set_cons_succ]
      refine T_enter (get_op rfl) (by rfl) (by rfl) _ _ (.agg RN) (fun _ => by go_simp) (fun V => PSt V B B Bp Bw wide (done ++ [row])) (fun _ _ h k => h.later k) (fun V hb hf => HCL.out V x7 hb hf.1 hf.2) ?_
      simp only [Act.put, List.setIfInBounds_toArray, List.set_cons_zero, List.set_cons_succ]
      refine T_nil ?_
      intro V9 h9 f9
      simp only [List.drop_succ_cons, List.drop_zero]
      obtain ⟨a1, a2, a3, a4⟩ := HAFT.out V9 h9
      have R9 := Lib.hid a4
      have A1 := Lib.hid a1
      have A2 := Lib.hid a2
      have A3 := Lib.hid a3
      have P10 : Hid (PSt (V9.setRow gr RN) B B Bp Bw wide (done ++ [row])) := Lib.hid (f9.keeps (Keeps.setRow gr RN) (fun k cs t fr hc ht e => by
        subst e
        rw [R9.out] at hc
        injection hc with hc
        injection hc with _ hc
        subst hc
        rcases ht with h | h | h | h | h <;> exact absurd h (by decide)))
      clear a1 a2 a3 a4 h9 f9 HAFT HNR HCL HRH HRP HLJ
      go_wp2_with (refine wpList_store_row rfl 26 _ _ rfl gr RN rfl rfl 26 RH.toArray R9.out SN.out ZN.out ON.out ?_)
      go_roundw
      case rel =>
        refine ⟨j + 1, by omega, by go_num, by rw [HDONE.out]; exact P10, Lib.hid ?_, A1, A2, A3⟩
        rw [HHE.out, HRN.out]
        exact setRow_heap _ _ _ _ _ _ R9.out
      case measure => simp [intOf]; omega
    · obtain rfl : j = m := by omega
      rw [HZ0.out] at HPJ0 RJ
      obtain ⟨A', c', rs, q1, q2, q3⟩ := HPJ0.out.told
      obtain ⟨RF, hRF⟩ : ∃ R, bvs (Cl.rootOf k h0 z) = R := ⟨_, rfl⟩
      have hfl : (Cl.rootOf k h0 z).length = 32 := Cl.rootOf_length _ _ _ H32.out
      obtain ⟨s1, z1, o1⟩ := arr_hash _ hfl
      have rj := RJ.out
      rw [hRF] at s1 z1 o1 rj
      have HRFE := Lib.hid hRF
      have hBl := q1.lt
      have HTB : Hid (∀ V, Keeps (fun k => k = w.heap.size) wr V → V.cell? ⟨B, 0, none⟩ = some (.slice A' rs.length c')) := Lib.hid (fun V hV => (q1.keeps hV (by have := HB0.out; omega)).cell 0)
      have HRF : Hid (∀ V, Keeps (fun k => k = w.heap.size) wr V → V.rangeAt gr 0 RF) := Lib.hid (fun V hV => rangeAt_row ((hV.block _ (Array.getElem?_eq_some_iff.1 rj).1 (by have := HB0.out; have := HGR.out; omega)).trans rj))
      have hSF : (Tryd.prog.info? 26).map (·.size) = some RF.length := by rw [← hRF, bvs_length, hfl]; exact size_hash'
      have SRF := Lib.hid hSF
      have SRF2 := Lib.hid s1
      have ZRF := Lib.hid (HZS.out.trans z1.symm)
      have ORF := Lib.hid o1
      have R11 : Hid (wr.drew.heap[w.heap.size]? = some (.cells Z 26 (0, 0))) := RZ
      have HFIN : Hid (∀ V, Keeps (fun k => k = w.heap.size) wr V → RowsOk V A' c' rs ∧ Keeps (fun _ => False) w V) := Lib.hid (fun V hV => ⟨q2 _ V hV (fun k cs t fr hc ht e => by
        subst e
        rw [RZ.out] at hc
        injection hc with hc
        injection hc with _ hc
        subst hc
        rcases ht with h | h <;> exact absurd h (by decide)), (KJ.out.trans (hV.mono (fun i _ e => by omega))).mono (fun i hi e => by omega)⟩)
      have HQ3 := Lib.hid q3
      clear q1 q2 q3 hfl s1 z1 o1 rj hSF HPJ0 RJ KBJ KJ RZ hRF
      go_wp2_with fail
      refine wp_region_stores 5 [3] [0, 1, 2, 3, 4] (fun V => Keeps (fun k => k = w.heap.size) wr V) (fun V => V.heap[w.heap.size]? = some (.cells Z 26 (0, 0))) (by kernel_rfl) (by kernel_rfl) (fun _ _ h k => h.trans' k (fun _ _ h => h.elim)) (Lasts.block _ _) (((Keeps.refl _ _).drew)) (R11.out) ?_
      refine T_cell (get_op rfl) (by rfl) (by rfl) 51 (.tmp 14) (by rfl) ⟨B, 0, none⟩ (by rfl) (.slice A' rs.length c') _ (fun V hV => HTB.out V hV) Tryd.underlying51 rfl ?_
      simp only [Act.put, List.setIfInBounds_toArray, List.set_cons_zero, List.set_cons_succ]
      refine T_load (get_op rfl) (by rfl) (by rfl) 26 (.tmp 16) (by rfl) gr 0 (by rfl) RF _ (fun V hV => HRF.out V hV) Tryd.underlying26 rfl SRF.out ?_
      simp only [Act.put, List.setIfInBounds_toArray, List.set_cons_zero, List.set_cons_succ]
      refine T_value (get_op rfl) (by rfl) (by rfl) (.slice A' rs.length c') (fun _ _ => by go_simp) ?_
      simp only [Act.put, List.setIfInBounds_toArray, List.set_cons_zero, List.set_cons_succ]
      refine T_store (get_op rfl) (by rfl) (by rfl) 26 (.tmp 11) (.tmp 56) (by rfl) (by rfl) w.heap.size (by rfl) RF.toArray Z (by rfl) 26 SRF2.out ZRF.out ORF.out (fun V => V.heap[w.heap.size]? = some (.cells RF.toArray 26 (0, 0))) (Lasts.block _ _) (fun V hb hf => ⟨hf, hb.trans (Keeps.setRow _ _), setRow_heap _ _ _ _ _ _ hf⟩) ?_
      refine T_value (get_op rfl) (by rfl) (by rfl) (.int .i64 0) (fun _ _ => by go_simp) ?_
      simp only [Act.put, List.setIfInBounds_toArray, List.set_cons_zero, List.set_cons_succ]
      refine T_nil ?_
      intro V9 h9 f9
      simp only [List.drop_succ_cons, List.drop_nil]
      have R9 := Lib.hid f9
      have H9 := Lib.hid (HFIN.out V9 h9)
      clear h9 f9 HFIN HTB HRF
      go_wp2_with fail
      refine bodyPost_ret (results_tct rfl _ _ w.heap.size 26 RF.toArray (0, 0) _ (.slice A' rs.length c') (.int .i64 0) rfl rfl R9.out Tryd.underlying26 rfl SRF2.out rfl) rfl ?_
      exact ⟨A', c', rs, by rw [HRFE.out], H9.out.1, HQ3.out, H9.out.2⟩
end Go.Proofs.YtjblnjeloimbgaaDoor
