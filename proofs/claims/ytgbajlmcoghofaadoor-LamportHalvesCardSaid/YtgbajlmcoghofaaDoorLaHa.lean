/-
  The law LamportHalves walked: of each bit one secret is shown, and of the other value its open half. WRITTEN BY wip/gen/mklas.py.
-/
import Derived.Test.YtgbajlmcoghofaaDoorLaH
import Derived.Test.YtgbajlmcoghofaaDoorOpens
import Derived.Test.YtgbajlmcoghofaaDoorLaQ
import Derived.Test.YtgbajlmcoghofaaDoorLaPr
namespace Go.Proofs.YtgbajlmcoghofaaDoor
open Go.RowKit Go.BigFrame
set_option linter.unusedVariables false

set_option maxRecDepth 100000 in
set_option maxHeartbeats 1000000 in
theorem lhalves_long (sd : List UInt8) (i : Int) (A : Option Addr) (n c : Nat) (B : Option Addr) (m d : Nat) (W : World) (hT : Tabs W) (hs : sd.length = 32) (hnm : 100 < n ∨ 100 < m) (hmax : n ≤ 9223372036854775807) (hmax2 : m ≤ 9223372036854775807) :
    Calls Tryd.prog 5 #[.agg (bvs sd).toArray, .int .i64 i, .slice A n c, .slice B m d] W fun e W' => e = .returned (.bool true) ∧ Below W.heap.size W W' := by
  obtain ⟨X, hX⟩ : ∃ X : Array Value, (bvs sd).toArray = X := ⟨_, rfl⟩
  obtain ⟨g0, hg0⟩ : ∃ g, W.heap.size = g := ⟨_, rfl⟩
  obtain ⟨W1, hW1⟩ : ∃ V, W.alloc (.cells X 23) = V := ⟨_, rfl⟩
  have k1 : Keeps (fun _ => False) W W1 := by rw [← hW1]; exact (Keeps.refl _ _).alloc _
  have r1 : W1.heap[g0]? = some (.cells X 23 (0, 0)) := by rw [← hW1, ← hg0]; exact heap_alloc_new W _
  have HAW := Lib.hid (awake7_any W1 (hT.keeps k1 id id))
  have K1 := Lib.hid k1
  rw [hX]
  clear hT hX hs k1 r1 hg0
  by_cases hn : 100 < n
  · clear hnm
    go_enter Tryd.func5, Tryd.ntmps5
    go_wp2_with fail
    refine HAW.out.mono ?_
    rintro e w2 ⟨rfl, k2⟩
    have K2 := Lib.hid (K1.out.trans k2)
    clear k2 HAW
    go_wp2
    go_ret
    exact ⟨rfl, (K2.out).below (Nat.le_refl _) (fun _ _ => id)⟩
  · have hm : 100 < m := by omega
    have hni : ¬ (100 : Int) < n := by omega
    clear hnm
    go_enter Tryd.func5, Tryd.ntmps5
    go_wp2_with fail
    refine HAW.out.mono ?_
    rintro e w2 ⟨rfl, k2⟩
    have K2 := Lib.hid (K1.out.trans k2)
    clear k2 HAW
    go_wp2
    go_ret
    exact ⟨rfl, (K2.out).below (Nat.le_refl _) (fun _ _ => id)⟩
set_option maxRecDepth 100000 in
set_option maxHeartbeats 1200000 in
theorem lhalves_short (sd : List UInt8) (i : Int) (A : Option Addr) (c : Nat) (xs : List UInt8) (B : Option Addr) (d : Nat) (ys : List UInt8) (W : World) (hT : Tabs W) (hs : sd.length = 32) (hsrc : Src W A (bvs xs)) (hn : xs.length ≤ 100) (hc : xs.length ≤ c) (hcm : c ≤ 9223372036854775807)
    (hsrc2 : Src W B (bvs ys)) (hn2 : ys.length ≤ 100) (hd : ys.length ≤ d) (hdm : d ≤ 9223372036854775807) :
    Calls Tryd.prog 5 #[.agg (bvs sd).toArray, .int .i64 i, .slice A xs.length c, .slice B ys.length d] W fun e W' => e = .returned (.bool true) ∧ Below W.heap.size W W' := by
  obtain ⟨X, hX⟩ : ∃ X : Array Value, (bvs sd).toArray = X := ⟨_, rfl⟩
  obtain ⟨g0, hg0⟩ : ∃ g, W.heap.size = g := ⟨_, rfl⟩
  obtain ⟨W1, hW1⟩ : ∃ V, W.alloc (.cells X 23) = V := ⟨_, rfl⟩
  have k1 : Keeps (fun _ => False) W W1 := by rw [← hW1]; exact (Keeps.refl _ _).alloc _
  have r1 : W1.heap[g0]? = some (.cells X 23 (0, 0)) := by rw [← hW1, ← hg0]; exact heap_alloc_new W _
  have HAW := Lib.hid (awake7_any W1 (hT.keeps k1 id id))
  obtain ⟨a1, a2, a3⟩ := hash_arr sd hs
  obtain ⟨p, hp⟩ : ∃ g, Sh.sha xs = g := ⟨_, rfl⟩
  obtain ⟨q, hq⟩ : ∃ g, Sh.sha ys = g := ⟨_, rfl⟩
  have hpl : p.length = 32 := by rw [← hp]; exact Sh.sha_length _
  have hql : q.length = 32 := by rw [← hq]; exact Sh.sha_length _
  have cs := fun V (hV : Keeps (fun _ => False) W V) => sign_any sd i A c xs V (hT.keeps hV id id) hs (hsrc.keeps hV (fun _ _ _ => id)) hc hcm (by omega)
  have ct := fun V (hV : Keeps (fun _ => False) W V) => sign_any sd i B d ys V (hT.keeps hV id id) hs (hsrc2.keeps hV (fun _ _ _ => id)) hd hdm (by omega)
  have cp := fun V V1 (hV : Keeps (fun _ => False) W V) (hW : V.alloc (.cells #[.slice A xs.length c] 24) = V1) => of_new (hT.keeps hV id id) hW (hsrc.keeps hV (fun _ _ _ => id)) rfl hc hcm (by omega)
  have cq := fun V V1 (hV : Keeps (fun _ => False) W V) (hW : V.alloc (.cells #[.slice B ys.length d] 24) = V1) => of_new (hT.keeps hV id id) hW (hsrc2.keeps hV (fun _ _ _ => id)) rfl hd hdm (by omega)
  obtain ⟨fs, hfs⟩ : ∃ f, Lm.sigs sd i p = f := ⟨_, rfl⟩
  obtain ⟨ft, hft⟩ : ∃ f, Lm.sigs sd i q = f := ⟨_, rfl⟩
  have hsl : ∀ j, j < 128 → (fs j).length = 32 := fun j _ => by rw [← hfs]; exact Lm.sigs_length _ _ _ _
  have htl : ∀ j, j < 128 → (ft j).length = 32 := fun j _ => by rw [← hft]; exact Lm.sigs_length _ _ _ _
  have es : Lm.sign sd i xs = Lm.cat fs 128 := by unfold Lm.sign; rw [hp, hfs]
  have et : Lm.sign sd i ys = Lm.cat ft 128 := by unfold Lm.sign; rw [hq, hft]
  have os := fun k v (hv : v < 2) (hb : Lm.bit p k = v) => sigs_own sd i p k v hv hb
  have oso := fun k u (hu : u < 2) (hb : u ≠ Lm.bit p k) => sigs_other sd i p k u hu hb
  have ot := fun k v (hv : v < 2) (hb : Lm.bit q k = v) => sigs_own sd i q k v hv hb
  have oto := fun k u (hu : u < 2) (hb : u ≠ Lm.bit q k) => sigs_other sd i q k u hu hb
  rw [hfs] at os oso
  rw [hft] at ot oto
  rw [es] at cs
  rw [et] at ct
  rw [hp] at cp
  rw [hq] at cq
  obtain ⟨s1, s2, s3⟩ := sig_arr (Lm.cat fs 128) (Lm.cat_length _ _ hsl)
  obtain ⟨t1, t2, t3⟩ := sig_arr (Lm.cat ft 128) (Lm.cat_length _ _ htl)
  obtain ⟨p1, p2, p3⟩ := hash_arr p hpl
  obtain ⟨q1, q2, q3⟩ := hash_arr q hql
  obtain ⟨LS, hLS⟩ : ∃ L, bvs (Lm.cat fs 128) = L := ⟨_, rfl⟩
  obtain ⟨LT, hLT⟩ : ∃ L, bvs (Lm.cat ft 128) = L := ⟨_, rfl⟩
  obtain ⟨LP, hLP⟩ : ∃ L, bvs p = L := ⟨_, rfl⟩
  obtain ⟨LQ, hLQ⟩ : ∃ L, bvs q = L := ⟨_, rfl⟩
  obtain ⟨Z, hZ⟩ : ∃ Z : Array Value, (bvs (List.replicate 32 0)).toArray = Z := ⟨_, rfl⟩
  have hz : ∀ w : World, (zeroValue 23).run Tryd.prog w = .ok (.agg Z) w := fun w => by rw [← hZ]; exact zero_hash w
  have hzs : Z.size = 32 := by subst hZ; rfl
  obtain ⟨Y, hY⟩ : ∃ Y : Array Value, (bvs (List.replicate 4096 0)).toArray = Y := ⟨_, rfl⟩
  have hy : ∀ w : World, (zeroValue 29).run Tryd.prog w = .ok (.agg Y) w := fun w => by rw [← hY]; exact zero_sig w
  have hys : Y.size = 4096 := by rw [← hY, List.size_toArray, bvs_length, List.length_replicate]
  obtain ⟨n, hnn⟩ : ∃ n, xs.length = n := ⟨_, rfl⟩
  obtain ⟨m, hmm⟩ : ∃ m, ys.length = m := ⟨_, rfl⟩
  rw [hLS] at s1 s2 s3
  rw [hLT] at t1 t2 t3
  rw [hLP] at p1 p2 p3
  rw [hLQ] at q1 q2 q3
  rw [hLS, hX, hnn] at cs
  rw [hLT, hX, hmm] at ct
  rw [hLP, hnn] at cp
  rw [hLQ, hmm] at cq
  rw [hX] at a1
  rw [hnn] at hn hc
  rw [hmm] at hn2 hd
  rw [hX, hnn, hmm]
  have CS := Lib.hid cs
  have CT := Lib.hid ct
  have CP := Lib.hid cp
  have CQ := Lib.hid cq
  have OS := Lib.hid os
  have OSO := Lib.hid oso
  have OT := Lib.hid ot
  have OTO := Lib.hid oto
  have HSL := Lib.hid hsl
  have HTL := Lib.hid htl
  have HLS := Lib.hid hLS
  have HLT := Lib.hid hLT
  have HLP := Lib.hid hLP
  have HLQ := Lib.hid hLQ
  have HPL := Lib.hid hpl
  have HQL := Lib.hid hql
  have S1 := Lib.hid s1
  have S2 := Lib.hid (hys.trans s2.symm)
  have S3 := Lib.hid s3
  have T1 := Lib.hid t1
  have T2 := Lib.hid (hys.trans t2.symm)
  have T3 := Lib.hid t3
  have P1 := Lib.hid p1
  have P2 := Lib.hid (hzs.trans p2.symm)
  have P3 := Lib.hid p3
  have Q1 := Lib.hid q1
  have Q2 := Lib.hid (hzs.trans q2.symm)
  have Q3 := Lib.hid q3
  have HZS := Lib.hid hzs
  have HT := Lib.hid hT
  have SX := Lib.hid a1
  have K1 := Lib.hid k1
  have R1 := Lib.hid r1
  clear hT hX hs k1 r1 hsrc hsrc2 cs ct cp cq os oso ot oto hsl htl hLS hLT hLP hLQ hpl hql s1 s2 s3 t1 t2 t3 p1 p2 p3 q1 q2 q3 hzs hys hZ hY a1 a2 a3 es et hfs hft hp hq hnn hmm hc hcm hd hdm
  go_enter Tryd.func5, Tryd.ntmps5
  go_wp2_with fail
  refine HAW.out.mono ?_
  rintro e w2 ⟨rfl, k2⟩
  have K2 := Lib.hid (K1.out.trans k2)
  have R2 := Lib.hid ((k2.block _ (Array.getElem?_eq_some_iff.1 R1.out).1 id).trans R1.out)
  have HS2 := Lib.hid (CS.out w2 K2.out)
  clear k2 HAW K1 R1 CS
  go_wp2_with (refine wpList_load_row rfl 23 _ rfl g0 rfl 23 X (0, 0) _ R2.out Tryd.underlying23 rfl SX.out ?_)
  refine HS2.out.mono ?_
  rintro e w3 ⟨rfl, k3⟩
  obtain ⟨gs, hgs⟩ : ∃ g, w3.heap.size = g := ⟨_, rfl⟩
  obtain ⟨W4, hW4⟩ : ∃ V, w3.alloc (.cells Y 29) = V := ⟨_, rfl⟩
  obtain ⟨W5, hW5⟩ : ∃ V, W4.setRow gs LS.toArray = V := ⟨_, rfl⟩
  obtain ⟨r4, r5, k35⟩ := filled hgs hW4 hW5
  have K5 := Lib.hid ((K2.out.trans k3).trans k35)
  have R4 := Lib.hid r4
  have RS5 := Lib.hid r5
  have R5 : Hid (W5.heap[g0]? = some (.cells X 23 (0, 0))) := Lib.hid (((k3.trans k35).block _ (Array.getElem?_eq_some_iff.1 R2.out).1 id).trans R2.out)
  have HT5 := Lib.hid (CT.out W5 K5.out)
  clear r4 r5 k3 k35 HS2 R2 CT K2
  go_wp2_with (first
    | (refine wpList_store_row rfl 29 _ _ rfl gs LS.toArray rfl rfl 29 Y R4.out S1.out S2.out S3.out ?_; rw [hW5])
    | (refine wpList_load_row rfl 23 _ rfl g0 rfl 23 X (0, 0) _ R5.out Tryd.underlying23 rfl SX.out ?_))
  refine HT5.out.mono ?_
  rintro e w6 ⟨rfl, k6⟩
  obtain ⟨gt, hgt⟩ : ∃ g, w6.heap.size = g := ⟨_, rfl⟩
  obtain ⟨W7, hW7⟩ : ∃ V, w6.alloc (.cells Y 29) = V := ⟨_, rfl⟩
  obtain ⟨W8, hW8⟩ : ∃ V, W7.setRow gt LT.toArray = V := ⟨_, rfl⟩
  obtain ⟨r7, r8, k68⟩ := filled hgt hW7 hW8
  obtain ⟨W9, hW9⟩ : ∃ V, W8.alloc (.cells #[.slice A n c] 24) = V := ⟨_, rfl⟩
  have k89 : Keeps (fun _ => False) W8 W9 := by rw [← hW9]; exact (Keeps.refl _ _).alloc _
  have k58 : Keeps (fun _ => False) W5 W8 := k6.trans k68
  have K9 := Lib.hid ((K5.out.trans k58).trans k89)
  have RS9 : Hid (W9.heap[gs]? = some (.cells LS.toArray 29 (0, 0))) := Lib.hid (((k58.trans k89).block _ (Array.getElem?_eq_some_iff.1 RS5.out).1 id).trans RS5.out)
  have RT9 : Hid (W9.heap[gt]? = some (.cells LT.toArray 29 (0, 0))) := Lib.hid ((k89.block _ (Array.getElem?_eq_some_iff.1 r8).1 id).trans r8)
  have R7 := Lib.hid r7
  have HP9 := Lib.hid (CP.out W8 W9 (K5.out.trans k58) hW9)
  clear r7 r8 k6 k68 k89 k58 R4 RS5 R5 HT5 CP K5 hW4 hW5 hgs
  go_wp2_with (refine wpList_store_row rfl 29 _ _ rfl gt LT.toArray rfl rfl 29 Y R7.out T1.out T2.out T3.out ?_; rw [hW8])
  refine HP9.out.mono ?_
  rintro e w10 ⟨rfl, k10⟩
  obtain ⟨gp, hgp⟩ : ∃ g, w10.heap.size = g := ⟨_, rfl⟩
  obtain ⟨W11, hW11⟩ : ∃ V, w10.alloc (.cells Z 23) = V := ⟨_, rfl⟩
  obtain ⟨W12, hW12⟩ : ∃ V, W11.setRow gp LP.toArray = V := ⟨_, rfl⟩
  obtain ⟨r11, r12, k1012⟩ := filled hgp hW11 hW12
  obtain ⟨W13, hW13⟩ : ∃ V, W12.alloc (.cells #[.slice B m d] 24) = V := ⟨_, rfl⟩
  have k1213 : Keeps (fun _ => False) W12 W13 := by rw [← hW13]; exact (Keeps.refl _ _).alloc _
  have k912 : Keeps (fun _ => False) W9 W12 := k10.trans k1012
  have K13 := Lib.hid ((K9.out.trans k912).trans k1213)
  have k913 := k912.trans k1213
  have RS13 : Hid (W13.heap[gs]? = some (.cells LS.toArray 29 (0, 0))) := Lib.hid ((k913.block _ (Array.getElem?_eq_some_iff.1 RS9.out).1 id).trans RS9.out)
  have RT13 : Hid (W13.heap[gt]? = some (.cells LT.toArray 29 (0, 0))) := Lib.hid ((k913.block _ (Array.getElem?_eq_some_iff.1 RT9.out).1 id).trans RT9.out)
  have RP13 : Hid (W13.heap[gp]? = some (.cells LP.toArray 23 (0, 0))) := Lib.hid ((k1213.block _ (Array.getElem?_eq_some_iff.1 r12).1 id).trans r12)
  have R11 := Lib.hid r11
  have HQ13 := Lib.hid (CQ.out W12 W13 (K9.out.trans k912) hW13)
  clear r11 r12 k10 k1012 k1213 k912 k913 RS9 RT9 R7 HP9 CQ K9 hW7 hW8 hW9 hgt
  go_wp2_with (refine wpList_store_row rfl 23 _ _ rfl gp LP.toArray rfl rfl 23 Z R11.out P1.out P2.out P3.out ?_; rw [hW12])
  refine HQ13.out.mono ?_
  rintro e w14 ⟨rfl, k14⟩
  obtain ⟨gq, hgq⟩ : ∃ g, w14.heap.size = g := ⟨_, rfl⟩
  obtain ⟨W15, hW15⟩ : ∃ V, w14.alloc (.cells Z 23) = V := ⟨_, rfl⟩
  obtain ⟨W16, hW16⟩ : ∃ V, W15.setRow gq LQ.toArray = V := ⟨_, rfl⟩
  obtain ⟨r15, r16, k1416⟩ := filled hgq hW15 hW16
  have k1316 := k14.trans k1416
  have K16 := Lib.hid (K13.out.trans k1316)
  have RS : Hid (W16.heap[gs]? = some (.cells LS.toArray 29 (0, 0))) := Lib.hid ((k1316.block _ (Array.getElem?_eq_some_iff.1 RS13.out).1 id).trans RS13.out)
  have RT : Hid (W16.heap[gt]? = some (.cells LT.toArray 29 (0, 0))) := Lib.hid ((k1316.block _ (Array.getElem?_eq_some_iff.1 RT13.out).1 id).trans RT13.out)
  have RP : Hid (W16.heap[gp]? = some (.cells LP.toArray 23 (0, 0))) := Lib.hid ((k1316.block _ (Array.getElem?_eq_some_iff.1 RP13.out).1 id).trans RP13.out)
  have RQ := Lib.hid r16
  have R15 := Lib.hid r15
  clear r15 r16 k14 k1416 k1316 RS13 RT13 RP13 R11 HQ13 K13 hW11 hW12 hW13 hgp
  go_wp2_with (refine wpList_store_row rfl 23 _ _ rfl gq LQ.toArray rfl rfl 23 Z R15.out Q1.out Q2.out Q3.out ?_; rw [hW16])
  clear R15 S1 S2 S3 T1 T2 T3 P1 P2 P3 Q1 Q2 Q3 hW15 hW16 hgq
  go_loopw [14] (fun x wr => ∃ k : Nat, k ≤ 64 ∧ x = .int .i64 k ∧ Hid (Keeps (fun _ => False) W16 wr)) (fun x _ => 64 - (intOf x).toNat)
  case atStart => exact ⟨0, by omega, rfl, Lib.hid (Keeps.refl _ _)⟩
  case round =>
    obtain ⟨k, hk, rfl, HK⟩ := hrel
    by_cases hlt : k < 64
    · have hki : (k : Int) < 64 := by omega
      have hkd : (k : Int) / 8 < 32 := by omega
      obtain ⟨x, hx⟩ : ∃ x, p[k / 8]? = some x := ⟨_, List.getElem?_eq_getElem (by rw [HPL.out]; omega)⟩
      obtain ⟨y, hy'⟩ : ∃ x, q[k / 8]? = some x := ⟨_, List.getElem?_eq_getElem (by rw [HQL.out]; omega)⟩
      have rp := (HK.out.block _ (Array.getElem?_eq_some_iff.1 RP.out).1 id).trans RP.out
      have rq := (HK.out.block _ (Array.getElem?_eq_some_iff.1 RQ.out).1 id).trans RQ.out
      have cp : wr.cell? ⟨gp, k / 8, none⟩ = some (.int .u8 (x.toNat : Int)) := by rw [cell_of_row wr gp _ _ _ _ rp, ← HLP.out, List.getElem?_toArray, bvs_get, hx]; rfl
      have cq : wr.cell? ⟨gq, k / 8, none⟩ = some (.int .u8 (y.toNat : Int)) := by rw [cell_of_row wr gq _ _ _ _ rq, ← HLQ.out, List.getElem?_toArray, bvs_get, hy']; rfl
      have bv1 := bit_i64 p k x hx
      have bv2 := bit_i64 q k y hy'
      have wx : wrap64 ((x.toNat : Int) / 2 ^ (7 - k % 8)) = (x.toNat : Int) / 2 ^ (7 - k % 8) := wrap64_byte x _
      have wy : wrap64 ((y.toNat : Int) / 2 ^ (7 - k % 8)) = (y.toNat : Int) / 2 ^ (7 - k % 8) := wrap64_byte y _
      obtain ⟨v, hbv⟩ : ∃ v, Lm.bit p k = v := ⟨_, rfl⟩
      obtain ⟨u, hbu⟩ : ∃ v, Lm.bit q k = v := ⟨_, rfl⟩
      have hlv : v < 2 := by rw [← hbv]; exact Lm.bit_lt _ _
      have hlu : u < 2 := by rw [← hbu]; exact Lm.bit_lt _ _
      rw [hbv] at bv1
      rw [hbu] at bv2
      have s7 : IntKind.i64.wrap (7 - (k : Int) % 8) = 7 - (k : Int) % 8 := IntWalk.i64_in _ (by omega)
      have u7 : IntKind.u64.wrap (7 - (k : Int) % 8) = 7 - (k : Int) % 8 := by
        simp only [IntKind.wrap, IntKind.signed, IntKind.bits]
        exact Int.emod_eq_of_lt (by omega) (by omega)
      have l7 : (0 : Int) ≤ 7 - (k : Int) % 8 := by omega
      have t7 : (7 - (k : Int) % 8).toNat = 7 - k % 8 := by omega
      have cx0 : (x.toNat : Int) < 256 := by have := x.toNat_lt; omega
      have cy0 : (y.toNat : Int) < 256 := by have := y.toNat_lt; omega
      have hvi : (v : Int) < 2 := by omega
      have hui : (u : Int) < 2 := by omega
      have hsv := OS.out k v hlv hbv
      have htu := OT.out k u hlu hbu
      have rs := (HK.out.block _ (Array.getElem?_eq_some_iff.1 RS.out).1 id).trans RS.out
      have rt := (HK.out.block _ (Array.getElem?_eq_some_iff.1 RT.out).1 id).trans RT.out
      rw [← HLS.out] at rs
      rw [← HLT.out] at rt
      obtain ⟨ex, hex⟩ : ∃ e, Lm.sec sd i k v = e := ⟨_, rfl⟩
      obtain ⟨ey, hey⟩ : ∃ e, Lm.sec sd i k u = e := ⟨_, rfl⟩
      have hexl : ex.length = 32 := by rw [← hex]; exact Lm.sec_length _ _ _ _
      have heyl : ey.length = 32 := by rw [← hey]; exact Lm.sec_length _ _ _ _
      rw [hex] at hsv
      rw [hey] at htu
      have mx : ∀ V, Keeps (fun _ => False) wr V → V.rangeAt gs (k * 64 + v * 32) (bvs ex) := fun V hV => by
        have h := sig_at (t := 29) (show Row V gs 29 (bvs (Lm.cat fs 128)) from (hV.block _ (Array.getElem?_eq_some_iff.1 rs).1 id).trans rs) HSL.out (show 2 * k + v < 128 by omega)
        rw [hsv, show 32 * (2 * k + v) = k * 64 + v * 32 by omega] at h
        exact h
      have my : ∀ V, Keeps (fun _ => False) wr V → V.rangeAt gt (k * 64 + u * 32) (bvs ey) := fun V hV => by
        have h := sig_at (t := 29) (show Row V gt 29 (bvs (Lm.cat ft 128)) from (hV.block _ (Array.getElem?_eq_some_iff.1 rt).1 id).trans rt) HTL.out (show 2 * k + u < 128 by omega)
        rw [htu, show 32 * (2 * k + u) = k * 64 + u * 32 by omega] at h
        exact h
      obtain ⟨x1, x2, x3⟩ := hash_arr ex hexl
      obtain ⟨y1, y2, y3⟩ := hash_arr ey heyl
      obtain ⟨XL, hXL⟩ : ∃ L, bvs ex = L := ⟨_, rfl⟩
      obtain ⟨YL, hYL⟩ : ∃ L, bvs ey = L := ⟨_, rfl⟩
      rw [hXL] at x1 x2 x3 mx
      rw [hYL] at y1 y2 y3 my
      obtain ⟨gx, hgx⟩ : ∃ g, wr.heap.size = g := ⟨_, rfl⟩
      obtain ⟨Wa, hWa⟩ : ∃ V, wr.alloc (.cells Z 23) = V := ⟨_, rfl⟩
      obtain ⟨Wb, hWb⟩ : ∃ V, Wa.setRow gx XL.toArray = V := ⟨_, rfl⟩
      obtain ⟨ra, rb, kab⟩ := filled hgx hWa hWb
      obtain ⟨gy, hgy⟩ : ∃ g, Wb.heap.size = g := ⟨_, rfl⟩
      obtain ⟨Wc, hWc⟩ : ∃ V, Wb.alloc (.cells Z 23) = V := ⟨_, rfl⟩
      obtain ⟨Wd, hWd⟩ : ∃ V, Wc.setRow gy YL.toArray = V := ⟨_, rfl⟩
      obtain ⟨rc, rd, kcd⟩ := filled hgy hWc hWd
      have kbd : Keeps (fun _ => False) wr Wd := kab.trans kcd
      have rxd : Wd.heap[gx]? = some (.cells XL.toArray 23 (0, 0)) := (kcd.block _ (Array.getElem?_eq_some_iff.1 rb).1 id).trans rb
      have MX := Lib.hid (mx wr (Keeps.refl _ _))
      have MY := Lib.hid (my Wb kab)
      have X1 := Lib.hid x1
      have X2 := Lib.hid (HZS.out.trans x2.symm)
      have X3 := Lib.hid x3
      have Y1 := Lib.hid y1
      have Y2 := Lib.hid (HZS.out.trans y2.symm)
      have Y3 := Lib.hid y3
      have XS : Hid ((Tryd.prog.info? 23).map (·.size) = some XL.length) := Lib.hid (by rw [x1, List.size_toArray])
      have YS : Hid ((Tryd.prog.info? 23).map (·.size) = some YL.length) := Lib.hid (by rw [y1, List.size_toArray])
      have RA := Lib.hid ra
      have RC := Lib.hid rc
      have RXD := Lib.hid rxd
      have RYD := Lib.hid rd
      have KD := Lib.hid (HK.out.trans kbd)
      have HXL := Lib.hid hXL
      have HYL := Lib.hid hYL
      have HEX := Lib.hid (And.intro hex hexl)
      have HEY := Lib.hid (And.intro hey heyl)
      have HBV := Lib.hid hbv
      have HBU := Lib.hid hbu
      have HSV := Lib.hid hsv
      have HTU := Lib.hid htu
      have RSD : Hid (Row Wd gs 29 (bvs (Lm.cat fs 128))) := Lib.hid ((kbd.block _ (Array.getElem?_eq_some_iff.1 rs).1 id).trans rs)
      have RTD : Hid (Row Wd gt 29 (bvs (Lm.cat ft 128))) := Lib.hid ((kbd.block _ (Array.getElem?_eq_some_iff.1 rt).1 id).trans rt)
      clear hx hy' rp rq hbv hbu hsv htu rs rt hex hey hexl heyl mx my x1 x2 x3 y1 y2 y3 hXL hYL ra rb rc rd kab kcd kbd rxd HK
      go_wp2_with (first
        | (refine wpList_load_mid (by rfl) 23 (.tmp 73) (by rfl) gs (k * 64 + v * 32) (by rfl) XL _ MX.out Tryd.underlying23 rfl XS.out ?_)
        | (refine wpList_load_mid (by rfl) 23 (.tmp 78) (by rfl) gt (k * 64 + u * 32) (by rfl) YL _ MY.out Tryd.underlying23 rfl YS.out ?_)
        | (refine wpList_store_row rfl 23 _ _ rfl gx XL.toArray rfl rfl 23 Z RA.out X1.out X2.out X3.out ?_; rw [hWb])
        | (refine wpList_store_row rfl 23 _ _ rfl gy YL.toArray rfl rfl 23 Z RC.out Y1.out Y2.out Y3.out ?_; rw [hWd]))
      clear cp cq bv1 bv2 wx wy s7 u7 l7 t7 cx0 cy0 hkd RA RC X1 X2 X3 Y1 Y2 Y3 XS YS MX MY hWa hWb hWc hWd hgx hgy
      by_cases hvu : v = u
      · subst hvu
        have h0v : fs (2 * k) = ft (2 * k) ∧ fs (2 * k + 1) = ft (2 * k + 1) := by
          have e1 := OS.out k v hlv HBV.out
          have e2 := OT.out k v hlv HBU.out
          have e3 := OSO.out k (1 - v) (by omega) (by rw [HBV.out]; omega)
          have e4 := OTO.out k (1 - v) (by omega) (by rw [HBU.out]; omega)
          have h01 : v = 0 ∨ v = 1 := by omega
          rcases h01 with h | h
          · subst h
            exact ⟨e1.trans e2.symm, e3.trans e4.symm⟩
          · subst h
            exact ⟨e3.trans e4.symm, e1.trans e2.symm⟩
        have hpl2 : (fs (2 * k) ++ fs (2 * k + 1)).length = 64 := by rw [List.length_append, HSL.out _ (by omega), HSL.out _ (by omega)]
        have mps : ∀ V, Later Wd V → V.rangeAt gs (k * 64) (bvs (fs (2 * k) ++ fs (2 * k + 1))) := fun V hV => by
          have h := sig_two ((RSD.out : Row _ _ _ _).keeps hV.out id) HSL.out hlt
          rw [show 64 * k = k * 64 by omega] at h
          exact h
        have mpt : ∀ V, Later Wd V → V.rangeAt gt (k * 64) (bvs (fs (2 * k) ++ fs (2 * k + 1))) := fun V hV => by
          have h := sig_two ((RTD.out : Row _ _ _ _).keeps hV.out id) HTL.out hlt
          rw [show 64 * k = k * 64 by omega, ← h0v.1, ← h0v.2] at h
          exact h
        obtain ⟨pl, hpl3⟩ : ∃ l, fs (2 * k) ++ fs (2 * k + 1) = l := ⟨_, rfl⟩
        rw [hpl3] at mps mpt hpl2
        have np := fun V => ne_pair pl hpl2 V
        have spl : (Tryd.prog.info? 27).map (·.size) = some (bvs pl).length := by rw [bvs_length, hpl2]; exact size_pair
        obtain ⟨PL, hPL⟩ : ∃ L, bvs pl = L := ⟨_, rfl⟩
        rw [hPL] at mps mpt np spl
        have HPS := Lib.hid mps
        have HPT := Lib.hid mpt
        have NP := Lib.hid np
        have SP := Lib.hid spl
        clear h0v hpl2 mps mpt hpl3 np spl hPL HBV HBU HSV HTU HEX HEY HXL HYL RXD RYD RSD RTD
        refine wp_region_class (Later Wd) (by kernel_rfl) (by kernel_rfl) (⟨(Keeps.refl _ _).drew⟩) ?_
        refine class_value (by rfl) (.int .i64 (v : Int)) (fun V hV => by go_simp) ?_
        simp only [Act.put, List.setIfInBounds_toArray, List.set_cons_zero, List.set_cons_succ]
        refine class_value (by rfl) (.int .i64 (v : Int)) (fun V hV => by go_simp) ?_
        simp only [Act.put, List.setIfInBounds_toArray, List.set_cons_zero, List.set_cons_succ]
        refine class_value (by rfl) (.bool true) (fun V hV => by go_simp) ?_
        simp only [Act.put, List.setIfInBounds_toArray, List.set_cons_zero, List.set_cons_succ]
        refine class_value (by rfl) (.bool true) (fun V hV => by go_simp) ?_
        simp only [Act.put, List.setIfInBounds_toArray, List.set_cons_zero, List.set_cons_succ]
        refine class_value (by rfl) (.int .i64 (k : Int)) (fun V hV => by go_simp) ?_
        simp only [Act.put, List.setIfInBounds_toArray, List.set_cons_zero, List.set_cons_succ]
        refine class_value (by rfl) (.pointer (some ⟨gs, k * 64, none⟩)) (fun V hV => by go_simp) ?_
        simp only [Act.put, List.setIfInBounds_toArray, List.set_cons_zero, List.set_cons_succ]
        refine class_mid (by rfl) 27 (.tmp 85) (by rfl) gs (k * 64) (by rfl) PL _ (fun V hV => HPS.out V hV) Tryd.underlying27 rfl SP.out ?_
        simp only [Act.put, List.setIfInBounds_toArray, List.set_cons_zero, List.set_cons_succ]
        refine class_value (by rfl) (.int .i64 (k : Int)) (fun V hV => by go_simp) ?_
        simp only [Act.put, List.setIfInBounds_toArray, List.set_cons_zero, List.set_cons_succ]
        refine class_value (by rfl) (.pointer (some ⟨gt, k * 64, none⟩)) (fun V hV => by go_simp) ?_
        simp only [Act.put, List.setIfInBounds_toArray, List.set_cons_zero, List.set_cons_succ]
        refine class_mid (by rfl) 27 (.tmp 88) (by rfl) gt (k * 64) (by rfl) PL _ (fun V hV => HPT.out V hV) Tryd.underlying27 rfl SP.out ?_
        simp only [Act.put, List.setIfInBounds_toArray, List.set_cons_zero, List.set_cons_succ]
        refine class_eq (by rfl) .neq 27 _ (.tmp 86) (.tmp 89) (by rfl) PL.toArray PL.toArray (by rfl) (by rfl) (by kernel_rfl) (.bool false) (NP.out) ?_
        simp only [Act.put, List.setIfInBounds_toArray, List.set_cons_zero, List.set_cons_succ]
        refine class_value (by rfl) (.bool false) (fun V hV => by go_simp) ?_
        simp only [Act.put, List.setIfInBounds_toArray, List.set_cons_zero, List.set_cons_succ]
        refine wpQuiet_nil ?_
        intro w5 k5
        have K5 := Lib.hid (KD.out.trans k5.out)
        clear HPS HPT NP SP k5 KD
        go_wp2_with fail
        go_quiet (fail)
        have K6 : Hid (Keeps (fun _ => False) W16 (w5.drewN nq)) := Lib.hid (K5.out.drewN nq)
        clear K5
        go_wp2
        go_roundw
        case rel => exact ⟨k + 1, by omega, by go_num, K6⟩
        case measure => simp [intOf]; omega
      · have hvi2 : ((v : Int) == (u : Int)) = false := by simp; omega
        have hvd : decide ((v : Int) = (u : Int)) = false := by simp; omega
        have hvn : ¬ (v : Int) = (u : Int) := by omega
        refine wp_region_class (Later Wd) (by kernel_rfl) (by kernel_rfl) (⟨(Keeps.refl _ _).drew⟩) ?_
        refine class_value (by rfl) (.int .i64 (v : Int)) (fun V hV => by go_simp) ?_
        simp only [Act.put, List.setIfInBounds_toArray, List.set_cons_zero, List.set_cons_succ]
        refine class_value (by rfl) (.int .i64 (u : Int)) (fun V hV => by go_simp) ?_
        simp only [Act.put, List.setIfInBounds_toArray, List.set_cons_zero, List.set_cons_succ]
        refine class_value (by rfl) (.bool false) (fun V hV => by go_simp) ?_
        simp only [Act.put, List.setIfInBounds_toArray, List.set_cons_zero, List.set_cons_succ]
        refine class_value (by rfl) (.bool false) (fun V hV => by go_simp) ?_
        simp only [Act.put, List.setIfInBounds_toArray, List.set_cons_zero, List.set_cons_succ]
        go_big_quiet_skip
        go_big_quiet_skip
        go_big_quiet_skip
        go_big_quiet_skip
        go_big_quiet_skip
        go_big_quiet_skip
        go_big_quiet_skip
        refine class_value (by rfl) (.bool false) (fun V hV => by go_simp) ?_
        simp only [Act.put, List.setIfInBounds_toArray, List.set_cons_zero, List.set_cons_succ]
        refine wpQuiet_nil ?_
        intro w5 k5
        have k5o := k5.out
        clear k5
        have e2 := OTO.out k v hlv (by rw [HBU.out]; exact hvu)
        have e3 := OSO.out k u hlu (by rw [HBV.out]; exact fun e => hvu e.symm)
        rw [HEX.out.1] at e2
        rw [HEY.out.1] at e3
        have mtx : ∀ V, Later w5 V → V.rangeAt gt (k * 64 + v * 32) (bvs (Lm.opn ex)) := fun V hV => by
          have h := sig_at ((RTD.out : Row _ _ _ _).keeps (k5o.trans hV.out) id) HTL.out (show 2 * k + v < 128 by omega)
          rw [e2, show 32 * (2 * k + v) = k * 64 + v * 32 by omega] at h
          exact h
        have msy : ∀ V, Later w5 V → V.rangeAt gs (k * 64 + u * 32) (bvs (Lm.opn ey)) := fun V hV => by
          have h := sig_at ((RSD.out : Row _ _ _ _).keeps (k5o.trans hV.out) id) HSL.out (show 2 * k + u < 128 by omega)
          rw [e3, show 32 * (2 * k + u) = k * 64 + u * 32 by omega] at h
          exact h
        have rx5 : w5.heap[gx]? = some (.cells XL.toArray 23 (0, 0)) := (k5o.block _ (Array.getElem?_eq_some_iff.1 RXD.out).1 id).trans RXD.out
        have ry5 : w5.heap[gy]? = some (.cells YL.toArray 23 (0, 0)) := (k5o.block _ (Array.getElem?_eq_some_iff.1 RYD.out).1 id).trans RYD.out
        have hw5 : Keeps (fun _ => False) W w5 := (K16.out.trans KD.out).trans k5o
        have hox : ∀ ga V, Later w5 V → Made w5 24 #[.slice (some ⟨gx, 0, none⟩) 32 32] (.slice (some ⟨ga, 0, none⟩) 1 1) V → Calls Tryd.prog 16 #[.slice (some ⟨ga, 0, none⟩) 1 1] V fun e w' => e = .returned (.agg (bvs (Lm.opn ex)).toArray) ∧ Keeps (fun _ => False) V w' := fun ga V hV hM =>
          of_made (xs := ex) (HT.out.keeps (hw5.trans hV.out) id id) hM (by rw [HXL.out]; exact (src_block rx5).keeps hV.out (fun _ _ _ => id)) HEX.out.2 (Nat.le_refl _) (by omega) (by omega)
        have hoy : ∀ ga V, Later w5 V → Made w5 24 #[.slice (some ⟨gy, 0, none⟩) 32 32] (.slice (some ⟨ga, 0, none⟩) 1 1) V → Calls Tryd.prog 16 #[.slice (some ⟨ga, 0, none⟩) 1 1] V fun e w' => e = .returned (.agg (bvs (Lm.opn ey)).toArray) ∧ Keeps (fun _ => False) V w' := fun ga V hV hM =>
          of_made (xs := ey) (HT.out.keeps (hw5.trans hV.out) id id) hM (by rw [HYL.out]; exact (src_block ry5).keeps hV.out (fun _ _ _ => id)) HEY.out.2 (Nat.le_refl _) (by omega) (by omega)
        have hbx : ∀ V : World, (Instr.buildSlice 54 1 #[(0, .slice (some ⟨gx, 0, none⟩) 32 32)]).run Tryd.prog V = .ok (.slice (some ⟨V.heap.size, 0, none⟩) 1 1) (V.alloc (.cells #[.slice (some ⟨gx, 0, none⟩) 32 32] 24)) := fun _ => by kernel_rfl
        have hby : ∀ V : World, (Instr.buildSlice 54 1 #[(0, .slice (some ⟨gy, 0, none⟩) 32 32)]).run Tryd.prog V = .ok (.slice (some ⟨V.heap.size, 0, none⟩) 1 1) (V.alloc (.cells #[.slice (some ⟨gy, 0, none⟩) 32 32] 24)) := fun _ => by kernel_rfl
        have nx := fun V => ne_hash (Lm.opn ex) (Lm.opn ex) (Lm.opn_length _) (Lm.opn_length _) V
        have ny := fun V => ne_hash (Lm.opn ey) (Lm.opn ey) (Lm.opn_length _) (Lm.opn_length _) V
        simp only [bne_self_eq_false] at nx ny
        have sxo : (Tryd.prog.info? 23).map (·.size) = some (bvs (Lm.opn ex)).length := by rw [bvs_length, Lm.opn_length]; exact size_hash'
        have syo : (Tryd.prog.info? 23).map (·.size) = some (bvs (Lm.opn ey)).length := by rw [bvs_length, Lm.opn_length]; exact size_hash'
        obtain ⟨XO, hXO⟩ : ∃ L, bvs (Lm.opn ex) = L := ⟨_, rfl⟩
        obtain ⟨YO, hYO⟩ : ∃ L, bvs (Lm.opn ey) = L := ⟨_, rfl⟩
        rw [hXO] at mtx hox nx sxo
        rw [hYO] at msy hoy ny syo
        have HTX := Lib.hid mtx
        have HSY := Lib.hid msy
        have HOX := Lib.hid hox
        have HOY := Lib.hid hoy
        have HBX := Lib.hid hbx
        have HBY := Lib.hid hby
        have NX := Lib.hid nx
        have NY := Lib.hid ny
        have SXO := Lib.hid sxo
        have SYO := Lib.hid syo
        have K5 := Lib.hid (KD.out.trans k5o)
        clear mtx msy hox hoy hbx hby nx ny sxo syo hXO hYO rx5 ry5 hw5 e2 e3 k5o KD HBV HBU HSV HTU HEX HEY HXL HYL RXD RYD RSD RTD
        go_wp2_with fail
        refine wp_region_loose [5, 15] [0, 1, 2, 3, 4, 7, 8, 9, 10, 11, 5, 6, 12, 13, 14, 17, 18, 19, 20, 21, 15, 16, 22, 23, 24] (by kernel_rfl) (by kernel_rfl) ?_
        refine R_value (get_op rfl) (by rfl) (by rfl) (.int .i64 (v : Int)) (fun _ _ => by go_simp) ?_
        simp only [Act.put, List.setIfInBounds_toArray, List.set_cons_zero, List.set_cons_succ]
        refine R_value (get_op rfl) (by rfl) (by rfl) (.int .i64 (u : Int)) (fun _ _ => by go_simp) ?_
        simp only [Act.put, List.setIfInBounds_toArray, List.set_cons_zero, List.set_cons_succ]
        refine R_value (get_op rfl) (by rfl) (by rfl) (.bool true) (fun _ _ => by go_simp) ?_
        simp only [Act.put, List.setIfInBounds_toArray, List.set_cons_zero, List.set_cons_succ]
        refine R_value (get_op rfl) (by rfl) (by rfl) (.bool true) (fun _ _ => by go_simp) ?_
        simp only [Act.put, List.setIfInBounds_toArray, List.set_cons_zero, List.set_cons_succ]
        refine R_value (get_op rfl) (by rfl) (by rfl) (.slice (some ⟨gx, 0, none⟩) 32 32) (fun _ _ => by go_simp) ?_
        simp only [Act.put, List.setIfInBounds_toArray, List.set_cons_zero, List.set_cons_succ]
        refine R_value (get_op rfl) (by rfl) (by rfl) (.int .i64 (k : Int)) (fun _ _ => by go_simp) ?_
        simp only [Act.put, List.setIfInBounds_toArray, List.set_cons_zero, List.set_cons_succ]
        refine R_value (get_op rfl) (by rfl) (by rfl) (.int .i64 (v : Int)) (fun _ _ => by go_simp) ?_
        simp only [Act.put, List.setIfInBounds_toArray, List.set_cons_zero, List.set_cons_succ]
        refine R_value (get_op rfl) (by rfl) (by rfl) (.pointer (some ⟨gt, k * 64, none⟩)) (fun _ _ => by go_simp) ?_
        simp only [Act.put, List.setIfInBounds_toArray, List.set_cons_zero, List.set_cons_succ]
        refine R_value (get_op rfl) (by rfl) (by rfl) (.pointer (some ⟨gt, k * 64 + v * 32, none⟩)) (fun _ _ => by go_simp) ?_
        simp only [Act.put, List.setIfInBounds_toArray, List.set_cons_zero, List.set_cons_succ]
        refine R_load (get_op rfl) (by rfl) (by rfl) 23 (.tmp 102) (by rfl) gt (k * 64 + v * 32) (by rfl) XO _ (fun V hV => HTX.out V hV) Tryd.underlying23 rfl SXO.out ?_
        simp only [Act.put, List.setIfInBounds_toArray, List.set_cons_zero, List.set_cons_succ]
        refine R_loose (get_op rfl) (by rfl) (by rfl) _ _ (loose_build 54 24 (.tmp 96) (.slice (some ⟨gx, 0, none⟩) 32 32) (by rfl) (by rfl) (fun V hV => hV) HBX.out) ?_
        rintro _ ⟨ga, rfl⟩
        simp only [Act.put, List.setIfInBounds_toArray, List.set_cons_zero, List.set_cons_succ]
        refine R_call (get_op rfl) (by rfl) (by rfl) _ _ (.agg XO.toArray) (fun _ => by go_simp) (fun V hV => HOX.out ga V hV.1 hV.2) ?_
        simp only [Act.put, List.setIfInBounds_toArray, List.set_cons_zero, List.set_cons_succ]
        refine R_eq (get_op rfl) (by rfl) (by rfl) .neq 23 _ (.tmp 98) (.tmp 103) (by rfl) XO.toArray XO.toArray (by rfl) (by rfl) (by kernel_rfl) (.bool false) (NX.out) ?_
        simp only [Act.put, List.setIfInBounds_toArray, List.set_cons_zero, List.set_cons_succ]
        refine R_value (get_op rfl) (by rfl) (by rfl) (.bool false) (fun _ _ => by go_simp) ?_
        simp only [Act.put, List.setIfInBounds_toArray, List.set_cons_zero, List.set_cons_succ]
        refine R_value (get_op rfl) (by rfl) (by rfl) (.slice (some ⟨gy, 0, none⟩) 32 32) (fun _ _ => by go_simp) ?_
        simp only [Act.put, List.setIfInBounds_toArray, List.set_cons_zero, List.set_cons_succ]
        refine R_value (get_op rfl) (by rfl) (by rfl) (.int .i64 (k : Int)) (fun _ _ => by go_simp) ?_
        simp only [Act.put, List.setIfInBounds_toArray, List.set_cons_zero, List.set_cons_succ]
        refine R_value (get_op rfl) (by rfl) (by rfl) (.int .i64 (u : Int)) (fun _ _ => by go_simp) ?_
        simp only [Act.put, List.setIfInBounds_toArray, List.set_cons_zero, List.set_cons_succ]
        refine R_value (get_op rfl) (by rfl) (by rfl) (.pointer (some ⟨gs, k * 64, none⟩)) (fun _ _ => by go_simp) ?_
        simp only [Act.put, List.setIfInBounds_toArray, List.set_cons_zero, List.set_cons_succ]
        refine R_value (get_op rfl) (by rfl) (by rfl) (.pointer (some ⟨gs, k * 64 + u * 32, none⟩)) (fun _ _ => by go_simp) ?_
        simp only [Act.put, List.setIfInBounds_toArray, List.set_cons_zero, List.set_cons_succ]
        refine R_load (get_op rfl) (by rfl) (by rfl) 23 (.tmp 112) (by rfl) gs (k * 64 + u * 32) (by rfl) YO _ (fun V hV => HSY.out V hV.1) Tryd.underlying23 rfl SYO.out ?_
        simp only [Act.put, List.setIfInBounds_toArray, List.set_cons_zero, List.set_cons_succ]
        refine R_loose (get_op rfl) (by rfl) (by rfl) _ _ (loose_build 54 24 (.tmp 106) (.slice (some ⟨gy, 0, none⟩) 32 32) (by rfl) (by rfl) (fun V hV => hV.1) HBY.out) ?_
        rintro _ ⟨gb, rfl⟩
        simp only [Act.put, List.setIfInBounds_toArray, List.set_cons_zero, List.set_cons_succ]
        refine R_call (get_op rfl) (by rfl) (by rfl) _ _ (.agg YO.toArray) (fun _ => by go_simp) (fun V hV => HOY.out gb V hV.1.1 hV.2) ?_
        simp only [Act.put, List.setIfInBounds_toArray, List.set_cons_zero, List.set_cons_succ]
        refine R_eq (get_op rfl) (by rfl) (by rfl) .neq 23 _ (.tmp 108) (.tmp 113) (by rfl) YO.toArray YO.toArray (by rfl) (by rfl) (by kernel_rfl) (.bool false) (NY.out) ?_
        simp only [Act.put, List.setIfInBounds_toArray, List.set_cons_zero, List.set_cons_succ]
        refine R_value (get_op rfl) (by rfl) (by rfl) (.bool false) (fun _ _ => by go_simp) ?_
        simp only [Act.put, List.setIfInBounds_toArray, List.set_cons_zero, List.set_cons_succ]
        refine R_value (get_op rfl) (by rfl) (by rfl) (.bool false) (fun _ _ => by go_simp) ?_
        simp only [Act.put, List.setIfInBounds_toArray, List.set_cons_zero, List.set_cons_succ]
        refine R_nil ?_
        rintro w6 hw6
        have k6 := hw6.1.1.out
        have K6 := Lib.hid (K5.out.trans k6)
        clear k6 hw6 K5 HTX HSY HOX HOY HBX HBY NX NY SXO SYO hvi2 hvd hvn
        go_wp2
        go_roundw
        case rel => exact ⟨k + 1, by omega, by go_num, K6⟩
        case measure => simp [intOf]; omega
    · obtain rfl : k = 64 := by omega
      have KF := Lib.hid (K16.out.trans HK.out)
      clear HK RS RT RP RQ
      go_wp2
      go_ret
      exact ⟨rfl, (KF.out).below (Nat.le_refl _) (fun _ _ => id)⟩
theorem lhalves_walk (sd : List UInt8) (i : Int) (A : Option Addr) (len c : Nat) (zs : List Int) (B : Option Addr) (len2 d : Nat) (zs2 : List Int) (W : World) (hT : Tabs W) (hs : sd.length = 32) (hi : (Lit.int .i64 i).wf = true) (h0 : IsRowU .u8 W A len c zs) (h1 : IsRowU .u8 W B len2 d zs2) :
    Calls Tryd.prog 5 #[.agg (bvs sd).toArray, .int .i64 i, .slice A len c, .slice B len2 d] W fun e W' => e = .returned (.bool true) ∧ Below W.heap.size W W' := by
  obtain ⟨xs, rfl, hsrc, hcap, hmax⟩ := h0.src
  obtain ⟨ys, rfl, hsrc2, hcap2, hmax2⟩ := h1.src
  by_cases hlen : 100 < xs.length ∨ 100 < ys.length
  · exact lhalves_long sd i A xs.length c B ys.length d W hT hs hlen (by omega) (by omega)
  · exact lhalves_short sd i A c xs B d ys W hT hs hsrc (by omega) hcap hmax hsrc2 (by omega) hcap2 hmax2
end Go.Proofs.YtgbajlmcoghofaaDoor
