/-
  The statement GossipPlays, for every input, out of the contracts.
-/
import Derived.Test.YtmhbfchhooggjaaGoS
import Derived.Test.YtmhbfchhooggjaaGoQ
namespace Go.Proofs.Ytmhbfchhooggjaa
open Go.RowKit Go.BigFrame Go.Deep
set_option linter.unusedVariables false
set_option linter.unusedSimpArgs false

theorem build_h_none (V : World) : (Instr.build 36 #[]).run Try.prog V = .ok (.agg (bvs (List.replicate 32 0)).toArray) V := by kernel_rfl
variable {At : World → (Nat → Prop) → Nat → Gp.G → Prop}
set_option maxRecDepth 100000 in
set_option maxHeartbeats 8000000 in
theorem plays21_on (C : Goss At) (AW : Awake21) (me many fan : Nat) (s : BitVec 64) (A : Option Addr) (len c : Nat) (xs : List ActOf) (W : World) (hin : Gp.In me many fan) (hA : IsActs W A len c xs) :
    Calls Try.prog 3 #[.int .i64 (me : Int), .int .i64 (many : Int), .int .i64 (fan : Int), .int .u64 (di s), .slice A len c] W fun e w' => e = .returned (.bool true) ∧ Keeps (fun _ => False) W w' := by
  have HAW := Lib.hid (AW W)
  have hcm := hA.max
  have hcl := hA.le
  have HAA := Lib.hid hA
  have CC := Lib.hid C
  have HIN := Lib.hid hin
  obtain ⟨Z, hZ⟩ : ∃ Z, gz = Z := ⟨_, rfl⟩
  have hz : ∀ V : World, (zeroValue 31).run Try.prog V = .ok (.agg Z) V := fun V => by rw [← hZ]; exact zero_g21 V
  have HZZ := Lib.hid hZ
  obtain ⟨ZA, hZA⟩ : ∃ Z, (ActOf.cells ⟨0, none, 0, [], List.replicate 32 0, 0⟩).toArray = Z := ⟨_, rfl⟩
  have hza : ∀ V : World, (zeroValue 38).run Try.prog V = .ok (.agg ZA) V := fun V => by rw [← hZA]; exact zero_act V
  have HZA : Hid (ZA.size = 35) := Lib.hid (by rw [← hZA]; rfl)
  obtain ⟨ZH, hZH⟩ : ∃ Z, (bvs (List.replicate 32 0)).toArray = Z := ⟨_, rfl⟩
  have HBZ : Hid (∀ V : World, (Instr.build 36 #[]).run Try.prog V = .ok (.agg ZH) V) := Lib.hid (fun V => by rw [← hZH]; exact build_h_none V)
  have SZ : Hid ((Try.prog.info? 31).map (·.size) = some Z.size) := Lib.hid (by rw [← hZ]; exact size_g21)
  obtain ⟨T0, hT0⟩ : ∃ T, (gcs ⟨me, many, fan, s, []⟩ (.slice none 0 0)).toArray = T := ⟨_, rfl⟩
  have S0 : Hid ((Try.prog.info? 31).map (·.size) = some T0.size) := Lib.hid (by rw [← hT0]; exact size_g21)
  have SZ0 : Hid (Z.size = T0.size) := Lib.hid (by rw [← hZ, ← hT0]; rfl)
  have O0 : Hid (T0.all (·.oneCell') = true) := Lib.hid (by rw [← hT0]; exact gcs_one _ _ _ _)
  have hrn := fun V => rnew21_on me many fan s V hin
  rw [hT0] at hrn
  have HRN := Lib.hid hrn
  have HT0 := Lib.hid hT0
  clear C AW hZ hZA hT0 hrn hin hA
  go_enter Try.func3, Try.ntmps3
  go_wp2_with fail
  refine HAW.out.mono ?_
  rintro e w1 ⟨rfl, k1⟩
  have K1 := Lib.hid k1
  clear k1 HAW
  go_wp2_with fail
  refine (CC.out.new_on w1 me many fan s HIN.out).mono ?_
  rintro e w2 ⟨g, F, rfl, a2, hF, k2⟩
  have A2 := Lib.hid a2
  have HF2 : Hid (∀ j, F j → W.heap.size ≤ j) := Lib.hid (fun j hj => by have := hF j hj; have := K1.out.size; omega)
  have K2 := Lib.hid (K1.out.trans k2)
  clear a2 hF k2
  go_wp2_with fail
  refine (HRN.out w2).mono ?_
  rintro e w3 ⟨rfl, k3⟩
  obtain ⟨b, hb⟩ : ∃ x, w3.heap.size = x := ⟨_, rfl⟩
  obtain ⟨W4, hW4⟩ : ∃ V, w3.alloc (.cells Z 31) = V := ⟨_, rfl⟩
  have k4 : Keeps (fun _ => False) w3 W4 := by rw [← hW4]; exact (Keeps.refl _ _).alloc _
  have r4 : W4.heap[b]? = some (.cells Z 31 (0, 0)) := by rw [← hW4, ← hb]; exact heap_alloc_new w3 _
  obtain ⟨W5, hW5⟩ : ∃ V, W4.setRow b T0 = V := ⟨_, rfl⟩
  have r5 : Row W5 b 31 (gcs ⟨me, many, fan, s, []⟩ (.slice none 0 0)) := by
    have h : W5.heap[b]? = some (.cells T0 31 (0, 0)) := by rw [← hW5]; exact setRow_heap _ _ _ _ _ _ r4
    rw [← HT0.out] at h
    exact h
  have k5 : Keeps (fun j => j = b) w3 W5 := (k4.mono (fun _ _ h => h.elim)).trans (by rw [← hW5]; exact Keeps.setRow _ _)
  have hwb : W.heap.size ≤ b := by have := K2.out.size; have := k3.size; omega
  have R4 := Lib.hid r4
  have K5 : Hid (Keeps (fun _ => False) W W5) := Lib.hid ((K2.out.trans k3).trans' k5 (fun j hj e => by omega))
  have HFb : ¬ F b := fun hj => by have := CC.out.lt A2.out b hj; have := k3.size; omega
  have B6 : Hid (Pl At W W5 F g b ⟨me, many, fan, s, []⟩ ⟨me, many, fan, s, []⟩ none 0) := Lib.hid ⟨CC.out.keeps (CC.out.keeps A2.out k3 (fun _ e => e.elim)) k5 (fun j e hj => HFb (by have e' : j = b := e; rw [← e']; exact hj)), r5, World.ownsRow_nil _ _ _ _, HF2.out, HFb, (fun j hj => by cases hj), hwb, K5.out⟩
  clear k3 k4 k5 r4 r5 hwb HFb
  go_wp2_with (first
    | (refine wpList_store_row (by rfl) 31 _ _ (by rfl) b T0 (by rfl) (by rfl) 31 Z R4.out S0.out SZ0.out O0.out ?_; rw [hW5])
    | fail)
  clear hW5 hW4 hb
  go_loopw [16, 17, 18, 19, 20, 21, 22, 23] (fun iv _ _ _ _ _ _ _ wr => ∃ (i : Nat) (F' : Nat → Prop) (t : Gp.G) (A' : Option Addr) (c' : Nat), i ≤ len ∧ i ≤ 60 ∧ iv = .int .i64 (i : Int) ∧ Hid (t.told.length ≤ i) ∧ Hid (Pl At W wr F' g b t t A' c')) (fun iv _ _ _ _ _ _ _ _ => 60 - (intOf iv).toNat)
  case atStart => exact ⟨0, F, ⟨me, many, fan, s, []⟩, none, 0, by omega, by omega, rfl, Lib.hid (Nat.le_refl _), B6⟩
  case round =>
    obtain ⟨i, F', t, A', c', hi, hi60, rfl, HL, HB⟩ := hrel
    by_cases hlt : i < len ∧ i < 60
    · have hii : (i : Int) < (len : Int) := by omega
      have hi8 : (i : Int) < 60 := by omega
      obtain ⟨⟨xk, xA, xC, xl, xid, xf⟩, hx⟩ : ∃ a, xs[i]? = some a := ⟨_, List.getElem?_eq_getElem (by have := HAA.out.many; omega)⟩
      obtain ⟨ad, rfl, hcs, hok⟩ := HAA.out.at_ i _ hx
      have hcw : ∀ j v, (ActOf.cells ⟨xk, xA, xC, xl, xid, xf⟩)[j]? = some v → wr.cell? ((ad.add (i * 35)).add j) = some v := fun j v hv => by
        rw [add_add]
        exact (HB.out.keeps.cell (World.block_lt_of_cell? _ _ (hcs j v hv)) id).trans (hcs j v hv)
      have hyl := ActOf.cells_length hok.id
      have hy1 := ActOf.cells_one ⟨xk, xA, xC, xl, xid, xf⟩
      have hpt := fun (V : World) (h : V.rangeAt wr.heap.size 0 (ActOf.cells ⟨xk, xA, xC, xl, xid, xf⟩)) => act_parts hok.id h
      have HOKX : Hid (ActOf.Ok W ⟨xk, xA, xC, xl, xid, xf⟩) := Lib.hid hok
      obtain ⟨kn, hkn⟩ : ∃ k : Nat, xk = (k : Int) := ⟨xk.toNat, by have := bounds_u8 hok.k; simp only at this; omega⟩
      have hkn256 : kn < 256 := by have := bounds_u8 hok.k; simp only at this; omega
      subst hkn
      simp only at hpt
      obtain ⟨YA, hYA⟩ : ∃ L, ActOf.cells ⟨(kn : Int), xA, xC, xl, xid, xf⟩ = L := ⟨_, rfl⟩
      obtain ⟨YL, hYL⟩ : ∃ L, bvs xid = L := ⟨_, rfl⟩
      obtain ⟨xn, hxn⟩ : ∃ n, xl.length = n := ⟨_, rfl⟩
      obtain ⟨bk, hbk⟩ : ∃ x, wr.heap.size = x := ⟨_, rfl⟩
      rw [hYA, hbk, hYL, hxn] at hpt
      rw [hYA] at hcw hyl hy1
      have HPT := Lib.hid hpt
      have HYA := Lib.hid hcw
      have HYE : Hid (bvs xid = YL) := Lib.hid hYL
      have HXN : Hid (xl.length = xn) := Lib.hid hxn
      have SYA : Hid ((Try.prog.info? 38).map (·.size) = some YA.length) := Lib.hid (by rw [hyl]; exact size_act)
      have SYB : Hid ((Try.prog.info? 38).map (·.size) = some YA.toArray.size) := Lib.hid (by rw [List.size_toArray, hyl]; exact size_act)
      have SZK : Hid (ZA.size = YA.toArray.size) := Lib.hid (by rw [HZA.out, List.size_toArray, hyl])
      have OYA : Hid (YA.toArray.all (·.oneCell') = true) := Lib.hid (by rw [Array.all_eq_true_iff_forall_mem]; intro v hv; exact hy1 v (by simpa using hv))
      have SYL : Hid ((Try.prog.info? 36).map (·.size) = some YL.length) := Lib.hid (by rw [← hYL, bvs_length, show xid.length = 32 from hok.id]; exact info_h)
      obtain ⟨X1, hX1⟩ : ∃ V, wr.alloc (.cells ZA 38) = V := ⟨_, rfl⟩
      have kx1 : Keeps (fun _ => False) wr X1 := by rw [← hX1]; exact (Keeps.refl _ _).alloc _
      have rx1 : X1.heap[bk]? = some (.cells ZA 38 (0, 0)) := by rw [← hX1, ← hbk]; exact heap_alloc_new wr _
      obtain ⟨X2, hX2⟩ : ∃ V, X1.setRow bk YA.toArray = V := ⟨_, rfl⟩
      have rx2 : Row X2 bk 38 YA := by rw [← hX2]; exact setRow_heap _ _ _ _ _ _ rx1
      have kx2 : Keeps (fun _ => False) wr X2 := kx1.trans' (T := fun j => j = bk) (by rw [← hX2]; exact Keeps.setRow _ _) (fun j hj e => by omega)
      have RX1 := Lib.hid rx1
      have RX2 := Lib.hid rx2
      have HBX := Lib.hid (HB.out.later CC.out kx2)
      have hp2 := hpt X2 (range_row21 rx2)
      have hc0 := hp2.1
      have hc1 := hp2.2.1
      have hc34 := hp2.2.2.2
      have HY2 := Lib.hid hp2.2.2.1
      have HBK := Lib.hid (show b < bk from by have := HB.out.box.lt; omega)
      have hlt7 : ∀ V, Keeps (fun _ => False) W V → Src V xA (ivs xl) := fun V hV => hok.src.keeps hV (fun _ _ _ => id)
      clear hx hcs hok hcw hyl hy1 hpt hYA hYL hxn kx1 rx1 rx2 kx2 hp2
      by_cases h100 : 100 < xn
      · have h100i : (100 : Int) < (xn : Int) := by omega
        go_wp2_with (first
          | (refine wpList_load_any19 (by rfl) 38 (.tmp 70) (by rfl) (ad.add (i * 35)) (by rfl) YA _ HYA.out Try.underlying38 rfl SYA.out ?_)
          | (refine wpList_store_row (by rfl) 38 _ _ (by rfl) bk YA.toArray (by rfl) (by rfl) 38 ZA RX1.out SYB.out SZK.out OYA.out ?_; rw [hX2])
          | (refine wpList_load_mid (by rfl) 36 _ (by rfl) bk 2 (by rfl) YL _ HY2.out Try.underlying36 rfl SYL.out ?_)
          | fail)
        go_ret
        exact ⟨rfl, HBX.out.keeps⟩
      · have h100i : ¬ (100 : Int) < (xn : Int) := by omega
        have hxn100 : xn ≤ 100 := by omega
        have hnf : ∀ ad, xA = some ad → 0 < xn → ¬ F' ad.block := fun ad e hp h => by
          have h1 := src_lt HOKX.out.src HXN.out ad e hp
          have h2 := HB.out.ge _ h
          omega
        have hand := and_one21 kn hkn256
        have hr : kn % 2 = 0 ∨ kn % 2 = 1 := by omega
        rcases hr with hr | hr
        · rw [hr] at hand
          have hand0 : bits .and .u8 (kn : Int) 1 = 0 := hand
          have hrd := CC.out.round xA xn xC xl HBX.out.at_ (hlt7 X2 HBX.out.keeps) HXN.out (by have h1 : xl.length ≤ xC := HOKX.out.le; have h2 := HXN.out; omega) HOKX.out.max HOKX.out.nil hnf (by omega)
          obtain ⟨t9, ht9⟩ : ∃ y, (Gp.round t xl).1 = y := ⟨_, rfl⟩
          obtain ⟨os, hos⟩ : ∃ y, (Gp.round t xl).2 = y := ⟨_, rfl⟩
          obtain ⟨m9, hm9⟩ : ∃ y, os.length = y := ⟨_, rfl⟩
          rw [ht9, hos, hm9] at hrd
          have HNM : Hid ((Gp.round t xl).1 = t9 ∧ (Gp.round t xl).2 = os ∧ os.length = m9) := Lib.hid ⟨ht9, hos, hm9⟩
          clear ht9 hos hm9
          have HRD := Lib.hid hrd
          clear hrd hr hand hlt7 hnf hc34
          go_wp2_with (first
            | (refine wpList_load_any19 (by rfl) 38 (.tmp 70) (by rfl) (ad.add (i * 35)) (by rfl) YA _ HYA.out Try.underlying38 rfl SYA.out ?_)
            | (refine wpList_store_row (by rfl) 38 _ _ (by rfl) bk YA.toArray (by rfl) (by rfl) 38 ZA RX1.out SYB.out SZK.out OYA.out ?_; rw [hX2])
            | (refine wpList_load_mid (by rfl) 36 _ (by rfl) bk 2 (by rfl) YL _ HY2.out Try.underlying36 rfl SYL.out ?_)
            | fail)
          refine HRD.out.mono ?_
          rintro e w7 ⟨F7, A7, c7, rfl, a7, o7, hF7, hA7, k7⟩
          clear hc0 hc1
          obtain ⟨ht9, hos, hm9⟩ := HNM.out
          have P7 := Lib.hid (HBX.out.prog CC.out k7 a7 hF7)
          have RK7 : Hid (Row w7 bk 38 YA) := Lib.hid (RX2.out.keeps k7 (fun h => by have := CC.out.lt HB.out.at_ bk h; omega))
          obtain ⟨TL, hTL⟩ : ∃ L, gcs t (.slice A' t.told.length c') = L := ⟨_, rfl⟩
          have HTL := Lib.hid hTL
          have RT7 : Hid (w7.heap[b]? = some (.cells TL.toArray 31 (0, 0))) := Lib.hid (by rw [← hTL]; exact P7.out.box)
          have STL : Hid ((Try.prog.info? 31).map (·.size) = some TL.toArray.size) := Lib.hid (by rw [← hTL]; exact size_g21)
          have hp7 := HPT.out w7 (range_row21 RK7.out)
          have hc7 := hp7.2.1
          have hf7 := hp7.2.2.2
          have HY7 := Lib.hid hp7.2.2.1
          have hS7 := HOKX.out.src.keeps P7.out.keeps (fun _ _ _ => id)
          have hrf := rround_any w7 t A' t.told.length c' xA xC xl (CC.out.ok HBX.out.at_) hS7 HOKX.out.le HOKX.out.max (by have := HXN.out; omega)
          rw [hTL, ht9, hos, hm9, HXN.out] at hrf
          have htl : t9.told.length ≤ i + 1 := by rw [← ht9]; show t.told.length ≤ i + 1; have := HL.out; omega
          have hm1000 : m9 ≤ 1000 := by
            rw [← hm9, ← hos, Gp.round_length]
            have := Gp.oth_le t xl (-1)
            have := HXN.out
            omega
          have HO7 := Lib.hid o7
          have HMO := Lib.hid (And.intro hm9 (And.intro htl hm1000))
          have HT9 := Lib.hid ht9
          have HRF := Lib.hid hrf
          clear a7 o7 hF7 k7 hTL hp7 hS7 hrf ht9 hos hm9 htl hm1000
          go_wp2_with (first
            | (refine wpList_load_row (by rfl) 31 _ (by rfl) b (by rfl) 31 TL.toArray (0, 0) _ RT7.out Try.underlying31 rfl STL.out ?_)
            | (refine wpList_load_mid (by rfl) 36 _ (by rfl) bk 2 (by rfl) YL _ HY7.out Try.underlying36 rfl SYL.out ?_)
            | fail)
          refine HRF.out.mono ?_
          rintro e w8 ⟨A8, c8, rfl, o8, k8⟩
          obtain ⟨A9, c9, h9A, h9c⟩ : ∃ A c, A = A' ∧ c = c' := ⟨A', c', rfl, rfl⟩
          have e9 : t9.told = t.told := by rw [← HT9.out]; rfl
          have hto : Told w8 W.heap.size A9 t9.told.length c9 t9.told := by rw [e9, h9A, h9c]; exact k8.owns P7.out.told (fun _ _ => id)
          have hdj : A9 = A' ∨ Told w8 w7.heap.size A9 t9.told.length c9 t9.told := .inl h9A
          rw [show gcs t9 (.slice A' t.told.length c') = gcs t9 (.slice A9 t9.told.length c9) by rw [e9, h9A, h9c]]
          clear h9A h9c e9
          obtain ⟨T9, hT9⟩ : ∃ L, gcs t9 (.slice A9 t9.told.length c9) = L := ⟨_, rfl⟩
          rw [hT9]
          have ST9 : Hid ((Try.prog.info? 31).map (·.size) = some T9.toArray.size) := Lib.hid (by rw [← hT9]; exact size_g21)
          have SL9 : Hid ((Try.prog.info? 31).map (·.size) = some T9.length) := Lib.hid (by rw [← hT9]; exact size_g21)
          have SZ9 : Hid (Z.size = T9.toArray.size) := Lib.hid (by rw [← hT9, ← HZZ.out]; rfl)
          have SLT : Hid (TL.toArray.size = T9.toArray.size) := Lib.hid (by rw [← hT9, ← HTL.out]; rfl)
          have O9 : Hid (T9.toArray.all (·.oneCell') = true) := Lib.hid (by rw [← hT9]; exact gcs_one _ _ _ _)
          obtain ⟨n1, hn1⟩ : ∃ x, w8.heap.size = x := ⟨_, rfl⟩
          obtain ⟨V1, hV1⟩ : ∃ V, w8.alloc (.cells Z 31) = V := ⟨_, rfl⟩
          have kv1 : Keeps (fun _ => False) w8 V1 := by rw [← hV1]; exact (Keeps.refl _ _).alloc _
          have rv1 : V1.heap[n1]? = some (.cells Z 31 (0, 0)) := by rw [← hV1, ← hn1]; exact heap_alloc_new w8 _
          obtain ⟨V2, hV2⟩ : ∃ V, V1.setRow n1 T9.toArray = V := ⟨_, rfl⟩
          have rv2 : V2.heap[n1]? = some (.cells T9.toArray 31 (0, 0)) := by rw [← hV2]; exact setRow_heap _ _ _ _ _ _ rv1
          have k82 : Keeps (fun _ => False) w8 V2 := kv1.trans' (T := fun j => j = n1) (by rw [← hV2]; exact Keeps.setRow _ _) (fun j hj e => by omega)
          have kv2 : Keeps (fun _ => False) w7 V2 := k8.trans k82
          have rb2 := (kv2.block b (Array.getElem?_eq_some_iff.1 RT7.out).1 id).trans RT7.out
          obtain ⟨V3, hV3⟩ : ∃ V, V2.setRow b T9.toArray = V := ⟨_, rfl⟩
          have rb3 : V3.heap[b]? = some (.cells T9.toArray 31 (0, 0)) := by rw [← hV3]; exact setRow_heap _ _ _ _ _ _ rb2
          have kb3 : Keeps (fun j => j = b) V2 V3 := by rw [← hV3]; exact Keeps.setRow _ _
          have kv3 : Keeps (fun j => j = b) w7 V3 := (kv2.mono (fun _ _ h => h.elim)).trans kb3
          have hbw : b < w7.heap.size := (Array.getElem?_eq_some_iff.1 RT7.out).1
          have o2 := k82.owns hto (fun _ _ => id)
          have o3 : Told V3 W.heap.size A9 t9.told.length c9 t9.told := kb3.owns o2 (fun j hj e => own_apart21 o2 (show Row V2 b 31 TL from rb2) j hj e)
          have P9 : Hid (Pl At W V3 F7 g b t9 t9 A9 c9) := Lib.hid (P7.out.refd CC.out kv3 o3 (by
            rcases hdj with h | h
            · exact .inl h
            · exact .inr (fun j hj => by obtain ⟨_, _, h2⟩ := own_block h j hj; exact h2)) (by rw [hT9]; exact rb3))
          have k83 : Keeps (fun j => j = b) w8 V3 := (k82.mono (fun _ _ h => h.elim)).trans kb3
          have OA := Lib.hid (Src.of_own (k83.owns o8 (fun j hj e => by obtain ⟨_, _, h⟩ := own_block o8 j hj; have e' : j = b := e; omega)))
          have OB := Lib.hid (Src.of_own (kv3.owns HO7.out (fun j hj e => by obtain ⟨_, _, h⟩ := own_block HO7.out j hj; have e' : j = b := e; have := HBX.out.box.lt; omega)))
          have RK9 : Hid (Row V3 bk 38 YA) := Lib.hid (RK7.out.keeps kv3 (fun e => by have := HBK.out; omega))
          have RV1 := Lib.hid rv1
          have RV2 := Lib.hid rv2
          have RB2 := Lib.hid rb2
          have RB3 := Lib.hid rb3
          have HT99 := Lib.hid hT9
          clear k8 o8 hto hdj hT9 kv1 rv1 k82 kv2 rv2 rb2 rb3 kb3 kv3 k83 o2 o3
          go_wp2_with (first
            | (refine wpList_store_row (by rfl) 31 _ _ (by rfl) n1 T9.toArray (by rfl) (by rfl) 31 Z RV1.out ST9.out SZ9.out O9.out ?_; rw [hV2])
            | (refine wpList_load_row (by rfl) 31 _ (by rfl) n1 (by rfl) 31 T9.toArray (0, 0) _ RV2.out Try.underlying31 rfl ST9.out ?_)
            | (refine wpList_store_row (by rfl) 31 _ _ (by rfl) b T9.toArray (by rfl) (by rfl) 31 TL.toArray RB2.out ST9.out SLT.out O9.out ?_; rw [hV3])
            | fail)
          refine (same21_eq A7 A8 m9 c7 c8 os V3 HMO.out.1 OB.out OA.out HMO.out.2.2).mono ?_
          rintro e z1 ⟨rfl, kz1⟩
          have P9z := Lib.hid (P9.out.later CC.out kz1)
          have RK9z := Lib.hid (RK9.out.keeps kz1 id)
          have RB3z := Lib.hid ((kz1.block b (Array.getElem?_eq_some_iff.1 RB3.out).1 id).trans RB3.out)
          clear kz1 P9 RK9 RB3 hV1 hV2 hV3
          obtain ⟨hx, hhx⟩ : ∃ y, decide (xid ∈ t9.told) = y := ⟨_, rfl⟩
          have hxx : (hx != hx) = false := by simp
          have HSN : Hid (∀ V, Keeps (fun _ => False) z1 V → Calls Try.prog 15 #[.pointer (some ⟨g, 0, none⟩), .agg YL.toArray] V fun e w' => e = .returned (.bool hx) ∧ Keeps (fun _ => False) z1 w' ∧ True) := Lib.hid (fun V hV => by
            have h := CC.out.seen xid (CC.out.keeps P9z.out.at_ hV (fun _ e => e.elim)) HOKX.out.id
            rw [hhx, HYE.out] at h
            exact h.mono (fun e w' h => ⟨h.1, hV.trans h.2, trivial⟩))
          have HRS : Hid (∀ V, Keeps (fun _ => False) z1 V → Calls Try.prog 16 #[.agg T9.toArray, .agg YL.toArray] V fun e w' => e = .returned (.bool hx) ∧ Keeps (fun _ => False) z1 w' ∧ True) := Lib.hid (fun V hV => by
            have h := rseen_any V t9 A9 t9.told.length c9 xid ((P9z.out.told.list rfl (CC.out.ok P9z.out.at_).told).later hV) HOKX.out.id
            rw [hhx, HYE.out, HT99.out] at h
            exact h.mono (fun e w' h => ⟨h.1, hV.trans h.2, trivial⟩))
          have HYL : Hid (∀ V, Keeps (fun _ => False) z1 V → V.rangeAt bk 2 YL) := Lib.hid (fun V hV => by exact (HPT.out V (range_row21 (RK9z.out.keeps hV id))).2.2.1)
          have HRT : Hid (∀ V, Keeps (fun _ => False) z1 V → V.rangeAt b 0 T9) := Lib.hid (fun V hV => range_row21 ((show Row z1 b 31 T9 from RB3z.out).keeps hV id))
          clear hhx
          go_wp2_with fail
          refine wp_region_stores 9 [3, 7] [0, 1, 2, 4, 5, 6, 3, 7, 8] (fun V => Keeps (fun _ => False) z1 V) (fun V => True) (by kernel_rfl) (by kernel_rfl) (fun _ _ h k => h.trans k) (fun _ _ h _ => h) (((Keeps.refl _ _).drew)) (trivial) ?_
          refine T_quiet (get_op rfl) (by rfl) (by rfl) (by rfl) ?_
          intro K hK
          go_big_quiet_op
          first | go_big_quiet_on | go_big_quiet_call ((intro _; rfl))
          refine T_value (get_op rfl) (by rfl) (by rfl) (.pointer (some ⟨bk, 2, none⟩)) (fun _ _ => by go_simp) ?_
          simp only [Act.put, List.setIfInBounds_toArray, List.set_cons_zero, List.set_cons_succ]
          refine T_load (get_op rfl) (by rfl) (by rfl) 36 (.tmp 121) (by rfl) bk 2 (by rfl) YL _ (fun V hV => HYL.out V hV) Try.underlying36 rfl SYL.out ?_
          simp only [Act.put, List.setIfInBounds_toArray, List.set_cons_zero, List.set_cons_succ]
          refine T_load (get_op rfl) (by rfl) (by rfl) 31 (.tmp 14) (by rfl) b 0 (by rfl) T9 _ (fun V hV => HRT.out V hV) Try.underlying31 rfl SL9.out ?_
          simp only [Act.put, List.setIfInBounds_toArray, List.set_cons_zero, List.set_cons_succ]
          refine T_value (get_op rfl) (by rfl) (by rfl) (.pointer (some ⟨bk, 2, none⟩)) (fun _ _ => by go_simp) ?_
          simp only [Act.put, List.setIfInBounds_toArray, List.set_cons_zero, List.set_cons_succ]
          refine T_load (get_op rfl) (by rfl) (by rfl) 36 (.tmp 125) (by rfl) bk 2 (by rfl) YL _ (fun V hV => HYL.out V hV) Try.underlying36 rfl SYL.out ?_
          simp only [Act.put, List.setIfInBounds_toArray, List.set_cons_zero, List.set_cons_succ]
          refine T_enter (get_op rfl) (by rfl) (by rfl) _ _ (.bool hx) (fun _ => by go_simp) (fun V => True) (fun _ _ h _ => h) (fun V hb hf => HSN.out V hb) ?_
          simp only [Act.put, List.setIfInBounds_toArray, List.set_cons_zero, List.set_cons_succ]
          refine T_enter (get_op rfl) (by rfl) (by rfl) _ _ (.bool hx) (fun _ => by go_simp) (fun V => True) (fun _ _ h _ => h) (fun V hb hf => HRS.out V hb) ?_
          simp only [Act.put, List.setIfInBounds_toArray, List.set_cons_zero, List.set_cons_succ]
          refine T_value (get_op rfl) (by rfl) (by rfl) (.bool false) (fun _ _ => by go_simp) ?_
          simp only [Act.put, List.setIfInBounds_toArray, List.set_cons_zero, List.set_cons_succ]
          refine T_nil ?_
          intro w30 k30 _
          simp only [List.drop_succ_cons, List.drop_zero]
          have BF := Lib.hid (P9z.out.later CC.out k30)
          have hll := HMO.out.2.1
          clear k30 HSN HRS HYL HRT
          go_wp2
          go_roundw
          case rel => exact ⟨i + 1, F7, t9, A9, c9, by omega, by omega, by go_num, Lib.hid hll, BF⟩
          case measure => simp [intOf]; omega
        · rw [hr] at hand
          have hand1 : bits .and .u8 (kn : Int) 1 = 1 := hand
          have hfl := CC.out.flood xid xA xn xC xl xf HBX.out.at_ HOKX.out.id (hlt7 X2 HBX.out.keeps) HXN.out (by have h1 : xl.length ≤ xC := HOKX.out.le; have h2 := HXN.out; omega) HOKX.out.max HOKX.out.nil hnf (by omega) HOKX.out.f
          rw [HYE.out] at hfl
          obtain ⟨t9, ht9⟩ : ∃ y, (Gp.flood t xid xl xf).1 = y := ⟨_, rfl⟩
          obtain ⟨os, hos⟩ : ∃ y, (Gp.flood t xid xl xf).2 = y := ⟨_, rfl⟩
          obtain ⟨m9, hm9⟩ : ∃ y, os.length = y := ⟨_, rfl⟩
          rw [ht9, hos, hm9] at hfl
          have HNM : Hid ((Gp.flood t xid xl xf).1 = t9 ∧ (Gp.flood t xid xl xf).2 = os ∧ os.length = m9) := Lib.hid ⟨ht9, hos, hm9⟩
          clear ht9 hos hm9
          have HFD := Lib.hid hfl
          clear hfl hr hand hlt7 hnf
          go_wp2_with (first
            | (refine wpList_load_any19 (by rfl) 38 (.tmp 70) (by rfl) (ad.add (i * 35)) (by rfl) YA _ HYA.out Try.underlying38 rfl SYA.out ?_)
            | (refine wpList_store_row (by rfl) 38 _ _ (by rfl) bk YA.toArray (by rfl) (by rfl) 38 ZA RX1.out SYB.out SZK.out OYA.out ?_; rw [hX2])
            | (refine wpList_load_mid (by rfl) 36 _ (by rfl) bk 2 (by rfl) YL _ HY2.out Try.underlying36 rfl SYL.out ?_)
            | fail)
          refine HFD.out.mono ?_
          rintro e w7 ⟨F7, A7, c7, rfl, a7, o7, hF7, hA7, k7⟩
          clear hc0 hc1 hc34
          obtain ⟨ht9, hos, hm9⟩ := HNM.out
          have P7 := Lib.hid (HBX.out.prog CC.out k7 a7 hF7)
          have RK7 : Hid (Row w7 bk 38 YA) := Lib.hid (RX2.out.keeps k7 (fun h => by have := CC.out.lt HB.out.at_ bk h; omega))
          obtain ⟨TL, hTL⟩ : ∃ L, gcs t (.slice A' t.told.length c') = L := ⟨_, rfl⟩
          have HTL := Lib.hid hTL
          have RT7 : Hid (w7.heap[b]? = some (.cells TL.toArray 31 (0, 0))) := Lib.hid (by rw [← hTL]; exact P7.out.box)
          have STL : Hid ((Try.prog.info? 31).map (·.size) = some TL.toArray.size) := Lib.hid (by rw [← hTL]; exact size_g21)
          have hp7 := HPT.out w7 (range_row21 RK7.out)
          have hc7 := hp7.2.1
          have hf7 := hp7.2.2.2
          have HY7 := Lib.hid hp7.2.2.1
          have hS7 := HOKX.out.src.keeps P7.out.keeps (fun _ _ _ => id)
          have hrf := rflood_any w7 t W.heap.size A' t.told.length c' xid xA xC xl xf (CC.out.ok HBX.out.at_) P7.out.told rfl (by have := HL.out; omega) P7.out.keeps.size HOKX.out.id hS7 HOKX.out.le HOKX.out.max (by have := HXN.out; omega)
          rw [hTL, ht9, hos, hm9, HXN.out] at hrf
          have htl : t9.told.length ≤ i + 1 := by
            rw [← ht9]
            unfold Gp.flood
            have := HL.out
            split
            · show t.told.length ≤ i + 1; omega
            · show (t.told ++ [xid]).length ≤ i + 1; rw [List.length_append]; simp; omega
          have hm1000 : m9 ≤ 1000 := by
            rw [← hm9, ← hos]
            unfold Gp.flood
            split
            · simp
            · exact Nat.le_trans (Gp.oth_le t xl xf) (by have := HXN.out; omega)
          have HO7 := Lib.hid o7
          have HMO := Lib.hid (And.intro hm9 (And.intro htl hm1000))
          have HT9 := Lib.hid ht9
          rw [HYE.out] at hrf
          have HRF := Lib.hid hrf
          clear a7 o7 hF7 k7 hTL hp7 hS7 hrf ht9 hos hm9 htl hm1000
          go_wp2_with (first
            | (refine wpList_load_row (by rfl) 31 _ (by rfl) b (by rfl) 31 TL.toArray (0, 0) _ RT7.out Try.underlying31 rfl STL.out ?_)
            | (refine wpList_load_mid (by rfl) 36 _ (by rfl) bk 2 (by rfl) YL _ HY7.out Try.underlying36 rfl SYL.out ?_)
            | fail)
          refine HRF.out.mono ?_
          rintro e w8 ⟨A9, c9, A8, c8, rfl, ⟨hto, hdj⟩, o8, k8⟩
          obtain ⟨T9, hT9⟩ : ∃ L, gcs t9 (.slice A9 t9.told.length c9) = L := ⟨_, rfl⟩
          rw [hT9]
          have ST9 : Hid ((Try.prog.info? 31).map (·.size) = some T9.toArray.size) := Lib.hid (by rw [← hT9]; exact size_g21)
          have SL9 : Hid ((Try.prog.info? 31).map (·.size) = some T9.length) := Lib.hid (by rw [← hT9]; exact size_g21)
          have SZ9 : Hid (Z.size = T9.toArray.size) := Lib.hid (by rw [← hT9, ← HZZ.out]; rfl)
          have SLT : Hid (TL.toArray.size = T9.toArray.size) := Lib.hid (by rw [← hT9, ← HTL.out]; rfl)
          have O9 : Hid (T9.toArray.all (·.oneCell') = true) := Lib.hid (by rw [← hT9]; exact gcs_one _ _ _ _)
          obtain ⟨n1, hn1⟩ : ∃ x, w8.heap.size = x := ⟨_, rfl⟩
          obtain ⟨V1, hV1⟩ : ∃ V, w8.alloc (.cells Z 31) = V := ⟨_, rfl⟩
          have kv1 : Keeps (fun _ => False) w8 V1 := by rw [← hV1]; exact (Keeps.refl _ _).alloc _
          have rv1 : V1.heap[n1]? = some (.cells Z 31 (0, 0)) := by rw [← hV1, ← hn1]; exact heap_alloc_new w8 _
          obtain ⟨V2, hV2⟩ : ∃ V, V1.setRow n1 T9.toArray = V := ⟨_, rfl⟩
          have rv2 : V2.heap[n1]? = some (.cells T9.toArray 31 (0, 0)) := by rw [← hV2]; exact setRow_heap _ _ _ _ _ _ rv1
          have k82 : Keeps (fun _ => False) w8 V2 := kv1.trans' (T := fun j => j = n1) (by rw [← hV2]; exact Keeps.setRow _ _) (fun j hj e => by omega)
          have kv2 : Keeps (fun _ => False) w7 V2 := k8.trans k82
          have rb2 := (kv2.block b (Array.getElem?_eq_some_iff.1 RT7.out).1 id).trans RT7.out
          obtain ⟨V3, hV3⟩ : ∃ V, V2.setRow b T9.toArray = V := ⟨_, rfl⟩
          have rb3 : V3.heap[b]? = some (.cells T9.toArray 31 (0, 0)) := by rw [← hV3]; exact setRow_heap _ _ _ _ _ _ rb2
          have kb3 : Keeps (fun j => j = b) V2 V3 := by rw [← hV3]; exact Keeps.setRow _ _
          have kv3 : Keeps (fun j => j = b) w7 V3 := (kv2.mono (fun _ _ h => h.elim)).trans kb3
          have hbw : b < w7.heap.size := (Array.getElem?_eq_some_iff.1 RT7.out).1
          have o2 := k82.owns hto (fun _ _ => id)
          have o3 : Told V3 W.heap.size A9 t9.told.length c9 t9.told := kb3.owns o2 (fun j hj e => own_apart21 o2 (show Row V2 b 31 TL from rb2) j hj e)
          have P9 : Hid (Pl At W V3 F7 g b t9 t9 A9 c9) := Lib.hid (P7.out.refd CC.out kv3 o3 (by
            rcases hdj with h | h
            · exact .inl h
            · exact .inr (fun j hj => by obtain ⟨_, _, h2⟩ := own_block h j hj; exact h2)) (by rw [hT9]; exact rb3))
          have k83 : Keeps (fun j => j = b) w8 V3 := (k82.mono (fun _ _ h => h.elim)).trans kb3
          have OA := Lib.hid (Src.of_own (k83.owns o8 (fun j hj e => by obtain ⟨_, _, h⟩ := own_block o8 j hj; have e' : j = b := e; omega)))
          have OB := Lib.hid (Src.of_own (kv3.owns HO7.out (fun j hj e => by obtain ⟨_, _, h⟩ := own_block HO7.out j hj; have e' : j = b := e; have := HBX.out.box.lt; omega)))
          have RK9 : Hid (Row V3 bk 38 YA) := Lib.hid (RK7.out.keeps kv3 (fun e => by have := HBK.out; omega))
          have RV1 := Lib.hid rv1
          have RV2 := Lib.hid rv2
          have RB2 := Lib.hid rb2
          have RB3 := Lib.hid rb3
          have HT99 := Lib.hid hT9
          clear k8 o8 hto hdj hT9 kv1 rv1 k82 kv2 rv2 rb2 rb3 kb3 kv3 k83 o2 o3
          go_wp2_with (first
            | (refine wpList_store_row (by rfl) 31 _ _ (by rfl) n1 T9.toArray (by rfl) (by rfl) 31 Z RV1.out ST9.out SZ9.out O9.out ?_; rw [hV2])
            | (refine wpList_load_row (by rfl) 31 _ (by rfl) n1 (by rfl) 31 T9.toArray (0, 0) _ RV2.out Try.underlying31 rfl ST9.out ?_)
            | (refine wpList_store_row (by rfl) 31 _ _ (by rfl) b T9.toArray (by rfl) (by rfl) 31 TL.toArray RB2.out ST9.out SLT.out O9.out ?_; rw [hV3])
            | fail)
          refine (same21_eq A7 A8 m9 c7 c8 os V3 HMO.out.1 OB.out OA.out HMO.out.2.2).mono ?_
          rintro e z1 ⟨rfl, kz1⟩
          have P9z := Lib.hid (P9.out.later CC.out kz1)
          have RK9z := Lib.hid (RK9.out.keeps kz1 id)
          have RB3z := Lib.hid ((kz1.block b (Array.getElem?_eq_some_iff.1 RB3.out).1 id).trans RB3.out)
          clear kz1 P9 RK9 RB3 hV1 hV2 hV3
          obtain ⟨hx, hhx⟩ : ∃ y, decide (xid ∈ t9.told) = y := ⟨_, rfl⟩
          have hxx : (hx != hx) = false := by simp
          have HSN : Hid (∀ V, Keeps (fun _ => False) z1 V → Calls Try.prog 15 #[.pointer (some ⟨g, 0, none⟩), .agg YL.toArray] V fun e w' => e = .returned (.bool hx) ∧ Keeps (fun _ => False) z1 w' ∧ True) := Lib.hid (fun V hV => by
            have h := CC.out.seen xid (CC.out.keeps P9z.out.at_ hV (fun _ e => e.elim)) HOKX.out.id
            rw [hhx, HYE.out] at h
            exact h.mono (fun e w' h => ⟨h.1, hV.trans h.2, trivial⟩))
          have HRS : Hid (∀ V, Keeps (fun _ => False) z1 V → Calls Try.prog 16 #[.agg T9.toArray, .agg YL.toArray] V fun e w' => e = .returned (.bool hx) ∧ Keeps (fun _ => False) z1 w' ∧ True) := Lib.hid (fun V hV => by
            have h := rseen_any V t9 A9 t9.told.length c9 xid ((P9z.out.told.list rfl (CC.out.ok P9z.out.at_).told).later hV) HOKX.out.id
            rw [hhx, HYE.out, HT99.out] at h
            exact h.mono (fun e w' h => ⟨h.1, hV.trans h.2, trivial⟩))
          have HYL : Hid (∀ V, Keeps (fun _ => False) z1 V → V.rangeAt bk 2 YL) := Lib.hid (fun V hV => by exact (HPT.out V (range_row21 (RK9z.out.keeps hV id))).2.2.1)
          have HRT : Hid (∀ V, Keeps (fun _ => False) z1 V → V.rangeAt b 0 T9) := Lib.hid (fun V hV => range_row21 ((show Row z1 b 31 T9 from RB3z.out).keeps hV id))
          clear hhx
          go_wp2_with fail
          refine wp_region_stores 9 [3, 7] [0, 1, 2, 4, 5, 6, 3, 7, 8] (fun V => Keeps (fun _ => False) z1 V) (fun V => True) (by kernel_rfl) (by kernel_rfl) (fun _ _ h k => h.trans k) (fun _ _ h _ => h) (((Keeps.refl _ _).drew)) (trivial) ?_
          refine T_quiet (get_op rfl) (by rfl) (by rfl) (by rfl) ?_
          intro K hK
          go_big_quiet_op
          first | go_big_quiet_on | go_big_quiet_call ((intro _; rfl))
          refine T_value (get_op rfl) (by rfl) (by rfl) (.pointer (some ⟨bk, 2, none⟩)) (fun _ _ => by go_simp) ?_
          simp only [Act.put, List.setIfInBounds_toArray, List.set_cons_zero, List.set_cons_succ]
          refine T_load (get_op rfl) (by rfl) (by rfl) 36 (.tmp 121) (by rfl) bk 2 (by rfl) YL _ (fun V hV => HYL.out V hV) Try.underlying36 rfl SYL.out ?_
          simp only [Act.put, List.setIfInBounds_toArray, List.set_cons_zero, List.set_cons_succ]
          refine T_load (get_op rfl) (by rfl) (by rfl) 31 (.tmp 14) (by rfl) b 0 (by rfl) T9 _ (fun V hV => HRT.out V hV) Try.underlying31 rfl SL9.out ?_
          simp only [Act.put, List.setIfInBounds_toArray, List.set_cons_zero, List.set_cons_succ]
          refine T_value (get_op rfl) (by rfl) (by rfl) (.pointer (some ⟨bk, 2, none⟩)) (fun _ _ => by go_simp) ?_
          simp only [Act.put, List.setIfInBounds_toArray, List.set_cons_zero, List.set_cons_succ]
          refine T_load (get_op rfl) (by rfl) (by rfl) 36 (.tmp 125) (by rfl) bk 2 (by rfl) YL _ (fun V hV => HYL.out V hV) Try.underlying36 rfl SYL.out ?_
          simp only [Act.put, List.setIfInBounds_toArray, List.set_cons_zero, List.set_cons_succ]
          refine T_enter (get_op rfl) (by rfl) (by rfl) _ _ (.bool hx) (fun _ => by go_simp) (fun V => True) (fun _ _ h _ => h) (fun V hb hf => HSN.out V hb) ?_
          simp only [Act.put, List.setIfInBounds_toArray, List.set_cons_zero, List.set_cons_succ]
          refine T_enter (get_op rfl) (by rfl) (by rfl) _ _ (.bool hx) (fun _ => by go_simp) (fun V => True) (fun _ _ h _ => h) (fun V hb hf => HRS.out V hb) ?_
          simp only [Act.put, List.setIfInBounds_toArray, List.set_cons_zero, List.set_cons_succ]
          refine T_value (get_op rfl) (by rfl) (by rfl) (.bool false) (fun _ _ => by go_simp) ?_
          simp only [Act.put, List.setIfInBounds_toArray, List.set_cons_zero, List.set_cons_succ]
          refine T_nil ?_
          intro w30 k30 _
          simp only [List.drop_succ_cons, List.drop_zero]
          have BF := Lib.hid (P9z.out.later CC.out k30)
          have hll := HMO.out.2.1
          clear k30 HSN HRS HYL HRT
          go_wp2
          go_roundw
          case rel => exact ⟨i + 1, F7, t9, A9, c9, by omega, by omega, by go_num, Lib.hid hll, BF⟩
          case measure => simp [intOf]; omega
    · have KE := HB.out.keeps
      clear HB HL
      by_cases hii : (i : Int) < (len : Int)
      · have hi8 : ¬ ((i : Int) < 60) := by omega
        obtain ⟨V40, hV40⟩ : ∃ V, wr.alloc (.cells (ivs [0]).toArray 3) = V := ⟨_, rfl⟩
        have k40 : Keeps (fun _ => False) wr V40 := by rw [← hV40]; exact (Keeps.refl _ _).alloc _
        have b40 : ∀ V : World, (Instr.buildSlice 34 1 #[(0, .int .i64 0)]).run Try.prog V = .ok (.slice (some ⟨V.heap.size, 0, none⟩) 1 1) (V.alloc (.cells (ivs [0]).toArray 3)) := fun V => by kernel_rfl
        have HB40 := Lib.hid b40
        have HK40 := Lib.hid (KE.trans k40)
        clear b40 k40
        go_wp2_with (first
          | (refine wpList_buildN21 (by rfl) 34 1 [(0, .const (.int .i64 0))] (by rfl) [(0, .int .i64 0)] (by rfl) _ (HB40.out wr) ?_; rw [hV40])
          | fail)
        refine (CC.out.round_none V40 _ _ _).mono ?_
        rintro e w41 ⟨E1, f1, rfl, k41⟩
        obtain ⟨V42, hV42⟩ : ∃ V, w41.alloc (.cells (ivs [0]).toArray 3) = V := ⟨_, rfl⟩
        have k42 : Keeps (fun _ => False) w41 V42 := by rw [← hV42]; exact (Keeps.refl _ _).alloc _
        have h43 := CC.out.flood_none V42 (List.replicate 32 0) (some ⟨w41.heap.size, 0, none⟩) 1 1 1 (by simp)
        have h44 := fun V => CC.out.seen_none V (List.replicate 32 0) (by simp)
        rw [hZH] at h43
        rw [hZH] at h44
        have H43 := Lib.hid h43
        have H44 := Lib.hid h44
        have HK42 := Lib.hid ((HK40.out.trans k41).trans k42)
        clear h43 h44 k41 k42
        go_wp2_with (first
          | (refine wpList_made (by rfl) 36 [] (by rfl) [] (by rfl) (.agg ZH) HBZ.out ?_)
          | (refine wpList_buildN21 (by rfl) 34 1 [(0, .const (.int .i64 0))] (by rfl) [(0, .int .i64 0)] (by rfl) _ (HB40.out w41) ?_; rw [hV42])
          | fail)
        refine H43.out.mono ?_
        rintro e w43 ⟨E2, f2, rfl, k43⟩
        have H45 := Lib.hid (H44.out w43)
        have HK43 := Lib.hid (HK42.out.trans k43)
        clear k43 H44
        go_wp2_with (first
          | go_skip
          | (refine wpList_madeW21 ?_ 36 [] (by rfl) [] (by rfl) (.agg ZH) HBZ.out ?_; rfl)
          | fail)
        refine H45.out.mono ?_
        rintro e w44 ⟨rfl, k44⟩
        have HK44 := Lib.hid (HK43.out.trans k44)
        clear k44
        go_wp2
        go_ret
        exact ⟨rfl, HK44.out⟩
      · skip
        obtain ⟨V40, hV40⟩ : ∃ V, wr.alloc (.cells (ivs [0]).toArray 3) = V := ⟨_, rfl⟩
        have k40 : Keeps (fun _ => False) wr V40 := by rw [← hV40]; exact (Keeps.refl _ _).alloc _
        have b40 : ∀ V : World, (Instr.buildSlice 34 1 #[(0, .int .i64 0)]).run Try.prog V = .ok (.slice (some ⟨V.heap.size, 0, none⟩) 1 1) (V.alloc (.cells (ivs [0]).toArray 3)) := fun V => by kernel_rfl
        have HB40 := Lib.hid b40
        have HK40 := Lib.hid (KE.trans k40)
        clear b40 k40
        go_wp2_with (first
          | (refine wpList_buildN21 (by rfl) 34 1 [(0, .const (.int .i64 0))] (by rfl) [(0, .int .i64 0)] (by rfl) _ (HB40.out wr) ?_; rw [hV40])
          | fail)
        refine (CC.out.round_none V40 _ _ _).mono ?_
        rintro e w41 ⟨E1, f1, rfl, k41⟩
        obtain ⟨V42, hV42⟩ : ∃ V, w41.alloc (.cells (ivs [0]).toArray 3) = V := ⟨_, rfl⟩
        have k42 : Keeps (fun _ => False) w41 V42 := by rw [← hV42]; exact (Keeps.refl _ _).alloc _
        have h43 := CC.out.flood_none V42 (List.replicate 32 0) (some ⟨w41.heap.size, 0, none⟩) 1 1 1 (by simp)
        have h44 := fun V => CC.out.seen_none V (List.replicate 32 0) (by simp)
        rw [hZH] at h43
        rw [hZH] at h44
        have H43 := Lib.hid h43
        have H44 := Lib.hid h44
        have HK42 := Lib.hid ((HK40.out.trans k41).trans k42)
        clear h43 h44 k41 k42
        go_wp2_with (first
          | (refine wpList_made (by rfl) 36 [] (by rfl) [] (by rfl) (.agg ZH) HBZ.out ?_)
          | (refine wpList_buildN21 (by rfl) 34 1 [(0, .const (.int .i64 0))] (by rfl) [(0, .int .i64 0)] (by rfl) _ (HB40.out w41) ?_; rw [hV42])
          | fail)
        refine H43.out.mono ?_
        rintro e w43 ⟨E2, f2, rfl, k43⟩
        have H45 := Lib.hid (H44.out w43)
        have HK43 := Lib.hid (HK42.out.trans k43)
        clear k43 H44
        go_wp2_with (first
          | go_skip
          | (refine wpList_madeW21 ?_ 36 [] (by rfl) [] (by rfl) (.agg ZH) HBZ.out ?_; rfl)
          | fail)
        refine H45.out.mono ?_
        rintro e w44 ⟨rfl, k44⟩
        have HK44 := Lib.hid (HK43.out.trans k44)
        clear k44
        go_wp2
        go_ret
        exact ⟨rfl, HK44.out⟩
set_option maxRecDepth 100000 in
set_option maxHeartbeats 4000000 in
theorem plays21_off (C : Goss At) (AW : Awake21) (me many fan : Int) (s : BitVec 64) (A : Option Addr) (len c : Nat) (xs : List ActOf) (W : World) (hin : ¬ Gp.In me many fan) (hA : IsActs W A len c xs) :
    Calls Try.prog 3 #[.int .i64 me, .int .i64 many, .int .i64 fan, .int .u64 (di s), .slice A len c] W fun e w' => e = .returned (.bool true) ∧ Keeps (fun _ => False) W w' := by
  have HAW := Lib.hid (AW W)
  have hcm := hA.max
  have hcl := hA.le
  have HAA := Lib.hid hA
  have CC := Lib.hid C
  have HIN := Lib.hid hin
  obtain ⟨Z, hZ⟩ : ∃ Z, gz = Z := ⟨_, rfl⟩
  have hz : ∀ V : World, (zeroValue 31).run Try.prog V = .ok (.agg Z) V := fun V => by rw [← hZ]; exact zero_g21 V
  have HZZ := Lib.hid hZ
  obtain ⟨ZA, hZA⟩ : ∃ Z, (ActOf.cells ⟨0, none, 0, [], List.replicate 32 0, 0⟩).toArray = Z := ⟨_, rfl⟩
  have hza : ∀ V : World, (zeroValue 38).run Try.prog V = .ok (.agg ZA) V := fun V => by rw [← hZA]; exact zero_act V
  have HZA : Hid (ZA.size = 35) := Lib.hid (by rw [← hZA]; rfl)
  obtain ⟨ZH, hZH⟩ : ∃ Z, (bvs (List.replicate 32 0)).toArray = Z := ⟨_, rfl⟩
  have HBZ : Hid (∀ V : World, (Instr.build 36 #[]).run Try.prog V = .ok (.agg ZH) V) := Lib.hid (fun V => by rw [← hZH]; exact build_h_none V)
  have SZ : Hid ((Try.prog.info? 31).map (·.size) = some Z.size) := Lib.hid (by rw [← hZ]; exact size_g21)
  have O0 : Hid (Z.all (·.oneCell') = true) := Lib.hid (by rw [← hZ]; exact gz_one)
  have hrn := fun V => rnew21_off me many fan s V hin
  rw [hZ] at hrn
  have HRN := Lib.hid hrn
  clear C AW hZ hZA hrn hin hA
  go_enter Try.func3, Try.ntmps3
  go_wp2_with fail
  refine HAW.out.mono ?_
  rintro e w1 ⟨rfl, k1⟩
  have K1 := Lib.hid k1
  clear k1 HAW
  go_wp2_with fail
  refine (CC.out.new_off w1 me many fan s HIN.out).mono ?_
  rintro e w2 ⟨rfl, k2⟩
  have K2 := Lib.hid (K1.out.trans k2)
  clear k2
  go_wp2_with fail
  refine (HRN.out w2).mono ?_
  rintro e w3 ⟨rfl, k3⟩
  obtain ⟨b, hb⟩ : ∃ x, w3.heap.size = x := ⟨_, rfl⟩
  obtain ⟨W4, hW4⟩ : ∃ V, w3.alloc (.cells Z 31) = V := ⟨_, rfl⟩
  have k4 : Keeps (fun _ => False) w3 W4 := by rw [← hW4]; exact (Keeps.refl _ _).alloc _
  have r4 : W4.heap[b]? = some (.cells Z 31 (0, 0)) := by rw [← hW4, ← hb]; exact heap_alloc_new w3 _
  obtain ⟨W5, hW5⟩ : ∃ V, W4.setRow b Z = V := ⟨_, rfl⟩
  have k5 : Keeps (fun j => j = b) w3 W5 := (k4.mono (fun _ _ h => h.elim)).trans (by rw [← hW5]; exact Keeps.setRow _ _)
  have hwb : W.heap.size ≤ b := by have := K2.out.size; have := k3.size; omega
  have R4 := Lib.hid r4
  have K5 : Hid (Keeps (fun _ => False) W W5) := Lib.hid ((K2.out.trans k3).trans' k5 (fun j hj e => by omega))
  clear k3 k4 k5 r4 hwb
  go_wp2_with (first
    | (refine wpList_store_row (by rfl) 31 _ _ (by rfl) b Z (by rfl) (by rfl) 31 Z R4.out SZ.out rfl O0.out ?_; rw [hW5])
    | fail)
  clear hW5 hW4 hb
  go_loopw [16, 17, 18, 19, 20, 21, 22, 23] (fun iv _ _ _ _ _ _ _ wr => iv = .int .i64 0 ∧ Hid (Keeps (fun _ => False) W wr)) (fun iv _ _ _ _ _ _ _ _ => 0)
  case atStart => exact ⟨rfl, K5⟩
  case round =>
    obtain ⟨rfl, HK⟩ := hrel
    have KE := HK.out
    clear HK
    by_cases hii : (0 : Int) < (len : Int)
    · skip
      obtain ⟨V40, hV40⟩ : ∃ V, wr.alloc (.cells (ivs [0]).toArray 3) = V := ⟨_, rfl⟩
      have k40 : Keeps (fun _ => False) wr V40 := by rw [← hV40]; exact (Keeps.refl _ _).alloc _
      have b40 : ∀ V : World, (Instr.buildSlice 34 1 #[(0, .int .i64 0)]).run Try.prog V = .ok (.slice (some ⟨V.heap.size, 0, none⟩) 1 1) (V.alloc (.cells (ivs [0]).toArray 3)) := fun V => by kernel_rfl
      have HB40 := Lib.hid b40
      have HK40 := Lib.hid (KE.trans k40)
      clear b40 k40
      go_wp2_with (first
        | (refine wpList_buildN21 (by rfl) 34 1 [(0, .const (.int .i64 0))] (by rfl) [(0, .int .i64 0)] (by rfl) _ (HB40.out wr) ?_; rw [hV40])
        | fail)
      refine (CC.out.round_none V40 _ _ _).mono ?_
      rintro e w41 ⟨E1, f1, rfl, k41⟩
      obtain ⟨V42, hV42⟩ : ∃ V, w41.alloc (.cells (ivs [0]).toArray 3) = V := ⟨_, rfl⟩
      have k42 : Keeps (fun _ => False) w41 V42 := by rw [← hV42]; exact (Keeps.refl _ _).alloc _
      have h43 := CC.out.flood_none V42 (List.replicate 32 0) (some ⟨w41.heap.size, 0, none⟩) 1 1 1 (by simp)
      have h44 := fun V => CC.out.seen_none V (List.replicate 32 0) (by simp)
      rw [hZH] at h43
      rw [hZH] at h44
      have H43 := Lib.hid h43
      have H44 := Lib.hid h44
      have HK42 := Lib.hid ((HK40.out.trans k41).trans k42)
      clear h43 h44 k41 k42
      go_wp2_with (first
        | (refine wpList_made (by rfl) 36 [] (by rfl) [] (by rfl) (.agg ZH) HBZ.out ?_)
        | (refine wpList_buildN21 (by rfl) 34 1 [(0, .const (.int .i64 0))] (by rfl) [(0, .int .i64 0)] (by rfl) _ (HB40.out w41) ?_; rw [hV42])
        | fail)
      refine H43.out.mono ?_
      rintro e w43 ⟨E2, f2, rfl, k43⟩
      have H45 := Lib.hid (H44.out w43)
      have HK43 := Lib.hid (HK42.out.trans k43)
      clear k43 H44
      go_wp2_with (first
        | go_skip
        | (refine wpList_madeW21 ?_ 36 [] (by rfl) [] (by rfl) (.agg ZH) HBZ.out ?_; rfl)
        | fail)
      refine H45.out.mono ?_
      rintro e w44 ⟨rfl, k44⟩
      have HK44 := Lib.hid (HK43.out.trans k44)
      clear k44
      go_wp2
      go_ret
      exact ⟨rfl, HK44.out⟩
    · skip
      obtain ⟨V40, hV40⟩ : ∃ V, wr.alloc (.cells (ivs [0]).toArray 3) = V := ⟨_, rfl⟩
      have k40 : Keeps (fun _ => False) wr V40 := by rw [← hV40]; exact (Keeps.refl _ _).alloc _
      have b40 : ∀ V : World, (Instr.buildSlice 34 1 #[(0, .int .i64 0)]).run Try.prog V = .ok (.slice (some ⟨V.heap.size, 0, none⟩) 1 1) (V.alloc (.cells (ivs [0]).toArray 3)) := fun V => by kernel_rfl
      have HB40 := Lib.hid b40
      have HK40 := Lib.hid (KE.trans k40)
      clear b40 k40
      go_wp2_with (first
        | (refine wpList_buildN21 (by rfl) 34 1 [(0, .const (.int .i64 0))] (by rfl) [(0, .int .i64 0)] (by rfl) _ (HB40.out wr) ?_; rw [hV40])
        | fail)
      refine (CC.out.round_none V40 _ _ _).mono ?_
      rintro e w41 ⟨E1, f1, rfl, k41⟩
      obtain ⟨V42, hV42⟩ : ∃ V, w41.alloc (.cells (ivs [0]).toArray 3) = V := ⟨_, rfl⟩
      have k42 : Keeps (fun _ => False) w41 V42 := by rw [← hV42]; exact (Keeps.refl _ _).alloc _
      have h43 := CC.out.flood_none V42 (List.replicate 32 0) (some ⟨w41.heap.size, 0, none⟩) 1 1 1 (by simp)
      have h44 := fun V => CC.out.seen_none V (List.replicate 32 0) (by simp)
      rw [hZH] at h43
      rw [hZH] at h44
      have H43 := Lib.hid h43
      have H44 := Lib.hid h44
      have HK42 := Lib.hid ((HK40.out.trans k41).trans k42)
      clear h43 h44 k41 k42
      go_wp2_with (first
        | (refine wpList_made (by rfl) 36 [] (by rfl) [] (by rfl) (.agg ZH) HBZ.out ?_)
        | (refine wpList_buildN21 (by rfl) 34 1 [(0, .const (.int .i64 0))] (by rfl) [(0, .int .i64 0)] (by rfl) _ (HB40.out w41) ?_; rw [hV42])
        | fail)
      refine H43.out.mono ?_
      rintro e w43 ⟨E2, f2, rfl, k43⟩
      have H45 := Lib.hid (H44.out w43)
      have HK43 := Lib.hid (HK42.out.trans k43)
      clear k43 H44
      go_wp2_with (first
        | go_skip
        | (refine wpList_madeW21 ?_ 36 [] (by rfl) [] (by rfl) (.agg ZH) HBZ.out ?_; rfl)
        | fail)
      refine H45.out.mono ?_
      rintro e w44 ⟨rfl, k44⟩
      have HK44 := Lib.hid (HK43.out.trans k44)
      clear k44
      go_wp2
      go_ret
      exact ⟨rfl, HK44.out⟩
theorem plays_all (C : Goss At) (AW : Awake21) (a0 a1 a2 a3 : Int) (A : Option Addr) (len c : Nat) (xs : List ActOf) (W : World) (_ : (Lit.int .i64 a0).wf = true) (_ : (Lit.int .i64 a1).wf = true) (_ : (Lit.int .i64 a2).wf = true) (w3 : (Lit.int .u64 a3).wf = true) (hA : IsActs W A len c xs) :
    Calls Try.prog 3 #[.int .i64 a0, .int .i64 a1, .int .i64 a2, .int .u64 a3, .slice A len c] W fun e w' => e = .returned (.bool true) ∧ Below W.heap.size W w' := by
  obtain ⟨s, rfl⟩ := di_of a3 w3
  by_cases hin : Gp.In a0 a1 a2
  · obtain ⟨m, rfl⟩ : ∃ m : Nat, a0 = (m : Int) := ⟨a0.toNat, by unfold Gp.In at hin; omega⟩
    obtain ⟨n, rfl⟩ : ∃ m : Nat, a1 = (m : Int) := ⟨a1.toNat, by unfold Gp.In at hin; omega⟩
    obtain ⟨o, rfl⟩ : ∃ m : Nat, a2 = (m : Int) := ⟨a2.toNat, by unfold Gp.In at hin; omega⟩
    exact (plays21_on C AW m n o s A len c xs W hin hA).mono (fun e w' h => ⟨h.1, h.2.below (Nat.le_refl _) (fun _ _ => id)⟩)
  · exact (plays21_off C AW a0 a1 a2 s A len c xs W hin hA).mono (fun e w' h => ⟨h.1, h.2.below (Nat.le_refl _) (fun _ _ => id)⟩)
end Go.Proofs.Ytmhbfchhooggjaa
