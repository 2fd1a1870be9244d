/-
  digest.without, of keys and of hashes: those of a row that aren't in another one, each once.
-/
import Derived.Test.YtmjpaopobnhckaaDhM
import Derived.Test.YtmjpaopobnhckaaDgK
namespace Go.Proofs.Ytmjpaopobnhckaa
open Go.RowKit Go.BigFrame
set_option linter.unusedVariables false
set_option linter.unusedSimpArgs false

theorem size_of_info {P : Program} {ty : TypeId} {n : Nat} {C : Array Value} (h : (P.info? ty).map (·.size) = some n) (hc : C.size = n) : (P.info? ty).map (·.size) = some C.size := by rw [hc]; exact h
theorem zero_Hh (V : World) : (zeroValue 52).run Try.prog V = .ok (.agg (bvs (List.replicate 32 0)).toArray) V := by kernel_rfl
theorem zero_Kh (V : World) : (zeroValue 54).run Try.prog V = .ok (.agg (kcs (0, List.replicate 32 0)).toArray) V := by kernel_rfl
theorem knot_mem {α : Type} [DecidableEq α] {xs ys S : List α} {i : Nat} {x : α} (hS : ∀ y, y ∈ S ↔ y ∈ ys ∨ y ∈ xs.take i) (hx : xs[i]? = some x) :
    (x ∈ S → Dg.knot (xs.take (i + 1)) ys = Dg.knot (xs.take i) ys ∧ ∀ y, y ∈ S ↔ y ∈ ys ∨ y ∈ xs.take (i + 1)) ∧ (x ∉ S → Dg.knot (xs.take (i + 1)) ys = Dg.knot (xs.take i) ys ++ [x] ∧ ∀ y, y ∈ S ++ [x] ↔ y ∈ ys ∨ y ∈ xs.take (i + 1)) := by
  have htk : xs.take (i + 1) = xs.take i ++ [x] := by
    obtain ⟨h1, h2⟩ := List.getElem?_eq_some_iff.1 hx
    rw [List.take_succ_eq_append_getElem h1, h2]
  rw [htk, Dg.knot_snoc]
  refine ⟨fun h => ⟨if_pos ((hS x).1 h), fun y => ?_⟩, fun h => ⟨if_neg (fun h2 => h ((hS x).2 h2)), fun y => ?_⟩⟩
  · rw [hS y, List.mem_append, List.mem_singleton]
    constructor
    · rintro (h1 | h1)
      · exact .inl h1
      · exact .inr (.inl h1)
    · rintro (h1 | h1 | h1)
      · exact .inl h1
      · exact .inr h1
      · subst h1; exact (hS y).1 h
  · rw [List.mem_append, hS y, List.mem_append, List.mem_singleton, or_assoc]
set_option maxRecDepth 100000 in
set_option maxHeartbeats 4000000 in
theorem keyswithout_any (w : World) (A A2 : Option Addr) (n c m d : Nat) (xs ys : List Ft.Key) (hA : LK w A n c xs) (hB : LK w A2 m d ys) (hn : n ≤ 1000) (hm : m ≤ 1000) :
    Calls Try.prog 26 #[.slice A n c, .slice A2 m d] w fun e w' => ∃ (A' : Option Addr) (c' : Nat), e = .returned (.slice A' (Dg.knot xs ys).length c') ∧ Keeps (fun _ => False) w w' ∧ LK w' A' (Dg.knot xs ys).length c' (Dg.knot xs ys) := by
  have hmm := @run_makeMap Try.prog
  have hcn := hA.le
  have hcx := hA.max
  have hdm := hB.le
  have hdx := hB.max
  have HLX := Lib.hid hA.many
  have HLY := Lib.hid hB.many
  have HOX := Lib.hid hA.okAll
  obtain ⟨ih, zh, hih, hzh, hsh, hbh, hzsh⟩ := info_keys_in
  have HII := Lib.hid (And.intro hih (And.intro hzh (And.intro hsh (And.intro hbh hzsh))))
  obtain ⟨Z, hZ⟩ : ∃ Z, (kcs (0, List.replicate 32 0)).toArray = Z := ⟨_, rfl⟩
  have hz : ∀ V : World, (zeroValue 54).run Try.prog V = .ok (.agg Z) V := fun V => by rw [← hZ]; exact zero_Kh V
  have hzs := zero_S
  have hZN : Z.size = 33 := by rw [← hZ, List.size_toArray, kcs_length (by simp)]
  have HZN := Lib.hid hZN
  have HSS : Hid (∀ V : World, (Instr.build 86 #[]).run Try.prog V = .ok (.agg #[]) V) := Lib.hid build_S
  obtain ⟨b, hb⟩ : ∃ x, w.heap.size = x := ⟨_, rfl⟩
  obtain ⟨W1, hW1⟩ : ∃ V, w.alloc (.map #[] 0) = V := ⟨_, rfl⟩
  have k1 : Keeps (fun _ => False) w W1 := by rw [← hW1]; exact (Keeps.refl _ _).alloc _
  have m1 : SMap kcs Ft.Key.Ok W1 b [] := by rw [← hW1, ← hb]; exact SMap.made _ _ w
  have hb1 : W1.heap.size = b + 1 := by rw [← hW1, ← hb]; simp
  have HK1 := Lib.hid k1
  have HM1 := Lib.hid m1
  have HBB := Lib.hid (And.intro hb hb1)
  have HA := Lib.hid hA
  have HB := Lib.hid hB
  clear hA hB hih hzh hsh hbh hzsh hZ hZN k1 m1 hb1
  go_enter Try.func26, Try.ntmps26
  go_wp2_with fail
  clear hb hW1
  go_loopw [16] (fun iv wr => ∃ i : Nat, i ≤ m ∧ iv = .int .i64 (i : Int) ∧ Hid (SMap kcs Ft.Key.Ok wr b (ys.take i)) ∧ Hid (Keeps (fun _ => False) w wr ∧ b < wr.heap.size)) (fun iv _ => m - (intOf iv).toNat)
  case atStart => exact ⟨0, by omega, rfl, HM1, Lib.hid ⟨HK1.out, by have := HBB.out; omega⟩⟩
  case round =>
    clear HM1 HK1
    obtain ⟨i, hi, rfl, HS, HK⟩ := hrel
    obtain ⟨w0, hw0⟩ : ∃ V, V = wr := ⟨_, rfl⟩
    subst hw0
    by_cases hlt : i < m
    · have hii : (i : Int) < (m : Int) := by omega
      obtain ⟨x, hx⟩ : ∃ x, ys[i]? = some x := ⟨_, List.getElem?_eq_getElem (by have := HLY.out; omega)⟩
      obtain ⟨ad, rfl, hxok, hxc⟩ := keys_at HB.out hx
      have htk : ys.take i ++ [x] = ys.take (i + 1) := by
        obtain ⟨h1, h2⟩ := List.getElem?_eq_some_iff.1 hx
        rw [List.take_succ_eq_append_getElem h1, h2]
      have HTK := Lib.hid htk
      have hxl := kcs_len x hxok
      have hx1 := kcs_one x
      obtain ⟨XL, hXL⟩ : ∃ L, kcs x = L := ⟨_, rfl⟩
      rw [hXL] at hxc hxl hx1
      have HX : Hid (Ft.Key.Ok x ∧ (kcs x).toArray = XL.toArray) := Lib.hid ⟨hxok, by rw [hXL]⟩
      have HXC : Hid (∀ j v, XL[j]? = some v → w0.cell? ((ad.add (i * 33)).add j) = some v) := Lib.hid (fun j v hv => (HK.out.1.cell (World.block_lt_of_cell? _ _ (hxc j v hv)) id).trans (hxc j v hv))
      have SXL : Hid ((Try.prog.info? 54).map (·.size) = some XL.length) := Lib.hid (by rw [hxl]; exact info_k)
      have SX : Hid ((Try.prog.info? 54).map (·.size) = some XL.toArray.size ∧ Z.size = XL.toArray.size ∧ XL.toArray.all (·.oneCell') = true) := Lib.hid ⟨by rw [List.size_toArray, hxl]; exact info_k, HZN.out.trans (by rw [List.size_toArray, hxl]), by rw [Array.all_eq_true_iff_forall_mem]; intro v hv; exact hx1 v (by simpa using hv)⟩
      obtain ⟨g1, V1, V2, hg1, hV1, hV2, r1, r2, k2⟩ := lay_digest w0 54 XL.toArray Z
      have R1 := Lib.hid r1
      have R2 := Lib.hid r2
      have S2 := Lib.hid (HS.out.keeps k2 id)
      have K2 : Hid (Keeps (fun _ => False) w V2 ∧ b < V2.heap.size) := Lib.hid ⟨HK.out.1.trans k2, by have := k2.size; have := HK.out.2; omega⟩
      clear hx hxok hxc htk hxl hx1 hXL r1 r2 k2 HS
      go_wp2_with (first
        | (refine wpList_load_any19 (by rfl) 54 (.tmp 18) (by rfl) (ad.add (i * 33)) (by rfl) XL _ HXC.out Try.underlying54 rfl SXL.out ?_)
        | (refine wpList_store_row (by rfl) 54 _ _ (by rfl) g1 XL.toArray (by rfl) (by rfl) 54 Z R1.out SX.out.1 SX.out.2.1 SX.out.2.2 ?_; rw [hV2])
        | (refine wpList_load_row (by rfl) 54 _ (by rfl) g1 (by rfl) 54 XL.toArray (0, 0) _ R2.out Try.underlying54 rfl SX.out.1 ?_)
        | (refine wpList_made (by rfl) 86 [] (by rfl) [] (by rfl) (.agg #[]) HSS.out ?_)
        | (refine wpList_sstore keys_T (by rfl) _ _ _ (by rfl) b (ys.take i) x HX.out.1 (by rfl) XL.toArray (by rfl) (by rfl) HX.out.2 S2.out ?_; intro w5 hm5 hk5; have HM5 := Lib.hid hm5; have HK5 := Lib.hid hk5; clear hm5 hk5)
        | fail)
      go_roundw
      case rel => exact ⟨i + 1, by omega, by go_num, Lib.hid (by rw [← HTK.out]; exact HM5.out), Lib.hid ⟨K2.out.1.trans' HK5.out (fun j hj e => by have := HBB.out; omega), by have := HK5.out.size; have := K2.out.2; omega⟩⟩
      case measure => simp [intOf]; omega
    · obtain rfl : i = m := by omega
      have hfull : ys.take i = ys := List.take_of_length_le (by have := HLY.out; omega)
      rw [hfull] at HS
      clear hfull
      go_wp2_with fail
      go_loopw [8, 26] (fun ov iv wr => ∃ (k q : Nat) (o S : List Ft.Key) (A3 : Option Addr) (c3 : Nat), k ≤ n ∧ ov = .slice A3 q c3 ∧ iv = .int .i64 (k : Int) ∧ Hid (Dg.knot (xs.take k) ys = o ∧ ∀ y, y ∈ S ↔ y ∈ ys ∨ y ∈ xs.take k) ∧ Hid (q = o.length ∧ q ≤ k) ∧ Hid (wr.ownsRow (b + 1) 54 33 (.slice A3 q c3) q (flt kcs o)) ∧ Hid (SMap kcs Ft.Key.Ok wr b S) ∧ Hid (Keeps (fun _ => False) w wr ∧ b < wr.heap.size)) (fun _ iv _ => n - (intOf iv).toNat)
      case atStart => exact ⟨0, 0, [], ys, none, 0, by omega, rfl, rfl, Lib.hid ⟨rfl, fun y => by simp⟩, Lib.hid ⟨rfl, by omega⟩, Lib.hid (World.ownsRow_nil _ _ _ _), HS, HK⟩
      case round =>
        clear HS HK
        obtain ⟨k, q, o, S, A3, c3, hk, rfl, rfl, HP, HM, HO, HS, HK⟩ := hrel
        obtain ⟨w0, hw0⟩ : ∃ V, V = wr := ⟨_, rfl⟩
        subst hw0
        by_cases hlt : k < n
        · have hii : (k : Int) < (n : Int) := by omega
          obtain ⟨x, hx⟩ : ∃ x, xs[k]? = some x := ⟨_, List.getElem?_eq_getElem (by have := HLX.out; omega)⟩
          obtain ⟨ad, rfl, hxok, hxc⟩ := keys_at HA.out hx
          obtain ⟨hin, hout⟩ := knot_mem HP.out.2 hx
          rw [HP.out.1] at hin hout
          have hxl := kcs_len x hxok
          have hx1 := kcs_one x
          obtain ⟨XL, hXL⟩ : ∃ L, kcs x = L := ⟨_, rfl⟩
          rw [hXL] at hxc hxl hx1
          have HX : Hid (Ft.Key.Ok x ∧ (kcs x).toArray = XL.toArray ∧ kcs x = XL) := Lib.hid ⟨hxok, by rw [hXL], hXL⟩
          have HXL : Hid (XL.length = 33) := Lib.hid hxl
          have HX1 : Hid (∀ u ∈ XL, u.oneCell' = true) := Lib.hid hx1
          have HXC : Hid (∀ j v, XL[j]? = some v → w0.cell? ((ad.add (k * 33)).add j) = some v) := Lib.hid (fun j v hv => (HK.out.1.cell (World.block_lt_of_cell? _ _ (hxc j v hv)) id).trans (hxc j v hv))
          have SXL : Hid ((Try.prog.info? 54).map (·.size) = some XL.length) := Lib.hid (by rw [hxl]; exact info_k)
          have SX : Hid ((Try.prog.info? 54).map (·.size) = some XL.toArray.size ∧ Z.size = XL.toArray.size ∧ XL.toArray.all (·.oneCell') = true) := Lib.hid ⟨by rw [List.size_toArray, hxl]; exact info_k, HZN.out.trans (by rw [List.size_toArray, hxl]), by rw [Array.all_eq_true_iff_forall_mem]; intro v hv; exact hx1 v (by simpa using hv)⟩
          have SS : Hid ((Try.prog.info? 86).map (·.size) = some (#[] : Array Value).size ∧ (#[] : Array Value).size = (#[] : Array Value).size ∧ (#[] : Array Value).all (·.oneCell') = true) := Lib.hid ⟨info_S, rfl, by simp⟩
          obtain ⟨g1, V1, V2, hg1, hV1, hV2, r1, r2, k2⟩ := lay_digest w0 54 XL.toArray Z
          obtain ⟨g2, V3, V4, hg2, hV3, hV4, r3, r4, k4⟩ := lay_digest V2 86 #[] #[]
          have hlt2 : b < g1 := by have := HK.out.2; omega
          have r24 := (k4.block g1 (Array.getElem?_eq_some_iff.1 r2).1 id).trans r2
          have R1 := Lib.hid r1
          have R2 := Lib.hid r2
          have R3 := Lib.hid r3
          have R4 := Lib.hid r24
          have S2 := Lib.hid (HS.out.keeps k2 id)
          have S4 := Lib.hid (S2.out.keeps k4 id)
          have O4 := Lib.hid ((k2.trans k4).owns HO.out (fun _ _ => id))
          have K4 : Hid (Keeps (fun _ => False) w V4 ∧ b < V4.heap.size) := Lib.hid ⟨HK.out.1.trans (k2.trans k4), by have := (k2.trans k4).size; have := HK.out.2; omega⟩
          have HG := Lib.hid hlt2
          clear hx hxok hxc hxl hx1 hXL r1 r2 r3 r4 r24 k2 k4 HS hlt2 HO
          by_cases hmem : x ∈ S
          · have HD : Hid (true = true ↔ x ∈ S) := Lib.hid ⟨fun _ => hmem, fun _ => rfl⟩
            have HN := Lib.hid (hin hmem)
            clear hmem hin hout
            go_wp2_with (first
              | (refine wpList_load_any19 (by rfl) 54 (.tmp 28) (by rfl) (ad.add (k * 33)) (by rfl) XL _ HXC.out Try.underlying54 rfl SXL.out ?_)
              | (refine wpList_store_row (by rfl) 54 _ _ (by rfl) g1 XL.toArray (by rfl) (by rfl) 54 Z R1.out SX.out.1 SX.out.2.1 SX.out.2.2 ?_; rw [hV2])
              | (refine wpList_load_row (by rfl) 54 _ (by rfl) g1 (by rfl) 54 XL.toArray (0, 0) _ R2.out Try.underlying54 rfl SX.out.1 ?_)
              | (refine wpList_slook keys_T (by rfl) _ _ (by rfl) b S x HX.out.1 (by rfl) XL.toArray (by rfl) HX.out.2.1 true HD.out S2.out ?_)
              | (refine wpList_store_row (by rfl) 86 _ _ (by rfl) g2 #[] (by rfl) (by rfl) 86 #[] R3.out SS.out.1 SS.out.2.1 SS.out.2.2 ?_; rw [hV4])
              | fail)
            go_roundw
            case rel => exact ⟨k + 1, q, o, S, A3, c3, by omega, rfl, by go_num, HN, Lib.hid ⟨HM.out.1, by have := HM.out; omega⟩, O4, S4, K4⟩
            case measure => simp [intOf]; omega
          · have HD : Hid (false = true ↔ x ∈ S) := Lib.hid ⟨fun h => (by cases h), fun h => absurd h hmem⟩
            have HN := Lib.hid (hout hmem)
            have hq9 : q ≤ 1000 := by have := HM.out; omega
            clear hmem hin hout
            go_wp2_with (first
              | (refine wpList_load_any19 (by rfl) 54 (.tmp 28) (by rfl) (ad.add (k * 33)) (by rfl) XL _ HXC.out Try.underlying54 rfl SXL.out ?_)
              | (refine wpList_store_row (by rfl) 54 _ _ (by rfl) g1 XL.toArray (by rfl) (by rfl) 54 Z R1.out SX.out.1 SX.out.2.1 SX.out.2.2 ?_; rw [hV2])
              | (refine wpList_load_row (by rfl) 54 _ (by rfl) g1 (by rfl) 54 XL.toArray (0, 0) _ R2.out Try.underlying54 rfl SX.out.1 ?_)
              | (refine wpList_load_row (by rfl) 54 _ (by rfl) g1 (by rfl) 54 XL.toArray (0, 0) _ R4.out Try.underlying54 rfl SX.out.1 ?_)
              | (refine wpList_load_row (by rfl) 54 _ (by rfl) g1 (by rfl) 54 XL.toArray (0, 0) _ R5.out Try.underlying54 rfl SX.out.1 ?_)
              | (refine wpList_slook keys_T (by rfl) _ _ (by rfl) b S x HX.out.1 (by rfl) XL.toArray (by rfl) HX.out.2.1 false HD.out S2.out ?_)
              | (refine wpList_store_row (by rfl) 86 _ _ (by rfl) g2 #[] (by rfl) (by rfl) 86 #[] R3.out SS.out.1 SS.out.2.1 SS.out.2.2 ?_; rw [hV4])
              | (refine wpList_made (by rfl) 86 [] (by rfl) [] (by rfl) (.agg #[]) HSS.out ?_)
              | (refine wpList_sstore keys_T (by rfl) _ _ _ (by rfl) b S x HX.out.1 (by rfl) XL.toArray (by rfl) (by rfl) HX.out.2.1 S4.out ?_; intro w5 hm5 hk5; have HM5 := Lib.hid hm5; have HK5 := Lib.hid hk5; have R5 := Lib.hid ((hk5.block g1 (Array.getElem?_eq_some_iff.1 R4.out).1 (by have := HG.out; omega)).trans R4.out); have O5 := Lib.hid (hk5.owns O4.out (fun j hj e => by obtain ⟨_, _, h0⟩ := own_block O4.out j hj; exact absurd (show j = b from e) (by omega))); have HB5 : Hid (b + 1 ≤ w5.heap.size) := Lib.hid (by have := hk5.size; have := K4.out.2; omega); clear hm5 hk5)
              | (refine wpList_build1_19 (by rfl) 22 1 0 _ (by rfl) (.agg XL.toArray) _ (by rfl) (build_keys1 XL HXL.out w5) ?_)
              | (refine wpList_append_own _ (by rfl) _ _ 22 (by rfl) (b + 1) 54 ih zh 33 40 Try.underlying22 HII.out.1 HII.out.2.1 HII.out.2.2.1 HII.out.2.2.2.1 HII.out.2.2.2.2 (by decide) (.slice A3 q c3) q (flt kcs o) (by rfl) (((Keeps.refl (fun _ => False) w5).alloc _).owns O5.out (fun _ _ => id)) ⟨w5.heap.size, 0, none⟩ 1 1 XL (by rfl) (by have := HXL.out; omega) (World.news_of_block (heap_alloc_new w5 _)) HX1.out (by unfold maxLen; omega) (by omega) (by have := HB5.out; simp; omega) ?_; intro v4 V6 ho4 hg4 _; have HO6 := Lib.hid ho4; have K6 : Hid (Keeps (fun j => b + 1 ≤ j) w5 V6) := Lib.hid (Keeps.trans ((Keeps.refl (fun j => b + 1 ≤ j) w5).alloc _) (own_grow19 (((Keeps.refl (fun _ => False) w5).alloc _).owns O5.out (fun _ _ => id)) hg4)); obtain ⟨A4, c4, rfl⟩ := own_slice ho4; clear ho4 hg4)
              | fail)
            go_roundw
            case rel => exact ⟨k + 1, q + 1, o ++ [x], S ++ [x], A4, c4, by omega, rfl, by go_num, HN, Lib.hid ⟨by rw [List.length_append, ← HM.out.1]; rfl, by have := HM.out; omega⟩, Lib.hid (by rw [← flt_snoc, HX.out.2.2]; exact HO6.out), Lib.hid (HM5.out.keeps K6.out (by omega)), Lib.hid ⟨(K4.out.1.trans' HK5.out (fun j hj e => by have := HBB.out; omega)).trans' K6.out (fun j hj e => by have := HBB.out; omega), by have := K6.out.size; have := HB5.out; omega⟩⟩
            case measure => simp [intOf]; omega
        · obtain rfl : k = n := by omega
          have hfin := HP.out.1
          rw [List.take_of_length_le (by have := HLX.out; omega)] at hfin
          have hq : (Dg.knot xs ys).length = q := by rw [hfin]; exact HM.out.1.symm
          have hok : ∀ y ∈ Dg.knot xs ys, Ft.Key.Ok y := fun y hy => HOX.out y ((Dg.mem_knot ys xs y).1 hy).1
          have ho9 : w0.ownsRow (b + 1) 54 33 (.slice A3 (Dg.knot xs ys).length c3) (Dg.knot xs ys).length (flt kcs (Dg.knot xs ys)) := by rw [hq, hfin]; exact HO.out
          have HL := Lib.hid (IsList.of_own kcs_len (by decide) hok ho9)
          have HQ := Lib.hid hq
          clear hq hfin ho9 hok
          go_wp2
          go_ret
          rw [← HQ.out]
          exact ⟨A3, c3, rfl, HK.out.1, HL.out⟩
set_option maxRecDepth 100000 in
set_option maxHeartbeats 4000000 in
theorem hasheswithout_any (w : World) (A A2 : Option Addr) (n c m d : Nat) (xs ys : List (List UInt8)) (hA : LH w A n c xs) (hB : LH w A2 m d ys) (hn : n ≤ 1000) (hm : m ≤ 1000) :
    Calls Try.prog 27 #[.slice A n c, .slice A2 m d] w fun e w' => ∃ (A' : Option Addr) (c' : Nat), e = .returned (.slice A' (Dg.knot xs ys).length c') ∧ Keeps (fun _ => False) w w' ∧ LH w' A' (Dg.knot xs ys).length c' (Dg.knot xs ys) := by
  have hmm := @run_makeMap Try.prog
  have hcn := hA.le
  have hcx := hA.max
  have hdm := hB.le
  have hdx := hB.max
  have HLX := Lib.hid hA.many
  have HLY := Lib.hid hB.many
  have HOX := Lib.hid hA.okAll
  obtain ⟨ih, zh, hih, hzh, hsh, hbh, hzsh⟩ := info_hashes_in
  have HII := Lib.hid (And.intro hih (And.intro hzh (And.intro hsh (And.intro hbh hzsh))))
  obtain ⟨Z, hZ⟩ : ∃ Z, (bvs (List.replicate 32 0)).toArray = Z := ⟨_, rfl⟩
  have hz : ∀ V : World, (zeroValue 52).run Try.prog V = .ok (.agg Z) V := fun V => by rw [← hZ]; exact zero_Hh V
  have hzs := zero_S
  have hZN : Z.size = 32 := by rw [← hZ, List.size_toArray, bvs_length]; simp
  have HZN := Lib.hid hZN
  have HSS : Hid (∀ V : World, (Instr.build 86 #[]).run Try.prog V = .ok (.agg #[]) V) := Lib.hid build_S
  obtain ⟨b, hb⟩ : ∃ x, w.heap.size = x := ⟨_, rfl⟩
  obtain ⟨W1, hW1⟩ : ∃ V, w.alloc (.map #[] 0) = V := ⟨_, rfl⟩
  have k1 : Keeps (fun _ => False) w W1 := by rw [← hW1]; exact (Keeps.refl _ _).alloc _
  have m1 : SMap bvs (fun h : List UInt8 => h.length = 32) W1 b [] := by rw [← hW1, ← hb]; exact SMap.made _ _ w
  have hb1 : W1.heap.size = b + 1 := by rw [← hW1, ← hb]; simp
  have HK1 := Lib.hid k1
  have HM1 := Lib.hid m1
  have HBB := Lib.hid (And.intro hb hb1)
  have HA := Lib.hid hA
  have HB := Lib.hid hB
  clear hA hB hih hzh hsh hbh hzsh hZ hZN k1 m1 hb1
  go_enter Try.func27, Try.ntmps27
  go_wp2_with fail
  clear hb hW1
  go_loopw [16] (fun iv wr => ∃ i : Nat, i ≤ m ∧ iv = .int .i64 (i : Int) ∧ Hid (SMap bvs (fun h : List UInt8 => h.length = 32) wr b (ys.take i)) ∧ Hid (Keeps (fun _ => False) w wr ∧ b < wr.heap.size)) (fun iv _ => m - (intOf iv).toNat)
  case atStart => exact ⟨0, by omega, rfl, HM1, Lib.hid ⟨HK1.out, by have := HBB.out; omega⟩⟩
  case round =>
    clear HM1 HK1
    obtain ⟨i, hi, rfl, HS, HK⟩ := hrel
    obtain ⟨w0, hw0⟩ : ∃ V, V = wr := ⟨_, rfl⟩
    subst hw0
    by_cases hlt : i < m
    · have hii : (i : Int) < (m : Int) := by omega
      obtain ⟨x, hx⟩ : ∃ x, ys[i]? = some x := ⟨_, List.getElem?_eq_getElem (by have := HLY.out; omega)⟩
      obtain ⟨ad, rfl, hxok, hxc⟩ := hashes_at HB.out hx
      have htk : ys.take i ++ [x] = ys.take (i + 1) := by
        obtain ⟨h1, h2⟩ := List.getElem?_eq_some_iff.1 hx
        rw [List.take_succ_eq_append_getElem h1, h2]
      have HTK := Lib.hid htk
      have hxl := hbs_len x hxok
      have hx1 := bvs_one x
      obtain ⟨XL, hXL⟩ : ∃ L, bvs x = L := ⟨_, rfl⟩
      rw [hXL] at hxc hxl hx1
      have HX : Hid ((fun h : List UInt8 => h.length = 32) x ∧ (bvs x).toArray = XL.toArray) := Lib.hid ⟨hxok, by rw [hXL]⟩
      have HXC : Hid (∀ j v, XL[j]? = some v → w0.cell? ((ad.add (i * 32)).add j) = some v) := Lib.hid (fun j v hv => (HK.out.1.cell (World.block_lt_of_cell? _ _ (hxc j v hv)) id).trans (hxc j v hv))
      have SXL : Hid ((Try.prog.info? 52).map (·.size) = some XL.length) := Lib.hid (by rw [hxl]; exact info_h)
      have SX : Hid ((Try.prog.info? 52).map (·.size) = some XL.toArray.size ∧ Z.size = XL.toArray.size ∧ XL.toArray.all (·.oneCell') = true) := Lib.hid ⟨by rw [List.size_toArray, hxl]; exact info_h, HZN.out.trans (by rw [List.size_toArray, hxl]), by rw [Array.all_eq_true_iff_forall_mem]; intro v hv; exact hx1 v (by simpa using hv)⟩
      obtain ⟨g1, V1, V2, hg1, hV1, hV2, r1, r2, k2⟩ := lay_digest w0 52 XL.toArray Z
      have R1 := Lib.hid r1
      have R2 := Lib.hid r2
      have S2 := Lib.hid (HS.out.keeps k2 id)
      have K2 : Hid (Keeps (fun _ => False) w V2 ∧ b < V2.heap.size) := Lib.hid ⟨HK.out.1.trans k2, by have := k2.size; have := HK.out.2; omega⟩
      clear hx hxok hxc htk hxl hx1 hXL r1 r2 k2 HS
      go_wp2_with (first
        | (refine wpList_load_any19 (by rfl) 52 (.tmp 18) (by rfl) (ad.add (i * 32)) (by rfl) XL _ HXC.out Try.underlying52 rfl SXL.out ?_)
        | (refine wpList_store_row (by rfl) 52 _ _ (by rfl) g1 XL.toArray (by rfl) (by rfl) 52 Z R1.out SX.out.1 SX.out.2.1 SX.out.2.2 ?_; rw [hV2])
        | (refine wpList_load_row (by rfl) 52 _ (by rfl) g1 (by rfl) 52 XL.toArray (0, 0) _ R2.out Try.underlying52 rfl SX.out.1 ?_)
        | (refine wpList_made (by rfl) 86 [] (by rfl) [] (by rfl) (.agg #[]) HSS.out ?_)
        | (refine wpList_sstore hashes_T (by rfl) _ _ _ (by rfl) b (ys.take i) x HX.out.1 (by rfl) XL.toArray (by rfl) (by rfl) HX.out.2 S2.out ?_; intro w5 hm5 hk5; have HM5 := Lib.hid hm5; have HK5 := Lib.hid hk5; clear hm5 hk5)
        | fail)
      go_roundw
      case rel => exact ⟨i + 1, by omega, by go_num, Lib.hid (by rw [← HTK.out]; exact HM5.out), Lib.hid ⟨K2.out.1.trans' HK5.out (fun j hj e => by have := HBB.out; omega), by have := HK5.out.size; have := K2.out.2; omega⟩⟩
      case measure => simp [intOf]; omega
    · obtain rfl : i = m := by omega
      have hfull : ys.take i = ys := List.take_of_length_le (by have := HLY.out; omega)
      rw [hfull] at HS
      clear hfull
      go_wp2_with fail
      go_loopw [8, 26] (fun ov iv wr => ∃ (k q : Nat) (o S : List (List UInt8)) (A3 : Option Addr) (c3 : Nat), k ≤ n ∧ ov = .slice A3 q c3 ∧ iv = .int .i64 (k : Int) ∧ Hid (Dg.knot (xs.take k) ys = o ∧ ∀ y, y ∈ S ↔ y ∈ ys ∨ y ∈ xs.take k) ∧ Hid (q = o.length ∧ q ≤ k) ∧ Hid (wr.ownsRow (b + 1) 52 32 (.slice A3 q c3) q (flt bvs o)) ∧ Hid (SMap bvs (fun h : List UInt8 => h.length = 32) wr b S) ∧ Hid (Keeps (fun _ => False) w wr ∧ b < wr.heap.size)) (fun _ iv _ => n - (intOf iv).toNat)
      case atStart => exact ⟨0, 0, [], ys, none, 0, by omega, rfl, rfl, Lib.hid ⟨rfl, fun y => by simp⟩, Lib.hid ⟨rfl, by omega⟩, Lib.hid (World.ownsRow_nil _ _ _ _), HS, HK⟩
      case round =>
        clear HS HK
        obtain ⟨k, q, o, S, A3, c3, hk, rfl, rfl, HP, HM, HO, HS, HK⟩ := hrel
        obtain ⟨w0, hw0⟩ : ∃ V, V = wr := ⟨_, rfl⟩
        subst hw0
        by_cases hlt : k < n
        · have hii : (k : Int) < (n : Int) := by omega
          obtain ⟨x, hx⟩ : ∃ x, xs[k]? = some x := ⟨_, List.getElem?_eq_getElem (by have := HLX.out; omega)⟩
          obtain ⟨ad, rfl, hxok, hxc⟩ := hashes_at HA.out hx
          obtain ⟨hin, hout⟩ := knot_mem HP.out.2 hx
          rw [HP.out.1] at hin hout
          have hxl := hbs_len x hxok
          have hx1 := bvs_one x
          obtain ⟨XL, hXL⟩ : ∃ L, bvs x = L := ⟨_, rfl⟩
          rw [hXL] at hxc hxl hx1
          have HX : Hid ((fun h : List UInt8 => h.length = 32) x ∧ (bvs x).toArray = XL.toArray ∧ bvs x = XL) := Lib.hid ⟨hxok, by rw [hXL], hXL⟩
          have HXL : Hid (XL.length = 32) := Lib.hid hxl
          have HX1 : Hid (∀ u ∈ XL, u.oneCell' = true) := Lib.hid hx1
          have HXC : Hid (∀ j v, XL[j]? = some v → w0.cell? ((ad.add (k * 32)).add j) = some v) := Lib.hid (fun j v hv => (HK.out.1.cell (World.block_lt_of_cell? _ _ (hxc j v hv)) id).trans (hxc j v hv))
          have SXL : Hid ((Try.prog.info? 52).map (·.size) = some XL.length) := Lib.hid (by rw [hxl]; exact info_h)
          have SX : Hid ((Try.prog.info? 52).map (·.size) = some XL.toArray.size ∧ Z.size = XL.toArray.size ∧ XL.toArray.all (·.oneCell') = true) := Lib.hid ⟨by rw [List.size_toArray, hxl]; exact info_h, HZN.out.trans (by rw [List.size_toArray, hxl]), by rw [Array.all_eq_true_iff_forall_mem]; intro v hv; exact hx1 v (by simpa using hv)⟩
          have SS : Hid ((Try.prog.info? 86).map (·.size) = some (#[] : Array Value).size ∧ (#[] : Array Value).size = (#[] : Array Value).size ∧ (#[] : Array Value).all (·.oneCell') = true) := Lib.hid ⟨info_S, rfl, by simp⟩
          obtain ⟨g1, V1, V2, hg1, hV1, hV2, r1, r2, k2⟩ := lay_digest w0 52 XL.toArray Z
          obtain ⟨g2, V3, V4, hg2, hV3, hV4, r3, r4, k4⟩ := lay_digest V2 86 #[] #[]
          have hlt2 : b < g1 := by have := HK.out.2; omega
          have r24 := (k4.block g1 (Array.getElem?_eq_some_iff.1 r2).1 id).trans r2
          have R1 := Lib.hid r1
          have R2 := Lib.hid r2
          have R3 := Lib.hid r3
          have R4 := Lib.hid r24
          have S2 := Lib.hid (HS.out.keeps k2 id)
          have S4 := Lib.hid (S2.out.keeps k4 id)
          have O4 := Lib.hid ((k2.trans k4).owns HO.out (fun _ _ => id))
          have K4 : Hid (Keeps (fun _ => False) w V4 ∧ b < V4.heap.size) := Lib.hid ⟨HK.out.1.trans (k2.trans k4), by have := (k2.trans k4).size; have := HK.out.2; omega⟩
          have HG := Lib.hid hlt2
          clear hx hxok hxc hxl hx1 hXL r1 r2 r3 r4 r24 k2 k4 HS hlt2 HO
          by_cases hmem : x ∈ S
          · have HD : Hid (true = true ↔ x ∈ S) := Lib.hid ⟨fun _ => hmem, fun _ => rfl⟩
            have HN := Lib.hid (hin hmem)
            clear hmem hin hout
            go_wp2_with (first
              | (refine wpList_load_any19 (by rfl) 52 (.tmp 28) (by rfl) (ad.add (k * 32)) (by rfl) XL _ HXC.out Try.underlying52 rfl SXL.out ?_)
              | (refine wpList_store_row (by rfl) 52 _ _ (by rfl) g1 XL.toArray (by rfl) (by rfl) 52 Z R1.out SX.out.1 SX.out.2.1 SX.out.2.2 ?_; rw [hV2])
              | (refine wpList_load_row (by rfl) 52 _ (by rfl) g1 (by rfl) 52 XL.toArray (0, 0) _ R2.out Try.underlying52 rfl SX.out.1 ?_)
              | (refine wpList_slook hashes_T (by rfl) _ _ (by rfl) b S x HX.out.1 (by rfl) XL.toArray (by rfl) HX.out.2.1 true HD.out S2.out ?_)
              | (refine wpList_store_row (by rfl) 86 _ _ (by rfl) g2 #[] (by rfl) (by rfl) 86 #[] R3.out SS.out.1 SS.out.2.1 SS.out.2.2 ?_; rw [hV4])
              | fail)
            go_roundw
            case rel => exact ⟨k + 1, q, o, S, A3, c3, by omega, rfl, by go_num, HN, Lib.hid ⟨HM.out.1, by have := HM.out; omega⟩, O4, S4, K4⟩
            case measure => simp [intOf]; omega
          · have HD : Hid (false = true ↔ x ∈ S) := Lib.hid ⟨fun h => (by cases h), fun h => absurd h hmem⟩
            have HN := Lib.hid (hout hmem)
            have hq9 : q ≤ 1000 := by have := HM.out; omega
            clear hmem hin hout
            go_wp2_with (first
              | (refine wpList_load_any19 (by rfl) 52 (.tmp 28) (by rfl) (ad.add (k * 32)) (by rfl) XL _ HXC.out Try.underlying52 rfl SXL.out ?_)
              | (refine wpList_store_row (by rfl) 52 _ _ (by rfl) g1 XL.toArray (by rfl) (by rfl) 52 Z R1.out SX.out.1 SX.out.2.1 SX.out.2.2 ?_; rw [hV2])
              | (refine wpList_load_row (by rfl) 52 _ (by rfl) g1 (by rfl) 52 XL.toArray (0, 0) _ R2.out Try.underlying52 rfl SX.out.1 ?_)
              | (refine wpList_load_row (by rfl) 52 _ (by rfl) g1 (by rfl) 52 XL.toArray (0, 0) _ R4.out Try.underlying52 rfl SX.out.1 ?_)
              | (refine wpList_load_row (by rfl) 52 _ (by rfl) g1 (by rfl) 52 XL.toArray (0, 0) _ R5.out Try.underlying52 rfl SX.out.1 ?_)
              | (refine wpList_slook hashes_T (by rfl) _ _ (by rfl) b S x HX.out.1 (by rfl) XL.toArray (by rfl) HX.out.2.1 false HD.out S2.out ?_)
              | (refine wpList_store_row (by rfl) 86 _ _ (by rfl) g2 #[] (by rfl) (by rfl) 86 #[] R3.out SS.out.1 SS.out.2.1 SS.out.2.2 ?_; rw [hV4])
              | (refine wpList_made (by rfl) 86 [] (by rfl) [] (by rfl) (.agg #[]) HSS.out ?_)
              | (refine wpList_sstore hashes_T (by rfl) _ _ _ (by rfl) b S x HX.out.1 (by rfl) XL.toArray (by rfl) (by rfl) HX.out.2.1 S4.out ?_; intro w5 hm5 hk5; have HM5 := Lib.hid hm5; have HK5 := Lib.hid hk5; have R5 := Lib.hid ((hk5.block g1 (Array.getElem?_eq_some_iff.1 R4.out).1 (by have := HG.out; omega)).trans R4.out); have O5 := Lib.hid (hk5.owns O4.out (fun j hj e => by obtain ⟨_, _, h0⟩ := own_block O4.out j hj; exact absurd (show j = b from e) (by omega))); have HB5 : Hid (b + 1 ≤ w5.heap.size) := Lib.hid (by have := hk5.size; have := K4.out.2; omega); clear hm5 hk5)
              | (refine wpList_build1_19 (by rfl) 23 1 0 _ (by rfl) (.agg XL.toArray) _ (by rfl) (build_hashes1 XL HXL.out w5) ?_)
              | (refine wpList_append_own _ (by rfl) _ _ 23 (by rfl) (b + 1) 52 ih zh 32 32 Try.underlying23 HII.out.1 HII.out.2.1 HII.out.2.2.1 HII.out.2.2.2.1 HII.out.2.2.2.2 (by decide) (.slice A3 q c3) q (flt bvs o) (by rfl) (((Keeps.refl (fun _ => False) w5).alloc _).owns O5.out (fun _ _ => id)) ⟨w5.heap.size, 0, none⟩ 1 1 XL (by rfl) (by have := HXL.out; omega) (World.news_of_block (heap_alloc_new w5 _)) HX1.out (by unfold maxLen; omega) (by omega) (by have := HB5.out; simp; omega) ?_; intro v4 V6 ho4 hg4 _; have HO6 := Lib.hid ho4; have K6 : Hid (Keeps (fun j => b + 1 ≤ j) w5 V6) := Lib.hid (Keeps.trans ((Keeps.refl (fun j => b + 1 ≤ j) w5).alloc _) (own_grow19 (((Keeps.refl (fun _ => False) w5).alloc _).owns O5.out (fun _ _ => id)) hg4)); obtain ⟨A4, c4, rfl⟩ := own_slice ho4; clear ho4 hg4)
              | fail)
            go_roundw
            case rel => exact ⟨k + 1, q + 1, o ++ [x], S ++ [x], A4, c4, by omega, rfl, by go_num, HN, Lib.hid ⟨by rw [List.length_append, ← HM.out.1]; rfl, by have := HM.out; omega⟩, Lib.hid (by rw [← flt_snoc, HX.out.2.2]; exact HO6.out), Lib.hid (HM5.out.keeps K6.out (by omega)), Lib.hid ⟨(K4.out.1.trans' HK5.out (fun j hj e => by have := HBB.out; omega)).trans' K6.out (fun j hj e => by have := HBB.out; omega), by have := K6.out.size; have := HB5.out; omega⟩⟩
            case measure => simp [intOf]; omega
        · obtain rfl : k = n := by omega
          have hfin := HP.out.1
          rw [List.take_of_length_le (by have := HLX.out; omega)] at hfin
          have hq : (Dg.knot xs ys).length = q := by rw [hfin]; exact HM.out.1.symm
          have hok : ∀ y ∈ Dg.knot xs ys, (fun h : List UInt8 => h.length = 32) y := fun y hy => HOX.out y ((Dg.mem_knot ys xs y).1 hy).1
          have ho9 : w0.ownsRow (b + 1) 52 32 (.slice A3 (Dg.knot xs ys).length c3) (Dg.knot xs ys).length (flt bvs (Dg.knot xs ys)) := by rw [hq, hfin]; exact HO.out
          have HL := Lib.hid (IsList.of_own hbs_len (by decide) hok ho9)
          have HQ := Lib.hid hq
          clear hq hfin ho9 hok
          go_wp2
          go_ret
          rw [← HQ.out]
          exact ⟨A3, c3, rfl, HK.out.1, HL.out⟩
end Go.Proofs.Ytmjpaopobnhckaa
