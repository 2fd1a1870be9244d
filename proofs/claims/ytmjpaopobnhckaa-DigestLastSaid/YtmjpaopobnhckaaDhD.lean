/-
  digest.Put: a digest's bytes.
-/
import Derived.Test.YtmjpaopobnhckaaDhA
import Derived.Test.YtmjpaopobnhckaaDgS
import Derived.Test.YtmjpaopobnhckaaWrCa
namespace Go.Proofs.Ytmjpaopobnhckaa
open Go.RowKit Go.BigFrame
set_option linter.unusedVariables false
set_option linter.unusedSimpArgs false

/-- A Writer of the call's own, whose memory is new since W. -/
structure WrN (W w : World) (g : Nat) (r : Option Nat) (xs : List UInt8) : Prop where
  wr : Wr w g r xs
  fresh : ∀ k, r = some k → W.heap.size ≤ k
  at_ : W.heap.size ≤ g
  keeps : Keeps (fun _ => False) W w
theorem WrN.later {W w w' : World} {g : Nat} {r : Option Nat} {xs : List UInt8} (h : WrN W w g r xs) (k : Keeps (fun _ => False) w w') : WrN W w' g r xs :=
  ⟨h.wr.keeps k id (fun _ _ => id), h.fresh, h.at_, h.keeps.trans k⟩
theorem WrN.put {W w w' : World} {g : Nat} {r : Option Nat} {xs ys : List UInt8} {e : Ending} (h : WrN W w g r xs) (hp : WrPut g r ys w e w') : ∃ r', WrN W w' g r' ys ∧ Keeps (fun k => k = g ∨ r = some k) w w' := by
  obtain ⟨_, r', h1, h2, h3⟩ := hp
  refine ⟨r', ⟨h1, fun k hk => ?_, h.at_, h.keeps.trans' h3 (fun i hi hh => ?_)⟩, h3⟩
  · rcases h2 with rfl | ⟨q, hq, rfl⟩
    · exact h.fresh k hk
    · injection hk with hk; have := h.keeps.size; omega
  · have h4 := h.at_
    rcases hh with rfl | hh
    · omega
    · have := h.fresh i hh; omega
set_option maxRecDepth 100000 in
set_option maxHeartbeats 4000000 in
theorem gput_any (w : World) (A A2 : Option Addr) (n c m d : Nat) (xs : List Ft.Key) (ys : List (List UInt8)) (hA : LK w A n c xs) (hB : LH w A2 m d ys) (hn : n ≤ 1000) (hm : m ≤ 1000) :
    Calls Try.prog 19 #[.agg (dcs (.slice A n c) (.slice A2 m d))] w fun e w' => ∃ (A' : Option Addr) (c' : Nat), e = .returned (.tuple #[.slice A' (Dg.put xs ys).1.length c', .int .i64 (Dg.put xs ys).2]) ∧ Keeps (fun _ => False) w w' ∧ LB w' A' (Dg.put xs ys).1.length c' (Dg.put xs ys).1 := by
  have hnx := hA.many
  have hmy := hB.many
  have hokx := hA.okAll
  have hoky := hB.okAll
  have hcn := hA.le
  have hcx := hA.max
  have hdm := hB.le
  have hdx := hB.max
  obtain ⟨C, hC⟩ : ∃ C, dcs (.slice A n c) (.slice A2 m d) = C := ⟨_, rfl⟩
  obtain ⟨b1, hb1⟩ : ∃ x, w.heap.size = x := ⟨_, rfl⟩
  obtain ⟨W1, hW1⟩ : ∃ V, w.alloc (.cells C 26) = V := ⟨_, rfl⟩
  have k1 : Keeps (fun _ => False) w W1 := by rw [← hW1]; exact (Keeps.refl _ _).alloc _
  have r1 : Row W1 b1 26 [.slice A n c, .slice A2 m d] := by rw [← hW1, ← hb1, ← hC]; exact heap_alloc_new w _
  have K1 := Lib.hid k1
  have R1 := Lib.hid r1
  have HA := Lib.hid (hA.later k1)
  have HB := Lib.hid (hB.later k1)
  have c0 : W1.cell? ⟨b1, 0, none⟩ = some (.slice A n c) := r1.cell 0
  have c1 : W1.cell? ⟨b1, 1, none⟩ = some (.slice A2 m d) := r1.cell 1
  rw [hC]
  clear r1 hC hA hB k1
  by_cases hbig : 32 < n ∨ 32 < m
  · have HP : Hid (Dg.put xs ys = ([], 13)) := Lib.hid (by unfold Dg.put; rw [if_pos (by rw [hnx, hmy]; exact hbig)])
    have FIN : Hid (∃ (A' : Option Addr) (c' : Nat), Ending.returned (.tuple #[.slice none 0 0, .int .i64 13]) = .returned (.tuple #[.slice A' (Dg.put xs ys).1.length c', .int .i64 (Dg.put xs ys).2]) ∧ Keeps (fun _ => False) w W1 ∧ LB W1 A' (Dg.put xs ys).1.length c' (Dg.put xs ys).1) := Lib.hid ⟨none, 0, by rw [HP.out]; rfl, K1.out, by rw [HP.out]; exact ⟨rfl, fun j u hu => by simp [bvs] at hu, Nat.le_refl _, by decide⟩⟩
    by_cases h1 : 32 < n
    · have h1i : (32 : Int) < (n : Int) := by omega
      clear hbig
      go_enter Try.func19, Try.ntmps19
      go_wp2_with fail
      go_ret2
      exact FIN.out
    · have h1i : ¬ (32 : Int) < (n : Int) := by omega
      have h2i : (32 : Int) < (m : Int) := by omega
      clear hbig
      go_enter Try.func19, Try.ntmps19
      go_wp2_with fail
      go_ret2
      exact FIN.out
  · have h1i : ¬ (32 : Int) < (n : Int) := by omega
    have h2i : ¬ (32 : Int) < (m : Int) := by omega
    have HN32 : Hid (n ≤ 32 ∧ m ≤ 32) := Lib.hid (by omega)
    have HP : Hid (Dg.put xs ys = (Dg.bytes xs ys, 0)) := Lib.hid (by unfold Dg.put; rw [if_neg (by rw [hnx, hmy]; exact hbig)])
    have HLEN := Lib.hid (And.intro hnx hmy)
    have HOX := Lib.hid hokx
    have HOY := Lib.hid hoky
    obtain ⟨ZK, hZK⟩ : ∃ Z, (kcs (0, List.replicate 32 0)).toArray = Z := ⟨_, rfl⟩
    have hzk : ∀ V : World, (zeroValue 54).run Try.prog V = .ok (.agg ZK) V := fun V => by rw [← hZK]; exact zero_Kh V
    have HZK : Hid (ZK.size = 33) := Lib.hid (by rw [← hZK, List.size_toArray, kcs_length (by simp)])
    obtain ⟨ZH, hZH⟩ : ∃ Z, (bvs (List.replicate 32 0)).toArray = Z := ⟨_, rfl⟩
    have hzh : ∀ V : World, (zeroValue 52).run Try.prog V = .ok (.agg ZH) V := fun V => by rw [← hZH]; exact zero_Hh V
    have HZH : Hid (ZH.size = 32) := Lib.hid (by rw [← hZH, List.size_toArray, bvs_length]; simp)
    clear hbig hnx hmy hokx hoky hZK hZH
    obtain ⟨g, hg⟩ : ∃ x, W1.heap.size = x := ⟨_, rfl⟩
    have HNW := Lib.hid (newWriter_any W1)
    have HW2 := Lib.hid (newWriter_wr W1)
    rw [hg] at HNW HW2
    obtain ⟨W2, hW2⟩ : ∃ V, W1.alloc (.cells #[.slice none 0 0] 90) = V := ⟨_, rfl⟩
    rw [hW2] at HNW HW2
    have HN2 : Hid (WrN W1 W2 g none []) := Lib.hid ⟨HW2.out, fun k h => (by cases h), by omega, by rw [← hW2]; exact (Keeps.refl _ _).alloc _⟩
    have HG := Lib.hid hg
    clear hg hW2
    go_enter Try.func19, Try.ntmps19
    go_wp2_with fail
    refine HNW.out.mono ?_
    rintro e w2 ⟨rfl, hw2⟩
    obtain rfl : W2 = w2 := hw2
    have H3 := Lib.hid (wrNum_at g none [] (n : Int) 1 1 W2 HN2.out.wr (by omega) rfl (by decide) (by decide) (by simp))
    have c0' : W2.cell? ⟨b1, 0, none⟩ = some (.slice A n c) := (R1.out.keeps HN2.out.keeps id).cell 0
    clear c0 c1 hW1 HNW HW2
    go_wp2_with fail
    refine H3.out.mono ?_
    rintro e w3 hp3
    obtain ⟨r3, n3, _⟩ := HN2.out.put hp3
    obtain ⟨rfl, _⟩ := hp3
    rw [List.nil_append] at n3
    have HN3 := Lib.hid n3
    have c0 : w3.cell? ⟨b1, 0, none⟩ = some (.slice A n c) := (R1.out.keeps n3.keeps id).cell 0
    clear n3 H3 HN2 c0'
    go_wp2_with fail
    go_loopw [29] (fun iv wr => ∃ (i : Nat) (r : Option Nat), i ≤ n ∧ iv = .int .i64 (i : Int) ∧ Hid (WrN W1 wr g r (nb (n : Int) 1 ++ (xs.take i).flatMap Dg.kb))) (fun iv _ => n - (intOf iv).toNat)
    case atStart => exact ⟨0, r3, by omega, rfl, by simpa using HN3⟩
    case round =>
      clear HN3 c0
      obtain ⟨i, r, hi, rfl, HN⟩ := hrel
      obtain ⟨w0, hw0⟩ : ∃ V, V = wr := ⟨_, rfl⟩
      subst hw0
      by_cases hlt : i < n
      · have hii : (i : Int) < (n : Int) := by omega
        obtain ⟨x, hx⟩ : ∃ x, xs[i]? = some x := ⟨_, List.getElem?_eq_getElem (by have := HLEN.out; omega)⟩
        obtain ⟨ad, rfl, hxok, hxc⟩ := keys_at HA.out hx
        have htk := take_fm Dg.kb hx
        have hfl : ((xs.take i).flatMap Dg.kb).length = i * 40 := by rw [fm_len (fun k hk => HOX.out k (List.mem_of_mem_take hk)), List.length_take]; have := HLEN.out; omega
        have hxl := kcs_len x hxok
        have hx1 := kcs_one x
        have hkb : Dg.kb x = nb (x.1 : Int) 8 ++ x.2 := rfl
        obtain ⟨ks, hks⟩ : ∃ ks, x.1 = ks := ⟨_, rfl⟩
        obtain ⟨kr, hkr⟩ : ∃ kr, x.2 = kr := ⟨_, rfl⟩
        have hkc : kcs x = .int .u64 (ks : Int) :: bvs kr := by rw [← hks, ← hkr]; rfl
        have hk64 : ks ≤ 18446744073709551615 := by rw [← hks]; exact hxok.1
        have hkl : kr.length = 32 := by rw [← hkr]; exact hxok.2
        rw [hks, hkr] at hkb
        obtain ⟨XL, hXL⟩ : ∃ L, kcs x = L := ⟨_, rfl⟩
        rw [hXL] at hxc hxl hx1 hkc
        have HXC : Hid (∀ j v, XL[j]? = some v → w0.cell? ((ad.add (i * 33)).add j) = some v) := Lib.hid (fun j v hv => (HN.out.keeps.cell (World.block_lt_of_cell? _ _ (hxc j v hv)) id).trans (hxc j v hv))
        have SXL : Hid ((Try.prog.info? 54).map (·.size) = some XL.length) := Lib.hid (by rw [hxl]; exact info_k)
        have SX : Hid ((Try.prog.info? 54).map (·.size) = some XL.toArray.size ∧ ZK.size = XL.toArray.size ∧ XL.toArray.all (·.oneCell') = true) := Lib.hid ⟨by rw [List.size_toArray, hxl]; exact info_k, HZK.out.trans (by rw [List.size_toArray, hxl]), by rw [Array.all_eq_true_iff_forall_mem]; intro v hv; exact hx1 v (by simpa using hv)⟩
        obtain ⟨g1, V1, V2, hg1, hV1, hV2, r1, r2, k2⟩ := lay_digest w0 54 XL.toArray ZK
        have hrow : Row V2 g1 54 (.int .u64 (ks : Int) :: bvs kr) := by rw [← hkc]; exact r2
        have n2 := HN.out.later k2
        have hkr1 : r ≠ some g1 := fun e => by have := (HN.out.wr.row_lt g1 e).1; omega
        have hkg1 : g1 ≠ g := fun e => by have := HN.out.wr.lt; omega
        have H4 := Lib.hid (wrNum_at g r (nb (n : Int) 1 ++ (xs.take i).flatMap Dg.kb) (ks : Int) 8 8 V2 n2.wr (by omega) rfl (by decide) (by decide) (by rw [List.length_append, nb_length, hfl]; have := HN32.out; omega))
        have R1' := Lib.hid r1
        have HROW := Lib.hid hrow
        have HN2 := Lib.hid n2
        have HNE := Lib.hid (And.intro hkr1 hkg1)
        have HKL := Lib.hid hkl
        have HTK : Hid (nb (n : Int) 1 ++ (xs.take (i + 1)).flatMap Dg.kb = nb (n : Int) 1 ++ (xs.take i).flatMap Dg.kb ++ nb (ks : Int) 8 ++ kr) := Lib.hid (by rw [htk, hkb]; simp)
        have HFL : Hid ((nb (n : Int) 1 ++ (xs.take i).flatMap Dg.kb ++ nb (ks : Int) 8).length ≤ 99990000) := Lib.hid (by rw [List.length_append, List.length_append, nb_length, nb_length, hfl]; have := HN32.out; omega)
        have hc0 : V2.cell? ⟨g1, 0, none⟩ = some (.int .u64 (ks : Int)) := hrow.cell 0
        clear hx hxok hxc htk hfl hxl hx1 hkb hks hkr hkc hkl hXL r1 r2 k2 hrow n2 hkr1 hkg1 HN
        go_wp2_with (first
          | (refine wpList_load_any19 (by rfl) 54 (.tmp 31) (by rfl) (ad.add (i * 33)) (by rfl) XL _ HXC.out Try.underlying54 rfl SXL.out ?_)
          | (refine wpList_store_row (by rfl) 54 _ _ (by rfl) g1 XL.toArray (by rfl) (by rfl) 54 ZK R1'.out SX.out.1 SX.out.2.1 SX.out.2.2 ?_; rw [hV2])
          | fail)
        refine H4.out.mono ?_
        rintro e w4 hp4
        obtain ⟨r4, n4, k4⟩ := HN2.out.put hp4
        obtain ⟨rfl, _⟩ := hp4
        have hrow4 := HROW.out.keeps k4 (fun h => h.elim HNE.out.2 HNE.out.1)
        have HR4 : Hid (∀ j v, (bvs kr)[j]? = some v → w4.cell? ((⟨g1, 1, none⟩ : Addr).add j) = some v) := Lib.hid (fun j v hv => by
          have h := hrow4.cell (1 + j)
          rw [show (⟨g1, 1, none⟩ : Addr).add j = ⟨g1, 1 + j, none⟩ from add_plain _ _ _, h, Nat.add_comm 1 j, List.getElem?_cons_succ]
          exact hv)
        have SKR : Hid ((Try.prog.info? 52).map (·.size) = some (bvs kr).length) := Lib.hid (by rw [bvs_length, HKL.out]; exact info_h)
        have H5 := Lib.hid (wrHash_any g r4 _ kr w4 n4.wr HKL.out HFL.out)
        have HN4 := Lib.hid n4
        clear k4 hrow4 n4 H4 hc0
        go_wp2_with (first
          | (refine wpList_load_any19 (by rfl) 52 (.tmp 38) (by rfl) ⟨g1, 1, none⟩ (by rfl) (bvs kr) _ HR4.out Try.underlying52 rfl SKR.out ?_)
          | fail)
        refine H5.out.mono ?_
        rintro e w5 hp5
        obtain ⟨r5, n5, _⟩ := HN4.out.put hp5
        obtain ⟨rfl, _⟩ := hp5
        rw [← HTK.out] at n5
        have HN5 := Lib.hid n5
        clear n5 H5
        go_wp2
        go_roundw
        case rel => exact ⟨i + 1, r5, by omega, by go_num, HN5⟩
        case measure => simp [intOf]; omega
      · obtain rfl : i = n := by omega
        have hfull : xs.take i = xs := List.take_of_length_le (by have := HLEN.out; omega)
        rw [hfull] at HN
        have hxl : (xs.flatMap Dg.kb).length = i * 40 := by rw [fm_len (fun k hk => HOX.out k hk)]; have := HLEN.out; omega
        obtain ⟨T0, hT0⟩ : ∃ T, nb (i : Int) 1 ++ xs.flatMap Dg.kb = T := ⟨_, rfl⟩
        have HT0 : Hid (T0.length = 1 + i * 40 ∧ nb (i : Int) 1 ++ xs.flatMap Dg.kb = T0) := Lib.hid ⟨by rw [← hT0, List.length_append, nb_length, hxl], hT0⟩
        rw [hT0] at HN
        have H6 := Lib.hid (wrNum_at g r T0 (m : Int) 1 1 w0 HN.out.wr (by omega) rfl (by decide) (by decide) (by have := HT0.out.1; have := HN32.out; omega))
        have c1 : w0.cell? ⟨b1, 1, none⟩ = some (.slice A2 m d) := (R1.out.keeps HN.out.keeps id).cell 1
        clear hT0 hxl hfull
        go_wp2_with fail
        refine H6.out.mono ?_
        rintro e w6 hp6
        obtain ⟨r6, n6, _⟩ := HN.out.put hp6
        obtain ⟨rfl, _⟩ := hp6
        have HN6 := Lib.hid n6
        have c2 : w6.cell? ⟨b1, 1, none⟩ = some (.slice A2 m d) := (R1.out.keeps n6.keeps id).cell 1
        clear n6 H6 HN c1
        go_wp2_with fail
        go_loopw [51] (fun iv wr => ∃ (j : Nat) (r : Option Nat), j ≤ m ∧ iv = .int .i64 (j : Int) ∧ Hid (WrN W1 wr g r (T0 ++ nb (m : Int) 1 ++ (ys.take j).flatten))) (fun iv _ => m - (intOf iv).toNat)
        case atStart => exact ⟨0, r6, by omega, rfl, by simpa using HN6⟩
        case round =>
          clear HN6 c2
          obtain ⟨j, r, hj, rfl, HN⟩ := hrel
          obtain ⟨w0, hw0⟩ : ∃ V, V = wr := ⟨_, rfl⟩
          subst hw0
          by_cases hlt : j < m
          · have hji : (j : Int) < (m : Int) := by omega
            obtain ⟨y, hy⟩ : ∃ y, ys[j]? = some y := ⟨_, List.getElem?_eq_getElem (by have := HLEN.out; omega)⟩
            obtain ⟨ad, rfl, hyok, hyc⟩ := hashes_at HB.out hy
            have hyok' : y.length = 32 := hyok
            have htk : (ys.take (j + 1)).flatten = (ys.take j).flatten ++ y := by
              obtain ⟨h1, h2⟩ := List.getElem?_eq_some_iff.1 hy
              rw [List.take_succ_eq_append_getElem h1, h2, List.flatten_append]
              simp
            have hfl : ((ys.take j).flatten).length = j * 32 := by rw [fl_len (fun k hk => HOY.out k (List.mem_of_mem_take hk)), List.length_take]; have := HLEN.out; omega
            have hyl : (bvs y).length = 32 := by rw [bvs_length, hyok']
            have HXC : Hid (∀ q v, (bvs y)[q]? = some v → w0.cell? ((ad.add (j * 32)).add q) = some v) := Lib.hid (fun q v hv => (HN.out.keeps.cell (World.block_lt_of_cell? _ _ (hyc q v hv)) id).trans (hyc q v hv))
            have SXL : Hid ((Try.prog.info? 52).map (·.size) = some (bvs y).length) := Lib.hid (by rw [hyl]; exact info_h)
            have SX : Hid ((Try.prog.info? 52).map (·.size) = some (bvs y).toArray.size ∧ ZH.size = (bvs y).toArray.size ∧ (bvs y).toArray.all (·.oneCell') = true) := Lib.hid ⟨by rw [List.size_toArray, hyl]; exact info_h, HZH.out.trans (by rw [List.size_toArray, hyl]), by rw [Array.all_eq_true_iff_forall_mem]; intro v hv; exact bvs_one y v (by simpa using hv)⟩
            have hwh := fun V (h : WrN W1 V g r (T0 ++ nb (m : Int) 1 ++ (ys.take j).flatten)) => wrHash_any g r (T0 ++ nb (m : Int) 1 ++ (ys.take j).flatten) y V h.wr hyok' (by rw [List.length_append, List.length_append, nb_length, hfl]; have := HT0.out.1; have := HN32.out; omega)
            obtain ⟨YL, hYL⟩ : ∃ L, bvs y = L := ⟨_, rfl⟩
            rw [hYL] at HXC SXL SX hwh
            obtain ⟨g1, V1, V2, hg1, hV1, hV2, r1, r2, k2⟩ := lay_digest w0 52 YL.toArray ZH
            have HN2 := Lib.hid (HN.out.later k2)
            have H4 := Lib.hid (hwh V2 HN2.out)
            have R1' := Lib.hid r1
            have R2 := Lib.hid r2
            have HTK : Hid (T0 ++ nb (m : Int) 1 ++ (ys.take (j + 1)).flatten = T0 ++ nb (m : Int) 1 ++ (ys.take j).flatten ++ y) := Lib.hid (by rw [htk]; simp)
            clear hy hyok hyok' hyc htk hfl hyl hYL r1 r2 k2 HN hwh
            go_wp2_with (first
              | (refine wpList_load_any19 (by rfl) 52 (.tmp 53) (by rfl) (ad.add (j * 32)) (by rfl) YL _ HXC.out Try.underlying52 rfl SXL.out ?_)
              | (refine wpList_store_row (by rfl) 52 _ _ (by rfl) g1 YL.toArray (by rfl) (by rfl) 52 ZH R1'.out SX.out.1 SX.out.2.1 SX.out.2.2 ?_; rw [hV2])
              | (refine wpList_load_row (by rfl) 52 _ (by rfl) g1 (by rfl) 52 YL.toArray (0, 0) _ R2.out Try.underlying52 rfl SX.out.1 ?_)
              | fail)
            refine H4.out.mono ?_
            rintro e w5 hp5
            obtain ⟨r5, n5, _⟩ := HN2.out.put hp5
            obtain ⟨rfl, _⟩ := hp5
            rw [← HTK.out] at n5
            have HN5 := Lib.hid n5
            clear n5 H4
            go_wp2
            go_roundw
            case rel => exact ⟨j + 1, r5, by omega, by go_num, HN5⟩
            case measure => simp [intOf]; omega
          · obtain rfl : j = m := by omega
            have hfull : ys.take j = ys := List.take_of_length_le (by have := HLEN.out; omega)
            rw [hfull] at HN
            have hall : T0 ++ nb (j : Int) 1 ++ ys.flatten = Dg.bytes xs ys := by unfold Dg.bytes; rw [HLEN.out.1, HLEN.out.2, HT0.out.2, List.append_assoc]
            have hyl : ys.flatten.length = j * 32 := by rw [fl_len (fun k hk => HOY.out k hk)]; have := HLEN.out; omega
            have hbl : (Dg.bytes xs ys).length ≤ 100000000 := by rw [← hall, List.length_append, List.length_append, nb_length, hyl]; have := HT0.out.1; have := HN32.out; omega
            rw [hall] at HN
            have H7 := Lib.hid (wrOut_any g r (Dg.bytes xs ys) w0 HN.out.wr hbl)
            clear hfull hall hyl
            go_wp2_with fail
            refine H7.out.mono ?_
            rintro e w7 ⟨A7, c7, rfl, o7, k7⟩
            have K7 := Lib.hid (K1.out.trans (HN.out.keeps.trans k7))
            have O7 := Lib.hid o7
            clear o7 k7 H7
            go_wp2
            go_ret2
            obtain ⟨A8, c8, hv, h1, h2, h3⟩ := RowIn.of_own O7.out
            injection hv with q1 q2 q3
            subst q1 q3
            rw [HP.out]
            exact ⟨_, _, rfl, K7.out, rfl, Src.of_own O7.out, h1, by unfold maxLen at h2; omega⟩
end Go.Proofs.Ytmjpaopobnhckaa
