/-
  The document's own bytes of a digest.
-/
import Derived.Test.YtmjpaopobnhckaaDgR
import Derived.Test.YtmjpaopobnhckaaDgP
import Derived.Test.YtmjpaopobnhckaaRfNu
import Derived.Test.YtmjpaopobnhckaaRaw
namespace Go.Proofs.Ytmjpaopobnhckaa
open Go.RowKit Go.BigFrame
set_option linter.unusedVariables false
set_option linter.unusedSimpArgs false

theorem add_str (a b : List UInt8) (ha : a.length ≤ 8000) (hb : b.length ≤ 8000) : ¬ 9223372036854775807 < (strOf a).size + (strOf b).size ∧ strOf a ++ strOf b = strOf (a ++ b) := by
  refine ⟨?_, strOf_append a b⟩
  rw [strOf_size, strOf_size]; omega
theorem num_still (x : Nat) (n : Nat) (V : World) (hx : x < 18446744073709551616) (h1 : 1 ≤ n) (h8 : n ≤ 8) :
    Calls Try.prog 32 #[.int .u64 (x : Int), .int .i64 (n : Int)] V fun e w' => e = .returned (.string (strOf (nb (x : Int) n))) ∧ Keeps (fun _ => False) V w' :=
  (refNum_ok (x : Int) n V (by omega) (by omega) h1 h8).mono (fun _ _ h => ⟨h.1, Below.still h.2⟩)
theorem take_fm {α β : Type} (f : α → List β) {l : List α} {i : Nat} {x : α} (h : l[i]? = some x) : (l.take (i + 1)).flatMap f = (l.take i).flatMap f ++ f x := by
  obtain ⟨h1, h2⟩ := List.getElem?_eq_some_iff.1 h
  rw [List.take_succ_eq_append_getElem h1, h2, List.flatMap_append]
  simp
theorem kb_len {k : Ft.Key} (h : Ft.Key.Ok k) : (Dg.kb k).length = 40 := by unfold Dg.kb; rw [List.length_append, nb_length, h.2]
theorem fm_len {ks : List Ft.Key} (h : ∀ k ∈ ks, Ft.Key.Ok k) : (ks.flatMap Dg.kb).length = ks.length * 40 := by
  induction ks with
  | nil => rfl
  | cons x l ih => rw [List.flatMap_cons, List.length_append, kb_len (h x (by simp)), ih (fun k hk => h k (by simp [hk])), List.length_cons]; omega
theorem fl_len {fs : List (List UInt8)} (h : ∀ k ∈ fs, k.length = 32) : fs.flatten.length = fs.length * 32 := by
  induction fs with
  | nil => rfl
  | cons x l ih => rw [List.flatten_cons, List.length_append, h x (by simp), ih (fun k hk => h k (by simp [hk])), List.length_cons]; omega
set_option maxRecDepth 100000 in
set_option maxHeartbeats 4000000 in
theorem rput_any (w : World) (A A2 : Option Addr) (n c m d : Nat) (xs : List Ft.Key) (ys : List (List UInt8)) (hA : LK w A n c xs) (hB : LH w A2 m d ys) (hn : n ≤ 1000) (hm : m ≤ 1000) :
    Calls Try.prog 20 #[.agg (dcs (.slice A n c) (.slice A2 m d))] w fun e w' => e = .returned (.tuple #[.string (strOf (Dg.put xs ys).1), .int .i64 (Dg.put xs ys).2]) ∧ Keeps (fun _ => False) w w' := by
  have hnx := hA.many
  have hmy := hB.many
  have hokx := hA.okAll
  have hoky := hB.okAll
  obtain ⟨C, hC⟩ : ∃ C, dcs (.slice A n c) (.slice A2 m d) = C := ⟨_, rfl⟩
  obtain ⟨b1, hb1⟩ : ∃ x, w.heap.size = x := ⟨_, rfl⟩
  obtain ⟨W1, hW1⟩ : ∃ V, w.alloc (.cells C 28) = V := ⟨_, rfl⟩
  have k1 : Keeps (fun _ => False) w W1 := by rw [← hW1]; exact (Keeps.refl _ _).alloc _
  have r1 : Row W1 b1 28 [.slice A n c, .slice A2 m d] := by rw [← hW1, ← hb1, ← hC]; exact heap_alloc_new w _
  have K1 := Lib.hid k1
  have R1 := Lib.hid r1
  have HA := Lib.hid (hA.later k1)
  have HB := Lib.hid (hB.later k1)
  have c0 : W1.cell? ⟨b1, 0, none⟩ = some (.slice A n c) := r1.cell 0
  have c1 : W1.cell? ⟨b1, 1, none⟩ = some (.slice A2 m d) := r1.cell 1
  rw [hC]
  clear r1 hC hA hB k1
  by_cases hbig : 32 < n ∨ 32 < m
  · have HP : Hid (Dg.put xs ys = ([], 13)) := Lib.hid (by unfold Dg.put; rw [if_pos (by rw [hnx, hmy]; exact hbig)])
    by_cases h1 : 32 < n
    · have h1i : (32 : Int) < (n : Int) := by omega
      clear hbig
      go_enter Try.func20, Try.ntmps20
      go_wp2_with fail
      go_ret2
      rw [HP.out]
      exact ⟨rfl, K1.out⟩
    · have h1i : ¬ (32 : Int) < (n : Int) := by omega
      have h2i : (32 : Int) < (m : Int) := by omega
      clear hbig
      go_enter Try.func20, Try.ntmps20
      go_wp2_with fail
      go_ret2
      rw [HP.out]
      exact ⟨rfl, K1.out⟩
  · have h1i : ¬ (32 : Int) < (n : Int) := by omega
    have h2i : ¬ (32 : Int) < (m : Int) := by omega
    have HN32 : Hid (n ≤ 32 ∧ m ≤ 32) := Lib.hid (by omega)
    have HP : Hid (Dg.put xs ys = (Dg.bytes xs ys, 0)) := Lib.hid (by unfold Dg.put; rw [if_neg (by rw [hnx, hmy]; exact hbig)])
    have HNUM1 : Hid (∀ V : World, Calls Try.prog 32 #[.int .u64 (n : Int), .int .i64 1] V fun e w' => e = .returned (.string (strOf (nb (n : Int) 1))) ∧ Keeps (fun _ => False) V w') := Lib.hid (fun V => num_still n 1 V (by omega) (by decide) (by decide))
    have HLEN := Lib.hid (And.intro hnx hmy)
    have HOX := Lib.hid hokx
    have HOY := Lib.hid hoky
    clear hbig hnx hmy hokx hoky
    go_enter Try.func20, Try.ntmps20
    go_wp2_with fail
    refine (HNUM1.out W1).mono ?_
    rintro e w2 ⟨rfl, k2⟩
    have K2 := Lib.hid k2
    clear k2 hW1 HNUM1 c0 c1
    go_wp2_with fail
    go_loopw [4, 5] (fun sv iv wr => ∃ i : Nat, i ≤ n ∧ sv = .string (strOf (nb (n : Int) 1 ++ (xs.take i).flatMap Dg.kb)) ∧ iv = .int .i64 (i : Int) ∧ Hid (Keeps (fun _ => False) W1 wr)) (fun _ iv _ => n - (intOf iv).toNat)
    case atStart => exact ⟨0, by omega, by simp, rfl, K2⟩
    case round =>
      clear K2
      obtain ⟨i, hi, rfl, rfl, HK⟩ := hrel
      have hl0 : wr.cell? ⟨b1, 0, none⟩ = some (.slice A n c) := (R1.out.keeps HK.out id).cell 0
      have hl1 : wr.cell? ⟨b1, 1, none⟩ = some (.slice A2 m d) := (R1.out.keeps HK.out id).cell 1
      by_cases hlt : i < n
      · have hii : (i : Int) < (n : Int) := by omega
        clear hl1
        obtain ⟨x, hx⟩ : ∃ x, xs[i]? = some x := ⟨_, List.getElem?_eq_getElem (by have := HLEN.out; omega)⟩
        obtain ⟨ad, rfl, hxok, hxc⟩ := keys_at HA.out hx
        have htk := take_fm Dg.kb hx
        have h40 := kb_len hxok
        have hfl : ((xs.take i).flatMap Dg.kb).length = i * 40 := by rw [fm_len (fun k hk => HOX.out k (List.mem_of_mem_take hk)), List.length_take]; have := HLEN.out; omega
        obtain ⟨ks, hks⟩ : ∃ ks, x.1 = ks := ⟨_, rfl⟩
        have hk0 := hxc 0 (.int .u64 (x.1 : Int)) rfl
        rw [hks] at hk0
        have hk64 : ks ≤ 18446744073709551615 := by rw [← hks]; exact hxok.1
        have hkr : ∀ j v, (bvs x.2)[j]? = some v → W1.cell? (((ad.add (i * 33)).add 1).add j) = some v := fun j v hv => by
          rw [Addr.add_add, Nat.add_comm 1 j]
          exact hxc (j + 1) v (by unfold kcs; rw [List.getElem?_cons_succ]; exact hv)
        have hadd3 := add_str (nb (x.1 : Int) 8) x.2 (by rw [nb_length]; omega) (by rw [hxok.2]; omega)
        have hadd4 := add_str (nb (n : Int) 1 ++ (xs.take i).flatMap Dg.kb) (Dg.kb x) (by rw [List.length_append, nb_length, hfl]; have := HN32.out; omega) (by rw [h40]; omega)
        rw [List.append_assoc, ← htk] at hadd4
        have hraw := fun V => raw_any x.2 V hxok.2
        have hnum := fun V => num_still x.1 8 V (by rw [hks]; omega) (by decide) (by decide)
        have hkbe : nb (x.1 : Int) 8 ++ x.2 = Dg.kb x := rfl
        rw [hkbe] at hadd3
        rw [hks] at hnum hadd3
        have SXL : Hid ((Try.prog.info? 52).map (·.size) = some (bvs x.2).length) := Lib.hid (by rw [bvs_length, hxok.2]; exact info_h)
        obtain ⟨XL, hXL⟩ : ∃ L, bvs x.2 = L := ⟨_, rfl⟩
        rw [hXL] at hkr hraw SXL
        obtain ⟨S0, hS0⟩ : ∃ S, strOf (nb (n : Int) 1 ++ (xs.take i).flatMap Dg.kb) = S := ⟨_, rfl⟩
        obtain ⟨S1, hS1⟩ : ∃ S, strOf (nb (ks : Int) 8) = S := ⟨_, rfl⟩
        obtain ⟨S2, hS2⟩ : ∃ S, strOf x.2 = S := ⟨_, rfl⟩
        obtain ⟨S3, hS3⟩ : ∃ S, strOf (Dg.kb x) = S := ⟨_, rfl⟩
        obtain ⟨S4, hS4⟩ : ∃ S, strOf (nb (n : Int) 1 ++ (xs.take (i + 1)).flatMap Dg.kb) = S := ⟨_, rfl⟩
        rw [hS0]
        rw [hS1, hS2, hS3] at hadd3
        rw [hS0, hS3, hS4] at hadd4
        rw [hS1] at hnum
        rw [hS2] at hraw
        have HA3 := Lib.hid hadd3
        have HA4 := Lib.hid hadd4
        have HS4 := Lib.hid hS4
        have HC0 : Hid (∀ V, Later wr V → V.cell? ⟨b1, 0, none⟩ = some (.slice (some ad) n c)) := Lib.hid (fun V hV => (R1.out.keeps (HK.out.trans hV.out) id).cell 0)
        have HKS : Hid (∀ V, Later wr V → V.cell? ((ad.add (i * 33)).add 0) = some (.int .u64 (ks : Int))) := Lib.hid (fun V hV => ((HK.out.trans hV.out).cell (World.block_lt_of_cell? _ _ hk0) id).trans hk0)
        have HXL : Hid (∀ V, Later wr V → ∀ j v, XL[j]? = some v → V.cell? (((ad.add (i * 33)).add 1).add j) = some v) := Lib.hid (fun V hV j v hv => ((HK.out.trans hV.out).cell (World.block_lt_of_cell? _ _ (hkr j v hv)) id).trans (hkr j v hv))
        have HNUM : Hid (∀ V, Later wr V → Calls Try.prog 32 #[.int .u64 (ks : Int), .int .i64 8] V fun e w' => e = .returned (.string S1) ∧ Later wr w') := Lib.hid (fun V hV => (hnum V).mono (fun e w' h => ⟨h.1, ⟨hV.out.trans h.2⟩⟩))
        have HRAW : Hid (∀ V, Later wr V → Calls Try.prog 33 #[.agg XL.toArray] V fun e w' => e = .returned (.string S2) ∧ Later wr w') := Lib.hid (fun V hV => (hraw V).mono (fun e w' h => ⟨h.1, ⟨hV.out.trans h.2⟩⟩))
        clear hx hxok hxc htk h40 hfl hk0 hks hkr hadd3 hadd4 hraw hnum hkbe hXL hS0 hS1 hS2 hS3 hS4 hk64
        go_wp2_with fail
        refine wp_region_class (Later wr) (by kernel_rfl) (by kernel_rfl) (⟨(Keeps.refl _ _).drew⟩) ?_
        refine class_value (by rfl) (.string S0) (fun V hV => by go_simp) ?_
        simp only [Act.put, List.setIfInBounds_toArray, List.set_cons_zero, List.set_cons_succ]
        refine class_value (by rfl) (.pointer (some ⟨b1, 0, none⟩)) (fun V hV => by go_simp) ?_
        simp only [Act.put, List.setIfInBounds_toArray, List.set_cons_zero, List.set_cons_succ]
        refine class_cell (by rfl) 22 (.tmp 30) (by rfl) ⟨b1, 0, none⟩ (by rfl) (.slice (some ad) n c) _ (fun V hV => HC0.out V hV) Try.underlying22 rfl ?_
        simp only [Act.put, List.setIfInBounds_toArray, List.set_cons_zero, List.set_cons_succ]
        refine class_value (by rfl) (.int .i64 (i : Int)) (fun V hV => by go_simp) ?_
        simp only [Act.put, List.setIfInBounds_toArray, List.set_cons_zero, List.set_cons_succ]
        refine class_value (by rfl) (.pointer (some (ad.add (i * 33)))) (fun V hV => by go_simp) ?_
        simp only [Act.put, List.setIfInBounds_toArray, List.set_cons_zero, List.set_cons_succ]
        refine class_value (by rfl) (.pointer (some ((ad.add (i * 33)).add 0))) (fun V hV => by go_simp) ?_
        simp only [Act.put, List.setIfInBounds_toArray, List.set_cons_zero, List.set_cons_succ]
        refine class_cell (by rfl) 50 (.tmp 34) (by rfl) ((ad.add (i * 33)).add 0) (by rfl) (.int .u64 (ks : Int)) _ (fun V hV => HKS.out V hV) Try.underlying50 rfl ?_
        simp only [Act.put, List.setIfInBounds_toArray, List.set_cons_zero, List.set_cons_succ]
        refine class_callW (by rfl) _ _ (.string S1) (fun _ => by go_simp) (fun V hV => HNUM.out V hV) ?_
        simp only [Act.put, List.setIfInBounds_toArray, List.set_cons_zero, List.set_cons_succ]
        refine class_value (by rfl) (.pointer (some ⟨b1, 0, none⟩)) (fun V hV => by go_simp) ?_
        simp only [Act.put, List.setIfInBounds_toArray, List.set_cons_zero, List.set_cons_succ]
        refine class_cell (by rfl) 22 (.tmp 37) (by rfl) ⟨b1, 0, none⟩ (by rfl) (.slice (some ad) n c) _ (fun V hV => HC0.out V hV) Try.underlying22 rfl ?_
        simp only [Act.put, List.setIfInBounds_toArray, List.set_cons_zero, List.set_cons_succ]
        refine class_value (by rfl) (.int .i64 (i : Int)) (fun V hV => by go_simp) ?_
        simp only [Act.put, List.setIfInBounds_toArray, List.set_cons_zero, List.set_cons_succ]
        refine class_value (by rfl) (.pointer (some (ad.add (i * 33)))) (fun V hV => by go_simp) ?_
        simp only [Act.put, List.setIfInBounds_toArray, List.set_cons_zero, List.set_cons_succ]
        refine class_value (by rfl) (.pointer (some ((ad.add (i * 33)).add 1))) (fun V hV => by go_simp) ?_
        simp only [Act.put, List.setIfInBounds_toArray, List.set_cons_zero, List.set_cons_succ]
        refine class_any (by rfl) 52 (.tmp 41) (by rfl) ((ad.add (i * 33)).add 1) (by rfl) XL _ (fun V hV => HXL.out V hV) Try.underlying52 rfl SXL.out ?_
        simp only [Act.put, List.setIfInBounds_toArray, List.set_cons_zero, List.set_cons_succ]
        refine class_callW (by rfl) _ _ (.string S2) (fun _ => by go_simp) (fun V hV => HRAW.out V hV) ?_
        simp only [Act.put, List.setIfInBounds_toArray, List.set_cons_zero, List.set_cons_succ]
        refine class_value (by rfl) (.string S3) (fun V hV => by have h1 := HA3.out.1; have h2 := HA3.out.2; go_simp) ?_
        simp only [Act.put, List.setIfInBounds_toArray, List.set_cons_zero, List.set_cons_succ]
        refine class_value (by rfl) (.string S4) (fun V hV => by have h1 := HA4.out.1; have h2 := HA4.out.2; go_simp) ?_
        simp only [Act.put, List.setIfInBounds_toArray, List.set_cons_zero, List.set_cons_succ]
        refine class_value (by rfl) (.string S4) (fun V hV => by go_simp) ?_
        simp only [Act.put, List.setIfInBounds_toArray, List.set_cons_zero, List.set_cons_succ]
        refine wpQuiet_nil ?_
        intro V6 k6
        have K6 := Lib.hid (HK.out.trans k6.out)
        clear k6 HC0 HKS HXL HNUM HRAW hl0
        go_wp2
        go_roundw
        case rel => exact ⟨i + 1, by omega, by rw [HS4.out], by go_num, K6⟩
        case measure => simp [intOf]; omega
      · obtain rfl : i = n := by omega
        have hfull : xs.take i = xs := List.take_of_length_le (by have := HLEN.out; omega)
        rw [hfull]
        have HNUM1 : Hid (∀ V : World, Calls Try.prog 32 #[.int .u64 (m : Int), .int .i64 1] V fun e w' => e = .returned (.string (strOf (nb (m : Int) 1))) ∧ Keeps (fun _ => False) V w') := Lib.hid (fun V => num_still m 1 V (by have := HN32.out; omega) (by decide) (by decide))
        have hxl : (xs.flatMap Dg.kb).length = i * 40 := by rw [fm_len (fun k hk => HOX.out k hk)]; have := HLEN.out; omega
        obtain ⟨T0, hT0⟩ : ∃ T, nb (i : Int) 1 ++ xs.flatMap Dg.kb = T := ⟨_, rfl⟩
        have HT0 : Hid (T0.length = 1 + i * 40 ∧ nb (i : Int) 1 ++ xs.flatMap Dg.kb = T0) := Lib.hid ⟨by rw [← hT0, List.length_append, nb_length, hxl], hT0⟩
        rw [hT0]
        obtain ⟨h1s, h2s⟩ := add_str T0 (nb (m : Int) 1) (by have := HT0.out.1; have := HN32.out; omega) (by rw [nb_length]; omega)
        clear hT0 hxl hfull hlt
        go_wp2_with fail
        refine (HNUM1.out wr).mono ?_
        rintro e w3 ⟨rfl, k3⟩
        have K3 := Lib.hid (HK.out.trans k3)
        clear k3 HNUM1 hl1 hl0
        go_wp2_with fail
        clear h1s h2s
        go_loopw [4, 6] (fun sv iv wr => ∃ i : Nat, i ≤ m ∧ sv = .string (strOf (T0 ++ (nb (m : Int) 1 ++ (ys.take i).flatten))) ∧ iv = .int .i64 (i : Int) ∧ Hid (Keeps (fun _ => False) W1 wr)) (fun _ iv _ => m - (intOf iv).toNat)
        case atStart => exact ⟨0, by omega, by simp, rfl, K3⟩
        case round =>
          clear K3 HK
          obtain ⟨j, hj, rfl, rfl, HK⟩ := hrel
          have hl1 : wr.cell? ⟨b1, 1, none⟩ = some (.slice A2 m d) := (R1.out.keeps HK.out id).cell 1
          by_cases hlt : j < m
          · have hji : (j : Int) < (m : Int) := by omega
            obtain ⟨y, hy⟩ : ∃ y, ys[j]? = some y := ⟨_, List.getElem?_eq_getElem (by have := HLEN.out; omega)⟩
            obtain ⟨ad, rfl, hyok, hyc⟩ := hashes_at HB.out hy
            have hyok' : y.length = 32 := hyok
            have htk : (ys.take (j + 1)).flatten = (ys.take j).flatten ++ y := by
              obtain ⟨h1, h2⟩ := List.getElem?_eq_some_iff.1 hy
              rw [List.take_succ_eq_append_getElem h1, h2, List.flatten_append]
              simp
            have hfl : ((ys.take j).flatten).length = j * 32 := by rw [fl_len (fun k hk => HOY.out k (List.mem_of_mem_take hk)), List.length_take]; have := HLEN.out; omega
            have hadd := add_str (T0 ++ (nb (m : Int) 1 ++ (ys.take j).flatten)) y (by rw [List.length_append, List.length_append, nb_length, hfl]; have := HT0.out.1; have := HN32.out; omega) (by rw [hyok']; omega)
            have e9 : T0 ++ (nb (m : Int) 1 ++ (ys.take j).flatten) ++ y = T0 ++ (nb (m : Int) 1 ++ (ys.take (j + 1)).flatten) := by rw [htk]; simp
            rw [e9] at hadd
            have hraw := fun V => raw_any y V hyok'
            have SYL : Hid ((Try.prog.info? 52).map (·.size) = some (bvs y).length) := Lib.hid (by rw [bvs_length, hyok']; exact info_h)
            obtain ⟨YL, hYL⟩ : ∃ L, bvs y = L := ⟨_, rfl⟩
            rw [hYL] at hyc hraw SYL
            obtain ⟨S0, hS0⟩ : ∃ S, strOf (T0 ++ (nb (m : Int) 1 ++ (ys.take j).flatten)) = S := ⟨_, rfl⟩
            obtain ⟨S1, hS1⟩ : ∃ S, strOf y = S := ⟨_, rfl⟩
            obtain ⟨S2, hS2⟩ : ∃ S, strOf (T0 ++ (nb (m : Int) 1 ++ (ys.take (j + 1)).flatten)) = S := ⟨_, rfl⟩
            rw [hS0]
            rw [hS0, hS1, hS2] at hadd
            rw [hS1] at hraw
            obtain ⟨h1s, h2s⟩ := hadd
            have HYC : Hid (∀ q v, YL[q]? = some v → wr.cell? ((ad.add (j * 32)).add q) = some v) := Lib.hid (fun q v hv => (HK.out.cell (World.block_lt_of_cell? _ _ (hyc q v hv)) id).trans (hyc q v hv))
            have HRAW := Lib.hid hraw
            have HS2 := Lib.hid hS2
            clear hy hyok hyok' hyc htk hfl e9 hraw hYL hS0 hS1 hS2
            go_wp2_with (first
              | (refine wpList_load_any19 (by rfl) 52 (.tmp 64) (by rfl) (ad.add (j * 32)) (by rfl) YL _ HYC.out Try.underlying52 rfl SYL.out ?_)
              | fail)
            refine (HRAW.out wr).mono ?_
            rintro e w4 ⟨rfl, k4⟩
            have K4 := Lib.hid (HK.out.trans k4)
            clear k4 HRAW HYC hl1
            go_wp2
            go_roundw
            case rel => exact ⟨j + 1, by omega, by rw [HS2.out], by go_num, K4⟩
            case measure => simp [intOf]; omega
          · obtain rfl : j = m := by omega
            have hfy : ys.take j = ys := List.take_of_length_le (by have := HLEN.out; omega)
            rw [hfy]
            have HFIN : Hid (T0 ++ (nb (j : Int) 1 ++ ys.flatten) = Dg.bytes xs ys) := Lib.hid (by rw [← HT0.out.2]; unfold Dg.bytes; rw [HLEN.out.1, HLEN.out.2])
            clear hfy
            go_wp2
            go_ret2
            rw [HP.out, HFIN.out]
            exact ⟨rfl, K1.out.trans HK.out⟩
end Go.Proofs.Ytmjpaopobnhckaa
