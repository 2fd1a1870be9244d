/-
  The document's own hash (assayerref02.Of), whole. WRITTEN BY wip/gen/mksol.py.
-/
import Derived.Test.YtfokemminjikpaaDoorSoK
import Derived.Test.YtfokemminjikpaaDoorSoM
namespace Go.Proofs.YtfokemminjikpaaDoor
open Go.RowKit
set_option linter.unusedVariables false

def strLen : Value → Nat
  | .string s => s.size
  | _ => 0
set_option maxRecDepth 100000 in
set_option maxHeartbeats 40000000 in
theorem rof_any (xs : List UInt8) (w : World) (hx : xs.length ≤ 400) :
    Calls Tryd.prog 15 #[.string (strOf xs)] w fun e w' => e = .returned (.agg (bvs (Sh.sha xs)).toArray) ∧ Keeps (fun _ => False) w w' := by
  obtain ⟨Z, hZ⟩ : ∃ Z : Array Value, (bvs (List.replicate 32 0)).toArray = Z := ⟨_, rfl⟩
  have hz : ∀ w : World, (zeroValue 24).run Tryd.prog w = .ok (.agg Z) w := fun _ => by subst hZ; kernel_rfl
  have HZ := Lib.hid hZ
  obtain ⟨n, hn⟩ : ∃ n, xs.length = n := ⟨_, rfl⟩
  obtain ⟨z, hzn⟩ : ∃ z, (119 - n % 64) % 64 = z := ⟨_, rfl⟩
  have hsz : (strOf xs).size = n := hn
  obtain ⟨s, hs⟩ : ∃ s, strOf xs = s := ⟨_, rfl⟩
  have e80 : (strOf xs).size + (ByteArray.mk #[128]).size ≤ 401 := by rw [hsz]; show n + 1 ≤ 401; omega
  rw [hs] at hsz e80 ⊢
  have HS := Lib.hid hs
  clear hZ hs
  go_enter Tryd.func15, Tryd.ntmps15
  go_wp2_with fail
  go_loopw [0] (fun v wr => ∃ j : Nat, j ≤ z ∧ v = .string (strOf (xs ++ 128 :: List.replicate j 0)) ∧ wr = w.alloc (.cells Z 24)) (fun v _ => n + 1 + z - strLen v)
  case atStart => exact ⟨0, by omega, by rw [← HS.out]; show _ = Value.string (strOf (xs ++ [128])); rw [← str_app]; rfl, rfl⟩
  case round =>
    obtain ⟨j, hj, rfl, rfl⟩ := hrel
    obtain ⟨ys, hy⟩ : ∃ ys, xs ++ 128 :: List.replicate j (0 : UInt8) = ys := ⟨_, rfl⟩
    have hl : ys.length = n + 1 + j := by rw [← hy, List.length_append, hn, List.length_cons, List.length_replicate]; omega
    have hy2 : xs ++ 128 :: List.replicate (j + 1) (0 : UInt8) = ys ++ [0] := by rw [← hy, List.replicate_succ', List.append_assoc]; rfl
    rw [hy]
    have hz1 : (strOf ys).size = n + 1 + j := hl
    have hz2 : (strOf ys).size + (ByteArray.mk #[0]).size ≤ 600 := by rw [hz1]; show n + 1 + j + 1 ≤ 600; omega
    have em : (strOf ys ++ ByteArray.mk #[0]).size = n + 1 + j + 1 := by
      rw [show ByteArray.mk #[0] = strOf [0] from rfl, str_app, str_size, List.length_append, hl]
      rfl
    have EM := Lib.hid em
    have HY2 := Lib.hid hy2
    have HY := Lib.hid hy
    have HL := Lib.hid hl
    clear hy hy2 hl em
    by_cases hlt : j < z
    · have hne : ((n : Int) + 1 + j).tmod 64 ≠ 56 := by rw [Int.tmod_eq_emod_of_nonneg (by omega)]; omega
      have hne2 : ((n : Int) + 1 + j) % 64 ≠ 56 := by omega
      go_wp2
      go_roundw
      case rel => exact ⟨j + 1, by omega, by rw [HY2.out, ← str_app]; rfl, by first | rfl | trivial⟩
      case measure =>
        show n + 1 + z - (strOf ys ++ ByteArray.mk #[0]).size < n + 1 + z - (strOf ys).size
        rw [EM.out, str_size, HL.out]
        omega
    · have heq : ((n : Int) + 1 + j).tmod 64 = 56 := by rw [Int.tmod_eq_emod_of_nonneg (by omega)]; omega
      have heq2 : ((n : Int) + 1 + j) % 64 = 56 := by omega
      obtain rfl : j = z := by omega
      obtain ⟨W1, hW1⟩ : ∃ V, w.alloc (.cells Z 24) = V := ⟨_, rfl⟩
      rw [hW1]
      have k1 : Keeps (fun _ => False) w W1 := by rw [← hW1]; exact (Keeps.refl _ _).alloc _
      have hM : (n + 1 + j) % 64 = 56 := by omega
      have hM2 : n + 1 + j ≤ 465 := by omega
      have hzn2 := hzn
      clear heq heq2 hlt hj hzn
      go_wp2_with fail
      go_loopw [0, 4] (fun v iv wr => ∃ i : Nat, i ≤ 8 ∧ iv = .int .i64 i ∧ v = .string (strOf (ys ++ (List.range i).map fun q => UInt8.ofNat (8 * n / 256 ^ (7 - q)))) ∧ Keeps (fun _ => False) W1 wr) (fun _ iv _ => 8 - (intOf iv).toNat)
      case atStart => exact ⟨0, by omega, rfl, by simp, Keeps.refl _ _⟩
      case round =>
        obtain ⟨i, hi, rfl, rfl, hkp⟩ := hrel
        by_cases hlt : i < 8
        · obtain ⟨us, hu⟩ : ∃ us, ys ++ (List.range i).map (fun q => UInt8.ofNat (8 * n / 256 ^ (7 - q))) = us := ⟨_, rfl⟩
          have hul : us.length = n + 1 + j + i := by rw [← hu, List.length_append, HL.out]; simp
          have hun : ys ++ (List.range (i + 1)).map (fun q => UInt8.ofNat (8 * n / 256 ^ (7 - q))) = us ++ [UInt8.ofNat (8 * n / 256 ^ (7 - i))] := by rw [List.range_succ, List.map_append, ← List.append_assoc, hu]; rfl
          rw [hu]
          have HUN := Lib.hid hun
          have HUL := Lib.hid hul
          clear hu hun hul
          go_wp2_with fail
          go_loopw [5, 6] (fun d kv wi' => ∃ k : Nat, i ≤ k ∧ k ≤ 7 ∧ kv = .int .i64 k ∧ d = .int .u64 (((256 ^ (k - i) : Nat)) : Int) ∧ wi' = wr) (fun _ kv _ => 7 - (intOf kv).toNat)
          case atStart => exact ⟨i, by omega, by omega, rfl, by simp, rfl⟩
          case round =>
            obtain ⟨k, hk1, hk2, rfl, rfl, rfl⟩ := hrel
            by_cases hlt2 : k < 7
            · have hp : (256 : Nat) ^ (k + 1 - i) = 256 ^ (k - i) * 256 := by rw [show k + 1 - i = k - i + 1 by omega, Nat.pow_succ]
              have hb : (256 : Nat) ^ (k - i) ≤ 256 ^ 6 := Nat.pow_le_pow_right (by omega) (by omega)
              obtain ⟨D, hD⟩ : ∃ D, (256 : Nat) ^ (k - i) = D := ⟨_, rfl⟩
              rw [hD] at hp hb ⊢
              have hb2 : D ≤ 281474976710656 := hb
              have HP := Lib.hid hp
              clear hp hb hD
              go_wp2
              go_roundw
              case rel => exact ⟨k + 1, by omega, by omega, by go_num, by rw [HP.out]; go_num, by first | rfl | trivial⟩
              case measure => simp [intOf]; omega
            · obtain rfl : k = 7 := by omega
              have dpos : 0 < (256 : Nat) ^ (7 - i) := Nat.pow_pos (by decide)
              have dle : (256 : Nat) ^ (7 - i) ≤ 256 ^ 7 := Nat.pow_le_pow_right (by omega) (by omega)
              obtain ⟨D, hD⟩ : ∃ D, (256 : Nat) ^ (7 - i) = D := ⟨_, rfl⟩
              rw [hD] at dpos dle HUN ⊢
              obtain ⟨q, hq⟩ : ∃ q, 8 * n / D = q := ⟨_, rfl⟩
              rw [hq] at HUN
              have q1 : q ≤ 8 * n := by rw [← hq]; exact Nat.div_le_self _ _
              obtain ⟨c, hc⟩ : ∃ c, UInt8.ofNat q = c := ⟨_, rfl⟩
              rw [hc] at HUN
              have dle2 : D ≤ 72057594037927936 := dle
              have Q1 : ((n : Int) * 8).tdiv (D : Int) = (q : Int) := by rw [Int.tdiv_eq_ediv_of_nonneg (by omega), ← hq, Nat.mul_comm 8 n]; simp
              have Q2 : ((n : Int) * 8) / (D : Int) = (q : Int) := by rw [← hq, Nat.mul_comm 8 n]; simp
              have C2 : (q : Int) % 256 = (c.toNat : Int) := by rw [← hc, UInt8.toNat_ofNat']; simp
              have C1 : IntKind.u8.wrap (q : Int) = (c.toNat : Int) := by rw [← C2]; exact IntKind.wrap_u8' _
              have D0 : (D : Int) ≠ 0 := by omega
              have HCV : ∀ W : World, (convert 22 9 (.slice (some ⟨W.heap.size, 0, none⟩) 1 1)).run Tryd.prog (W.alloc (.cells #[.int .u8 (c.toNat : Int)] 5)) = .ok (.string (strOf [c])) (W.alloc (.cells #[.int .u8 (c.toNat : Int)] 5)) := fun W =>
                run_string_src (P := Tryd.prog) (W.alloc (.cells #[.int .u8 (c.toNat : Int)] 5)) 22 9 5 Tryd.underlying22 Tryd.underlying5 Tryd.underlying9 (some ⟨W.heap.size, 0, none⟩) [c] 1 (fun j u hu => ⟨_, rfl, World.news_of_block (heap_alloc_new W _) j u hu⟩)
              have hsz1 : (strOf us).size + (strOf [c]).size ≤ 600 := by rw [str_size, str_size, HUL.out, List.length_singleton]; omega
              have hK : Hid (Keeps (fun _ => False) W1 (wr.alloc (.cells #[.int .u8 (c.toNat : Int)] 5))) := hkp.alloc _
              clear hD hq hc dle hkp hlt2 hk1 hk2
              go_wp2
              go_roundw
              case rel => exact ⟨i + 1, by omega, by go_num, by rw [HUN.out, ← str_app], hK.out⟩
              case measure => simp [intOf]; omega
        · obtain rfl : i = 8 := by omega
          have hpad : ys ++ (List.range 8).map (fun q => UInt8.ofNat (8 * n / 256 ^ (7 - q))) = Sh.pad xs := by
            rw [← HY.out]
            unfold Sh.pad Sh.padL
            rw [hn, List.append_assoc, List.cons_append]
            subst hzn2
            rfl
          rw [hpad]
          have hPl : (Sh.pad xs).length = n + 1 + j + 8 := by rw [← hpad, List.length_append, HL.out]; simp
          obtain ⟨P, hP⟩ : ∃ P, Sh.pad xs = P := ⟨_, rfl⟩
          rw [hP] at hPl ⊢
          have HP := Lib.hid hP
          have HPL := Lib.hid hPl
          clear hpad hP hPl hlt
          go_wp2_with fail
          refine (roots_any _).mono ?_
          rintro e w2 ⟨rfl, hw2⟩
          have r2 : Row w2 wr.heap.size 65 (wvs Sh.roots) := by rw [hw2]; exact heap_alloc_new wr _
          have kp2 : Keeps (fun _ => False) W1 w2 := by rw [hw2]; exact hkp.alloc _
          have b2 : wr.heap.size < w2.heap.size := by rw [hw2]; simp
          obtain ⟨w3, hw3⟩ : ∃ V, w2.alloc (.cells #[.int .u32 1779033703, .int .u32 3144134277, .int .u32 1013904242, .int .u32 2773480762, .int .u32 1359893119, .int .u32 2600822924, .int .u32 528734635, .int .u32 1541459225] 65) = V := ⟨_, rfl⟩
          have r3 : Row w3 w2.heap.size 65 (wvs Sh.st0.list) := by rw [← hw3]; exact heap_alloc_new w2 _
          have kp3 : Keeps (fun _ => False) w2 w3 := by rw [← hw3]; exact (Keeps.refl _ _).alloc _
          have r23 := r2.keeps kp3 id
          have K3 := Lib.hid ((k1.trans kp2).trans kp3)
          have R23 := Lib.hid r23
          have b3 : w2.heap.size < w3.heap.size := by rw [← hw3]; simp
          have o1 : Row W1 w.heap.size 24 (bvs (List.replicate 32 0)) := by
            rw [← hW1]
            have := heap_alloc_new w (.cells Z 24)
            rw [← HZ.out] at this ⊢
            exact this
          have HO1 : Hid (Row w3 w.heap.size 24 (bvs (List.replicate 32 0))) := Lib.hid (o1.keeps (kp2.trans kp3) id)
          have hb1 : w.heap.size < w3.heap.size := HO1.out.lt
          have hob : w.heap.size < wr.heap.size := by have := o1.lt; have := hkp.size; omega
          obtain ⟨g, hg⟩ : ∃ g, wr.heap.size = g := ⟨_, rfl⟩
          obtain ⟨h, hh⟩ : ∃ h, w2.heap.size = h := ⟨_, rfl⟩
          rw [hg] at R23 b2 ⊢
          rw [hh] at r3 b3 b2
          have HH := Lib.hid hh
          have hmul : P.length % 64 = 0 := by rw [HPL.out]; omega
          have hP6 : P.length ≤ 600 := by rw [HPL.out]; omega
          have hgh : g ≠ h := by omega
          have hwh : w.heap.size ≠ h := by omega
          have hwh2 : w.heap.size < h := by omega
          have HMUL := Lib.hid hmul
          have HR3 := Lib.hid r3
          clear hw2 r2 kp2 kp3 r23 hkp hg o1 hmul r3 hW1 k1
          go_wp2_with fail
          clear hw3 hh
          refine loop4 g h P w3 _ ?_ hgh HMUL.out hP6 R23.out HR3.out ?_
          · intro c a a' w hd hp
            exact ⟨hd.trans hp.1, hp.2⟩
          intro w4 h4
          obtain ⟨r4, k4⟩ := h4
          intros
          have R4 := Lib.hid r4
          have K4 := Lib.hid k4
          have s4 := k4.size
          have HO4 : Hid (Row w4 w.heap.size 24 (bvs (List.replicate 32 0))) := Lib.hid (HO1.out.keeps k4 hwh)
          have hb4 := HO4.out.lt
          clear r4 k4
          try simp only [Exit.inBlock, Exit.then]
          try rw [if_pos trivial]
          obtain ⟨w5, hw5⟩ : ∃ V, w4.alloc (.cells Z 24) = V := ⟨_, rfl⟩
          have r5 : Row w5 w4.heap.size 24 (bvs (List.replicate 32 0)) := by
            rw [← hw5]
            have := heap_alloc_new w4 (.cells Z 24)
            rw [← HZ.out] at this ⊢
            exact this
          have k5 : Keeps (fun _ => False) w4 w5 := by rw [← hw5]; exact (Keeps.refl _ _).alloc _
          obtain ⟨b, hb⟩ : ∃ b, w4.heap.size = b := ⟨_, rfl⟩
          have hlt9 := R4.out.lt
          have HH5 : Hid (Row w5 h 65 (wvs (Sh.mixed P).list)) := Lib.hid (R4.out.keeps k5 id)
          have HO5 : Hid (Row w5 w.heap.size 24 (bvs (List.replicate 32 0))) := Lib.hid (HO4.out.keeps k5 id)
          have HK5 := Lib.hid k5
          rw [hb] at r5
          have HR5 := Lib.hid r5
          have hhb : h ≠ b := by omega
          have hwb : w.heap.size ≠ b := by omega
          have hwb2 : w.heap.size < b := by omega
          clear r5 k5
          go_wp2_with fail
          clear hw5 hb
          refine loop9 h b (Sh.mixed P) w5 _ hhb HH5.out HR5.out ?_
          intro w6 h6
          obtain ⟨r6, k6⟩ := h6
          intros
          have HO6 : Hid (Row w6 w.heap.size 24 (bvs (List.replicate 32 0))) := Lib.hid (HO5.out.keeps k6 hwb)
          have HR6 := Lib.hid r6
          have HK6 := Lib.hid k6
          clear r6 k6
          have HKW : Hid (Keeps (fun _ => False) w w6) := Lib.hid (((K3.out.trans' K4.out (fun i hi e => by omega)).trans HK5.out).trans' HK6.out (fun i hi e => by omega))
          obtain ⟨R, hR⟩ : ∃ R, (bvs (Sh.outs (Sh.mixed P))).toArray = R := ⟨_, rfl⟩
          have hsz2 : (Tryd.prog.info? 24).map (·.size) = some R.size := by rw [← hR, List.size_toArray, bvs_length, Sh.outs_length]; exact size_hash'
          have hz2 : (bvs (List.replicate 32 0)).toArray.size = R.size := by rw [← hR, List.size_toArray, bvs_length, List.size_toArray, bvs_length, Sh.outs_length, List.length_replicate]
          have hone : R.all (·.oneCell') = true := by rw [← hR]; exact bvs_all _
          have hr6 : w6.heap[b]? = some (.cells R 24 (0, 0)) := by rw [← hR]; exact HR6.out
          have ho6 : w6.heap[w.heap.size]? = some (.cells (bvs (List.replicate 32 0)).toArray 24 (0, 0)) := HO6.out
          have HSZ := Lib.hid hsz2
          have HZ2 := Lib.hid hz2
          have HONE := Lib.hid hone
          have HRR := Lib.hid hR
          have HRB := Lib.hid hr6
          have HOB := Lib.hid ho6
          clear hsz2 hz2 hone hR hr6 ho6 hsz hz hn
          try simp only [Exit.inBlock, Exit.then]
          try rw [if_pos trivial]
          go_wp2_with (first | (refine wpList_load_row rfl 24 (.tmp 22) rfl b rfl 24 R (0, 0) _ HRB.out Tryd.underlying24 rfl HSZ.out ?_) | (refine wpList_store_row rfl 24 _ _ rfl w.heap.size R rfl rfl 24 (bvs (List.replicate 32 0)).toArray HOB.out HSZ.out HZ2.out HONE.out ?_))
          refine bodyPost_ret (results_cell_row rfl _ _ w.heap.size 24 R (0, 0) _ rfl (setRow_heap _ _ _ _ _ _ HOB.out) Tryd.underlying24 rfl HSZ.out) rfl ?_
          exact ⟨by rw [Sh.sha_mixed, HP.out, HRR.out], HKW.out.trans' (Keeps.setRow w.heap.size R) (fun i hi h => by omega)⟩
end Go.Proofs.YtfokemminjikpaaDoor
