/-
  The document's own proof that a tree goes on (assayerref04.Proof), put together from its end. WRITTEN BY wip/gen/mkrtq.py.
-/
import Derived.Test.YtnnhbgaeohdojaaDoorRtP
import Derived.Test.YtnnhbgaeohdojaaDoorTrM
namespace Go.Proofs.YtnnhbgaeohdojaaDoor
open Go.RowKit Go.BigFrame
set_option linter.unusedVariables false

theorem rproof_out (A : Option Addr) (n c : Nat) (m : Int) (w : World) (hi : m < 1 ∨ (n : Int) < m) :
    Calls Tryd.prog 24 #[.slice A n c, .int .i64 m] w fun e w' => e = .returned (.tuple #[.slice none 0 0, .int .i64 15]) ∧ w' = w := by
  rcases Int.lt_or_le m 1 with h | h
  · clear hi
    go_enter Tryd.func24, Tryd.ntmps24
    go_wp2
    go_ret2
    exact ⟨rfl, rfl⟩
  · have h2 : (n : Int) < m := by omega
    have h3 : ¬ m < 1 := by omega
    clear hi
    go_enter Tryd.func24, Tryd.ntmps24
    go_wp2
    go_ret2
    exact ⟨rfl, rfl⟩
set_option maxRecDepth 100000 in
set_option maxHeartbeats 4000000 in
theorem rproof_in (ad : Addr) (c : Nat) (l : List (List UInt8)) (i : Nat) (w : World) (hS : StrsAt w (some ad) l) (hi1 : 1 ≤ i) (hi : i ≤ l.length) (hc : l.length ≤ c) (hmax : c ≤ 9223372036854775807) (hn : l.length ≤ 1000) (h399 : ∀ x ∈ l, x.length ≤ 399) :
    Calls Tryd.prog 24 #[.slice (some ad) l.length c, .int .i64 (i : Int)] w fun e w' => ∃ v, e = .returned (.tuple #[v, .int .i64 0]) ∧ w'.ownsRow w.heap.size 34 32 v (Tr.prf l i true).length (flat (Tr.prf l i true)) ∧ Keeps (fun _ => False) w w' := by
  obtain ⟨n, hnn⟩ : ∃ n, l.length = n := ⟨_, rfl⟩
  obtain ⟨P0, hP0⟩ : ∃ P, Tr.prf l i true = P := ⟨_, rfl⟩
  obtain ⟨ih, zh, hih, hzh, hsh, hbh, hzsh⟩ := info_hash
  have HHH := Lib.hid (And.intro hih (And.intro hzh (And.intro hsh (And.intro hbh hzsh))))
  obtain ⟨base, hbase⟩ : ∃ b, w.heap.size = b := ⟨_, rfl⟩
  have HB0 := Lib.hid hbase
  have HNN := Lib.hid hnn
  have HP0 := Lib.hid hP0
  have HS := Lib.hid hS
  have H399 := Lib.hid h399
  rw [hnn] at hi hc hn ⊢
  rw [hP0, hbase]
  have hd0 : decide ((i : Int) < 1) = false := by rw [decide_eq_false_iff_not]; omega
  have hd2 : decide (i = 0) = false := by rw [decide_eq_false_iff_not]; omega
  have hd1 : decide (n < i) = false := by rw [decide_eq_false_iff_not]; omega
  have h00 : w.ownsRow base 34 32 (.slice none 0 0) 0 (flat []) := World.ownsRow_nil _ _ _ _
  have H00 := Lib.hid h00
  clear hnn hP0 hS h399 h00 hbase hih hzh hsh hbh hzsh
  go_enter Tryd.func24, Tryd.ntmps24
  go_wp2_with fail
  go_loopw [0, 1, 6, 7, 8] (fun lv iv ov kv bv wr => ∃ (a : Addr) (c1 : Nat) (l1 : List (List UInt8)) (n1 j : Nat) (q : Bool) (ps : List (List UInt8)) (m : Nat) (A6 : Option Addr) (c6 : Nat),
    lv = .slice (some a) n1 c1 ∧ iv = .int .i64 (j : Int) ∧ ov = .slice A6 m c6 ∧ kv = .bool q ∧ 1 ≤ j ∧ j ≤ n1 ∧ n1 ≤ c1 ∧ c1 ≤ 9223372036854775807 ∧ n1 + m ≤ n ∧ Hid (l1.length = n1 ∧ ps.length = m ∧ StrsAt w (some a) l1 ∧ (∀ x ∈ l1, x.length ≤ 399) ∧ Tr.prf l1 j q ++ ps = P0 ∧ (∀ p ∈ ps, p.length = 32)) ∧ Hid (wr.ownsRow base 34 32 (.slice A6 m c6) m (flat ps)) ∧ Hid (Keeps (fun _ => False) w wr)) (fun lv _ _ _ _ _ => lenOf lv)
  case atStart => exact ⟨ad, c, l, n, i, true, [], 0, none, 0, rfl, rfl, rfl, rfl, hi1, hi, hc, hmax, by omega, Lib.hid ⟨HNN.out, rfl, HS.out, H399.out, by rw [List.append_nil]; exact HP0.out, fun _ h => by cases h⟩, H00, Lib.hid (Keeps.refl _ _)⟩
  case round =>
    clear H00 hi1 hi hc hmax HNN HP0 HS H399
    obtain ⟨a, c1, l1, n1, j, q, ps, m, A6, c6, rfl, rfl, rfl, rfl, hj1, hj, hc1, hmax, hnm, HL, HO, HK⟩ := hrel
    have hbsz : base ≤ wr.heap.size := by rw [← HB0.out]; exact HK.out.size
    by_cases hone : j = n1
    · subst hone
      have hfin := HL.out.2.2.2.2.1
      have hpe := Tr.prf_eq l1 q
      rw [HL.out.1] at hpe
      rw [hpe] at hfin
      cases q with
      | true =>
        rw [if_pos rfl, List.nil_append] at hfin
        have HF := Lib.hid hfin
        clear hpe hfin
        go_wp2_with fail
        go_ret2
        exact ⟨_, rfl, by rw [← HF.out, HL.out.2.1]; exact HO.out, HK.out⟩
      | false =>
        rw [if_neg (by decide)] at hfin
        have hpm := hfin.symm
        have hSw := HL.out.2.2.1.keeps HK.out (fun _ _ => id)
        have hld : l1.length = j := HL.out.1
        have hrt : ∀ V, Keeps (fun _ => False) wr V → Calls Tryd.prog 17 #[.slice (some a) j c1] V fun e w' => e = .returned (.agg (bvs (Tr.root (l1))).toArray) ∧ Keeps (fun _ => False) V w' := fun V hV => by
          have h := rroot_any (some a) c1 (l1) V (hSw.keeps hV (fun _ _ => id)) (by rw [hld]; omega) (fun x hx => HL.out.2.2.2.1 x hx)
          rw [hld] at h
          exact h
        obtain ⟨L, hL⟩ : ∃ L, Tr.root (l1) = L := ⟨_, rfl⟩
        have hL32 : L.length = 32 := by rw [← hL]; exact Tr.root_length _
        rw [hL] at hpm hrt
        have hbh := fun V => build_hash L hL32 V
        have hll := bvs_length L
        rw [hL32] at hll
        obtain ⟨R, hR⟩ : ∃ R, bvs L = R := ⟨_, rfl⟩
        rw [hR] at hrt hbh hll
        have HRT := Lib.hid hrt
        have HBH := Lib.hid hbh
        have HLL := Lib.hid hll
        have HL32 := Lib.hid hL32
        have HRR := Lib.hid hR
        have HPM := Lib.hid hpm
        clear hpe hfin hpm hld hrt hL hbh hll hL32 hR hSw
        go_wp2_with (first
          | (go_at_call 17; refine (HRT.out _ (Keeps.refl _ _)).mono ?_; rintro e w9 ⟨rfl, k9⟩; have K9 := Lib.hid k9; clear k9)
          | (refine wpList_buildSlice_run rfl 28 1 0 (.tmp 55) (by rfl) (.agg R.toArray) _ (by rfl) (HBH.out _) ?_)
          | (refine wpList_append_hashes (by rfl) (.tmp 56) (.tmp 57) 28 (by rfl) base 34 ih zh 32 32 Tryd.underlying28 HHH.out.1 HHH.out.2.1 HHH.out.2.2.1 HHH.out.2.2.2.1 HHH.out.2.2.2.2 (by decide) (.slice (some ⟨w9.heap.size, 0, none⟩) 1 1) 1 R (by rfl) (own_fresh (heap_alloc_new w9 _) (by have := K9.out.size; omega) (by rw [HLL.out]) (by decide)) (.slice A6 m c6) m (flat ps) base (by rfl) ((K9.out.trans ((Keeps.refl _ _).alloc _)).owns HO.out (fun _ _ => id)) (flat_one ps) (by unfold maxLen; omega) (by omega) (by have := K9.out.size; simp; omega) ?_; intro v11 w11 ho11 hg11; have HO11 := Lib.hid ho11; have HG11 := Lib.hid hg11; obtain ⟨A10, c10, rfl⟩ := own_slice ho11; clear ho11 hg11))
        have KF : Hid (Keeps (fun _ => False) w w11) := Lib.hid ((HK.out.trans (K9.out.trans ((Keeps.refl _ _).alloc _))).grown HG11.out (fun k hk h => by
          simp only [Value.ownBlock, Option.some.injEq] at h
          have := K9.out.size
          have := HB0.out
          omega))
        go_ret2
        exact ⟨_, rfl, by
          have h := HO11.out
          rw [HPM.out, List.length_append, List.length_singleton, HL.out.2.1]
          show World.ownsRow _ _ _ _ _ _ (flat (L :: ps))
          rw [flat_cons, HRR.out]
          exact h, KF.out⟩
    · have h2 : 2 ≤ n1 := by omega
      have hlt : j < n1 := by omega
      have hlti : (j : Int) < n1 := by omega
      have hpm := Tr.prf_more l1 q hj1 (by rw [HL.out.1]; exact hlt)
      rw [HL.out.1] at hpm
      have hP := HL.out.2.2.2.2.1
      rw [hpm] at hP
      replace hpm := hP.symm
      clear hP
      have a1 := Tr.split_pos h2
      have a2 := Tr.split_lt h2
      have hsp := fun V => rsplit_any n1 V (by omega)
      obtain ⟨k, hk⟩ : ∃ k, Tr.split n1 = k := ⟨_, rfl⟩
      rw [hk] at hpm a1 a2 hsp
      have HSP := Lib.hid hsp
      have hSw := HL.out.2.2.1.keeps HK.out (fun _ _ => id)
      have hs1 : (k : Int) ≤ n1 := by omega
      have hs2 : (k : Int) ≤ c1 := by omega
      have hs3 : (n1 : Int) ≤ c1 := by omega
      have hs4 : ¬ c1 = k := by omega
      by_cases hjk : j ≤ k
      · rw [if_pos hjk] at hpm
        have hjk' : (j : Int) ≤ k := by omega
        have hld : (l1.drop k).length = n1 - k := by rw [List.length_drop, HL.out.1]
        have hrt : ∀ V, Keeps (fun _ => False) wr V → Calls Tryd.prog 17 #[.slice (some (a.add k)) (n1 - k) (c1 - k)] V fun e w' => e = .returned (.agg (bvs (Tr.root (l1.drop k))).toArray) ∧ Keeps (fun _ => False) V w' := fun V hV => by
          have h := rroot_any (some (a.add k)) (c1 - k) (l1.drop k) V ((hSw.keeps hV (fun _ _ => id)).drop k) (by rw [hld]; omega) (fun x hx => HL.out.2.2.2.1 x (List.mem_of_mem_drop hx))
          rw [hld] at h
          exact h
        obtain ⟨L, hL⟩ : ∃ L, Tr.root (l1.drop k) = L := ⟨_, rfl⟩
        have hL32 : L.length = 32 := by rw [← hL]; exact Tr.root_length _
        rw [hL] at hpm hrt
        have hbh := fun V => build_hash L hL32 V
        have hll := bvs_length L
        rw [hL32] at hll
        obtain ⟨R, hR⟩ : ∃ R, bvs L = R := ⟨_, rfl⟩
        rw [hR] at hrt hbh hll
        have HRT := Lib.hid hrt
        have HBH := Lib.hid hbh
        have HLL := Lib.hid hll
        have HL32 := Lib.hid hL32
        have HRR := Lib.hid hR
        have HNEW : Hid (Tr.prf (l1.take k) j q ++ (L :: ps) = P0) := Lib.hid (by rw [hpm]; simp)
        have hltk : (l1.take k).length = k := by rw [List.length_take, HL.out.1]; omega
        have HLT := Lib.hid hltk
        clear hpm hld hrt hL hbh hll hltk hL32 hR hSw hk hsp
        go_wp2_with (first
          | (go_at_call 20; refine (HSP.out _).mono ?_; rintro e w' ⟨rfl, h⟩; obtain rfl : wr = w' := h.symm)
          | (go_at_call 17; refine (HRT.out _ (Keeps.refl _ _)).mono ?_; rintro e w9 ⟨rfl, k9⟩; have K9 := Lib.hid k9; clear k9)
          | (refine wpList_buildSlice_run rfl 28 1 0 (.tmp 32) (by rfl) (.agg R.toArray) _ (by rfl) (HBH.out _) ?_)
          | (refine wpList_append_hashes (by rfl) (.tmp 33) (.tmp 34) 28 (by rfl) base 34 ih zh 32 32 Tryd.underlying28 HHH.out.1 HHH.out.2.1 HHH.out.2.2.1 HHH.out.2.2.2.1 HHH.out.2.2.2.2 (by decide) (.slice (some ⟨w9.heap.size, 0, none⟩) 1 1) 1 R (by rfl) (own_fresh (heap_alloc_new w9 _) (by have := K9.out.size; omega) (by rw [HLL.out]) (by decide)) (.slice A6 m c6) m (flat ps) base (by rfl) ((K9.out.trans ((Keeps.refl _ _).alloc _)).owns HO.out (fun _ _ => id)) (flat_one ps) (by unfold maxLen; omega) (by omega) (by have := K9.out.size; simp; omega) ?_; intro v11 w11 ho11 hg11; have HO11 := Lib.hid ho11; have HG11 := Lib.hid hg11; obtain ⟨A10, c10, rfl⟩ := own_slice ho11; clear ho11 hg11))
        have KF : Hid (Keeps (fun _ => False) w w11) := Lib.hid ((HK.out.trans (K9.out.trans ((Keeps.refl _ _).alloc _))).grown HG11.out (fun k hk h => by
          simp only [Value.ownBlock, Option.some.injEq] at h
          have := K9.out.size
          have := HB0.out
          omega))
        go_roundw
        case rel =>
          refine ⟨a, c1, l1.take k, k, j, q, L :: ps, 1 + m, A10, c10, rfl, rfl, rfl, rfl, hj1, hjk, by omega, hmax, by omega, Lib.hid ⟨HLT.out, by rw [List.length_cons, HL.out.2.1, Nat.add_comm], HL.out.2.2.1.take k, fun x hx => HL.out.2.2.2.1 x (List.mem_of_mem_take hx), HNEW.out, fun p hp => ?_⟩, Lib.hid ?_, KF⟩
          · rcases List.mem_cons.1 hp with rfl | hp
            · exact HL32.out
            · exact HL.out.2.2.2.2.2 p hp
          · rw [flat_cons, HRR.out]
            exact HO11.out
        case measure => simp [lenOf]; omega
      · rw [if_neg hjk] at hpm
        have hjk' : (k : Int) < j := by omega
        have hjk2 : ((j - k : Nat) : Int) = (j : Int) - k := by omega
        have hjb : (j : Int) ≤ 1000 := by omega
        have hld : (l1.take k).length = k := by rw [List.length_take, HL.out.1]; omega
        have hrt : ∀ V, Keeps (fun _ => False) wr V → Calls Tryd.prog 17 #[.slice (some a) k c1] V fun e w' => e = .returned (.agg (bvs (Tr.root (l1.take k))).toArray) ∧ Keeps (fun _ => False) V w' := fun V hV => by
          have h := rroot_any (some a) c1 (l1.take k) V ((hSw.keeps hV (fun _ _ => id)).take k) (by rw [hld]; omega) (fun x hx => HL.out.2.2.2.1 x (List.mem_of_mem_take hx))
          rw [hld] at h
          exact h
        obtain ⟨L, hL⟩ : ∃ L, Tr.root (l1.take k) = L := ⟨_, rfl⟩
        have hL32 : L.length = 32 := by rw [← hL]; exact Tr.root_length _
        rw [hL] at hpm hrt
        have hbh := fun V => build_hash L hL32 V
        have hll := bvs_length L
        rw [hL32] at hll
        obtain ⟨R, hR⟩ : ∃ R, bvs L = R := ⟨_, rfl⟩
        rw [hR] at hrt hbh hll
        have HRT := Lib.hid hrt
        have HBH := Lib.hid hbh
        have HLL := Lib.hid hll
        have HL32 := Lib.hid hL32
        have HRR := Lib.hid hR
        have HNEW : Hid (Tr.prf (l1.drop k) (j - k) false ++ (L :: ps) = P0) := Lib.hid (by rw [hpm]; simp)
        have hltk : (l1.drop k).length = n1 - k := by rw [List.length_drop, HL.out.1]
        have HLT := Lib.hid hltk
        clear hpm hld hrt hL hbh hll hltk hL32 hR hSw hk hsp
        go_wp2_with (first
          | (go_at_call 20; refine (HSP.out _).mono ?_; rintro e w' ⟨rfl, h⟩; obtain rfl : wr = w' := h.symm)
          | (go_at_call 17; refine (HRT.out _ (Keeps.refl _ _)).mono ?_; rintro e w9 ⟨rfl, k9⟩; have K9 := Lib.hid k9; clear k9)
          | (refine wpList_buildSlice_run rfl 28 1 0 (.tmp 42) (by rfl) (.agg R.toArray) _ (by rfl) (HBH.out _) ?_)
          | (refine wpList_append_hashes (by rfl) (.tmp 43) (.tmp 44) 28 (by rfl) base 34 ih zh 32 32 Tryd.underlying28 HHH.out.1 HHH.out.2.1 HHH.out.2.2.1 HHH.out.2.2.2.1 HHH.out.2.2.2.2 (by decide) (.slice (some ⟨w9.heap.size, 0, none⟩) 1 1) 1 R (by rfl) (own_fresh (heap_alloc_new w9 _) (by have := K9.out.size; omega) (by rw [HLL.out]) (by decide)) (.slice A6 m c6) m (flat ps) base (by rfl) ((K9.out.trans ((Keeps.refl _ _).alloc _)).owns HO.out (fun _ _ => id)) (flat_one ps) (by unfold maxLen; omega) (by omega) (by have := K9.out.size; simp; omega) ?_; intro v11 w11 ho11 hg11; have HO11 := Lib.hid ho11; have HG11 := Lib.hid hg11; obtain ⟨A10, c10, rfl⟩ := own_slice ho11; clear ho11 hg11))
        have KF : Hid (Keeps (fun _ => False) w w11) := Lib.hid ((HK.out.trans (K9.out.trans ((Keeps.refl _ _).alloc _))).grown HG11.out (fun k hk h => by
          simp only [Value.ownBlock, Option.some.injEq] at h
          have := K9.out.size
          have := HB0.out
          omega))
        go_roundw
        case rel =>
          refine ⟨a.add k, c1 - k, l1.drop k, n1 - k, j - k, false, L :: ps, 1 + m, A10, c10, rfl, by rw [hjk2], rfl, rfl, by omega, by omega, by omega, by omega, by omega, Lib.hid ⟨HLT.out, by rw [List.length_cons, HL.out.2.1, Nat.add_comm], HL.out.2.2.1.drop k, fun x hx => HL.out.2.2.2.1 x (List.mem_of_mem_drop hx), HNEW.out, fun p hp => ?_⟩, Lib.hid ?_, KF⟩
          · rcases List.mem_cons.1 hp with rfl | hp
            · exact HL32.out
            · exact HL.out.2.2.2.2.2 p hp
          · rw [flat_cons, HRR.out]
            exact HO11.out
        case measure => simp [lenOf]; omega
end Go.Proofs.YtnnhbgaeohdojaaDoor
