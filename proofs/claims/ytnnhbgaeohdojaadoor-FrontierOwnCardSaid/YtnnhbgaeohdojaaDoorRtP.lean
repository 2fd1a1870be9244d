/-
  The document's own path to a place (assayerref03.Path), put together from its end.
-/
import Derived.Test.YtnnhbgaeohdojaaDoorRtB
import Derived.Test.YtnnhbgaeohdojaaDoorTrAp
namespace Go.Proofs.YtnnhbgaeohdojaaDoor
open Go.RowKit Go.BigFrame
set_option linter.unusedVariables false

theorem StrsAt.take {w : World} {a : Option Addr} {l : List (List UInt8)} (h : StrsAt w a l) (k : Nat) : StrsAt w a (l.take k) := by
  refine ⟨fun i x hx => ?_⟩
  rw [List.getElem?_take] at hx
  split at hx
  · exact h.cell i x hx
  · cases hx
theorem StrsAt.drop {w : World} {a : Addr} {l : List (List UInt8)} (h : StrsAt w (some a) l) (k : Nat) : StrsAt w (some (a.add k)) (l.drop k) := by
  refine ⟨fun i x hx => ?_⟩
  rw [List.getElem?_drop] at hx
  obtain ⟨ad, e, hc⟩ := h.cell (k + i) x hx
  injection e with e
  subst e
  exact ⟨_, rfl, by rw [Addr.add_add]; exact hc⟩
theorem rroot_any (A : Option Addr) (c : Nat) (l : List (List UInt8)) (w : World) (hS : StrsAt w A l) (hn1 : l.length ≤ 1000) (h399 : ∀ x ∈ l, x.length ≤ 399) :
    Calls Tryd.prog 17 #[.slice A l.length c] w fun e w' => e = .returned (.agg (bvs (Tr.root l)).toArray) ∧ Keeps (fun _ => False) w w' := by
  cases l with
  | nil => exact rroot_none A c w
  | cons x l =>
    obtain ⟨ad, rfl, _⟩ := hS.cell 0 x rfl
    exact rroot_some ad c (x :: l) w hS (by simp) hn1 h399
theorem own_fresh {w : World} {base g n size : Nat} {e : TypeId} {cs : List Value} (hg : w.heap[g]? = some (.cells cs.toArray e (0, 0))) (hb : base ≤ g) (hl : cs.length = n * size) (hm : n ≤ maxLen) : w.ownsRow base e size (.slice (some ⟨g, 0, none⟩) n n) n cs :=
  ⟨hl, .inr ⟨g, n, cs.toArray, rfl, hb, hg, Nat.le_refl _, hm, by simpa using hl, by simp [← hl]⟩⟩
theorem flat_cons (p : List UInt8) (ps : List (List UInt8)) : flat (p :: ps) = bvs p ++ flat ps := by unfold flat; rw [List.flatMap_cons]
def lenOf : Value → Nat
  | .slice _ n _ => n
  | _ => 0
theorem rpath_out (A : Option Addr) (n c : Nat) (i : Int) (w : World) (hi : i < 0 ∨ (n : Int) ≤ i) :
    Calls Tryd.prog 15 #[.slice A n c, .int .i64 i] w fun e w' => e = .returned (.tuple #[.slice none 0 0, .int .i64 15]) ∧ w' = w := by
  rcases Int.lt_or_le i 0 with h | h
  · clear hi
    go_enter Tryd.func15, Tryd.ntmps15
    go_wp2
    go_ret2
    exact ⟨rfl, rfl⟩
  · have h2 : (n : Int) ≤ i := by omega
    clear hi
    go_enter Tryd.func15, Tryd.ntmps15
    go_wp2
    go_ret2
    exact ⟨rfl, rfl⟩
set_option maxRecDepth 100000 in
set_option maxHeartbeats 4000000 in
theorem rpath_in (ad : Addr) (c : Nat) (l : List (List UInt8)) (i : Nat) (w : World) (hS : StrsAt w (some ad) l) (hi : i < l.length) (hc : l.length ≤ c) (hmax : c ≤ 9223372036854775807) (hn : l.length ≤ 1000) (h399 : ∀ x ∈ l, x.length ≤ 399) :
    Calls Tryd.prog 15 #[.slice (some ad) l.length c, .int .i64 (i : Int)] w fun e w' => ∃ v, e = .returned (.tuple #[v, .int .i64 0]) ∧ w'.ownsRow w.heap.size 34 32 v (Tr.path l i).length (flat (Tr.path l i)) ∧ Keeps (fun _ => False) w w' := by
  obtain ⟨n, hnn⟩ : ∃ n, l.length = n := ⟨_, rfl⟩
  obtain ⟨P0, hP0⟩ : ∃ P, Tr.path l i = P := ⟨_, rfl⟩
  obtain ⟨ih, zh, hih, hzh, hsh, hbh, hzsh⟩ := info_hash
  have HHH := Lib.hid (And.intro hih (And.intro hzh (And.intro hsh (And.intro hbh hzsh))))
  obtain ⟨Z, hZ, hz, hzs⟩ := zero_hash
  have HZS := Lib.hid hzs
  obtain ⟨base, hbase⟩ : ∃ b, w.heap.size = b := ⟨_, rfl⟩
  have HB0 := Lib.hid hbase
  have HNN := Lib.hid hnn
  have HP0 := Lib.hid hP0
  have HS := Lib.hid hS
  have H399 := Lib.hid h399
  rw [hnn] at hi hc hn ⊢
  rw [hP0, hbase]
  have hi1 : (i : Int) < n := by omega
  have hd0 : decide ((i : Int) < 0) = false := by rw [decide_eq_false_iff_not]; omega
  have hd1 : decide (n ≤ i) = false := by rw [decide_eq_false_iff_not]; omega
  have h00 : w.ownsRow base 34 32 (.slice none 0 0) 0 (flat []) := World.ownsRow_nil _ _ _ _
  have H00 := Lib.hid h00
  clear hnn hP0 hS h399 h00 hbase hih hzh hsh hbh hzsh hZ hzs
  go_enter Tryd.func15, Tryd.ntmps15
  go_wp2_with fail
  go_loopw [0, 1, 6, 7, 8] (fun lv iv ov kv bv wr => ∃ (a : Addr) (c1 : Nat) (l1 : List (List UInt8)) (n1 j : Nat) (ps : List (List UInt8)) (m : Nat) (A6 : Option Addr) (c6 : Nat),
    lv = .slice (some a) n1 c1 ∧ iv = .int .i64 (j : Int) ∧ ov = .slice A6 m c6 ∧ j < n1 ∧ n1 ≤ c1 ∧ c1 ≤ 9223372036854775807 ∧ n1 + m ≤ n ∧ Hid (l1.length = n1 ∧ ps.length = m ∧ StrsAt w (some a) l1 ∧ (∀ x ∈ l1, x.length ≤ 399) ∧ Tr.path l1 j ++ ps = P0 ∧ (∀ p ∈ ps, p.length = 32)) ∧ Hid (wr.ownsRow base 34 32 (.slice A6 m c6) m (flat ps)) ∧ Hid (Keeps (fun _ => False) w wr)) (fun lv _ _ _ _ _ => lenOf lv)
  case atStart => exact ⟨ad, c, l, n, i, [], 0, none, 0, rfl, rfl, rfl, hi, hc, hmax, by omega, Lib.hid ⟨HNN.out, rfl, HS.out, H399.out, by rw [List.append_nil]; exact HP0.out, fun _ h => by cases h⟩, H00, Lib.hid (Keeps.refl _ _)⟩
  case round =>
    clear H00 hi hc hmax hi1 HNN HP0 HS H399
    obtain ⟨a, c1, l1, n1, j, ps, m, A6, c6, rfl, rfl, rfl, hj, hc1, hmax, hnm, HL, HO, HK⟩ := hrel
    by_cases hone : n1 = 1
    · subst hone
      have hpf := Tr.path_few l1 j (by rw [HL.out.1]; omega)
      have hfin := HL.out.2.2.2.2.1
      rw [hpf, List.nil_append] at hfin
      have HF := Lib.hid hfin
      clear hpf hfin
      go_wp2_with fail
      go_ret2
      exact ⟨_, rfl, by rw [← HF.out, HL.out.2.1]; exact HO.out, HK.out⟩
    · have h2 : 2 ≤ n1 := by omega
      have h2i : (1 : Int) < n1 := by omega
      have hpm := Tr.path_front l1 j ps (by rw [HL.out.1]; exact h2)
      rw [HL.out.1, HL.out.2.2.2.2.1] at hpm
      have a1 := Tr.split_pos h2
      have a2 := Tr.split_lt h2
      have hsp := fun V => rsplit_any n1 V (by omega)
      obtain ⟨k, hk⟩ : ∃ k, Tr.split n1 = k := ⟨_, rfl⟩
      rw [hk] at hpm a1 a2 hsp
      have HSP := Lib.hid hsp
      have hSw := HL.out.2.2.1.keeps HK.out (fun _ _ => id)
      have hs1 : (k : Int) ≤ n1 := by omega
      have hs2 : (k : Int) ≤ c1 := by omega
      have hs3 : (n1 : Int) ≤ c1 := by omega
      have hs4 : ¬ c1 = k := by omega
      obtain ⟨W8, hW8⟩ : ∃ V, wr.alloc (.cells Z 34) = V := ⟨_, rfl⟩
      have k8 : Keeps (fun _ => False) wr W8 := by rw [← hW8]; exact (Keeps.refl _ _).alloc _
      have r8 : W8.heap[wr.heap.size]? = some (.cells Z 34 (0, 0)) := by rw [← hW8]; exact heap_alloc_new wr _
      have hb8 : base ≤ wr.heap.size := by rw [← HB0.out]; exact HK.out.size
      have hwlt : wr.heap.size < W8.heap.size := by rw [← hW8]; simp
      by_cases hjk : j < k
      · rw [if_pos hjk] at hpm
        have hjk' : (j : Int) < k := by omega
        have hld : (l1.drop k).length = n1 - k := by rw [List.length_drop, HL.out.1]
        have hrt : ∀ V, Keeps (fun _ => False) W8 V → Calls Tryd.prog 17 #[.slice (some (a.add k)) (n1 - k) (c1 - k)] V fun e w' => e = .returned (.agg (bvs (Tr.root (l1.drop k))).toArray) ∧ Keeps (fun _ => False) V w' := fun V hV => by
          have h := rroot_any (some (a.add k)) (c1 - k) (l1.drop k) V ((hSw.keeps (k8.trans hV) (fun _ _ => id)).drop k) (by rw [hld]; omega) (fun x hx => HL.out.2.2.2.1 x (List.mem_of_mem_drop hx))
          rw [hld] at h
          exact h
        obtain ⟨L, hL⟩ : ∃ L, Tr.root (l1.drop k) = L := ⟨_, rfl⟩
        have hL32 : L.length = 32 := by rw [← hL]; exact Tr.root_length _
        rw [hL] at hpm hrt
        obtain ⟨s1, z1, o1⟩ := arr_hash L hL32
        have hbh := fun V => build_hash L hL32 V
        have hll := bvs_length L
        rw [hL32] at hll
        obtain ⟨R, hR⟩ : ∃ R, bvs L = R := ⟨_, rfl⟩
        have hone : ∀ u ∈ R, u.oneCell' = true := by rw [← hR]; exact bvs_one L
        rw [hR] at hrt s1 z1 o1 hbh hll
        have HNEW : Hid (Tr.path (l1.take k) j ++ (L :: ps) = P0) := Lib.hid hpm.symm
        have hltk : (l1.take k).length = k := by rw [List.length_take, HL.out.1]; omega
        have HRT := Lib.hid hrt
        have S1 := Lib.hid s1
        have Z1 := Lib.hid (HZS.out.trans z1.symm)
        have O1 := Lib.hid o1
        have HBH := Lib.hid hbh
        have HLL := Lib.hid hll
        have HLT := Lib.hid hltk
        have HL32 := Lib.hid hL32
        have HRR := Lib.hid hR
        have HONE := Lib.hid hone
        have K8 := Lib.hid k8
        have R8 := Lib.hid r8
        clear hpm hld hrt hL s1 z1 o1 hbh hll hltk hL32 hR hone hSw hk hsp k8 r8
        go_wp2_with (first
          | (go_at_call 20; refine (HSP.out _).mono ?_; rintro e w' ⟨rfl, h⟩; obtain rfl : wr = w' := h.symm)
          | (go_at_call 17; refine (HRT.out _ (Keeps.refl _ _)).mono ?_; rintro e w9 ⟨rfl, k9⟩; have R9 := Lib.hid ((k9.block _ hwlt id).trans R8.out); have K9 := Lib.hid (K8.out.trans k9); clear k9)
          | (refine wpList_store_row rfl 34 _ _ rfl wr.heap.size R.toArray rfl rfl 34 Z R9.out S1.out Z1.out O1.out ?_; have RR := Lib.hid (setRow_heap w9 wr.heap.size Z R.toArray 34 (0, 0) R9.out); have KR := Lib.hid (K9.out.trans' (Keeps.setRow wr.heap.size R.toArray) (fun i hi h => by omega)); obtain ⟨w10, hw10⟩ : ∃ V, w9.setRow wr.heap.size R.toArray = V := ⟨_, rfl⟩; rw [hw10] at RR KR ⊢; clear hw10)
          | (refine wpList_load_row rfl 34 _ rfl wr.heap.size rfl 34 R.toArray (0, 0) _ RR.out Tryd.underlying34 rfl S1.out ?_)
          | (refine wpList_buildSlice_run rfl 28 1 0 (.tmp 45) (by rfl) (.agg R.toArray) _ (by rfl) (HBH.out _) ?_)
          | (refine wpList_append_hashes (by rfl) (.tmp 46) (.tmp 47) 28 (by rfl) base 34 ih zh 32 32 Tryd.underlying28 HHH.out.1 HHH.out.2.1 HHH.out.2.2.1 HHH.out.2.2.2.1 HHH.out.2.2.2.2 (by decide) (.slice (some ⟨w10.heap.size, 0, none⟩) 1 1) 1 R (by rfl) (own_fresh (heap_alloc_new w10 _) (by have := KR.out.size; omega) (by rw [HLL.out]) (by decide)) (.slice A6 m c6) m (flat ps) base (by rfl) ((KR.out.trans ((Keeps.refl _ _).alloc _)).owns HO.out (fun _ _ => id)) (flat_one ps) (by unfold maxLen; omega) (by omega) (by have := KR.out.size; simp; omega) ?_; intro v11 w11 ho11 hg11; have HO11 := Lib.hid ho11; have HG11 := Lib.hid hg11; obtain ⟨A10, c10, rfl⟩ := own_slice ho11; clear ho11 hg11))
        have KF : Hid (Keeps (fun _ => False) w w11) := Lib.hid ((HK.out.trans (KR.out.trans ((Keeps.refl _ _).alloc _))).grown HG11.out (fun k hk h => by
          simp only [Value.ownBlock, Option.some.injEq] at h
          have := KR.out.size
          have := HB0.out
          omega))
        go_roundw
        case rel =>
          refine ⟨a, c1, l1.take k, k, j, L :: ps, 1 + m, A10, c10, rfl, rfl, rfl, hjk, by omega, hmax, by omega, Lib.hid ⟨HLT.out, by rw [List.length_cons, HL.out.2.1, Nat.add_comm], HL.out.2.2.1.take k, fun x hx => HL.out.2.2.2.1 x (List.mem_of_mem_take hx), HNEW.out, fun p hp => ?_⟩, Lib.hid ?_, KF⟩
          · rcases List.mem_cons.1 hp with rfl | hp
            · exact HL32.out
            · exact HL.out.2.2.2.2.2 p hp
          · rw [flat_cons, HRR.out]
            exact HO11.out
        case measure => simp [lenOf]; omega
      · rw [if_neg hjk] at hpm
        have hjk' : (k : Int) ≤ j := by omega
        have hjk2 : ((j - k : Nat) : Int) = (j : Int) - k := by omega
        have hjb : (j : Int) ≤ 1000 := by omega
        have hld : (l1.take k).length = k := by rw [List.length_take, HL.out.1]; omega
        have hrt : ∀ V, Keeps (fun _ => False) W8 V → Calls Tryd.prog 17 #[.slice (some a) k c1] V fun e w' => e = .returned (.agg (bvs (Tr.root (l1.take k))).toArray) ∧ Keeps (fun _ => False) V w' := fun V hV => by
          have h := rroot_any (some a) c1 (l1.take k) V ((hSw.keeps (k8.trans hV) (fun _ _ => id)).take k) (by rw [hld]; omega) (fun x hx => HL.out.2.2.2.1 x (List.mem_of_mem_take hx))
          rw [hld] at h
          exact h
        obtain ⟨L, hL⟩ : ∃ L, Tr.root (l1.take k) = L := ⟨_, rfl⟩
        have hL32 : L.length = 32 := by rw [← hL]; exact Tr.root_length _
        rw [hL] at hpm hrt
        obtain ⟨s1, z1, o1⟩ := arr_hash L hL32
        have hbh := fun V => build_hash L hL32 V
        have hll := bvs_length L
        rw [hL32] at hll
        obtain ⟨R, hR⟩ : ∃ R, bvs L = R := ⟨_, rfl⟩
        have hone : ∀ u ∈ R, u.oneCell' = true := by rw [← hR]; exact bvs_one L
        rw [hR] at hrt s1 z1 o1 hbh hll
        have HNEW : Hid (Tr.path (l1.drop k) (j - k) ++ (L :: ps) = P0) := Lib.hid hpm.symm
        have hltk : (l1.drop k).length = n1 - k := by rw [List.length_drop, HL.out.1]
        have HRT := Lib.hid hrt
        have S1 := Lib.hid s1
        have Z1 := Lib.hid (HZS.out.trans z1.symm)
        have O1 := Lib.hid o1
        have HBH := Lib.hid hbh
        have HLL := Lib.hid hll
        have HLT := Lib.hid hltk
        have HL32 := Lib.hid hL32
        have HRR := Lib.hid hR
        have HONE := Lib.hid hone
        have K8 := Lib.hid k8
        have R8 := Lib.hid r8
        clear hpm hld hrt hL s1 z1 o1 hbh hll hltk hL32 hR hone hSw hk hsp k8 r8
        go_wp2_with (first
          | (go_at_call 20; refine (HSP.out _).mono ?_; rintro e w' ⟨rfl, h⟩; obtain rfl : wr = w' := h.symm)
          | (go_at_call 17; refine (HRT.out _ (Keeps.refl _ _)).mono ?_; rintro e w9 ⟨rfl, k9⟩; have R9 := Lib.hid ((k9.block _ hwlt id).trans R8.out); have K9 := Lib.hid (K8.out.trans k9); clear k9)
          | (refine wpList_store_row rfl 34 _ _ rfl wr.heap.size R.toArray rfl rfl 34 Z R9.out S1.out Z1.out O1.out ?_; have RR := Lib.hid (setRow_heap w9 wr.heap.size Z R.toArray 34 (0, 0) R9.out); have KR := Lib.hid (K9.out.trans' (Keeps.setRow wr.heap.size R.toArray) (fun i hi h => by omega)); obtain ⟨w10, hw10⟩ : ∃ V, w9.setRow wr.heap.size R.toArray = V := ⟨_, rfl⟩; rw [hw10] at RR KR ⊢; clear hw10)
          | (refine wpList_load_row rfl 34 _ rfl wr.heap.size rfl 34 R.toArray (0, 0) _ RR.out Tryd.underlying34 rfl S1.out ?_)
          | (refine wpList_buildSlice_run rfl 28 1 0 (.tmp 45) (by rfl) (.agg R.toArray) _ (by rfl) (HBH.out _) ?_)
          | (refine wpList_append_hashes (by rfl) (.tmp 46) (.tmp 47) 28 (by rfl) base 34 ih zh 32 32 Tryd.underlying28 HHH.out.1 HHH.out.2.1 HHH.out.2.2.1 HHH.out.2.2.2.1 HHH.out.2.2.2.2 (by decide) (.slice (some ⟨w10.heap.size, 0, none⟩) 1 1) 1 R (by rfl) (own_fresh (heap_alloc_new w10 _) (by have := KR.out.size; omega) (by rw [HLL.out]) (by decide)) (.slice A6 m c6) m (flat ps) base (by rfl) ((KR.out.trans ((Keeps.refl _ _).alloc _)).owns HO.out (fun _ _ => id)) (flat_one ps) (by unfold maxLen; omega) (by omega) (by have := KR.out.size; simp; omega) ?_; intro v11 w11 ho11 hg11; have HO11 := Lib.hid ho11; have HG11 := Lib.hid hg11; obtain ⟨A10, c10, rfl⟩ := own_slice ho11; clear ho11 hg11))
        have KF : Hid (Keeps (fun _ => False) w w11) := Lib.hid ((HK.out.trans (KR.out.trans ((Keeps.refl _ _).alloc _))).grown HG11.out (fun k hk h => by
          simp only [Value.ownBlock, Option.some.injEq] at h
          have := KR.out.size
          have := HB0.out
          omega))
        go_roundw
        case rel =>
          refine ⟨a.add k, c1 - k, l1.drop k, n1 - k, j - k, L :: ps, 1 + m, A10, c10, rfl, by rw [hjk2], rfl, by omega, by omega, by omega, by omega, Lib.hid ⟨HLT.out, by rw [List.length_cons, HL.out.2.1, Nat.add_comm], HL.out.2.2.1.drop k, fun x hx => HL.out.2.2.2.1 x (List.mem_of_mem_drop hx), HNEW.out, fun p hp => ?_⟩, Lib.hid ?_, KF⟩
          · rcases List.mem_cons.1 hp with rfl | hp
            · exact HL32.out
            · exact HL.out.2.2.2.2.2 p hp
          · rw [flat_cons, HRR.out]
            exact HO11.out
        case measure => simp [lenOf]; omega
end Go.Proofs.YtnnhbgaeohdojaaDoor
