/-
  ScoreHolds' walk.
-/
import Derived.Test.YtdihkbkcefjeoaaScW
import Derived.Test.YtdihkbkcefjeoaaRowU
import Derived.Test.YtdihkbkcefjeoaaEq
import Derived.Laws.BitsAllLaws
namespace Go.Proofs.Ytdihkbkcefjeoaa
open Go.RowKit Go.BigFrame
set_option linter.unusedVariables false
set_option linter.unusedSimpArgs false

namespace Sc
/-- Two peers, of which the first one is never blamed. -/
def two (x y N H : Int) : Tb := ⟨[(0, 0), (x, y)], N, H⟩
theorem two_tick (x y N H : Int) : tick (two x y N H) = two (tk (x, y)).1 (tk (x, y)).2 N H := rfl
theorem two_ins (x y N H : Int) : (ins (two x y N H).ps (two x y N H).ps.length).length = if y = 1 then 1 else 0 := by
  show (ins [(0, 0), (x, y)] (1 + 1)).length = _
  rw [ins_succ, ins_succ]
  show ([] ++ (if ((0 : Int), (0 : Int)).2 = 1 then [0] else []) ++ (if ((x, y)).2 = 1 then [1] else [])).length = _
  rw [if_neg (show ¬ ((0 : Int), (0 : Int)).2 = 1 by decide)]
  show (([] : List Nat) ++ [] ++ (if y = 1 then [1] else [])).length = _
  split <;> rfl
theorem two_opens (x y N H : Int) : (opens (two x y N H).ps (two x y N H).ps.length).length = if y ≤ 0 then 2 else 1 := by
  show (opens [(0, 0), (x, y)] (1 + 1)).length = _
  rw [opens_succ, opens_succ]
  show ([] ++ (if ((0 : Int), (0 : Int)).2 ≤ 0 then [0] else []) ++ (if ((x, y)).2 ≤ 0 then [1] else [])).length = _
  rw [if_pos (show ((0 : Int), (0 : Int)).2 ≤ 0 by decide)]
  show (([] : List Nat) ++ [0] ++ (if y ≤ 0 then [1] else [])).length = _
  split <;> rfl
theorem two_may (x y N H k : Int) : may (two x y N H) 1 k = decide (y ≤ 0 ∧ 1 ≤ k) := by
  unfold may
  show decide (((0 : Int) ≤ 1 ∧ (1 : Int) < 2) ∧ (x, y).2 ≤ 0 ∧ 1 ≤ k) = _
  simp
theorem two_hit (x y N H k : Int) : hit (two x y N H) 1 k = (decide (y ≤ 0 ∧ 1 ≤ k) && decide (N - x ≤ k)) := by
  unfold hit
  rw [two_may]
  rfl
theorem two_blame (x y N H k : Int) : blame (two x y N H) 1 k = if y ≤ 0 ∧ 1 ≤ k then (if N - x ≤ k then two (N / 2) H N H else two (x + k) 0 N H) else two x y N H := by
  unfold blame
  rw [two_may]
  by_cases h : y ≤ 0 ∧ 1 ≤ k
  · rw [if_pos (by simpa using h), if_pos h]
    rfl
  · rw [if_neg (by simpa using h), if_neg h]
end Sc
theorem rest_of13 (n : Int) (b : Nat) (hb : 0 < b) (hb2 : b ≤ 100000) (hn : 0 ≤ n) : ∃ a : Nat, n % (b : Int) = (a : Int) ∧ n.tmod (b : Int) = (a : Int) ∧ a < b := by
  have h0 := Int.emod_nonneg n (show (b : Int) ≠ 0 by omega)
  have h1 := Int.emod_lt_of_pos n (show (0 : Int) < b by omega)
  refine ⟨(n % (b : Int)).toNat, by omega, ?_, by omega⟩
  rw [Int.tmod_eq_emod_of_nonneg hn]
  omega
theorem and_three (o : Nat) (h : o ≤ 255) : ∃ m : Nat, bits .and .u8 (o : Int) 3 = (m : Int) := ⟨_, u8_and_nat o 3 (by omega) (by omega)⟩
set_option maxRecDepth 100000 in
set_option maxHeartbeats 4000000 in
theorem holds_skip (l h : Int) (A : Option Addr) (len c : Nat) (W : World) (hl : 100 < len) :
    Calls Try.prog 4 #[.int .u8 l, .int .u8 h, .slice A len c] W fun e w' => e = .returned (.bool true) ∧ Keeps (fun _ => False) W w' := by
  have HAW := Lib.hid (awake13_any W)
  have h40 : (100 : Int) < (len : Int) := by omega
  go_enter Try.func4, Try.ntmps4
  go_wp2_with fail
  refine HAW.out.mono ?_
  rintro e w0 ⟨rfl, k0⟩
  have K0 := Lib.hid k0
  clear k0
  go_wp2
  go_ret
  exact ⟨rfl, K0.out⟩
set_option maxRecDepth 100000 in
set_option maxHeartbeats 16000000 in
theorem holds_go (l h : Nat) (A : Option Addr) (len c : Nat) (xs : List UInt8) (W : World) (hl : l ≤ 255) (hh : h ≤ 255) (hlen : len ≤ 100) (hxl : xs.length = len) (hsr : Src W A (bvs xs)) :
    Calls Try.prog 4 #[.int .u8 (l : Int), .int .u8 (h : Int), .slice A len c] W fun e w' => e = .returned (.bool true) ∧ Keeps (fun _ => False) W w' := by
  obtain ⟨Z, hZ⟩ : ∃ Z, pc (0, 0) = Z := ⟨_, rfl⟩
  have hz : ∀ V : World, (zeroValue 40).run Try.prog V = .ok (.agg Z) V := fun V => by rw [← hZ]; exact zero_peer V
  have SZ : Hid ((Try.prog.info? 40).map (·.size) = some Z.size) := Lib.hid (by rw [← hZ]; exact size_Peer)
  have OZ : Hid (Z.all (·.oneCell') = true) := Lib.hid (by rw [← hZ]; exact pc_one _)
  have HZ := Lib.hid hZ
  have HAW := Lib.hid (awake13_any W)
  obtain ⟨a, ha, ha', hab⟩ := rest_of13 (h : Int) 20 (by decide) (by decide) (by omega)
  rw [show ((20 : Nat) : Int) = 20 from rfl] at ha ha'
  obtain ⟨N, hN⟩ : ∃ L : Int, (l : Int) + 1 = L := ⟨_, rfl⟩
  obtain ⟨H, hH⟩ : ∃ L : Int, (a : Int) + 1 = L := ⟨_, rfl⟩
  have HE1 : Hid ((l : Int) + 1 = (N : Int)) := Lib.hid (by omega)
  have HE2 : Hid ((a : Int) + 1 = (H : Int)) := Lib.hid (by omega)
  have HNH : Hid (1 ≤ N ∧ N ≤ 256 ∧ 1 ≤ H ∧ H ≤ 20) := Lib.hid (by omega)
  have HXL := Lib.hid (And.intro hxl hlen)
  have HSR := Lib.hid hsr
  have h100 : ¬ (100 : Int) < (len : Int) := by omega
  clear hZ hN hH hxl hsr
  go_enter Try.func4, Try.ntmps4
  go_wp2_with fail
  refine HAW.out.mono ?_
  rintro e w0 ⟨rfl, k0⟩
  have hn := new_any 2 (N : Int) (H : Int) w0 (by omega) (by have := HNH.out; omega) (by have := HNH.out; omega)
  rw [show ((2 : Nat) : Int) = 2 from rfl] at hn
  have HNW := Lib.hid hn
  have K0 := Lib.hid k0
  clear hn k0 HAW
  go_wp2_with fail
  rw [HE1.out, HE2.out]
  refine HNW.out.mono ?_
  rintro e w1 ⟨g, b, rfl, hg, hb, t1, k1⟩
  have HGB : Hid (W.heap.size ≤ g ∧ W.heap.size ≤ b) := Lib.hid (by have := K0.out.size; omega)
  have T1 : Hid (TabAt w1 g b (Sc.two 0 0 (N : Int) (H : Int))) := Lib.hid t1
  have K1 := Lib.hid (K0.out.trans k1)
  clear t1 k1 hg hb HNW ha ha' hl hh hab HE1 HE2
  go_wp2_with fail
  go_loopw [12, 13, 14, 15, 16, 17, 18, 19, 20, 21, 22] (fun av iv _ _ _ _ _ _ _ _ _ wr => ∃ (i : Nat) (x y : Int), i ≤ len ∧ av = .int .i64 y ∧ iv = .int .i64 (i : Int) ∧ Hid (TabAt wr g b (Sc.two x y (N : Int) (H : Int))) ∧ Hid (Keeps (fun _ => False) W wr)) (fun _ iv _ _ _ _ _ _ _ _ _ _ => len - (intOf iv).toNat)
  case atStart => exact ⟨0, 0, 0, by omega, rfl, rfl, T1, K1⟩
  case round =>
    obtain ⟨i, x, y, hi, rfl, rfl, T, K⟩ := hrel
    by_cases hlt : i < len
    · have hii : (i : Int) < (len : Int) := by omega
      have h64 : i ≤ 100 := by omega
      have hbx := bvs_at xs (j := i) (by have := HXL.out; omega)
      obtain ⟨ad, rfl, hc⟩ := (HSR.out.keeps K.out (fun _ _ _ => id)) i _ hbx
      obtain ⟨u, hu⟩ : ∃ u : Nat, (xs[i]'(by have := HXL.out; omega)).toNat = u := ⟨_, rfl⟩
      have hub : u ≤ 255 := by rw [← hu]; have := UInt8.toNat_lt (xs[i]'(by have := HXL.out; omega)); omega
      rw [hu] at hc
      obtain ⟨m, hm⟩ := and_three u hub
      have hyl : 0 ≤ y ∧ y ≤ (H : Int) := T.out.ok.left (x, y) (by simp [Sc.two])
      have hxp : 0 ≤ x ∧ x < (N : Int) := T.out.ok.pts (x, y) (by simp [Sc.two])
      have HB := Lib.hid (And.intro hyl hxp)
      clear hbx hyl hxp
      by_cases hm0 : m = 0
      · subst hm0
        have ht := tick_tab wr g b _ T.out
        rw [Sc.two_tick, Sc.two_ins] at ht
        by_cases hy0 : 0 < y
        · have hd0 : decide (y > 0) = true := decide_eq_true hy0
          by_cases hy1 : y = 1
          · subst hy1
            rw [if_pos rfl, show Sc.tk (x, 1) = (x, 0) from rfl] at ht
            have HTI := Lib.hid ht
            clear ht hy0
            go_wp2_with fail
            refine HTI.out.mono ?_
            rintro e wt ⟨At, mt, ct, rfl, rfl, _, tt, kt⟩
            have TT := Lib.hid tt
            have KW : Hid (Keeps (fun _ => False) W wt) := Lib.hid (K.out.trans' kt (fun i hi e => by have := HGB.out; omega))
            have YS : Hid (¬ (0 : Int) < 0) := Lib.hid (by decide)
            clear tt kt HTI hc
            have hpe := peer_any wt g b _ 1 TT.out
            rw [show Sc.get (Sc.two x (0 : Int) (N : Int) (H : Int)) 1 = (x, (0 : Int)) from rfl, show Sc.has (Sc.two x (0 : Int) (N : Int) (H : Int)) 1 = true from rfl] at hpe
            obtain ⟨C1, hC1⟩ : ∃ C, pc (x, (0 : Int)) = C := ⟨_, rfl⟩
            rw [hC1] at hpe
            have HPE := Lib.hid hpe
            have S1 : Hid ((Try.prog.info? 40).map (·.size) = some C1.size) := Lib.hid (by rw [← hC1]; exact size_Peer)
            have SZ1 : Hid (Z.size = C1.size) := Lib.hid (by rw [← hC1, ← HZ.out]; rfl)
            have O1 : Hid (C1.all (·.oneCell') = true) := Lib.hid (by rw [← hC1]; exact pc_one _)
            have HC1 := Lib.hid hC1
            have hot := TT.out.ok
            have BD : Hid (0 ≤ x ∧ x < (N : Int)) := Lib.hid (hot.pts (x, (0 : Int)) (by simp [Sc.two]))
            clear hpe hC1 hot
            go_wp2_with fail
            refine HPE.out.mono ?_
            rintro e v1 ⟨rfl, kv1⟩
            obtain ⟨bp, hbp⟩ : ∃ x, v1.heap.size = x := ⟨_, rfl⟩
            obtain ⟨V2, hV2⟩ : ∃ V, v1.alloc (.cells Z 40) = V := ⟨_, rfl⟩
            have rv2 : V2.heap[bp]? = some (.cells Z 40 (0, 0)) := by rw [← hV2, ← hbp]; exact heap_alloc_new v1 _
            have kv2 : Keeps (fun _ => False) v1 V2 := by rw [← hV2]; exact (Keeps.refl _ _).alloc _
            obtain ⟨v3, hV3⟩ : ∃ V, V2.setRow bp C1 = V := ⟨_, rfl⟩
            have kv3 : Keeps (fun _ => False) v1 v3 := kv2.trans' (T := fun k => k = bp) (by rw [← hV3]; exact Keeps.setRow _ _) (fun i hi e => by omega)
            have rv3 : Row v3 bp 40 [.int .i64 x, .int .i64 (0 : Int)] := by
              have h : v3.heap[bp]? = some (.cells C1 40 (0, 0)) := by rw [← hV3]; exact setRow_heap _ _ _ _ _ _ rv2
              rw [← HC1.out] at h
              exact h
            have kt3 := kv1.trans kv3
            have tt3 := TT.out.later kt3
            have hpe := peer_any v3 g b _ 0 tt3
            rw [show Sc.get (Sc.two x (0 : Int) (N : Int) (H : Int)) 0 = (0, 0) from rfl, show Sc.has (Sc.two x (0 : Int) (N : Int) (H : Int)) 0 = true from rfl, HZ.out] at hpe
            have HPE0 := Lib.hid hpe
            have RV2 := Lib.hid rv2
            have RV3 := Lib.hid rv3
            have KT3 := Lib.hid kt3
            clear hpe rv2 kv2 kv3 rv3 kv1 kt3 tt3 HPE HC1
            go_wp2_with (first
              | (refine wpList_store_row (by rfl) 40 _ _ (by rfl) bp C1 (by rfl) (by rfl) 40 Z RV2.out S1.out SZ1.out O1.out ?_; rw [hV3])
              | fail)
            refine HPE0.out.mono ?_
            rintro e v4 ⟨rfl, kv4⟩
            obtain ⟨bq, hbq⟩ : ∃ x, v4.heap.size = x := ⟨_, rfl⟩
            obtain ⟨V5, hV5⟩ : ∃ V, v4.alloc (.cells Z 40) = V := ⟨_, rfl⟩
            have rv5 : V5.heap[bq]? = some (.cells Z 40 (0, 0)) := by rw [← hV5, ← hbq]; exact heap_alloc_new v4 _
            have kv5 : Keeps (fun _ => False) v4 V5 := by rw [← hV5]; exact (Keeps.refl _ _).alloc _
            obtain ⟨v6, hV6⟩ : ∃ V, V5.setRow bq Z = V := ⟨_, rfl⟩
            have kv6 : Keeps (fun _ => False) v4 v6 := kv5.trans' (T := fun k => k = bq) (by rw [← hV6]; exact Keeps.setRow _ _) (fun i hi e => by omega)
            have rv6 : Row v6 bq 40 [.int .i64 0, .int .i64 0] := by
              have h : v6.heap[bq]? = some (.cells Z 40 (0, 0)) := by rw [← hV6]; exact setRow_heap _ _ _ _ _ _ rv5
              rw [← HZ.out] at h
              exact h
            have kt6 := KT3.out.trans (kv4.trans kv6)
            have cp := RV3.out.keeps (kv4.trans kv6) id
            have cp0 : v6.cell? ⟨bp, 0, none⟩ = some (.int .i64 x) := cp.cell 0
            have cp1 : v6.cell? ⟨bp, 1, none⟩ = some (.int .i64 (0 : Int)) := cp.cell 1
            have haw := taway_any v6 g b _ 1 (TT.out.later kt6)
            rw [show Sc.get (Sc.two x (0 : Int) (N : Int) (H : Int)) 1 = (x, (0 : Int)) from rfl] at haw
            have hyd : decide (0 < (x, (0 : Int)).2) = false := by first | rfl | exact decide_eq_true YS.out | exact decide_eq_false YS.out
            rw [hyd] at haw
            have HAWT := Lib.hid haw
            have RV5 := Lib.hid rv5
            have RV6 := Lib.hid rv6
            have KT6 := Lib.hid kt6
            have bd1 : decide (x < 0) = false := decide_eq_false (by have := BD.out; omega)
            have bd2 : decide (x ≥ (N : Int)) = false := decide_eq_false (by have := BD.out; omega)
            have bd3 : ((0 : Int) != (0 : Int)) = false := by simp
            have bd4 : decide ((0 : Int) > 0) = false := by first | rfl | exact decide_eq_true YS.out | exact decide_eq_false YS.out
            clear haw rv5 kv5 kv6 rv6 kv4 kt6 HPE0 cp hyd BD
            go_wp2_with (first
              | (refine wpList_store_row (by rfl) 40 _ _ (by rfl) bq Z (by rfl) (by rfl) 40 Z RV5.out SZ.out rfl OZ.out ?_; rw [hV6])
              | fail)
            refine HAWT.out.mono ?_
            rintro e v7 ⟨rfl, kv7⟩
            have hop := open_tab v7 g b _ (TT.out.later (KT6.out.trans kv7))
            rw [Sc.two_opens, if_pos (by have := YS.out; omega)] at hop
            have HOP := Lib.hid hop
            have KT7 := Lib.hid (KT6.out.trans kv7)
            have cq0 : v7.cell? ⟨bq, 0, none⟩ = some (.int .i64 0) := (RV6.out.keeps kv7 id).cell 0
            have byz : ((0 : Int) == 0) = true := by first | rfl | (have := YS.out; simp; omega)
            clear hop kv7 HAWT cp0 cp1
            go_wp2_with fail
            refine HOP.out.mono ?_
            rintro e v8 ⟨A8, m8, c8, rfl, rfl, _, kv8⟩
            have KT8 := Lib.hid (KT7.out.trans kv8)
            clear kv8 HOP
            go_wp2
            go_roundw
            case rel => exact ⟨i + 1, x, (0 : Int), by omega, rfl, by go_num, Lib.hid (TT.out.later KT8.out), Lib.hid (KW.out.trans KT8.out)⟩
            case measure => simp [intOf]; omega
          · obtain ⟨y1, hyy⟩ : ∃ z, y - 1 = z := ⟨_, rfl⟩
            rw [if_neg hy1, show Sc.tk (x, y) = (x, y1) by unfold Sc.tk; rw [if_pos (show 0 < (x, y).2 from hy0), ← hyy]] at ht
            have hwy : IntKind.i64.wrap (y - 1) = y1 := by rw [← hyy]; exact IntWalk.i64_in _ (by have := HB.out; have := HNH.out; omega)
            have hwz : wrap64 (y - 1) = y1 := by rw [← hyy]; exact IntWalk.wrap64_in _ (by have := HB.out; have := HNH.out; omega)
            have YS : Hid (0 < y1) := Lib.hid (by omega)
            have hyz : (y1 == 0) = false := by have := YS.out; simp; omega
            have HTI := Lib.hid ht
            clear ht hy0 hy1 hyy
            go_wp2_with fail
            refine HTI.out.mono ?_
            rintro e wt ⟨At, mt, ct, rfl, rfl, _, tt, kt⟩
            have TT := Lib.hid tt
            have KW : Hid (Keeps (fun _ => False) W wt) := Lib.hid (K.out.trans' kt (fun i hi e => by have := HGB.out; omega))
            clear tt kt HTI hc
            have hpe := peer_any wt g b _ 1 TT.out
            rw [show Sc.get (Sc.two x y1 (N : Int) (H : Int)) 1 = (x, y1) from rfl, show Sc.has (Sc.two x y1 (N : Int) (H : Int)) 1 = true from rfl] at hpe
            obtain ⟨C1, hC1⟩ : ∃ C, pc (x, y1) = C := ⟨_, rfl⟩
            rw [hC1] at hpe
            have HPE := Lib.hid hpe
            have S1 : Hid ((Try.prog.info? 40).map (·.size) = some C1.size) := Lib.hid (by rw [← hC1]; exact size_Peer)
            have SZ1 : Hid (Z.size = C1.size) := Lib.hid (by rw [← hC1, ← HZ.out]; rfl)
            have O1 : Hid (C1.all (·.oneCell') = true) := Lib.hid (by rw [← hC1]; exact pc_one _)
            have HC1 := Lib.hid hC1
            have hot := TT.out.ok
            have BD : Hid (0 ≤ x ∧ x < (N : Int)) := Lib.hid (hot.pts (x, y1) (by simp [Sc.two]))
            clear hpe hC1 hot
            go_wp2_with fail
            refine HPE.out.mono ?_
            rintro e v1 ⟨rfl, kv1⟩
            obtain ⟨bp, hbp⟩ : ∃ x, v1.heap.size = x := ⟨_, rfl⟩
            obtain ⟨V2, hV2⟩ : ∃ V, v1.alloc (.cells Z 40) = V := ⟨_, rfl⟩
            have rv2 : V2.heap[bp]? = some (.cells Z 40 (0, 0)) := by rw [← hV2, ← hbp]; exact heap_alloc_new v1 _
            have kv2 : Keeps (fun _ => False) v1 V2 := by rw [← hV2]; exact (Keeps.refl _ _).alloc _
            obtain ⟨v3, hV3⟩ : ∃ V, V2.setRow bp C1 = V := ⟨_, rfl⟩
            have kv3 : Keeps (fun _ => False) v1 v3 := kv2.trans' (T := fun k => k = bp) (by rw [← hV3]; exact Keeps.setRow _ _) (fun i hi e => by omega)
            have rv3 : Row v3 bp 40 [.int .i64 x, .int .i64 y1] := by
              have h : v3.heap[bp]? = some (.cells C1 40 (0, 0)) := by rw [← hV3]; exact setRow_heap _ _ _ _ _ _ rv2
              rw [← HC1.out] at h
              exact h
            have kt3 := kv1.trans kv3
            have tt3 := TT.out.later kt3
            have hpe := peer_any v3 g b _ 0 tt3
            rw [show Sc.get (Sc.two x y1 (N : Int) (H : Int)) 0 = (0, 0) from rfl, show Sc.has (Sc.two x y1 (N : Int) (H : Int)) 0 = true from rfl, HZ.out] at hpe
            have HPE0 := Lib.hid hpe
            have RV2 := Lib.hid rv2
            have RV3 := Lib.hid rv3
            have KT3 := Lib.hid kt3
            clear hpe rv2 kv2 kv3 rv3 kv1 kt3 tt3 HPE HC1
            go_wp2_with (first
              | (refine wpList_store_row (by rfl) 40 _ _ (by rfl) bp C1 (by rfl) (by rfl) 40 Z RV2.out S1.out SZ1.out O1.out ?_; rw [hV3])
              | fail)
            refine HPE0.out.mono ?_
            rintro e v4 ⟨rfl, kv4⟩
            obtain ⟨bq, hbq⟩ : ∃ x, v4.heap.size = x := ⟨_, rfl⟩
            obtain ⟨V5, hV5⟩ : ∃ V, v4.alloc (.cells Z 40) = V := ⟨_, rfl⟩
            have rv5 : V5.heap[bq]? = some (.cells Z 40 (0, 0)) := by rw [← hV5, ← hbq]; exact heap_alloc_new v4 _
            have kv5 : Keeps (fun _ => False) v4 V5 := by rw [← hV5]; exact (Keeps.refl _ _).alloc _
            obtain ⟨v6, hV6⟩ : ∃ V, V5.setRow bq Z = V := ⟨_, rfl⟩
            have kv6 : Keeps (fun _ => False) v4 v6 := kv5.trans' (T := fun k => k = bq) (by rw [← hV6]; exact Keeps.setRow _ _) (fun i hi e => by omega)
            have rv6 : Row v6 bq 40 [.int .i64 0, .int .i64 0] := by
              have h : v6.heap[bq]? = some (.cells Z 40 (0, 0)) := by rw [← hV6]; exact setRow_heap _ _ _ _ _ _ rv5
              rw [← HZ.out] at h
              exact h
            have kt6 := KT3.out.trans (kv4.trans kv6)
            have cp := RV3.out.keeps (kv4.trans kv6) id
            have cp0 : v6.cell? ⟨bp, 0, none⟩ = some (.int .i64 x) := cp.cell 0
            have cp1 : v6.cell? ⟨bp, 1, none⟩ = some (.int .i64 y1) := cp.cell 1
            have haw := taway_any v6 g b _ 1 (TT.out.later kt6)
            rw [show Sc.get (Sc.two x y1 (N : Int) (H : Int)) 1 = (x, y1) from rfl] at haw
            have hyd : decide (0 < (x, y1).2) = true := by first | rfl | exact decide_eq_true YS.out | exact decide_eq_false YS.out
            rw [hyd] at haw
            have HAWT := Lib.hid haw
            have RV5 := Lib.hid rv5
            have RV6 := Lib.hid rv6
            have KT6 := Lib.hid kt6
            have bd1 : decide (x < 0) = false := decide_eq_false (by have := BD.out; omega)
            have bd2 : decide (x ≥ (N : Int)) = false := decide_eq_false (by have := BD.out; omega)
            have bd3 : (y1 != y1) = false := by simp
            have bd4 : decide (y1 > 0) = true := by first | rfl | exact decide_eq_true YS.out | exact decide_eq_false YS.out
            clear haw rv5 kv5 kv6 rv6 kv4 kt6 HPE0 cp hyd BD
            go_wp2_with (first
              | (refine wpList_store_row (by rfl) 40 _ _ (by rfl) bq Z (by rfl) (by rfl) 40 Z RV5.out SZ.out rfl OZ.out ?_; rw [hV6])
              | fail)
            refine HAWT.out.mono ?_
            rintro e v7 ⟨rfl, kv7⟩
            have hop := open_tab v7 g b _ (TT.out.later (KT6.out.trans kv7))
            rw [Sc.two_opens, if_neg (by have := YS.out; omega)] at hop
            have HOP := Lib.hid hop
            have KT7 := Lib.hid (KT6.out.trans kv7)
            have cq0 : v7.cell? ⟨bq, 0, none⟩ = some (.int .i64 0) := (RV6.out.keeps kv7 id).cell 0
            have byz : (y1 == 0) = false := by first | rfl | (have := YS.out; simp; omega)
            clear hop kv7 HAWT cp0 cp1
            go_wp2_with fail
            refine HOP.out.mono ?_
            rintro e v8 ⟨A8, m8, c8, rfl, rfl, _, kv8⟩
            have KT8 := Lib.hid (KT7.out.trans kv8)
            clear kv8 HOP
            go_wp2
            go_roundw
            case rel => exact ⟨i + 1, x, y1, by omega, rfl, by go_num, Lib.hid (TT.out.later KT8.out), Lib.hid (KW.out.trans KT8.out)⟩
            case measure => simp [intOf]; omega
        · obtain rfl : y = 0 := by have := HB.out; omega
          rw [if_neg (by decide), show Sc.tk (x, 0) = (x, 0) from rfl] at ht
          have HTI := Lib.hid ht
          clear ht hy0
          go_wp2_with fail
          refine HTI.out.mono ?_
          rintro e wt ⟨At, mt, ct, rfl, rfl, _, tt, kt⟩
          have TT := Lib.hid tt
          have KW : Hid (Keeps (fun _ => False) W wt) := Lib.hid (K.out.trans' kt (fun i hi e => by have := HGB.out; omega))
          have YS : Hid (¬ (0 : Int) < 0) := Lib.hid (by decide)
          clear tt kt HTI hc
          have hpe := peer_any wt g b _ 1 TT.out
          rw [show Sc.get (Sc.two x (0 : Int) (N : Int) (H : Int)) 1 = (x, (0 : Int)) from rfl, show Sc.has (Sc.two x (0 : Int) (N : Int) (H : Int)) 1 = true from rfl] at hpe
          obtain ⟨C1, hC1⟩ : ∃ C, pc (x, (0 : Int)) = C := ⟨_, rfl⟩
          rw [hC1] at hpe
          have HPE := Lib.hid hpe
          have S1 : Hid ((Try.prog.info? 40).map (·.size) = some C1.size) := Lib.hid (by rw [← hC1]; exact size_Peer)
          have SZ1 : Hid (Z.size = C1.size) := Lib.hid (by rw [← hC1, ← HZ.out]; rfl)
          have O1 : Hid (C1.all (·.oneCell') = true) := Lib.hid (by rw [← hC1]; exact pc_one _)
          have HC1 := Lib.hid hC1
          have hot := TT.out.ok
          have BD : Hid (0 ≤ x ∧ x < (N : Int)) := Lib.hid (hot.pts (x, (0 : Int)) (by simp [Sc.two]))
          clear hpe hC1 hot
          go_wp2_with fail
          refine HPE.out.mono ?_
          rintro e v1 ⟨rfl, kv1⟩
          obtain ⟨bp, hbp⟩ : ∃ x, v1.heap.size = x := ⟨_, rfl⟩
          obtain ⟨V2, hV2⟩ : ∃ V, v1.alloc (.cells Z 40) = V := ⟨_, rfl⟩
          have rv2 : V2.heap[bp]? = some (.cells Z 40 (0, 0)) := by rw [← hV2, ← hbp]; exact heap_alloc_new v1 _
          have kv2 : Keeps (fun _ => False) v1 V2 := by rw [← hV2]; exact (Keeps.refl _ _).alloc _
          obtain ⟨v3, hV3⟩ : ∃ V, V2.setRow bp C1 = V := ⟨_, rfl⟩
          have kv3 : Keeps (fun _ => False) v1 v3 := kv2.trans' (T := fun k => k = bp) (by rw [← hV3]; exact Keeps.setRow _ _) (fun i hi e => by omega)
          have rv3 : Row v3 bp 40 [.int .i64 x, .int .i64 (0 : Int)] := by
            have h : v3.heap[bp]? = some (.cells C1 40 (0, 0)) := by rw [← hV3]; exact setRow_heap _ _ _ _ _ _ rv2
            rw [← HC1.out] at h
            exact h
          have kt3 := kv1.trans kv3
          have tt3 := TT.out.later kt3
          have hpe := peer_any v3 g b _ 0 tt3
          rw [show Sc.get (Sc.two x (0 : Int) (N : Int) (H : Int)) 0 = (0, 0) from rfl, show Sc.has (Sc.two x (0 : Int) (N : Int) (H : Int)) 0 = true from rfl, HZ.out] at hpe
          have HPE0 := Lib.hid hpe
          have RV2 := Lib.hid rv2
          have RV3 := Lib.hid rv3
          have KT3 := Lib.hid kt3
          clear hpe rv2 kv2 kv3 rv3 kv1 kt3 tt3 HPE HC1
          go_wp2_with (first
            | (refine wpList_store_row (by rfl) 40 _ _ (by rfl) bp C1 (by rfl) (by rfl) 40 Z RV2.out S1.out SZ1.out O1.out ?_; rw [hV3])
            | fail)
          refine HPE0.out.mono ?_
          rintro e v4 ⟨rfl, kv4⟩
          obtain ⟨bq, hbq⟩ : ∃ x, v4.heap.size = x := ⟨_, rfl⟩
          obtain ⟨V5, hV5⟩ : ∃ V, v4.alloc (.cells Z 40) = V := ⟨_, rfl⟩
          have rv5 : V5.heap[bq]? = some (.cells Z 40 (0, 0)) := by rw [← hV5, ← hbq]; exact heap_alloc_new v4 _
          have kv5 : Keeps (fun _ => False) v4 V5 := by rw [← hV5]; exact (Keeps.refl _ _).alloc _
          obtain ⟨v6, hV6⟩ : ∃ V, V5.setRow bq Z = V := ⟨_, rfl⟩
          have kv6 : Keeps (fun _ => False) v4 v6 := kv5.trans' (T := fun k => k = bq) (by rw [← hV6]; exact Keeps.setRow _ _) (fun i hi e => by omega)
          have rv6 : Row v6 bq 40 [.int .i64 0, .int .i64 0] := by
            have h : v6.heap[bq]? = some (.cells Z 40 (0, 0)) := by rw [← hV6]; exact setRow_heap _ _ _ _ _ _ rv5
            rw [← HZ.out] at h
            exact h
          have kt6 := KT3.out.trans (kv4.trans kv6)
          have cp := RV3.out.keeps (kv4.trans kv6) id
          have cp0 : v6.cell? ⟨bp, 0, none⟩ = some (.int .i64 x) := cp.cell 0
          have cp1 : v6.cell? ⟨bp, 1, none⟩ = some (.int .i64 (0 : Int)) := cp.cell 1
          have haw := taway_any v6 g b _ 1 (TT.out.later kt6)
          rw [show Sc.get (Sc.two x (0 : Int) (N : Int) (H : Int)) 1 = (x, (0 : Int)) from rfl] at haw
          have hyd : decide (0 < (x, (0 : Int)).2) = false := by first | rfl | exact decide_eq_true YS.out | exact decide_eq_false YS.out
          rw [hyd] at haw
          have HAWT := Lib.hid haw
          have RV5 := Lib.hid rv5
          have RV6 := Lib.hid rv6
          have KT6 := Lib.hid kt6
          have bd1 : decide (x < 0) = false := decide_eq_false (by have := BD.out; omega)
          have bd2 : decide (x ≥ (N : Int)) = false := decide_eq_false (by have := BD.out; omega)
          have bd3 : ((0 : Int) != (0 : Int)) = false := by simp
          have bd4 : decide ((0 : Int) > 0) = false := by first | rfl | exact decide_eq_true YS.out | exact decide_eq_false YS.out
          clear haw rv5 kv5 kv6 rv6 kv4 kt6 HPE0 cp hyd BD
          go_wp2_with (first
            | (refine wpList_store_row (by rfl) 40 _ _ (by rfl) bq Z (by rfl) (by rfl) 40 Z RV5.out SZ.out rfl OZ.out ?_; rw [hV6])
            | fail)
          refine HAWT.out.mono ?_
          rintro e v7 ⟨rfl, kv7⟩
          have hop := open_tab v7 g b _ (TT.out.later (KT6.out.trans kv7))
          rw [Sc.two_opens, if_pos (by have := YS.out; omega)] at hop
          have HOP := Lib.hid hop
          have KT7 := Lib.hid (KT6.out.trans kv7)
          have cq0 : v7.cell? ⟨bq, 0, none⟩ = some (.int .i64 0) := (RV6.out.keeps kv7 id).cell 0
          have byz : ((0 : Int) == 0) = true := by first | rfl | (have := YS.out; simp; omega)
          clear hop kv7 HAWT cp0 cp1
          go_wp2_with fail
          refine HOP.out.mono ?_
          rintro e v8 ⟨A8, m8, c8, rfl, rfl, _, kv8⟩
          have KT8 := Lib.hid (KT7.out.trans kv8)
          clear kv8 HOP
          go_wp2
          go_roundw
          case rel => exact ⟨i + 1, x, (0 : Int), by omega, rfl, by go_num, Lib.hid (TT.out.later KT8.out), Lib.hid (KW.out.trans KT8.out)⟩
          case measure => simp [intOf]; omega
      · have hmz : ((m : Int) == 0) = false := by simp; omega
        clear hm0
        obtain ⟨k, hk⟩ : ∃ k : Int, (u : Int) / 4 = k := ⟨_, rfl⟩
        have hs1 : (u : Int) / 4 = k := hk
        have hs2 : (u : Int) / 2 ^ 2 = (k : Int) := by rw [← hs1]; rfl
        have hkb : 0 ≤ k ∧ k ≤ 64 := by omega
        have hpe := peer_any wr g b _ 1 T.out
        rw [show Sc.get (Sc.two x y (N : Int) (H : Int)) 1 = (x, y) from rfl, show Sc.has (Sc.two x y (N : Int) (H : Int)) 1 = true from rfl] at hpe
        obtain ⟨C, hC⟩ : ∃ C, pc (x, y) = C := ⟨_, rfl⟩
        rw [hC] at hpe
        have HPE := Lib.hid hpe
        have SC : Hid ((Try.prog.info? 40).map (·.size) = some C.size) := Lib.hid (by rw [← hC]; exact size_Peer)
        have SZC : Hid (Z.size = C.size) := Lib.hid (by rw [← hC, ← HZ.out]; rfl)
        have OC : Hid (C.all (·.oneCell') = true) := Lib.hid (by rw [← hC]; exact pc_one _)
        have HCC := Lib.hid hC
        have HKB := Lib.hid hkb
        clear hpe hC hk hkb
        go_wp2_with fail
        refine HPE.out.mono ?_
        rintro e w2 ⟨rfl, k2⟩
        obtain ⟨b3, hb3⟩ : ∃ x, w2.heap.size = x := ⟨_, rfl⟩
        obtain ⟨W3, hW3⟩ : ∃ V, w2.alloc (.cells Z 40) = V := ⟨_, rfl⟩
        have r3 : W3.heap[b3]? = some (.cells Z 40 (0, 0)) := by rw [← hW3, ← hb3]; exact heap_alloc_new w2 _
        have k3 : Keeps (fun _ => False) w2 W3 := by rw [← hW3]; exact (Keeps.refl _ _).alloc _
        obtain ⟨w4, hW4⟩ : ∃ V, W3.setRow b3 C = V := ⟨_, rfl⟩
        have k4 : Keeps (fun _ => False) w2 w4 := k3.trans' (T := fun k => k = b3) (by rw [← hW4]; exact Keeps.setRow _ _) (fun i hi e => by omega)
        have r4 : Row w4 b3 40 [.int .i64 x, .int .i64 y] := by
          have h : w4.heap[b3]? = some (.cells C 40 (0, 0)) := by rw [← hW4]; exact setRow_heap _ _ _ _ _ _ r3
          rw [← HCC.out] at h
          exact h
        have t4 := T.out.later (k2.trans k4)
        have hb3b : b3 ≠ b := fun e => t4.map.apart r4 e.symm
        have hc4 := ((k2.trans k4).cell (p := ad.add i) (World.block_lt_of_cell? wr _ hc) id).trans hc
        have hbl := blame_tab w4 g b _ 1 (k : Int) t4 (by have := HKB.out; omega)
        rw [Sc.two_hit, Sc.two_blame] at hbl
        have K4 := Lib.hid (K.out.trans (k2.trans k4))
        have R3 := Lib.hid r3
        have HR4 : Hid (∀ V, Keeps (fun j => j = b) w4 V → V.cell? ⟨b3, 0, none⟩ = some (.int .i64 x)) := Lib.hid (fun V hV => (r4.keeps hV hb3b).cell 0)
        clear k2 r3 k3 k4 r4 t4 hb3b hc HPE HCC
        by_cases hy0 : 0 < y
        · have hd0 : (y == 0) = false := by simp; omega
          rw [show decide (y ≤ 0 ∧ 1 ≤ (k : Int)) = false from decide_eq_false (by omega), if_neg (by omega), Bool.false_and] at hbl
          have HBL := Lib.hid hbl
          have YS := Lib.hid hy0
          clear hbl hy0
          go_wp2_with (first
            | (refine wpList_store_row (by rfl) 40 _ _ (by rfl) b3 C (by rfl) (by rfl) 40 Z R3.out SC.out SZC.out OC.out ?_; rw [hW4])
            | fail)
          refine HBL.out.mono ?_
          rintro e wt ⟨rfl, tt, kt⟩
          have TT := Lib.hid tt
          have KW : Hid (Keeps (fun _ => False) W wt) := Lib.hid (K4.out.trans' kt (fun i hi e => by have := HGB.out; omega))
          clear tt kt HBL hc4
          have hpe := peer_any wt g b _ 1 TT.out
          rw [show Sc.get (Sc.two x y (N : Int) (H : Int)) 1 = (x, y) from rfl, show Sc.has (Sc.two x y (N : Int) (H : Int)) 1 = true from rfl] at hpe
          obtain ⟨C1, hC1⟩ : ∃ C, pc (x, y) = C := ⟨_, rfl⟩
          rw [hC1] at hpe
          have HPE := Lib.hid hpe
          have S1 : Hid ((Try.prog.info? 40).map (·.size) = some C1.size) := Lib.hid (by rw [← hC1]; exact size_Peer)
          have SZ1 : Hid (Z.size = C1.size) := Lib.hid (by rw [← hC1, ← HZ.out]; rfl)
          have O1 : Hid (C1.all (·.oneCell') = true) := Lib.hid (by rw [← hC1]; exact pc_one _)
          have HC1 := Lib.hid hC1
          have hot := TT.out.ok
          have BD : Hid (0 ≤ x ∧ x < (N : Int)) := Lib.hid (hot.pts (x, y) (by simp [Sc.two]))
          clear hpe hC1 hot
          go_wp2_with fail
          refine HPE.out.mono ?_
          rintro e v1 ⟨rfl, kv1⟩
          obtain ⟨bp, hbp⟩ : ∃ x, v1.heap.size = x := ⟨_, rfl⟩
          obtain ⟨V2, hV2⟩ : ∃ V, v1.alloc (.cells Z 40) = V := ⟨_, rfl⟩
          have rv2 : V2.heap[bp]? = some (.cells Z 40 (0, 0)) := by rw [← hV2, ← hbp]; exact heap_alloc_new v1 _
          have kv2 : Keeps (fun _ => False) v1 V2 := by rw [← hV2]; exact (Keeps.refl _ _).alloc _
          obtain ⟨v3, hV3⟩ : ∃ V, V2.setRow bp C1 = V := ⟨_, rfl⟩
          have kv3 : Keeps (fun _ => False) v1 v3 := kv2.trans' (T := fun k => k = bp) (by rw [← hV3]; exact Keeps.setRow _ _) (fun i hi e => by omega)
          have rv3 : Row v3 bp 40 [.int .i64 x, .int .i64 y] := by
            have h : v3.heap[bp]? = some (.cells C1 40 (0, 0)) := by rw [← hV3]; exact setRow_heap _ _ _ _ _ _ rv2
            rw [← HC1.out] at h
            exact h
          have kt3 := kv1.trans kv3
          have tt3 := TT.out.later kt3
          have hpe := peer_any v3 g b _ 0 tt3
          rw [show Sc.get (Sc.two x y (N : Int) (H : Int)) 0 = (0, 0) from rfl, show Sc.has (Sc.two x y (N : Int) (H : Int)) 0 = true from rfl, HZ.out] at hpe
          have HPE0 := Lib.hid hpe
          have RV2 := Lib.hid rv2
          have RV3 := Lib.hid rv3
          have KT3 := Lib.hid kt3
          clear hpe rv2 kv2 kv3 rv3 kv1 kt3 tt3 HPE HC1
          go_wp2_with (first
            | (refine wpList_store_row (by rfl) 40 _ _ (by rfl) bp C1 (by rfl) (by rfl) 40 Z RV2.out S1.out SZ1.out O1.out ?_; rw [hV3])
            | fail)
          refine HPE0.out.mono ?_
          rintro e v4 ⟨rfl, kv4⟩
          obtain ⟨bq, hbq⟩ : ∃ x, v4.heap.size = x := ⟨_, rfl⟩
          obtain ⟨V5, hV5⟩ : ∃ V, v4.alloc (.cells Z 40) = V := ⟨_, rfl⟩
          have rv5 : V5.heap[bq]? = some (.cells Z 40 (0, 0)) := by rw [← hV5, ← hbq]; exact heap_alloc_new v4 _
          have kv5 : Keeps (fun _ => False) v4 V5 := by rw [← hV5]; exact (Keeps.refl _ _).alloc _
          obtain ⟨v6, hV6⟩ : ∃ V, V5.setRow bq Z = V := ⟨_, rfl⟩
          have kv6 : Keeps (fun _ => False) v4 v6 := kv5.trans' (T := fun k => k = bq) (by rw [← hV6]; exact Keeps.setRow _ _) (fun i hi e => by omega)
          have rv6 : Row v6 bq 40 [.int .i64 0, .int .i64 0] := by
            have h : v6.heap[bq]? = some (.cells Z 40 (0, 0)) := by rw [← hV6]; exact setRow_heap _ _ _ _ _ _ rv5
            rw [← HZ.out] at h
            exact h
          have kt6 := KT3.out.trans (kv4.trans kv6)
          have cp := RV3.out.keeps (kv4.trans kv6) id
          have cp0 : v6.cell? ⟨bp, 0, none⟩ = some (.int .i64 x) := cp.cell 0
          have cp1 : v6.cell? ⟨bp, 1, none⟩ = some (.int .i64 y) := cp.cell 1
          have haw := taway_any v6 g b _ 1 (TT.out.later kt6)
          rw [show Sc.get (Sc.two x y (N : Int) (H : Int)) 1 = (x, y) from rfl] at haw
          have hyd : decide (0 < (x, y).2) = true := by first | rfl | exact decide_eq_true YS.out | exact decide_eq_false YS.out
          rw [hyd] at haw
          have HAWT := Lib.hid haw
          have RV5 := Lib.hid rv5
          have RV6 := Lib.hid rv6
          have KT6 := Lib.hid kt6
          have bd1 : decide (x < 0) = false := decide_eq_false (by have := BD.out; omega)
          have bd2 : decide (x ≥ (N : Int)) = false := decide_eq_false (by have := BD.out; omega)
          have bd3 : (y != y) = false := by simp
          have bd4 : decide (y > 0) = true := by first | rfl | exact decide_eq_true YS.out | exact decide_eq_false YS.out
          clear haw rv5 kv5 kv6 rv6 kv4 kt6 HPE0 cp hyd BD
          go_wp2_with (first
            | (refine wpList_store_row (by rfl) 40 _ _ (by rfl) bq Z (by rfl) (by rfl) 40 Z RV5.out SZ.out rfl OZ.out ?_; rw [hV6])
            | fail)
          refine HAWT.out.mono ?_
          rintro e v7 ⟨rfl, kv7⟩
          have hop := open_tab v7 g b _ (TT.out.later (KT6.out.trans kv7))
          rw [Sc.two_opens, if_neg (by have := YS.out; omega)] at hop
          have HOP := Lib.hid hop
          have KT7 := Lib.hid (KT6.out.trans kv7)
          have cq0 : v7.cell? ⟨bq, 0, none⟩ = some (.int .i64 0) := (RV6.out.keeps kv7 id).cell 0
          have byz : (y == 0) = false := by first | rfl | (have := YS.out; simp; omega)
          clear hop kv7 HAWT cp0 cp1
          go_wp2_with fail
          refine HOP.out.mono ?_
          rintro e v8 ⟨A8, m8, c8, rfl, rfl, _, kv8⟩
          have KT8 := Lib.hid (KT7.out.trans kv8)
          clear kv8 HOP
          go_wp2
          go_roundw
          case rel => exact ⟨i + 1, x, y, by omega, rfl, by go_num, Lib.hid (TT.out.later KT8.out), Lib.hid (KW.out.trans KT8.out)⟩
          case measure => simp [intOf]; omega
        · obtain rfl : y = 0 := by have := HB.out; omega
          by_cases hk0 : k = 0
          · subst hk0
            rw [show decide ((0 : Int) ≤ 0 ∧ 1 ≤ (0 : Int)) = false from rfl, if_neg (by decide), Bool.false_and] at hbl
            have HBL := Lib.hid hbl
            have YS : Hid (¬ (0 : Int) < 0) := Lib.hid hy0
            clear hbl hy0
            go_wp2_with (first
              | (refine wpList_store_row (by rfl) 40 _ _ (by rfl) b3 C (by rfl) (by rfl) 40 Z R3.out SC.out SZC.out OC.out ?_; rw [hW4])
              | fail)
            refine HBL.out.mono ?_
            rintro e wt ⟨rfl, tt, kt⟩
            have TT := Lib.hid tt
            have KW : Hid (Keeps (fun _ => False) W wt) := Lib.hid (K4.out.trans' kt (fun i hi e => by have := HGB.out; omega))
            clear tt kt HBL hc4
            have hpe := peer_any wt g b _ 1 TT.out
            rw [show Sc.get (Sc.two x (0 : Int) (N : Int) (H : Int)) 1 = (x, (0 : Int)) from rfl, show Sc.has (Sc.two x (0 : Int) (N : Int) (H : Int)) 1 = true from rfl] at hpe
            obtain ⟨C1, hC1⟩ : ∃ C, pc (x, (0 : Int)) = C := ⟨_, rfl⟩
            rw [hC1] at hpe
            have HPE := Lib.hid hpe
            have S1 : Hid ((Try.prog.info? 40).map (·.size) = some C1.size) := Lib.hid (by rw [← hC1]; exact size_Peer)
            have SZ1 : Hid (Z.size = C1.size) := Lib.hid (by rw [← hC1, ← HZ.out]; rfl)
            have O1 : Hid (C1.all (·.oneCell') = true) := Lib.hid (by rw [← hC1]; exact pc_one _)
            have HC1 := Lib.hid hC1
            have hot := TT.out.ok
            have BD : Hid (0 ≤ x ∧ x < (N : Int)) := Lib.hid (hot.pts (x, (0 : Int)) (by simp [Sc.two]))
            clear hpe hC1 hot
            go_wp2_with fail
            refine HPE.out.mono ?_
            rintro e v1 ⟨rfl, kv1⟩
            obtain ⟨bp, hbp⟩ : ∃ x, v1.heap.size = x := ⟨_, rfl⟩
            obtain ⟨V2, hV2⟩ : ∃ V, v1.alloc (.cells Z 40) = V := ⟨_, rfl⟩
            have rv2 : V2.heap[bp]? = some (.cells Z 40 (0, 0)) := by rw [← hV2, ← hbp]; exact heap_alloc_new v1 _
            have kv2 : Keeps (fun _ => False) v1 V2 := by rw [← hV2]; exact (Keeps.refl _ _).alloc _
            obtain ⟨v3, hV3⟩ : ∃ V, V2.setRow bp C1 = V := ⟨_, rfl⟩
            have kv3 : Keeps (fun _ => False) v1 v3 := kv2.trans' (T := fun k => k = bp) (by rw [← hV3]; exact Keeps.setRow _ _) (fun i hi e => by omega)
            have rv3 : Row v3 bp 40 [.int .i64 x, .int .i64 (0 : Int)] := by
              have h : v3.heap[bp]? = some (.cells C1 40 (0, 0)) := by rw [← hV3]; exact setRow_heap _ _ _ _ _ _ rv2
              rw [← HC1.out] at h
              exact h
            have kt3 := kv1.trans kv3
            have tt3 := TT.out.later kt3
            have hpe := peer_any v3 g b _ 0 tt3
            rw [show Sc.get (Sc.two x (0 : Int) (N : Int) (H : Int)) 0 = (0, 0) from rfl, show Sc.has (Sc.two x (0 : Int) (N : Int) (H : Int)) 0 = true from rfl, HZ.out] at hpe
            have HPE0 := Lib.hid hpe
            have RV2 := Lib.hid rv2
            have RV3 := Lib.hid rv3
            have KT3 := Lib.hid kt3
            clear hpe rv2 kv2 kv3 rv3 kv1 kt3 tt3 HPE HC1
            go_wp2_with (first
              | (refine wpList_store_row (by rfl) 40 _ _ (by rfl) bp C1 (by rfl) (by rfl) 40 Z RV2.out S1.out SZ1.out O1.out ?_; rw [hV3])
              | fail)
            refine HPE0.out.mono ?_
            rintro e v4 ⟨rfl, kv4⟩
            obtain ⟨bq, hbq⟩ : ∃ x, v4.heap.size = x := ⟨_, rfl⟩
            obtain ⟨V5, hV5⟩ : ∃ V, v4.alloc (.cells Z 40) = V := ⟨_, rfl⟩
            have rv5 : V5.heap[bq]? = some (.cells Z 40 (0, 0)) := by rw [← hV5, ← hbq]; exact heap_alloc_new v4 _
            have kv5 : Keeps (fun _ => False) v4 V5 := by rw [← hV5]; exact (Keeps.refl _ _).alloc _
            obtain ⟨v6, hV6⟩ : ∃ V, V5.setRow bq Z = V := ⟨_, rfl⟩
            have kv6 : Keeps (fun _ => False) v4 v6 := kv5.trans' (T := fun k => k = bq) (by rw [← hV6]; exact Keeps.setRow _ _) (fun i hi e => by omega)
            have rv6 : Row v6 bq 40 [.int .i64 0, .int .i64 0] := by
              have h : v6.heap[bq]? = some (.cells Z 40 (0, 0)) := by rw [← hV6]; exact setRow_heap _ _ _ _ _ _ rv5
              rw [← HZ.out] at h
              exact h
            have kt6 := KT3.out.trans (kv4.trans kv6)
            have cp := RV3.out.keeps (kv4.trans kv6) id
            have cp0 : v6.cell? ⟨bp, 0, none⟩ = some (.int .i64 x) := cp.cell 0
            have cp1 : v6.cell? ⟨bp, 1, none⟩ = some (.int .i64 (0 : Int)) := cp.cell 1
            have haw := taway_any v6 g b _ 1 (TT.out.later kt6)
            rw [show Sc.get (Sc.two x (0 : Int) (N : Int) (H : Int)) 1 = (x, (0 : Int)) from rfl] at haw
            have hyd : decide (0 < (x, (0 : Int)).2) = false := by first | rfl | exact decide_eq_true YS.out | exact decide_eq_false YS.out
            rw [hyd] at haw
            have HAWT := Lib.hid haw
            have RV5 := Lib.hid rv5
            have RV6 := Lib.hid rv6
            have KT6 := Lib.hid kt6
            have bd1 : decide (x < 0) = false := decide_eq_false (by have := BD.out; omega)
            have bd2 : decide (x ≥ (N : Int)) = false := decide_eq_false (by have := BD.out; omega)
            have bd3 : ((0 : Int) != (0 : Int)) = false := by simp
            have bd4 : decide ((0 : Int) > 0) = false := by first | rfl | exact decide_eq_true YS.out | exact decide_eq_false YS.out
            clear haw rv5 kv5 kv6 rv6 kv4 kt6 HPE0 cp hyd BD
            go_wp2_with (first
              | (refine wpList_store_row (by rfl) 40 _ _ (by rfl) bq Z (by rfl) (by rfl) 40 Z RV5.out SZ.out rfl OZ.out ?_; rw [hV6])
              | fail)
            refine HAWT.out.mono ?_
            rintro e v7 ⟨rfl, kv7⟩
            have hop := open_tab v7 g b _ (TT.out.later (KT6.out.trans kv7))
            rw [Sc.two_opens, if_pos (by have := YS.out; omega)] at hop
            have HOP := Lib.hid hop
            have KT7 := Lib.hid (KT6.out.trans kv7)
            have cq0 : v7.cell? ⟨bq, 0, none⟩ = some (.int .i64 0) := (RV6.out.keeps kv7 id).cell 0
            have byz : ((0 : Int) == 0) = true := by first | rfl | (have := YS.out; simp; omega)
            clear hop kv7 HAWT cp0 cp1
            go_wp2_with fail
            refine HOP.out.mono ?_
            rintro e v8 ⟨A8, m8, c8, rfl, rfl, _, kv8⟩
            have KT8 := Lib.hid (KT7.out.trans kv8)
            clear kv8 HOP
            go_wp2
            go_roundw
            case rel => exact ⟨i + 1, x, (0 : Int), by omega, rfl, by go_num, Lib.hid (TT.out.later KT8.out), Lib.hid (KW.out.trans KT8.out)⟩
            case measure => simp [intOf]; omega
          · have hk1 : decide ((k : Int) > 0) = true := decide_eq_true (by have := HKB.out; omega)
            obtain ⟨xk, hxk⟩ : ∃ z, x + (k : Int) = z := ⟨_, rfl⟩
            have hw1 : IntKind.i64.wrap (x + (k : Int)) = xk := by rw [← hxk]; exact IntWalk.i64_in _ (by have := HB.out; have := HNH.out; have := HKB.out; omega)
            have hw2 : wrap64 (x + (k : Int)) = xk := by rw [← hxk]; exact IntWalk.wrap64_in _ (by have := HB.out; have := HNH.out; have := HKB.out; omega)
            rw [show decide ((0 : Int) ≤ 0 ∧ 1 ≤ (k : Int)) = true from decide_eq_true (by have := HKB.out; omega), if_pos (by have := HKB.out; omega), Bool.true_and] at hbl
            by_cases hhit : (N : Int) - x ≤ (k : Int)
            · obtain ⟨N2, hN2⟩ : ∃ z, (N : Int) / 2 = z := ⟨_, rfl⟩
              rw [if_pos hhit, decide_eq_true hhit, hN2] at hbl
              have hge : decide (xk ≥ (N : Int)) = true := decide_eq_true (by omega)
              have HBL := Lib.hid hbl
              have YS : Hid ((0 : Int) < (H : Int)) := Lib.hid (by have := HNH.out; omega)
              clear hbl hy0 hk0 hxk hhit hN2
              go_wp2_with (first
                | (refine wpList_store_row (by rfl) 40 _ _ (by rfl) b3 C (by rfl) (by rfl) 40 Z R3.out SC.out SZC.out OC.out ?_; rw [hW4])
                | fail)
              refine HBL.out.mono ?_
              rintro e wt ⟨rfl, tt, kt⟩
              have cx0 := HR4.out wt kt
              have TT := Lib.hid tt
              have KW : Hid (Keeps (fun _ => False) W wt) := Lib.hid (K4.out.trans' kt (fun i hi e => by have := HGB.out; omega))
              clear tt kt HBL hc4
              have hpe := peer_any wt g b _ 1 TT.out
              rw [show Sc.get (Sc.two N2 (H : Int) (N : Int) (H : Int)) 1 = (N2, (H : Int)) from rfl, show Sc.has (Sc.two N2 (H : Int) (N : Int) (H : Int)) 1 = true from rfl] at hpe
              obtain ⟨C1, hC1⟩ : ∃ C, pc (N2, (H : Int)) = C := ⟨_, rfl⟩
              rw [hC1] at hpe
              have HPE := Lib.hid hpe
              have S1 : Hid ((Try.prog.info? 40).map (·.size) = some C1.size) := Lib.hid (by rw [← hC1]; exact size_Peer)
              have SZ1 : Hid (Z.size = C1.size) := Lib.hid (by rw [← hC1, ← HZ.out]; rfl)
              have O1 : Hid (C1.all (·.oneCell') = true) := Lib.hid (by rw [← hC1]; exact pc_one _)
              have HC1 := Lib.hid hC1
              have hot := TT.out.ok
              have BD : Hid (0 ≤ N2 ∧ N2 < (N : Int)) := Lib.hid (hot.pts (N2, (H : Int)) (by simp [Sc.two]))
              clear hpe hC1 hot
              go_wp2_with fail
              refine HPE.out.mono ?_
              rintro e v1 ⟨rfl, kv1⟩
              obtain ⟨bp, hbp⟩ : ∃ x, v1.heap.size = x := ⟨_, rfl⟩
              obtain ⟨V2, hV2⟩ : ∃ V, v1.alloc (.cells Z 40) = V := ⟨_, rfl⟩
              have rv2 : V2.heap[bp]? = some (.cells Z 40 (0, 0)) := by rw [← hV2, ← hbp]; exact heap_alloc_new v1 _
              have kv2 : Keeps (fun _ => False) v1 V2 := by rw [← hV2]; exact (Keeps.refl _ _).alloc _
              obtain ⟨v3, hV3⟩ : ∃ V, V2.setRow bp C1 = V := ⟨_, rfl⟩
              have kv3 : Keeps (fun _ => False) v1 v3 := kv2.trans' (T := fun k => k = bp) (by rw [← hV3]; exact Keeps.setRow _ _) (fun i hi e => by omega)
              have rv3 : Row v3 bp 40 [.int .i64 N2, .int .i64 (H : Int)] := by
                have h : v3.heap[bp]? = some (.cells C1 40 (0, 0)) := by rw [← hV3]; exact setRow_heap _ _ _ _ _ _ rv2
                rw [← HC1.out] at h
                exact h
              have kt3 := kv1.trans kv3
              have tt3 := TT.out.later kt3
              have hpe := peer_any v3 g b _ 0 tt3
              rw [show Sc.get (Sc.two N2 (H : Int) (N : Int) (H : Int)) 0 = (0, 0) from rfl, show Sc.has (Sc.two N2 (H : Int) (N : Int) (H : Int)) 0 = true from rfl, HZ.out] at hpe
              have HPE0 := Lib.hid hpe
              have RV2 := Lib.hid rv2
              have RV3 := Lib.hid rv3
              have KT3 := Lib.hid kt3
              clear hpe rv2 kv2 kv3 rv3 kv1 kt3 tt3 HPE HC1
              go_wp2_with (first
                | (refine wpList_store_row (by rfl) 40 _ _ (by rfl) bp C1 (by rfl) (by rfl) 40 Z RV2.out S1.out SZ1.out O1.out ?_; rw [hV3])
                | fail)
              refine HPE0.out.mono ?_
              rintro e v4 ⟨rfl, kv4⟩
              obtain ⟨bq, hbq⟩ : ∃ x, v4.heap.size = x := ⟨_, rfl⟩
              obtain ⟨V5, hV5⟩ : ∃ V, v4.alloc (.cells Z 40) = V := ⟨_, rfl⟩
              have rv5 : V5.heap[bq]? = some (.cells Z 40 (0, 0)) := by rw [← hV5, ← hbq]; exact heap_alloc_new v4 _
              have kv5 : Keeps (fun _ => False) v4 V5 := by rw [← hV5]; exact (Keeps.refl _ _).alloc _
              obtain ⟨v6, hV6⟩ : ∃ V, V5.setRow bq Z = V := ⟨_, rfl⟩
              have kv6 : Keeps (fun _ => False) v4 v6 := kv5.trans' (T := fun k => k = bq) (by rw [← hV6]; exact Keeps.setRow _ _) (fun i hi e => by omega)
              have rv6 : Row v6 bq 40 [.int .i64 0, .int .i64 0] := by
                have h : v6.heap[bq]? = some (.cells Z 40 (0, 0)) := by rw [← hV6]; exact setRow_heap _ _ _ _ _ _ rv5
                rw [← HZ.out] at h
                exact h
              have kt6 := KT3.out.trans (kv4.trans kv6)
              have cp := RV3.out.keeps (kv4.trans kv6) id
              have cp0 : v6.cell? ⟨bp, 0, none⟩ = some (.int .i64 N2) := cp.cell 0
              have cp1 : v6.cell? ⟨bp, 1, none⟩ = some (.int .i64 (H : Int)) := cp.cell 1
              have haw := taway_any v6 g b _ 1 (TT.out.later kt6)
              rw [show Sc.get (Sc.two N2 (H : Int) (N : Int) (H : Int)) 1 = (N2, (H : Int)) from rfl] at haw
              have hyd : decide (0 < (N2, (H : Int)).2) = true := by first | rfl | exact decide_eq_true YS.out | exact decide_eq_false YS.out
              rw [hyd] at haw
              have HAWT := Lib.hid haw
              have RV5 := Lib.hid rv5
              have RV6 := Lib.hid rv6
              have KT6 := Lib.hid kt6
              have bd1 : decide (N2 < 0) = false := decide_eq_false (by have := BD.out; omega)
              have bd2 : decide (N2 ≥ (N : Int)) = false := decide_eq_false (by have := BD.out; omega)
              have bd3 : ((H : Int) != (H : Int)) = false := by simp
              have bd4 : decide ((H : Int) > 0) = true := by first | rfl | exact decide_eq_true YS.out | exact decide_eq_false YS.out
              clear haw rv5 kv5 kv6 rv6 kv4 kt6 HPE0 cp hyd BD
              go_wp2_with (first
                | (refine wpList_store_row (by rfl) 40 _ _ (by rfl) bq Z (by rfl) (by rfl) 40 Z RV5.out SZ.out rfl OZ.out ?_; rw [hV6])
                | fail)
              refine HAWT.out.mono ?_
              rintro e v7 ⟨rfl, kv7⟩
              have hop := open_tab v7 g b _ (TT.out.later (KT6.out.trans kv7))
              rw [Sc.two_opens, if_neg (by have := YS.out; omega)] at hop
              have HOP := Lib.hid hop
              have KT7 := Lib.hid (KT6.out.trans kv7)
              have cq0 : v7.cell? ⟨bq, 0, none⟩ = some (.int .i64 0) := (RV6.out.keeps kv7 id).cell 0
              have byz : ((H : Int) == 0) = false := by first | rfl | (have := YS.out; simp; omega)
              clear hop kv7 HAWT cp0 cp1
              go_wp2_with fail
              refine HOP.out.mono ?_
              rintro e v8 ⟨A8, m8, c8, rfl, rfl, _, kv8⟩
              have KT8 := Lib.hid (KT7.out.trans kv8)
              clear kv8 HOP
              go_wp2
              go_roundw
              case rel => exact ⟨i + 1, N2, (H : Int), by omega, rfl, by go_num, Lib.hid (TT.out.later KT8.out), Lib.hid (KW.out.trans KT8.out)⟩
              case measure => simp [intOf]; omega
            · rw [if_neg hhit, decide_eq_false hhit, hxk] at hbl
              have hge : decide (xk ≥ (N : Int)) = false := decide_eq_false (by omega)
              have HBL := Lib.hid hbl
              have YS : Hid (¬ (0 : Int) < 0) := Lib.hid hy0
              clear hbl hy0 hk0 hxk hhit
              go_wp2_with (first
                | (refine wpList_store_row (by rfl) 40 _ _ (by rfl) b3 C (by rfl) (by rfl) 40 Z R3.out SC.out SZC.out OC.out ?_; rw [hW4])
                | fail)
              refine HBL.out.mono ?_
              rintro e wt ⟨rfl, tt, kt⟩
              have cx0 := HR4.out wt kt
              have TT := Lib.hid tt
              have KW : Hid (Keeps (fun _ => False) W wt) := Lib.hid (K4.out.trans' kt (fun i hi e => by have := HGB.out; omega))
              clear tt kt HBL hc4
              have hpe := peer_any wt g b _ 1 TT.out
              rw [show Sc.get (Sc.two xk (0 : Int) (N : Int) (H : Int)) 1 = (xk, (0 : Int)) from rfl, show Sc.has (Sc.two xk (0 : Int) (N : Int) (H : Int)) 1 = true from rfl] at hpe
              obtain ⟨C1, hC1⟩ : ∃ C, pc (xk, (0 : Int)) = C := ⟨_, rfl⟩
              rw [hC1] at hpe
              have HPE := Lib.hid hpe
              have S1 : Hid ((Try.prog.info? 40).map (·.size) = some C1.size) := Lib.hid (by rw [← hC1]; exact size_Peer)
              have SZ1 : Hid (Z.size = C1.size) := Lib.hid (by rw [← hC1, ← HZ.out]; rfl)
              have O1 : Hid (C1.all (·.oneCell') = true) := Lib.hid (by rw [← hC1]; exact pc_one _)
              have HC1 := Lib.hid hC1
              have hot := TT.out.ok
              have BD : Hid (0 ≤ xk ∧ xk < (N : Int)) := Lib.hid (hot.pts (xk, (0 : Int)) (by simp [Sc.two]))
              clear hpe hC1 hot
              go_wp2_with fail
              refine HPE.out.mono ?_
              rintro e v1 ⟨rfl, kv1⟩
              obtain ⟨bp, hbp⟩ : ∃ x, v1.heap.size = x := ⟨_, rfl⟩
              obtain ⟨V2, hV2⟩ : ∃ V, v1.alloc (.cells Z 40) = V := ⟨_, rfl⟩
              have rv2 : V2.heap[bp]? = some (.cells Z 40 (0, 0)) := by rw [← hV2, ← hbp]; exact heap_alloc_new v1 _
              have kv2 : Keeps (fun _ => False) v1 V2 := by rw [← hV2]; exact (Keeps.refl _ _).alloc _
              obtain ⟨v3, hV3⟩ : ∃ V, V2.setRow bp C1 = V := ⟨_, rfl⟩
              have kv3 : Keeps (fun _ => False) v1 v3 := kv2.trans' (T := fun k => k = bp) (by rw [← hV3]; exact Keeps.setRow _ _) (fun i hi e => by omega)
              have rv3 : Row v3 bp 40 [.int .i64 xk, .int .i64 (0 : Int)] := by
                have h : v3.heap[bp]? = some (.cells C1 40 (0, 0)) := by rw [← hV3]; exact setRow_heap _ _ _ _ _ _ rv2
                rw [← HC1.out] at h
                exact h
              have kt3 := kv1.trans kv3
              have tt3 := TT.out.later kt3
              have hpe := peer_any v3 g b _ 0 tt3
              rw [show Sc.get (Sc.two xk (0 : Int) (N : Int) (H : Int)) 0 = (0, 0) from rfl, show Sc.has (Sc.two xk (0 : Int) (N : Int) (H : Int)) 0 = true from rfl, HZ.out] at hpe
              have HPE0 := Lib.hid hpe
              have RV2 := Lib.hid rv2
              have RV3 := Lib.hid rv3
              have KT3 := Lib.hid kt3
              clear hpe rv2 kv2 kv3 rv3 kv1 kt3 tt3 HPE HC1
              go_wp2_with (first
                | (refine wpList_store_row (by rfl) 40 _ _ (by rfl) bp C1 (by rfl) (by rfl) 40 Z RV2.out S1.out SZ1.out O1.out ?_; rw [hV3])
                | fail)
              refine HPE0.out.mono ?_
              rintro e v4 ⟨rfl, kv4⟩
              obtain ⟨bq, hbq⟩ : ∃ x, v4.heap.size = x := ⟨_, rfl⟩
              obtain ⟨V5, hV5⟩ : ∃ V, v4.alloc (.cells Z 40) = V := ⟨_, rfl⟩
              have rv5 : V5.heap[bq]? = some (.cells Z 40 (0, 0)) := by rw [← hV5, ← hbq]; exact heap_alloc_new v4 _
              have kv5 : Keeps (fun _ => False) v4 V5 := by rw [← hV5]; exact (Keeps.refl _ _).alloc _
              obtain ⟨v6, hV6⟩ : ∃ V, V5.setRow bq Z = V := ⟨_, rfl⟩
              have kv6 : Keeps (fun _ => False) v4 v6 := kv5.trans' (T := fun k => k = bq) (by rw [← hV6]; exact Keeps.setRow _ _) (fun i hi e => by omega)
              have rv6 : Row v6 bq 40 [.int .i64 0, .int .i64 0] := by
                have h : v6.heap[bq]? = some (.cells Z 40 (0, 0)) := by rw [← hV6]; exact setRow_heap _ _ _ _ _ _ rv5
                rw [← HZ.out] at h
                exact h
              have kt6 := KT3.out.trans (kv4.trans kv6)
              have cp := RV3.out.keeps (kv4.trans kv6) id
              have cp0 : v6.cell? ⟨bp, 0, none⟩ = some (.int .i64 xk) := cp.cell 0
              have cp1 : v6.cell? ⟨bp, 1, none⟩ = some (.int .i64 (0 : Int)) := cp.cell 1
              have haw := taway_any v6 g b _ 1 (TT.out.later kt6)
              rw [show Sc.get (Sc.two xk (0 : Int) (N : Int) (H : Int)) 1 = (xk, (0 : Int)) from rfl] at haw
              have hyd : decide (0 < (xk, (0 : Int)).2) = false := by first | rfl | exact decide_eq_true YS.out | exact decide_eq_false YS.out
              rw [hyd] at haw
              have HAWT := Lib.hid haw
              have RV5 := Lib.hid rv5
              have RV6 := Lib.hid rv6
              have KT6 := Lib.hid kt6
              have bd1 : decide (xk < 0) = false := decide_eq_false (by have := BD.out; omega)
              have bd2 : decide (xk ≥ (N : Int)) = false := decide_eq_false (by have := BD.out; omega)
              have bd3 : ((0 : Int) != (0 : Int)) = false := by simp
              have bd4 : decide ((0 : Int) > 0) = false := by first | rfl | exact decide_eq_true YS.out | exact decide_eq_false YS.out
              clear haw rv5 kv5 kv6 rv6 kv4 kt6 HPE0 cp hyd BD
              go_wp2_with (first
                | (refine wpList_store_row (by rfl) 40 _ _ (by rfl) bq Z (by rfl) (by rfl) 40 Z RV5.out SZ.out rfl OZ.out ?_; rw [hV6])
                | fail)
              refine HAWT.out.mono ?_
              rintro e v7 ⟨rfl, kv7⟩
              have hop := open_tab v7 g b _ (TT.out.later (KT6.out.trans kv7))
              rw [Sc.two_opens, if_pos (by have := YS.out; omega)] at hop
              have HOP := Lib.hid hop
              have KT7 := Lib.hid (KT6.out.trans kv7)
              have cq0 : v7.cell? ⟨bq, 0, none⟩ = some (.int .i64 0) := (RV6.out.keeps kv7 id).cell 0
              have byz : ((0 : Int) == 0) = true := by first | rfl | (have := YS.out; simp; omega)
              clear hop kv7 HAWT cp0 cp1
              go_wp2_with fail
              refine HOP.out.mono ?_
              rintro e v8 ⟨A8, m8, c8, rfl, rfl, _, kv8⟩
              have KT8 := Lib.hid (KT7.out.trans kv8)
              clear kv8 HOP
              go_wp2
              go_roundw
              case rel => exact ⟨i + 1, xk, (0 : Int), by omega, rfl, by go_num, Lib.hid (TT.out.later KT8.out), Lib.hid (KW.out.trans KT8.out)⟩
              case measure => simp [intOf]; omega
    · obtain rfl : i = len := by omega
      go_wp2
      go_ret
      exact ⟨rfl, K.out⟩
theorem holds_walk (l h : Int) (A : Option Addr) (len c : Nat) (zs : List Int) (W : World) (hl : (Lit.int .u8 l).wf = true) (hh : (Lit.int .u8 h).wf = true) (hA : IsRowU .u8 W A len c zs) :
    Calls Try.prog 4 #[.int .u8 l, .int .u8 h, .slice A len c] W fun e W' => e = .returned (.bool true) ∧ Below W.heap.size W W' := by
  have h1 := bounds_u8 hl
  have h2 := bounds_u8 hh
  obtain ⟨xs, hxl, hs, _⟩ := hA.src
  obtain ⟨l, rfl⟩ := Int.eq_ofNat_of_zero_le h1.1
  obtain ⟨h, rfl⟩ := Int.eq_ofNat_of_zero_le h2.1
  by_cases hlen : len ≤ 100
  · exact (holds_go l h A len c xs W (by omega) (by omega) hlen hxl hs).mono (fun e w' h => ⟨h.1, h.2.below (Nat.le_refl _) (fun _ _ => id)⟩)
  · exact (holds_skip (l : Int) (h : Int) A len c W (by omega)).mono (fun e w' h => ⟨h.1, h.2.below (Nat.le_refl _) (fun _ _ => id)⟩)
end Go.Proofs.Ytdihkbkcefjeoaa
