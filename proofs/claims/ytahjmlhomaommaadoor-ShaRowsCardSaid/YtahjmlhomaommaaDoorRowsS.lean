/- The law ShaRows walked where its bytes have an address. -/
import Derived.Test.YtahjmlhomaommaaDoorRowsC
namespace Go.Proofs.YtahjmlhomaommaaDoor
open Go.RowKit Go.BigFrame
set_option linter.unusedVariables false
set_option maxRecDepth 100000 in
set_option maxHeartbeats 2000000 in
theorem rows_some (a : Addr) (n c i m : Nat) (xs : List UInt8) (at_ more : Int) (W : World) (hT : Tabs W) (hs : Src W (some a) (bvs xs)) (hxl : xs.length = n) (hn : n ≤ 500) (hcap : n ≤ c) (hmax : c ≤ 9223372036854775807) (ha0 : 0 ≤ at_) (ha1 : at_ ≤ 65535) (hm0 : 0 ≤ more) (hm1 : more ≤ 65535) (hi : at_.tmod (↑n + 1) = (i : Int)) (hin : i ≤ n) (hm : more.tmod (↑n - ↑i + 1) = (m : Int)) (hmn : m ≤ n - i) :
    Calls Tryd.prog 4 #[.slice (some a) n c, .int .u16 at_, .int .u16 more] W fun e W' => e = .returned (.bool true) ∧ Below W.heap.size W W' := by
  obtain ⟨i0, hi0, _⟩ := info_parts info_u8t
  have hic : i ≤ c := by omega
  have hjn : i + m ≤ n := by omega
  have hjc : i + m ≤ c := by omega
  have him : i ≤ i + m := by omega
  have htn : ((i : Int) + (m : Int)).toNat = i + m := by omega
  have hb0 : (0 : Int) ≤ ↑i := by omega
  have hb1 : (0 : Int) ≤ ↑i + ↑m := by omega
  have hb2 : (i : Int) + ↑m ≤ ↑n := by omega
  have hb3 : (i : Int) ≤ ↑i + ↑m := by omega
  have hb4 : (i : Int) ≤ ↑n := by omega
  have hb5 : (i : Int) + ↑m ≤ ↑c := by omega
  have hsm : i + m - i = m := by omega
  have hs1 := hs.drop i c (by rw [bvs_length]; omega)
  have hs2 := hs.drop (i + m) c (by rw [bvs_length]; omega)
  rw [bvs_drop] at hs1 hs2
  obtain ⟨A1, hA1⟩ : ∃ A1, (if c = i then some a else some (a.add i)) = A1 := ⟨_, rfl⟩
  obtain ⟨A2, hA2⟩ : ∃ A2, (if c = i + m then some a else some (a.add (i + m))) = A2 := ⟨_, rfl⟩
  have hs1' : Src W A1 (bvs (xs.drop i)) := by rw [← hA1]; exact hs1
  have hs2' : Src W A2 (bvs (xs.drop (i + m))) := by rw [← hA2]; exact hs2
  have hH := hashes W (some a) A1 A2 xs c i m hT hs hs1' hs2' (by omega) (by omega) hmax (by omega)
  obtain ⟨L1, hL1⟩ : ∃ L, Sh.sha xs = L := ⟨_, rfl⟩
  obtain ⟨L2, hL2⟩ : ∃ L, Sh.sha (0 :: xs) = L := ⟨_, rfl⟩
  have l1 : L1.length = 32 := by rw [← hL1]; exact Sh.sha_length _
  have l2 : L2.length = 32 := by rw [← hL2]; exact Sh.sha_length _
  rw [hL1, hL2, hxl] at hH
  have heq1 : ∀ W : World, (Op.equalIn 10000 24 (.agg (bvs L1).toArray) (.agg (bvs L1).toArray)).run Tryd.prog W = .ok true W := fun W => by
    rw [run_equalIn_bytes W 24 5 32 Tryd.underlying24 Tryd.underlying5 hi0 (by kernel_rfl) (by kernel_rfl) L1 L1 l1 l1]
    simp
  have heq2 : ∀ W : World, (Op.equalIn 10000 24 (.agg (bvs L2).toArray) (.agg (bvs L2).toArray)).run Tryd.prog W = .ok true W := fun W => by
    rw [run_equalIn_bytes W 24 5 32 Tryd.underlying24 Tryd.underlying5 hi0 (by kernel_rfl) (by kernel_rfl) L2 L2 l2 l2]
    simp
  obtain ⟨R1, hR1⟩ : ∃ R, (bvs L1).toArray = R := ⟨_, rfl⟩
  obtain ⟨R2, hR2⟩ : ∃ R, (bvs L2).toArray = R := ⟨_, rfl⟩
  rw [hR1] at hH heq1
  rw [hR2] at hH heq2
  have haw := awake2_any W hT
  have HAW := Lib.hid haw
  have HH := Lib.hid hH
  clear haw hT hs hH hL1 hL2 l1 l2 hR1 hR2 hi0 hs1 hs2 hs1' hs2' hxl
  go_enter Tryd.func4, Tryd.ntmps4
  go_wp2_with fail
  refine HAW.out.mono ?_
  rintro e w3 ⟨rfl, k3⟩
  have k1 : ∀ o, Keeps (fun _ => False) w3 (w3.alloc o).drew := fun o => ((Keeps.refl _ _).alloc o).drew
  have k2 : ∀ o o', Keeps (fun _ => False) w3 ((w3.alloc o).alloc o').drew := fun o o' => (((Keeps.refl _ _).alloc o).alloc o').drew
  have K3 := Lib.hid k3
  have K1 := Lib.hid k1
  have K2 := Lib.hid k2
  have N1 : Hid (∀ (w : World) o, (w.alloc o).drew.heap[w.heap.size]? = some o) := fun w o => heap_alloc_new w o
  have N2 : Hid (∀ (w : World) o o', ((w.alloc o).alloc o').drew.heap[w.heap.size + 1]? = some o') := fun w o o' => heap_alloc2_new w o o'
  have O2 : Hid (∀ (w : World) o o', ((w.alloc o).alloc o').drew.heap[w.heap.size]? = some o) := fun w o o' => heap_alloc2_old w o o'
  have Z1 : Hid (∀ (w : World) o, w.heap.size < (w.alloc o).drew.heap.size) := fun w o => by simp
  have Z2 : Hid (∀ (w : World) o o', w.heap.size < ((w.alloc o).alloc o').drew.heap.size) := fun w o o' => by simp; omega
  have Z3 : Hid (∀ (w : World) o o', w.heap.size + 1 < ((w.alloc o).alloc o').drew.heap.size) := fun w o o' => by simp
  clear k1 k2 k3
  go_wp2_with fail
  go_region_held3 (fun _ => True) (trivial) (first
    | (go_at_call 9; with_reducible refine (HH.out.four _ _ (K3.out.trans (K1.out _)) (N1.out _ _)).mono ?_; rintro e w6 ⟨rfl, k6⟩; have kw := (K3.out.trans (K1.out _)).trans k6; clear k6)
    | (go_at_call 9; with_reducible refine (HH.out.four _ _ (K3.out.trans (K2.out _ _)) (O2.out _ _ _)).mono ?_; rintro e w6 ⟨rfl, k6⟩; have kw := (K3.out.trans (K2.out _ _)).trans k6; have hy : Hid _ := Lib.hid ((k6.block _ (Z3.out _ _ _) id).trans (N2.out _ _ _)); clear k6)
    | (go_at_call 9; with_reducible refine (HH.out.four _ _ (K3.out.trans (K2.out _ _)) (N2.out _ _ _)).mono ?_; rintro e w6 ⟨rfl, k6⟩; have kw := (K3.out.trans (K2.out _ _)).trans k6; have hy : Hid _ := Lib.hid ((k6.block _ (Z2.out _ _ _) id).trans (O2.out _ _ _)); clear k6)
    | (go_at_call 9; with_reducible refine (HH.out.one _ _ kw hy.out).mono ?_; rintro e w7 ⟨rfl, k7⟩; have kv := kw.trans k7; clear k7)
    | (go_at_call 9; with_reducible refine (HH.out.one _ _ (kw.alloc _) (heap_alloc_new w6 _)).mono ?_; rintro e w7 ⟨rfl, k7⟩; have kv := (kw.alloc _).trans k7; clear k7)
    | (go_at_call 11; with_reducible refine (HH.out.leaf _ kv).mono ?_; rintro e w8 ⟨rfl, k8⟩; have ku := kv.trans k8; clear k8)
    | (go_at_call 11; with_reducible refine (HH.out.leaf _ (kv.alloc _)).mono ?_; rintro e w8 ⟨rfl, k8⟩; have ku := (kv.alloc _).trans k8; have hz : Hid _ := Lib.hid ((k8.block w7.heap.size (by simp) id).trans (heap_alloc_new w7 _)); clear k8)
    | (go_at_call 11; with_reducible refine (HH.out.leaf _ ((kv.alloc _).alloc _)).mono ?_; rintro e w8 ⟨rfl, k8⟩; have ku := ((kv.alloc _).alloc _).trans k8; have hz : Hid _ := Lib.hid ((k8.block w7.heap.size (by simp; omega) id).trans (heap_alloc2_old w7 _ _)); have hx : Hid _ := Lib.hid ((k8.block (w7.heap.size + 1) (by simp) id).trans (heap_alloc2_new w7 _ _)); clear k8)
    | (go_at_call 9; with_reducible refine (HH.out.three _ _ _ ku hz.out hx.out).mono ?_; rintro e w9 ⟨rfl, k9⟩; have kt := ku.trans k9; clear k9)
    | (go_at_call 9; with_reducible refine (HH.out.three _ _ _ (ku.alloc _) (((((Keeps.refl (fun _ => False) w8).alloc _).block _ (Array.getElem?_eq_some_iff.1 hz.out).1 id)).trans hz.out) (heap_alloc_new w8 _)).mono ?_; rintro e w9 ⟨rfl, k9⟩; have kt := (ku.alloc _).trans k9; clear k9)
    | (go_at_call 9; with_reducible refine (HH.out.three _ _ _ ((ku.alloc _).alloc _) (heap_alloc2_old w8 _ _) (heap_alloc2_new w8 _ _)).mono ?_; rintro e w9 ⟨rfl, k9⟩; have kt := ((ku.alloc _).alloc _).trans k9; clear k9))
  all_goals
    have fin := keeps_below4 kt
    go_wp2
    go_ret
    exact ⟨rfl, fin⟩
end Go.Proofs.YtahjmlhomaommaaDoor
