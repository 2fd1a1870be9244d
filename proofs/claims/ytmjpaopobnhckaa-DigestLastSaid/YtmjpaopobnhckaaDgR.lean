/-
  The document's own bytes as a hash.
-/
import Derived.Test.YtmjpaopobnhckaaRfR
import Derived.Test.YtmjpaopobnhckaaRowB
import Derived.Test.YtmjpaopobnhckaaDgC
namespace Go.Proofs.Ytmjpaopobnhckaa
open Go.RowKit Go.BigFrame
set_option linter.unusedVariables false
set_option linter.unusedSimpArgs false

theorem Below.still {w w' : World} (h : Below w.heap.size w w') : Keeps (fun _ => False) w w' := ⟨h.os, h.tape, h.output, h.size, fun i hi _ => h.block i hi⟩
/-- Bytes as a hash: what is missing is zero. -/
def hashOf (l : List UInt8) : List UInt8 := l ++ List.replicate (32 - l.length) 0
theorem hashOf_len (l : List UInt8) (h : l.length ≤ 32) : (hashOf l).length = 32 := by unfold hashOf; rw [List.length_append, List.length_replicate]; omega
theorem zero_hash19 (w : World) : (zeroValue 52).run Try.prog w = .ok (.agg (bvs (List.replicate 32 0)).toArray) w := by kernel_rfl
theorem hashOf_step (l : List UInt8) (k : Nat) (hk : k < l.length) (h : l.length ≤ 32) : (bvs (hashOf (l.take k))).set k (.int .u8 (l[k].toNat : Int)) = bvs (hashOf (l.take (k + 1))) := by
  have e1 : (l.take k).length = k := by rw [List.length_take]; omega
  have e2 : (l.take (k + 1)).length = k + 1 := by rw [List.length_take]; omega
  unfold hashOf
  rw [e1, e2, show 32 - k = (32 - (k + 1)) + 1 by omega, List.replicate_succ, List.take_succ_eq_append_getElem hk]
  unfold bvs
  simp only [List.map_append, List.map_cons, List.map_nil]
  rw [List.set_append_right _ _ (by simp; omega)]
  simp [List.length_take, Nat.min_eq_left (Nat.le_of_lt hk), bv]
set_option maxRecDepth 100000 in
set_option maxHeartbeats 2000000 in
theorem refHash_any (l : List UInt8) (w : World) (hl : l.length ≤ 32) :
    Calls Try.prog 42 #[.string (strOf l)] w fun e w' => e = .returned (.agg (bvs (hashOf l)).toArray) ∧ Keeps (fun _ => False) w w' := by
  obtain ⟨Z, hZ⟩ : ∃ Z, (bvs (List.replicate 32 0)).toArray = Z := ⟨_, rfl⟩
  have hz : ∀ V : World, (zeroValue 52).run Try.prog V = .ok (.agg Z) V := fun V => by rw [← hZ]; exact zero_hash19 V
  obtain ⟨b1, hb1⟩ : ∃ x, w.heap.size = x := ⟨_, rfl⟩
  obtain ⟨W1, hW1⟩ : ∃ V, w.alloc (.cells Z 52) = V := ⟨_, rfl⟩
  obtain ⟨b2, hb2⟩ : ∃ x, W1.heap.size = x := ⟨_, rfl⟩
  obtain ⟨W2, hW2⟩ : ∃ V, W1.alloc (.cells Z 52) = V := ⟨_, rfl⟩
  have k1 : Keeps (fun _ => False) w W1 := by rw [← hW1]; exact (Keeps.refl _ _).alloc _
  have k2 : Keeps (fun _ => False) W1 W2 := by rw [← hW2]; exact (Keeps.refl _ _).alloc _
  have h12 : b1 < b2 := by rw [← hb2, ← hW1, ← hb1]; simp
  have h2s : b2 < W2.heap.size := by rw [← hb2, ← hW2]; simp
  have r1 : Row W2 b1 52 (bvs (List.replicate 32 0)) := Row.keeps (w := W1) (by rw [← hW1, ← hb1, ← hZ]; exact heap_alloc_new w _) k2 id
  have r2 : Row W2 b2 52 (bvs (hashOf (l.take 0))) := by rw [← hW2, ← hb2, ← hZ]; exact heap_alloc_new W1 _
  have K2 := Lib.hid (k1.trans k2)
  have R1 := Lib.hid r1
  have R2 := Lib.hid r2
  have HB := Lib.hid (And.intro hb1 (And.intro h12 h2s))
  have hs : (strOf l).size = l.length := rfl
  obtain ⟨n, hn⟩ : ∃ n, l.length = n := ⟨_, rfl⟩
  rw [hn] at hs hl
  have HN := Lib.hid hn
  clear k1 k2 r1 r2 h12 h2s hn
  go_enter Try.func42, Try.ntmps42
  go_wp2_with fail
  go_loopw [4] (fun iv wr => ∃ k : Nat, k ≤ n ∧ iv = .int .i64 (k : Int) ∧ Hid (Row wr b2 52 (bvs (hashOf (l.take k)))) ∧ Hid (Keeps (fun j => j = b2) W2 wr)) (fun iv _ => n - (intOf iv).toNat)
  case atStart => exact ⟨0, by omega, rfl, R2, Lib.hid (Keeps.refl _ _)⟩
  case round =>
    clear hW1 hW2 hz
    obtain ⟨k, hk, rfl, HR, HK⟩ := hrel
    by_cases hlt : k < n
    · have hk32 : (k : Int) < 32 := by omega
      have hki : (k : Int) < (n : Int) := by omega
      have hkl : k < l.length := by have := HN.out; omega
      have hst := hashOf_step l k hkl (by have := HN.out; omega)
      have hf := HR.out.frozen k
      have hcl := HR.out.cell k
      obtain ⟨old, hold⟩ : ∃ old, (bvs (hashOf (l.take k)))[k]? = some old := ⟨_, List.getElem?_eq_getElem (by rw [bvs_length, hashOf_len _ (by rw [List.length_take]; omega)]; omega)⟩
      rw [hold] at hcl
      have hnx := HR.out.set k (.int .u8 (l[k].toNat : Int))
      rw [hst] at hnx
      have HNX := Lib.hid hnx
      have HKX : Hid (Keeps (fun j => j = b2) W2 (wr.setCell ⟨b2, k, none⟩ (.int .u8 (l[k].toNat : Int)))) := Lib.hid (HK.out.trans ((Keeps.refl (fun j => j = b2) wr).setCell (p := ⟨b2, k, none⟩) (fun _ => rfl) _))
      clear hst hnx hold
      go_wp2
      go_roundw
      case rel => exact ⟨k + 1, by omega, by go_num, HNX, HKX⟩
      case measure => simp [intOf]; omega
    · obtain rfl : k = n := by omega
      have hfull : l.take k = l := List.take_of_length_le (by have := HN.out; omega)
      rw [hfull] at HR
      obtain ⟨C, hC⟩ : ∃ C, (bvs (hashOf l)).toArray = C := ⟨_, rfl⟩
      have hlen : (bvs (hashOf l)).length = 32 := by rw [bvs_length, hashOf_len l (by have := HN.out; omega)]
      have SC : Hid ((Try.prog.info? 52).map (·.size) = some C.size) := Lib.hid (by rw [← hC, List.size_toArray, hlen]; exact info_h)
      have SZC : Hid (Z.size = C.size) := Lib.hid (by rw [← hC, ← hZ]; simp [hlen, bvs_length])
      have OC : Hid (C.all (·.oneCell') = true) := Lib.hid (by rw [← hC, Array.all_eq_true_iff_forall_mem]; intro v hv; exact bvs_one _ v (by simpa using hv))
      have R2w : Hid (wr.heap[b2]? = some (.cells C 52 (0, 0))) := Lib.hid (by rw [← hC]; exact HR.out)
      have R1w : Hid (wr.heap[b1]? = some (.cells Z 52 (0, 0))) := Lib.hid (by
        have := R1.out.keeps HK.out (by have := HB.out; omega)
        rw [← hZ]; exact this)
      obtain ⟨W3, hW3⟩ : ∃ V, wr.setRow b1 C = V := ⟨_, rfl⟩
      have R3 : Hid (W3.heap[b1]? = some (.cells C 52 (0, 0))) := Lib.hid (by rw [← hW3]; exact setRow_heap _ _ _ _ _ _ R1w.out)
      have K3 : Hid (Keeps (fun _ => False) w W3) := Lib.hid ((K2.out.trans' HK.out (fun j hj e => by have := HB.out; omega)).trans' (T := fun j => j = b1) (by rw [← hW3]; exact Keeps.setRow _ _) (fun j hj e => by have := HB.out; omega))
      have HC := Lib.hid hC
      clear hfull hlen hC
      by_cases h32 : k = 32
      · have h32i : ¬ (k : Int) < 32 := by omega
        go_wp2_with (first
          | (refine wpList_load_row (by rfl) 52 _ (by rfl) b2 (by rfl) 52 C (0, 0) _ R2w.out Try.underlying52 rfl SC.out ?_)
          | (refine wpList_store_row (by rfl) 52 _ _ (by rfl) b1 C (by rfl) (by rfl) 52 Z R1w.out SC.out SZC.out OC.out ?_; rw [hW3])
          | fail)
        refine bodyPost_ret (results_cell19 rfl _ _ b1 52 C (0, 0) _ rfl R3.out Try.underlying52 rfl SC.out) rfl ?_
        rw [HC.out]
        exact ⟨rfl, K3.out⟩
      · have h32i : (k : Int) < 32 := by omega
        go_wp2_with (first
          | (refine wpList_load_row (by rfl) 52 _ (by rfl) b2 (by rfl) 52 C (0, 0) _ R2w.out Try.underlying52 rfl SC.out ?_)
          | (refine wpList_store_row (by rfl) 52 _ _ (by rfl) b1 C (by rfl) (by rfl) 52 Z R1w.out SC.out SZC.out OC.out ?_; rw [hW3])
          | fail)
        refine bodyPost_ret (results_cell19 rfl _ _ b1 52 C (0, 0) _ rfl R3.out Try.underlying52 rfl SC.out) rfl ?_
        rw [HC.out]
        exact ⟨rfl, K3.out⟩
end Go.Proofs.Ytmjpaopobnhckaa
