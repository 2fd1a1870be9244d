/-
  The hash of an entry (sha.Leaf).
-/
import Derived.Test.YtgbajlmcoghofaaDoorShaG
import Derived.Deep.RegionLaw
namespace Go.Proofs.YtgbajlmcoghofaaDoor
open Go.RowKit Go.BigFrame
set_option linter.unusedVariables false

theorem src_new {w : World} {g : Nat} {t : TypeId} {xs : List Value} (h : Row w g t xs) : Src w (some ⟨g, 0, none⟩) xs := fun j u hu => ⟨_, rfl, by rw [add_plain, Nat.zero_add, h.cell]; exact hu⟩

theorem rowsAt_two {w : World} {a : Addr} {r s : RowOf} (h0 : w.cell? (a.add 0) = some (.slice r.1 r.2.2.length r.2.1)) (h1 : w.cell? (a.add 1) = some (.slice s.1 s.2.2.length s.2.1))
    (hr : Src w r.1 (bvs r.2.2)) (hs : Src w s.1 (bvs s.2.2)) (cr : r.2.2.length ≤ r.2.1 ∧ r.2.1 ≤ 9223372036854775807) (cs : s.2.2.length ≤ s.2.1 ∧ s.2.1 ≤ 9223372036854775807) : RowsAt w (some a) [r, s] := by
  refine ⟨fun i x hx => ⟨a, rfl, ?_⟩, fun x hx => ?_, fun x hx => ?_⟩
  · match i, hx with
    | 0, hx => cases hx; exact h0
    | 1, hx => cases hx; exact h1
  · rcases List.mem_cons.1 hx with rfl | hx
    · exact hr
    · rw [List.mem_singleton] at hx; subst hx; exact hs
  · rcases List.mem_cons.1 hx with rfl | hx
    · exact cr
    · rw [List.mem_singleton] at hx; subst hx; exact cs

set_option maxRecDepth 100000 in
set_option maxHeartbeats 1000000 in
theorem leaf_any (A : Option Addr) (c : Nat) (xs : List UInt8) (w : World) (hT : Tabs w) (hs : Src w A (bvs xs)) (hc : xs.length ≤ c) (hc1 : c ≤ 9223372036854775807) (hx : xs.length ≤ 99999999) :
    Calls Tryd.prog 17 #[.slice A xs.length c] w fun e w' => e = .returned (.agg (bvs (Sh.sha (0 :: xs))).toArray) ∧ Keeps (fun _ => False) w w' := by
  have h0 := hT.lt
  obtain ⟨Z, hZ⟩ : ∃ Z : Array Value, (bvs (List.replicate 32 0)).toArray = Z := ⟨_, rfl⟩
  have hz : ∀ w : World, (zeroValue 23).run Tryd.prog w = .ok (.agg Z) w := fun _ => by subst hZ; kernel_rfl
  have hzs : Z.size = 32 := by subst hZ; rfl
  have HZS := Lib.hid hzs
  clear hZ hzs
  obtain ⟨W1, hW1⟩ : ∃ W, w.alloc (.cells Z 23) = W := ⟨_, rfl⟩
  obtain ⟨W2, hW2⟩ : ∃ W, W1.alloc (.cells #[.int .u8 0] 5) = W := ⟨_, rfl⟩
  obtain ⟨W3, hW3⟩ : ∃ W, W2.alloc (.cells #[.slice (some ⟨W1.heap.size, 0, none⟩) 1 1, .slice A xs.length c] 24) = W := ⟨_, rfl⟩
  have k1 : Keeps (fun _ => False) w W1 := by rw [← hW1]; exact (Keeps.refl _ _).alloc _
  have k2 : Keeps (fun _ => False) W1 W2 := by rw [← hW2]; exact (Keeps.refl _ _).alloc _
  have k3 : Keeps (fun _ => False) W2 W3 := by rw [← hW3]; exact (Keeps.refl _ _).alloc _
  have r1 : Row W1 w.heap.size 23 Z.toList := by rw [← hW1]; exact heap_alloc_new w _
  have r2 : Row W2 W1.heap.size 5 (bvs [0]) := by rw [← hW2]; exact heap_alloc_new W1 _
  have r3 : Row W3 W2.heap.size 24 [.slice (some ⟨W1.heap.size, 0, none⟩) 1 1, .slice A xs.length c] := by rw [← hW3]; exact heap_alloc_new W2 _
  have hrows : RowsAt W3 (some ⟨W2.heap.size, 0, none⟩) [(some ⟨W1.heap.size, 0, none⟩, 1, [0]), (A, c, xs)] :=
    rowsAt_two (by rw [add_plain]; exact r3.cell 0) (by rw [add_plain]; exact r3.cell 1) (src_new (r2.keeps k3 id)) (((hs.keeps k1 (fun _ _ _ => id)).keeps k2 (fun _ _ _ => id)).keeps k3 (fun _ _ _ => id)) ⟨Nat.le_refl _, by show (1 : Nat) ≤ _; omega⟩ ⟨hc, hc1⟩
  have hof := of_any _ 2 _ W3 (((hT.keeps k1 id id).keeps k2 id id).keeps k3 id id) hrows (by simp) (by simp [bytesOf]; omega)
  have e : bytesOf [(some ⟨W1.heap.size, 0, none⟩, 1, [0]), (A, c, xs)] = 0 :: xs := by simp [bytesOf]
  rw [e] at hof
  have HOF : Hid (Calls Tryd.prog 16 #[.slice (some ⟨W2.heap.size, 0, none⟩) 2 2] W3 fun e w' => e = .returned (.agg (bvs (Sh.sha (0 :: xs))).toArray) ∧ Keeps (fun _ => False) W3 w') := hof
  have kk : Keeps (fun _ => False) w W3 := (k1.trans k2).trans k3
  have rr : Row W3 w.heap.size 23 Z.toList := (r1.keeps k2 id).keeps k3 id
  have RR := Lib.hid rr
  clear hof e hrows r1 r2 r3 k1 k2 k3 hs hc hc1 hx hT rr
  go_enter Tryd.func17, Tryd.ntmps17
  go_wp2_with fail
  refine HOF.out.mono ?_
  rintro e w4 ⟨rfl, k4⟩
  obtain ⟨R, hR⟩ : ∃ R, (bvs (Sh.sha (0 :: xs))).toArray = R := ⟨_, rfl⟩
  have hsz : (Tryd.prog.info? 23).map (·.size) = some R.size := by rw [← hR, List.size_toArray, bvs_length, Sh.sha_length]; exact size_hash'
  have hzr : Z.size = R.size := by rw [← hR]; exact HZS.out.trans (by rw [List.size_toArray, bvs_length, Sh.sha_length])
  have hone : R.all (·.oneCell') = true := by rw [← hR]; exact bvs_all _
  rw [hR]
  have HSZ := Lib.hid hsz
  have HZR := Lib.hid hzr
  have HONE := Lib.hid hone
  have HRR := Lib.hid hR
  have HO3 : Hid (w4.heap[w.heap.size]? = some (.cells Z 23 (0, 0))) := RR.out.keeps k4 id
  clear hsz hzr hone hR RR HOF
  go_wp2_with (refine wpList_store_row rfl 23 _ _ rfl w.heap.size R rfl rfl 23 Z HO3.out HSZ.out HZR.out HONE.out ?_)
  refine bodyPost_ret (results_cell_row rfl _ _ w.heap.size 23 R (0, 0) _ rfl (setRow_heap _ _ _ _ _ _ HO3.out) Tryd.underlying23 rfl HSZ.out) rfl ?_
  exact ⟨by rw [HRR.out], (kk.trans k4).trans' (Keeps.setRow w.heap.size R) (fun i hi h => by omega)⟩
end Go.Proofs.YtgbajlmcoghofaaDoor
