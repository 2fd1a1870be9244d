/-
  The law TreePlaces walked: at a place that there isn't nothing is proved.
-/
import Derived.Test.YtfdhnlpialcklaaDoorTrL
namespace Go.Proofs.YtfdhnlpialcklaaDoor
open Go.RowKit Go.BigFrame
set_option linter.unusedVariables false

/-- What an answer of Verify is. -/
theorem verify_cases (r : List UInt8) (n i : Nat) (b : List UInt8) (p : List (List UInt8)) : (n ≤ i ∧ Tr.verify r n i b p = 15) ∨ (i < n ∧ (Tr.verify r n i b p = 0 ∨ Tr.verify r n i b p = 20) ∧ (n = 1 → p.length ≠ 0 → Tr.verify r n i b p = 20) ∧ (64 < p.length → Tr.verify r n i b p = 20)) := by
  unfold Tr.verify
  by_cases h : n ≤ i
  · exact .inl ⟨h, if_pos h⟩
  · refine .inr ⟨by omega, ?_, ?_, ?_⟩
    · rw [if_neg h]
      split
      · split
        · exact .inl rfl
        · exact .inr rfl
      · exact .inr rfl
    · intro h1 hp
      rw [if_neg h, if_neg (by rw [Tr.steps_few i (by omega)]; exact hp)]
    · intro hp
      have := Tr.steps_le n i
      rw [if_neg h, if_neg (by omega)]
set_option maxRecDepth 100000 in
set_option maxHeartbeats 2000000 in
theorem places_walk (rt : List UInt8) (n i : Int) (Ae : Option Addr) (le ce : Nat) (zs : List Int) (A : Option Addr) (lp cp : Nat) (hs : List (List UInt8)) (W : World) (hT : Tabs W) (hrt : rt.length = 32) (hn : (Lit.int .u64 n).wf = true) (hi : (Lit.int .u64 i).wf = true) (he : IsRowU .u8 W Ae le ce zs) (hp : IsHashes W A lp cp hs) :
    Calls Tryd.prog 9 #[.agg (bvs rt).toArray, .int .u64 n, .int .u64 i, .slice Ae le ce, .slice A lp cp] W fun e W' => e = .returned (.bool true) ∧ Below W.heap.size W W' := by
  have bn := bounds_u64 hn
  have bi := bounds_u64 hi
  obtain ⟨n, rfl⟩ := Int.eq_ofNat_of_zero_le bn.1
  obtain ⟨i, rfl⟩ := Int.eq_ofNat_of_zero_le bi.1
  obtain ⟨xs, hxl, hxs, hxc, hxm⟩ := he.src
  have hpa := PathAt.of_hashes hp
  obtain ⟨hpl, hpc, hpm, _⟩ := hp
  clear he hn hi
  have hRs : (Tryd.prog.info? 24).map (·.size) = some (bvs rt).toArray.size := by rw [List.size_toArray, bvs_length, hrt]; exact size_hash'
  obtain ⟨R, hR⟩ : ∃ R, (bvs rt).toArray = R := ⟨_, rfl⟩
  rw [hR] at hRs ⊢
  obtain ⟨W1, hW1⟩ : ∃ V, W.alloc (.cells R 24) = V := ⟨_, rfl⟩
  have k1 : Keeps (fun _ => False) W W1 := by rw [← hW1]; exact (Keeps.refl _ _).alloc _
  have r1 : W1.heap[W.heap.size]? = some (.cells R 24 (0, 0)) := by rw [← hW1]; exact heap_alloc_new W _
  have haw := awake3_any W1 (hT.keeps k1 id id)
  have HAW := Lib.hid haw
  have K1 := Lib.hid k1
  have R1 := Lib.hid r1
  have HRS := Lib.hid hRs
  have HR := Lib.hid hR
  by_cases hlong : 66 < lp ∨ 100 < le
  · rcases Nat.lt_or_ge 66 lp with h66 | h66
    · have h66' : (66 : Int) < lp := by omega
      clear hlong haw k1 r1 hRs hR hpa hpl hxs hxl hT
      go_enter Tryd.func9, Tryd.ntmps9
      go_wp2_with fail
      refine HAW.out.mono ?_
      rintro e w3 ⟨rfl, k3⟩
      go_wp2
      go_ret
      exact ⟨rfl, keeps_below3 (K1.out.trans k3)⟩
    · have h66' : (lp : Int) ≤ 66 := by omega
      have h100 : (100 : Int) < le := by omega
      clear hlong haw k1 r1 hRs hR hpa hpl hxs hxl hT
      go_enter Tryd.func9, Tryd.ntmps9
      go_wp2_with fail
      refine HAW.out.mono ?_
      rintro e w3 ⟨rfl, k3⟩
      go_wp2
      go_ret
      exact ⟨rfl, keeps_below3 (K1.out.trans k3)⟩
  · have h66' : (lp : Int) ≤ 66 := by omega
    have h100 : (le : Int) ≤ 100 := by omega
    have hver := fun V (hk : Keeps (fun _ => False) W1 V) => verify_any rt n i Ae A ce cp xs hs V (hT.keeps (k1.trans hk) id id) hrt (hxs.keeps (k1.trans hk) (fun _ _ _ => id)) (by omega) hxm (by omega) (hpa.keeps (k1.trans hk) (fun _ _ => id)) (by omega) hpm (by omega)
    have hcs := verify_cases rt n i xs hs
    obtain ⟨r, hr⟩ : ∃ r, Tr.verify rt n i xs hs = r := ⟨_, rfl⟩
    rw [hr] at hver hcs
    rw [hR, hxl, hpl] at hver
    rw [hpl] at hcs
    have HVER := Lib.hid hver
    clear hlong haw k1 r1 hRs hR hpa hpl hxs hxl hT hver hr hrt
    rcases hcs with ⟨h1, rfl⟩ | ⟨h1, hr, h2, h3⟩
    · have h1' : (n : Int) ≤ i := by omega
      go_enter Tryd.func9, Tryd.ntmps9
      go_wp2_with fail
      refine HAW.out.mono ?_
      rintro e w3 ⟨rfl, k3⟩
      have hg3 : Hid (w3.heap[W.heap.size]? = some (.cells R 24 (0, 0))) := (k3.block _ (Array.getElem?_eq_some_iff.1 R1.out).1 id).trans R1.out
      go_wp2_with (refine wpList_load_row (by rfl) 24 (.tmp 5) (by rfl) W.heap.size (by rfl) 24 R (0, 0) _ hg3.out Tryd.underlying24 rfl HRS.out ?_)
      refine (HVER.out w3 k3).mono ?_
      rintro e w4 ⟨rfl, k4⟩
      go_wp2
      go_ret
      exact ⟨rfl, keeps_below3 ((K1.out.trans k3).trans k4)⟩
    · have h1' : (i : Int) < n := by omega
      have hall : (r = 0 ∧ ¬ ((n : Int) = 1 ∧ 0 < (lp : Int)) ∧ (lp : Int) ≤ 64) ∨ r = 20 := by
        rcases hr with rfl | rfl
        · refine .inl ⟨rfl, fun ⟨ha, hb⟩ => ?_, ?_⟩
          · have := h2 (by omega) (by omega); omega
          · by_cases h : 64 < lp
            · have := h3 h; omega
            · omega
        · exact .inr rfl
      clear h2 h3 hr
      rcases hall with ⟨rfl, hx, h64⟩ | rfl
      · have hx2 : ((n : Int) ≠ 1) ∨ ((n : Int) = 1 ∧ (lp : Int) = 0) := by
          by_cases h : (n : Int) = 1
          · refine .inr ⟨h, ?_⟩
            by_cases hz : (lp : Int) = 0
            · exact hz
            · exact absurd ⟨h, by omega⟩ hx
          · exact .inl h
        clear hx
        rcases hx2 with hx2 | ⟨hx2, hx3⟩
        · have hb1 : ((n : Int) != 1) = true := bne_iff_ne.2 hx2
          go_enter Tryd.func9, Tryd.ntmps9
          go_wp2_with fail
          refine HAW.out.mono ?_
          rintro e w3 ⟨rfl, k3⟩
          have hg3 : Hid (w3.heap[W.heap.size]? = some (.cells R 24 (0, 0))) := (k3.block _ (Array.getElem?_eq_some_iff.1 R1.out).1 id).trans R1.out
          go_wp2_with (refine wpList_load_row (by rfl) 24 (.tmp 5) (by rfl) W.heap.size (by rfl) 24 R (0, 0) _ hg3.out Tryd.underlying24 rfl HRS.out ?_)
          refine (HVER.out w3 k3).mono ?_
          rintro e w4 ⟨rfl, k4⟩
          go_wp2
          go_ret
          exact ⟨rfl, keeps_below3 ((K1.out.trans k3).trans k4)⟩
        · obtain rfl : n = 1 := by omega
          obtain rfl : lp = 0 := by omega
          go_enter Tryd.func9, Tryd.ntmps9
          go_wp2_with fail
          refine HAW.out.mono ?_
          rintro e w3 ⟨rfl, k3⟩
          have hg3 : Hid (w3.heap[W.heap.size]? = some (.cells R 24 (0, 0))) := (k3.block _ (Array.getElem?_eq_some_iff.1 R1.out).1 id).trans R1.out
          go_wp2_with (refine wpList_load_row (by rfl) 24 (.tmp 5) (by rfl) W.heap.size (by rfl) 24 R (0, 0) _ hg3.out Tryd.underlying24 rfl HRS.out ?_)
          refine (HVER.out w3 k3).mono ?_
          rintro e w4 ⟨rfl, k4⟩
          go_wp2
          go_ret
          exact ⟨rfl, keeps_below3 ((K1.out.trans k3).trans k4)⟩
      · go_enter Tryd.func9, Tryd.ntmps9
        go_wp2_with fail
        refine HAW.out.mono ?_
        rintro e w3 ⟨rfl, k3⟩
        have hg3 : Hid (w3.heap[W.heap.size]? = some (.cells R 24 (0, 0))) := (k3.block _ (Array.getElem?_eq_some_iff.1 R1.out).1 id).trans R1.out
        go_wp2_with (refine wpList_load_row (by rfl) 24 (.tmp 5) (by rfl) W.heap.size (by rfl) 24 R (0, 0) _ hg3.out Tryd.underlying24 rfl HRS.out ?_)
        refine (HVER.out w3 k3).mono ?_
        rintro e w4 ⟨rfl, k4⟩
        go_wp2
        all_goals go_ret
        all_goals exact ⟨rfl, keeps_below3 ((K1.out.trans k3).trans k4)⟩
end Go.Proofs.YtfdhnlpialcklaaDoor
