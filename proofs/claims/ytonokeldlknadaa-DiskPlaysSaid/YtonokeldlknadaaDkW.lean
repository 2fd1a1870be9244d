/-
  The document's example holds: 'awake' of layer 11 returns true, and leaves all that was as it was.
-/
import Derived.Test.YtonokeldlknadaaDkH
namespace Go.Proofs.Ytonokeldlknadaa
open Go.RowKit Go.BigFrame
set_option linter.unusedVariables false

/-- A block is written that was made behind the disk. -/
theorem write_in (w : World) (F : Nat → Prop) (g : Nat) (s : Dk.St) (h : DskAt w F g s) (hF : ∀ k, w.heap.size ≤ k → F k) (w3 : World) (k3 : Keeps (fun _ => False) w w3) (X cx : Nat) (t : TypeId) (xs : List UInt8) (hX1 : w.heap.size ≤ X) (hX : Row w3 X t (bvs xs))
    (i : Nat) (hi : i < s.n) (hd : s.dead = false) (hg : Dk.goes s = true) (hxl : xs.length = 256) (hn : s.loose.length ≤ 1000) :
    Calls Try.prog 13 #[.pointer (some ⟨g, 0, none⟩), .int .i64 (i : Int), .slice (some ⟨X, 0, none⟩) 256 cx] w3 fun e w' => e = .returned (.int .i64 0) ∧ DskAt w' F g { Dk.cnt s with loose := s.loose ++ [(i, xs)] } ∧ Keeps F w3 w' := by
  have h3 : DskAt w3 (fun k => F k ∧ k ≠ X) g s := (h.mono (fun k hk hf => ⟨hf, by omega⟩)).later k3
  have hlt := hX.lt
  refine (write_ok w3 (fun k => F k ∧ k ≠ X) g s h3 (fun k hk => ⟨hF k (by have := k3.size; omega), by omega⟩) i hi hd hg X cx xs hxl (rangeAt_row hX) (fun hh => hh.2 rfl) hn).mono ?_
  rintro e w' ⟨h1, h2, h3⟩
  exact ⟨h1, h2.mono (fun k _ hf => hf.1), h3.mono (fun k _ hf => hf.1)⟩
/-- A front that was made behind the disk. -/
theorem crash_in (w : World) (F : Nat → Prop) (g : Nat) (s : Dk.St) (h : DskAt w F g s) (hF : ∀ k, w.heap.size ≤ k → F k) (w3 : World) (k3 : Keeps (fun _ => False) w w3) (X cx : Nat) (t : TypeId) (f : List UInt8) (hX1 : w.heap.size ≤ X) (hX : Row w3 X t (bvs f))
    (hn : s.loose.length ≤ 1000) (hfl : f.length ≤ 9223372036854775807) :
    Calls Try.prog 19 #[.pointer (some ⟨g, 0, none⟩), .slice (some ⟨X, 0, none⟩) f.length cx] w3 fun e w' => e = .returned (.tuple #[]) ∧ DskAt w' F g { s with good := Dk.crash s.good s.loose f, loose := [], fails := false, dead := false } ∧ Keeps F w3 w' := by
  have h3 : DskAt w3 (fun k => F k ∧ k ≠ X) g s := (h.mono (fun k hk hf => ⟨hf, by omega⟩)).later k3
  have hlt := hX.lt
  refine (crash_any w3 (fun k => F k ∧ k ≠ X) g s h3 (fun k hk => ⟨hF k (by have := k3.size; omega), by omega⟩) hn (some ⟨X, 0, none⟩) cx f (fun j u hu => ⟨_, rfl, by rw [add_plain]; exact rangeAt_row hX j u hu⟩) (fun a ha _ hh => by injection ha with ha; subst ha; exact hh.2 rfl) hfl).mono ?_
  rintro e w' ⟨h1, h2, h3⟩
  exact ⟨h1, h2.mono (fun k _ hf => hf.1), h3.mono (fun k _ hf => hf.1)⟩
theorem Row.src {w : World} {g : Nat} {t : TypeId} {xs : List Value} (h : Row w g t xs) : Src w (some ⟨g, 0, none⟩) xs := fun j u hu => ⟨_, rfl, by rw [add_plain]; exact rangeAt_row h j u hu⟩
theorem Row.byte {w : World} {g : Nat} {t : TypeId} {b : List UInt8} (h : Row w g t (bvs b)) {j : Nat} {c : UInt8} (hc : b[j]? = some c) : w.cell? ⟨g, j, none⟩ = some (.int .u8 (c.toNat : Int)) := by rw [h.cell, bvs_get, hc]; rfl
theorem goes_fresh (n : Nat) : Dk.goes (Dk.fresh n) = true := rfl
theorem cnt_fresh (n : Nat) : Dk.cnt (Dk.fresh n) = Dk.fresh n := rfl

set_option maxRecDepth 100000 in
set_option maxHeartbeats 2000000 in
theorem awake11_any (w : World) :
    Calls Try.prog 9 #[] w fun e w' => e = .returned (.bool true) ∧ Keeps (fun _ => False) w w' := by
  have hnew := new_disk 2 w (by omega) (by omega)
  rw [show ((2 : Nat) : Int) = 2 from rfl] at hnew
  have HNEW := Lib.hid hnew
  clear hnew
  go_enter Try.func9, Try.ntmps9
  go_wp2_with fail
  refine HNEW.out.mono ?_
  rintro e w1 ⟨g, rfl, hg, d1, k1⟩
  obtain ⟨W2, hW2⟩ : ∃ W, w1.alloc (.cells #[.int .u8 7] 5) = W := ⟨_, rfl⟩
  have k2 : Keeps (fun _ => False) w1 W2 := by rw [← hW2]; exact (Keeps.refl _ _).alloc _
  have r2 : Row W2 w1.heap.size 5 (bvs [7]) := by rw [← hW2]; exact heap_alloc_new w1 _
  have hfull := full_any (some ⟨w1.heap.size, 0, none⟩) 1 [7] false 256 rfl W2 r2.src (by simp)
  have HFULL : Hid (Calls Try.prog 12 #[.slice (some ⟨w1.heap.size, 0, none⟩) 1 1, .bool false] W2 fun e w' => e = .returned (.slice (some ⟨W2.heap.size, 0, none⟩) 256 256) ∧ Row w' W2.heap.size 5 (bvs (Dk.fill [7])) ∧ Keeps (fun _ => False) W2 w') := Lib.hid hfull
  have D1 := Lib.hid d1
  have K1 := Lib.hid k1
  have K2 := Lib.hid k2
  have hs2 : w1.heap.size ≤ W2.heap.size := k2.size
  clear HNEW hfull d1 k1 k2 r2
  go_wp2_with fail
  refine HFULL.out.mono ?_
  rintro e w3 ⟨rfl, r3, k3⟩
  have hwr := write_in w1 _ g _ D1.out (fun k hk => by have := K1.out.size; omega) w3 (K2.out.trans k3) W2.heap.size 256 5 (Dk.fill [7]) hs2 r3 1 (by show 1 < 2; omega) rfl rfl (Dk.fill_length _) (by show 0 ≤ 1000; omega)
  rw [show ((1 : Nat) : Int) = 1 from rfl] at hwr
  have HWR := Lib.hid hwr
  have K3 : Hid (Keeps (fun _ => False) w w3) := Lib.hid ((K1.out.trans K2.out).trans k3)
  clear HFULL hwr k3 r3 D1 K1 K2 hs2 hW2
  go_wp2_with fail
  refine HWR.out.mono ?_
  rintro e w4 ⟨rfl, d4, k4⟩
  have K4 : Hid (Keeps (fun _ => False) w w4) := Lib.hid (K3.out.trans' k4 (fun i hi h => by omega))
  have hrd := read_ok w4 _ g _ d4 1 (by show 1 < 2; omega) rfl
  rw [show ((1 : Nat) : Int) = 1 from rfl] at hrd
  have HRD := Lib.hid hrd
  have D4 := Lib.hid d4
  clear HWR hrd d4 k4 K3
  go_wp2_with fail
  refine HRD.out.mono ?_
  rintro e w5 ⟨rfl, r5, k5⟩
  obtain ⟨A5, hA5⟩ : ∃ a, w4.heap.size = a := ⟨_, rfl⟩
  rw [hA5] at r5
  obtain ⟨W6, hW6⟩ : ∃ W, w5.alloc (.cells #[.int .u8 3] 5) = W := ⟨_, rfl⟩
  have k6 : Keeps (fun _ => False) w5 W6 := by rw [← hW6]; exact (Keeps.refl _ _).alloc _
  have r6 : Row W6 w5.heap.size 5 (bvs [3]) := by rw [← hW6]; exact heap_alloc_new w5 _
  have hA : w4.heap.size < w5.heap.size := by have := r5.lt; omega
  have D5 := (D4.out.mono (G := fun k => w.heap.size ≤ k ∧ k ≠ A5) (fun k hk hf => ⟨hf, by omega⟩)).later k5
  have hcr := crash_in w5 _ g _ D5 (fun k hk => ⟨by have := K4.out.size; omega, by omega⟩) W6 k6 w5.heap.size 1 5 [3] (Nat.le_refl _) r6 (by show 1 ≤ 1000; omega) (by simp)
  have HCR : Hid (Calls Try.prog 19 #[.pointer (some ⟨g, 0, none⟩), .slice (some ⟨w5.heap.size, 0, none⟩) 1 1] W6 _) := Lib.hid hcr
  have R5 := Lib.hid r5
  have K6 : Hid (Keeps (fun _ => False) w W6) := Lib.hid ((K4.out.trans k5).trans k6)
  have K56 := Lib.hid k6
  clear HRD hcr r6 k5 k6 r5 D5
  go_wp2_with fail
  refine HCR.out.mono ?_
  rintro e w7 ⟨rfl, d7, k7⟩
  have hrd := read_ok w7 _ g _ d7 1 (by show 1 < 2; omega) rfl
  rw [show ((1 : Nat) : Int) = 1 from rfl] at hrd
  have HRD := Lib.hid hrd
  have D7 := Lib.hid d7
  have R7 : Hid (Row w7 A5 63 _) := Lib.hid ((R5.out.keeps K56.out id).keeps k7 (fun hh => hh.2 rfl))
  have K7 : Hid (Keeps (fun _ => False) w w7) := Lib.hid (K6.out.trans' k7 (fun i hi h => by omega))
  clear HCR hrd d7 k7 R5 K56 K6 D4 hW6
  go_wp2_with fail
  refine HRD.out.mono ?_
  rintro e w8 ⟨rfl, r8, k8⟩
  have hlo := loose_any w8 _ g _ (D7.out.later k8)
  have HLO : Hid (Calls Try.prog 24 #[.pointer (some ⟨g, 0, none⟩)] w8 fun e w' => e = .returned (.int .i64 0) ∧ w' = w8) := Lib.hid hlo
  have a255 : w8.cell? ⟨A5, 255, none⟩ = some (.int .u8 7) := (R7.out.keeps k8 id).byte (c := 7) (by decide +kernel)
  have b2 : w8.cell? ⟨w7.heap.size, 2, none⟩ = some (.int .u8 7) := r8.byte (c := 7) (by decide +kernel)
  have b3 : w8.cell? ⟨w7.heap.size, 3, none⟩ = some (.int .u8 0) := r8.byte (c := 0) (by decide +kernel)
  have K8 := Lib.hid (K7.out.trans k8)
  clear HRD hlo r8 k8 R7 D7 K7
  go_wp2_with fail
  refine HLO.out.mono ?_
  rintro e w9 ⟨rfl, h9⟩
  obtain rfl : w8 = w9 := h9.symm
  go_wp2
  go_ret
  exact ⟨rfl, K8.out⟩
end Go.Proofs.Ytonokeldlknadaa
