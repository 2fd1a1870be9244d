/-
  The document's example holds: 'awake' returns true, and leaves all that was as it was.
-/
import Derived.Test.YtgbdedkbkagndaaLaw
import Derived.Test.YtgbdedkbkagndaaEq
import Derived.Laws.BytesArg
import Derived.Laws.IdiomStrings
import Derived.Lib.SlBytesConst
namespace Go.Proofs.Ytgbdedkbkagndaa
open Go.RowKit
set_option linter.unusedVariables false

/-- What 'awake' puts. -/
def awakeBytes : List UInt8 := [1, 2, 0, 2, 97, 98, 7, 0, 0, 0, 0, 0, 0, 0, 0, 0, 0, 0, 0, 0, 0, 0, 0, 0, 0, 0, 0, 0, 0, 0, 0, 0, 0, 0, 0, 0, 0, 0]
def hash7 : List UInt8 := [7, 0, 0, 0, 0, 0, 0, 0, 0, 0, 0, 0, 0, 0, 0, 0, 0, 0, 0, 0, 0, 0, 0, 0, 0, 0, 0, 0, 0, 0, 0, 0]
theorem awake_put : ((([] ++ numB 258 2) ++ (nb (([97, 98] : List UInt8).length : Int) 2 ++ [97, 98])) ++ hash7) = awakeBytes := by decide +kernel
theorem awake_n : rnum 2 (awakeBytes, 0) = ((awakeBytes.drop 2, 0), 258) := by decide +kernel
theorem awake_b : rbytes 2 (awakeBytes.drop 2, 0) = ((awakeBytes.drop 6, 0), [97, 98]) := by decide +kernel
theorem awake_h : rhash (awakeBytes.drop 6, 0) = (([], 0), hash7) := by decide +kernel

theorem awake_any (w : World) :
    Calls Try.prog 9 #[] w fun e w' => e = .returned (.bool true) ∧ Below w.heap.size w w' := by
  obtain ⟨B, hB⟩ : ∃ B, w.heap.size = B := ⟨_, rfl⟩
  have hBle : B ≤ w.heap.size := by omega
  rw [hB]
  clear hB
  have kc := fun (w : World) (C : Array Value) (n c : Nat) => Lib.run_convert_bytes_const (P := Try.prog) w 23 5 C n c Try.underlying23 Try.underlying5
  go_enter Try.func9, Try.ntmps9
  go_wp2_with fail
  refine (newWriterB B _ hBle).mono ?_
  rintro e w1 ⟨b, rfl, hw1, k1⟩
  go_wp2_with fail
  refine (wrNumB B b _ _ _ _ hw1 (by omega) (by simp)).mono ?_
  rintro e w2 ⟨rfl, hw2, k2⟩
  have K2 := k1.trans k2
  clear hw1 k1 k2
  obtain ⟨h1, h2, r, h3, h4⟩ := hw2
  have hrl := h4.row_lt
  have hbl := h4.lt
  have hwa : Wr (w2.alloc (.cells #[.int .u8 97, .int .u8 98] 5 (2, 3))) b r _ := h4.keeps (S := fun _ => False) ((Keeps.refl _ _).alloc _) id (fun _ _ => id)
  have hsrc : ∀ w', Keeps (fun k => k = b ∨ r = some k) (w2.alloc (.cells #[.int .u8 97, .int .u8 98] 5 (2, 3))) w' → Src w' (some ⟨w2.heap.size, 0, none⟩) (bvs [97, 98]) := by
    intro w' hk
    have hs : Src (w2.alloc (.cells #[.int .u8 97, .int .u8 98] 5 (2, 3))) (some ⟨w2.heap.size, 0, none⟩) (bvs [97, 98]) := fun j u hu => ⟨_, rfl, by
      rw [add_plain, Nat.zero_add]
      refine (World.cell?_alloc_mark w2 _ _ _ j).trans ?_
      have e : (#[Value.int IntKind.u8 97, Value.int IntKind.u8 98] : Array Value) = (bvs [97, 98]).toArray := rfl
      rw [e, List.getElem?_toArray]
      exact hu⟩
    refine hs.keeps hk (fun a ha _ h => ?_)
    injection ha with ha
    subst ha
    rcases h with h | h
    · simp only at h; omega
    · have := (hrl _ h).1; simp only at this; omega
  have hput := wrBytes_any b r _ [97, 98] (some ⟨w2.heap.size, 0, none⟩) 2 _ hwa hsrc (by decide) (by decide) (by decide)
  have HPUT := Lib.hid hput
  have HB2 : B ≤ (w2.alloc (.cells #[.int .u8 97, .int .u8 98] 5 (2, 3))).heap.size := by simp; omega
  clear hput hsrc hwa hrl h4
  go_wp2_with fail
  refine HPUT.out.mono fun e w3 h => ?_
  obtain ⟨he, hw3, k3⟩ := WrB.put h1 HB2 h3 h
  have K3 := (K2.alloc h2 _).trans k3
  subst he
  clear h k3 K2 HPUT HB2 h1 h2 h3 hbl
  go_wp2_with fail
  refine (wrHashB B b _ hash7 _ hw3 rfl (by decide)).mono ?_
  rintro e w4 ⟨rfl, hw4, k4⟩
  rw [awake_put] at hw4
  have K4 := K3.trans k4
  clear hw3 K3 k4
  go_wp2_with fail
  refine (wrOutB B b _ _ hw4 (by decide)).mono ?_
  rintro e w5 ⟨A, c, rfl, hown, k5⟩
  have K5 := K4.trans (k5.below hw4.2.1 (fun _ _ => id))
  obtain ⟨g, cap, hv, hg1, hg2⟩ := hown.form (by decide)
  injection hv with q1 q2 q3
  subst q1 q3
  have hsrc := Src.of_own hown
  have hcl : ∀ j u, (bvs awakeBytes)[j]? = some u → w5.cell? ⟨g, j, none⟩ = some u := fun j u hu => by
    have := hown.cells (g := g) rfl j u hu
    rwa [add_plain, Nat.zero_add] at this
  have d0 := hcl 0 (.int .u8 1) rfl
  have d1 := hcl 1 (.int .u8 2) rfl
  have d3 := hcl 3 (.int .u8 2) rfl
  have e38 : awakeBytes.length = 38 := by decide
  have hnr := newReaderB w5.heap.size (some ⟨g, 0, none⟩) c awakeBytes w5 (Nat.le_refl _) hsrc (by decide)
  rw [e38] at hnr ⊢
  have HNR := Lib.hid hnr
  have hB5 := Nat.le_trans hBle K5.size
  clear hw4 K4 k5 hnr hcl hsrc hown e38 q2
  go_wp2_with fail
  refine HNR.out.mono ?_
  rintro e w6 ⟨rb, rfl, hr6, k6⟩
  clear HNR
  go_wp2_with fail
  refine (rdNumB _ rb 2 _ _ hr6).mono ?_
  rintro e w7 ⟨rfl, hr7, k7, _⟩
  rw [awake_n] at hr7 ⊢
  have K7 := k6.trans k7
  clear hr6 k6 k7
  go_wp2_with fail
  refine (rdBytesB _ rb 2 _ _ hr7 (by decide)).mono ?_
  rintro e w8 ⟨A2, c2, rfl, hown2, hr8, k8, _⟩
  rw [awake_b] at hr8 hown2 ⊢
  have hb7 := hr7.lt
  have K8 := K7.trans k8
  clear hr7 k8 K7
  go_wp2_with fail
  refine (rdHashB _ rb _ _ hr8).mono ?_
  rintro e w9 ⟨rfl, hr9, k9, o9⟩
  rw [awake_h] at hr9 ⊢
  have hs9 := Src.only hown2 hb7 o9
  have K9 := K8.trans k9
  clear hr8 k9 K8 hown2 o9 hb7
  have d0 := (K9.cell (p := ⟨g, 0, none⟩) hg2).trans d0
  have d1 := (K9.cell (p := ⟨g, 1, none⟩) hg2).trans d1
  have d3 := (K9.cell (p := ⟨g, 3, none⟩) hg2).trans d3
  have hstr := fun (W : World) (h : Only w9.heap.size w9 W) => run_string_src (P := Try.prog) W 23 9 5 Try.underlying23 Try.underlying5 Try.underlying9 A2 [97, 98] c2 (hs9.keeps h (fun a _ h e => by omega))
  have HSTR : Hid (∀ W, Only w9.heap.size w9 W → (convert 23 9 (.slice A2 2 c2)).run Try.prog W = .ok (.string ⟨#[97, 98]⟩) W) := hstr
  have HZ : Hid ((w9.alloc (.cells (bvs (List.replicate 32 0)).toArray 25)).heap[w9.heap.size]? = some (.cells (bvs (List.replicate 32 0)).toArray 25 (0, 0))) := heap_alloc_new w9 _
  have HS7 : Hid ((Try.prog.info? 25).map (·.size) = some (bvs hash7).toArray.size) := size_hash
  have HS0 : Hid ((bvs (List.replicate 32 0)).toArray.size = (bvs hash7).toArray.size) := by show _ = _; decide +kernel
  clear hstr
  have H9 := Lib.hid hs9
  clear hs9
  have hB9 : B ≤ w9.heap.size := by have := K9.size; omega
  have HC : Hid (∀ w10, Keeps (fun k => k = w9.heap.size) (w9.alloc (.cells (bvs (List.replicate 32 0)).toArray 25)) w10 → Only w9.heap.size w9 w10) := fun w10 h => ((Keeps.refl _ w9).alloc _).trans h
  have HD : Hid (∀ w10, Only w9.heap.size w9 w10 → w10.cell? ⟨g, 0, none⟩ = some (.int .u8 1) ∧ w10.cell? ⟨g, 1, none⟩ = some (.int .u8 2) ∧ w10.cell? ⟨g, 3, none⟩ = some (.int .u8 2)) := fun w10 h => by
    have hg9 : g < w9.heap.size := Nat.lt_of_lt_of_le hg2 K9.size
    exact ⟨(h.cell (p := ⟨g, 0, none⟩) hg9 (by simp; omega)).trans d0, (h.cell (p := ⟨g, 1, none⟩) hg9 (by simp; omega)).trans d1, (h.cell (p := ⟨g, 3, none⟩) hg9 (by simp; omega)).trans d3⟩
  have HR : Hid (∀ w10, Only w9.heap.size w9 w10 → RdB w10 w5.heap.size rb ([], 0)) := fun w10 h =>
    hr9.later (C := w9.heap.size) (h.below (Nat.le_refl _) (fun k hk e => by omega)) (Nat.le_refl _)
  have HE : Hid (∀ W : World, (binOp .eql 25 (.agg (bvs hash7).toArray) (.agg (bvs hash7).toArray)).run Try.prog W = .ok (.bool true) W) := fun W => by
    obtain ⟨i0, hi, _⟩ := info_parts info_u8
    rw [run_eql_bytes W 25 5 32 Try.underlying25 Try.underlying5 hi (by kernel_rfl) (by kernel_rfl) hash7 hash7 rfl rfl]
    simp
  have HF : Hid (∀ w10, Only w9.heap.size w9 w10 → Below B w w10) := fun w10 h => (K5.trans (K9.mono (by omega))).trans (h.below hB9 (fun k hk e => by omega))
  clear d0 d1 d3 H9 hr9 K9 K5
  go_wp2_with (first
    | (refine wpList_store_abs (by rfl) 25 (.tmp 6) (.tmp 26) (by rfl) w9.heap.size (bvs hash7).toArray (by rfl) (by rfl) 25 (bvs (List.replicate 32 0)).toArray HZ.out HS7.out HS0.out (bvs_all _) ?_; intro w10 HH k10; obtain ⟨d0, d1, d3⟩ := HD.out _ (HC.out _ k10); have hst := HSTR.out _ (HC.out _ k10); have hrd := HR.out _ (HC.out _ k10))
    | (refine wpList_load_row_w (by rfl) 25 (.tmp 6) (by rfl) w9.heap.size (by rfl) 25 (bvs hash7).toArray (0, 0) _ HH.out Try.underlying25 rfl HS7.out ?_)
    | (refine wpList_eq_agg_w (by rfl) .eql 25 _ (.tmp 58) (.tmp 59) (by rfl) (bvs hash7).toArray (bvs hash7).toArray (by rfl) (by rfl) (by kernel_rfl) (.bool true) (HE.out _) ?_)
    | (go_at_call 27; refine (rdEndB _ rb _ _ hrd).mono ?_; rintro e w11 ⟨rfl, rfl⟩))
  go_ret
  exact ⟨rfl, HF.out _ (HC.out _ k10)⟩
end Go.Proofs.Ytgbdedkbkagndaa
