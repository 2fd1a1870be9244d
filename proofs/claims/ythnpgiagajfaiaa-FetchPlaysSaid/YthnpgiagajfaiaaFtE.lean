/-
  The document's example of what is asked for.
-/
import Derived.Test.YthnpgiagajfaiaaFtC
import Derived.Test.YthnpgiagajfaiaaClsW
import Derived.Test.YthnpgiagajfaiaaWalkE
namespace Go.Proofs.Ythnpgiagajfaiaa
open Go.RowKit Go.BigFrame
set_option linter.unusedVariables false
set_option linter.unusedSimpArgs false

namespace Ft
def awk : Wn := ((0, List.replicate 32 0), (3, List.replicate 32 0))
theorem awk_ok : Wn.Ok awk := ⟨⟨by decide, by decide⟩, by decide, by decide⟩
/-- The example, so many ticks on: what is asked for, what was counted. -/
structure Aw where
  l : List Q
  s : BitVec 64
  n : Nat
  gone : Nat
def awn (i : Nat) (a : Aw) : Aw := ⟨(tick 1 4 5 a.s a.l).l, (tick 1 4 5 a.s a.l).s, if (tick 1 4 5 a.s a.l).asks.length = 1 then a.n + (i + 1) else a.n, if (tick 1 4 5 a.s a.l).lost.length = 1 then i + 1 else a.gone⟩
def aw : Nat → Aw
  | 0 => ⟨[⟨awk, 0, 1⟩], 1#64, 0, 0⟩
  | i + 1 => awn i (aw i)
theorem aw_end : (aw 16).n = 27 ∧ (aw 16).gone = 16 ∧ has (aw 16).l awk = false := by decide
theorem aw_again : start (aw 0).l awk = (aw 0).l := by
  unfold start
  rw [if_pos (by decide)]
theorem aw_has : has (aw 0).l awk = true := by decide
theorem aw_small : ∀ i, i ≤ 16 → (aw i).n ≤ 27 ∧ (aw i).l.length ≤ 1 ∧ (tick 1 4 5 (aw i).s (aw i).l).asks.length ≤ 1 ∧ (tick 1 4 5 (aw i).s (aw i).l).lost.length ≤ 1 := by decide
end Ft
theorem zero_want (w : World) : (zeroValue 41).run Try.prog w = .ok (.agg (wcs ((0, List.replicate 32 0), (0, List.replicate 32 0))).toArray) w := by kernel_rfl
theorem build_key3 (V : World) : (Instr.build 39 #[(0, .int .u64 3)]).run Try.prog V = .ok (.agg (kcs (3, List.replicate 32 0)).toArray) V := by kernel_rfl
theorem build_awk (V : World) : (Instr.build 41 #[(1, .agg (kcs (3, List.replicate 32 0)).toArray)]).run Try.prog V = .ok (.agg (wcs Ft.awk).toArray) V := by kernel_rfl
theorem info_W : (Try.prog.info? 41).map (·.size) = some 66 := by kernel_rfl
variable {At : World → (Nat → Prop) → Nat → Ft.Tb → Prop}
set_option maxRecDepth 100000 in
set_option maxHeartbeats 4000000 in
theorem awake18_any (C : Fetch At) (w : World) : Calls Try.prog 8 #[] w fun e w' => e = .returned (.bool true) ∧ Keeps (fun _ => False) w w' := by
  obtain ⟨Z, hZ⟩ : ∃ Z, (wcs ((0, List.replicate 32 0), (0, List.replicate 32 0))).toArray = Z := ⟨_, rfl⟩
  have hz : ∀ V : World, (zeroValue 41).run Try.prog V = .ok (.agg Z) V := fun V => by rw [← hZ]; exact zero_want V
  obtain ⟨KA, hKA⟩ : ∃ K, (kcs (3, List.replicate 32 0)).toArray = K := ⟨_, rfl⟩
  obtain ⟨WA, hWA⟩ : ∃ K, (wcs Ft.awk).toArray = K := ⟨_, rfl⟩
  have HBK : Hid (∀ V : World, (Instr.build 39 #[(0, .int .u64 3)]).run Try.prog V = .ok (.agg KA) V) := Lib.hid (fun V => by rw [← hKA]; exact build_key3 V)
  have HBW : Hid (∀ V : World, (Instr.build 41 #[(1, .agg KA)]).run Try.prog V = .ok (.agg WA) V) := Lib.hid (fun V => by rw [← hKA, ← hWA]; exact build_awk V)
  have SW : Hid ((Try.prog.info? 41).map (·.size) = some WA.size) := Lib.hid (by rw [← hWA, List.size_toArray, wcs_length Ft.awk_ok]; exact info_W)
  have SZW : Hid (Z.size = WA.size) := Lib.hid (by rw [← hWA, ← hZ]; rfl)
  have OW : Hid (WA.all (·.oneCell') = true) := Lib.hid (by rw [← hWA, Array.all_eq_true_iff_forall_mem]; intro v hv; exact wcs_one Ft.awk v (by simpa using hv))
  have hn := C.new_on w 1 4 5 (by omega)
  rw [show ((1 : Nat) : Int) = 1 from rfl, show ((4 : Nat) : Int) = 4 from rfl, show ((5 : Nat) : Int) = 5 from rfl] at hn
  have HN := Lib.hid hn
  have HWA := Lib.hid hWA
  have CC := Lib.hid C
  clear hn hZ hKA hWA C
  go_enter Try.func8, Try.ntmps8
  go_wp2_with fail
  refine HN.out.mono ?_
  rintro e w1 ⟨g, F, rfl, a1, hF, k1⟩
  obtain ⟨b3, hb3⟩ : ∃ x, w1.heap.size = x := ⟨_, rfl⟩
  obtain ⟨W2, hW2⟩ : ∃ V, w1.alloc (.cells Z 41) = V := ⟨_, rfl⟩
  have k2 : Keeps (fun _ => False) w1 W2 := by rw [← hW2]; exact (Keeps.refl _ _).alloc _
  have r2 : W2.heap[b3]? = some (.cells Z 41 (0, 0)) := by rw [← hW2, ← hb3]; exact heap_alloc_new w1 _
  obtain ⟨W3, hW3⟩ : ∃ V, W2.setRow b3 WA = V := ⟨_, rfl⟩
  have r3 : W3.heap[b3]? = some (.cells WA 41 (0, 0)) := by rw [← hW3]; exact setRow_heap _ _ _ _ _ _ r2
  have k3 : Keeps (fun j => j = b3) w1 W3 := (k2.mono (fun _ _ h => h.elim)).trans (by rw [← hW3]; exact Keeps.setRow _ _)
  have hlt := CC.out.lt a1
  have a3 := CC.out.keeps a1 k3 (fun b e hb => by have := hlt b hb; omega)
  have h3 := CC.out.start Ft.awk a3 Ft.awk_ok
  rw [HWA.out] at h3
  have H3 := Lib.hid h3
  have R2 := Lib.hid r2
  have R3 := Lib.hid r3
  have K3 : Hid (Keeps (fun _ => False) w W3) := Lib.hid (k1.trans' k3 (fun j hj e => by have := k1.size; omega))
  have HF := Lib.hid (And.intro hF (And.intro hlt (show w.heap.size ≤ b3 by have := k1.size; omega)))
  clear h3 a3 a1 hF k1 k2 k3 r2 r3 hlt
  go_wp2_with (first
    | (refine wpList_made (by rfl) 39 [(0, .const (.int .u64 3))] (by rfl) [(0, .int .u64 3)] (by rfl) (.agg KA) HBK.out ?_)
    | (refine wpList_made (by rfl) 41 [(1, .tmp 22)] (by rfl) [(1, .agg KA)] (by rfl) (.agg WA) HBW.out ?_)
    | (refine wpList_store_row (by rfl) 41 _ _ (by rfl) b3 WA (by rfl) (by rfl) 41 Z R2.out SW.out SZW.out OW.out ?_; rw [hW3])
    | (refine wpList_load_row (by rfl) 41 _ (by rfl) b3 (by rfl) 41 WA (0, 0) _ R3.out Try.underlying41 rfl SW.out ?_)
    | fail)
  refine H3.out.mono ?_
  rintro e w4 ⟨F4, rfl, a4, hF4, k4⟩
  have a4' : At w4 F4 g ⟨1, 4, 5, (Ft.aw 0).l⟩ := a4
  have r4 : w4.heap[b3]? = some (.cells WA 41 (0, 0)) := (k4.block b3 (Array.getElem?_eq_some_iff.1 R3.out).1 (fun h => by have := HF.out.2.1 b3 h; omega)).trans R3.out
  have hF4' : ∀ b, F4 b → w.heap.size ≤ b ∧ b ≠ b3 := fun b h => by
    have hs := (Array.getElem?_eq_some_iff.1 R3.out).1
    have h0 := HF.out.2.2
    rcases hF4 b h with h1 | h1
    · exact ⟨HF.out.1 b h1, fun e => by have := HF.out.2.1 b h1; omega⟩
    · exact ⟨by omega, by omega⟩
  have h4 := CC.out.start Ft.awk a4' Ft.awk_ok
  rw [HWA.out] at h4
  have h4' : Calls Try.prog 12 #[.pointer (some ⟨g, 0, none⟩), .agg WA] w4 fun e w' => ∃ F', e = .returned (.bool false) ∧ At w' F' g ⟨1, 4, 5, (Ft.aw 0).l⟩ ∧ (∀ b, F' b → F4 b ∨ w4.heap.size ≤ b) ∧ Keeps F4 w4 w' := h4.mono (fun e w' ⟨F', h1, h2, h3⟩ => ⟨F', by rw [h1, Ft.aw_has]; rfl, by rw [← Ft.aw_again]; exact h2, h3⟩)
  have H4 := Lib.hid h4'
  have R4 := Lib.hid r4
  have HF4 := Lib.hid hF4'
  have K4 : Hid (Keeps (fun _ => False) w w4) := Lib.hid (K3.out.trans' k4 (fun j hj e => by have := HF.out.1 j e; omega))
  have e4 : (!Ft.has [] Ft.awk) = true := rfl
  clear a4 a4' hF4 k4 r4 hF4' h4 h4'
  go_wp2_with (first
    | (refine wpList_load_row (by rfl) 41 _ (by rfl) b3 (by rfl) 41 WA (0, 0) _ R4.out Try.underlying41 rfl SW.out ?_)
    | fail)
  refine H4.out.mono ?_
  rintro e w5 ⟨F5, rfl, a5, hF5, k5⟩
  have A5 := Lib.hid a5
  have HF5 : Hid (∀ b, F5 b → w.heap.size ≤ b ∧ b ≠ b3 ∧ b < w5.heap.size) := Lib.hid (fun b h => by
    have hs := (Array.getElem?_eq_some_iff.1 R4.out).1
    have h0 := HF.out.2.2
    have hl := CC.out.lt a5 b h
    rcases hF5 b h with h1 | h1
    · exact ⟨(HF4.out b h1).1, (HF4.out b h1).2, hl⟩
    · exact ⟨by omega, by omega, hl⟩)
  have R5 : Hid (w5.heap[b3]? = some (.cells WA 41 (0, 0))) := Lib.hid ((k5.block b3 (Array.getElem?_eq_some_iff.1 R4.out).1 (fun h => (HF4.out b3 h).2 rfl)).trans R4.out)
  have K5 : Hid (Keeps (fun _ => False) w w5) := Lib.hid (K4.out.trans' k5 (fun j hj e => by have := HF4.out j e; omega))
  have h6 := dnew_any w5 1#64
  rw [show di 1#64 = 1 from rfl] at h6
  have H6 := Lib.hid h6
  clear a5 hF5 k5 h6
  go_wp2_with fail
  refine H6.out.mono ?_
  rintro e w6 ⟨d, rfl, hd, d6, k6⟩
  have A6 := Lib.hid (CC.out.keeps A5.out k6 (fun _ e => e.elim))
  have R6 : Hid (w6.heap[b3]? = some (.cells WA 41 (0, 0))) := Lib.hid ((k6.block b3 (Array.getElem?_eq_some_iff.1 R5.out).1 id).trans R5.out)
  have HF6 : Hid ((∀ b, F5 b → w.heap.size ≤ b ∧ b ≠ b3) ∧ ¬ F5 d ∧ w.heap.size ≤ d ∧ d ≠ b3) := Lib.hid ⟨fun b h => ⟨(HF5.out b h).1, (HF5.out b h).2.1⟩, fun h => by have := (HF5.out d h).2.2; omega, by have := K5.out.size; omega, fun e => by have := (Array.getElem?_eq_some_iff.1 R5.out).1; omega⟩
  have D6 : Hid (DiceAt w6 d (Ft.aw 0).s) := Lib.hid d6
  have K6 := Lib.hid (K5.out.trans k6)
  clear d6 k6 hd
  go_wp2_with fail
  go_loopw [7, 8, 9, 10, 11] (fun nv ov iv _ _ wr => ∃ (i : Nat) (F' : Nat → Prop), i ≤ 16 ∧ nv = .int .i64 ((Ft.aw i).n : Int) ∧ ov = .int .i64 ((Ft.aw i).gone : Int) ∧ iv = .int .i64 ((i : Int) + 1) ∧ Hid (At wr F' g ⟨1, 4, 5, (Ft.aw i).l⟩) ∧ Hid ((∀ b, F' b → w.heap.size ≤ b ∧ b ≠ b3) ∧ ¬ F' d ∧ w.heap.size ≤ d ∧ d ≠ b3) ∧ Hid (DiceAt wr d (Ft.aw i).s) ∧ Hid (wr.heap[b3]? = some (.cells WA 41 (0, 0))) ∧ Hid (Keeps (fun _ => False) w wr)) (fun _ _ iv _ _ _ => 17 - (intOf iv).toNat)
  case atStart => exact ⟨0, F5, by omega, rfl, rfl, rfl, A6, HF6, D6, R6, K6⟩
  case round =>
    obtain ⟨i, F', hi, rfl, rfl, rfl, HA, HF', HD, HR, HK⟩ := hrel
    obtain ⟨hsm, hll, hla, hlo⟩ := Ft.aw_small i hi
    by_cases hlt : i < 16
    · have ht := CC.out.tick d (Ft.aw i).s HA.out (show (Ft.aw i).l.length ≤ 1000 by omega) HD.out HF'.out.2.1
      have hn1 : (Ft.aw (i + 1)).n = if (Ft.tick 1 4 5 (Ft.aw i).s (Ft.aw i).l).asks.length = 1 then (Ft.aw i).n + (i + 1) else (Ft.aw i).n := rfl
      have hg1 : (Ft.aw (i + 1)).gone = if (Ft.tick 1 4 5 (Ft.aw i).s (Ft.aw i).l).lost.length = 1 then i + 1 else (Ft.aw i).gone := rfl
      have hTK : (⟨1, 4, 5, (Ft.aw i).l⟩ : Ft.Tb).tk (Ft.aw i).s = Ft.tick 1 4 5 (Ft.aw i).s (Ft.aw i).l := rfl
      have ht' : Calls Try.prog 16 #[.pointer (some ⟨g, 0, none⟩), .pointer (some ⟨d, 0, none⟩)] wr fun e w' => ∃ F2 A c A' c', e = .returned (.tuple #[.slice A (Ft.tick 1 4 5 (Ft.aw i).s (Ft.aw i).l).asks.length c, .slice A' (Ft.tick 1 4 5 (Ft.aw i).s (Ft.aw i).l).lost.length c']) ∧ At w' F2 g ⟨1, 4, 5, (Ft.aw (i + 1)).l⟩ ∧ DiceAt w' d (Ft.aw (i + 1)).s ∧ (∀ b, F2 b → F' b ∨ wr.heap.size ≤ b) ∧ ¬ F2 d ∧ Keeps (fun b => F' b ∨ b = d) wr w' := ht.mono (fun e w' ⟨F2, A, c, A', c', h1, h2, h3, h4, h5, h6, h7, h8⟩ => ⟨F2, A, c, A', c', h1, h2, h3, h6, h7, h8⟩)
      obtain ⟨la, hlae⟩ : ∃ x, (Ft.tick 1 4 5 (Ft.aw i).s (Ft.aw i).l).asks.length = x := ⟨_, rfl⟩
      obtain ⟨lo, hloe⟩ : ∃ x, (Ft.tick 1 4 5 (Ft.aw i).s (Ft.aw i).l).lost.length = x := ⟨_, rfl⟩
      rw [hlae, hloe] at ht'
      rw [hlae] at hn1 hla
      rw [hloe] at hg1 hlo
      obtain ⟨n0, hn0⟩ : ∃ n, (Ft.aw i).n = n := ⟨_, rfl⟩
      obtain ⟨g0, hg0⟩ : ∃ n, (Ft.aw i).gone = n := ⟨_, rfl⟩
      rw [hn0] at hn1 hsm ⊢
      rw [hg0] at hg1 ⊢
      have HT := Lib.hid ht'
      have H1 := Lib.hid (And.intro hn1 hg1)
      clear ht ht' hn1 hg1 hTK hlae hloe hn0 hg0
      have h4 : (la = 0 ∨ la = 1) ∧ (lo = 0 ∨ lo = 1) := by omega
      obtain ⟨h4, h5⟩ := h4
      rcases h4 with rfl | rfl
      · rcases h5 with rfl | rfl
        · skip
          go_wp2_with fail
          refine HT.out.mono ?_
          rintro e w7 ⟨F2, A7, c7, A8, c8, rfl, a7, d7, hF7, hF7d, k7⟩
          have A7' := Lib.hid a7
          have D7 := Lib.hid d7
          have HF7 : Hid ((∀ b, F2 b → w.heap.size ≤ b ∧ b ≠ b3) ∧ ¬ F2 d ∧ w.heap.size ≤ d ∧ d ≠ b3) := Lib.hid ⟨fun b h => by
            rcases hF7 b h with h1 | h1
            · exact HF'.out.1 b h1
            · have := (Array.getElem?_eq_some_iff.1 HR.out).1; have := HK.out.size; exact ⟨by omega, by omega⟩, hF7d, HF'.out.2.2⟩
          have R7 : Hid (w7.heap[b3]? = some (.cells WA 41 (0, 0))) := Lib.hid ((k7.block b3 (Array.getElem?_eq_some_iff.1 HR.out).1 (fun h => by rcases h with h | h; exact (HF'.out.1 b3 h).2 rfl; exact HF'.out.2.2.2 h.symm)).trans HR.out)
          have K7 : Hid (Keeps (fun _ => False) w w7) := Lib.hid (HK.out.trans' k7 (fun j hj e => by rcases e with e | e; (have := (HF'.out.1 j e).1; omega); (have := HF'.out.2.2.1; omega)))
          clear a7 d7 hF7 hF7d k7
          go_wp2
          go_roundw
          case rel => exact ⟨i + 1, F2, by omega, by rw [H1.out.1]; go_num, by rw [H1.out.2]; go_num, by go_num, A7', HF7, D7, R7, K7⟩
          case measure => simp [intOf]; omega
        · skip
          go_wp2_with fail
          refine HT.out.mono ?_
          rintro e w7 ⟨F2, A7, c7, A8, c8, rfl, a7, d7, hF7, hF7d, k7⟩
          have A7' := Lib.hid a7
          have D7 := Lib.hid d7
          have HF7 : Hid ((∀ b, F2 b → w.heap.size ≤ b ∧ b ≠ b3) ∧ ¬ F2 d ∧ w.heap.size ≤ d ∧ d ≠ b3) := Lib.hid ⟨fun b h => by
            rcases hF7 b h with h1 | h1
            · exact HF'.out.1 b h1
            · have := (Array.getElem?_eq_some_iff.1 HR.out).1; have := HK.out.size; exact ⟨by omega, by omega⟩, hF7d, HF'.out.2.2⟩
          have R7 : Hid (w7.heap[b3]? = some (.cells WA 41 (0, 0))) := Lib.hid ((k7.block b3 (Array.getElem?_eq_some_iff.1 HR.out).1 (fun h => by rcases h with h | h; exact (HF'.out.1 b3 h).2 rfl; exact HF'.out.2.2.2 h.symm)).trans HR.out)
          have K7 : Hid (Keeps (fun _ => False) w w7) := Lib.hid (HK.out.trans' k7 (fun j hj e => by rcases e with e | e; (have := (HF'.out.1 j e).1; omega); (have := HF'.out.2.2.1; omega)))
          clear a7 d7 hF7 hF7d k7
          go_wp2
          go_roundw
          case rel => exact ⟨i + 1, F2, by omega, by rw [H1.out.1]; go_num, by rw [H1.out.2]; go_num, by go_num, A7', HF7, D7, R7, K7⟩
          case measure => simp [intOf]; omega
      · rcases h5 with rfl | rfl
        · skip
          go_wp2_with fail
          refine HT.out.mono ?_
          rintro e w7 ⟨F2, A7, c7, A8, c8, rfl, a7, d7, hF7, hF7d, k7⟩
          have A7' := Lib.hid a7
          have D7 := Lib.hid d7
          have HF7 : Hid ((∀ b, F2 b → w.heap.size ≤ b ∧ b ≠ b3) ∧ ¬ F2 d ∧ w.heap.size ≤ d ∧ d ≠ b3) := Lib.hid ⟨fun b h => by
            rcases hF7 b h with h1 | h1
            · exact HF'.out.1 b h1
            · have := (Array.getElem?_eq_some_iff.1 HR.out).1; have := HK.out.size; exact ⟨by omega, by omega⟩, hF7d, HF'.out.2.2⟩
          have R7 : Hid (w7.heap[b3]? = some (.cells WA 41 (0, 0))) := Lib.hid ((k7.block b3 (Array.getElem?_eq_some_iff.1 HR.out).1 (fun h => by rcases h with h | h; exact (HF'.out.1 b3 h).2 rfl; exact HF'.out.2.2.2 h.symm)).trans HR.out)
          have K7 : Hid (Keeps (fun _ => False) w w7) := Lib.hid (HK.out.trans' k7 (fun j hj e => by rcases e with e | e; (have := (HF'.out.1 j e).1; omega); (have := HF'.out.2.2.1; omega)))
          clear a7 d7 hF7 hF7d k7
          go_wp2
          go_roundw
          case rel => exact ⟨i + 1, F2, by omega, by rw [H1.out.1]; go_num, by rw [H1.out.2]; go_num, by go_num, A7', HF7, D7, R7, K7⟩
          case measure => simp [intOf]; omega
        · skip
          go_wp2_with fail
          refine HT.out.mono ?_
          rintro e w7 ⟨F2, A7, c7, A8, c8, rfl, a7, d7, hF7, hF7d, k7⟩
          have A7' := Lib.hid a7
          have D7 := Lib.hid d7
          have HF7 : Hid ((∀ b, F2 b → w.heap.size ≤ b ∧ b ≠ b3) ∧ ¬ F2 d ∧ w.heap.size ≤ d ∧ d ≠ b3) := Lib.hid ⟨fun b h => by
            rcases hF7 b h with h1 | h1
            · exact HF'.out.1 b h1
            · have := (Array.getElem?_eq_some_iff.1 HR.out).1; have := HK.out.size; exact ⟨by omega, by omega⟩, hF7d, HF'.out.2.2⟩
          have R7 : Hid (w7.heap[b3]? = some (.cells WA 41 (0, 0))) := Lib.hid ((k7.block b3 (Array.getElem?_eq_some_iff.1 HR.out).1 (fun h => by rcases h with h | h; exact (HF'.out.1 b3 h).2 rfl; exact HF'.out.2.2.2 h.symm)).trans HR.out)
          have K7 : Hid (Keeps (fun _ => False) w w7) := Lib.hid (HK.out.trans' k7 (fun j hj e => by rcases e with e | e; (have := (HF'.out.1 j e).1; omega); (have := HF'.out.2.2.1; omega)))
          clear a7 d7 hF7 hF7d k7
          go_wp2
          go_roundw
          case rel => exact ⟨i + 1, F2, by omega, by rw [H1.out.1]; go_num, by rw [H1.out.2]; go_num, by go_num, A7', HF7, D7, R7, K7⟩
          case measure => simp [intOf]; omega
    · obtain rfl : i = 16 := by omega
      have hh := CC.out.has Ft.awk HA.out Ft.awk_ok
      have hend := Ft.aw_end
      have he : Ft.has (Ft.aw 16).l Ft.awk = false := hend.2.2
      have hh' : Calls Try.prog 20 #[.pointer (some ⟨g, 0, none⟩), .agg WA] wr fun e w' => e = .returned (.bool false) ∧ Keeps (fun _ => False) wr w' := by rw [← HWA.out]; exact hh.mono (fun e w' h => ⟨by rw [h.1]; exact congrArg (fun b => Ending.returned (Value.bool b)) he, h.2⟩)
      have HH := Lib.hid hh'
      rw [hend.1, hend.2.1]
      clear hh hh' hend he hsm hll hla hlo
      go_wp2_with (first
        | (refine wpList_load_row (by rfl) 41 _ (by rfl) b3 (by rfl) 41 WA (0, 0) _ HR.out Try.underlying41 rfl SW.out ?_)
        | (refine wpList_load_row_w (by rfl) 41 _ (by rfl) b3 (by rfl) 41 WA (0, 0) _ HR.out Try.underlying41 rfl SW.out ?_)
        | fail)
      refine HH.out.mono ?_
      rintro e w8 ⟨rfl, k8⟩
      have K8 := Lib.hid (HK.out.trans k8)
      clear k8
      go_wp2
      go_ret
      exact ⟨rfl, K8.out⟩
end Go.Proofs.Ythnpgiagajfaiaa
