/-
  OctetHash: hashes are put and read as they are; fewer than 32 bytes are none: for whatever hashes, and whatever byte, the law returns true.
-/
import Derived.Test.YtgbdedkbkagndabAwake
import Derived.Test.YtgbdedkbkagndabOpenH
import Derived.Deep.MidRow
import Derived.Deep.RegionHeld3
import Derived.Deep.LoopGhost
namespace Go.Proofs.Ytgbdedkbkagndab
open Go.RowKit
set_option linter.unusedVariables false

theorem rhash_front (h ys : List UInt8) (hh : h.length = 32) : rhash (h ++ ys, 0) = ((ys, 0), h) := by
  unfold rhash
  rw [tk_front h ys 32 hh]
  simp only [hh, if_pos]
theorem rhash_short (l : List UInt8) (hl : l.length < 32) : rhash (l, 0) = ((l, 10), List.replicate 32 0) := by
  have ht : tk 32 (l, 0) = ((l, 10), []) := by
    unfold tk
    rw [if_pos rfl, if_pos hl]
  unfold rhash
  rw [ht]
  rfl
theorem flat_len (hs : List (List UInt8)) (h : ∀ x ∈ hs, x.length = 32) : hs.flatten.length = 32 * hs.length := by
  induction hs with
  | nil => rfl
  | cons x l ih =>
    rw [List.flatten_cons, List.length_append, h x (by simp), ih (fun y hy => h y (by simp [hy])), List.length_cons]
    omega
theorem flat_snoc (hs : List (List UInt8)) (k : Nat) (h : k < hs.length) : (hs.take (k + 1)).flatten = (hs.take k).flatten ++ hs[k] := by
  rw [List.take_succ_eq_append_getElem h, List.flatten_append]
  simp only [List.flatten_cons, List.flatten_nil, List.append_nil]
theorem flat_drop (hs : List (List UInt8)) (k : Nat) (h : k < hs.length) : (hs.drop k).flatten = hs[k] ++ (hs.drop (k + 1)).flatten := by
  rw [← List.getElem_cons_drop h, List.flatten_cons]

theorem hash_walk (A : Option Addr) (len cap : Nat) (hs : List (List UInt8)) (x : Int) (w : World) (hr : IsHashes w A len cap hs) (hxw : (Lit.int .u8 x).wf = true) :
    Calls Try.prog 4 #[.slice A len cap, .int .u8 x] w fun e w' => e = .returned (.bool true) ∧ Below w.heap.size w w' := by
  obtain ⟨rfl, hlc, hcm, h32, hcell⟩ := hr
  have hx := bounds_u8 hxw
  have AW := Lib.hid (awake_any w)
  clear hxw
  by_cases hlen : hs.length ≤ 20
  · have HR : Hid (∀ i (hi : i < hs.length), ∃ b o, A = some ⟨b, o, none⟩ ∧ ∀ w', Below w.heap.size w w' → w'.rangeAt b (o + i * 32) (bvs hs[i])) := by
      intro i hi
      obtain ⟨b, o, ha, hc⟩ := hcell i hi
      refine ⟨b, o, ha, fun w' hb j v hv => ?_⟩
      rw [bvs_get] at hv
      obtain ⟨c, hc1, rfl⟩ := Option.map_eq_some_iff.1 hv
      have := hc j c hc1
      rw [← Nat.add_assoc] at this
      exact (hb.cell (World.block_lt_of_cell? w _ this)).trans this
    have HFL := Lib.hid (flat_len hs h32)
    have H32 := Lib.hid h32
    clear h32 hcell
    go_enter Try.func4, Try.ntmps4
    go_wp2_with fail
    refine AW.out.mono ?_
    rintro e w1 ⟨rfl, k1⟩
    go_wp2_with fail
    refine (newWriterB w.heap.size _ k1.size).mono ?_
    rintro e w2 ⟨b, rfl, hw2, k2⟩
    have K2 := k1.trans k2
    clear k1 k2
    go_wp2_with fail
    go_loopw [7] (fun i wr => ∃ k : Nat, k ≤ hs.length ∧ i = .int .i64 k ∧ WrB wr w.heap.size b (hs.take k).flatten ∧ Below w.heap.size w wr) (fun i _ => hs.length - (intOf i).toNat)
    case atStart => exact ⟨0, Nat.zero_le _, rfl, hw2, K2⟩
    case round =>
      obtain ⟨k, hk, rfl, hwr, hbl⟩ := hrel
      clear hw2 K2
      by_cases hlt : k < hs.length
      · obtain ⟨ab, ao, rfl, hrg⟩ := HR.out k hlt
        have hrk := hrg _ hbl
        have hsn := flat_snoc hs k hlt
        have hl32 : hs[k].length = 32 := H32.out _ (List.getElem_mem hlt)
        have hfl : (hs.take k).flatten.length ≤ 640 := by
          rw [flat_len _ (fun y hy => H32.out y (List.mem_of_mem_take hy)), List.length_take]; omega
        generalize hs[k] = h at *
        have HI : Hid ((Try.prog.info? 35).map (·.size) = some (bvs h).length) := by show _ = _; rw [bvs_length, hl32]; exact size_hash
        have HSN := Lib.hid hsn
        have HRK := Lib.hid hrk
        have HL := Lib.hid hl32
        have HRG := Lib.hid hrg
        clear hsn hrk hl32 hrg
        go_wp2_with (refine wpList_load_mid (by rfl) 35 (.tmp 29) (by rfl) ab (ao + k * 32) (by rfl) (bvs h) _ HRK.out Try.underlying35 rfl HI.out ?_)
        refine (wrHashB _ b _ h _ hwr HL.out (by omega)).mono ?_
        rintro e w3 ⟨rfl, hw3, k3⟩
        go_wp2
        go_roundw
        case rel => exact ⟨k + 1, by omega, by go_num, by rw [HSN.out]; exact hw3, hbl.trans k3⟩
        case measure => simp [intOf]; omega
      · obtain rfl : k = hs.length := by omega
        rw [List.take_of_length_le (Nat.le_refl _)] at hwr
        have hfl : hs.flatten.length ≤ 640 := by rw [HFL.out]; omega
        go_wp2_with fail
        refine (wrOutB _ b _ _ hwr (by omega)).mono ?_
        rintro e w4 ⟨A4, c4, rfl, hown, k4⟩
        have K4 := hbl.trans (k4.below hwr.2.1 (fun _ _ => id))
        have hrd := newReaderB w.heap.size A4 c4 hs.flatten w4 K4.size (Src.of_own hown) (by omega)
        have HRD := Lib.hid hrd
        clear k4 hwr hown hrd hbl
        obtain ⟨FL, hFL⟩ : ∃ FL, hs.flatten.length = FL := ⟨_, rfl⟩
        rw [hFL] at HRD hfl HFL ⊢
        clear hFL
        go_wp2_with fail
        refine HRD.out.mono ?_
        rintro e w5 ⟨rb, rfl, hr5, k5⟩
        have K5 := K4.trans k5
        clear K4 k5 HRD
        go_wp2_with fail
        obtain ⟨wo, rfl⟩ : ∃ wo : World, wo = wr := ⟨_, rfl⟩
        go_loopw [10] (fun i wr => ∃ k : Nat, k ≤ hs.length ∧ i = .int .i64 k ∧ RdB wr w.heap.size rb ((hs.drop k).flatten, 0) ∧ Below w.heap.size w wr) (fun i _ => hs.length - (intOf i).toNat)
        case atStart => exact ⟨0, Nat.zero_le _, rfl, hr5, K5⟩
        case round =>
          obtain ⟨k, hk, rfl, hrd, hbl⟩ := hrel
          clear hr5 K5
          by_cases hlt2 : k < hs.length
          · obtain ⟨ab, ao, rfl, hrg⟩ := HR.out k hlt2
            have r0 := hrg _ hbl.drew
            have hl32 : hs[k].length = 32 := H32.out _ (List.getElem_mem hlt2)
            have hrh : rhash ((hs.drop k).flatten, 0) = (((hs.drop (k + 1)).flatten, 0), hs[k]) := by rw [flat_drop hs k hlt2, rhash_front _ _ hl32]
            generalize hs[k] = h at *
            have hu := Try.underlying35
            have hi : (Try.prog.info? 35).map (·.size) = some (bvs h).length := by rw [bvs_length, hl32]; exact size_hash
            have h1 := bvs_one h
            have heq : ∀ W : World, (Op.equalIn 10000 35 (.agg (bvs h).toArray) (.agg (bvs h).toArray)).run Try.prog W = .ok true W := fun W => by
              obtain ⟨i0, hi0, _⟩ := info_parts info_u8
              rw [run_equalIn_bytes W 35 5 32 Try.underlying35 Try.underlying5 hi0 (by kernel_rfl) (by kernel_rfl) h h hl32 hl32]
              simp
            have HRH := Lib.hid hrh
            have HRD : Hid (RdB wr.drew w.heap.size rb ((hs.drop k).flatten, 0)) := hrd
            have HBL : Hid (Below w.heap.size w wr.drew) := hbl.drew
            have HRG := Lib.hid hrg
            clear hrh hrg hrd hl32
            go_wp2_with fail
            go_region_held3 (fun w' => w'.rangeAt ab (ao + k * 32) (bvs h)) (first | exact r0 | exact r6) (first
              | (go_at_call 12; refine (rdHashB _ rb _ _ HRD.out).mono ?_; rintro e w6 ⟨rfl, hr6, k6, _⟩; rw [HRH.out] at hr6 ⊢; have K6 := HBL.out.trans k6; have r6 := HRG.out _ K6))
            clear heq h1 hi hu r0 r6
            go_wp2
            go_roundw
            case rel => exact ⟨k + 1, by omega, by go_num, hr6, K6⟩
            case measure => simp [intOf]; omega
          · obtain rfl : k = hs.length := by omega
            rw [List.drop_of_length_le (Nat.le_refl _), List.flatten_nil] at hrd
            obtain ⟨n, hn⟩ : ∃ n : Nat, x % 32 = n := Int.eq_ofNat_of_zero_le (Int.emod_nonneg _ (by decide))
            have hn32 : n < 32 := by have := Int.emod_lt_of_pos x (show (0 : Int) < 32 by decide); omega
            obtain ⟨i0, hi0, hz0, hz1, hz2⟩ := info_parts info_u8
            have HHS := Lib.hid (rhash_short (List.replicate n 0) (by simp; exact hn32))
            have HRD := Lib.hid hrd
            have HBL := Lib.hid hbl
            clear hrd hbl
            go_wp2_with (at_make; refine wpList_make_full _ rfl (.tmp 51) (.tmp 51) 22 rfl wr.heap.size 5 i0 (.int .u8 0) 1 Try.underlying22 hi0 hz0 hz1 .i64 .i64 n n n (by rfl) (by rfl) rfl rfl ?b2 ?b3 (Nat.le_refl _) ?next)
            case b2 => rw [hz2]; omega
            case b3 => unfold maxLen; omega
            case next =>
              intro w8 hown8 hg8
              have hk8 : Keeps (fun _ => False) wr w8 := (Keeps.refl _ wr).grown hg8 (fun k _ h => by simp at h)
              have hsr8 : Src w8 (some ⟨wr.heap.size, 0, none⟩) (bvs (List.replicate n 0)) := by
                have e : (madeCells #[Value.int .u8 0] n).toList = bvs (List.replicate n 0) := by
                  rw [toList_madeCells_one]
                  simp [bvs, bv]
                rw [e] at hown8
                exact Src.of_own hown8
              have hb8 : Below w.heap.size w w8 := HBL.out.trans (hk8.below HBL.out.size (fun _ _ => id))
              have hrd8 : RdB w8 w.heap.size rb ([], 0) := HRD.out.later (C := wr.heap.size) (hk8.below (Nat.le_refl _) (fun _ _ => id)) (Nat.le_refl _)
              have hnr := newReaderB w8.heap.size (some ⟨wr.heap.size, 0, none⟩) n (List.replicate n 0) w8 (Nat.le_refl _) hsr8 (by simp; omega)
              rw [List.length_replicate] at hnr
              have HNR := Lib.hid hnr
              have HB8 := Lib.hid hb8
              have HRD8 := Lib.hid hrd8
              clear hown8 hg8 hk8 hsr8 hb8 hrd8 hnr HRD HBL hi0 hz0 hz1 hz2
              go_wp2_with fail
              refine HNR.out.mono ?_
              rintro e w9 ⟨sb, rfl, hr9, k9⟩
              have HB98 := HB8.out.size
              have K9 := Lib.hid k9
              clear HNR k9
              go_wp2_with fail
              refine (rdHashB _ sb _ _ hr9).mono ?_
              rintro e w10 ⟨rfl, hr10, k10, _⟩
              rw [HHS.out] at hr10 ⊢
              have HRD10 : Hid (RdB w10 w.heap.size rb ([], 0)) := HRD8.out.later (K9.out.trans k10) (Nat.le_refl _)
              have HB10 : Hid (Below w.heap.size w w10) := HB8.out.trans ((K9.out.trans k10).mono HB98)
              have HSB10 := Lib.hid hr10
              have HC : Hid (∀ w11, Keeps (fun k => k = w10.heap.size) (w10.alloc (.cells (bvs (List.replicate 32 0)).toArray 35)) w11 → Below w10.heap.size w10 w11) := fun w11 h =>
                (((Keeps.refl (fun k => k = w10.heap.size) w10).alloc _).trans h).below (Nat.le_refl _) (fun k hk e => by omega)
              have HZ : Hid ((w10.alloc (.cells (bvs (List.replicate 32 0)).toArray 35)).heap[w10.heap.size]? = some (.cells (bvs (List.replicate 32 0)).toArray 35 (0, 0))) := heap_alloc_new w10 _
              have HS7 : Hid ((Try.prog.info? 35).map (·.size) = some (bvs (List.replicate 32 0)).toArray.size) := size_hash
              have HE : Hid (∀ W : World, (binOp .eql 35 (.agg (bvs (List.replicate 32 0)).toArray) (.agg (bvs (List.replicate 32 0)).toArray)).run Try.prog W = .ok (.bool true) W) := fun W => by
                obtain ⟨i0, hi, _⟩ := info_parts info_u8
                rw [run_eql_bytes W 35 5 32 Try.underlying35 Try.underlying5 hi (by kernel_rfl) (by kernel_rfl) _ _ (by simp) (by simp)]
                simp
              have hfl32 : ((FL : Int) == 32 * (hs.length : Int)) = true := by have := HFL.out; simp; omega
              clear hr9 hr10 k10 HRD8 HB8 K9
              go_wp2_with (first
                | (refine wpList_store_abs (by rfl) 35 (.tmp 12) (.tmp 55) (by rfl) w10.heap.size (bvs (List.replicate 32 0)).toArray (by rfl) (by rfl) 35 (bvs (List.replicate 32 0)).toArray HZ.out HS7.out rfl (bvs_all _) ?_; intro w11 HH k11; have k12 := HC.out _ k11; have hrb := HRD10.out.later k12 (Nat.le_refl _); have hsb := HSB10.out.later k12 (Nat.le_refl _))
                | (refine wpList_load_row_w (by rfl) 35 (.tmp 12) (by rfl) w10.heap.size (by rfl) 35 (bvs (List.replicate 32 0)).toArray (0, 0) _ HH.out Try.underlying35 rfl HS7.out ?_)
                | (refine wpList_eq_agg_w (by rfl) .eql 35 _ (.tmp 68) (.tmp 69) (by rfl) (bvs (List.replicate 32 0)).toArray (bvs (List.replicate 32 0)).toArray (by rfl) (by rfl) (by kernel_rfl) (.bool true) (HE.out _) ?_)
                | (go_at_call 13; refine (rdEndB _ rb _ _ hrb).mono ?_; rintro e w12 ⟨rfl, rfl⟩)
                | (go_at_call 14; refine (rdErrB _ sb _ _ hsb).mono ?_; rintro e w12 ⟨rfl, rfl⟩))
              go_ret
              exact ⟨rfl, HB10.out.trans (k12.mono HB10.out.size)⟩
  · go_enter Try.func4, Try.ntmps4
    go_wp2_with fail
    refine AW.out.mono ?_
    rintro e w1 ⟨rfl, k1⟩
    go_wp2
    go_ret
    exact ⟨rfl, k1⟩
end Go.Proofs.Ytgbdedkbkagndab
