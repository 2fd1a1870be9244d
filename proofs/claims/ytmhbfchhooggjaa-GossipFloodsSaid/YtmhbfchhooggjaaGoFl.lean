/-
  The statement GossipFloods, for every input, out of the contracts.
-/
import Derived.Test.YtmhbfchhooggjaaGoQ
namespace Go.Proofs.Ytmhbfchhooggjaa
open Go.RowKit Go.BigFrame
set_option linter.unusedVariables false
set_option linter.unusedSimpArgs false

namespace Gp
def fg (L : List (List UInt8)) : G := ⟨0, 6, 1, 1#64, L⟩
def six : List Int := [0, 1, 2, 3, 4, 5]
theorem six_len (L : List (List UInt8)) (f : Nat) (h : f ≤ 6) : (oth (fg L) six (f : Int)).length = if 0 < f ∧ f < 6 then 4 else 5 := by
  have e : oth (fg L) six (f : Int) = oth (fg []) six (f : Int) := rfl
  rw [e]
  have all : ∀ f, f ≤ 6 → (oth (fg []) six ((f : Nat) : Int)).length = if 0 < f ∧ f < 6 then 4 else 5 := by decide
  exact all f h
theorem six_not {L : List (List UInt8)} {f y : Int} (h : y ∈ oth (fg L) six f) : y ≠ f ∧ y ≠ 0 := by
  have h2 := (mem_oth.1 h).2
  simp only [can, fg, Bool.and_eq_true, Bool.not_eq_true', decide_eq_false_iff_not] at h2
  exact ⟨h2.2.2.2, of_decide_eq_false h2.2.2.1⟩
theorem flood_fg (L : List (List UInt8)) (x : UInt8) (f : Int) : flood (fg L) (hb x) six f = (fg (tol L x), if hb x ∈ L then [] else oth (fg L) six f) := by
  unfold flood tol
  by_cases h : hb x ∈ L
  · rw [if_pos (show hb x ∈ (fg L).told from h), if_pos h, if_pos h]
  · rw [if_neg (show hb x ∉ (fg L).told from h), if_neg h, if_neg h]; rfl
end Gp
theorem six_ints (V : World) : (Instr.buildSlice 34 6 #[(0, .int .i64 0), (1, .int .i64 1), (2, .int .i64 2), (3, .int .i64 3), (4, .int .i64 4), (5, .int .i64 5)]).run Try.prog V = .ok (.slice (some ⟨V.heap.size, 0, none⟩) 6 6) (V.alloc (.cells (ivs Gp.six).toArray 3)) := by kernel_rfl
variable {At : World → (Nat → Prop) → Nat → Gp.G → Prop}
set_option maxRecDepth 100000 in
set_option maxHeartbeats 8000000 in
theorem floods_walk (C : Goss At) (AW : Awake21) (A : Option Addr) (n c : Nat) (ids : List UInt8) (A2 : Option Addr) (m d : Nat) (from_ : List UInt8) (W : World) (hids : ids.length = n) (hfr : from_.length = m) (hS : Src W A (bvs ids)) (hS2 : Src W A2 (bvs from_)) (hnc : n ≤ c) (hcx : c ≤ 9223372036854775807) (hmd : m ≤ d) (hdx : d ≤ 9223372036854775807) :
    Calls Try.prog 6 #[.slice A n c, .slice A2 m d] W fun e w' => e = .returned (.bool true) ∧ Below W.heap.size W w' := by
  have CC := Lib.hid C
  have HAW := Lib.hid (AW W)
  have HS := Lib.hid (And.intro hS hS2)
  have HLN := Lib.hid (And.intro hids hfr)
  have hmk : ∀ V : World, (Instr.makeSlice 49 (.int .i64 256) (.int .i64 256)).run Try.prog V = .ok (.slice (some ⟨V.heap.size, 0, none⟩) 256 256) (V.alloc (.cells (bq []).toArray 4)) := fun V => by rw [bq_nil]; exact make_256 V
  obtain ⟨BQ, hBQ⟩ : ∃ B, (bq []).toArray = B := ⟨_, rfl⟩
  rw [hBQ] at hmk
  have HBQ := Lib.hid hBQ
  clear C AW hS hS2 hids hfr hBQ
  by_cases hbig : 40 < n ∨ m < n
  · by_cases h40 : 40 < n
    · have h1 : (40 : Int) < (n : Int) := by omega
      clear hbig
      go_enter Try.func6, Try.ntmps6
      go_wp2_with fail
      refine HAW.out.mono ?_
      rintro e w1 ⟨rfl, k1⟩
      go_wp2
      go_ret
      exact ⟨rfl, k1.below (Nat.le_refl _) (fun _ _ => id)⟩
    · have h1 : ¬ (40 : Int) < (n : Int) := by omega
      have h2 : (m : Int) < (n : Int) := by omega
      clear hbig
      go_enter Try.func6, Try.ntmps6
      go_wp2_with fail
      refine HAW.out.mono ?_
      rintro e w1 ⟨rfl, k1⟩
      go_wp2
      go_ret
      exact ⟨rfl, k1.below (Nat.le_refl _) (fun _ _ => id)⟩
  · have h1 : ¬ (40 : Int) < (n : Int) := by omega
    have h2 : ¬ (m : Int) < (n : Int) := by omega
    have hn40 : n ≤ 40 := by omega
    have hnm : n ≤ m := by omega
    clear hbig
    go_enter Try.func6, Try.ntmps6
    go_wp2_with fail
    refine HAW.out.mono ?_
    rintro e w1 ⟨rfl, k1⟩
    have hnew := CC.out.new_on w1 0 6 1 1#64 (by unfold Gp.In; omega)
    rw [show ((0 : Nat) : Int) = 0 from rfl, show ((6 : Nat) : Int) = 6 from rfl, show ((1 : Nat) : Int) = 1 from rfl, show di 1#64 = 1 from by decide] at hnew
    have HNEW := Lib.hid hnew
    have K1 := Lib.hid k1
    clear k1 hnew HAW
    go_wp2_with fail
    refine HNEW.out.mono ?_
    rintro e w2 ⟨g, F, rfl, a2, hF, k2⟩
    obtain ⟨s, hs⟩ : ∃ s, w2.heap.size = s := ⟨_, rfl⟩
    obtain ⟨V2, hV2⟩ : ∃ V, w2.alloc (.cells BQ 4) = V := ⟨_, rfl⟩
    have kv2 : Keeps (fun _ => False) w2 V2 := by rw [← hV2]; exact (Keeps.refl _ _).alloc _
    have HA2 := Lib.hid (show At V2 F g (Gp.fg []) from CC.out.keeps a2 kv2 (fun _ h => h.elim))
    have HR2 : Hid (Row V2 s 4 (bq [])) := Lib.hid (by rw [← hV2, ← hs]; unfold Row; rw [HBQ.out]; exact heap_alloc_new w2 _)
    have HF2 : Hid ((∀ b, F b → W.heap.size ≤ b) ∧ ¬ F s ∧ W.heap.size ≤ s) := Lib.hid ⟨fun b h => Nat.le_trans K1.out.size (hF b h), fun h => by have := CC.out.lt a2 _ h; omega, by have := K1.out.size; have := k2.size; omega⟩
    have HK2 : Hid (Keeps (fun _ => False) W V2) := Lib.hid ((K1.out.trans k2).trans kv2)
    clear a2 hF k2 kv2 HNEW
    go_wp2_with fail
    clear hs hV2
    go_loopw [9] (fun iv wr => ∃ (i : Nat) (F : Nat → Prop) (L : List (List UInt8)), i ≤ n ∧ iv = .int .i64 (i : Int) ∧ Hid (At wr F g (Gp.fg L)) ∧ Hid (Row wr s 4 (bq L)) ∧ Hid ((∀ b, F b → W.heap.size ≤ b) ∧ ¬ F s ∧ W.heap.size ≤ s) ∧ Hid (Keeps (fun _ => False) W wr)) (fun iv _ => n - (intOf iv).toNat)
    case atStart => exact ⟨0, F, [], by omega, rfl, HA2, HR2, HF2, HK2⟩
    case round =>
      clear HA2 HR2 HF2 HK2
      obtain ⟨i, F, L, hi, rfl, HA, HR, HF, HK⟩ := hrel
      obtain ⟨w0, hw0⟩ : ∃ V, V = wr := ⟨_, rfl⟩
      subst hw0
      by_cases hlt : i < n
      · have hii : (i : Int) < (n : Int) := by omega
        have hmm : (i : Int) < (m : Int) := by omega
        obtain ⟨x, hx⟩ : ∃ x, ids[i]? = some x := ⟨_, List.getElem?_eq_getElem (by have := HLN.out.1; omega)⟩
        obtain ⟨y, hy⟩ : ∃ y, from_[i]? = some y := ⟨_, List.getElem?_eq_getElem (by have := HLN.out.2; omega)⟩
        obtain ⟨ad, rfl, hxc⟩ := byte_at21 HS.out.1 hx
        obtain ⟨ad2, rfl, hyc⟩ := byte_at21 HS.out.2 hy
        obtain ⟨f, hf⟩ : ∃ f, y.toNat % 7 = f := ⟨_, rfl⟩
        have hf6 : f ≤ 6 := by omega
        have hfi : (y.toNat : Int) % 7 = (f : Int) := by omega
        obtain ⟨yn, hyn⟩ : ∃ k, y.toNat = k := ⟨_, rfl⟩
        obtain ⟨k, hk⟩ : ∃ k, x.toNat = k := ⟨_, rfl⟩
        have hk256 : k < 256 := by have := x.toNat_lt; omega
        have hbx := build_hb x
        rw [hk] at hxc hbx
        rw [hyn] at hyc hfi
        obtain ⟨H, hH⟩ : ∃ L, (bvs (hb x)).toArray = L := ⟨_, rfl⟩
        rw [hH] at hbx
        have HBX := Lib.hid hbx
        have HKX := Lib.hid hk
        have HXC : Hid (∀ V, Keeps (fun _ => False) W V → V.cell? (ad.add i) = some (.int .u8 (k : Int))) := Lib.hid (fun V hV => (hV.cell (World.block_lt_of_cell? _ _ hxc) id).trans hxc)
        have hx0 : w0.cell? (ad.add i) = some (.int .u8 (k : Int)) := HXC.out w0 HK.out
        have hy0 : w0.cell? (ad2.add i) = some (.int .u8 (yn : Int)) := (HK.out.cell (World.block_lt_of_cell? _ _ hyc) id).trans hyc
        obtain ⟨r0, hr0⟩ : ∃ r, decide (hb x ∈ L) = r := ⟨_, rfl⟩
        have HR0 := Lib.hid hr0
        have hse := CC.out.seen (hb x) HA.out (hb_ok x)
        rw [hH, show decide (hb x ∈ (Gp.fg L).told) = r0 from hr0] at hse
        have HSE := Lib.hid hse
        have HH := Lib.hid hH
        clear hx hy hxc hyc hf hyn hk hbx hH hr0 hse
        go_wp2_with (first
          | (refine wpList_made (by rfl) 36 [(0, .tmp 51)] (by rfl) [(0, .int .u8 (k : Int))] (by rfl) (.agg H) HBX.out ?_)
          | fail)
        refine HSE.out.mono ?_
        rintro e w3 ⟨rfl, k3⟩
        clear hfi hy0 hx0 HSE
        have hx3 : w3.cell? (ad.add i) = some (.int .u8 (k : Int)) := HXC.out w3 (HK.out.trans k3)
        obtain ⟨V3, hV3⟩ : ∃ V, w3.alloc (.cells (ivs Gp.six).toArray 3) = V := ⟨_, rfl⟩
        have kv3 : Keeps (fun _ => False) w3 V3 := by rw [← hV3]; exact (Keeps.refl _ _).alloc _
        have a3 := CC.out.keeps HA.out k3 (fun _ h => h.elim)
        have f3 := CC.out.flood (hb x) (some ⟨w3.heap.size, 0, none⟩) 6 6 Gp.six (f : Int) (CC.out.keeps a3 kv3 (fun _ h => h.elim)) (hb_ok x) (by rw [← hV3]; exact ints_lie) rfl (Nat.le_refl _) (by decide) (fun e => by cases e) (fun ad e _ h => by injection e with e; subst e; have := CC.out.lt a3 _ h; simp at this) (by decide) (by simp [Lit.wf, IntKind.min, IntKind.max, IntKind.signed, IntKind.bits]; omega)
        rw [Gp.flood_fg, HH.out] at f3
        obtain ⟨os, hos⟩ : ∃ os, (if hb x ∈ L then [] else Gp.oth (Gp.fg L) Gp.six (f : Int)) = os := ⟨_, rfl⟩
        obtain ⟨ml, hml⟩ : ∃ n, os.length = n := ⟨_, rfl⟩
        simp only [hos, hml] at f3
        have HF3 := Lib.hid f3
        have HOE := Lib.hid hos
        have HMM := Lib.hid hml
        have HOS : Hid (∀ z ∈ os, z ≠ (f : Int) ∧ z ≠ 0) := Lib.hid (fun z hz => by
          rw [← hos] at hz
          split at hz
          · cases hz
          · exact Gp.six_not hz)
        have HK3 : Hid (Keeps (fun _ => False) W V3 ∧ Row V3 s 4 (bq L) ∧ s < V3.heap.size) := Lib.hid ⟨(HK.out.trans k3).trans kv3, HR.out.keeps (k3.trans kv3) id, (Array.getElem?_eq_some_iff.1 (HR.out.keeps (k3.trans kv3) id)).1⟩
        clear k3 kv3 a3 f3 hos hml HR HK HA
        go_wp2_with (first
          | (refine wpList_made (by rfl) 36 [(0, .tmp 58)] (by rfl) [(0, .int .u8 (k : Int))] (by rfl) (.agg H) HBX.out ?_)
          | (refine wpList_buildN21 (by rfl) 34 6 [(0, .const (.int .i64 0)), (1, .const (.int .i64 1)), (2, .const (.int .i64 2)), (3, .const (.int .i64 3)), (4, .const (.int .i64 4)), (5, .const (.int .i64 5))] (by rfl) [(0, .int .i64 0), (1, .int .i64 1), (2, .int .i64 2), (3, .int .i64 3), (4, .int .i64 4), (5, .int .i64 5)] (by rfl) _ (six_ints w3) ?_; rw [hV3])
          | fail)
        refine HF3.out.mono ?_
        rintro e w4 ⟨F4, A4, c4, rfl, a4, o4, hF4, hA4, k4⟩
        have HK4 : Hid (Keeps (fun _ => False) W w4) := Lib.hid (HK3.out.1.trans' k4 (fun j hj e => by have := HF.out.1 j e; omega))
        have HF4 : Hid ((∀ b, F4 b → W.heap.size ≤ b) ∧ ¬ F4 s ∧ W.heap.size ≤ s) := Lib.hid ⟨fun b h => by rcases hF4 b h with h | h; exact HF.out.1 b h; exact Nat.le_trans HK3.out.1.size h, fun h => by rcases hF4 s h with h | h; exact HF.out.2.1 h; have := HK3.out.2.2; omega, HF.out.2.2⟩
        have HR4 := Lib.hid (HK3.out.2.1.keeps k4 HF.out.2.1)
        have HA4 := Lib.hid a4
        have HO4 := Lib.hid o4
        have hc4 : w4.cell? (ad.add i) = some (.int .u8 (k : Int)) := HXC.out w4 HK4.out
        have hs4 : w4.cell? ⟨s, k, none⟩ = some (.bool r0) := by have h := HR4.out.cell k; rw [← HKX.out, bq_at, HR0.out] at h; rw [← HKX.out]; exact h
        have HSL : Hid (s < w4.heap.size ∧ w4.cell? ⟨s, k, none⟩ = some (.bool r0)) := Lib.hid ⟨World.block_lt_of_cell? w4 _ hs4, hs4⟩
        have HS4 : Hid (Calls Try.prog 15 #[.pointer (some ⟨g, 0, none⟩), .agg H] w4 fun e w' => e = .returned (.bool true) ∧ Keeps (fun _ => False) w4 w') := Lib.hid (by
          have h := CC.out.seen (hb x) a4 (hb_ok x)
          rw [HH.out, show decide (hb x ∈ (Gp.fg (Gp.tol L x)).told) = true from decide_eq_true ((Gp.mem_tol L x x).2 (.inr rfl))] at h
          exact h)
        clear a4 o4 hF4 hA4 k4 HF3 HK3 HF hx3 hV3
        by_cases hin : hb x ∈ L
        · have hr0 : r0 = true := by rw [← HR0.out]; exact decide_eq_true hin
          subst hr0
          have hml : os.length = 0 := by rw [← HOE.out, if_pos hin]; rfl
          have HML : Hid (ml = (0) ∧ os.length = ml) := Lib.hid ⟨by rw [← HMM.out, hml], HMM.out⟩
          clear hml hin
          by_cases hc0 : f = 0
          · obtain rfl : ml = 0 := by rw [HML.out.1]
            have hf1 : ¬ (0 : Int) < (f : Int) := by omega
            go_wp2_with (first
              | go_skip
              | (refine wpList_madeW21 ?_ 36 [(0, .tmp 96)] (by rfl) [(0, .int .u8 (k : Int))] (by rfl) (.agg H) HBX.out ?_; rfl)
              | fail)
            refine HS4.out.mono ?_
            rintro e w5 ⟨rfl, k5⟩
            have K5 := Lib.hid k5
            clear k5 hs4 hc4
            go_wp2_with fail
            go_loopw [14] (fun qv wr => ∃ q : Nat, q ≤ 0 ∧ qv = .int .i64 (q : Int) ∧ Hid (Keeps (fun _ => False) w4 wr)) (fun qv _ => 0 - (intOf qv).toNat)
            case atStart => exact ⟨0, by omega, rfl, K5⟩
            case round =>
              clear K5
              obtain ⟨q, hq, rfl, KQ⟩ := hrel
              by_cases hqt : q < 0
              · have hqi : (q : Int) < 0 := by omega
                obtain ⟨z, hz⟩ : ∃ z, os[q]? = some z := ⟨_, List.getElem?_eq_getElem (by have := HML.out.2; omega)⟩
                obtain ⟨z1, z2⟩ := HOS.out z (List.mem_of_getElem? hz)
                have hz1 : (z == (f : Int)) = false := by simpa using z1
                have hz2 : (z == 0) = false := by simpa using z2
                obtain ⟨a9, rfl, hzc⟩ := src_at21 (Src.of_own (KQ.out.owns HO4.out (fun _ _ => id))) hz
                clear hz z1 z2
                go_wp2
                go_roundw
                case rel => exact ⟨q + 1, by omega, by go_num, KQ⟩
                case measure => simp [intOf]; omega
              · obtain rfl : q = 0 := by omega
                have hxr : wr.cell? (ad.add i) = some (.int .u8 (k : Int)) := HXC.out wr (HK4.out.trans KQ.out)
                have hsr : wr.cell? ⟨s, k, none⟩ = some (.bool true) := (KQ.out.cell HSL.out.1 id).trans HSL.out.2
                have hrow := HR4.out.keeps KQ.out id
                have hfr : wr.frozen? ⟨s, k, none⟩ = false := hrow.frozen k
                obtain ⟨W9, hW9⟩ : ∃ V, wr.setCell ⟨s, k, none⟩ (.bool true) = V := ⟨_, rfl⟩
                have k9 : Keeps (fun j => j = s) wr W9 := by rw [← hW9]; exact (Keeps.refl (fun j => j = s) wr).setCell (p := ⟨s, k, none⟩) (fun _ => rfl) _
                have HA9 := Lib.hid (CC.out.keeps (CC.out.keeps HA4.out KQ.out (fun _ h => h.elim)) k9 (fun j e h => HF4.out.2.1 (by have e' : j = s := e; rw [← e']; exact h)))
                have HR9 : Hid (Row W9 s 4 (bq (Gp.tol L x))) := Lib.hid (by rw [← bq_set, ← hW9, HKX.out]; exact hrow.set k (.bool true))
                have HK9 : Hid (Keeps (fun _ => False) W W9) := Lib.hid ((HK4.out.trans KQ.out).trans' k9 (fun j hj e => by have := HF4.out.2.2; have e' : j = s := e; omega))
                clear k9 hrow
                go_wp2
                go_roundw
                case rel => exact ⟨i + 1, F4, Gp.tol L x, by omega, by go_num, HA9, HR9, HF4, HK9⟩
                case measure => simp [intOf]; omega
          by_cases hc1 : f < 6
          · obtain rfl : ml = 0 := by rw [HML.out.1]
            have hf1 : (0 : Int) < (f : Int) := by omega
            have hf2 : (f : Int) < 6 := by omega
            go_wp2_with (first
              | go_skip
              | (refine wpList_madeW21 ?_ 36 [(0, .tmp 96)] (by rfl) [(0, .int .u8 (k : Int))] (by rfl) (.agg H) HBX.out ?_; rfl)
              | fail)
            refine HS4.out.mono ?_
            rintro e w5 ⟨rfl, k5⟩
            have K5 := Lib.hid k5
            clear k5 hs4 hc4
            go_wp2_with fail
            go_loopw [14] (fun qv wr => ∃ q : Nat, q ≤ 0 ∧ qv = .int .i64 (q : Int) ∧ Hid (Keeps (fun _ => False) w4 wr)) (fun qv _ => 0 - (intOf qv).toNat)
            case atStart => exact ⟨0, by omega, rfl, K5⟩
            case round =>
              clear K5
              obtain ⟨q, hq, rfl, KQ⟩ := hrel
              by_cases hqt : q < 0
              · have hqi : (q : Int) < 0 := by omega
                obtain ⟨z, hz⟩ : ∃ z, os[q]? = some z := ⟨_, List.getElem?_eq_getElem (by have := HML.out.2; omega)⟩
                obtain ⟨z1, z2⟩ := HOS.out z (List.mem_of_getElem? hz)
                have hz1 : (z == (f : Int)) = false := by simpa using z1
                have hz2 : (z == 0) = false := by simpa using z2
                obtain ⟨a9, rfl, hzc⟩ := src_at21 (Src.of_own (KQ.out.owns HO4.out (fun _ _ => id))) hz
                clear hz z1 z2
                go_wp2
                go_roundw
                case rel => exact ⟨q + 1, by omega, by go_num, KQ⟩
                case measure => simp [intOf]; omega
              · obtain rfl : q = 0 := by omega
                have hxr : wr.cell? (ad.add i) = some (.int .u8 (k : Int)) := HXC.out wr (HK4.out.trans KQ.out)
                have hsr : wr.cell? ⟨s, k, none⟩ = some (.bool true) := (KQ.out.cell HSL.out.1 id).trans HSL.out.2
                have hrow := HR4.out.keeps KQ.out id
                have hfr : wr.frozen? ⟨s, k, none⟩ = false := hrow.frozen k
                obtain ⟨W9, hW9⟩ : ∃ V, wr.setCell ⟨s, k, none⟩ (.bool true) = V := ⟨_, rfl⟩
                have k9 : Keeps (fun j => j = s) wr W9 := by rw [← hW9]; exact (Keeps.refl (fun j => j = s) wr).setCell (p := ⟨s, k, none⟩) (fun _ => rfl) _
                have HA9 := Lib.hid (CC.out.keeps (CC.out.keeps HA4.out KQ.out (fun _ h => h.elim)) k9 (fun j e h => HF4.out.2.1 (by have e' : j = s := e; rw [← e']; exact h)))
                have HR9 : Hid (Row W9 s 4 (bq (Gp.tol L x))) := Lib.hid (by rw [← bq_set, ← hW9, HKX.out]; exact hrow.set k (.bool true))
                have HK9 : Hid (Keeps (fun _ => False) W W9) := Lib.hid ((HK4.out.trans KQ.out).trans' k9 (fun j hj e => by have := HF4.out.2.2; have e' : j = s := e; omega))
                clear k9 hrow
                go_wp2
                go_roundw
                case rel => exact ⟨i + 1, F4, Gp.tol L x, by omega, by go_num, HA9, HR9, HF4, HK9⟩
                case measure => simp [intOf]; omega
          obtain rfl : ml = 0 := by rw [HML.out.1]
          have hf1 : (0 : Int) < (f : Int) := by omega
          have hf2 : ¬ (f : Int) < 6 := by omega
          go_wp2_with (first
            | go_skip
            | (refine wpList_madeW21 ?_ 36 [(0, .tmp 96)] (by rfl) [(0, .int .u8 (k : Int))] (by rfl) (.agg H) HBX.out ?_; rfl)
            | fail)
          refine HS4.out.mono ?_
          rintro e w5 ⟨rfl, k5⟩
          have K5 := Lib.hid k5
          clear k5 hs4 hc4
          go_wp2_with fail
          go_loopw [14] (fun qv wr => ∃ q : Nat, q ≤ 0 ∧ qv = .int .i64 (q : Int) ∧ Hid (Keeps (fun _ => False) w4 wr)) (fun qv _ => 0 - (intOf qv).toNat)
          case atStart => exact ⟨0, by omega, rfl, K5⟩
          case round =>
            clear K5
            obtain ⟨q, hq, rfl, KQ⟩ := hrel
            by_cases hqt : q < 0
            · have hqi : (q : Int) < 0 := by omega
              obtain ⟨z, hz⟩ : ∃ z, os[q]? = some z := ⟨_, List.getElem?_eq_getElem (by have := HML.out.2; omega)⟩
              obtain ⟨z1, z2⟩ := HOS.out z (List.mem_of_getElem? hz)
              have hz1 : (z == (f : Int)) = false := by simpa using z1
              have hz2 : (z == 0) = false := by simpa using z2
              obtain ⟨a9, rfl, hzc⟩ := src_at21 (Src.of_own (KQ.out.owns HO4.out (fun _ _ => id))) hz
              clear hz z1 z2
              go_wp2
              go_roundw
              case rel => exact ⟨q + 1, by omega, by go_num, KQ⟩
              case measure => simp [intOf]; omega
            · obtain rfl : q = 0 := by omega
              have hxr : wr.cell? (ad.add i) = some (.int .u8 (k : Int)) := HXC.out wr (HK4.out.trans KQ.out)
              have hsr : wr.cell? ⟨s, k, none⟩ = some (.bool true) := (KQ.out.cell HSL.out.1 id).trans HSL.out.2
              have hrow := HR4.out.keeps KQ.out id
              have hfr : wr.frozen? ⟨s, k, none⟩ = false := hrow.frozen k
              obtain ⟨W9, hW9⟩ : ∃ V, wr.setCell ⟨s, k, none⟩ (.bool true) = V := ⟨_, rfl⟩
              have k9 : Keeps (fun j => j = s) wr W9 := by rw [← hW9]; exact (Keeps.refl (fun j => j = s) wr).setCell (p := ⟨s, k, none⟩) (fun _ => rfl) _
              have HA9 := Lib.hid (CC.out.keeps (CC.out.keeps HA4.out KQ.out (fun _ h => h.elim)) k9 (fun j e h => HF4.out.2.1 (by have e' : j = s := e; rw [← e']; exact h)))
              have HR9 : Hid (Row W9 s 4 (bq (Gp.tol L x))) := Lib.hid (by rw [← bq_set, ← hW9, HKX.out]; exact hrow.set k (.bool true))
              have HK9 : Hid (Keeps (fun _ => False) W W9) := Lib.hid ((HK4.out.trans KQ.out).trans' k9 (fun j hj e => by have := HF4.out.2.2; have e' : j = s := e; omega))
              clear k9 hrow
              go_wp2
              go_roundw
              case rel => exact ⟨i + 1, F4, Gp.tol L x, by omega, by go_num, HA9, HR9, HF4, HK9⟩
              case measure => simp [intOf]; omega
        · have hr0 : r0 = false := by rw [← HR0.out]; exact decide_eq_false hin
          subst hr0
          have hml : os.length = if 0 < f ∧ f < 6 then 4 else 5 := by rw [← HOE.out, if_neg hin]; exact Gp.six_len L f hf6
          have HML : Hid (ml = (if 0 < f ∧ f < 6 then 4 else 5) ∧ os.length = ml) := Lib.hid ⟨by rw [← HMM.out, hml], HMM.out⟩
          clear hml hin
          by_cases hc0 : f = 0
          · obtain rfl : ml = 5 := by rw [HML.out.1, if_neg (by omega)]
            have hf1 : ¬ (0 : Int) < (f : Int) := by omega
            go_wp2_with (first
              | go_skip
              | (refine wpList_madeW21 ?_ 36 [(0, .tmp 96)] (by rfl) [(0, .int .u8 (k : Int))] (by rfl) (.agg H) HBX.out ?_; rfl)
              | fail)
            refine HS4.out.mono ?_
            rintro e w5 ⟨rfl, k5⟩
            have K5 := Lib.hid k5
            clear k5 hs4 hc4
            go_wp2_with fail
            go_loopw [14] (fun qv wr => ∃ q : Nat, q ≤ 5 ∧ qv = .int .i64 (q : Int) ∧ Hid (Keeps (fun _ => False) w4 wr)) (fun qv _ => 5 - (intOf qv).toNat)
            case atStart => exact ⟨0, by omega, rfl, K5⟩
            case round =>
              clear K5
              obtain ⟨q, hq, rfl, KQ⟩ := hrel
              by_cases hqt : q < 5
              · have hqi : (q : Int) < 5 := by omega
                obtain ⟨z, hz⟩ : ∃ z, os[q]? = some z := ⟨_, List.getElem?_eq_getElem (by have := HML.out.2; omega)⟩
                obtain ⟨z1, z2⟩ := HOS.out z (List.mem_of_getElem? hz)
                have hz1 : (z == (f : Int)) = false := by simpa using z1
                have hz2 : (z == 0) = false := by simpa using z2
                obtain ⟨a9, rfl, hzc⟩ := src_at21 (Src.of_own (KQ.out.owns HO4.out (fun _ _ => id))) hz
                clear hz z1 z2
                go_wp2
                go_roundw
                case rel => exact ⟨q + 1, by omega, by go_num, KQ⟩
                case measure => simp [intOf]; omega
              · obtain rfl : q = 5 := by omega
                have hxr : wr.cell? (ad.add i) = some (.int .u8 (k : Int)) := HXC.out wr (HK4.out.trans KQ.out)
                have hsr : wr.cell? ⟨s, k, none⟩ = some (.bool false) := (KQ.out.cell HSL.out.1 id).trans HSL.out.2
                have hrow := HR4.out.keeps KQ.out id
                have hfr : wr.frozen? ⟨s, k, none⟩ = false := hrow.frozen k
                obtain ⟨W9, hW9⟩ : ∃ V, wr.setCell ⟨s, k, none⟩ (.bool true) = V := ⟨_, rfl⟩
                have k9 : Keeps (fun j => j = s) wr W9 := by rw [← hW9]; exact (Keeps.refl (fun j => j = s) wr).setCell (p := ⟨s, k, none⟩) (fun _ => rfl) _
                have HA9 := Lib.hid (CC.out.keeps (CC.out.keeps HA4.out KQ.out (fun _ h => h.elim)) k9 (fun j e h => HF4.out.2.1 (by have e' : j = s := e; rw [← e']; exact h)))
                have HR9 : Hid (Row W9 s 4 (bq (Gp.tol L x))) := Lib.hid (by rw [← bq_set, ← hW9, HKX.out]; exact hrow.set k (.bool true))
                have HK9 : Hid (Keeps (fun _ => False) W W9) := Lib.hid ((HK4.out.trans KQ.out).trans' k9 (fun j hj e => by have := HF4.out.2.2; have e' : j = s := e; omega))
                clear k9 hrow
                go_wp2
                go_roundw
                case rel => exact ⟨i + 1, F4, Gp.tol L x, by omega, by go_num, HA9, HR9, HF4, HK9⟩
                case measure => simp [intOf]; omega
          by_cases hc1 : f < 6
          · obtain rfl : ml = 4 := by rw [HML.out.1, if_pos (by omega)]
            have hf1 : (0 : Int) < (f : Int) := by omega
            have hf2 : (f : Int) < 6 := by omega
            go_wp2_with (first
              | go_skip
              | (refine wpList_madeW21 ?_ 36 [(0, .tmp 96)] (by rfl) [(0, .int .u8 (k : Int))] (by rfl) (.agg H) HBX.out ?_; rfl)
              | fail)
            refine HS4.out.mono ?_
            rintro e w5 ⟨rfl, k5⟩
            have K5 := Lib.hid k5
            clear k5 hs4 hc4
            go_wp2_with fail
            go_loopw [14] (fun qv wr => ∃ q : Nat, q ≤ 4 ∧ qv = .int .i64 (q : Int) ∧ Hid (Keeps (fun _ => False) w4 wr)) (fun qv _ => 4 - (intOf qv).toNat)
            case atStart => exact ⟨0, by omega, rfl, K5⟩
            case round =>
              clear K5
              obtain ⟨q, hq, rfl, KQ⟩ := hrel
              by_cases hqt : q < 4
              · have hqi : (q : Int) < 4 := by omega
                obtain ⟨z, hz⟩ : ∃ z, os[q]? = some z := ⟨_, List.getElem?_eq_getElem (by have := HML.out.2; omega)⟩
                obtain ⟨z1, z2⟩ := HOS.out z (List.mem_of_getElem? hz)
                have hz1 : (z == (f : Int)) = false := by simpa using z1
                have hz2 : (z == 0) = false := by simpa using z2
                obtain ⟨a9, rfl, hzc⟩ := src_at21 (Src.of_own (KQ.out.owns HO4.out (fun _ _ => id))) hz
                clear hz z1 z2
                go_wp2
                go_roundw
                case rel => exact ⟨q + 1, by omega, by go_num, KQ⟩
                case measure => simp [intOf]; omega
              · obtain rfl : q = 4 := by omega
                have hxr : wr.cell? (ad.add i) = some (.int .u8 (k : Int)) := HXC.out wr (HK4.out.trans KQ.out)
                have hsr : wr.cell? ⟨s, k, none⟩ = some (.bool false) := (KQ.out.cell HSL.out.1 id).trans HSL.out.2
                have hrow := HR4.out.keeps KQ.out id
                have hfr : wr.frozen? ⟨s, k, none⟩ = false := hrow.frozen k
                obtain ⟨W9, hW9⟩ : ∃ V, wr.setCell ⟨s, k, none⟩ (.bool true) = V := ⟨_, rfl⟩
                have k9 : Keeps (fun j => j = s) wr W9 := by rw [← hW9]; exact (Keeps.refl (fun j => j = s) wr).setCell (p := ⟨s, k, none⟩) (fun _ => rfl) _
                have HA9 := Lib.hid (CC.out.keeps (CC.out.keeps HA4.out KQ.out (fun _ h => h.elim)) k9 (fun j e h => HF4.out.2.1 (by have e' : j = s := e; rw [← e']; exact h)))
                have HR9 : Hid (Row W9 s 4 (bq (Gp.tol L x))) := Lib.hid (by rw [← bq_set, ← hW9, HKX.out]; exact hrow.set k (.bool true))
                have HK9 : Hid (Keeps (fun _ => False) W W9) := Lib.hid ((HK4.out.trans KQ.out).trans' k9 (fun j hj e => by have := HF4.out.2.2; have e' : j = s := e; omega))
                clear k9 hrow
                go_wp2
                go_roundw
                case rel => exact ⟨i + 1, F4, Gp.tol L x, by omega, by go_num, HA9, HR9, HF4, HK9⟩
                case measure => simp [intOf]; omega
          obtain rfl : ml = 5 := by rw [HML.out.1, if_neg (by omega)]
          have hf1 : (0 : Int) < (f : Int) := by omega
          have hf2 : ¬ (f : Int) < 6 := by omega
          go_wp2_with (first
            | go_skip
            | (refine wpList_madeW21 ?_ 36 [(0, .tmp 96)] (by rfl) [(0, .int .u8 (k : Int))] (by rfl) (.agg H) HBX.out ?_; rfl)
            | fail)
          refine HS4.out.mono ?_
          rintro e w5 ⟨rfl, k5⟩
          have K5 := Lib.hid k5
          clear k5 hs4 hc4
          go_wp2_with fail
          go_loopw [14] (fun qv wr => ∃ q : Nat, q ≤ 5 ∧ qv = .int .i64 (q : Int) ∧ Hid (Keeps (fun _ => False) w4 wr)) (fun qv _ => 5 - (intOf qv).toNat)
          case atStart => exact ⟨0, by omega, rfl, K5⟩
          case round =>
            clear K5
            obtain ⟨q, hq, rfl, KQ⟩ := hrel
            by_cases hqt : q < 5
            · have hqi : (q : Int) < 5 := by omega
              obtain ⟨z, hz⟩ : ∃ z, os[q]? = some z := ⟨_, List.getElem?_eq_getElem (by have := HML.out.2; omega)⟩
              obtain ⟨z1, z2⟩ := HOS.out z (List.mem_of_getElem? hz)
              have hz1 : (z == (f : Int)) = false := by simpa using z1
              have hz2 : (z == 0) = false := by simpa using z2
              obtain ⟨a9, rfl, hzc⟩ := src_at21 (Src.of_own (KQ.out.owns HO4.out (fun _ _ => id))) hz
              clear hz z1 z2
              go_wp2
              go_roundw
              case rel => exact ⟨q + 1, by omega, by go_num, KQ⟩
              case measure => simp [intOf]; omega
            · obtain rfl : q = 5 := by omega
              have hxr : wr.cell? (ad.add i) = some (.int .u8 (k : Int)) := HXC.out wr (HK4.out.trans KQ.out)
              have hsr : wr.cell? ⟨s, k, none⟩ = some (.bool false) := (KQ.out.cell HSL.out.1 id).trans HSL.out.2
              have hrow := HR4.out.keeps KQ.out id
              have hfr : wr.frozen? ⟨s, k, none⟩ = false := hrow.frozen k
              obtain ⟨W9, hW9⟩ : ∃ V, wr.setCell ⟨s, k, none⟩ (.bool true) = V := ⟨_, rfl⟩
              have k9 : Keeps (fun j => j = s) wr W9 := by rw [← hW9]; exact (Keeps.refl (fun j => j = s) wr).setCell (p := ⟨s, k, none⟩) (fun _ => rfl) _
              have HA9 := Lib.hid (CC.out.keeps (CC.out.keeps HA4.out KQ.out (fun _ h => h.elim)) k9 (fun j e h => HF4.out.2.1 (by have e' : j = s := e; rw [← e']; exact h)))
              have HR9 : Hid (Row W9 s 4 (bq (Gp.tol L x))) := Lib.hid (by rw [← bq_set, ← hW9, HKX.out]; exact hrow.set k (.bool true))
              have HK9 : Hid (Keeps (fun _ => False) W W9) := Lib.hid ((HK4.out.trans KQ.out).trans' k9 (fun j hj e => by have := HF4.out.2.2; have e' : j = s := e; omega))
              clear k9 hrow
              go_wp2
              go_roundw
              case rel => exact ⟨i + 1, F4, Gp.tol L x, by omega, by go_num, HA9, HR9, HF4, HK9⟩
              case measure => simp [intOf]; omega
      · obtain rfl : i = n := by omega
        go_wp2
        go_ret
        exact ⟨rfl, HK.out.below (Nat.le_refl _) (fun _ _ => id)⟩
theorem floods_all (C : Goss At) (AW : Awake21) (A : Option Addr) (n c : Nat) (zs : List Int) (A2 : Option Addr) (m d : Nat) (zs2 : List Int) (W : World) (h : IsRowU .u8 W A n c zs) (h2 : IsRowU .u8 W A2 m d zs2) :
    Calls Try.prog 6 #[.slice A n c, .slice A2 m d] W fun e w' => e = .returned (.bool true) ∧ Below W.heap.size W w' := by
  obtain ⟨b, h11, h12, h13, h14⟩ := h.src
  obtain ⟨b2, h21, h22, h23, h24⟩ := h2.src
  exact floods_walk C AW A n c b A2 m d b2 W h11 h21 h12 h22 h13 h14 h23 h24
end Go.Proofs.Ytmhbfchhooggjaa