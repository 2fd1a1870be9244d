/-
  The law DiskReads walked: a block is read as it was written last, synced or not; the others as they were. WRITTEN BY wip/gen/mkdkre.py.
-/
import Derived.Test.YtonokeldlknadaaDkI
import Derived.Test.YtonokeldlknadaaDkRb
import Derived.Test.YtonokeldlknadaaRowU
namespace Go.Proofs.Ytonokeldlknadaa
open Go.RowKit Go.BigFrame
set_option linter.unusedVariables false

namespace Dk
theorem fill_one (x : UInt8) (i : Nat) (hi : i < 256) : (fill [x])[i]? = some x := by
  rw [fill_get [x] i hi]
  show some (([x] : List UInt8).getD (i % 1) 0) = some x
  rw [Nat.mod_one]
  rfl
theorem fill_nought : fill [0] = nought := by decide +kernel
/-- A disk that does not fail. -/
def Plain (s : St) (n m : Nat) : Prop := s.n = n ∧ s.fails = false ∧ s.dead = false ∧ s.loose.length ≤ m
theorem plain_goes {s : St} {n m : Nat} (h : Plain s n m) : goes s = true ∧ cnt s = s := by
  obtain ⟨_, hf, _, _⟩ := h
  exact ⟨by unfold goes; rw [hf]; rfl, by unfold cnt; rw [if_neg (by rw [hf]; decide)]⟩
theorem plain_write {s : St} {n m : Nat} (h : Plain s n m) (q : Nat) (hq : q < n) (b : Blk) : wrE s (q : Int) 256 = 0 ∧ wr s (q : Int) 256 b = { s with loose := s.loose ++ [(q, b)] } ∧ Plain (wr s (q : Int) 256 b) n (m + 1) ∧ rd (wr s (q : Int) 256 b) = put (rd s) q b := by
  obtain ⟨hg, hc⟩ := plain_goes h
  have hat : atE s (q : Int) = 0 := atE_in h.2.2.1 (by rw [h.1]; exact hq)
  have e : wr s (q : Int) 256 b = { s with loose := s.loose ++ [(q, b)] } := by unfold wr; rw [if_neg (fun hh => hh.elim (fun h => h hat) (fun h => h rfl)), if_pos hg, hc]; rfl
  rw [e]
  refine ⟨by unfold wrE cntE; rw [if_neg (fun h => h hat), if_neg (fun h => h rfl), if_pos hg], rfl, ⟨h.1, h.2.1, h.2.2.1, ?_⟩, ?_⟩
  · show (s.loose ++ [_]).length ≤ m + 1
    rw [List.length_append]
    have := h.2.2.2
    simp; omega
  · funext j
    show over s.good (s.loose ++ [(q, b)]) j = put (fun j => over s.good s.loose j) q b j
    rw [over_snoc]
theorem plain_sync {s : St} {n m : Nat} (h : Plain s n m) : syE s = 0 ∧ sy s = { s with good := over s.good s.loose, loose := [] } ∧ Plain (sy s) n m ∧ rd (sy s) = rd s := by
  obtain ⟨hg, hc⟩ := plain_goes h
  have hd' : ¬ s.dead = true := by rw [h.2.2.1]; decide
  have e : sy s = { s with good := over s.good s.loose, loose := [] } := by unfold sy; rw [if_neg hd', if_pos hg, hc]
  rw [e]
  exact ⟨by unfold syE cntE; rw [if_neg hd', if_pos hg], rfl, ⟨h.1, h.2.1, h.2.2.1, Nat.zero_le _⟩, rfl⟩
/-- The blocks read so. -/
def Last (s : St) (ls : List UInt8) : Prop := ∀ (j : Nat) (x : UInt8), ls[j]? = some x → rd s j = fill [x]
theorem last_put {s s' : St} {ls : List UInt8} (h : Last s ls) (q : Nat) (x : UInt8) (hr : rd s' = put (rd s) q (fill [x])) : Last s' (ls.set q x) := by
  intro j y hy
  rw [hr]
  rw [List.getElem?_set] at hy
  by_cases hj : q = j
  · subst hj
    rw [if_pos rfl] at hy
    split at hy
    · injection hy with hy
      subst hy
      exact put_same _ _ _
    · cases hy
  · rw [if_neg hj] at hy
    rw [put_other _ _ (Ne.symm hj)]
    exact h j y hy
end Dk
theorem and_three (c : UInt8) : ∃ q : Nat, q < 4 ∧ bits .and .u8 (c.toNat : Int) 3 = (q : Int) ∧ wrap64 (q : Int) = (q : Int) := by
  have hc := c.toNat_lt
  refine ⟨c.toNat % 4, by omega, ?_, IntWalk.wrap64_in _ (by omega)⟩
  have h := bits_mask .u8 8 (by decide) wraps_u8 2 (by decide) (c.toNat : Int) (by omega) (by omega)
  rw [show ((2 : Int) ^ 2 - 1) = 3 from rfl] at h
  rw [h]
  omega
set_option maxRecDepth 100000 in
set_option maxHeartbeats 1000000 in
theorem dreads_skip (A : Option Addr) (len c : Nat) (A2 : Option Addr) (len2 c2 : Nat) (W : World) (hlen : 40 < len ∨ len2 < len) (hmax : len ≤ 9223372036854775807) :
    Calls Try.prog 6 #[.slice A len c, .slice A2 len2 c2] W fun e W' => e = .returned (.bool true) ∧ Below W.heap.size W W' := by
  have haw := awake11_any W
  have HAW := Lib.hid haw
  clear haw
  by_cases h40 : 40 < len
  · have hl2 : (len : Int) > 40 := by omega
    go_enter Try.func6, Try.ntmps6
    go_wp2_with fail
    refine HAW.out.mono ?_
    rintro e w3 ⟨rfl, k3⟩
    go_wp2
    go_ret
    exact ⟨rfl, keeps_belowD k3⟩
  · have hl2 : ¬ (len : Int) > 40 := by omega
    have hl3 : (len2 : Int) < (len : Int) := by omega
    go_enter Try.func6, Try.ntmps6
    go_wp2_with fail
    refine HAW.out.mono ?_
    rintro e w3 ⟨rfl, k3⟩
    go_wp2
    go_ret
    exact ⟨rfl, keeps_belowD k3⟩
theorem make_four (V : World) : (Instr.makeSlice 34 (.int .i64 4) (.int .i64 4)).run Try.prog V = .ok (.slice (some ⟨V.heap.size, 0, none⟩) 4 4) (V.alloc (.cells (bvs [0, 0, 0, 0]).toArray 5)) := by
  have h := make_zeros 4 (by decide) V
  exact h
set_option maxRecDepth 100000 in
set_option maxHeartbeats 4000000 in
theorem dreads_few (A : Option Addr) (c : Nat) (xs : List UInt8) (len : Nat) (hxl : xs.length = len) (A2 : Option Addr) (c2 : Nat) (ys : List UInt8) (len2 : Nat) (hyl : ys.length = len2) (W : World) (hS : Src W A (bvs xs)) (hS2 : Src W A2 (bvs ys)) (hlen : len ≤ 40) (hle : len ≤ len2) (hmax : len2 ≤ 9223372036854775807) :
    Calls Try.prog 6 #[.slice A len c, .slice A2 len2 c2] W fun e W' => e = .returned (.bool true) ∧ Below W.heap.size W W' := by
  have haw := awake11_any W
  have HAW := Lib.hid haw
  have HS := Lib.hid hS
  have HS2 := Lib.hid hS2
  have HXL := Lib.hid hxl
  have HYL := Lib.hid hyl
  have hl40 : ¬ (len : Int) > 40 := by omega
  have hll2 : ¬ (len2 : Int) < (len : Int) := by omega
  obtain ⟨Z4, hZ4⟩ : ∃ Z, (bvs [0, 0, 0, 0]).toArray = Z := ⟨_, rfl⟩
  have hmk : ∀ V : World, (Instr.makeSlice 34 (.int .i64 4) (.int .i64 4)).run Try.prog V = .ok (.slice (some ⟨V.heap.size, 0, none⟩) 4 4) (V.alloc (.cells Z4 5)) := fun V => by rw [← hZ4]; exact make_four V
  have HZ4 := Lib.hid hZ4
  have HLM := Lib.hid hmax
  clear haw hS hS2 hxl hyl hZ4 hmax
  go_enter Try.func6, Try.ntmps6
  go_wp2_with fail
  refine HAW.out.mono ?_
  rintro e w0 ⟨rfl, k0⟩
  clear HAW
  have hnew := new_disk 4 w0 (by omega) (by omega)
  rw [show ((4 : Nat) : Int) = 4 from rfl] at hnew
  have HNEW := Lib.hid hnew
  have K0 := Lib.hid k0
  clear hnew k0
  go_wp2_with fail
  refine HNEW.out.mono ?_
  rintro e w1 ⟨g, rfl, hg, d1, k1⟩
  obtain ⟨w2, hw2⟩ : ∃ V, w1.alloc (.cells Z4 5) = V := ⟨_, rfl⟩
  obtain ⟨X, hX⟩ : ∃ x, w1.heap.size = x := ⟨_, rfl⟩
  have k2 : Keeps (fun _ => False) w1 w2 := by rw [← hw2]; exact (Keeps.refl _ _).alloc _
  have r2 : Row w2 X 5 (bvs [0, 0, 0, 0]) := by rw [← hw2, ← hX, ← HZ4.out]; exact heap_alloc_new w1 _
  have hXlt := r2.lt
  obtain ⟨F, hFe⟩ : ∃ F : Nat → Prop, (fun k => w0.heap.size ≤ k ∧ k ≠ X) = F := ⟨_, rfl⟩
  have d2 : DskAt w2 F g (Dk.fresh 4) := by rw [← hFe]; exact (d1.without (Nat.le_of_eq hX)).later k2
  have HF : Hid (∀ k, w2.heap.size ≤ k → F k) := Lib.hid (fun j hj => by rw [← hFe]; exact ⟨Nat.le_trans (Nat.le_trans k1.size k2.size) hj, by omega⟩)
  have HFX : Hid (¬ F X) := Lib.hid (by rw [← hFe]; exact fun h => h.2 rfl)
  have hX0 : w0.heap.size ≤ X := by have := k1.size; omega
  have HB : Hid (∀ V, Keeps (fun k => F k ∨ k = X) w2 V → Keeps (fun _ => False) W V) := Lib.hid (fun V hV => ((K0.out.trans k1).trans k2).trans' hV (fun i hi hf => by
    have := K0.out.size
    rcases hf with hf | hf
    · rw [← hFe] at hf; exact absurd hf.1 (by omega)
    · omega))
  have D2 := Lib.hid d2
  have R2 := Lib.hid r2
  clear d1 k1 k2 d2 r2 HNEW hFe HZ4 K0 hg hX0
  go_wp2_with fail
  go_loopw [9] (fun iv wr => ∃ (i : Nat) (s : Dk.St) (ls : List UInt8), i ≤ len ∧ iv = .int .i64 (i : Int) ∧ Hid (ls.length = 4) ∧ Hid (DskAt wr F g s) ∧ Hid (Row wr X 5 (bvs ls)) ∧ Hid (Dk.Plain s 4 i) ∧ Hid (Dk.Last s ls) ∧ Hid (Keeps (fun k => F k ∨ k = X) w2 wr)) (fun iv _ => len - (intOf iv).toNat)
  case atStart => exact ⟨0, _, [0, 0, 0, 0], by omega, rfl, Lib.hid rfl, D2, R2, Lib.hid ⟨rfl, rfl, rfl, Nat.le_refl _⟩, Lib.hid (fun j x hx => by
    have hj : j < 4 := (List.getElem?_eq_some_iff.1 hx).1
    have hx0 : x = 0 := by
      match j, hx with
      | 0, hx => cases hx; rfl
      | 1, hx => cases hx; rfl
      | 2, hx => cases hx; rfl
      | 3, hx => cases hx; rfl
    subst hx0
    exact Dk.fill_nought.symm), Lib.hid (Keeps.refl _ _)⟩
  case round =>
    clear D2 R2 hmk
    obtain ⟨i, s, ls, hi, rfl, HLL, HDS, HR, HPL, HLA, HKP⟩ := hrel
    by_cases hlt : i < len
    · have hii : (i : Int) < (len : Int) := by omega
      have hii2 : (i : Int) < (len2 : Int) := by omega
      obtain ⟨cb, hcb⟩ : ∃ c, xs[i]? = some c := ⟨_, List.getElem?_eq_getElem (by rw [HXL.out]; exact hlt)⟩
      obtain ⟨db, hdb⟩ : ∃ c, ys[i]? = some c := ⟨_, List.getElem?_eq_getElem (by rw [HYL.out]; omega)⟩
      obtain ⟨aa, haa, _⟩ := HS.out i (bv cb) (by rw [bvs_get, hcb]; rfl)
      obtain ⟨ab, hab, _⟩ := HS2.out i (bv db) (by rw [bvs_get, hdb]; rfl)
      subst haa
      subst hab
      have HCB : Hid (∀ V, Keeps (fun k => F k ∨ k = X) wr V → V.cell? (aa.add i) = some (.int .u8 (cb.toNat : Int))) := Lib.hid (fun V hV => (HS.out.keeps (HB.out V (HKP.out.trans hV)) (fun _ _ _ => id)).at_ (by rw [bvs_get, hcb]; rfl))
      have HDB : Hid (∀ V, Keeps (fun k => F k ∨ k = X) wr V → V.cell? (ab.add i) = some (.int .u8 (db.toNat : Int))) := Lib.hid (fun V hV => (HS2.out.keeps (HB.out V (HKP.out.trans hV)) (fun _ _ _ => id)).at_ (by rw [bvs_get, hdb]; rfl))
      obtain ⟨q, hq, hq1, hq2⟩ := and_three cb
      have hcr := HCB.out wr (Keeps.refl _ _)
      obtain ⟨W4, hW4⟩ : ∃ V, wr.alloc (.cells #[.int .u8 (cb.toNat : Int)] 5) = V := ⟨_, rfl⟩
      obtain ⟨B4, hB4⟩ : ∃ x, wr.heap.size = x := ⟨_, rfl⟩
      have k4 : Keeps (fun _ => False) wr W4 := by rw [← hW4]; exact (Keeps.refl _ _).alloc _
      have r4 : Row W4 B4 5 (bvs [cb]) := by rw [← hW4, ← hB4]; exact heap_alloc_new wr _
      have hfu := full_any (some ⟨B4, 0, none⟩) 1 [cb] false 256 rfl W4 r4.src (by simp)
      have HFU : Hid (Calls Try.prog 12 #[.slice (some ⟨B4, 0, none⟩) 1 1, .bool false] W4 fun e w' => e = .returned (.slice (some ⟨W4.heap.size, 0, none⟩) 256 256) ∧ Row w' W4.heap.size 5 (bvs (Dk.fill [cb])) ∧ Keeps (fun _ => False) W4 w') := Lib.hid hfu
      have K4 := Lib.hid k4
      have HQ := Lib.hid (And.intro hq (And.intro hq1 hq2))
      clear hfu k4 r4 hcb hdb hq1 hq2
      go_wp2_with fail
      refine HFU.out.mono ?_
      rintro e w5 ⟨rfl, r5, k5⟩
      obtain ⟨hw1, hw2', hw3, hw4⟩ := Dk.plain_write HPL.out q hq (Dk.fill [cb])
      have hwr := write_any wr F g s HDS.out (fun k hk => HF.out k (Nat.le_trans HKP.out.size hk)) w5 (K4.out.trans k5) W4.heap.size 256 5 (Dk.fill [cb]) K4.out.size r5 (q : Int) 256 (Dk.fill_length _) (Nat.le_trans HPL.out.2.2.2 (by omega))
      rw [hw1] at hwr
      obtain ⟨s4, hs4⟩ : ∃ s4, Dk.wr s (q : Int) 256 (Dk.fill [cb]) = s4 := ⟨_, rfl⟩
      rw [hs4] at hwr hw3 hw4
      have HWR := Lib.hid hwr
      have HR5 : Hid (Row w5 X 5 (bvs ls)) := Lib.hid (HR.out.keeps (K4.out.trans k5) id)
      have K5 : Hid (Keeps (fun k => F k ∨ k = X) wr w5) := Lib.hid ((K4.out.trans k5).mono (fun _ _ h => h.elim))
      have HP4 := Lib.hid hw3
      have HL4 := Lib.hid (Dk.last_put HLA.out q cb hw4)
      have hqw : wrap64 (bits .and .u8 (cb.toNat : Int) 3) = (q : Int) := by rw [HQ.out.2.1]; exact HQ.out.2.2
      clear hwr hw1 hw2' hw3 hw4 r5 k5 HFU K4 HDS HPL HLA hs4 hcr hW4 hB4
      go_wp2_with fail
      try rw [hqw]
      refine HWR.out.mono ?_
      rintro e w6 ⟨rfl, d6, k6⟩
      have K6 : Hid (Keeps (fun k => F k ∨ k = X) wr w6) := Lib.hid (K5.out.trans (k6.mono (fun _ _ h => .inl h)))
      have D6 := Lib.hid d6
      have hdr := HDB.out w6 K6.out
      have HR6 : Hid (Row w6 X 5 (bvs ls)) := Lib.hid (HR5.out.keeps k6 HFX.out)
      clear d6 k6 HWR K5 HR5 HR
      cases hb : (bits .and .u8 (db.toNat : Int) 1 == 1) with
      | true =>
        obtain ⟨hy1, hy2, hy3, hy4⟩ := Dk.plain_sync HP4.out
        have hsy := sync_any w6 F g s4 D6.out (fun k hk => HF.out k (Nat.le_trans (HKP.out.trans K6.out).size hk)) (Nat.le_trans HP4.out.2.2.2 (by omega))
        rw [hy1] at hsy
        obtain ⟨s7, hs7⟩ : ∃ s7, Dk.sy s4 = s7 := ⟨_, rfl⟩
        rw [hs7] at hsy hy3 hy4
        have HSY := Lib.hid hsy
        have HP7 := Lib.hid hy3
        have HL7 : Hid (Dk.Last s7 (ls.set q cb)) := Lib.hid (fun j x hx => by rw [hy4]; exact HL4.out j x hx)
        clear hsy hy1 hy2 hy3 hy4 hs7 HP4 HL4
        go_wp2_with fail
        refine HSY.out.mono ?_
        rintro e w7 ⟨rfl, d7, k7⟩
        have K7 : Hid (Keeps (fun k => F k ∨ k = X) wr w7) := Lib.hid (K6.out.trans (k7.mono (fun _ _ h => .inl h)))
        have HR7 : Hid (Row w7 X 5 (bvs ls)) := Lib.hid (HR6.out.keeps k7 HFX.out)
        have D7 := Lib.hid d7
        clear d7 k7 HSY K6 HR6 D6 hdr
        have hcv := HCB.out w7 K7.out
        have hqi : (q : Int) < 4 := by have := HQ.out.1; omega
        obtain ⟨old, hold⟩ : ∃ o, ls[q]? = some o := ⟨_, List.getElem?_eq_getElem (by rw [HLL.out]; exact HQ.out.1)⟩
        have cX : w7.cell? ⟨X, q, none⟩ = some (.int .u8 (old.toNat : Int)) := HR7.out.byte hold
        have fX : w7.frozen? ⟨X, q, none⟩ = false := HR7.out.frozen q
        obtain ⟨W8, hW8⟩ : ∃ V, w7.setCell ⟨X, q, none⟩ (.int .u8 (cb.toNat : Int)) = V := ⟨_, rfl⟩
        have k8 : Keeps (fun k => k = X) w7 W8 := by rw [← hW8]; exact (Keeps.refl (fun k => k = X) w7).setCell (p := ⟨X, q, none⟩) (fun _ => rfl) _
        have HR8 : Hid (Row W8 X 5 (bvs (ls.set q cb))) := Lib.hid (by rw [← hW8, ← bvs_set]; exact HR7.out.set q (bv cb))
        have D8 : Hid (DskAt W8 F g s7) := Lib.hid (D7.out.keeps k8 (fun k _ hf e => HFX.out (by rw [← e]; exact hf)))
        have K8 : Hid (Keeps (fun k => F k ∨ k = X) w2 W8) := Lib.hid ((HKP.out.trans K7.out).trans (k8.mono (fun _ _ e => .inr e)))
        have HL8 : Hid ((ls.set q cb).length = 4) := Lib.hid (by rw [List.length_set]; exact HLL.out)
        obtain ⟨ls8, hls8⟩ : ∃ l, ls.set q cb = l := ⟨_, rfl⟩
        rw [hls8] at HR8 HL8 HL7
        clear k8 hold hls8 D7 HR7
        go_wp2_with fail
        go_loopw [11] (fun jv wr2 => ∃ (j : Nat), j ≤ 4 ∧ jv = .int .i64 (j : Int) ∧ Hid (Keeps (fun _ => False) W8 wr2)) (fun jv _ => 4 - (intOf jv).toNat)
        case atStart => exact ⟨0, by omega, rfl, Lib.hid (Keeps.refl _ _)⟩
        case round =>
          obtain ⟨j, hj, rfl, HKJ⟩ := hrel
          by_cases hj4 : j < 4
          · have hji : (j : Int) < 4 := by omega
            obtain ⟨x, hx⟩ : ∃ x, ls8[j]? = some x := ⟨_, List.getElem?_eq_getElem (by rw [HL8.out]; exact hj4)⟩
            have hrd := read_ok wr F g s7 (D8.out.later HKJ.out) j (by rw [HP7.out.1]; exact hj4) HP7.out.2.2.1
            rw [HL7.out j x hx] at hrd
            have HRD := Lib.hid hrd
            have HXX := Lib.hid hx
            clear hrd hx
            go_wp2_with fail
            refine HRD.out.mono ?_
            rintro e w6 ⟨rfl, r6, k6⟩
            obtain ⟨B6, hB6⟩ : ∃ b, wr.heap.size = b := ⟨_, rfl⟩
            rw [hB6] at r6
            have HB0 : Hid (∀ V, Later w6 V → V.cell? ⟨B6, 0, none⟩ = some (.int .u8 (x.toNat : Int))) := Lib.hid (fun V hV => (r6.keeps hV.out id).byte (Dk.fill_one x 0 (by decide)))
            have HB9 : Hid (∀ V, Later w6 V → V.cell? ⟨B6, 255, none⟩ = some (.int .u8 (x.toNat : Int))) := Lib.hid (fun V hV => (r6.keeps hV.out id).byte (Dk.fill_one x 255 (by decide)))
            have HXJ : Hid (∀ V, Later w6 V → V.cell? ⟨X, j, none⟩ = some (.int .u8 (x.toNat : Int))) := Lib.hid (fun V hV => (HR8.out.keeps ((HKJ.out.trans k6).trans hV.out) id).byte HXX.out)
            have HK6 : Hid (Keeps (fun _ => False) W8 w6) := Lib.hid (HKJ.out.trans k6)
            clear r6 k6 HRD HKJ HXX
            go_wp2_with fail
            refine wp_region_class (Later w6) (by kernel_rfl) (by kernel_rfl) (⟨(Keeps.refl _ _).drew⟩) ?_
            refine class_value (by rfl) (.int .i64 0) (fun V hV => by go_simp) ?_
            simp only [Act.put, List.setIfInBounds_toArray, List.set_cons_zero, List.set_cons_succ]
            refine class_value (by rfl) (.bool false) (fun V hV => by go_simp) ?_
            simp only [Act.put, List.setIfInBounds_toArray, List.set_cons_zero, List.set_cons_succ]
            refine class_value (by rfl) (.bool false) (fun V hV => by go_simp) ?_
            simp only [Act.put, List.setIfInBounds_toArray, List.set_cons_zero, List.set_cons_succ]
            refine class_value (by rfl) (.slice (some ⟨B6, 0, none⟩) 256 256) (fun V hV => by go_simp) ?_
            simp only [Act.put, List.setIfInBounds_toArray, List.set_cons_zero, List.set_cons_succ]
            refine class_value (by rfl) (.int .i64 256) (fun V hV => by go_simp) ?_
            simp only [Act.put, List.setIfInBounds_toArray, List.set_cons_zero, List.set_cons_succ]
            refine class_value (by rfl) (.bool false) (fun V hV => by go_simp) ?_
            simp only [Act.put, List.setIfInBounds_toArray, List.set_cons_zero, List.set_cons_succ]
            refine class_value (by rfl) (.bool false) (fun V hV => by go_simp) ?_
            simp only [Act.put, List.setIfInBounds_toArray, List.set_cons_zero, List.set_cons_succ]
            refine class_value (by rfl) (.bool false) (fun V hV => by go_simp) ?_
            simp only [Act.put, List.setIfInBounds_toArray, List.set_cons_zero, List.set_cons_succ]
            refine class_value (by rfl) (.slice (some ⟨B6, 0, none⟩) 256 256) (fun V hV => by go_simp) ?_
            simp only [Act.put, List.setIfInBounds_toArray, List.set_cons_zero, List.set_cons_succ]
            refine class_value (by rfl) (.pointer (some ⟨B6, 0, none⟩)) (fun V hV => by go_simp) ?_
            simp only [Act.put, List.setIfInBounds_toArray, List.set_cons_zero, List.set_cons_succ]
            refine class_cell (by rfl) 5 (.tmp 95) (by rfl) ⟨B6, 0, none⟩ (by rfl) (.int .u8 (x.toNat : Int)) _ (fun V hV => HB0.out V hV) Try.underlying5 rfl ?_
            simp only [Act.put, List.setIfInBounds_toArray, List.set_cons_zero, List.set_cons_succ]
            refine class_value (by rfl) (.slice (some ⟨X, 0, none⟩) 4 4) (fun V hV => by go_simp) ?_
            simp only [Act.put, List.setIfInBounds_toArray, List.set_cons_zero, List.set_cons_succ]
            refine class_value (by rfl) (.int .i64 (j : Int)) (fun V hV => by go_simp) ?_
            simp only [Act.put, List.setIfInBounds_toArray, List.set_cons_zero, List.set_cons_succ]
            refine class_value (by rfl) (.pointer (some ⟨X, j, none⟩)) (fun V hV => by go_simp) ?_
            simp only [Act.put, List.setIfInBounds_toArray, List.set_cons_zero, List.set_cons_succ]
            refine class_cell (by rfl) 5 (.tmp 99) (by rfl) ⟨X, j, none⟩ (by rfl) (.int .u8 (x.toNat : Int)) _ (fun V hV => HXJ.out V hV) Try.underlying5 rfl ?_
            simp only [Act.put, List.setIfInBounds_toArray, List.set_cons_zero, List.set_cons_succ]
            refine class_value (by rfl) (.bool false) (fun V hV => by go_simp) ?_
            simp only [Act.put, List.setIfInBounds_toArray, List.set_cons_zero, List.set_cons_succ]
            refine class_value (by rfl) (.bool false) (fun V hV => by go_simp) ?_
            simp only [Act.put, List.setIfInBounds_toArray, List.set_cons_zero, List.set_cons_succ]
            refine class_value (by rfl) (.bool false) (fun V hV => by go_simp) ?_
            simp only [Act.put, List.setIfInBounds_toArray, List.set_cons_zero, List.set_cons_succ]
            refine class_value (by rfl) (.slice (some ⟨B6, 0, none⟩) 256 256) (fun V hV => by go_simp) ?_
            simp only [Act.put, List.setIfInBounds_toArray, List.set_cons_zero, List.set_cons_succ]
            refine class_value (by rfl) (.pointer (some ⟨B6, 255, none⟩)) (fun V hV => by go_simp) ?_
            simp only [Act.put, List.setIfInBounds_toArray, List.set_cons_zero, List.set_cons_succ]
            refine class_cell (by rfl) 5 (.tmp 105) (by rfl) ⟨B6, 255, none⟩ (by rfl) (.int .u8 (x.toNat : Int)) _ (fun V hV => HB9.out V hV) Try.underlying5 rfl ?_
            simp only [Act.put, List.setIfInBounds_toArray, List.set_cons_zero, List.set_cons_succ]
            refine class_value (by rfl) (.slice (some ⟨X, 0, none⟩) 4 4) (fun V hV => by go_simp) ?_
            simp only [Act.put, List.setIfInBounds_toArray, List.set_cons_zero, List.set_cons_succ]
            refine class_value (by rfl) (.int .i64 (j : Int)) (fun V hV => by go_simp) ?_
            simp only [Act.put, List.setIfInBounds_toArray, List.set_cons_zero, List.set_cons_succ]
            refine class_value (by rfl) (.pointer (some ⟨X, j, none⟩)) (fun V hV => by go_simp) ?_
            simp only [Act.put, List.setIfInBounds_toArray, List.set_cons_zero, List.set_cons_succ]
            refine class_cell (by rfl) 5 (.tmp 109) (by rfl) ⟨X, j, none⟩ (by rfl) (.int .u8 (x.toNat : Int)) _ (fun V hV => HXJ.out V hV) Try.underlying5 rfl ?_
            simp only [Act.put, List.setIfInBounds_toArray, List.set_cons_zero, List.set_cons_succ]
            refine class_value (by rfl) (.bool false) (fun V hV => by go_simp) ?_
            simp only [Act.put, List.setIfInBounds_toArray, List.set_cons_zero, List.set_cons_succ]
            refine class_value (by rfl) (.bool false) (fun V hV => by go_simp) ?_
            simp only [Act.put, List.setIfInBounds_toArray, List.set_cons_zero, List.set_cons_succ]
            refine wpQuiet_nil ?_
            intro V hV
            have HKV : Hid (Keeps (fun _ => False) W8 V) := Lib.hid (HK6.out.trans hV.out)
            clear hV HB0 HB9 HXJ HK6
            go_wp2_with fail
            go_roundw
            case rel => exact ⟨j + 1, by omega, by go_num, HKV⟩
            case measure => simp [intOf]; omega
          · have hji : ¬ (j : Int) < 4 := by omega
            have NX : Hid (Keeps (fun k => F k ∨ k = X) w2 wr) := Lib.hid (K8.out.trans (HKJ.out.mono (fun _ _ h => h.elim)))
            have NR : Hid (Row wr X 5 (bvs ls8)) := Lib.hid (HR8.out.keeps HKJ.out id)
            have ND : Hid (DskAt wr F g s7) := Lib.hid (D8.out.later HKJ.out)
            clear HKJ K8 HR8 D8
            go_wp2_with fail
            go_roundw
            case rel => exact ⟨i + 1, s7, ls8, by omega, by go_num, HL8, ND, NR, HP7, HL7, NX⟩
            case measure => simp [intOf]; omega
      | false =>
        have hcv := HCB.out w6 K6.out
        have hqi : (q : Int) < 4 := by have := HQ.out.1; omega
        obtain ⟨old, hold⟩ : ∃ o, ls[q]? = some o := ⟨_, List.getElem?_eq_getElem (by rw [HLL.out]; exact HQ.out.1)⟩
        have cX : w6.cell? ⟨X, q, none⟩ = some (.int .u8 (old.toNat : Int)) := HR6.out.byte hold
        have fX : w6.frozen? ⟨X, q, none⟩ = false := HR6.out.frozen q
        obtain ⟨W8, hW8⟩ : ∃ V, w6.setCell ⟨X, q, none⟩ (.int .u8 (cb.toNat : Int)) = V := ⟨_, rfl⟩
        have k8 : Keeps (fun k => k = X) w6 W8 := by rw [← hW8]; exact (Keeps.refl (fun k => k = X) w6).setCell (p := ⟨X, q, none⟩) (fun _ => rfl) _
        have HR8 : Hid (Row W8 X 5 (bvs (ls.set q cb))) := Lib.hid (by rw [← hW8, ← bvs_set]; exact HR6.out.set q (bv cb))
        have D8 : Hid (DskAt W8 F g s4) := Lib.hid (D6.out.keeps k8 (fun k _ hf e => HFX.out (by rw [← e]; exact hf)))
        have K8 : Hid (Keeps (fun k => F k ∨ k = X) w2 W8) := Lib.hid ((HKP.out.trans K6.out).trans (k8.mono (fun _ _ e => .inr e)))
        have HL8 : Hid ((ls.set q cb).length = 4) := Lib.hid (by rw [List.length_set]; exact HLL.out)
        obtain ⟨ls8, hls8⟩ : ∃ l, ls.set q cb = l := ⟨_, rfl⟩
        rw [hls8] at HR8 HL8 HL4
        clear k8 hold hls8 D6 HR6
        go_wp2_with fail
        go_loopw [11] (fun jv wr2 => ∃ (j : Nat), j ≤ 4 ∧ jv = .int .i64 (j : Int) ∧ Hid (Keeps (fun _ => False) W8 wr2)) (fun jv _ => 4 - (intOf jv).toNat)
        case atStart => exact ⟨0, by omega, rfl, Lib.hid (Keeps.refl _ _)⟩
        case round =>
          obtain ⟨j, hj, rfl, HKJ⟩ := hrel
          by_cases hj4 : j < 4
          · have hji : (j : Int) < 4 := by omega
            obtain ⟨x, hx⟩ : ∃ x, ls8[j]? = some x := ⟨_, List.getElem?_eq_getElem (by rw [HL8.out]; exact hj4)⟩
            have hrd := read_ok wr F g s4 (D8.out.later HKJ.out) j (by rw [HP4.out.1]; exact hj4) HP4.out.2.2.1
            rw [HL4.out j x hx] at hrd
            have HRD := Lib.hid hrd
            have HXX := Lib.hid hx
            clear hrd hx
            go_wp2_with fail
            refine HRD.out.mono ?_
            rintro e w6 ⟨rfl, r6, k6⟩
            obtain ⟨B6, hB6⟩ : ∃ b, wr.heap.size = b := ⟨_, rfl⟩
            rw [hB6] at r6
            have HB0 : Hid (∀ V, Later w6 V → V.cell? ⟨B6, 0, none⟩ = some (.int .u8 (x.toNat : Int))) := Lib.hid (fun V hV => (r6.keeps hV.out id).byte (Dk.fill_one x 0 (by decide)))
            have HB9 : Hid (∀ V, Later w6 V → V.cell? ⟨B6, 255, none⟩ = some (.int .u8 (x.toNat : Int))) := Lib.hid (fun V hV => (r6.keeps hV.out id).byte (Dk.fill_one x 255 (by decide)))
            have HXJ : Hid (∀ V, Later w6 V → V.cell? ⟨X, j, none⟩ = some (.int .u8 (x.toNat : Int))) := Lib.hid (fun V hV => (HR8.out.keeps ((HKJ.out.trans k6).trans hV.out) id).byte HXX.out)
            have HK6 : Hid (Keeps (fun _ => False) W8 w6) := Lib.hid (HKJ.out.trans k6)
            clear r6 k6 HRD HKJ HXX
            go_wp2_with fail
            refine wp_region_class (Later w6) (by kernel_rfl) (by kernel_rfl) (⟨(Keeps.refl _ _).drew⟩) ?_
            refine class_value (by rfl) (.int .i64 0) (fun V hV => by go_simp) ?_
            simp only [Act.put, List.setIfInBounds_toArray, List.set_cons_zero, List.set_cons_succ]
            refine class_value (by rfl) (.bool false) (fun V hV => by go_simp) ?_
            simp only [Act.put, List.setIfInBounds_toArray, List.set_cons_zero, List.set_cons_succ]
            refine class_value (by rfl) (.bool false) (fun V hV => by go_simp) ?_
            simp only [Act.put, List.setIfInBounds_toArray, List.set_cons_zero, List.set_cons_succ]
            refine class_value (by rfl) (.slice (some ⟨B6, 0, none⟩) 256 256) (fun V hV => by go_simp) ?_
            simp only [Act.put, List.setIfInBounds_toArray, List.set_cons_zero, List.set_cons_succ]
            refine class_value (by rfl) (.int .i64 256) (fun V hV => by go_simp) ?_
            simp only [Act.put, List.setIfInBounds_toArray, List.set_cons_zero, List.set_cons_succ]
            refine class_value (by rfl) (.bool false) (fun V hV => by go_simp) ?_
            simp only [Act.put, List.setIfInBounds_toArray, List.set_cons_zero, List.set_cons_succ]
            refine class_value (by rfl) (.bool false) (fun V hV => by go_simp) ?_
            simp only [Act.put, List.setIfInBounds_toArray, List.set_cons_zero, List.set_cons_succ]
            refine class_value (by rfl) (.bool false) (fun V hV => by go_simp) ?_
            simp only [Act.put, List.setIfInBounds_toArray, List.set_cons_zero, List.set_cons_succ]
            refine class_value (by rfl) (.slice (some ⟨B6, 0, none⟩) 256 256) (fun V hV => by go_simp) ?_
            simp only [Act.put, List.setIfInBounds_toArray, List.set_cons_zero, List.set_cons_succ]
            refine class_value (by rfl) (.pointer (some ⟨B6, 0, none⟩)) (fun V hV => by go_simp) ?_
            simp only [Act.put, List.setIfInBounds_toArray, List.set_cons_zero, List.set_cons_succ]
            refine class_cell (by rfl) 5 (.tmp 95) (by rfl) ⟨B6, 0, none⟩ (by rfl) (.int .u8 (x.toNat : Int)) _ (fun V hV => HB0.out V hV) Try.underlying5 rfl ?_
            simp only [Act.put, List.setIfInBounds_toArray, List.set_cons_zero, List.set_cons_succ]
            refine class_value (by rfl) (.slice (some ⟨X, 0, none⟩) 4 4) (fun V hV => by go_simp) ?_
            simp only [Act.put, List.setIfInBounds_toArray, List.set_cons_zero, List.set_cons_succ]
            refine class_value (by rfl) (.int .i64 (j : Int)) (fun V hV => by go_simp) ?_
            simp only [Act.put, List.setIfInBounds_toArray, List.set_cons_zero, List.set_cons_succ]
            refine class_value (by rfl) (.pointer (some ⟨X, j, none⟩)) (fun V hV => by go_simp) ?_
            simp only [Act.put, List.setIfInBounds_toArray, List.set_cons_zero, List.set_cons_succ]
            refine class_cell (by rfl) 5 (.tmp 99) (by rfl) ⟨X, j, none⟩ (by rfl) (.int .u8 (x.toNat : Int)) _ (fun V hV => HXJ.out V hV) Try.underlying5 rfl ?_
            simp only [Act.put, List.setIfInBounds_toArray, List.set_cons_zero, List.set_cons_succ]
            refine class_value (by rfl) (.bool false) (fun V hV => by go_simp) ?_
            simp only [Act.put, List.setIfInBounds_toArray, List.set_cons_zero, List.set_cons_succ]
            refine class_value (by rfl) (.bool false) (fun V hV => by go_simp) ?_
            simp only [Act.put, List.setIfInBounds_toArray, List.set_cons_zero, List.set_cons_succ]
            refine class_value (by rfl) (.bool false) (fun V hV => by go_simp) ?_
            simp only [Act.put, List.setIfInBounds_toArray, List.set_cons_zero, List.set_cons_succ]
            refine class_value (by rfl) (.slice (some ⟨B6, 0, none⟩) 256 256) (fun V hV => by go_simp) ?_
            simp only [Act.put, List.setIfInBounds_toArray, List.set_cons_zero, List.set_cons_succ]
            refine class_value (by rfl) (.pointer (some ⟨B6, 255, none⟩)) (fun V hV => by go_simp) ?_
            simp only [Act.put, List.setIfInBounds_toArray, List.set_cons_zero, List.set_cons_succ]
            refine class_cell (by rfl) 5 (.tmp 105) (by rfl) ⟨B6, 255, none⟩ (by rfl) (.int .u8 (x.toNat : Int)) _ (fun V hV => HB9.out V hV) Try.underlying5 rfl ?_
            simp only [Act.put, List.setIfInBounds_toArray, List.set_cons_zero, List.set_cons_succ]
            refine class_value (by rfl) (.slice (some ⟨X, 0, none⟩) 4 4) (fun V hV => by go_simp) ?_
            simp only [Act.put, List.setIfInBounds_toArray, List.set_cons_zero, List.set_cons_succ]
            refine class_value (by rfl) (.int .i64 (j : Int)) (fun V hV => by go_simp) ?_
            simp only [Act.put, List.setIfInBounds_toArray, List.set_cons_zero, List.set_cons_succ]
            refine class_value (by rfl) (.pointer (some ⟨X, j, none⟩)) (fun V hV => by go_simp) ?_
            simp only [Act.put, List.setIfInBounds_toArray, List.set_cons_zero, List.set_cons_succ]
            refine class_cell (by rfl) 5 (.tmp 109) (by rfl) ⟨X, j, none⟩ (by rfl) (.int .u8 (x.toNat : Int)) _ (fun V hV => HXJ.out V hV) Try.underlying5 rfl ?_
            simp only [Act.put, List.setIfInBounds_toArray, List.set_cons_zero, List.set_cons_succ]
            refine class_value (by rfl) (.bool false) (fun V hV => by go_simp) ?_
            simp only [Act.put, List.setIfInBounds_toArray, List.set_cons_zero, List.set_cons_succ]
            refine class_value (by rfl) (.bool false) (fun V hV => by go_simp) ?_
            simp only [Act.put, List.setIfInBounds_toArray, List.set_cons_zero, List.set_cons_succ]
            refine wpQuiet_nil ?_
            intro V hV
            have HKV : Hid (Keeps (fun _ => False) W8 V) := Lib.hid (HK6.out.trans hV.out)
            clear hV HB0 HB9 HXJ HK6
            go_wp2_with fail
            go_roundw
            case rel => exact ⟨j + 1, by omega, by go_num, HKV⟩
            case measure => simp [intOf]; omega
          · have hji : ¬ (j : Int) < 4 := by omega
            have NX : Hid (Keeps (fun k => F k ∨ k = X) w2 wr) := Lib.hid (K8.out.trans (HKJ.out.mono (fun _ _ h => h.elim)))
            have NR : Hid (Row wr X 5 (bvs ls8)) := Lib.hid (HR8.out.keeps HKJ.out id)
            have ND : Hid (DskAt wr F g s4) := Lib.hid (D8.out.later HKJ.out)
            clear HKJ K8 HR8 D8
            go_wp2_with fail
            go_roundw
            case rel => exact ⟨i + 1, s4, ls8, by omega, by go_num, HL8, ND, NR, HP4, HL4, NX⟩
            case measure => simp [intOf]; omega
    · have hii : ¬ (i : Int) < (len : Int) := by omega
      have FIN := Lib.hid (keeps_belowD (HB.out wr HKP.out))
      go_wp2
      go_ret
      exact ⟨rfl, FIN.out⟩
theorem dreads_all (A : Option Addr) (len c : Nat) (zs : List Int) (A2 : Option Addr) (len2 c2 : Nat) (zs2 : List Int) (W : World) (hA : IsRowU .u8 W A len c zs) (hA2 : IsRowU .u8 W A2 len2 c2 zs2) :
    Calls Try.prog 6 #[.slice A len c, .slice A2 len2 c2] W fun e W' => e = .returned (.bool true) ∧ Below W.heap.size W W' := by
  obtain ⟨xs, hl, hs, h1, h2⟩ := hA.src
  obtain ⟨ys, hl2, hs2, h3, h4⟩ := hA2.src
  by_cases h : 40 < len ∨ len2 < len
  · exact dreads_skip A len c A2 len2 c2 W h (by omega)
  · exact dreads_few A c xs len hl A2 c2 ys len2 hl2 W hs hs2 (by omega) (by omega) (by omega)
end Go.Proofs.Ytonokeldlknadaa
