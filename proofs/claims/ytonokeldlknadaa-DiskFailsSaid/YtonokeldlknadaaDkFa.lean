/-
  The law DiskFails walked: it fails just at the call that was told, and at all behind it, until it begins anew. WRITTEN BY wip/gen/mkdkfa.py.
-/
import Derived.Test.YtonokeldlknadaaDkI
import Derived.Test.YtonokeldlknadaaDkRb
import Derived.Test.YtonokeldlknadaaRowU
namespace Go.Proofs.Ytonokeldlknadaa
open Go.RowKit Go.BigFrame
set_option linter.unusedVariables false

namespace Dk
/-- So many calls were counted, of a disk that fails behind k. -/
def Inv (k i : Nat) (s : St) : Prop := s.n = 3 ∧ s.fails = true ∧ s.loose.length ≤ i ∧ (i ≤ k → s.dead = false ∧ s.after = (k : Int) - (i : Int)) ∧ (k < i → s.dead = true)
theorem inv_go {k i : Nat} {s : St} (h : Inv k i s) (hik : i < k) : s.dead = false ∧ goes s = true ∧ cnt s = { s with after := s.after - 1 } := by
  obtain ⟨_, hf, _, h1, _⟩ := h
  obtain ⟨hd, ha⟩ := h1 (by omega)
  have h0 : s.after ≠ 0 := by omega
  exact ⟨hd, by unfold goes; rw [hf]; simp [h0], by unfold cnt; rw [if_pos hf, if_neg h0]⟩
theorem inv_end {k : Nat} {s : St} (h : Inv k k s) : s.dead = false ∧ goes s = false ∧ cnt s = { s with dead := true } := by
  obtain ⟨_, hf, _, h1, _⟩ := h
  obtain ⟨hd, ha⟩ := h1 (Nat.le_refl _)
  have h0 : s.after = 0 := by omega
  exact ⟨hd, by unfold goes; rw [hf, h0]; rfl, by unfold cnt; rw [if_pos hf, if_pos h0]⟩
theorem inv_sync_go {k i : Nat} {s : St} (h : Inv k i s) (hik : i < k) : syE s = 0 ∧ Inv k (i + 1) (sy s) ∧ (sy s).dead = false ∧ ((sy s).loose.length : Int) = 0 := by
  obtain ⟨hd, hg, hc⟩ := inv_go h hik
  have hd' : ¬ s.dead = true := by rw [hd]; decide
  have e : sy s = { cnt s with good := over s.good s.loose, loose := [] } := by unfold sy; rw [if_neg hd', if_pos hg]
  rw [e, hc]
  refine ⟨by unfold syE cntE; rw [if_neg hd', if_pos hg], ⟨h.1, h.2.1, Nat.zero_le _, fun hi => ⟨hd, ?_⟩, fun hi => by omega⟩, hd, rfl⟩
  have := (h.2.2.2.1 (by omega)).2
  show s.after - 1 = (k : Int) - ((i + 1 : Nat) : Int)
  omega
theorem inv_sync_end {k i : Nat} {s : St} (h : Inv k i s) (hik : ¬ i < k) : syE s = 30 ∧ Inv k (i + 1) (sy s) ∧ (sy s).dead = true ∧ ((sy s).loose.length : Int) = (s.loose.length : Int) := by
  by_cases hi : i = k
  · subst hi
    obtain ⟨hd, hg, hc⟩ := inv_end h
    have hd' : ¬ s.dead = true := by rw [hd]; decide
    have hg' : ¬ goes s = true := by rw [hg]; decide
    have e : sy s = cnt s := by unfold sy; rw [if_neg hd', if_neg hg']
    rw [e, hc]
    exact ⟨by unfold syE cntE; rw [if_neg hd', if_neg hg'], ⟨h.1, h.2.1, Nat.le_succ_of_le h.2.2.1, fun hi => by omega, fun _ => rfl⟩, rfl, rfl⟩
  · have hd := h.2.2.2.2 (by omega)
    have e : sy s = s := by unfold sy; rw [if_pos hd]
    rw [e]
    exact ⟨by unfold syE; rw [if_pos hd], ⟨h.1, h.2.1, Nat.le_succ_of_le h.2.2.1, fun hi => by omega, fun _ => hd⟩, hd, rfl⟩
theorem inv_write_go {k i : Nat} {s : St} (h : Inv k i s) (hik : i < k) (q : Nat) (hq : q < 3) (b : Blk) : wrE s (q : Int) 256 = 0 ∧ Inv k (i + 1) (wr s (q : Int) 256 b) ∧ (wr s (q : Int) 256 b).dead = false ∧ ((wr s (q : Int) 256 b).loose.length : Int) = (s.loose.length : Int) + 1 := by
  obtain ⟨hd, hg, hc⟩ := inv_go h hik
  have hat : atE s (q : Int) = 0 := atE_in hd (by rw [h.1]; exact hq)
  have e : wr s (q : Int) 256 b = { cnt s with loose := s.loose ++ [(((q : Nat) : Int).toNat, b)] } := by unfold wr; rw [if_neg (fun hh => hh.elim (fun h => h hat) (fun h => h rfl)), if_pos hg]
  rw [e, hc]
  refine ⟨by unfold wrE cntE; rw [if_neg (fun h => h hat), if_neg (fun h => h rfl), if_pos hg], ⟨h.1, h.2.1, ?_, fun hi => ⟨hd, ?_⟩, fun hi => by omega⟩, hd, ?_⟩
  · show (s.loose ++ [_]).length ≤ i + 1
    rw [List.length_append]
    have := h.2.2.1
    simp; omega
  · have := (h.2.2.2.1 (by omega)).2
    show s.after - 1 = (k : Int) - ((i + 1 : Nat) : Int)
    omega
  · show (((s.loose ++ [_]).length : Nat) : Int) = _
    rw [List.length_append]
    rfl
theorem inv_write_end {k i : Nat} {s : St} (h : Inv k i s) (hik : ¬ i < k) (q : Nat) (hq : q < 3) (b : Blk) : wrE s (q : Int) 256 = 30 ∧ Inv k (i + 1) (wr s (q : Int) 256 b) ∧ (wr s (q : Int) 256 b).dead = true ∧ ((wr s (q : Int) 256 b).loose.length : Int) = (s.loose.length : Int) := by
  by_cases hi : i = k
  · subst hi
    obtain ⟨hd, hg, hc⟩ := inv_end h
    have hg' : ¬ goes s = true := by rw [hg]; decide
    have hat : atE s (q : Int) = 0 := atE_in hd (by rw [h.1]; exact hq)
    have e : wr s (q : Int) 256 b = cnt s := by unfold wr; rw [if_neg (fun hh => hh.elim (fun h => h hat) (fun h => h rfl)), if_neg hg']
    rw [e, hc]
    exact ⟨by unfold wrE cntE; rw [if_neg (fun h => h hat), if_neg (fun h => h rfl), if_neg hg'], ⟨h.1, h.2.1, Nat.le_succ_of_le h.2.2.1, fun hi => by omega, fun _ => rfl⟩, rfl, rfl⟩
  · have hd := h.2.2.2.2 (by omega)
    have hat : atE s (q : Int) = 30 := by unfold atE; rw [if_pos hd]
    have e : wr s (q : Int) 256 b = s := by unfold wr; rw [if_pos (Or.inl (by rw [hat]; decide))]
    rw [e]
    exact ⟨by unfold wrE; rw [if_pos (by rw [hat]; decide)]; exact hat, ⟨h.1, h.2.1, Nat.le_succ_of_le h.2.2.1, fun hi => by omega, fun _ => hd⟩, hd, rfl⟩
end Dk
set_option maxRecDepth 100000 in
set_option maxHeartbeats 1000000 in
theorem dfails_many (after : Int) (A : Option Addr) (len c : Nat) (W : World) (hlen : 40 < len) (hmax : len ≤ 9223372036854775807) :
    Calls Try.prog 5 #[.int .u8 after, .slice A len c] W fun e W' => e = .returned (.bool true) ∧ Below W.heap.size W W' := by
  have haw := awake11_any W
  have HAW := Lib.hid haw
  have hl : decide ((len : Int) > 40) = true := decide_eq_true (by omega)
  have hl2 : (len : Int) > 40 := by omega
  clear haw
  go_enter Try.func5, Try.ntmps5
  go_wp2_with fail
  refine HAW.out.mono ?_
  rintro e w3 ⟨rfl, k3⟩
  go_wp2
  go_ret
  exact ⟨rfl, keeps_belowD k3⟩
set_option maxRecDepth 100000 in
set_option maxHeartbeats 4000000 in
theorem dfails_few (after : Int) (k : Nat) (hk30 : k < 30) (hke : wrap64 (after.tmod 30) = (k : Int)) (A : Option Addr) (c : Nat) (xs : List UInt8) (len : Nat) (hxl : xs.length = len) (W : World) (hS : Src W A (bvs xs)) (hlen : len ≤ 40) :
    Calls Try.prog 5 #[.int .u8 after, .slice A len c] W fun e W' => e = .returned (.bool true) ∧ Below W.heap.size W W' := by
  have haw := awake11_any W
  have HAW := Lib.hid haw
  have HKE := Lib.hid hke
  have HS := Lib.hid hS
  have HXL := Lib.hid hxl
  clear haw hke hS hxl
  go_enter Try.func5, Try.ntmps5
  go_wp2_with fail
  refine HAW.out.mono ?_
  rintro e w0 ⟨rfl, k0⟩
  clear HAW
  have hnew := new_disk 3 w0 (by omega) (by omega)
  rw [show ((3 : Nat) : Int) = 3 from rfl] at hnew
  have HNEW := Lib.hid hnew
  have K0 := Lib.hid k0
  clear hnew k0
  go_wp2_with fail
  refine HNEW.out.mono ?_
  rintro e w1 ⟨g, rfl, hg, d1, k1⟩
  obtain ⟨F, hFe⟩ : ∃ F : Nat → Prop, (fun k => w0.heap.size ≤ k) = F := ⟨_, rfl⟩
  have hfa := fail_any w1 _ g _ (k : Int) d1 (by omega)
  rw [hFe] at hfa
  have HFA := Lib.hid hfa
  have K1 := Lib.hid (K0.out.trans k1)
  have K01 := Lib.hid k1
  have HFE := Lib.hid hFe
  have hgF : F g := by rw [← hFe]; exact hg
  have HGF := Lib.hid hgF
  clear hfa d1 k1 HNEW hg hFe hgF
  go_wp2_with fail
  rw [HKE.out]
  refine HFA.out.mono ?_
  rintro e w2 ⟨rfl, d2, k2⟩
  have HF : Hid (∀ k, w2.heap.size ≤ k → F k) := Lib.hid (fun j hj => by rw [← HFE.out]; exact Nat.le_trans (Nat.le_trans K01.out.size k2.size) hj)
  have HB : Hid (∀ V, Keeps F w2 V → Keeps (fun _ => False) W V) := Lib.hid (fun V hV => ((K1.out.trans' k2 (fun i hi e => by subst e; have := K0.out.size; have h2 := HGF.out; rw [← HFE.out] at h2; omega)).trans' hV (fun i hi hf => by rw [← HFE.out] at hf; have := K0.out.size; omega)))
  have D2 : Hid (DskAt w2 F g { Dk.fresh 3 with fails := true, after := (k : Int) }) := Lib.hid (by rw [show decide (0 ≤ (k : Int)) = true from decide_eq_true (by omega)] at d2; exact d2)
  clear d2 k2 HFA HKE K01
  go_wp2_with fail
  go_loopw [9, 10] (fun lv iv wr => ∃ (i : Nat) (s : Dk.St), i ≤ len ∧ iv = .int .i64 (i : Int) ∧ lv = .int .i64 (s.loose.length : Int) ∧ Hid (DskAt wr F g s) ∧ Hid (Dk.Inv k i s) ∧ Hid (Keeps F w2 wr)) (fun _ iv _ => len - (intOf iv).toNat)
  case atStart => exact ⟨0, _, by omega, rfl, rfl, D2, Lib.hid ⟨rfl, rfl, Nat.le_refl _, fun _ => ⟨rfl, by show (k : Int) = (k : Int) - ((0 : Nat) : Int); omega⟩, fun h => by omega⟩, Lib.hid (Keeps.refl _ _)⟩
  case round =>
    clear D2
    obtain ⟨i, s, hi, rfl, rfl, HDS, HINV, HKP⟩ := hrel
    by_cases hlt : i < len
    · have hii : (i : Int) < (len : Int) := by omega
      obtain ⟨cb, hcb⟩ : ∃ c, xs[i]? = some c := ⟨_, List.getElem?_eq_getElem (by rw [HXL.out]; exact hlt)⟩
      obtain ⟨aa, haa, _⟩ := HS.out i (bv cb) (by rw [bvs_get, hcb]; rfl)
      subst haa
      have HCB : Hid (∀ V, Keeps F wr V → V.cell? (aa.add i) = some (.int .u8 (cb.toNat : Int))) := Lib.hid (fun V hV => (HS.out.keeps (HB.out V (HKP.out.trans hV)) (fun _ _ _ => id)).at_ (by rw [bvs_get, hcb]; rfl))
      have hcu := cb.toNat_lt
      obtain ⟨q, hq1, hq2, hq, hq3⟩ := rest_of (cb.toNat : Int) 3 (by decide) (by decide) (by omega)
      have HQ1 : Hid ((cb.toNat : Int).tmod 3 = (q : Int)) := Lib.hid hq2
      have HQ2 : Hid (IntKind.i64.wrap (q : Int) = (q : Int)) := Lib.hid (by clear hq1 hq2 hq3 hcu; exact IntWalk.i64_in _ (by omega))
      have HFU : Hid (∀ V, Keeps F wr V → DskAt V F g s → Calls Try.prog 12 #[.slice none 0 0, .bool false] V fun e w' => ∃ x : Nat, e = .returned (.slice (some ⟨x, 0, none⟩) 256 256) ∧ Keeps F wr w' ∧ DskAt w' (fun k => F k ∧ k ≠ x) g s ∧ Row w' x 5 (bvs (Dk.fill []))) := Lib.hid (fun V hk hd => (full_any none 0 [] false 256 rfl V (Src.nil _ _) (by simp)).mono fun e w' h => ⟨V.heap.size, h.1, hk.trans' h.2.2 (fun _ _ h => h.elim), (hd.without (Nat.le_refl _)).later h.2.2, h.2.1⟩)
      have hsl : s.loose.length ≤ i := HINV.out.2.2.1
      have hlw : wrap64 ((s.loose.length : Int) + 1) = (s.loose.length : Int) + 1 := by clear hq1 hq2 hq3 hcu; exact IntWalk.wrap64_in _ (by omega)
      clear hq1 hq2 hq3 hcb hcu hsl
      by_cases hik : i < k
      · have hki : (i : Int) < (k : Int) := by omega
        have hkg : decide ((i : Int) ≥ (k : Int)) = false := decide_eq_false (by omega)
        cases hb : (bits .and .u8 (cb.toNat : Int) 3 == 0) with
        | true =>
          have hnx := Dk.inv_sync_go HINV.out hik
          have hsy := sync_any wr F g s HDS.out (fun k hk => HF.out k (Nat.le_trans HKP.out.size hk)) (Nat.le_trans HINV.out.2.2.1 (by omega))
          rw [hnx.1] at hsy
          have HNX : Hid (_ ∧ _ ∧ _) := Lib.hid hnx.2
          have HSY := Lib.hid hsy
          have hcb1 := HCB.out wr (Keeps.refl _ _)
          clear hnx hsy
          go_wp2_with fail
          refine HSY.out.mono ?_
          rintro e w4 ⟨rfl, d2, k2⟩
          have D2 := Lib.hid d2
          have K2 : Hid (Keeps F wr w4) := Lib.hid k2
          clear d2 k2 HSY hcb1 HDS HFU
          have hde := dead_any w4 F g (Dk.sy s) D2.out
          have hlo := loose_any w4 F g (Dk.sy s) D2.out
          rw [show ((Dk.sy s)).dead = false from HNX.out.2.1] at hde
          have HDE := Lib.hid hde
          have HLO := Lib.hid hlo
          have hcb2 := HCB.out w4 K2.out
          clear hde hlo
          go_wp2_with fail
          refine HDE.out.mono ?_
          rintro e w5 ⟨rfl, h5⟩
          obtain rfl : w4 = w5 := h5.symm
          go_wp2_with fail
          refine HLO.out.mono ?_
          rintro e w5 ⟨rfl, h5⟩
          obtain rfl : w4 = w5 := h5.symm
          have hll : (((Dk.sy s)).loose.length : Int) = 0 := HNX.out.2.2
          have D3 : Hid (DskAt w4 F g (Dk.sy s)) := D2
          have NX : Hid (Dk.Inv k (i + 1) (Dk.sy s)) := Lib.hid HNX.out.1
          have KX : Hid (Keeps F w2 w4) := Lib.hid (HKP.out.trans K2.out)
          rw [hll]
          clear hcb2 HDE HLO HNX D2 K2 HCB HKP HINV
          go_wp2_with fail
          go_roundw
          case rel => exact ⟨i + 1, (Dk.sy s), by omega, by go_num, by rw [hll], D3, NX, KX⟩
          case measure => simp [intOf]; omega
        | false =>
          have hnx := Dk.inv_write_go HINV.out hik q hq (Dk.fill []) 
          have HWR : Hid (∀ V X, Keeps F wr V → DskAt V (fun k => F k ∧ k ≠ X) g s → Row V X 5 (bvs (Dk.fill [])) → Calls Try.prog 13 #[.pointer (some ⟨g, 0, none⟩), .int .i64 (q : Int), .slice (some ⟨X, 0, none⟩) 256 256] V fun e w' => e = .returned (.int .i64 0) ∧ Keeps F wr w' ∧ DskAt w' F g (Dk.wr s (q : Int) 256 (Dk.fill []))) := Lib.hid (fun V X hk hd hr => by
            have h := write_there V F g s X 256 hd (fun k hk2 => HF.out k (Nat.le_trans (HKP.out.trans hk).size hk2)) 5 (Dk.fill []) hr (q : Int) 256 (Dk.fill_length _) (Nat.le_trans HINV.out.2.2.1 (by omega))
            rw [hnx.1] at h
            exact h.mono fun e w' h => ⟨h.1, hk.trans h.2.2, h.2.1⟩)
          have HNX : Hid (_ ∧ _ ∧ _) := Lib.hid hnx.2
          have hcb1 := HCB.out wr (Keeps.refl _ _)
          clear hnx
          go_wp2_with fail
          refine wp_region_stores 10 [7, 8] [0, 1, 2, 3, 4, 5, 6, 7, 8, 9] (fun V => Keeps F wr V) (fun V => DskAt V F g s) (by kernel_rfl) (by kernel_rfl) (fun _ _ h k => h.trans' k (fun _ _ h => h.elim)) (fun _ _ h k => h.later k) (((Keeps.refl _ _).drew)) (HDS.out.later ((Keeps.refl _ _).drew)) ?_
          refine T_value (get_op rfl) (by rfl) (by rfl) (.pointer (some ⟨g, 0, none⟩)) (fun _ _ => by go_simp) ?_
          simp only [Act.put, List.setIfInBounds_toArray, List.set_cons_zero, List.set_cons_succ]
          refine T_value (get_op rfl) (by rfl) (by rfl) (.slice (some aa) len c) (fun _ _ => by go_simp) ?_
          simp only [Act.put, List.setIfInBounds_toArray, List.set_cons_zero, List.set_cons_succ]
          refine T_value (get_op rfl) (by rfl) (by rfl) (.int .i64 (i : Int)) (fun _ _ => by go_simp) ?_
          simp only [Act.put, List.setIfInBounds_toArray, List.set_cons_zero, List.set_cons_succ]
          refine T_value (get_op rfl) (by rfl) (by rfl) (.pointer (some (aa.add i))) (fun _ _ => by go_simp) ?_
          simp only [Act.put, List.setIfInBounds_toArray, List.set_cons_zero, List.set_cons_succ]
          refine T_cell (get_op rfl) (by rfl) (by rfl) 5 (.tmp 47) (by rfl) (aa.add i) (by rfl) (.int .u8 (cb.toNat : Int)) _ (fun V hV => HCB.out V hV) Try.underlying5 rfl ?_
          simp only [Act.put, List.setIfInBounds_toArray, List.set_cons_zero, List.set_cons_succ]
          refine T_value (get_op rfl) (by rfl) (by rfl) (.int .u8 (q : Int)) (fun _ _ => by have h1 := HQ1.out; go_simp) ?_
          simp only [Act.put, List.setIfInBounds_toArray, List.set_cons_zero, List.set_cons_succ]
          refine T_value (get_op rfl) (by rfl) (by rfl) (.int .i64 (q : Int)) (fun _ _ => by have h1 := HQ2.out; go_simp) ?_
          simp only [Act.put, List.setIfInBounds_toArray, List.set_cons_zero, List.set_cons_succ]
          refine T_enterR (get_op rfl) (by rfl) (by rfl) _ _ (fun x : Nat => .slice (some ⟨x, 0, none⟩) 256 256) (fun x y h => by injection h with h; injection h with h; injection h) (fun _ => by go_simp) (fun x V => DskAt V (fun k => F k ∧ k ≠ x) g s ∧ Row V x 5 (bvs (Dk.fill []))) (fun x w w' h hk => ⟨h.1.later hk, h.2.keeps hk id⟩) (fun V hb hf => HFU.out V hb hf) ?_
          intro X
          simp only [Act.put, List.setIfInBounds_toArray, List.set_cons_zero, List.set_cons_succ]
          refine T_enter (get_op rfl) (by rfl) (by rfl) _ _ (.int .i64 0) (fun _ => by go_simp) (fun V => DskAt V F g (Dk.wr s (q : Int) 256 (Dk.fill []))) (fun _ _ h k => h.later k) (fun V hb hf => HWR.out V X hb hf.1 hf.2) ?_
          simp only [Act.put, List.setIfInBounds_toArray, List.set_cons_zero, List.set_cons_succ]
          refine T_value (get_op rfl) (by rfl) (by rfl) (.int .i64 0) (fun _ _ => by go_simp) ?_
          simp only [Act.put, List.setIfInBounds_toArray, List.set_cons_zero, List.set_cons_succ]
          refine T_nil ?_
          intro V5 k2 d2
          simp only [List.drop_succ_cons, List.drop_nil]
          have D2 := Lib.hid d2
          have K2 : Hid (Keeps F wr V5) := Lib.hid k2
          clear d2 k2 HWR hcb1 HDS HFU
          have hde := dead_any V5 F g (Dk.wr s (q : Int) 256 (Dk.fill [])) D2.out
          have hlo := loose_any V5 F g (Dk.wr s (q : Int) 256 (Dk.fill [])) D2.out
          rw [show ((Dk.wr s (q : Int) 256 (Dk.fill []))).dead = false from HNX.out.2.1] at hde
          have HDE := Lib.hid hde
          have HLO := Lib.hid hlo
          have hcb2 := HCB.out V5 K2.out
          clear hde hlo
          go_wp2_with fail
          refine HDE.out.mono ?_
          rintro e w5 ⟨rfl, h5⟩
          obtain rfl : V5 = w5 := h5.symm
          go_wp2_with fail
          refine HLO.out.mono ?_
          rintro e w5 ⟨rfl, h5⟩
          obtain rfl : V5 = w5 := h5.symm
          have hll : (((Dk.wr s (q : Int) 256 (Dk.fill []))).loose.length : Int) = ((s.loose.length : Int) + 1) := HNX.out.2.2
          have D3 : Hid (DskAt V5 F g (Dk.wr s (q : Int) 256 (Dk.fill []))) := D2
          have NX : Hid (Dk.Inv k (i + 1) (Dk.wr s (q : Int) 256 (Dk.fill []))) := Lib.hid HNX.out.1
          have KX : Hid (Keeps F w2 V5) := Lib.hid (HKP.out.trans K2.out)
          rw [hll]
          clear hcb2 HDE HLO HNX D2 K2 HCB HKP HINV
          go_wp2_with fail
          go_roundw
          case rel => exact ⟨i + 1, (Dk.wr s (q : Int) 256 (Dk.fill [])), by omega, by go_num, by rw [hll], D3, NX, KX⟩
          case measure => simp [intOf]; omega
      · have hki : ¬ (i : Int) < (k : Int) := by omega
        have hkg : decide ((i : Int) ≥ (k : Int)) = true := decide_eq_true (by omega)
        cases hb : (bits .and .u8 (cb.toNat : Int) 3 == 0) with
        | true =>
          have hnx := Dk.inv_sync_end HINV.out hik
          have hsy := sync_any wr F g s HDS.out (fun k hk => HF.out k (Nat.le_trans HKP.out.size hk)) (Nat.le_trans HINV.out.2.2.1 (by omega))
          rw [hnx.1] at hsy
          have HNX : Hid (_ ∧ _ ∧ _) := Lib.hid hnx.2
          have HSY := Lib.hid hsy
          have hcb1 := HCB.out wr (Keeps.refl _ _)
          clear hnx hsy
          go_wp2_with fail
          refine HSY.out.mono ?_
          rintro e w4 ⟨rfl, d2, k2⟩
          have D2 := Lib.hid d2
          have K2 : Hid (Keeps F wr w4) := Lib.hid k2
          clear d2 k2 HSY hcb1 HDS HFU
          have hde := dead_any w4 F g (Dk.sy s) D2.out
          have hlo := loose_any w4 F g (Dk.sy s) D2.out
          rw [show ((Dk.sy s)).dead = true from HNX.out.2.1] at hde
          have HDE := Lib.hid hde
          have HLO := Lib.hid hlo
          have hcb2 := HCB.out w4 K2.out
          clear hde hlo
          go_wp2_with fail
          refine HDE.out.mono ?_
          rintro e w5 ⟨rfl, h5⟩
          obtain rfl : w4 = w5 := h5.symm
          go_wp2_with fail
          refine HLO.out.mono ?_
          rintro e w5 ⟨rfl, h5⟩
          obtain rfl : w4 = w5 := h5.symm
          have hll : (((Dk.sy s)).loose.length : Int) = (s.loose.length : Int) := HNX.out.2.2
          have D3 : Hid (DskAt w4 F g (Dk.sy s)) := D2
          have NX : Hid (Dk.Inv k (i + 1) (Dk.sy s)) := Lib.hid HNX.out.1
          have KX : Hid (Keeps F w2 w4) := Lib.hid (HKP.out.trans K2.out)
          rw [hll]
          clear hcb2 HDE HLO HNX D2 K2 HCB HKP HINV
          go_wp2_with fail
          go_roundw
          case rel => exact ⟨i + 1, (Dk.sy s), by omega, by go_num, by rw [hll], D3, NX, KX⟩
          case measure => simp [intOf]; omega
        | false =>
          have hnx := Dk.inv_write_end HINV.out hik q hq (Dk.fill []) 
          have HWR : Hid (∀ V X, Keeps F wr V → DskAt V (fun k => F k ∧ k ≠ X) g s → Row V X 5 (bvs (Dk.fill [])) → Calls Try.prog 13 #[.pointer (some ⟨g, 0, none⟩), .int .i64 (q : Int), .slice (some ⟨X, 0, none⟩) 256 256] V fun e w' => e = .returned (.int .i64 30) ∧ Keeps F wr w' ∧ DskAt w' F g (Dk.wr s (q : Int) 256 (Dk.fill []))) := Lib.hid (fun V X hk hd hr => by
            have h := write_there V F g s X 256 hd (fun k hk2 => HF.out k (Nat.le_trans (HKP.out.trans hk).size hk2)) 5 (Dk.fill []) hr (q : Int) 256 (Dk.fill_length _) (Nat.le_trans HINV.out.2.2.1 (by omega))
            rw [hnx.1] at h
            exact h.mono fun e w' h => ⟨h.1, hk.trans h.2.2, h.2.1⟩)
          have HNX : Hid (_ ∧ _ ∧ _) := Lib.hid hnx.2
          have hcb1 := HCB.out wr (Keeps.refl _ _)
          clear hnx
          go_wp2_with fail
          refine wp_region_stores 10 [7, 8] [0, 1, 2, 3, 4, 5, 6, 7, 8, 9] (fun V => Keeps F wr V) (fun V => DskAt V F g s) (by kernel_rfl) (by kernel_rfl) (fun _ _ h k => h.trans' k (fun _ _ h => h.elim)) (fun _ _ h k => h.later k) (((Keeps.refl _ _).drew)) (HDS.out.later ((Keeps.refl _ _).drew)) ?_
          refine T_value (get_op rfl) (by rfl) (by rfl) (.pointer (some ⟨g, 0, none⟩)) (fun _ _ => by go_simp) ?_
          simp only [Act.put, List.setIfInBounds_toArray, List.set_cons_zero, List.set_cons_succ]
          refine T_value (get_op rfl) (by rfl) (by rfl) (.slice (some aa) len c) (fun _ _ => by go_simp) ?_
          simp only [Act.put, List.setIfInBounds_toArray, List.set_cons_zero, List.set_cons_succ]
          refine T_value (get_op rfl) (by rfl) (by rfl) (.int .i64 (i : Int)) (fun _ _ => by go_simp) ?_
          simp only [Act.put, List.setIfInBounds_toArray, List.set_cons_zero, List.set_cons_succ]
          refine T_value (get_op rfl) (by rfl) (by rfl) (.pointer (some (aa.add i))) (fun _ _ => by go_simp) ?_
          simp only [Act.put, List.setIfInBounds_toArray, List.set_cons_zero, List.set_cons_succ]
          refine T_cell (get_op rfl) (by rfl) (by rfl) 5 (.tmp 47) (by rfl) (aa.add i) (by rfl) (.int .u8 (cb.toNat : Int)) _ (fun V hV => HCB.out V hV) Try.underlying5 rfl ?_
          simp only [Act.put, List.setIfInBounds_toArray, List.set_cons_zero, List.set_cons_succ]
          refine T_value (get_op rfl) (by rfl) (by rfl) (.int .u8 (q : Int)) (fun _ _ => by have h1 := HQ1.out; go_simp) ?_
          simp only [Act.put, List.setIfInBounds_toArray, List.set_cons_zero, List.set_cons_succ]
          refine T_value (get_op rfl) (by rfl) (by rfl) (.int .i64 (q : Int)) (fun _ _ => by have h1 := HQ2.out; go_simp) ?_
          simp only [Act.put, List.setIfInBounds_toArray, List.set_cons_zero, List.set_cons_succ]
          refine T_enterR (get_op rfl) (by rfl) (by rfl) _ _ (fun x : Nat => .slice (some ⟨x, 0, none⟩) 256 256) (fun x y h => by injection h with h; injection h with h; injection h) (fun _ => by go_simp) (fun x V => DskAt V (fun k => F k ∧ k ≠ x) g s ∧ Row V x 5 (bvs (Dk.fill []))) (fun x w w' h hk => ⟨h.1.later hk, h.2.keeps hk id⟩) (fun V hb hf => HFU.out V hb hf) ?_
          intro X
          simp only [Act.put, List.setIfInBounds_toArray, List.set_cons_zero, List.set_cons_succ]
          refine T_enter (get_op rfl) (by rfl) (by rfl) _ _ (.int .i64 30) (fun _ => by go_simp) (fun V => DskAt V F g (Dk.wr s (q : Int) 256 (Dk.fill []))) (fun _ _ h k => h.later k) (fun V hb hf => HWR.out V X hb hf.1 hf.2) ?_
          simp only [Act.put, List.setIfInBounds_toArray, List.set_cons_zero, List.set_cons_succ]
          refine T_value (get_op rfl) (by rfl) (by rfl) (.int .i64 30) (fun _ _ => by go_simp) ?_
          simp only [Act.put, List.setIfInBounds_toArray, List.set_cons_zero, List.set_cons_succ]
          refine T_nil ?_
          intro V5 k2 d2
          simp only [List.drop_succ_cons, List.drop_nil]
          have D2 := Lib.hid d2
          have K2 : Hid (Keeps F wr V5) := Lib.hid k2
          clear d2 k2 HWR hcb1 HDS HFU
          have hde := dead_any V5 F g (Dk.wr s (q : Int) 256 (Dk.fill [])) D2.out
          have hlo := loose_any V5 F g (Dk.wr s (q : Int) 256 (Dk.fill [])) D2.out
          rw [show ((Dk.wr s (q : Int) 256 (Dk.fill []))).dead = true from HNX.out.2.1] at hde
          have HDE := Lib.hid hde
          have HLO := Lib.hid hlo
          have hcb2 := HCB.out V5 K2.out
          clear hde hlo
          go_wp2_with fail
          refine HDE.out.mono ?_
          rintro e w5 ⟨rfl, h5⟩
          obtain rfl : V5 = w5 := h5.symm
          go_wp2_with fail
          refine HLO.out.mono ?_
          rintro e w5 ⟨rfl, h5⟩
          obtain rfl : V5 = w5 := h5.symm
          have hll : (((Dk.wr s (q : Int) 256 (Dk.fill []))).loose.length : Int) = (s.loose.length : Int) := HNX.out.2.2
          have D3 : Hid (DskAt V5 F g (Dk.wr s (q : Int) 256 (Dk.fill []))) := D2
          have NX : Hid (Dk.Inv k (i + 1) (Dk.wr s (q : Int) 256 (Dk.fill []))) := Lib.hid HNX.out.1
          have KX : Hid (Keeps F w2 V5) := Lib.hid (HKP.out.trans K2.out)
          rw [hll]
          clear hcb2 HDE HLO HNX D2 K2 HCB HKP HINV
          go_wp2_with fail
          go_roundw
          case rel => exact ⟨i + 1, (Dk.wr s (q : Int) 256 (Dk.fill [])), by omega, by go_num, by rw [hll], D3, NX, KX⟩
          case measure => simp [intOf]; omega
    · have hii : ¬ (i : Int) < (len : Int) := by omega
      have hcr := crash_any wr F g s HDS.out (fun j hj => HF.out j (Nat.le_trans HKP.out.size hj)) (Nat.le_trans HINV.out.2.2.1 (by omega)) none 0 [] (Src.nil _ _) (fun a ha => by cases ha) (by simp)
      have HCR : Hid (Calls Try.prog 19 #[.pointer (some ⟨g, 0, none⟩), .slice none 0 0] wr fun e w' => e = .returned (.tuple #[]) ∧ DskAt w' F g (Dk.cr s []) ∧ Keeps F wr w') := Lib.hid hcr
      clear hcr HDS HINV
      go_wp2_with fail
      refine HCR.out.mono ?_
      rintro e w4 ⟨rfl, d4, k4⟩
      have hde := dead_any w4 F g _ d4
      have HDE : Hid (Calls Try.prog 25 #[.pointer (some ⟨g, 0, none⟩)] w4 fun e w' => e = .returned (.bool false) ∧ w' = w4) := Lib.hid hde
      have hsy := sync_any w4 F g _ d4 (fun j hj => HF.out j (Nat.le_trans (HKP.out.trans k4).size hj)) (by show 0 ≤ 1000; omega)
      have HSY : Hid (Calls Try.prog 15 #[.pointer (some ⟨g, 0, none⟩)] w4 fun e w' => e = .returned (.int .i64 0) ∧ DskAt w' F g _ ∧ Keeps F w4 w') := Lib.hid hsy
      have K4 := Lib.hid (HKP.out.trans k4)
      clear hde hsy d4 k4 HCR HKP
      go_wp2_with fail
      refine HDE.out.mono ?_
      rintro e w5 ⟨rfl, h5⟩
      obtain rfl : w4 = w5 := h5.symm
      go_wp2_with fail
      refine HSY.out.mono ?_
      rintro e w5 ⟨rfl, _, k5⟩
      have FIN := Lib.hid (keeps_belowD (HB.out w5 (K4.out.trans k5)))
      go_wp2
      go_ret
      exact ⟨rfl, FIN.out⟩
theorem dfails_all (after : Int) (A : Option Addr) (len c : Nat) (zs : List Int) (W : World) (ha : (Lit.int .u8 after).wf = true) (hA : IsRowU .u8 W A len c zs) :
    Calls Try.prog 5 #[.int .u8 after, .slice A len c] W fun e W' => e = .returned (.bool true) ∧ Below W.heap.size W W' := by
  obtain ⟨xs, hl, hs, h1, h2⟩ := hA.src
  have bn := bounds_u8 ha
  by_cases h : len ≤ 40
  · obtain ⟨k, _, hk2, hk3, hk4⟩ := rest_of after 30 (by decide) (by decide) bn.1
    exact dfails_few after k hk3 (by rw [show after.tmod 30 = (k : Int) from hk2]; exact hk4) A c xs len hl W hs h
  · exact dfails_many after A len c W (by omega) (by omega)
end Go.Proofs.Ytonokeldlknadaa
