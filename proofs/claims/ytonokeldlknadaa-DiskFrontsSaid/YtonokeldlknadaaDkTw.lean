/-
  The law DiskTwice walked: to begin anew twice is as once. WRITTEN BY wip/gen/mkdktw.py.
-/
import Derived.Test.YtonokeldlknadaaDkI
import Derived.Test.YtonokeldlknadaaDkRb
import Derived.Test.YtonokeldlknadaaDkRe
import Derived.Test.YtonokeldlknadaaRowU
import Derived.Deep.Strs
namespace Go.Proofs.Ytonokeldlknadaa
open Go.RowKit Go.BigFrame
set_option linter.unusedVariables false

namespace Dk
def cat (s : St) (j : Nat) : List UInt8 := (List.range j).flatMap (fun i => rd s i)
theorem cat_succ (s : St) (j : Nat) : cat s (j + 1) = cat s j ++ rd s j := by
  unfold cat
  rw [List.range_succ, List.flatMap_append]
  simp
theorem cat_length (s : St) (h : ∀ i, (rd s i).length = 256) : ∀ j, (cat s j).length = 256 * j
  | 0 => rfl
  | j + 1 => by rw [cat_succ, List.length_append, cat_length s h j, h]; omega
theorem ok_rd {s : St} (h : Ok s) : ∀ i, (rd s i).length = 256 := fun i => over_length _ _ h.good (fun p hp => (h.loose p hp).2) i
theorem cr_rd (s : St) (f more : List UInt8) : rd (cr (cr s f) more) = rd (cr s f) := rfl
end Dk
/-- A slice is made. -/
theorem T_buildN {P : Program} {ops : Array Oper} {B : World → Prop} {ls : List Nat} {E : Act → World → Prop} {k : Nat} {o : Oper} {rest : List Nat} {a : Act} {F : World → Prop} (h0 : ops[k]? = some o) (hw : Region.wanted o (yielded ops a.tmps) = true) (hk : ls.contains k = true) (t e : TypeId) (n : Nat) (parts : List (Nat × Operand)) (ho : o.op = .buildSlice t n parts.toArray) (vs : List (Nat × Value)) (hx : parts.map (fun (i, x) => (i, a.eval x)) = vs) (cs : Array Value)
    (hrun : ∀ w, (Instr.buildSlice t n vs.toArray).run P w = .ok (.slice (some ⟨w.heap.size, 0, none⟩) n n) (w.alloc (.cells cs e))) (hB : Lasts B) (hF : Lasts F) (n0 : Nat) (hn : ∀ w, B w → n0 ≤ w.heap.size)
    (h : ∀ g, n0 ≤ g → wpT P ops B ls E rest (a.put o.dst (.slice (some ⟨g, 0, none⟩) n n)) (fun w => F w ∧ w.heap[g]? = some (.cells cs e (0, 0)))) : wpT P ops B ls E (k :: rest) a F := by
  refine T_loose h0 hw hk (fun v => ∃ g, n0 ≤ g ∧ v = .slice (some ⟨g, 0, none⟩) n n) (fun v w => F w ∧ ∀ g, v = .slice (some ⟨g, 0, none⟩) n n → w.heap[g]? = some (.cells cs e (0, 0))) ⟨fun v => ?_, fun w hb hf => ?_⟩ ?_
  · exact hF.and (fun w w' hq hk g hv => (hk.block g (Array.getElem?_eq_some_iff.1 (hq g hv)).1 id).trans (hq g hv))
  · unfold execOp
    simp only [ho, List.map_toArray, hx, Sem.run_bind, Sem.run_pure, Result.andThen_ok, hrun]
    refine ⟨hB _ _ hb ((Keeps.refl _ _).alloc _), ⟨_, hn w hb, rfl⟩, hF _ _ hf ((Keeps.refl _ _).alloc _), fun g hv => ?_⟩
    injection hv with hv
    injection hv with hv
    injection hv with hv
    subst hv
    exact heap_alloc_new w _
  · rintro v ⟨g, hg, rfl⟩
    exact T_alloc.wpT_weak (fun w hh => ⟨hh.1, hh.2 g rfl⟩) (h g hg)
theorem src_lt {w : World} {a : Addr} {xs : List Value} (h : Src w (some a) xs) (h0 : 0 < xs.length) : a.block < w.heap.size := by
  have hc := h.at_ (j := 0) (u := xs[0]) (by simp)
  have := World.block_lt_of_cell? w _ hc
  have e : (a.add 0).block = a.block := by unfold Addr.add; split <;> rfl
  rw [e] at this
  exact this
theorem build_two (a b : Nat) (V : World) : (Instr.buildSlice 34 2 #[(0, .int .u8 (a : Int)), (1, .int .u8 (b : Int))]).run Try.prog V = .ok (.slice (some ⟨V.heap.size, 0, none⟩) 2 2) (V.alloc (.cells #[.int .u8 (a : Int), .int .u8 (b : Int)] 5)) := by
  kernel_rfl
set_option maxRecDepth 100000 in
set_option maxHeartbeats 1000000 in
theorem dtwice_skip (A : Option Addr) (len c : Nat) (A2 : Option Addr) (len2 c2 : Nat) (A3 : Option Addr) (len3 c3 : Nat) (W : World) (hlen : 20 < len ∨ 30 < len2) (hmax : len ≤ 9223372036854775807) (hmax2 : len2 ≤ 9223372036854775807) :
    Calls Try.prog 8 #[.slice A len c, .slice A2 len2 c2, .slice A3 len3 c3] W fun e W' => e = .returned (.bool true) ∧ Below W.heap.size W W' := by
  have haw := awake11_any W
  have HAW := Lib.hid haw
  clear haw
  by_cases h20 : 20 < len
  · have hl2 : (len : Int) > 20 := by omega
    go_enter Try.func8, Try.ntmps8
    go_wp2_with fail
    refine HAW.out.mono ?_
    rintro e w3 ⟨rfl, k3⟩
    go_wp2
    go_ret
    exact ⟨rfl, keeps_belowD k3⟩
  · have hl2 : ¬ (len : Int) > 20 := by omega
    have hl3 : (len2 : Int) > 30 := by omega
    go_enter Try.func8, Try.ntmps8
    go_wp2_with fail
    refine HAW.out.mono ?_
    rintro e w3 ⟨rfl, k3⟩
    go_wp2
    go_ret
    exact ⟨rfl, keeps_belowD k3⟩
set_option maxRecDepth 100000 in
set_option maxHeartbeats 4000000 in
theorem dtwice_few (A : Option Addr) (c : Nat) (xs : List UInt8) (len : Nat) (hxl : xs.length = len) (A2 : Option Addr) (c2 : Nat) (ys : List UInt8) (len2 : Nat) (hyl : ys.length = len2) (A3 : Option Addr) (c3 : Nat) (zs : List UInt8) (len3 : Nat) (hzl : zs.length = len3) (W : World) (hS : Src W A (bvs xs)) (hS2 : Src W A2 (bvs ys)) (hS3 : Src W A3 (bvs zs)) (hlen : len ≤ 20) (hlen2 : len2 ≤ 30) (hmax : len3 ≤ 9223372036854775807)
    (hb2 : ∀ a, A2 = some a → 0 < ys.length → a.block < W.heap.size) (hb3 : ∀ a, A3 = some a → 0 < zs.length → a.block < W.heap.size) :
    Calls Try.prog 8 #[.slice A len c, .slice A2 len2 c2, .slice A3 len3 c3] W fun e W' => e = .returned (.bool true) ∧ Below W.heap.size W W' := by
  have haw := awake11_any W
  have HAW := Lib.hid haw
  have HS := Lib.hid hS
  have HS2 := Lib.hid hS2
  have HS3 := Lib.hid hS3
  have HXL := Lib.hid hxl
  have HYL := Lib.hid hyl
  have HZL := Lib.hid hzl
  have HLM := Lib.hid (And.intro hmax (And.intro hb2 hb3))
  have hl20 : ¬ (len : Int) > 20 := by omega
  have hl30 : ¬ (len2 : Int) > 30 := by omega
  clear haw hS hS2 hS3 hxl hyl hzl hmax hb2 hb3
  go_enter Try.func8, Try.ntmps8
  go_wp2_with fail
  refine HAW.out.mono ?_
  rintro e w0 ⟨rfl, k0⟩
  clear HAW
  have hnew := new_disk 3 w0 (by omega) (by omega)
  rw [show ((3 : Nat) : Int) = 3 from rfl] at hnew
  have HNEW := Lib.hid hnew
  have K0 := Lib.hid k0
  clear hnew k0
  go_wp2_with fail
  refine HNEW.out.mono ?_
  rintro e w1 ⟨g, rfl, hg, d1, k1⟩
  obtain ⟨F, hFe⟩ : ∃ F : Nat → Prop, (fun k => w0.heap.size ≤ k) = F := ⟨_, rfl⟩
  rw [hFe] at d1
  have HF : Hid (∀ k, w1.heap.size ≤ k → F k) := Lib.hid (fun j hj => by rw [← hFe]; exact Nat.le_trans k1.size hj)
  have HFW : Hid (∀ k, F k → W.heap.size ≤ k) := Lib.hid (fun j hj => by rw [← hFe] at hj; exact Nat.le_trans K0.out.size hj)
  have HB : Hid (∀ V, Keeps F w1 V → Keeps (fun _ => False) W V) := Lib.hid (fun V hV => (K0.out.trans k1).trans' hV (fun i hi hf => by rw [← hFe] at hf; have := K0.out.size; have h3 : w0.heap.size ≤ i := hf; omega))
  have D1 := Lib.hid d1
  clear d1 k1 HNEW hFe K0 hg
  go_wp2_with fail
  go_loopw [10] (fun iv wr => ∃ (i : Nat) (s : Dk.St), i ≤ len ∧ iv = .int .i64 (i : Int) ∧ Hid (DskAt wr F g s) ∧ Hid (Dk.Plain s 3 i) ∧ Hid (Keeps F w1 wr)) (fun iv _ => len - (intOf iv).toNat)
  case atStart => exact ⟨0, _, by omega, rfl, D1, Lib.hid ⟨rfl, rfl, rfl, Nat.le_refl _⟩, Lib.hid (Keeps.refl _ _)⟩
  case round =>
    clear D1
    obtain ⟨i, s, hi, rfl, HDS, HPL, HKP⟩ := hrel
    by_cases hlt : i < len
    · have hii : (i : Int) < (len : Int) := by omega
      obtain ⟨cb, hcb⟩ : ∃ c, xs[i]? = some c := ⟨_, List.getElem?_eq_getElem (by rw [HXL.out]; exact hlt)⟩
      obtain ⟨aa, haa, _⟩ := HS.out i (bv cb) (by rw [bvs_get, hcb]; rfl)
      subst haa
      have HCB : Hid (∀ V, Keeps F wr V → V.cell? (aa.add i) = some (.int .u8 (cb.toNat : Int))) := Lib.hid (fun V hV => (HS.out.keeps (HB.out V (HKP.out.trans hV)) (fun _ _ _ => id)).at_ (by rw [bvs_get, hcb]; rfl))
      have hcu := cb.toNat_lt
      obtain ⟨q, hq1, hq2, hq, hq3⟩ := rest_of (cb.toNat : Int) 3 (by decide) (by decide) (by omega)
      have HQ1 : Hid ((cb.toNat : Int).tmod 3 = (q : Int)) := Lib.hid hq2
      have HQ2 : Hid (IntKind.i64.wrap (q : Int) = (q : Int)) := Lib.hid (by clear hq1 hq2 hq3 hcu; exact IntWalk.i64_in _ (by omega))
      have HI8 : Hid (IntKind.u8.wrap (i : Int) = (i : Int)) := Lib.hid (by clear hq1 hq2 hq3 hcu; exact wraps_u8 _ (by omega) (by show (i : Int) < 256; omega))
      obtain ⟨ib, hib⟩ : ∃ c, UInt8.ofNat i = c := ⟨_, rfl⟩
      have hibn : (ib.toNat : Int) = (i : Int) := by rw [← hib, UInt8.toNat_ofNat_of_lt' (by show i < 256; omega)]
      obtain ⟨hw1, _, hw3, _⟩ := Dk.plain_write HPL.out q hq (Dk.fill [cb, ib])
      obtain ⟨s4, hs4⟩ : ∃ s4, Dk.wr s (q : Int) 256 (Dk.fill [cb, ib]) = s4 := ⟨_, rfl⟩
      rw [hs4] at hw3
      have HFU : Hid (∀ V G, Keeps F wr V → DskAt V F g s → V.heap[G]? = some (.cells #[.int .u8 (cb.toNat : Int), .int .u8 (i : Int)] 5 (0, 0)) → Calls Try.prog 12 #[.slice (some ⟨G, 0, none⟩) 2 2, .bool false] V fun e w' => ∃ x : Nat, e = .returned (.slice (some ⟨x, 0, none⟩) 256 256) ∧ Keeps F wr w' ∧ DskAt w' (fun k => F k ∧ k ≠ x) g s ∧ Row w' x 5 (bvs (Dk.fill [cb, ib]))) := Lib.hid (fun V G hk hd hG => by
        have hr : Row V G 5 (bvs [cb, ib]) := by
          show V.heap[G]? = some (.cells #[.int .u8 (cb.toNat : Int), .int .u8 (ib.toNat : Int)] 5 (0, 0))
          rw [hibn]
          exact hG
        have h := full_any (some ⟨G, 0, none⟩) 2 [cb, ib] false 256 rfl V hr.src (by simp)
        exact h.mono fun e w' h => ⟨V.heap.size, h.1, hk.trans' h.2.2 (fun _ _ h => h.elim), (hd.without (Nat.le_refl _)).later h.2.2, h.2.1⟩)
      have HWR : Hid (∀ V X, Keeps F wr V → DskAt V (fun k => F k ∧ k ≠ X) g s → Row V X 5 (bvs (Dk.fill [cb, ib])) → Calls Try.prog 13 #[.pointer (some ⟨g, 0, none⟩), .int .i64 (q : Int), .slice (some ⟨X, 0, none⟩) 256 256] V fun e w' => e = .returned (.int .i64 0) ∧ Keeps F wr w' ∧ DskAt w' F g s4) := Lib.hid (fun V X hk hd hr => by
        have h := write_there V F g s X 256 hd (fun k hk2 => HF.out k (Nat.le_trans (HKP.out.trans hk).size hk2)) 5 (Dk.fill [cb, ib]) hr (q : Int) 256 (Dk.fill_length _) (Nat.le_trans HPL.out.2.2.2 (by omega))
        rw [hw1, hs4] at h
        exact h.mono fun e w' h => ⟨h.1, hk.trans h.2.2, h.2.1⟩)
      have HP4 := Lib.hid hw3
      have hcbr := HCB.out wr (Keeps.refl _ _)
      clear hq1 hq2 hq3 hcb hcu hw1 hw3 hs4 hib hibn
      go_wp2_with fail
      refine wp_region_stores 17 [13, 14, 15] [0, 1, 2, 3, 4, 5, 6, 7, 8, 9, 10, 11, 12, 13, 14, 15, 16] (fun V => Keeps F wr V) (fun V => DskAt V F g s) (by kernel_rfl) (by kernel_rfl) (fun _ _ h k => h.trans' k (fun _ _ h => h.elim)) (fun _ _ h k => h.later k) (((Keeps.refl _ _).drew)) (HDS.out.later ((Keeps.refl _ _).drew)) ?_
      refine T_value (get_op rfl) (by rfl) (by rfl) (.pointer (some ⟨g, 0, none⟩)) (fun _ _ => by go_simp) ?_
      simp only [Act.put, List.setIfInBounds_toArray, List.set_cons_zero, List.set_cons_succ]
      refine T_value (get_op rfl) (by rfl) (by rfl) (.slice (some aa) len c) (fun _ _ => by go_simp) ?_
      simp only [Act.put, List.setIfInBounds_toArray, List.set_cons_zero, List.set_cons_succ]
      refine T_value (get_op rfl) (by rfl) (by rfl) (.int .i64 (i : Int)) (fun _ _ => by go_simp) ?_
      simp only [Act.put, List.setIfInBounds_toArray, List.set_cons_zero, List.set_cons_succ]
      refine T_value (get_op rfl) (by rfl) (by rfl) (.pointer (some (aa.add i))) (fun _ _ => by go_simp) ?_
      simp only [Act.put, List.setIfInBounds_toArray, List.set_cons_zero, List.set_cons_succ]
      refine T_cell (get_op rfl) (by rfl) (by rfl) 5 (.tmp 45) (by rfl) (aa.add i) (by rfl) (.int .u8 (cb.toNat : Int)) _ (fun V hV => HCB.out V hV) Try.underlying5 rfl ?_
      simp only [Act.put, List.setIfInBounds_toArray, List.set_cons_zero, List.set_cons_succ]
      refine T_value (get_op rfl) (by rfl) (by rfl) (.int .u8 (q : Int)) (fun _ _ => by have h1 := HQ1.out; go_simp) ?_
      simp only [Act.put, List.setIfInBounds_toArray, List.set_cons_zero, List.set_cons_succ]
      refine T_value (get_op rfl) (by rfl) (by rfl) (.int .i64 (q : Int)) (fun _ _ => by have h1 := HQ2.out; go_simp) ?_
      simp only [Act.put, List.setIfInBounds_toArray, List.set_cons_zero, List.set_cons_succ]
      refine T_value (get_op rfl) (by rfl) (by rfl) (.slice (some aa) len c) (fun _ _ => by go_simp) ?_
      simp only [Act.put, List.setIfInBounds_toArray, List.set_cons_zero, List.set_cons_succ]
      refine T_value (get_op rfl) (by rfl) (by rfl) (.int .i64 (i : Int)) (fun _ _ => by go_simp) ?_
      simp only [Act.put, List.setIfInBounds_toArray, List.set_cons_zero, List.set_cons_succ]
      refine T_value (get_op rfl) (by rfl) (by rfl) (.pointer (some (aa.add i))) (fun _ _ => by go_simp) ?_
      simp only [Act.put, List.setIfInBounds_toArray, List.set_cons_zero, List.set_cons_succ]
      refine T_cell (get_op rfl) (by rfl) (by rfl) 5 (.tmp 51) (by rfl) (aa.add i) (by rfl) (.int .u8 (cb.toNat : Int)) _ (fun V hV => HCB.out V hV) Try.underlying5 rfl ?_
      simp only [Act.put, List.setIfInBounds_toArray, List.set_cons_zero, List.set_cons_succ]
      refine T_value (get_op rfl) (by rfl) (by rfl) (.int .i64 (i : Int)) (fun _ _ => by go_simp) ?_
      simp only [Act.put, List.setIfInBounds_toArray, List.set_cons_zero, List.set_cons_succ]
      refine T_value (get_op rfl) (by rfl) (by rfl) (.int .u8 (i : Int)) (fun _ _ => by have h1 := HI8.out; go_simp) ?_
      simp only [Act.put, List.setIfInBounds_toArray, List.set_cons_zero, List.set_cons_succ]
      refine T_buildN (get_op rfl) (by rfl) (by rfl) 34 5 2 [(0, .tmp 52), (1, .tmp 54)] (by rfl) [(0, .int .u8 (cb.toNat : Int)), (1, .int .u8 (i : Int))] (by rfl) #[.int .u8 (cb.toNat : Int), .int .u8 (i : Int)] (build_two cb.toNat i) (fun _ _ h k => h.trans' k (fun _ _ h => h.elim)) (fun _ _ h k => h.later k) wr.heap.size (fun V hV => hV.size) ?_
      intro g55 hg55
      simp only [Act.put, List.setIfInBounds_toArray, List.set_cons_zero, List.set_cons_succ]
      refine T_enterR (get_op rfl) (by rfl) (by rfl) _ _ (fun x : Nat => .slice (some ⟨x, 0, none⟩) 256 256) (fun x y h => by injection h with h; injection h with h; injection h) (fun _ => by go_simp) (fun x V => DskAt V (fun k => F k ∧ k ≠ x) g s ∧ Row V x 5 (bvs (Dk.fill [cb, ib]))) (fun x w w' h hk => ⟨h.1.later hk, h.2.keeps hk id⟩) (fun V hb hf => HFU.out V g55 hb hf.1 hf.2) ?_
      intro X
      simp only [Act.put, List.setIfInBounds_toArray, List.set_cons_zero, List.set_cons_succ]
      refine T_enter (get_op rfl) (by rfl) (by rfl) _ _ (.int .i64 0) (fun _ => by go_simp) (fun V => DskAt V F g s4) (fun _ _ h k => h.later k) (fun V hb hf => HWR.out V X hb hf.1 hf.2) ?_
      simp only [Act.put, List.setIfInBounds_toArray, List.set_cons_zero, List.set_cons_succ]
      refine T_value (get_op rfl) (by rfl) (by rfl) (.bool false) (fun _ _ => by go_simp) ?_
      simp only [Act.put, List.setIfInBounds_toArray, List.set_cons_zero, List.set_cons_succ]
      refine T_nil ?_
      intro V5 k5 d5
      simp only [List.drop_succ_cons, List.drop_nil]
      have D5 := Lib.hid d5
      have K5 : Hid (Keeps F w1 V5) := Lib.hid (HKP.out.trans k5)
      clear d5 k5 HWR HFU HCB hcbr HDS HPL HKP
      go_wp2_with fail
      go_roundw
      case rel => exact ⟨i + 1, s4, by omega, by go_num, D5, HP4, K5⟩
      case measure => simp [intOf]; omega
    · have hii : ¬ (i : Int) < (len : Int) := by omega
      have hcr := crash_any wr F g s HDS.out (fun j hj => HF.out j (Nat.le_trans HKP.out.size hj)) (Nat.le_trans HPL.out.2.2.2 (by omega)) A2 c2 ys (HS2.out.keeps (HB.out wr HKP.out) (fun _ _ _ => id)) (fun a ha h0 hf => by have := HFW.out _ hf; have := HLM.out.2.1 a ha h0; omega) (by rw [HYL.out]; omega)
      rw [HYL.out] at hcr
      obtain ⟨s2, hs2⟩ : ∃ s2, Dk.cr s ys = s2 := ⟨_, rfl⟩
      have HCR : Hid (Calls Try.prog 19 #[.pointer (some ⟨g, 0, none⟩), .slice A2 len2 c2] wr fun e w' => e = .returned (.tuple #[]) ∧ DskAt w' F g s2 ∧ Keeps F wr w') := Lib.hid (by rw [← hs2]; exact hcr)
      have HN3 : Hid (s2.n = 3) := Lib.hid (by rw [← hs2]; exact HPL.out.1)
      have HDE : Hid (s2.dead = false) := Lib.hid (by rw [← hs2]; rfl)
      have HLO0 : Hid (s2.loose = []) := Lib.hid (by rw [← hs2]; rfl)
      have HCC : Hid (Dk.cr s2 zs = s2) := Lib.hid (by rw [← hs2]; unfold Dk.cr Dk.crash; simp)
      clear hcr hs2 HDS
      go_wp2_with fail
      refine HCR.out.mono ?_
      rintro e w4 ⟨rfl, d4, k4⟩
      have HGL : Hid (∀ i, (Dk.rd s2 i).length = 256) := Lib.hid (Dk.ok_rd d4.ok)
      have D4 := Lib.hid d4
      have K4 : Hid (Keeps F w1 w4) := Lib.hid (HKP.out.trans k4)
      clear d4 k4 HCR HKP HPL
      go_wp2_with fail
      go_loopw [11, 12] (fun sv jv wr => ∃ (j : Nat), j ≤ 3 ∧ jv = .int .i64 (j : Int) ∧ sv = .string (strOf (Dk.cat s2 j)) ∧ Hid (Keeps (fun _ => False) w4 wr)) (fun _ jv _ => 3 - (intOf jv).toNat)
      case atStart => exact ⟨0, by omega, rfl, rfl, Lib.hid (Keeps.refl _ _)⟩
      case round =>
        obtain ⟨j, hj, rfl, rfl, HKJ⟩ := hrel
        by_cases hj3 : j < 3
        · have hji : (j : Int) < 3 := by omega
          have hrd := read_ok wr F g s2 (D4.out.later HKJ.out) j (by show j < s2.n; rw [HN3.out]; exact hj3) HDE.out
          obtain ⟨bj, hbj⟩ : ∃ b, Dk.rd s2 j = b := ⟨_, rfl⟩
          obtain ⟨cj, hcj⟩ : ∃ b, Dk.cat s2 j = b := ⟨_, rfl⟩
          have hcl : cj.length = 256 * j := by rw [← hcj]; exact Dk.cat_length s2 HGL.out j
          have hbl : bj.length = 256 := by rw [← hbj]; exact HGL.out j
          have hcs : Dk.cat s2 (j + 1) = cj ++ bj := by rw [Dk.cat_succ, hcj, hbj]
          rw [hbj] at hrd
          have hjoin : ∀ V : World, (Op.stringOp .add (strOf cj) (strOf bj)).run Try.prog V = .ok (.string (strOf (cj ++ bj))) V := fun V => run_string_add_lists V cj bj (by omega) (by omega)
          obtain ⟨sc, hsc⟩ : ∃ s, strOf cj = s := ⟨_, rfl⟩
          obtain ⟨sb, hsb⟩ : ∃ s, strOf bj = s := ⟨_, rfl⟩
          obtain ⟨sn, hsn⟩ : ∃ s, strOf (cj ++ bj) = s := ⟨_, rfl⟩
          have HBL := Lib.hid hbl
          have HSB := Lib.hid hsb
          have HSN : Hid (strOf (Dk.cat s2 (j + 1)) = sn) := Lib.hid (by rw [hcs]; exact hsn)
          rw [hsc, hsb, hsn] at hjoin
          rw [hcj, hsc]
          have HRD := Lib.hid hrd
          clear hrd hbj hcj hcl hbl hcs hsc hsb hsn
          go_wp2_with fail
          refine HRD.out.mono ?_
          rintro e w6 ⟨rfl, r6, k6⟩
          obtain ⟨B6, hB6⟩ : ∃ b, wr.heap.size = b := ⟨_, rfl⟩
          rw [hB6] at r6
          have hst : (convert 34 9 (.slice (some ⟨B6, 0, none⟩) 256 256)).run Try.prog w6 = .ok (.string sb) w6 := by
            have h := run_string_src (P := Try.prog) w6 34 9 5 Try.underlying34 Try.underlying5 Try.underlying9 (some ⟨B6, 0, none⟩) bj 256 r6.src
            rw [HBL.out, HSB.out] at h
            exact h
          have HK6 : Hid (Keeps (fun _ => False) w4 w6) := Lib.hid (HKJ.out.trans k6)
          clear r6 k6 HRD HKJ
          go_wp2_with fail
          go_roundw
          case rel => exact ⟨j + 1, by omega, by go_num, by rw [HSN.out], HK6⟩
          case measure => simp [intOf]; omega
        · obtain rfl : j = 3 := by omega
          have hji : ¬ ((3 : Nat) : Int) < 3 := by omega
          obtain ⟨SB, hSB⟩ : ∃ s, strOf (Dk.cat s2 3) = s := ⟨_, rfl⟩
          rw [hSB]
          have hcr := crash_any wr F g s2 (D4.out.later HKJ.out) (fun j hj => HF.out j (Nat.le_trans (K4.out.size) (Nat.le_trans HKJ.out.size hj))) (by rw [HLO0.out]; decide) A3 c3 zs (HS3.out.keeps ((HB.out w4 K4.out).trans HKJ.out) (fun _ _ _ => id)) (fun a ha h0 hf => by have := HFW.out _ hf; have := HLM.out.2.2 a ha h0; omega) (by rw [HZL.out]; exact HLM.out.1)
          rw [HZL.out] at hcr
          have HCR : Hid (Calls Try.prog 19 #[.pointer (some ⟨g, 0, none⟩), .slice A3 len3 c3] wr fun e w' => e = .returned (.tuple #[]) ∧ DskAt w' F g s2 ∧ Keeps F wr w') := Lib.hid (by have h := hcr; rw [show ({ s2 with good := Dk.crash s2.good s2.loose zs, loose := [], fails := false, dead := false } : Dk.St) = s2 from HCC.out] at h; exact h)
          have HSB := Lib.hid hSB
          have hsz : SB.size = 768 := by rw [← hSB]; exact Dk.cat_length s2 HGL.out 3
          have HSZ := Lib.hid hsz
          clear hcr hSB hsz
          go_wp2_with fail
          refine HCR.out.mono ?_
          rintro e w5 ⟨rfl, d5, k5⟩
          have D5 := Lib.hid d5
          have K5 : Hid (Keeps F w1 w5) := Lib.hid ((K4.out.trans (HKJ.out.mono (fun _ _ h => h.elim))).trans k5)
          clear d5 k5 HCR HKJ D4 K4
          go_wp2_with fail
          go_loopw [15, 16] (fun sv jv wr => ∃ (j : Nat), j ≤ 3 ∧ jv = .int .i64 (j : Int) ∧ sv = .string (strOf (Dk.cat s2 j)) ∧ Hid (Keeps (fun _ => False) w5 wr)) (fun _ jv _ => 3 - (intOf jv).toNat)
          case atStart => exact ⟨0, by omega, rfl, rfl, Lib.hid (Keeps.refl _ _)⟩
          case round =>
            obtain ⟨j, hj, rfl, rfl, HKJ⟩ := hrel
            by_cases hj3 : j < 3
            · have hji : (j : Int) < 3 := by omega
              have hrd := read_ok wr F g s2 (D5.out.later HKJ.out) j (by show j < s2.n; rw [HN3.out]; exact hj3) HDE.out
              obtain ⟨bj, hbj⟩ : ∃ b, Dk.rd s2 j = b := ⟨_, rfl⟩
              obtain ⟨cj, hcj⟩ : ∃ b, Dk.cat s2 j = b := ⟨_, rfl⟩
              have hcl : cj.length = 256 * j := by rw [← hcj]; exact Dk.cat_length s2 HGL.out j
              have hbl : bj.length = 256 := by rw [← hbj]; exact HGL.out j
              have hcs : Dk.cat s2 (j + 1) = cj ++ bj := by rw [Dk.cat_succ, hcj, hbj]
              rw [hbj] at hrd
              have hjoin : ∀ V : World, (Op.stringOp .add (strOf cj) (strOf bj)).run Try.prog V = .ok (.string (strOf (cj ++ bj))) V := fun V => run_string_add_lists V cj bj (by omega) (by omega)
              obtain ⟨sc, hsc⟩ : ∃ s, strOf cj = s := ⟨_, rfl⟩
              obtain ⟨sb, hsb⟩ : ∃ s, strOf bj = s := ⟨_, rfl⟩
              obtain ⟨sn, hsn⟩ : ∃ s, strOf (cj ++ bj) = s := ⟨_, rfl⟩
              have HBL := Lib.hid hbl
              have HSB := Lib.hid hsb
              have HSN : Hid (strOf (Dk.cat s2 (j + 1)) = sn) := Lib.hid (by rw [hcs]; exact hsn)
              rw [hsc, hsb, hsn] at hjoin
              rw [hcj, hsc]
              have HRD := Lib.hid hrd
              clear hrd hbj hcj hcl hbl hcs hsc hsb hsn
              go_wp2_with fail
              refine HRD.out.mono ?_
              rintro e w6 ⟨rfl, r6, k6⟩
              obtain ⟨B6, hB6⟩ : ∃ b, wr.heap.size = b := ⟨_, rfl⟩
              rw [hB6] at r6
              have hst : (convert 34 9 (.slice (some ⟨B6, 0, none⟩) 256 256)).run Try.prog w6 = .ok (.string sb) w6 := by
                have h := run_string_src (P := Try.prog) w6 34 9 5 Try.underlying34 Try.underlying5 Try.underlying9 (some ⟨B6, 0, none⟩) bj 256 r6.src
                rw [HBL.out, HSB.out] at h
                exact h
              have HK6 : Hid (Keeps (fun _ => False) w5 w6) := Lib.hid (HKJ.out.trans k6)
              clear r6 k6 HRD HKJ
              go_wp2_with fail
              go_roundw
              case rel => exact ⟨j + 1, by omega, by go_num, by rw [HSN.out], HK6⟩
              case measure => simp [intOf]; omega
            · obtain rfl : j = 3 := by omega
              have hji : ¬ ((3 : Nat) : Int) < 3 := by omega
              obtain ⟨SC, hSC⟩ : ∃ s, strOf (Dk.cat s2 3) = s := ⟨_, rfl⟩
              rw [hSC]
              obtain rfl : SB = SC := HSB.out.symm.trans hSC
              have hlo := loose_any wr F g s2 (D5.out.later HKJ.out)
              rw [HLO0.out] at hlo
              have HLO : Hid (Calls Try.prog 24 #[.pointer (some ⟨g, 0, none⟩)] wr fun e w' => e = .returned (.int .i64 0) ∧ w' = wr) := Lib.hid hlo
              have hsz := HSZ.out
              have hsi : (SB.size : Int) = 768 := by rw [hsz]; rfl
              have FIN := Lib.hid (keeps_belowD ((HB.out w5 K5.out).trans HKJ.out))
              clear hlo hSC HKJ D5 K5
              go_wp2_with fail
              refine HLO.out.mono ?_
              rintro e w9 ⟨rfl, h9⟩
              obtain rfl : wr = w9 := h9.symm
              go_wp2
              go_ret
              exact ⟨rfl, FIN.out⟩
theorem dtwice_all (A : Option Addr) (len c : Nat) (zs : List Int) (A2 : Option Addr) (len2 c2 : Nat) (zs2 : List Int) (A3 : Option Addr) (len3 c3 : Nat) (zs3 : List Int) (W : World) (hA : IsRowU .u8 W A len c zs) (hA2 : IsRowU .u8 W A2 len2 c2 zs2) (hA3 : IsRowU .u8 W A3 len3 c3 zs3) :
    Calls Try.prog 8 #[.slice A len c, .slice A2 len2 c2, .slice A3 len3 c3] W fun e W' => e = .returned (.bool true) ∧ Below W.heap.size W W' := by
  obtain ⟨xs, hl, hs, h1, h2⟩ := hA.src
  obtain ⟨ys, hl2, hs2, h3, h4⟩ := hA2.src
  obtain ⟨us, hl3, hs3, h5, h6⟩ := hA3.src
  by_cases h : 20 < len ∨ 30 < len2
  · exact dtwice_skip A len c A2 len2 c2 A3 len3 c3 W h (by omega) (by omega)
  · exact dtwice_few A c xs len hl A2 c2 ys len2 hl2 A3 c3 us len3 hl3 W hs hs2 hs3 (by omega) (by omega) (by omega) (fun a ha h0 => by subst ha; exact src_lt hs2 (by rw [bvs_length]; exact h0)) (fun a ha h0 => by subst ha; exact src_lt hs3 (by rw [bvs_length]; exact h0))
end Go.Proofs.Ytonokeldlknadaa
