/-
  DicePicks: as many are picked as are asked for, or there are, each from another place.
-/
import Derived.Test.YtecdeogbponplaaDiD
import Derived.Test.YtecdeogbponplaaDiS
import Derived.Test.YtecdeogbponplaaRowU
namespace Go.Proofs.Ytecdeogbponplaa
open Go.RowKit Go.BigFrame
set_option linter.unusedVariables false
set_option linter.unusedSimpArgs false

theorem make_forty (V : World) : (Instr.makeSlice 37 (.int .i64 40) (.int .i64 40)).run Try.prog V = .ok (.slice (some ⟨V.heap.size, 0, none⟩) 40 40) (V.alloc (.cells (sv 7 40 []).toArray 4)) := by
  rw [sv_nil]
  kernel_rfl
set_option maxRecDepth 100000 in
set_option maxHeartbeats 4000000 in
theorem picks_go (x : BitVec 64) (n : Nat) (many : Int) (W : World) (hn : n ≤ 255) (hm : (Lit.int .i64 many).wf = true) :
    Calls Try.prog 4 #[.int .u64 (di x), .int .u8 (n : Int), .int .i64 many] W fun e w' => e = .returned (.bool true) ∧ Keeps (fun _ => False) W w' := by
  have HAW := Lib.hid (awake17_any W)
  have hmb := bounds_i64 hm
  have HMW := Lib.hid hm
  obtain ⟨k, hk⟩ : ∃ k, n % 40 = k := ⟨_, rfl⟩
  have hk40 : k < 40 := by omega
  have hkI : (n : Int) % 40 = (k : Int) := by omega
  obtain ⟨ih, zh, hih, hzh, hsh, hbh, hzsh⟩ := info_in
  have HII := Lib.hid (And.intro hih (And.intro hzh (And.intro hsh (And.intro hbh hzsh))))
  clear hm hih hzh hsh hbh hzsh
  obtain ⟨Z4, hZ4⟩ : ∃ Z, (sv 7 40 []).toArray = Z := ⟨_, rfl⟩
  go_enter Try.func4, Try.ntmps4
  go_wp2_with fail
  refine HAW.out.mono ?_
  rintro e w1 ⟨rfl, k1⟩
  have K1 := Lib.hid k1
  clear k1
  go_wp2_with fail
  obtain ⟨B, hB⟩ : ∃ B, W.heap.size = B := ⟨_, rfl⟩
  have HB := Lib.hid hB
  have HBW1 := Lib.hid (show B ≤ w1.heap.size by have := K1.out.size; omega)
  clear hB
  simp only [hkI]
  clear hkI hk
  go_loopw [9, 10] (fun lv iv wr => ∃ (i : Nat) (A : Option Addr) (c : Nat), i ≤ k ∧ lv = .slice A i c ∧ iv = .int .i64 (i : Int) ∧ Hid (wr.ownsRow B 3 1 (.slice A i c) i (ivs (tms 7 i))) ∧ Hid (Keeps (fun _ => False) W wr)) (fun _ iv _ => k - (intOf iv).toNat)
  case atStart => exact ⟨0, none, 0, by omega, rfl, rfl, Lib.hid (World.ownsRow_nil _ _ _ _), K1⟩
  case round =>
    obtain ⟨i, A, c, hi, rfl, rfl, HO, HK⟩ := hrel
    by_cases hlt : i < k
    · have hii : (i : Int) < (k : Int) := by omega
      obtain ⟨V1, hV1⟩ : ∃ V, wr.alloc (.cells #[.int .i64 (7 * (i : Int))] 3) = V := ⟨_, rfl⟩
      have kv1 : Keeps (fun _ => False) wr V1 := by rw [← hV1]; exact (Keeps.refl _ _).alloc _
      have rv1 : V1.heap[wr.heap.size]? = some (.cells [Value.int .i64 (7 * (i : Int))].toArray 3 (0, 0)) := by rw [← hV1]; exact heap_alloc_new wr _
      have HBI := Lib.hid (build_int (7 * (i : Int)) wr)
      rw [hV1] at HBI
      have KV1 := Lib.hid kv1
      have RV1 : Hid (Src V1 (some ⟨wr.heap.size, 0, none⟩) [Value.int .i64 (7 * (i : Int))]) := Lib.hid (fun j u hu => ⟨_, rfl, World.news_of_block rv1 j u hu⟩)
      have HBV : Hid (B ≤ V1.heap.size) := Lib.hid (by have := HK.out.size; have := HB.out; have := kv1.size; omega)
      clear kv1 rv1 hV1
      go_wp2_with (first
        | (refine wpList_buildSlice_run17 (by rfl) 23 1 0 _ (by rfl) _ _ (by rfl) HBI.out ?_)
        | (refine wpList_append_src _ (by rfl) _ _ 23 (by rfl) B 3 ih zh 8 Try.underlying23 HII.out.1 HII.out.2.1 HII.out.2.2.1 HII.out.2.2.2.1 HII.out.2.2.2.2 (.slice A i c) i (ivs (tms 7 i)) (by rfl) (KV1.out.owns HO.out (fun _ _ => id)) (some ⟨wr.heap.size, 0, none⟩) 1 1 [.int .i64 (7 * (i : Int))] (by rfl) (by rfl) RV1.out (by intro u hu; cases hu with | head => rfl | tail _ h => cases h) (by unfold maxLen; omega) (by omega) HBV.out ?_; intro v3 V3 ho3 hg3 _; have HO3 := Lib.hid ho3; have HG3 := Lib.hid hg3; obtain ⟨A4, c4, rfl⟩ := own_slice ho3; clear ho3 hg3)
        | fail)
      have HO4 : Hid (V3.ownsRow B 3 1 (.slice A4 (i + 1) c4) (i + 1) (ivs (tms 7 i ++ [7 * (i : Int)]))) := Lib.hid (by rw [← ivs_append]; exact HO3.out)
      have KP : Hid (Keeps (fun _ => False) W V3) := Lib.hid (by
        have ho2 := KV1.out.owns HO.out (fun _ _ => id)
        exact (HK.out.trans KV1.out).trans' (T := fun j => (Value.slice A i c).ownBlock = some j) ((Keeps.refl _ _).grown HG3.out (fun _ _ h => h)) (fun j hj e => by
          obtain ⟨_, _, hbk⟩ := own_block ho2 j e
          have := HB.out
          omega))
      clear HO3 HG3
      go_roundw
      case rel => exact ⟨i + 1, A4, c4, by omega, rfl, by go_num, Lib.hid (by rw [tms_snoc]; exact HO4.out), KP⟩
      case measure => simp [intOf]; omega
    · obtain rfl : i = k := by omega
      have hsrc := Src.of_own HO.out
      have hAc : A = none → c = 0 := fun h => by
        rcases HO.out.2 with ⟨h1, _⟩ | ⟨_, _, _, h1, _⟩
        · injection h1
        · subst h; injection h1 with h1; cases h1
      have HSR := Lib.hid hsrc
      have HAC := Lib.hid hAc
      clear hsrc hAc
      go_wp2_with fail
      refine (dnew_any wr x).mono ?_
      rintro e w3 ⟨g, rfl, hg, d3, k3⟩
      have hp := pick_any w3 g x A c (tms 7 i) many d3 (HSR.out.keeps k3 (fun _ _ _ => id)) HAC.out (by rw [tms_length]; omega) HMW.out
      rw [tms_length] at hp
      obtain ⟨hnd, hmem⟩ := pick_some 7 (by omega) i x many
      have hlen := Di.pick_length x (tms 7 i) many
      rw [tms_length] at hlen
      obtain ⟨L, hL⟩ : ∃ L, (Di.pick x (tms 7 i) many).out = L := ⟨_, rfl⟩
      rw [hL] at hp hnd hmem hlen
      obtain ⟨m, hm⟩ : ∃ m, L.length = m := ⟨_, rfl⟩
      rw [hm] at hp hlen
      have HP := Lib.hid hp
      have HND := Lib.hid (And.intro hnd (And.intro hmem hm))
      have K3 := Lib.hid (HK.out.trans k3)
      have HO3 := Lib.hid (k3.owns HO.out (fun _ _ => id))
      have HGW := Lib.hid (show W.heap.size ≤ g ∧ wr.heap.size = g by have := HK.out.size; omega)
      clear hp hnd hmem hL hm d3 k3 hg
      go_wp2_with fail
      refine HP.out.mono ?_
      rintro e w4 ⟨v, rfl, d4, o4, k4⟩
      obtain ⟨A5, c5, rfl⟩ := own_slice o4
      have O4 := Lib.hid (own_base o4 (show B ≤ w3.heap.size by have := K3.out.size; have := HB.out; omega))
      have K4 := Lib.hid (K3.out.trans' k4 (fun j hj e => by have := HGW.out; omega))
      have HO4 := Lib.hid (k4.owns HO3.out (fun b hb e => by
        obtain ⟨_, hg, _⟩ := own_block HO.out b hb
        have h1 := (Array.getElem?_eq_some_iff.1 hg).1
        have := HGW.out
        omega))
      clear d4 o4 k4
      have hmk : ∀ V : World, (Instr.makeSlice 37 (.int .i64 40) (.int .i64 40)).run Try.prog V = .ok (.slice (some ⟨V.heap.size, 0, none⟩) 40 40) (V.alloc (.cells Z4 4)) := fun V => by rw [← hZ4]; exact make_forty V
      obtain ⟨gs, hgs⟩ : ∃ x, w4.heap.size = x := ⟨_, rfl⟩
      obtain ⟨W5, hW5⟩ : ∃ V, w4.alloc (.cells Z4 4) = V := ⟨_, rfl⟩
      have k5 : Keeps (fun _ => False) w4 W5 := by rw [← hW5]; exact (Keeps.refl _ _).alloc _
      have R5 : Hid (Row W5 gs 4 (sv 7 40 [])) := Lib.hid (by
        rw [← hW5, ← hgs]
        have h := heap_alloc_new w4 (.cells Z4 4)
        rw [← hZ4] at h ⊢
        exact h)
      have K5 := Lib.hid (K4.out.trans k5)
      have O5 := Lib.hid (k5.owns O4.out (fun _ _ => id))
      have HO5 := Lib.hid (k5.owns HO4.out (fun _ _ => id))
      have HGS : Hid (W.heap.size ≤ gs) := Lib.hid (by have := K4.out.size; omega)
      clear k5
      by_cases hneg : many < 0
      · have hd1 : decide (many < 0) = true := decide_eq_true hneg
        have hd2 : decide ((i : Int) < 0) = false := decide_eq_false (by omega)
        have hne : ((m : Int) != (0 : Int)) = false := by have : m = 0 := by omega
                                                          subst this; rfl
        have hm40 : m < 40 := by omega
        clear hlen
        go_wp2_with fail
        go_loopw [14] (fun iv wr => ∃ q : Nat, q ≤ m ∧ iv = .int .i64 (q : Int) ∧ Hid (Row wr gs 4 (sv 7 40 (L.take q))) ∧ Hid (wr.ownsRow B 3 1 (.slice A5 m c5) m (ivs L)) ∧ Hid (wr.ownsRow B 3 1 (.slice A i c) i (ivs (tms 7 i))) ∧ Hid (Keeps (fun _ => False) W wr)) (fun iv _ => m - (intOf iv).toNat)
        case atStart => exact ⟨0, by omega, rfl, R5, O5, HO5, K5⟩
        case round =>
          obtain ⟨q, hq, rfl, RQ, OQ, HOQ, KQ⟩ := hrel
          by_cases hql : q < m
          · have hqi : (q : Int) < (m : Int) := by omega
            obtain ⟨xv, hxv⟩ : ∃ xv, L[q]? = some xv := ⟨_, List.getElem?_eq_getElem (by have := HND.out.2.2; omega)⟩
            obtain ⟨j, hj, rfl⟩ := tms_mem (HND.out.2.1 xv (List.mem_of_getElem? hxv))
            have hfr := fresh_at HND.out.1 hxv
            obtain ⟨ad, rfl, hc⟩ := Src.of_own OQ.out q (.int .i64 (7 * (j : Int))) (by rw [ivs_get, hxv]; rfl)
            have cs : wr.cell? ⟨gs, j, none⟩ = some (.bool false) := by rw [RQ.out.cell, sv_get _ _ _ _ (by omega), decide_eq_false hfr]
            have fs : wr.frozen? ⟨gs, j, none⟩ = false := RQ.out.frozen j
            obtain ⟨w7, hw7⟩ : ∃ V, wr.setCell ⟨gs, j, none⟩ (.bool true) = V := ⟨_, rfl⟩
            have R7 : Hid (Row w7 gs 4 (sv 7 40 (L.take (q + 1)))) := Lib.hid (by
              obtain ⟨hqL, hx⟩ := List.getElem?_eq_some_iff.1 hxv
              rw [← hw7, List.take_succ_eq_append_getElem hqL, hx, ← sv_set 7 (by omega)]
              exact RQ.out.set j _)
            have k7 : Keeps (fun b => b = gs) wr w7 := by rw [← hw7]; exact (Keeps.refl (fun b => b = gs) wr).setCell (p := ⟨gs, j, none⟩) (fun _ => rfl) _
            have O7 := Lib.hid (k7.owns OQ.out (fun b hb e => own_apart OQ.out RQ.out (by decide) b hb e))
            have HO7 := Lib.hid (k7.owns HOQ.out (fun b hb e => own_apart HOQ.out RQ.out (by decide) b hb e))
            have K7 := Lib.hid (KQ.out.trans' k7 (fun b hb e => by have := HGS.out; omega))
            have hj40 : j < 40 := by omega
            have hji : (j : Int) < (i : Int) := by omega
            clear hfr hxv k7
            go_wp2
            go_roundw
            case rel => exact ⟨q + 1, by omega, by go_num, R7, O7, HO7, K7⟩
            case measure => simp [intOf]; omega
          · obtain rfl : q = m := by omega
            go_wp2_with fail
            go_loopw [15] (fun iv wr => ∃ p : Nat, p ≤ i ∧ iv = .int .i64 (p : Int) ∧ Hid (wr.ownsRow B 3 1 (.slice A i c) i (ivs (tms 7 i))) ∧ Hid (Keeps (fun _ => False) W wr)) (fun iv _ => i - (intOf iv).toNat)
            case atStart => exact ⟨0, by omega, rfl, HOQ, KQ⟩
            case round =>
              obtain ⟨p, hp, rfl, HOP, KP⟩ := hrel
              by_cases hpl : p < i
              · have hpi : (p : Int) < (i : Int) := by omega
                obtain ⟨al, rfl, hc⟩ := Src.of_own HOP.out p (.int .i64 (7 * (p : Int))) (by rw [ivs_get, tms_get 7 i p hpl]; rfl)
                have hnp : ((7 * (p : Int)) != (7 * (p : Int))) = false := by simp
                go_wp2
                go_roundw
                case rel => exact ⟨p + 1, by omega, by go_num, HOP, KP⟩
                case measure => simp [intOf]; omega
              · obtain rfl : p = i := by omega
                go_wp2
                go_ret
                exact ⟨rfl, KP.out⟩
      · have hd1 : decide (many < 0) = false := decide_eq_false hneg
        by_cases hbig : (i : Int) < many
        · have hd2 : decide ((i : Int) < many) = true := decide_eq_true hbig
          have hne : ((m : Int) != (i : Int)) = false := by have : m = i := by omega
                                                            subst this; simp
          have hm40 : m < 40 := by omega
          clear hlen
          go_wp2_with fail
          go_loopw [14] (fun iv wr => ∃ q : Nat, q ≤ m ∧ iv = .int .i64 (q : Int) ∧ Hid (Row wr gs 4 (sv 7 40 (L.take q))) ∧ Hid (wr.ownsRow B 3 1 (.slice A5 m c5) m (ivs L)) ∧ Hid (wr.ownsRow B 3 1 (.slice A i c) i (ivs (tms 7 i))) ∧ Hid (Keeps (fun _ => False) W wr)) (fun iv _ => m - (intOf iv).toNat)
          case atStart => exact ⟨0, by omega, rfl, R5, O5, HO5, K5⟩
          case round =>
            obtain ⟨q, hq, rfl, RQ, OQ, HOQ, KQ⟩ := hrel
            by_cases hql : q < m
            · have hqi : (q : Int) < (m : Int) := by omega
              obtain ⟨xv, hxv⟩ : ∃ xv, L[q]? = some xv := ⟨_, List.getElem?_eq_getElem (by have := HND.out.2.2; omega)⟩
              obtain ⟨j, hj, rfl⟩ := tms_mem (HND.out.2.1 xv (List.mem_of_getElem? hxv))
              have hfr := fresh_at HND.out.1 hxv
              obtain ⟨ad, rfl, hc⟩ := Src.of_own OQ.out q (.int .i64 (7 * (j : Int))) (by rw [ivs_get, hxv]; rfl)
              have cs : wr.cell? ⟨gs, j, none⟩ = some (.bool false) := by rw [RQ.out.cell, sv_get _ _ _ _ (by omega), decide_eq_false hfr]
              have fs : wr.frozen? ⟨gs, j, none⟩ = false := RQ.out.frozen j
              obtain ⟨w7, hw7⟩ : ∃ V, wr.setCell ⟨gs, j, none⟩ (.bool true) = V := ⟨_, rfl⟩
              have R7 : Hid (Row w7 gs 4 (sv 7 40 (L.take (q + 1)))) := Lib.hid (by
                obtain ⟨hqL, hx⟩ := List.getElem?_eq_some_iff.1 hxv
                rw [← hw7, List.take_succ_eq_append_getElem hqL, hx, ← sv_set 7 (by omega)]
                exact RQ.out.set j _)
              have k7 : Keeps (fun b => b = gs) wr w7 := by rw [← hw7]; exact (Keeps.refl (fun b => b = gs) wr).setCell (p := ⟨gs, j, none⟩) (fun _ => rfl) _
              have O7 := Lib.hid (k7.owns OQ.out (fun b hb e => own_apart OQ.out RQ.out (by decide) b hb e))
              have HO7 := Lib.hid (k7.owns HOQ.out (fun b hb e => own_apart HOQ.out RQ.out (by decide) b hb e))
              have K7 := Lib.hid (KQ.out.trans' k7 (fun b hb e => by have := HGS.out; omega))
              have hj40 : j < 40 := by omega
              have hji : (j : Int) < (i : Int) := by omega
              clear hfr hxv k7
              go_wp2
              go_roundw
              case rel => exact ⟨q + 1, by omega, by go_num, R7, O7, HO7, K7⟩
              case measure => simp [intOf]; omega
            · obtain rfl : q = m := by omega
              go_wp2_with fail
              go_loopw [15] (fun iv wr => ∃ p : Nat, p ≤ i ∧ iv = .int .i64 (p : Int) ∧ Hid (wr.ownsRow B 3 1 (.slice A i c) i (ivs (tms 7 i))) ∧ Hid (Keeps (fun _ => False) W wr)) (fun iv _ => i - (intOf iv).toNat)
              case atStart => exact ⟨0, by omega, rfl, HOQ, KQ⟩
              case round =>
                obtain ⟨p, hp, rfl, HOP, KP⟩ := hrel
                by_cases hpl : p < i
                · have hpi : (p : Int) < (i : Int) := by omega
                  obtain ⟨al, rfl, hc⟩ := Src.of_own HOP.out p (.int .i64 (7 * (p : Int))) (by rw [ivs_get, tms_get 7 i p hpl]; rfl)
                  have hnp : ((7 * (p : Int)) != (7 * (p : Int))) = false := by simp
                  go_wp2
                  go_roundw
                  case rel => exact ⟨p + 1, by omega, by go_num, HOP, KP⟩
                  case measure => simp [intOf]; omega
                · obtain rfl : p = i := by omega
                  go_wp2
                  go_ret
                  exact ⟨rfl, KP.out⟩
        · have hd2 : decide ((i : Int) < many) = false := decide_eq_false hbig
          have hne : ((m : Int) != many) = false := by have : (m : Int) = many := by omega
                                                       subst this; simp
          have hm40 : m < 40 := by omega
          clear hlen
          go_wp2_with fail
          go_loopw [14] (fun iv wr => ∃ q : Nat, q ≤ m ∧ iv = .int .i64 (q : Int) ∧ Hid (Row wr gs 4 (sv 7 40 (L.take q))) ∧ Hid (wr.ownsRow B 3 1 (.slice A5 m c5) m (ivs L)) ∧ Hid (wr.ownsRow B 3 1 (.slice A i c) i (ivs (tms 7 i))) ∧ Hid (Keeps (fun _ => False) W wr)) (fun iv _ => m - (intOf iv).toNat)
          case atStart => exact ⟨0, by omega, rfl, R5, O5, HO5, K5⟩
          case round =>
            obtain ⟨q, hq, rfl, RQ, OQ, HOQ, KQ⟩ := hrel
            by_cases hql : q < m
            · have hqi : (q : Int) < (m : Int) := by omega
              obtain ⟨xv, hxv⟩ : ∃ xv, L[q]? = some xv := ⟨_, List.getElem?_eq_getElem (by have := HND.out.2.2; omega)⟩
              obtain ⟨j, hj, rfl⟩ := tms_mem (HND.out.2.1 xv (List.mem_of_getElem? hxv))
              have hfr := fresh_at HND.out.1 hxv
              obtain ⟨ad, rfl, hc⟩ := Src.of_own OQ.out q (.int .i64 (7 * (j : Int))) (by rw [ivs_get, hxv]; rfl)
              have cs : wr.cell? ⟨gs, j, none⟩ = some (.bool false) := by rw [RQ.out.cell, sv_get _ _ _ _ (by omega), decide_eq_false hfr]
              have fs : wr.frozen? ⟨gs, j, none⟩ = false := RQ.out.frozen j
              obtain ⟨w7, hw7⟩ : ∃ V, wr.setCell ⟨gs, j, none⟩ (.bool true) = V := ⟨_, rfl⟩
              have R7 : Hid (Row w7 gs 4 (sv 7 40 (L.take (q + 1)))) := Lib.hid (by
                obtain ⟨hqL, hx⟩ := List.getElem?_eq_some_iff.1 hxv
                rw [← hw7, List.take_succ_eq_append_getElem hqL, hx, ← sv_set 7 (by omega)]
                exact RQ.out.set j _)
              have k7 : Keeps (fun b => b = gs) wr w7 := by rw [← hw7]; exact (Keeps.refl (fun b => b = gs) wr).setCell (p := ⟨gs, j, none⟩) (fun _ => rfl) _
              have O7 := Lib.hid (k7.owns OQ.out (fun b hb e => own_apart OQ.out RQ.out (by decide) b hb e))
              have HO7 := Lib.hid (k7.owns HOQ.out (fun b hb e => own_apart HOQ.out RQ.out (by decide) b hb e))
              have K7 := Lib.hid (KQ.out.trans' k7 (fun b hb e => by have := HGS.out; omega))
              have hj40 : j < 40 := by omega
              have hji : (j : Int) < (i : Int) := by omega
              clear hfr hxv k7
              go_wp2
              go_roundw
              case rel => exact ⟨q + 1, by omega, by go_num, R7, O7, HO7, K7⟩
              case measure => simp [intOf]; omega
            · obtain rfl : q = m := by omega
              go_wp2_with fail
              go_loopw [15] (fun iv wr => ∃ p : Nat, p ≤ i ∧ iv = .int .i64 (p : Int) ∧ Hid (wr.ownsRow B 3 1 (.slice A i c) i (ivs (tms 7 i))) ∧ Hid (Keeps (fun _ => False) W wr)) (fun iv _ => i - (intOf iv).toNat)
              case atStart => exact ⟨0, by omega, rfl, HOQ, KQ⟩
              case round =>
                obtain ⟨p, hp, rfl, HOP, KP⟩ := hrel
                by_cases hpl : p < i
                · have hpi : (p : Int) < (i : Int) := by omega
                  obtain ⟨al, rfl, hc⟩ := Src.of_own HOP.out p (.int .i64 (7 * (p : Int))) (by rw [ivs_get, tms_get 7 i p hpl]; rfl)
                  have hnp : ((7 * (p : Int)) != (7 * (p : Int))) = false := by simp
                  go_wp2
                  go_roundw
                  case rel => exact ⟨p + 1, by omega, by go_num, HOP, KP⟩
                  case measure => simp [intOf]; omega
                · obtain rfl : p = i := by omega
                  go_wp2
                  go_ret
                  exact ⟨rfl, KP.out⟩
theorem picks_walk (a n many : Int) (W : World) (ha : (Lit.int .u64 a).wf = true) (hn : (Lit.int .u8 n).wf = true) (hm : (Lit.int .i64 many).wf = true) :
    Calls Try.prog 4 #[.int .u64 a, .int .u8 n, .int .i64 many] W fun e w' => e = .returned (.bool true) ∧ Below W.heap.size W w' := by
  obtain ⟨x, rfl⟩ := di_of a ha
  have hb := bounds_u8 hn
  obtain ⟨n, rfl⟩ := Int.eq_ofNat_of_zero_le hb.1
  exact (picks_go x n many W (by omega) hm).mono (fun e w' h => ⟨h.1, h.2.below (Nat.le_refl _) (fun _ _ => id)⟩)
end Go.Proofs.Ytecdeogbponplaa
