/-
  FetchOrder: what is asked for at a tick is told in order, each once. By the program's contracts.
-/
import Derived.Test.YthnpgiagajfaiaaFtG
import Derived.Test.YthnpgiagajfaiaaFtO
import Derived.Test.YthnpgiagajfaiaaFtB
import Derived.Test.YthnpgiagajfaiaaOpenFw
namespace Go.Proofs.Ythnpgiagajfaiaa
open Go.RowKit Go.BigFrame Go.Deep
set_option linter.unusedVariables false
set_option linter.unusedSimpArgs false
namespace Ft
theorem wless_size {a b : Wn} (h : wless a b = true) : a.1.1 ≤ b.1.1 := by
  unfold wless at h
  split at h
  · rename_i e; rw [e]; exact Nat.le_refl _
  · unfold kless at h
    split at h
    · rename_i e; omega
    · have := of_decide_eq_true h; omega
theorem wless_ne {a b : Wn} (h : wless a b = true) : a ≠ b := fun e => by
  rw [e, wless_irrefl] at h
  cases h
theorem start_has {l : List Q} {k : Wn} (h : has l k = true) : start l k = l := by unfold start; rw [if_pos h]
theorem start_not {l : List Q} {k : Wn} (h : has l k = false) : (start l k).length = l.length + 1 := by
  unfold start
  rw [if_neg (by rw [h]; decide), ins_length]
end Ft
theorem want_at18 {w : World} {A : Option Addr} {len c : Nat} {xs : List Ft.Wn} (h : IsList wcs Ft.Wn.Ok 66 w A len c xs) {i : Nat} {x : Ft.Wn} (hx : xs[i]? = some x) : ∃ ad, A = some ad ∧ Ft.Wn.Ok x ∧ ∀ j v, (wcs x)[j]? = some v → w.cell? ((ad.add (i * 66)).add j) = some v := by
  obtain ⟨ok, ad, h1, h2⟩ := h.at_ i x hx
  exact ⟨ad, h1, ok, fun j v hv => by rw [add_add]; exact h2 j v hv⟩
theorem want_size18 {w : World} {g o : Nat} {q : Ft.Wn} (h : w.rangeAt g o (wcs q)) : w.cell? ⟨g, o, none⟩ = some (.int .u64 (q.1.1 : Int)) := h 0 _ rfl
variable {At : World → (Nat → Prop) → Nat → Ft.Tb → Prop}
set_option maxRecDepth 100000 in
set_option maxHeartbeats 2000000 in
theorem order18_walk (C : Fetch At) (a : Int) (A : Option Addr) (len c : Nat) (ks : List Ft.Wn) (W : World) (ha : (Lit.int .u64 a).wf = true) (hA : IsList wcs Ft.Wn.Ok 66 W A len c ks) :
    Calls Try.prog 6 #[.int .u64 a, .slice A len c] W fun e w' => e = .returned (.bool true) ∧ Below W.heap.size W w' := by
  obtain ⟨x, rfl⟩ := di_of a ha
  have CC := Lib.hid C
  have HAA := Lib.hid hA
  have hcm := hA.max
  have hcl := hA.le
  have HAW := Lib.hid (awake18_any C W)
  clear C hA ha
  go_enter Try.func6, Try.ntmps6
  go_wp2_with fail
  refine HAW.out.mono ?_
  rintro e w1 ⟨rfl, k1⟩
  have K1 := Lib.hid k1
  clear k1
  by_cases hlen : len ≤ 20
  case neg =>
    have hlI : (20 : Int) < (len : Int) := by omega
    go_wp2
    go_ret
    exact ⟨rfl, K1.out.below (by omega) (fun _ _ => id)⟩
  have hlI : ¬ ((20 : Int) < (len : Int)) := by omega
  go_wp2_with fail
  have hnew := CC.out.new_on w1 3 9 2 (by omega)
  rw [show ((3 : Nat) : Int) = 3 from rfl, show ((9 : Nat) : Int) = 9 from rfl, show ((2 : Nat) : Int) = 2 from rfl] at hnew
  refine hnew.mono ?_
  clear hnew
  rintro e w3 ⟨g, F, rfl, a3, hF, k3⟩
  have K3 : Hid (Keeps (fun _ => False) W w3) := Lib.hid (K1.out.trans k3)
  have A3 := Lib.hid a3
  have HF3 : Hid (∀ j, F j → W.heap.size ≤ j) := Lib.hid (fun j hj => by have := hF j hj; have := K1.out.size; omega)
  clear a3 hF k3
  go_wp2_with fail
  go_loopw [8, 9] (fun nv iv wr => ∃ (i : Nat) (F' : Nat → Prop) (l : List Ft.Q), i ≤ len ∧ nv = .int .i64 (l.length : Int) ∧ iv = .int .i64 (i : Int) ∧ l.length ≤ i ∧ Hid (∀ q ∈ l, q.tries = 0 ∧ q.left = 1) ∧ Hid (At wr F' g ⟨3, 9, 2, l⟩) ∧ Hid (∀ j, F' j → W.heap.size ≤ j) ∧ Hid (Keeps (fun _ => False) W wr)) (fun _ iv _ => len - (intOf iv).toNat)
  case atStart => exact ⟨0, F, [], by omega, rfl, rfl, by simp, Lib.hid (fun q hq => by cases hq), A3, HF3, K3⟩
  case round =>
    clear A3 HF3 K1 K3 HAW
    obtain ⟨i, F', l, hi, rfl, rfl, hli, HFR, HG, HF, HK⟩ := hrel
    by_cases hlt : i < len
    · have hii : (i : Int) < (len : Int) := by omega
      obtain ⟨k, hx⟩ : ∃ k, ks[i]? = some k := ⟨_, List.getElem?_eq_getElem (by have := HAA.out.many; omega)⟩
      obtain ⟨ad, rfl, hkok, hkc⟩ := want_at18 HAA.out hx
      have hkw : ∀ j v, (wcs k)[j]? = some v → wr.cell? ((ad.add (i * 66)).add j) = some v := fun j v hv => (HK.out.cell (World.block_lt_of_cell? _ _ (hkc j v hv)) id).trans (hkc j v hv)
      have hs := CC.out.start k HG.out hkok
      have SKK : Hid ((Try.prog.info? 41).map (·.size) = some (wcs k).length) := Lib.hid (by rw [wcs_length hkok]; exact info_W)
      have HFR2 := Lib.hid (Ft.start_fresh k HFR.out)
      obtain ⟨KL, hKL⟩ : ∃ L, wcs k = L := ⟨_, rfl⟩
      rw [hKL] at hkw SKK hs
      have HKW := Lib.hid hkw
      have HS := Lib.hid hs
      clear hkc hkw hs hKL hx hkok
      rcases Bool.eq_false_or_eq_true (Ft.has l k) with hh | hh
      · have hse := Ft.start_has hh
        go_wp2_with (first
          | (refine wpList_load_any18 (by rfl) 41 (.tmp 36) (by rfl) (ad.add (i * 66)) (by rfl) KL _ HKW.out Try.underlying41 rfl SKK.out ?_)
          | fail)
        refine HS.out.mono ?_
        rintro e w5 ⟨F5, rfl, a5, hF5, k5⟩
        have A5 : Hid (At w5 F5 g ⟨3, 9, 2, l⟩) := Lib.hid (by rw [show Ft.start (⟨3, 9, 2, l⟩ : Ft.Tb).l k = l from hse] at a5; exact a5)
        have HF5 : Hid (∀ j, F5 j → W.heap.size ≤ j) := Lib.hid (fun j hj => by
          rcases hF5 j hj with h | h
          · exact HF.out j h
          · have := HK.out.size; omega)
        have K5 : Hid (Keeps (fun _ => False) W w5) := Lib.hid (HK.out.trans' k5 (fun j hj e => by have := HF.out j e; omega))
        clear a5 hF5 k5
        rw [show (!Ft.has (⟨3, 9, 2, l⟩ : Ft.Tb).l k) = false by rw [show Ft.has (⟨3, 9, 2, l⟩ : Ft.Tb).l k = true from hh]; rfl]
        go_wp2
        go_roundw
        case rel => exact ⟨i + 1, F5, l, by omega, rfl, by go_num, by omega, HFR, A5, HF5, K5⟩
        case measure => simp [intOf]; omega
      · have hse := Ft.start_not hh
        go_wp2_with (first
          | (refine wpList_load_any18 (by rfl) 41 (.tmp 36) (by rfl) (ad.add (i * 66)) (by rfl) KL _ HKW.out Try.underlying41 rfl SKK.out ?_)
          | fail)
        refine HS.out.mono ?_
        rintro e w5 ⟨F5, rfl, a5, hF5, k5⟩
        have A5 : Hid (At w5 F5 g ⟨3, 9, 2, Ft.start l k⟩) := Lib.hid a5
        have HF5 : Hid (∀ j, F5 j → W.heap.size ≤ j) := Lib.hid (fun j hj => by
          rcases hF5 j hj with h | h
          · exact HF.out j h
          · have := HK.out.size; omega)
        have K5 : Hid (Keeps (fun _ => False) W w5) := Lib.hid (HK.out.trans' k5 (fun j hj e => by have := HF.out j e; omega))
        clear a5 hF5 k5
        rw [show (!Ft.has (⟨3, 9, 2, l⟩ : Ft.Tb).l k) = true by rw [show Ft.has (⟨3, 9, 2, l⟩ : Ft.Tb).l k = false from hh]; rfl]
        go_wp2
        go_roundw
        case rel => exact ⟨i + 1, F5, Ft.start l k, by omega, by rw [hse]; go_num, by go_num, by omega, HFR2, A5, HF5, K5⟩
        case measure => simp [intOf]; omega
    · have hii : ¬ ((i : Int) < (len : Int)) := by omega
      obtain rfl : i = len := by omega
      go_wp2_with fail
      refine (Gm.dnew CC.out x HG.out HF.out HK.out).mono ?_
      rintro e w6 ⟨d, rfl, g6, _, _⟩
      obtain ⟨t1, t2, t3⟩ := Ft.tick_all_told (base := 3) (most := 9) (budget := 2) (by decide) x (l := l) (fun q hq => by have := HFR.out q hq; omega)
      have ht := g6.tick CC.out (show l.length ≤ 1000 by omega) (r := Ft.tick 3 9 2 x l) rfl
      obtain ⟨T, hT⟩ : ∃ T, Ft.tick 3 9 2 x l = T := ⟨_, rfl⟩
      rw [hT] at t1 t2 t3 ht
      have tn : T.l.length = l.length := by have := congrArg List.length t2; simpa using this
      obtain ⟨n, hn⟩ : ∃ n, l.length = n := ⟨_, rfl⟩
      rw [t1, t3, tn] at ht
      rw [hn] at ht tn hli ⊢
      have HT := Lib.hid ht
      have HTN := Lib.hid tn
      clear ht g6 t1 t2 t3 hT HG HF HK HFR tn hn
      go_wp2_with fail
      refine HT.out.mono ?_
      rintro e w7 ⟨F7, Ax, cx, Ay, cy, rfl, g7, o7, _, _⟩
      have G7 : Hid (Gm At W w7 F7 g d ⟨3, 9, 2, T.l⟩ T.s) := Lib.hid g7
      have O7 := Lib.hid o7
      clear g7 o7 HT
      simp only [List.length_nil]
      go_wp2_with fail
      refine (G7.out.open CC.out (show T.l.length ≤ 1000 by have := HTN.out; omega)).mono ?_
      rintro e w8 ⟨Ao, co, rfl, o8, g8, k8⟩
      have G8 := Lib.hid g8
      have O8 : Hid (w8.ownsRow w7.heap.size 41 66 (.slice Ao n co) n (wfl (Ft.keys T.l))) := Lib.hid (by rw [← HTN.out]; exact o8)
      have O78 := Lib.hid (k8.owns O7.out (fun _ _ => id))
      rw [show (⟨3, 9, 2, T.l⟩ : Ft.Tb).l.length = n from HTN.out]
      have HOK : Hid (∀ q ∈ T.l, Ft.Q.Ok q) := Lib.hid (fun q hq => ((CC.out.ok G8.out.at_).fine q hq).1)
      have HSO : Hid (T.l.Pairwise (fun a b => Ft.wless a.key b.key = true)) := Lib.hid (CC.out.ok G8.out.at_).sorted
      have HWK : Hid (∀ y ∈ Ft.keys T.l, Ft.Wn.Ok y) := Lib.hid (fun y hy => by obtain ⟨z, hz, rfl⟩ := List.mem_map.1 hy; exact HOK.out z hz)
      clear o8 g8 k8 O7 G7
      go_wp2_with fail
      go_loopw [13, 14] (fun iv _ wr => ∃ (i : Nat), i ≤ n ∧ iv = .int .i64 (i : Int) ∧ Hid (Keeps (fun _ => False) w8 wr)) (fun iv _ _ => n - (intOf iv).toNat)
      case atStart => exact ⟨0, by omega, rfl, Lib.hid (Keeps.refl _ _)⟩
      case round =>
        obtain ⟨i, hi, rfl, K⟩ := hrel
        by_cases hit : i < n
        · have hiI : (i : Int) < (n : Int) := by omega
          obtain ⟨g1, hg1⟩ := own_some66 O78.out (by omega)
          obtain ⟨g2, hg2⟩ := own_some66 O8.out (by omega)
          subst hg1
          subst hg2
          obtain ⟨q, hq⟩ : ∃ q, T.l[i]? = some q := ⟨_, List.getElem?_eq_getElem (by have := HTN.out; omega)⟩
          have hqm := List.mem_of_getElem? hq
          have hqok : Ft.Wn.Ok q.key := HOK.out q hqm
          have hqk : (Ft.keys T.l)[i]? = some q.key := by unfold Ft.keys; rw [List.getElem?_map, hq]; rfl
          have hx1 := range_keeps17 (own_w O78.out HWK.out hqk) K.out id
          have hx2 := range_keeps17 (own_w O8.out HWK.out hqk) K.out id
          have hhp := fun (V : World) (hV : Keeps (fun _ => False) wr V) => (G8.out.later CC.out (K.out.trans hV)).has CC.out q.key hqok
          have hht : Ft.has T.l q.key = true := Ft.has_iff.2 ⟨q, hqm, rfl⟩
          have E1 : Hid (∀ V : World, (binOp .neq 41 (.agg (wcs q.key).toArray) (.agg (wcs q.key).toArray)).run Try.prog V = .ok (.bool false) V) := Lib.hid (fun V => by have h := run_neq_want q.key q.key hqok hqok V; rwa [decide_eq_true rfl] at h)
          have SX1 : Hid ((Try.prog.info? 41).map (·.size) = some (wcs q.key).length) := Lib.hid (by rw [wcs_length hqok]; exact info_W)
          obtain ⟨X1, hX1⟩ : ∃ K, wcs q.key = K := ⟨_, rfl⟩
          rw [hX1] at hx1 hx2 E1 SX1 hhp
          have HX1 : Hid (∀ V, Keeps (fun _ => False) wr V → V.rangeAt g1 (i * 66) X1) := Lib.hid (fun V hV => range_keeps17 hx1 hV id)
          have HX2 : Hid (∀ V, Keeps (fun _ => False) wr V → V.rangeAt g2 (i * 66) X1) := Lib.hid (fun V hV => range_keeps17 hx2 hV id)
          have HHP : Hid (∀ V, Keeps (fun _ => False) wr V → Calls Try.prog 20 #[.pointer (some ⟨g, 0, none⟩), .agg X1.toArray] V fun e w' => e = .returned (.bool true) ∧ Keeps (fun _ => False) wr w' ∧ True) := Lib.hid (fun V hV => (hhp V hV).mono (fun e w' h => ⟨by rw [h.1]; exact congrArg (fun b => Ending.returned (Value.bool b)) hht, hV.trans h.2.2, trivial⟩))
          have HQ := Lib.hid (And.intro hq (And.intro hX1 hqok))
          clear hx1 hx2 hhp hht hX1 hqk hqm hq hqok
          go_wp2_with fail
          refine wp_region_stores 18 [15] [0, 1, 2, 3, 4, 5, 6, 7, 8, 9, 10, 11, 12, 13, 14, 15, 16, 17] (fun V => Keeps (fun _ => False) wr V) (fun V => True) (by kernel_rfl) (by kernel_rfl) (fun _ _ h k => h.trans k) (fun _ _ h _ => h) (((Keeps.refl _ _).drew)) (trivial) ?_
          refine T_quiet (get_op rfl) (by rfl) (by rfl) (by rfl) ?_
          intro K hK
          go_big_quiet_op
          first | go_big_quiet_on | go_big_quiet_call ((intro _; rfl))
          refine T_quiet (get_op rfl) (by rfl) (by rfl) (by rfl) ?_
          intro K hK
          go_big_quiet_op
          first | go_big_quiet_on | go_big_quiet_call ((intro _; rfl))
          refine T_value (get_op rfl) (by rfl) (by rfl) (.pointer (some ⟨g1, i * 66, none⟩)) (fun _ _ => by go_simp) ?_
          simp only [Act.put, List.setIfInBounds_toArray, List.set_cons_zero, List.set_cons_succ]
          refine T_load (get_op rfl) (by rfl) (by rfl) 41 (.tmp 72) (by rfl) g1 (i * 66) (by rfl) X1 _ (fun V hV => HX1.out V hV) Try.underlying41 rfl SX1.out ?_
          simp only [Act.put, List.setIfInBounds_toArray, List.set_cons_zero, List.set_cons_succ]
          refine T_quiet (get_op rfl) (by rfl) (by rfl) (by rfl) ?_
          intro K hK
          go_big_quiet_op
          first | go_big_quiet_on | go_big_quiet_call ((intro _; rfl))
          refine T_quiet (get_op rfl) (by rfl) (by rfl) (by rfl) ?_
          intro K hK
          go_big_quiet_op
          first | go_big_quiet_on | go_big_quiet_call ((intro _; rfl))
          refine T_value (get_op rfl) (by rfl) (by rfl) (.pointer (some ⟨g2, i * 66, none⟩)) (fun _ _ => by go_simp) ?_
          simp only [Act.put, List.setIfInBounds_toArray, List.set_cons_zero, List.set_cons_succ]
          refine T_load (get_op rfl) (by rfl) (by rfl) 41 (.tmp 76) (by rfl) g2 (i * 66) (by rfl) X1 _ (fun V hV => HX2.out V hV) Try.underlying41 rfl SX1.out ?_
          simp only [Act.put, List.setIfInBounds_toArray, List.set_cons_zero, List.set_cons_succ]
          refine T_eq (get_op rfl) (by rfl) (by rfl) .neq 41 _ (.tmp 73) (.tmp 77) (by rfl) X1.toArray X1.toArray (by rfl) (by rfl) (by kernel_rfl) (.bool false) (E1.out) ?_
          simp only [Act.put, List.setIfInBounds_toArray, List.set_cons_zero, List.set_cons_succ]
          refine T_quiet (get_op rfl) (by rfl) (by rfl) (by rfl) ?_
          intro K hK
          go_big_quiet_op
          first | go_big_quiet_on | go_big_quiet_call ((intro _; rfl))
          refine T_quiet (get_op rfl) (by rfl) (by rfl) (by rfl) ?_
          intro K hK
          go_big_quiet_op
          first | go_big_quiet_on | go_big_quiet_call ((intro _; rfl))
          refine T_quiet (get_op rfl) (by rfl) (by rfl) (by rfl) ?_
          intro K hK
          go_big_quiet_op
          first | go_big_quiet_on | go_big_quiet_call ((intro _; rfl))
          refine T_quiet (get_op rfl) (by rfl) (by rfl) (by rfl) ?_
          intro K hK
          go_big_quiet_op
          first | go_big_quiet_on | go_big_quiet_call ((intro _; rfl))
          refine T_value (get_op rfl) (by rfl) (by rfl) (.pointer (some ⟨g1, i * 66, none⟩)) (fun _ _ => by go_simp) ?_
          simp only [Act.put, List.setIfInBounds_toArray, List.set_cons_zero, List.set_cons_succ]
          refine T_load (get_op rfl) (by rfl) (by rfl) 41 (.tmp 83) (by rfl) g1 (i * 66) (by rfl) X1 _ (fun V hV => HX1.out V hV) Try.underlying41 rfl SX1.out ?_
          simp only [Act.put, List.setIfInBounds_toArray, List.set_cons_zero, List.set_cons_succ]
          refine T_enter (get_op rfl) (by rfl) (by rfl) _ _ (.bool true) (fun _ => by go_simp) (fun V => True) (fun _ _ h _ => h) (fun V hb hf => HHP.out V hb) ?_
          simp only [Act.put, List.setIfInBounds_toArray, List.set_cons_zero, List.set_cons_succ]
          refine T_value (get_op rfl) (by rfl) (by rfl) (.bool false) (fun _ _ => by go_simp) ?_
          simp only [Act.put, List.setIfInBounds_toArray, List.set_cons_zero, List.set_cons_succ]
          refine T_value (get_op rfl) (by rfl) (by rfl) (.bool false) (fun _ _ => by go_simp) ?_
          simp only [Act.put, List.setIfInBounds_toArray, List.set_cons_zero, List.set_cons_succ]
          refine T_nil ?_
          intro w10 k10 _
          simp only [List.drop_succ_cons, List.drop_zero]
          have K10 := Lib.hid k10
          clear k10 HHP
          go_wp2_with fail
          go_loopw [14] (fun kv wr => ∃ (k : Nat), k ≤ i ∧ kv = .int .i64 (k : Int) ∧ Hid (Keeps (fun _ => False) w8 wr)) (fun kv _ => i - (intOf kv).toNat)
          case atStart => exact ⟨0, by omega, rfl, Lib.hid (K.out.trans K10.out)⟩
          case round =>
            clear K K10 HX1 HX2 E1
            obtain ⟨k, hk, rfl, K⟩ := hrel
            by_cases hki : k < i
            · have hkI : (k : Int) < (i : Int) := by omega
              have hkn : (k : Int) < (n : Int) := by omega
              obtain ⟨r, hr⟩ : ∃ q, T.l[k]? = some q := ⟨_, List.getElem?_eq_getElem (by have := HTN.out; omega)⟩
              have hrm := List.mem_of_getElem? hr
              have hrok : Ft.Wn.Ok r.key := HOK.out r hrm
              have hrk : (Ft.keys T.l)[k]? = some r.key := by unfold Ft.keys; rw [List.getElem?_map, hr]; rfl
              have hqk : (Ft.keys T.l)[i]? = some q.key := by unfold Ft.keys; rw [List.getElem?_map, HQ.out.1]; rfl
              have hless : Ft.wless r.key q.key = true := by
                obtain ⟨h1, h2⟩ := List.getElem?_eq_some_iff.1 hr
                obtain ⟨h3, h4⟩ := List.getElem?_eq_some_iff.1 HQ.out.1
                have h := List.pairwise_iff_getElem.1 HSO.out k i h1 h3 hki
                rwa [h2, h4] at h
              have hxk := range_keeps17 (own_w O78.out HWK.out hrk) K.out id
              have hx1 := range_keeps17 (own_w O78.out HWK.out hqk) K.out id
              have hsz := Ft.wless_size hless
              have E2 : Hid (∀ V : World, (binOp .eql 41 (.agg (wcs r.key).toArray) (.agg X1.toArray)).run Try.prog V = .ok (.bool false) V) := Lib.hid (fun V => by have h := run_eql_want r.key q.key hrok HQ.out.2.2 V; rw [decide_eq_false (Ft.wless_ne hless), HQ.out.2.1] at h; exact h)
              have SXK : Hid ((Try.prog.info? 41).map (·.size) = some (wcs r.key).length) := Lib.hid (by rw [wcs_length hrok]; exact info_W)
              obtain ⟨s1, hs1⟩ : ∃ s, r.key.1.1 = s := ⟨_, rfl⟩
              obtain ⟨s2, hs2⟩ : ∃ s, q.key.1.1 = s := ⟨_, rfl⟩
              rw [hs1, hs2] at hsz
              have HC1 : Hid (∀ V, Keeps (fun _ => False) wr V → V.cell? ⟨g1, k * 66, none⟩ = some (.int .u64 (s1 : Int))) := Lib.hid (fun V hV => by rw [← hs1]; exact want_size18 (range_keeps17 hxk hV id))
              have HC2 : Hid (∀ V, Keeps (fun _ => False) wr V → V.cell? ⟨g1, i * 66, none⟩ = some (.int .u64 (s2 : Int))) := Lib.hid (fun V hV => by rw [← hs2]; exact want_size18 (range_keeps17 hx1 hV id))
              obtain ⟨XK, hXK⟩ : ∃ K, wcs r.key = K := ⟨_, rfl⟩
              rw [hXK] at hxk E2 SXK
              rw [HQ.out.2.1] at hx1
              have HX1 : Hid (∀ V, Keeps (fun _ => False) wr V → V.rangeAt g1 (i * 66) X1) := Lib.hid (fun V hV => range_keeps17 hx1 hV id)
              have HXK : Hid (∀ V, Keeps (fun _ => False) wr V → V.rangeAt g1 (k * 66) XK) := Lib.hid (fun V hV => range_keeps17 hxk hV id)
              have hgt : ¬ ((s2 : Int) < (s1 : Int)) := by omega
              have hgd : decide ((s2 : Int) < (s1 : Int)) = false := decide_eq_false hgt
              clear hxk hx1 hXK hs1 hs2 hless hrk hqk hrm hr hrok
              go_wp2_with fail
              refine wp_region_stores 24 [] [0, 1, 2, 3, 4, 5, 6, 7, 8, 9, 10, 11, 12, 13, 14, 15, 16, 17, 18, 19, 20, 21, 22, 23] (fun V => Keeps (fun _ => False) wr V) (fun V => True) (by kernel_rfl) (by kernel_rfl) (fun _ _ h k => h.trans k) (fun _ _ h _ => h) (((Keeps.refl _ _).drew)) (trivial) ?_
              refine T_quiet (get_op rfl) (by rfl) (by rfl) (by rfl) ?_
              intro K hK
              go_big_quiet_op
              first | go_big_quiet_on | go_big_quiet_call ((intro _; rfl))
              refine T_quiet (get_op rfl) (by rfl) (by rfl) (by rfl) ?_
              intro K hK
              go_big_quiet_op
              first | go_big_quiet_on | go_big_quiet_call ((intro _; rfl))
              refine T_value (get_op rfl) (by rfl) (by rfl) (.pointer (some ⟨g1, k * 66, none⟩)) (fun _ _ => by go_simp) ?_
              simp only [Act.put, List.setIfInBounds_toArray, List.set_cons_zero, List.set_cons_succ]
              refine T_load (get_op rfl) (by rfl) (by rfl) 41 (.tmp 95) (by rfl) g1 (k * 66) (by rfl) XK _ (fun V hV => HXK.out V hV) Try.underlying41 rfl SXK.out ?_
              simp only [Act.put, List.setIfInBounds_toArray, List.set_cons_zero, List.set_cons_succ]
              refine T_quiet (get_op rfl) (by rfl) (by rfl) (by rfl) ?_
              intro K hK
              go_big_quiet_op
              first | go_big_quiet_on | go_big_quiet_call ((intro _; rfl))
              refine T_quiet (get_op rfl) (by rfl) (by rfl) (by rfl) ?_
              intro K hK
              go_big_quiet_op
              first | go_big_quiet_on | go_big_quiet_call ((intro _; rfl))
              refine T_value (get_op rfl) (by rfl) (by rfl) (.pointer (some ⟨g1, i * 66, none⟩)) (fun _ _ => by go_simp) ?_
              simp only [Act.put, List.setIfInBounds_toArray, List.set_cons_zero, List.set_cons_succ]
              refine T_load (get_op rfl) (by rfl) (by rfl) 41 (.tmp 99) (by rfl) g1 (i * 66) (by rfl) X1 _ (fun V hV => HX1.out V hV) Try.underlying41 rfl SX1.out ?_
              simp only [Act.put, List.setIfInBounds_toArray, List.set_cons_zero, List.set_cons_succ]
              refine T_eq (get_op rfl) (by rfl) (by rfl) .eql 41 _ (.tmp 96) (.tmp 100) (by rfl) XK.toArray X1.toArray (by rfl) (by rfl) (by kernel_rfl) (.bool false) (E2.out) ?_
              simp only [Act.put, List.setIfInBounds_toArray, List.set_cons_zero, List.set_cons_succ]
              refine T_quiet (get_op rfl) (by rfl) (by rfl) (by rfl) ?_
              intro K hK
              go_big_quiet_op
              first | go_big_quiet_on | go_big_quiet_call ((intro _; rfl))
              refine T_quiet (get_op rfl) (by rfl) (by rfl) (by rfl) ?_
              intro K hK
              go_big_quiet_op
              first | go_big_quiet_on | go_big_quiet_call ((intro _; rfl))
              refine T_quiet (get_op rfl) (by rfl) (by rfl) (by rfl) ?_
              intro K hK
              go_big_quiet_op
              first | go_big_quiet_on | go_big_quiet_call ((intro _; rfl))
              refine T_value (get_op rfl) (by rfl) (by rfl) (.pointer (some ⟨g1, k * 66, none⟩)) (fun _ _ => by go_simp) ?_
              simp only [Act.put, List.setIfInBounds_toArray, List.set_cons_zero, List.set_cons_succ]
              refine T_value (get_op rfl) (by rfl) (by rfl) (.pointer (some ⟨g1, k * 66, none⟩)) (fun _ _ => by go_simp) ?_
              simp only [Act.put, List.setIfInBounds_toArray, List.set_cons_zero, List.set_cons_succ]
              refine T_value (get_op rfl) (by rfl) (by rfl) (.pointer (some ⟨g1, k * 66, none⟩)) (fun _ _ => by go_simp) ?_
              simp only [Act.put, List.setIfInBounds_toArray, List.set_cons_zero, List.set_cons_succ]
              refine T_cell (get_op rfl) (by rfl) (by rfl) 22 (.tmp 107) (by rfl) ⟨g1, k * 66, none⟩ (by rfl) (.int .u64 (s1 : Int)) _ (fun V hV => HC1.out V hV) Try.underlying22 rfl ?_
              simp only [Act.put, List.setIfInBounds_toArray, List.set_cons_zero, List.set_cons_succ]
              refine T_quiet (get_op rfl) (by rfl) (by rfl) (by rfl) ?_
              intro K hK
              go_big_quiet_op
              first | go_big_quiet_on | go_big_quiet_call ((intro _; rfl))
              refine T_quiet (get_op rfl) (by rfl) (by rfl) (by rfl) ?_
              intro K hK
              go_big_quiet_op
              first | go_big_quiet_on | go_big_quiet_call ((intro _; rfl))
              refine T_value (get_op rfl) (by rfl) (by rfl) (.pointer (some ⟨g1, i * 66, none⟩)) (fun _ _ => by go_simp) ?_
              simp only [Act.put, List.setIfInBounds_toArray, List.set_cons_zero, List.set_cons_succ]
              refine T_value (get_op rfl) (by rfl) (by rfl) (.pointer (some ⟨g1, i * 66, none⟩)) (fun _ _ => by go_simp) ?_
              simp only [Act.put, List.setIfInBounds_toArray, List.set_cons_zero, List.set_cons_succ]
              refine T_value (get_op rfl) (by rfl) (by rfl) (.pointer (some ⟨g1, i * 66, none⟩)) (fun _ _ => by go_simp) ?_
              simp only [Act.put, List.setIfInBounds_toArray, List.set_cons_zero, List.set_cons_succ]
              refine T_cell (get_op rfl) (by rfl) (by rfl) 22 (.tmp 113) (by rfl) ⟨g1, i * 66, none⟩ (by rfl) (.int .u64 (s2 : Int)) _ (fun V hV => HC2.out V hV) Try.underlying22 rfl ?_
              simp only [Act.put, List.setIfInBounds_toArray, List.set_cons_zero, List.set_cons_succ]
              refine T_value (get_op rfl) (by rfl) (by rfl) (.bool false) (fun _ _ => by go_simp) ?_
              simp only [Act.put, List.setIfInBounds_toArray, List.set_cons_zero, List.set_cons_succ]
              refine T_value (get_op rfl) (by rfl) (by rfl) (.bool false) (fun _ _ => by go_simp) ?_
              simp only [Act.put, List.setIfInBounds_toArray, List.set_cons_zero, List.set_cons_succ]
              refine T_nil ?_
              intro w12 k12 _
              simp only [List.drop_succ_cons, List.drop_zero]
              have K12 := Lib.hid (K.out.trans k12)
              clear k12 HC1 HC2 HX1 HXK
              go_wp2
              go_roundw
              case rel => exact ⟨k + 1, by omega, by go_num, K12⟩
              case measure => simp [intOf]; omega
            · obtain rfl : i = k := by omega
              have hkI : ¬ ((i : Int) < (i : Int)) := by omega
              go_wp2
              go_roundw
              case rel => exact ⟨i + 1, by omega, by go_num, K⟩
              case measure => simp [intOf]; omega
        · obtain rfl : n = i := by omega
          have hiI : ¬ ((n : Int) < (n : Int)) := by omega
          have K9 := Lib.hid (G8.out.keeps.trans K.out)
          go_wp2
          go_ret
          exact ⟨rfl, K9.out.below (by omega) (fun _ _ => id)⟩
theorem order18_all (C : Fetch At) (a0 : Int) (A : Option Addr) (len c : Nat) (ks : List Ft.Wn) (W : World) (w0 : (Lit.int .u64 a0).wf = true) (w1 : IsActs W A len c ks) :
    Calls Try.prog 6 #[.int .u64 a0, .slice A len c] W fun e w' => e = .returned (.bool true) ∧ Below W.heap.size W w' := order18_walk C a0 A len c ks W w0 w1
end Go.Proofs.Ythnpgiagajfaiaa
