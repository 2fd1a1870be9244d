/-
  DiceAll: who picks all has all, in some order; nobody is drawn for where there is no choice.
-/
import Derived.Test.YtecdeogbponplaaDiD
import Derived.Test.YtecdeogbponplaaDiS
import Derived.Test.YtecdeogbponplaaRowU
namespace Go.Proofs.Ytecdeogbponplaa
open Go.RowKit Go.BigFrame
set_option linter.unusedVariables false
set_option linter.unusedSimpArgs false

theorem make_thirty (V : World) : (Instr.makeSlice 37 (.int .i64 30) (.int .i64 30)).run Try.prog V = .ok (.slice (some ⟨V.heap.size, 0, none⟩) 30 30) (V.alloc (.cells (sv 1 30 []).toArray 4)) := by
  rw [sv_nil]
  kernel_rfl
theorem own_one17 {w : World} {base : Nat} {A : Option Addr} {c k : Nat} {v : Value} {xs : List Value} {n : Nat} (h : w.ownsRow base 3 1 (.slice A n c) n xs) (hk : xs[k]? = some v) : ∃ g, A = some ⟨g, 0, none⟩ ∧ w.cell? ⟨g, k, none⟩ = some v := by
  obtain ⟨a, rfl, hc⟩ := (Src.of_own h) k v hk
  rcases h.2 with ⟨h1, _⟩ | ⟨g, cap, cur, h1, _⟩
  · cases h1
  · injection h1 with h1
    injection h1 with h1
    subst h1
    exact ⟨g, rfl, by rwa [add_plain, Nat.zero_add] at hc⟩
theorem pick_seven (x : BitVec 64) : Di.pick x [7] 1 = ⟨x, [], [7]⟩ := by
  show Di.go ⟨x, [7], []⟩ = _
  rw [Di.go_some (by show 0 < 1; omega)]
  show (⟨(Di.bel x 1).1, [7].eraseIdx (Di.bel x 1).2, [] ++ [[7].getD (Di.bel x 1).2 0]⟩ : Di.Ds) = _
  rw [Di.bel_low (by decide)]
  rfl
theorem pick_nil (x : BitVec 64) : Di.pick x [] 4 = ⟨x, [], []⟩ := rfl
set_option maxRecDepth 100000 in
set_option maxHeartbeats 4000000 in
theorem all_go (x : BitVec 64) (n : Nat) (W : World) (hn : n ≤ 255) :
    Calls Try.prog 7 #[.int .u64 (di x), .int .u8 (n : Int)] W fun e w' => e = .returned (.bool true) ∧ Keeps (fun _ => False) W w' := by
  have HAW := Lib.hid (awake17_any W)
  obtain ⟨k, hk⟩ : ∃ k, n % 30 = k := ⟨_, rfl⟩
  have hk30 : k < 30 := by omega
  have hkI : (n : Int) % 30 = (k : Int) := by omega
  obtain ⟨ih, zh, hih, hzh, hsh, hbh, hzsh⟩ := info_in
  have HII := Lib.hid (And.intro hih (And.intro hzh (And.intro hsh (And.intro hbh hzsh))))
  clear hih hzh hsh hbh hzsh
  obtain ⟨Z4, hZ4⟩ : ∃ Z, (sv 1 30 []).toArray = Z := ⟨_, rfl⟩
  go_enter Try.func7, Try.ntmps7
  go_wp2_with fail
  refine HAW.out.mono ?_
  rintro e w1 ⟨rfl, k1⟩
  have K1 := Lib.hid k1
  clear k1
  go_wp2_with fail
  obtain ⟨B, hB⟩ : ∃ B, W.heap.size = B := ⟨_, rfl⟩
  have HB := Lib.hid hB
  have HBW1 := Lib.hid (show B ≤ w1.heap.size by have := K1.out.size; omega)
  clear hB
  simp only [hkI]
  clear hkI hk
  go_loopw [7, 8] (fun lv iv wr => ∃ (i : Nat) (A : Option Addr) (c : Nat), i ≤ k ∧ lv = .slice A i c ∧ iv = .int .i64 (i : Int) ∧ Hid (wr.ownsRow B 3 1 (.slice A i c) i (ivs (tms 1 i))) ∧ Hid (Keeps (fun _ => False) W wr)) (fun _ iv _ => k - (intOf iv).toNat)
  case atStart => exact ⟨0, none, 0, by omega, rfl, rfl, Lib.hid (World.ownsRow_nil _ _ _ _), K1⟩
  case round =>
    obtain ⟨i, A, c, hi, rfl, rfl, HO, HK⟩ := hrel
    by_cases hlt : i < k
    · have hii : (i : Int) < (k : Int) := by omega
      obtain ⟨V1, hV1⟩ : ∃ V, wr.alloc (.cells #[.int .i64 ((i : Int))] 3) = V := ⟨_, rfl⟩
      have kv1 : Keeps (fun _ => False) wr V1 := by rw [← hV1]; exact (Keeps.refl _ _).alloc _
      have rv1 : V1.heap[wr.heap.size]? = some (.cells [Value.int .i64 ((i : Int))].toArray 3 (0, 0)) := by rw [← hV1]; exact heap_alloc_new wr _
      have HBI := Lib.hid (build_int ((i : Int)) wr)
      rw [hV1] at HBI
      have KV1 := Lib.hid kv1
      have RV1 : Hid (Src V1 (some ⟨wr.heap.size, 0, none⟩) [Value.int .i64 ((i : Int))]) := Lib.hid (fun j u hu => ⟨_, rfl, World.news_of_block rv1 j u hu⟩)
      have HBV : Hid (B ≤ V1.heap.size) := Lib.hid (by have := HK.out.size; have := HB.out; have := kv1.size; omega)
      clear kv1 rv1 hV1
      go_wp2_with (first
        | (refine wpList_buildSlice_run17 (by rfl) 23 1 0 _ (by rfl) _ _ (by rfl) HBI.out ?_)
        | (refine wpList_append_src _ (by rfl) _ _ 23 (by rfl) B 3 ih zh 8 Try.underlying23 HII.out.1 HII.out.2.1 HII.out.2.2.1 HII.out.2.2.2.1 HII.out.2.2.2.2 (.slice A i c) i (ivs (tms 1 i)) (by rfl) (KV1.out.owns HO.out (fun _ _ => id)) (some ⟨wr.heap.size, 0, none⟩) 1 1 [.int .i64 ((i : Int))] (by rfl) (by rfl) RV1.out (by intro u hu; cases hu with | head => rfl | tail _ h => cases h) (by unfold maxLen; omega) (by omega) HBV.out ?_; intro v3 V3 ho3 hg3 _; have HO3 := Lib.hid ho3; have HG3 := Lib.hid hg3; obtain ⟨A4, c4, rfl⟩ := own_slice ho3; clear ho3 hg3)
        | fail)
      have HO4 : Hid (V3.ownsRow B 3 1 (.slice A4 (i + 1) c4) (i + 1) (ivs (tms 1 i ++ [(i : Int)]))) := Lib.hid (by rw [← ivs_append]; exact HO3.out)
      have KP : Hid (Keeps (fun _ => False) W V3) := Lib.hid (by
        have ho2 := KV1.out.owns HO.out (fun _ _ => id)
        exact (HK.out.trans KV1.out).trans' (T := fun j => (Value.slice A i c).ownBlock = some j) ((Keeps.refl _ _).grown HG3.out (fun _ _ h => h)) (fun j hj e => by
          obtain ⟨_, _, hbk⟩ := own_block ho2 j e
          have := HB.out
          omega))
      clear HO3 HG3
      go_roundw
      case rel => exact ⟨i + 1, A4, c4, by omega, rfl, by go_num, Lib.hid (by rw [tms_snoc, Int.one_mul]; exact HO4.out), KP⟩
      case measure => simp [intOf]; omega
    · obtain rfl : i = k := by omega
      have hsrc := Src.of_own HO.out
      have hAc : A = none → c = 0 := fun h => by
        rcases HO.out.2 with ⟨h1, _⟩ | ⟨_, _, _, h1, _⟩
        · injection h1
        · subst h; injection h1 with h1; cases h1
      have HSR := Lib.hid hsrc
      have HAC := Lib.hid hAc
      clear hsrc hAc
      go_wp2_with fail
      refine (dnew_any wr x).mono ?_
      rintro e w3 ⟨g, rfl, hg, d3, k3⟩
      have hp := pick_any w3 g x A c (tms 1 i) ((i : Int) + 3) d3 (HSR.out.keeps k3 (fun _ _ _ => id)) HAC.out (by rw [tms_length]; omega) (by simp [Lit.wf, IntKind.min, IntKind.max, IntKind.signed, IntKind.bits]; omega)
      rw [tms_length] at hp
      obtain ⟨hnd, hmem⟩ := pick_some 1 (by omega) i x ((i : Int) + 3)
      have hlen := Di.pick_length x (tms 1 i) ((i : Int) + 3)
      have hpm := Di.pick_perm x (tms 1 i) ((i : Int) + 3)
      rw [tms_length] at hlen
      obtain ⟨L, hL⟩ : ∃ L, (Di.pick x (tms 1 i) ((i : Int) + 3)).out = L := ⟨_, rfl⟩
      rw [hL] at hp hnd hmem hlen hpm
      have hli : L.length = i := by omega
      have hps : L.Perm (tms 1 i) := by
        have h1 := hpm.length_eq
        rw [List.length_append, tms_length] at h1
        rw [List.eq_nil_of_length_eq_zero (show (Di.pick x (tms 1 i) ((i : Int) + 3)).left.length = 0 by omega), List.append_nil] at hpm
        exact hpm
      have hsum : 2 * L.sum = (i : Int) * ((i : Int) - 1) := by rw [perm_sum hps]; exact tms_sum i
      rw [hli] at hp
      have HP := Lib.hid hp
      have HND := Lib.hid (And.intro hnd (And.intro hmem (And.intro hli hsum)))
      have K3 := Lib.hid (HK.out.trans k3)
      have HGW := Lib.hid (show W.heap.size ≤ g ∧ wr.heap.size = g by have := HK.out.size; omega)
      clear hp hnd hmem hL hli hlen hpm hps hsum d3 k3 hg
      go_wp2_with fail
      refine HP.out.mono ?_
      rintro e w4 ⟨v, rfl, d4, o4, k4⟩
      obtain ⟨A5, c5, rfl⟩ := own_slice o4
      have O4 := Lib.hid (own_base o4 (show B ≤ w3.heap.size by have := K3.out.size; have := HB.out; omega))
      have K4 := Lib.hid (K3.out.trans' k4 (fun j hj e => by have := HGW.out; omega))
      clear d4 o4 k4
      have hmk : ∀ V : World, (Instr.makeSlice 37 (.int .i64 30) (.int .i64 30)).run Try.prog V = .ok (.slice (some ⟨V.heap.size, 0, none⟩) 30 30) (V.alloc (.cells Z4 4)) := fun V => by rw [← hZ4]; exact make_thirty V
      obtain ⟨gs, hgs⟩ : ∃ x, w4.heap.size = x := ⟨_, rfl⟩
      obtain ⟨W5, hW5⟩ : ∃ V, w4.alloc (.cells Z4 4) = V := ⟨_, rfl⟩
      have k5 : Keeps (fun _ => False) w4 W5 := by rw [← hW5]; exact (Keeps.refl _ _).alloc _
      have R5 : Hid (Row W5 gs 4 (sv 1 30 [])) := Lib.hid (by
        rw [← hW5, ← hgs]
        have h := heap_alloc_new w4 (.cells Z4 4)
        rw [← hZ4] at h ⊢
        exact h)
      have K5 := Lib.hid (K4.out.trans k5)
      have O5 := Lib.hid (k5.owns O4.out (fun _ _ => id))
      have HGS : Hid (W.heap.size ≤ gs) := Lib.hid (by have := K4.out.size; omega)
      clear k5
      go_wp2_with fail
      go_loopw [10, 12] (fun sm iv wr => ∃ q : Nat, q ≤ i ∧ sm = .int .i64 (L.take q).sum ∧ iv = .int .i64 (q : Int) ∧ Hid (Row wr gs 4 (sv 1 30 (L.take q))) ∧ Hid (wr.ownsRow B 3 1 (.slice A5 i c5) i (ivs L)) ∧ Hid (Keeps (fun _ => False) W wr)) (fun _ iv _ => i - (intOf iv).toNat)
      case atStart => exact ⟨0, by omega, rfl, rfl, R5, O5, K5⟩
      case round =>
        obtain ⟨q, hq, rfl, rfl, RQ, OQ, KQ⟩ := hrel
        by_cases hql : q < i
        · have hqi : (q : Int) < (i : Int) := by omega
          obtain ⟨xv, hxv⟩ : ∃ xv, L[q]? = some xv := ⟨_, List.getElem?_eq_getElem (by have := HND.out.2.2.1; omega)⟩
          obtain ⟨j, hj, hxj⟩ := tms_mem (HND.out.2.1 xv (List.mem_of_getElem? hxv))
          have hfr := fresh_at HND.out.1 hxv
          obtain ⟨hqL, hx⟩ := List.getElem?_eq_some_iff.1 hxv
          have htk : L.take (q + 1) = L.take q ++ [1 * (j : Int)] := by rw [List.take_succ_eq_append_getElem hqL, hx, hxj]
          have hsm : (L.take (q + 1)).sum = (L.take q).sum + (j : Int) := by rw [htk, List.sum_append]; simp
          have hbd := sum_bound 30 (L.take q) (fun y hy => by
            obtain ⟨r, hr, hy'⟩ := tms_mem (HND.out.2.1 y (List.mem_of_mem_take hy))
            omega)
          rw [List.length_take] at hbd
          obtain ⟨S, hS⟩ : ∃ S, (L.take q).sum = S := ⟨_, rfl⟩
          rw [hS] at hbd hsm ⊢
          have hbs : 0 ≤ S ∧ S ≤ 1000 := by omega
          have HSM := Lib.hid hsm
          rw [Int.one_mul] at hxj
          subst hxj
          obtain ⟨ad, rfl, hc⟩ := Src.of_own OQ.out q (.int .i64 (j : Int)) (by rw [ivs_get, hxv]; rfl)
          have cs : wr.cell? ⟨gs, j, none⟩ = some (.bool false) := by rw [RQ.out.cell, sv_get _ _ _ _ (by omega), Int.one_mul, decide_eq_false hfr]
          have fs : wr.frozen? ⟨gs, j, none⟩ = false := RQ.out.frozen j
          obtain ⟨w7, hw7⟩ : ∃ V, wr.setCell ⟨gs, j, none⟩ (.bool true) = V := ⟨_, rfl⟩
          have R7 : Hid (Row w7 gs 4 (sv 1 30 (L.take (q + 1)))) := Lib.hid (by
            rw [← hw7, htk, ← sv_set 1 (by omega)]
            exact RQ.out.set j _)
          have k7 : Keeps (fun b => b = gs) wr w7 := by rw [← hw7]; exact (Keeps.refl (fun b => b = gs) wr).setCell (p := ⟨gs, j, none⟩) (fun _ => rfl) _
          have c7 : w7.cell? (ad.add q) = some (.int .i64 (j : Int)) := by
            obtain ⟨ad', e', h'⟩ := Src.of_own (k7.owns OQ.out (fun b hb e => own_apart OQ.out RQ.out (by decide) b hb e)) q (.int .i64 (j : Int)) (by rw [ivs_get, hxv]; rfl)
            injection e' with e'
            subst e'
            exact h'
          have O7 := Lib.hid (k7.owns OQ.out (fun b hb e => own_apart OQ.out RQ.out (by decide) b hb e))
          have K7 := Lib.hid (KQ.out.trans' k7 (fun b hb e => by have := HGS.out; omega))
          have hj30 : j < 30 := by omega
          have hji : (j : Int) < (i : Int) := by omega
          clear hfr hxv k7 hqL hx htk hsm hbd hS
          go_wp2
          go_roundw
          case rel => exact ⟨q + 1, by omega, by rw [HSM.out], by go_num, R7, O7, K7⟩
          case measure => simp [intOf]; omega
        · obtain rfl : q = i := by omega
          obtain ⟨S, hS⟩ : ∃ S, (L.take q).sum = S := ⟨_, rfl⟩
          rw [List.take_of_length_le (by have := HND.out.2.2.1; omega)] at hS
          have hS2 : (L.take q).sum = S := by rw [List.take_of_length_le (by have := HND.out.2.2.1; omega)]; exact hS
          have hbd := sum_bound 30 L (fun y hy => by
            obtain ⟨r, hr, hy'⟩ := tms_mem (HND.out.2.1 y hy)
            omega)
          have hql' := HND.out.2.2.1
          have hss := HND.out.2.2.2
          rw [hS] at hbd hss
          rw [hS2]
          obtain ⟨T, hT⟩ : ∃ T, (q : Int) * ((q : Int) - 1) = T := ⟨_, rfl⟩
          rw [hT] at hss
          have hTb : 0 ≤ T ∧ T ≤ 2000 := by omega
          have hTd : T.tdiv 2 = S := by rw [Int.tdiv_eq_ediv_of_nonneg (by omega)]; omega
          have hSe : (S == S) = true := by simp
          have HT := Lib.hid (And.intro hT (And.intro hTb (And.intro hTd hSe)))
          clear hS hS2 hbd hql' hss hT hTb hTd hSe
          go_wp2_with fail
          refine (dnew_any wr x).mono ?_
          rintro e w7 ⟨gd, rfl, hgd, d7, k7⟩
          have K7 := Lib.hid (KQ.out.trans k7)
          have D7 := Lib.hid d7
          have HGD := Lib.hid (show W.heap.size ≤ gd ∧ gd < w7.heap.size by have := KQ.out.size; have := d7.lt; omega)
          have OQ7 := Lib.hid (k7.owns OQ.out (fun _ _ => id))
          clear d7 k7 hgd
          go_wp2_with fail
          refine (dnew_any w7 x).mono ?_
          rintro e w8 ⟨ge, rfl, hge, d8, k8⟩
          have K8 := Lib.hid (K7.out.trans k8)
          have E8 := Lib.hid d8
          have D8 := Lib.hid (Row.keeps D7.out k8 id)
          have HGE := Lib.hid (show W.heap.size ≤ ge ∧ ge ≠ gd ∧ ge < w8.heap.size ∧ gd < w8.heap.size by have := HGD.out; have := d8.lt; have := k8.size; omega)
          have OQ8 := Lib.hid (k8.owns OQ7.out (fun _ _ => id))
          obtain ⟨W9, hW9⟩ : ∃ V, w8.alloc (.cells #[.int .i64 7] 3) = V := ⟨_, rfl⟩
          have k9 : Keeps (fun _ => False) w8 W9 := by rw [← hW9]; exact (Keeps.refl _ _).alloc _
          have r9 : W9.heap[w8.heap.size]? = some (.cells (ivs [7]).toArray 3 (0, 0)) := by rw [← hW9]; exact heap_alloc_new w8 _
          have h9 := pick_any W9 gd x (some ⟨w8.heap.size, 0, none⟩) 1 [7] 1 (Row.keeps D8.out k9 id) (fun j u hu => ⟨_, rfl, World.news_of_block r9 j u hu⟩) (fun h => by cases h) (by decide) (by decide)
          have h9' : Calls Try.prog 15 #[.pointer (some ⟨gd, 0, none⟩), .slice (some ⟨w8.heap.size, 0, none⟩) 1 1, .int .i64 1] W9 fun e w' => ∃ v, e = .returned v ∧ DiceAt w' gd x ∧ w'.ownsRow W9.heap.size 3 1 v 1 (ivs [7]) ∧ Keeps (fun k => k = gd) W9 w' := by rw [pick_seven] at h9; exact h9
          have H9 := Lib.hid h9'
          have E9 := Lib.hid (Row.keeps E8.out k9 id)
          have K9 := Lib.hid (K8.out.trans k9)
          have HBI := Lib.hid (build_int 7 w8)
          rw [hW9] at HBI
          have HZ9 := Lib.hid k9.size
          clear d8 k8 hge k9 r9 h9 h9' hW9
          go_wp2_with (first
            | (refine wpList_buildSlice_run17 (by rfl) 23 1 0 _ (by rfl) _ _ (by rfl) HBI.out ?_)
            | fail)
          refine H9.out.mono ?_
          rintro e w10 ⟨v, rfl, d10, o10, k10⟩
          obtain ⟨A10, c10, rfl⟩ := own_slice o10
          have h10 := pick_any w10 gd x none 0 [] 4 d10 (Src.nil _ _) (fun _ => rfl) (by decide) (by decide)
          have h10' : Calls Try.prog 15 #[.pointer (some ⟨gd, 0, none⟩), .slice none 0 0, .int .i64 4] w10 fun e w' => ∃ v, e = .returned v ∧ DiceAt w' gd x ∧ w'.ownsRow w10.heap.size 3 1 v 0 (ivs []) ∧ Keeps (fun k => k = gd) w10 w' := by rw [pick_nil] at h10; exact h10
          have H10 := Lib.hid h10'
          have O10 := Lib.hid o10
          have E10 := Lib.hid (Row.keeps E9.out k10 HGE.out.2.1)
          have K10 : Hid (Keeps (fun _ => False) W w10) := Lib.hid (K9.out.trans' k10 (fun j hj e => by have := HGD.out; omega))
          clear d10 o10 k10 h10 h10'
          go_wp2_with fail
          refine H10.out.mono ?_
          rintro e w12 ⟨v, rfl, d12, o12, k12⟩
          obtain ⟨A12, c12, rfl⟩ := own_slice o12
          have o10 := k12.owns O10.out (fun b hb e => by
            obtain ⟨_, _, hb2⟩ := own_block O10.out b hb
            have := HZ9.out
            have := HGD.out
            have := HGE.out
            omega)
          obtain ⟨ga, rfl, ca⟩ := own_one17 (k := 0) (v := .int .i64 7) o10 rfl
          have D12 := Lib.hid d12
          have E12 := Lib.hid (Row.keeps E10.out k12 HGE.out.2.1)
          have K12 : Hid (Keeps (fun _ => False) W w12) := Lib.hid (K10.out.trans' k12 (fun j hj e => by have := HGD.out; omega))
          have hfac : RowKit.wrap64 ((RowKit.wrap64 ((q : Int) * ((q : Int) - 1))).tdiv 2) = S := by
            have h1 := HT.out.1
            have h2 := HT.out.2.1
            have h3 := HT.out.2.2.1
            have e1 : RowKit.wrap64 T = T := by unfold RowKit.wrap64; omega
            have e2 : RowKit.wrap64 S = S := by
              have : 0 ≤ S ∧ S ≤ 2000 := by rw [← h3, Int.tdiv_eq_ediv_of_nonneg (by omega)]; omega
              unfold RowKit.wrap64; omega
            rw [h1, e1, h3, e2]
          clear d12 o10 o12 k12
          go_wp2_with fail
          refine (below_low _ w12 1 (by decide)).mono ?_
          rintro e w13 ⟨rfl, h13⟩
          obtain rfl : w12 = w13 := h13.symm
          go_wp2_with fail
          refine (below_low _ w12 (-3) (by decide)).mono ?_
          rintro e w13 ⟨rfl, h13⟩
          obtain rfl : w12 = w13 := h13.symm
          have h14 := next_any w12 gd x D12.out
          obtain ⟨r, hr⟩ : ∃ r, Di.nxt x = r := ⟨_, rfl⟩
          rw [hr] at h14
          have H14 := Lib.hid h14
          have HR := Lib.hid hr
          clear h14 hr
          go_wp2_with fail
          refine H14.out.mono ?_
          rintro e w14 ⟨rfl, d14, k14⟩
          have h15 := next_any w14 ge x (Row.keeps E12.out k14 HGE.out.2.1)
          rw [HR.out] at h15
          have H15 := Lib.hid h15
          have K14 : Hid (Keeps (fun _ => False) W w14) := Lib.hid (K12.out.trans' k14 (fun j hj e => by have := HGD.out; omega))
          clear h15 d14 k14
          go_wp2_with fail
          refine H15.out.mono ?_
          rintro e w15 ⟨rfl, d15, k15⟩
          have K15 : Hid (Keeps (fun _ => False) W w15) := Lib.hid (K14.out.trans' k15 (fun j hj e => by have := HGE.out; omega))
          clear d15 k15
          go_wp2
          go_ret
          exact ⟨rfl, K15.out⟩
theorem all_walk (a n : Int) (W : World) (ha : (Lit.int .u64 a).wf = true) (hn : (Lit.int .u8 n).wf = true) :
    Calls Try.prog 7 #[.int .u64 a, .int .u8 n] W fun e w' => e = .returned (.bool true) ∧ Below W.heap.size W w' := by
  obtain ⟨x, rfl⟩ := di_of a ha
  have hb := bounds_u8 hn
  obtain ⟨n, rfl⟩ := Int.eq_ofNat_of_zero_le hb.1
  exact (all_go x n W (by omega)).mono (fun e w' h => ⟨h.1, h.2.below (Nat.le_refl _) (fun _ _ => id)⟩)
end Go.Proofs.Ytecdeogbponplaa
