/-
  The document's own dice, by values: some are picked.
-/
import Derived.Test.YtmhbfchhooggjaaDiRa
import Derived.Test.YtmhbfchhooggjaaDiC
namespace Go.Proofs.Ytmhbfchhooggjaa
open Go.RowKit Go.BigFrame
set_option linter.unusedVariables false
set_option linter.unusedSimpArgs false

/-- What is left and what is picked, in memory. -/
structure Rk (w : World) (B : Nat) (x : Di.Ds) (n k : Nat) (lv pv : Value) : Prop where
  left : w.ownsRow B 3 1 lv (n - k) (ivs x.left)
  out : w.ownsRow B 3 1 pv k (ivs x.out)
  apart : ∀ b, lv.ownBlock = some b → pv.ownBlock ≠ some b
  below : B ≤ w.heap.size
set_option maxRecDepth 100000 in
set_option maxHeartbeats 4000000 in
theorem rpick_any (w : World) (s : BitVec 64) (A : Option Addr) (c : Nat) (l : List Int) (many : Int) (hS : Src w A (ivs l)) (hn : l.length ≤ 1000) (hm : (Lit.int .i64 many).wf = true) :
    Calls Try.prog 21 #[.int .u64 (di s), .slice A l.length c, .int .i64 many] w fun e w' => ∃ v, e = .returned (.tuple #[.int .u64 (di (Di.pick s l many).s), v]) ∧ w'.ownsRow w.heap.size 3 1 v (Di.pick s l many).out.length (ivs (Di.pick s l many).out) ∧ Keeps (fun _ => False) w w' := by
  have hb := bounds_i64 hm
  obtain ⟨n, hnn⟩ : ∃ n, l.length = n := ⟨_, rfl⟩
  obtain ⟨lim, hlim⟩ : ∃ lim, (min many (l.length : Int)).toNat = lim := ⟨_, rfl⟩
  have HP : Hid ((Di.pick s l many) = Di.run lim ⟨s, l, []⟩ ∧ l.length = n) := Lib.hid ⟨by unfold Di.pick; rw [hlim], hnn⟩
  rw [hnn] at hn hlim ⊢
  obtain ⟨L0, hL0⟩ : ∃ L, ivs l = L := ⟨_, rfl⟩
  rw [hL0] at hS
  have hL1 : L0.length = n := by rw [← hL0, ivs_length, hnn]
  have HS := Lib.hid (And.intro hS (And.intro hL1 (And.intro hL0 (show ∀ u ∈ L0, u.oneCell' = true by rw [← hL0]; exact ivs_one l))))
  have HLIM := Lib.hid hlim
  have HLN : lim ≤ n := by omega
  obtain ⟨ih, zh, hih, hzh, hsh, hbh, hzsh⟩ := info_in
  have HII := Lib.hid (And.intro hih (And.intro hzh (And.intro hsh (And.intro hbh hzsh))))
  obtain ⟨B, hB⟩ : ∃ B, w.heap.size = B := ⟨_, rfl⟩
  have HB := Lib.hid hB
  clear hS hL0 hL1 hm hnn hih hzh hsh hbh hzsh hlim hB
  go_enter Try.func21, Try.ntmps21
  go_wp2_with (first
    | (refine wpList_append_src _ (by rfl) _ _ 34 (by rfl) B 3 ih zh 8 Try.underlying34 HII.out.1 HII.out.2.1 HII.out.2.2.1 HII.out.2.2.2.1 HII.out.2.2.2.2 (.slice none 0 0) 0 [] (by rfl) (World.ownsRow_nil _ _ _ _) A n c L0 (by rfl) HS.out.2.1 HS.out.1 HS.out.2.2.2 (by unfold maxLen; omega) (by omega) (by have := HB.out; omega) ?_; intro v1 w1 ho1 hg1 _; rw [List.nil_append] at ho1; have HO1 := Lib.hid ho1; have HG1 := Lib.hid hg1; obtain ⟨A1, c1, rfl⟩ := own_slice ho1; clear ho1 hg1)
    | fail)
  have P0 : Hid (Rk w1 B (Di.run 0 ⟨s, l, []⟩) n 0 (.slice A1 (n - 0) c1) (.slice none 0 0)) := Lib.hid ⟨by have h := HO1.out; rw [Nat.zero_add, ← HS.out.2.2.1] at h; rw [Nat.sub_zero]; exact h, World.ownsRow_nil _ _ _ _, (fun b _ e => by cases e), by have := HB.out; have := HG1.out.size; omega⟩
  have HK : Hid (Keeps (fun _ => False) w w1) := Lib.hid ((Keeps.refl _ _).grown HG1.out (fun _ _ h => by cases h))
  have HS0 : Hid (di s = di (Di.run 0 ⟨s, l, []⟩).s) := Lib.hid rfl
  clear HO1 HG1
  go_loopw [0, 8, 9, 10, 11, 12, 13] (fun sv lv pv iv _ _ _ wr => ∃ (k : Nat) (A1 : Option Addr) (c1 : Nat) (A2 : Option Addr) (c2 : Nat), k ≤ lim ∧ sv = .int .u64 (di (Di.run k ⟨s, l, []⟩).s) ∧ lv = .slice A1 (n - k) c1 ∧ pv = .slice A2 k c2 ∧ iv = .int .i64 (k : Int) ∧ Hid (Rk wr B (Di.run k ⟨s, l, []⟩) n k lv pv) ∧ Hid (Keeps (fun _ => False) w wr)) (fun _ _ _ iv _ _ _ _ => lim - (intOf iv).toNat)
  case atStart => exact ⟨0, A1, c1, none, 0, by omega, rfl, rfl, rfl, rfl, P0, HK⟩
  case round =>
    obtain ⟨k, A3, c3, A2, c2, hk, rfl, rfl, rfl, rfl, hp, hkk⟩ := hrel
    obtain ⟨x, hx⟩ : ∃ x, Di.run k ⟨s, l, []⟩ = x := ⟨_, rfl⟩
    rw [hx] at hp ⊢
    obtain ⟨m, hm⟩ : ∃ m, n - k = m := ⟨_, rfl⟩
    have hp' := hp.out
    rw [hm] at hp' ⊢
    have hleft : wr.ownsRow B 3 1 (.slice A3 m c3) m (ivs x.left) := by have h := hp'.left; rwa [hm] at h
    by_cases hlt : k < lim
    · have hkM : (k : Int) < many := by have := HLIM.out; omega
      have hm0 : 0 < m := by omega
      have hmn : m ≤ n := by omega
      have hk1000 : k + 1 ≤ 1000 := by omega
      have hxl : x.left.length = m := by have := hleft.1; rw [ivs_length] at this; omega
      obtain ⟨b3, hA3⟩ : ∃ b3, A3 = some ⟨b3, 0, none⟩ := by
        rcases hleft.2 with ⟨h1, h2⟩ | ⟨b3, cap, cur, h1, _⟩
        · omega
        · injection h1 with h1; exact ⟨b3, h1⟩
      subst hA3
      obtain ⟨c3n, hb3B⟩ : b3 < wr.heap.size ∧ B ≤ b3 := by
        obtain ⟨cur, hg, hb⟩ := own_block hleft b3 rfl
        exact ⟨(Array.getElem?_eq_some_iff.1 hg).1, hb⟩
      have hcc : m ≤ c3 ∧ c3 ≤ 9223372036854775807 := by have := own_cap hleft; omega
      have hbel := rbelow_any x.s (m : Int) wr (by simp [Lit.wf, IntKind.min, IntKind.max, IntKind.signed, IntKind.bits]; omega)
      have hplt : (Di.bel x.s (m : Int)).2 < m := by have := Di.bel_lt x.s (m : Int) (by omega); omega
      have hgo : Di.run (k + 1) ⟨s, l, []⟩ = ⟨(Di.bel x.s (m : Int)).1, x.left.eraseIdx (Di.bel x.s (m : Int)).2, x.out ++ [x.left.getD (Di.bel x.s (m : Int)).2 0]⟩ := by
        show Di.go (Di.run k ⟨s, l, []⟩) = _
        rw [hx, Di.go_some (by omega), hxl]
      obtain ⟨s2, hs2⟩ : ∃ s2, (Di.bel x.s (m : Int)).1 = s2 := ⟨_, rfl⟩
      obtain ⟨p, hpp⟩ : ∃ p, (Di.bel x.s (m : Int)).2 = p := ⟨_, rfl⟩
      obtain ⟨v, hv⟩ : ∃ v, x.left.getD p 0 = v := ⟨_, rfl⟩
      rw [hs2, hpp] at hbel hgo
      rw [hpp] at hplt
      rw [hv] at hgo
      have hcell := ivs_at x.left p (by omega)
      rw [hv] at hcell
      have HBEL := Lib.hid hbel
      have HGO := Lib.hid hgo
      have HCELL := Lib.hid hcell
      have HX := Lib.hid hxl
      have HPK := Lib.hid hp'
      have HLEFT := Lib.hid hleft
      have HKN := Lib.hid hm
      have HBB := Lib.hid (And.intro c3n hb3B)
      obtain ⟨S1, hS1⟩ : ∃ S, di x.s = S := ⟨_, rfl⟩
      rw [hS1] at HBEL ⊢
      clear hleft hp hp' hbel hgo hcell hx hxl hs2 hpp hv hm c3n hb3B hS1
      obtain ⟨AD, hA, hAsrc⟩ : ∃ A : Addr, (if c3 = p + 1 then (some ⟨b3, 0, none⟩ : Option Addr) else some ⟨b3, p + 1, none⟩) = some A ∧ Hid (∀ V : World, Src V (some ⟨b3, 0, none⟩) (ivs x.left) → Src V (some A) ((ivs x.left).drop (p + 1))) := by
        by_cases h : c3 = p + 1
        · refine ⟨⟨b3, 0, none⟩, by simp [h], Lib.hid fun V hV => ?_⟩
          have h0 : (ivs x.left).drop (p + 1) = [] := List.drop_eq_nil_of_le (by rw [ivs_length]; have := HX.out; omega)
          rw [h0]
          exact Src.nil _ _
        · refine ⟨⟨b3, p + 1, none⟩, by simp [h], Lib.hid fun V hV t u hu => ⟨_, rfl, ?_⟩⟩
          rw [List.getElem?_drop] at hu
          have := hV.at_ hu
          rw [add_plain] at this ⊢
          rw [Nat.zero_add] at this
          exact this
      have hp0 : (0 : Int) ≤ (p : Int) + 1 := by omega
      have hp1 : (p : Int) + 1 ≤ (m : Int) := by omega
      have HLX : Hid ((ivs x.left).length = m) := Lib.hid (by rw [ivs_length]; exact HX.out)
      go_wp2_with fail
      refine HBEL.out.mono ?_
      rintro e w2 ⟨rfl, k2⟩
      have ol2 := k2.owns HLEFT.out (fun b hb => id)
      have op2 := k2.owns HPK.out.out (fun b hb => id)
      have cl : w2.cell? ⟨b3, p, none⟩ = some (.int .i64 v) := (ol2.cellAt p (show p < m * 1 by omega)).trans HCELL.out
      have hw2 : B ≤ w2.heap.size := Nat.le_trans HPK.out.below k2.size
      obtain ⟨V1, hV1⟩ : ∃ V, w2.alloc (.cells #[.int .i64 v] 3) = V := ⟨_, rfl⟩
      have kv1 : Keeps (fun _ => False) w2 V1 := by rw [← hV1]; exact (Keeps.refl _ _).alloc _
      have rv1 : V1.heap[w2.heap.size]? = some (.cells [Value.int .i64 v].toArray 3 (0, 0)) := by rw [← hV1]; exact heap_alloc_new w2 _
      have HBI := Lib.hid (build_int v w2)
      rw [hV1] at HBI
      have RV1 : Hid (Src V1 (some ⟨w2.heap.size, 0, none⟩) [Value.int .i64 v]) := Lib.hid (fun j u hu => ⟨_, rfl, World.news_of_block rv1 j u hu⟩)
      have OL1 := Lib.hid (kv1.owns ol2 (fun b hb => id))
      have OP1 := Lib.hid (kv1.owns op2 (fun b hb => id))
      have KW1 := Lib.hid ((hkk.out.trans k2).trans kv1)
      have HV1 := Lib.hid (show B ≤ V1.heap.size by have := kv1.size; omega)
      clear kv1 rv1 hV1 k2 ol2 op2 hw2
      go_wp2_with (first
        | (refine wpList_buildSlice_run17 (by rfl) 34 1 0 _ (by rfl) _ _ (by rfl) HBI.out ?_)
        | (refine wpList_append_src _ (by rfl) _ _ 34 (by rfl) B 3 ih zh 8 Try.underlying34 HII.out.1 HII.out.2.1 HII.out.2.2.1 HII.out.2.2.2.1 HII.out.2.2.2.2 (.slice A2 k c2) k (ivs x.out) (by rfl) OP1.out (some ⟨w2.heap.size, 0, none⟩) 1 1 [.int .i64 v] (by rfl) (by rfl) RV1.out (by intro u hu; cases hu with | head => rfl | tail _ h => cases h) (by unfold maxLen; omega) (by omega) HV1.out ?_; intro v3 V3 ho3 hg3 hob3; obtain ⟨A4, c4, rfl⟩ := own_slice ho3; have HO3 := Lib.hid ho3; have HG3 := Lib.hid hg3; have OL3 := Lib.hid (((Keeps.refl (fun j => (Value.slice A2 k c2).ownBlock = some j) V1).grown hg3 (fun _ _ h => h)).owns OL1.out (fun b hb e => HPK.out.apart b hb e)); have KW3 := Lib.hid (KW1.out.trans' ((Keeps.refl (fun j => (Value.slice A2 k c2).ownBlock = some j) V1).grown hg3 (fun _ _ h => h)) (fun i hi e => by obtain ⟨_, _, h⟩ := own_block OP1.out i e; have := HB.out; omega)); clear ho3 hg3 hob3)
        | (refine wpList_append_src _ (by rfl) _ _ 34 (by rfl) V3.heap.size 3 ih zh 8 Try.underlying34 HII.out.1 HII.out.2.1 HII.out.2.2.1 HII.out.2.2.2.1 HII.out.2.2.2.2 (.slice none 0 0) 0 [] (by rfl) (World.ownsRow_nil _ _ _ _) (some ⟨b3, 0, none⟩) p c3 ((ivs x.left).take p) (by rfl) (by have := HLX.out; rw [List.length_take]; omega) ((Src.of_own OL3.out).take p) (fun u hu => ivs_one x.left u (List.mem_of_mem_take hu)) (by unfold maxLen; omega) (by omega) (Nat.le_refl _) ?_; intro v5 V5 ho5 hg5 hob5; rw [List.nil_append, Nat.zero_add] at ho5; obtain ⟨A6, c6, rfl⟩ := own_slice ho5; have HO5 := Lib.hid ho5; have K5 := Lib.hid ((Keeps.refl (fun _ => False) V3).grown hg5 (fun _ _ h => by cases h)); clear ho5 hg5 hob5)
        | (refine wpList_append_src _ (by rfl) _ _ 34 (by rfl) V3.heap.size 3 ih zh 8 Try.underlying34 HII.out.1 HII.out.2.1 HII.out.2.2.1 HII.out.2.2.2.1 HII.out.2.2.2.2 (.slice A6 p c6) p ((ivs x.left).take p) (by rfl) HO5.out (some AD) (m - (p + 1)) (c3 - (p + 1)) ((ivs x.left).drop (p + 1)) (by rfl) (by have := HLX.out; rw [List.length_drop]; omega) (hAsrc.out _ (Src.of_own (K5.out.owns OL3.out (fun _ _ => id)))) (fun u hu => ivs_one x.left u (List.mem_of_mem_drop hu)) (by unfold maxLen; omega) (by omega) K5.out.size ?_; intro v7 V7 ho7 hg7 hob7; have HO7 := Lib.hid ho7; have HG7 := Lib.hid hg7; obtain ⟨A8, c8, rfl⟩ := own_slice ho7; clear ho7 hg7 hob7)
        | fail)
      have hmk : p + (m - (p + 1)) = n - (k + 1) := by have := HKN.out; omega
      have o7 : V7.ownsRow V3.heap.size 3 1 (.slice A8 (n - (k + 1)) c8) (n - (k + 1)) (ivs (x.left.eraseIdx p)) := by
        have h := HO7.out
        rwa [hmk, ivs_take, ivs_drop, ivs_append, ← List.eraseIdx_eq_take_drop_succ] at h
      have k57 : Keeps (fun j => (Value.slice A6 p c6).ownBlock = some j) V5 V7 := (Keeps.refl _ _).grown HG7.out (fun _ _ h => h)
      have olt : ∀ b, (Value.slice A4 (k + 1) c4).ownBlock = some b → b < V3.heap.size := fun b hb => by
        obtain ⟨_, hg, _⟩ := own_block HO3.out b hb
        exact (Array.getElem?_eq_some_iff.1 hg).1
      have hout := k57.owns (K5.out.owns HO3.out (fun _ _ => id)) (fun b hb e => by
        obtain ⟨_, _, h⟩ := own_block HO5.out b e
        have := olt b hb
        omega)
      have hBV3 : B ≤ V3.heap.size := by have := KW3.out.size; have := HB.out; omega
      have kw7 : Keeps (fun _ => False) w V7 := (KW3.out.trans K5.out).trans' k57 (fun i hi e => by obtain ⟨_, _, h⟩ := own_block HO5.out i e; have := HB.out; omega)
      have PK7 : Hid (Rk V7 B (Di.run (k + 1) ⟨s, l, []⟩) n (k + 1) (.slice A8 (n - (k + 1)) c8) (.slice A4 (k + 1) c4)) := Lib.hid (by
        rw [HGO.out]
        refine ⟨own_base o7 hBV3, ?_, fun b hb e => ?_, by have := kw7.size; have := HB.out; omega⟩
        · show V7.ownsRow B 3 1 _ _ (ivs (x.out ++ [v]))
          rw [← ivs_append]; exact hout
        · obtain ⟨_, _, h⟩ := own_block o7 b hb
          have := olt b e
          omega)
      have KW7 := Lib.hid kw7
      have HMK := Lib.hid hmk
      have HS2 : Hid (di s2 = di (Di.run (k + 1) ⟨s, l, []⟩).s) := Lib.hid (by rw [HGO.out])
      clear hmk o7 k57 olt hout hBV3 kw7
      go_roundw
      case rel => exact ⟨k + 1, A8, c8, A4, c4, by omega, by rw [HS2.out], by rw [HMK.out], rfl, by go_num, by rw [HMK.out]; exact PK7, KW7⟩
      case measure => simp [intOf]; omega
    · obtain rfl : k = lim := by omega
      have FIN : Hid (x.s = (Di.pick s l many).s ∧ wr.ownsRow w.heap.size 3 1 (.slice A2 k c2) (Di.pick s l many).out.length (ivs (Di.pick s l many).out)) := Lib.hid (by
        have h2 : x.out.length = k := by rw [← hx, Di.run_out]; have := HP.out.2; simp; omega
        rw [HP.out.1, hx, h2]
        refine ⟨rfl, ?_⟩
        rw [HB.out]
        exact hp'.out)
      have HXS : Hid (di x.s = di (Di.pick s l many).s) := Lib.hid (by rw [FIN.out.1])
      obtain ⟨S1, hS1⟩ : ∃ S, di x.s = S := ⟨_, rfl⟩
      have HSS : Hid (S1 = di (Di.pick s l many).s) := Lib.hid (by rw [← hS1]; exact HXS.out)
      rw [hS1]
      by_cases hkM : (k : Int) < many
      · have hm0 : m = 0 := by have := HLIM.out; omega
        subst hm0
        clear hS1 hx hp hp' hleft hm
        go_wp2
        go_ret2
        exact ⟨_, by rw [HSS.out]; rfl, FIN.out.2, hkk.out⟩
      · clear hS1 hx hp hp' hleft hm
        go_wp2
        go_ret2
        exact ⟨_, by rw [HSS.out]; rfl, FIN.out.2, hkk.out⟩
end Go.Proofs.Ytmhbfchhooggjaa
