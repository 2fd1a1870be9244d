/-
  FetchEnds: what isn't done is asked for as often as may be, and told once that it isn't waited for; then it can begin anew. By the program's contracts.
-/
import Derived.Test.YthnpgiagajfaiaaFtG
import Derived.Test.YthnpgiagajfaiaaFtS
import Derived.Laws.BitsLemmas
namespace Go.Proofs.Ythnpgiagajfaiaa
open Go.RowKit Go.BigFrame Go.Deep
set_option linter.unusedVariables false
set_option linter.unusedSimpArgs false
namespace Ft
theorem wait_range {base most t : Nat} (h1 : 1 ≤ base) (h2 : base ≤ most) : 1 ≤ wait base most t ∧ wait base most t ≤ most := by
  unfold wait
  have h : 1 ≤ 2 ^ t := Nat.one_le_two_pow
  have h3 : base * 1 ≤ base * 2 ^ t := Nat.mul_le_mul_left _ h
  omega
end Ft
theorem build_W1 (k : Ft.Key) (hk : Ft.Key.Ok k) (V : World) : (Instr.build 41 #[(1, .agg (kcs k).toArray)]).run Try.prog V = .ok (.agg (wcs ((0, List.replicate 32 0), k)).toArray) V := by
  obtain ⟨s1, r1⟩ := k
  obtain ⟨_, h1⟩ := hk
  obtain ⟨b0, b1, b2, b3, b4, b5, b6, b7, b8, b9, b10, b11, b12, b13, b14, b15, b16, b17, b18, b19, b20, b21, b22, b23, b24, b25, b26, b27, b28, b29, b30, b31, e1⟩ := hash32w r1 h1
  subst e1
  kernel_rfl
variable {At : World → (Nat → Prop) → Nat → Ft.Tb → Prop}
set_option maxRecDepth 100000 in
set_option maxHeartbeats 2000000 in
theorem ends18_walk (C : Fetch At) (base most budget : Nat) (a : Int) (k : Ft.Key) (W : World) (ha : (Lit.int .u64 a).wf = true) (hk : Ft.Key.Ok k) (hb1 : base ≤ 255) (hm1 : most ≤ 255) (hn1 : budget ≤ 255) :
    Calls Try.prog 4 #[.int .u8 (base : Int), .int .u8 (most : Int), .int .u8 (budget : Int), .int .u64 a, .agg (kcs k).toArray] W fun e w' => e = .returned (.bool true) ∧ Below W.heap.size W w' := by
  obtain ⟨x, rfl⟩ := di_of a ha
  have CC := Lib.hid C
  obtain ⟨b9, hb9⟩ : ∃ x, W.heap.size = x := ⟨_, rfl⟩
  obtain ⟨KL, hKL⟩ : ∃ L, (kcs k).toArray = L := ⟨_, rfl⟩
  obtain ⟨W1, hW1⟩ : ∃ V, W.alloc (.cells KL 39) = V := ⟨_, rfl⟩
  have k1 : Keeps (fun _ => False) W W1 := by rw [← hW1]; exact (Keeps.refl _ _).alloc _
  have r1 : W1.heap[b9]? = some (.cells KL 39 (0, 0)) := by rw [← hW1, ← hb9]; exact heap_alloc_new W _
  have HAW := Lib.hid (awake18_any C W1)
  have SK : Hid ((Try.prog.info? 39).map (·.size) = some KL.size) := Lib.hid (by rw [← hKL, List.size_toArray, kcs_length hk.2]; exact info_k)
  have hzk : Ft.Wn.Ok ((0, List.replicate 32 0), k) := ⟨⟨Nat.zero_le _, by simp⟩, hk⟩
  obtain ⟨ZW, hZW⟩ : ∃ Z, (wcs ((0, List.replicate 32 0), (0, List.replicate 32 0))).toArray = Z := ⟨_, rfl⟩
  have hzw : ∀ V : World, (zeroValue 41).run Try.prog V = .ok (.agg ZW) V := fun V => by rw [← hZW]; exact zero_want V
  obtain ⟨wk, hwk⟩ : ∃ w : Ft.Wn, ((0, List.replicate 32 0), k) = w := ⟨_, rfl⟩
  have hbw := build_W1 k hk
  rw [hKL, hwk] at hbw
  rw [hwk] at hzk
  obtain ⟨WA, hWA⟩ : ∃ Z, (wcs wk).toArray = Z := ⟨_, rfl⟩
  rw [hWA] at hbw
  have HBW : Hid (∀ V : World, (Instr.build 41 #[(1, .agg KL)]).run Try.prog V = .ok (.agg WA) V) := Lib.hid hbw
  have SW : Hid ((Try.prog.info? 41).map (·.size) = some WA.size) := Lib.hid (by rw [← hWA, List.size_toArray, wcs_length hzk]; exact info_W)
  have SZ : Hid (ZW.size = WA.size) := Lib.hid (by rw [← hWA, ← hZW, List.size_toArray, List.size_toArray, wcs_length hzk]; rfl)
  have OW : Hid (WA.all (·.oneCell') = true) := Lib.hid (by rw [← hWA, Array.all_eq_true_iff_forall_mem]; intro v hv; exact wcs_one wk v (by simpa using hv))
  have R1 := Lib.hid r1
  have K1 := Lib.hid k1
  have ZK := Lib.hid hzk
  have HWA := Lib.hid hWA
  rw [hKL]
  clear r1 k1 hzk hZW hwk hWA hbw hKL hk C ha
  go_enter Try.func4, Try.ntmps4
  go_wp2_with fail
  refine HAW.out.mono ?_
  rintro e w2 ⟨rfl, k2⟩
  have K2 := Lib.hid (K1.out.trans k2)
  have R2 : Hid (w2.heap[b9]? = some (.cells KL 39 (0, 0))) := Lib.hid ((k2.block b9 (Array.getElem?_eq_some_iff.1 R1.out).1 id).trans R1.out)
  clear k2
  go_wp2_with fail
  obtain ⟨b, hb⟩ : ∃ c : Nat, (base : Int) % 8 + 1 = (c : Int) := ⟨base % 8 + 1, by omega⟩
  have hbr : 1 ≤ b ∧ b ≤ 8 := by omega
  rw [hb]
  obtain ⟨c, hc⟩ : ∃ c : Nat, (b : Int) + (most : Int) % 16 = (c : Int) := ⟨b + most % 16, by omega⟩
  obtain ⟨n, hn⟩ : ∃ c : Nat, (budget : Int) % 8 + 1 = (c : Int) := ⟨budget % 8 + 1, by omega⟩
  have hcr : b ≤ c ∧ c ≤ b + 15 := by omega
  have hnr : 1 ≤ n ∧ n ≤ 8 := by omega
  rw [hc, hn]
  obtain ⟨P, hP⟩ : ∃ P, c + b = P := ⟨_, rfl⟩
  obtain ⟨NP, hNP⟩ : ∃ P', n * P = P' := ⟨_, rfl⟩
  have hNI : (n : Int) * ((c : Int) + (b : Int)) = (NP : Int) := by rw [← hNP, ← hP]; push_cast; rfl
  have hN8 : NP ≤ 248 := by
    rw [← hNP]
    exact Nat.mul_le_mul (show n ≤ 8 by omega) (show P ≤ 31 by omega)
  refine (CC.out.new_on w2 b c n (by omega)).mono ?_
  clear hb hc hn
  rintro e w3 ⟨g, F, rfl, a3, hF, k3⟩
  have hF3 : ∀ j, F j → W.heap.size ≤ j ∧ j ≠ b9 := fun j hj => by
    have := hF j hj; have := K2.out.size; have := (Array.getElem?_eq_some_iff.1 R2.out).1; omega
  have K3 : Hid (Keeps (fun _ => False) W w3) := Lib.hid (K2.out.trans k3)
  have R3 : Hid (w3.heap[b9]? = some (.cells KL 39 (0, 0))) := Lib.hid ((k3.block b9 (Array.getElem?_eq_some_iff.1 R2.out).1 id).trans R2.out)
  have H4 := Lib.hid (Gm.dnew CC.out x a3 (fun j hj => (hF3 j hj).1) K3.out)
  have HL3 := Lib.hid (CC.out.lt a3)
  clear hF3 a3 hF k3
  go_wp2_with fail
  refine H4.out.mono ?_
  rintro e w4 ⟨d, rfl, g4, hd, k4⟩
  have R4 : Hid (w4.heap[b9]? = some (.cells KL 39 (0, 0))) := Lib.hid ((k4.block b9 (Array.getElem?_eq_some_iff.1 R3.out).1 id).trans R3.out)
  obtain ⟨b3, hb3⟩ : ∃ x, w4.heap.size = x := ⟨_, rfl⟩
  obtain ⟨W5, hW5⟩ : ∃ V, w4.alloc (.cells ZW 41) = V := ⟨_, rfl⟩
  have k5 : Keeps (fun _ => False) w4 W5 := by rw [← hW5]; exact (Keeps.refl _ _).alloc _
  have r5 : W5.heap[b3]? = some (.cells ZW 41 (0, 0)) := by rw [← hW5, ← hb3]; exact heap_alloc_new w4 _
  obtain ⟨W6, hW6⟩ : ∃ V, W5.setRow b3 WA = V := ⟨_, rfl⟩
  have r6 : W6.heap[b3]? = some (.cells WA 41 (0, 0)) := by rw [← hW6]; exact setRow_heap _ _ _ _ _ _ r5
  have k6 : Keeps (fun _ => False) w4 W6 := k5.trans' (T := fun j => j = b3) (by rw [← hW6]; exact Keeps.setRow _ _) (fun j hj e => by omega)
  have R5 := Lib.hid r5
  have G6 : Hid (Gm At W W6 F g d ⟨b, c, n, []⟩ x) := Lib.hid (g4.later CC.out k6)
  have hdl := g4.dice.lt
  have B6 : Hid (Bx W6 F d b3 41 WA) := Lib.hid ⟨r6, fun h => by have := HL3.out b3 h; have := k4.size; omega, by omega⟩
  clear k5 r5 r6 k6 g4 hd k4 hdl
  go_wp2_with (first
    | (refine wpList_load_row (by rfl) 39 _ (by rfl) b9 (by rfl) 39 KL (0, 0) _ R4.out Try.underlying39 rfl SK.out ?_)
    | (refine wpList_made (by rfl) 41 [(1, .tmp 53)] (by rfl) [(1, .agg KL)] (by rfl) (.agg WA) HBW.out ?_)
    | (refine wpList_store_row (by rfl) 41 _ _ (by rfl) b3 WA (by rfl) (by rfl) 41 ZW R5.out SW.out SZ.out OW.out ?_; rw [hW6])
    | fail)
  go_loopw [19, 20, 21, 22, 23, 24, 25] (fun gv _ _ _ _ _ _ wr => ∃ (ag : Nat) (F' : Nat → Prop) (s : BitVec 64), ag ≤ 2 ∧ gv = .int .i64 (ag : Int) ∧ Hid (Gm At W wr F' g d ⟨b, c, n, []⟩ s) ∧ Hid (Bx wr F' d b3 41 WA)) (fun gv _ _ _ _ _ _ _ => 2 - (intOf gv).toNat)
  case atStart => exact ⟨0, F, x, by omega, rfl, G6, B6⟩
  case round =>
    obtain ⟨ag, F', s, hag, rfl, HG, HB⟩ := hrel
    by_cases hl2 : ag < 2
    · have hll : (ag : Int) < 2 := by omega
      have hs := HG.out.start CC.out wk ZK.out
      rw [HWA.out] at hs
      have HS := Lib.hid hs
      clear hs
      go_wp2_with (first
        | (refine wpList_load_row (by rfl) 41 _ (by rfl) b3 (by rfl) 41 WA (0, 0) _ HB.out.row Try.underlying41 rfl SW.out ?_)
        | fail)
      refine HS.out.mono ?_
      rintro e w5 ⟨F5, rfl, g5, s5⟩
      have G5 : Hid (Gm At W w5 F5 g d ⟨b, c, n, [⟨wk, 0, 1⟩]⟩ s) := Lib.hid g5
      have HB5 := Lib.hid (HB.out.step s5)
      have hst : (!Ft.has ([] : List Ft.Q) wk) = true := rfl
      rw [hst]
      clear g5 s5 hst
      go_wp2_with fail
      go_loopw [20, 21, 22, 23, 24, 25] (fun av ov lv iv _ _ wr => ∃ (asks gone last i : Nat) (l : List Ft.Q) (F' : Nat → Prop) (s : BitVec 64), 1 ≤ i ∧ i ≤ 2 + NP ∧ av = .int .i64 (asks : Int) ∧ ov = .int .i64 (gone : Int) ∧ lv = .int .i64 (last : Int) ∧ iv = .int .i64 (i : Int) ∧ asks ≤ n ∧ last ≤ i ∧ ((∃ (q : Ft.Q) (next : Nat), l = [q] ∧ gone = 0 ∧ q.tries = asks ∧ q.left = (next : Int) - (i : Int) + 1 ∧ i ≤ next ∧ next ≤ 1 + asks * P ∧ (asks = 0 ∧ last = 0 ∨ 1 ≤ last ∧ last < i ∧ last + 1 ≤ next ∧ next ≤ last + P)) ∨ (l = [] ∧ gone = 1 ∧ asks = n)) ∧ Hid (Gm At W wr F' g d ⟨b, c, n, l⟩ s) ∧ Hid (Bx wr F' d b3 41 WA)) (fun _ _ _ iv _ _ _ => 2 + NP - (intOf iv).toNat)
      case atStart => exact ⟨0, 0, 0, 1, [⟨wk, 0, 1⟩], F5, s, by omega, by omega, rfl, rfl, rfl, rfl, by omega, by omega, .inl ⟨⟨wk, 0, 1⟩, 1, rfl, rfl, rfl, rfl, by omega, by omega, .inl ⟨rfl, rfl⟩⟩, G5, HB5⟩
      case round =>
        clear HB HG HS G5 HB5
        obtain ⟨asks, gone, last, i, l, F', s, hi1, hiN, rfl, rfl, rfl, rfl, han, hli, hcase, HG, HB⟩ := hrel
        by_cases hlt : i ≤ 1 + NP
        · have hii : (i : Int) ≤ 1 + (n : Int) * ((c : Int) + (b : Int)) := by rw [hNI]; omega
          rcases hcase with ⟨q, next, rfl, rfl, hqt, hql, hin, hnx, hla⟩ | ⟨rfl, rfl, rfl⟩
          · by_cases hlt2 : i < next
            · skip
              have ht := HG.out.tick CC.out (show _ ≤ 1000 by simp) (Ft.one_on b c n s q (by omega))
              have HT := Lib.hid ht
              clear ht
              go_wp2_with fail
              refine HT.out.mono ?_
              rintro e w7 ⟨F7, A5, c5, A6, c6, rfl, g7, _, _, s7⟩
              have HB7 := Lib.hid (HB.out.step s7)
              clear s7
              have G7 : Hid (Gm At W w7 F7 g d ⟨b, c, n, [{ q with left := q.left - 1 }]⟩ s) := Lib.hid g7
              clear g7
              simp only [List.length_nil]
              go_wp2
              go_roundw
              case rel => exact ⟨asks, 0, last, i + 1, _, F7, s, by omega, by omega, rfl, by go_num, rfl, by go_num, by omega, by omega, .inl ⟨{ q with left := q.left - 1 }, next, rfl, rfl, hqt, by show q.left - 1 = _; rw [hql]; push_cast; omega, by omega, hnx, by omega⟩, G7, HB7⟩
              case measure => simp [intOf]; omega
            · have hie : i = next := by omega
              subst hie
              by_cases hga : asks = n
              · skip
                have ht := HG.out.tick CC.out (show _ ≤ 1000 by simp) (Ft.one_gone b c n s q (by omega) (by omega))
                have HT := Lib.hid ht
                clear ht
                go_wp2_with fail
                refine HT.out.mono ?_
                rintro e w7 ⟨F7, A5, c5, A6, c6, rfl, g7, _, _, s7⟩
                have HB7 := Lib.hid (HB.out.step s7)
                clear s7
                have G7 : Hid (Gm At W w7 F7 g d ⟨b, c, n, []⟩ s) := Lib.hid g7
                clear g7
                simp only [List.length_nil, List.length_singleton]
                go_wp2
                go_roundw
                case rel => exact ⟨asks, 1, last, i + 1, _, F7, s, by omega, by omega, by rw [hga], by go_num, rfl, by go_num, by omega, by omega, .inr ⟨rfl, rfl, hga⟩, G7, HB7⟩
                case measure => simp [intOf]; omega
              · obtain ⟨wt, hwt⟩ : ∃ x, Ft.wait b c q.tries + (Di.bel s (b : Int)).2 = x := ⟨_, rfl⟩
                have hwr : 1 ≤ wt ∧ wt + 1 ≤ P := by
                  have h1 := Ft.wait_range (t := q.tries) hbr.1 hcr.1
                  have h2 := Di.bel_lt s (b : Int) (by omega)
                  omega
                have hap : (asks + 1) * P = asks * P + P := Nat.succ_mul asks P
                have e1 : (Ft.wait b c q.tries : Int) + ((Di.bel s (b : Int)).2 : Int) = (wt : Int) := by rw [← hwt]; push_cast; rfl
                have htl := Ft.one_told b c n s q (by omega) (by omega)
                rw [e1] at htl
                clear e1 hwt
                have ht := HG.out.tick CC.out (show _ ≤ 1000 by simp) (htl)
                have HT := Lib.hid ht
                clear ht
                go_wp2_with fail
                refine HT.out.mono ?_
                rintro e w7 ⟨F7, A5, c5, A6, c6, rfl, g7, _, _, s7⟩
                have HB7 := Lib.hid (HB.out.step s7)
                clear s7
                have G7 : Hid (Gm At W w7 F7 g d ⟨b, c, n, [{ q with tries := q.tries + 1, left := (wt : Int) }]⟩ (Di.bel s (b : Int)).1) := Lib.hid g7
                clear g7 htl
                simp only [List.length_nil, List.length_singleton]
                rcases hla with ⟨ha0, hl0⟩ | ⟨hl1, hl3, hl4, hl5⟩
                · subst hl0
                  go_wp2
                  go_roundw
                  case rel => exact ⟨asks + 1, 0, i, i + 1, _, F7, _, by omega, by omega, by go_num, by go_num, rfl, by go_num, by omega, by omega, .inl ⟨{ q with tries := q.tries + 1, left := (wt : Int) }, i + wt, rfl, rfl, by show q.tries + 1 = _; omega, by show (wt : Int) = _; push_cast; omega, by omega, by omega, .inr ⟨by omega, by omega, by omega, by omega⟩⟩, G7, HB7⟩
                  case measure => simp [intOf]; omega
                · have hq1 : (0 : Int) < (last : Int) := by omega
                  have hq2 : ¬ ((i : Int) - (last : Int) < 1) := by omega
                  have hq3 : ¬ ((c : Int) + (b : Int) < (i : Int) - (last : Int)) := by omega
                  go_wp2
                  go_roundw
                  case rel => exact ⟨asks + 1, 0, i, i + 1, _, F7, _, by omega, by omega, by go_num, by go_num, rfl, by go_num, by omega, by omega, .inl ⟨{ q with tries := q.tries + 1, left := (wt : Int) }, i + wt, rfl, rfl, by show q.tries + 1 = _; omega, by show (wt : Int) = _; push_cast; omega, by omega, by omega, .inr ⟨by omega, by omega, by omega, by omega⟩⟩, G7, HB7⟩
                  case measure => simp [intOf]; omega
          · skip
            have ht := HG.out.tick CC.out (show _ ≤ 1000 by simp) (Ft.tick_nil b c asks s)
            have HT := Lib.hid ht
            clear ht
            go_wp2_with fail
            refine HT.out.mono ?_
            rintro e w7 ⟨F7, A5, c5, A6, c6, rfl, g7, _, _, s7⟩
            have HB7 := Lib.hid (HB.out.step s7)
            clear s7
            have G7 : Hid (Gm At W w7 F7 g d ⟨b, c, asks, []⟩ s) := Lib.hid g7
            clear g7
            simp only [List.length_nil]
            go_wp2
            go_roundw
            case rel => exact ⟨asks, 1, last, i + 1, _, F7, s, by omega, by omega, rfl, by go_num, rfl, by go_num, by omega, by omega, .inr ⟨rfl, rfl, rfl⟩, G7, HB7⟩
            case measure => simp [intOf]; omega
        · have hii : ¬ ((i : Int) ≤ 1 + (n : Int) * ((c : Int) + (b : Int))) := by rw [hNI]; omega
          rcases hcase with ⟨q, next, rfl, rfl, hqt, hql, hin, hnx, hla⟩ | ⟨rfl, rfl, rfl⟩
          · exfalso
            have h1 : asks * P ≤ n * P := Nat.mul_le_mul_right P han
            omega
          · have hh := HG.out.has CC.out wk ZK.out
            rw [HWA.out] at hh
            have HH : Hid (Calls Try.prog 20 #[.pointer (some ⟨g, 0, none⟩), .agg WA] wr fun e w' => e = .returned (.bool false) ∧ Gm At W w' F' g d ⟨b, c, asks, []⟩ s ∧ Keeps (fun _ => False) wr w') := Lib.hid hh
            clear hh
            go_wp2_with (first
              | (refine wpList_load_row_w (by rfl) 41 _ (by rfl) b3 (by rfl) 41 WA (0, 0) _ HB.out.row Try.underlying41 rfl SW.out ?_)
              | fail)
            refine HH.out.mono ?_
            rintro e w7 ⟨rfl, g7, k7⟩
            have G7 := Lib.hid g7
            have HB7 := Lib.hid (HB.out.later k7)
            clear g7 k7
            go_wp2
            go_roundw
            case rel => exact ⟨ag + 1, F', s, by omega, by go_num, G7, HB7⟩
            case measure => simp [intOf]; omega
    · have hll : ¬ ((ag : Int) < 2) := by omega
      have K7 := Lib.hid HG.out.keeps
      clear HG
      go_wp2
      go_ret
      exact ⟨rfl, K7.out.below (by omega) (fun _ _ => id)⟩
theorem ends18_all (C : Fetch At) (a0 a1 a2 a3 : Int) (z4 : Ft.Key) (W : World) (w0 : (Lit.int .u8 a0).wf = true) (w1 : (Lit.int .u8 a1).wf = true) (w2 : (Lit.int .u8 a2).wf = true) (w3 : (Lit.int .u64 a3).wf = true) (w4 : Ft.Key.Ok z4) :
    Calls Try.prog 4 #[.int .u8 a0, .int .u8 a1, .int .u8 a2, .int .u64 a3, .agg (kcs z4).toArray] W fun e w' => e = .returned (.bool true) ∧ Below W.heap.size W w' := by
  obtain ⟨l, rfl, hl⟩ := wf_u8 w0
  obtain ⟨m, rfl, hm⟩ := wf_u8 w1
  obtain ⟨n, rfl, hn⟩ := wf_u8 w2
  exact ends18_walk C l m n a3 z4 W w3 w4 hl hm hn
end Go.Proofs.Ythnpgiagajfaiaa
