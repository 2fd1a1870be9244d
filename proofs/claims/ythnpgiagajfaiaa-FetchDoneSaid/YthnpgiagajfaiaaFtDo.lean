/-
  FetchDone: what is done isn't asked for any more, nor told that it isn't waited for. By the program's contracts.
-/
import Derived.Test.YthnpgiagajfaiaaFtEn
import Derived.Test.YthnpgiagajfaiaaFtO
import Derived.Test.YthnpgiagajfaiaaFtB
import Derived.Test.YthnpgiagajfaiaaOpenFk
namespace Go.Proofs.Ythnpgiagajfaiaa
open Go.RowKit Go.BigFrame Go.Deep
set_option linter.unusedVariables false
set_option linter.unusedSimpArgs false
theorem key_at18 {w : World} {A : Option Addr} {len c : Nat} {xs : List Ft.Key} (h : IsList kcs Ft.Key.Ok 33 w A len c xs) {i : Nat} {x : Ft.Key} (hx : xs[i]? = some x) : ∃ ad, A = some ad ∧ Ft.Key.Ok x ∧ ∀ j v, (kcs x)[j]? = some v → w.cell? ((ad.add (i * 33)).add j) = some v := by
  obtain ⟨ok, ad, h1, h2⟩ := h.at_ i x hx
  exact ⟨ad, h1, ok, fun j v hv => by rw [add_add]; exact h2 j v hv⟩
variable {At : World → (Nat → Prop) → Nat → Ft.Tb → Prop}
set_option maxRecDepth 100000 in
set_option maxHeartbeats 2000000 in
theorem done18_walk (C : Fetch At) (a : Int) (A : Option Addr) (len c : Nat) (ks : List Ft.Key) (at_ ticks : Nat) (W : World) (ha : (Lit.int .u64 a).wf = true) (hA : IsList kcs Ft.Key.Ok 33 W A len c ks) (hat : at_ ≤ 255) (htk : ticks ≤ 255) :
    Calls Try.prog 5 #[.int .u64 a, .slice A len c, .int .u8 (at_ : Int), .int .u8 (ticks : Int)] W fun e w' => e = .returned (.bool true) ∧ Below W.heap.size W w' := by
  obtain ⟨x, rfl⟩ := di_of a ha
  have CC := Lib.hid C
  have HAA := Lib.hid hA
  have hcm := hA.max
  have hcl := hA.le
  have HAW := Lib.hid (awake18_any C W)
  have SK : Hid (∀ k : Ft.Key, Ft.Key.Ok k → (Try.prog.info? 39).map (·.size) = some (kcs k).length) := Lib.hid (fun k hk => by rw [kcs_length hk.2]; exact info_k)
  obtain ⟨ZW, hZW⟩ : ∃ Z, (wcs ((0, List.replicate 32 0), (0, List.replicate 32 0))).toArray = Z := ⟨_, rfl⟩
  have hzw : ∀ V : World, (zeroValue 41).run Try.prog V = .ok (.agg ZW) V := fun V => by rw [← hZW]; exact zero_want V
  have SZ66 : Hid (ZW.size = 66) := Lib.hid (by rw [← hZW, List.size_toArray, wcs_length Ft.zero_ok])
  clear hZW C hA ha
  go_enter Try.func5, Try.ntmps5
  go_wp2_with fail
  refine HAW.out.mono ?_
  rintro e w1 ⟨rfl, k1⟩
  have K1 := Lib.hid k1
  clear k1
  by_cases hlen : len ≤ 12
  case neg =>
    have hlI : (12 : Int) < (len : Int) := by omega
    go_wp2
    go_ret
    exact ⟨rfl, K1.out.below (by omega) (fun _ _ => id)⟩
  have hlI : ¬ ((12 : Int) < (len : Int)) := by omega
  go_wp2_with fail
  have hnew := CC.out.new_on w1 2 8 3 (by omega)
  rw [show ((2 : Nat) : Int) = 2 from rfl, show ((8 : Nat) : Int) = 8 from rfl, show ((3 : Nat) : Int) = 3 from rfl] at hnew
  refine hnew.mono ?_
  clear hnew
  rintro e w3 ⟨g, F, rfl, a3, hF, k3⟩
  have K3 : Hid (Keeps (fun _ => False) W w3) := Lib.hid (K1.out.trans k3)
  have H4 := Lib.hid (Gm.dnew CC.out x a3 (fun j hj => by have := hF j hj; have := K1.out.size; omega) K3.out)
  clear a3 hF k3
  go_wp2_with fail
  refine H4.out.mono ?_
  rintro e w4 ⟨d, rfl, g4, hd, k4⟩
  have G4 := Lib.hid g4
  clear g4 hd k4
  go_wp2_with fail
  go_loopw [13] (fun iv wr => ∃ (i : Nat) (F' : Nat → Prop) (l : List Ft.Q), i ≤ len ∧ iv = .int .i64 (i : Int) ∧ Hid (∀ q ∈ l, q.tries = 0 ∧ q.left = 1) ∧ Hid (l.length ≤ i ∧ (0 < i → 1 ≤ l.length)) ∧ Hid (Gm At W wr F' g d ⟨2, 8, 3, l⟩ x)) (fun iv _ => len - (intOf iv).toNat)
  case atStart => exact ⟨0, F, [], by omega, rfl, Lib.hid (fun q hq => by cases hq), Lib.hid ⟨by simp, by omega⟩, G4⟩
  case round =>
    clear G4 H4 K1 K3 HAW
    obtain ⟨i, F', l, hi, rfl, HFR, HLL, HG⟩ := hrel
    by_cases hlt : i < len
    · have hii : (i : Int) < (len : Int) := by omega
      obtain ⟨k, hx⟩ : ∃ k, ks[i]? = some k := ⟨_, List.getElem?_eq_getElem (by have := HAA.out.many; omega)⟩
      obtain ⟨ad, rfl, hkok, hkc⟩ := key_at18 HAA.out hx
      have hkw : ∀ j v, (kcs k)[j]? = some v → wr.cell? ((ad.add (i * 33)).add j) = some v := fun j v hv => (HG.out.keeps.cell (World.block_lt_of_cell? _ _ (hkc j v hv)) id).trans (hkc j v hv)
      have hwk : Ft.Wn.Ok ((0, List.replicate 32 0), k) := ⟨⟨Nat.zero_le _, by simp⟩, hkok⟩
      have hbw := build_W1 k hkok
      have hs := HG.out.start CC.out ((0, List.replicate 32 0), k) hwk
      have SKK := Lib.hid (SK.out k hkok)
      have hfr := Ft.start_fresh ((0, List.replicate 32 0), k) HFR.out
      have hsl := Ft.start_length l ((0, List.replicate 32 0), k)
      have hso := Ft.start_some l ((0, List.replicate 32 0), k)
      obtain ⟨wk, hwke⟩ : ∃ w : Ft.Wn, ((0, List.replicate 32 0), k) = w := ⟨_, rfl⟩
      rw [hwke] at hbw hs hfr hsl hso
      obtain ⟨KL, hKL⟩ : ∃ L, kcs k = L := ⟨_, rfl⟩
      rw [hKL] at hkw hbw SKK
      obtain ⟨WA, hWA⟩ : ∃ L, (wcs wk).toArray = L := ⟨_, rfl⟩
      rw [hWA] at hbw hs
      have HKW := Lib.hid hkw
      have HBW : Hid (∀ V : World, (Instr.build 41 #[(1, .agg KL.toArray)]).run Try.prog V = .ok (.agg WA) V) := Lib.hid hbw
      have HS := Lib.hid hs
      have HFR2 := Lib.hid hfr
      have HL2 : Hid ((Ft.start l wk).length ≤ i + 1 ∧ (0 < i + 1 → 1 ≤ (Ft.start l wk).length)) := Lib.hid ⟨by have := HLL.out.1; omega, fun _ => hso⟩
      clear hkc hkw hbw hs hfr hsl hso hwk hKL hWA hwke hx hkok
      go_wp2_with (first
        | (refine wpList_load_any18 (by rfl) 39 (.tmp 47) (by rfl) (ad.add (i * 33)) (by rfl) KL _ HKW.out Try.underlying39 rfl SKK.out ?_)
        | (refine wpList_made (by rfl) 41 [(1, .tmp 48)] (by rfl) [(1, .agg KL.toArray)] (by rfl) (.agg WA) HBW.out ?_)
        | fail)
      refine HS.out.mono ?_
      rintro e w5 ⟨F5, rfl, g5, _⟩
      have G5 : Hid (Gm At W w5 F5 g d ⟨2, 8, 3, Ft.start l wk⟩ x) := Lib.hid g5
      clear g5
      go_wp2
      go_roundw
      case rel => exact ⟨i + 1, F5, _, by omega, by go_num, HFR2, HL2, G5⟩
      case measure => simp [intOf]; omega
    · have hii : ¬ ((i : Int) < (len : Int)) := by omega
      obtain rfl : i = len := by omega
      go_wp2_with fail
      go_loopw [14] (fun iv wr => ∃ (j : Nat) (F' : Nat → Prop) (l' : List Ft.Q) (s : BitVec 64), (j : Int) ≤ (ticks : Int) % 8 ∧ iv = .int .i64 (j : Int) ∧ Hid (∀ q ∈ l', Ft.Dn q ∧ 15 - (j : Int) ≤ q.left + Ft.rest q.tries) ∧ Hid (l'.length = l.length) ∧ Hid (Gm At W wr F' g d ⟨2, 8, 3, l'⟩ s)) (fun iv _ => 8 - (intOf iv).toNat)
      case atStart => exact ⟨0, F', l, x, by omega, rfl, Lib.hid (fun q hq => ⟨(Ft.dn_fresh (HFR.out q hq)).1, by have := (Ft.dn_fresh (HFR.out q hq)).2; simpa using this⟩), Lib.hid rfl, HG⟩
      case round =>
        clear HG
        obtain ⟨j, F', l', s, hj, rfl, HD, HLN, HG⟩ := hrel
        by_cases hjt : (j : Int) < (ticks : Int) % 8
        · have he := Ft.dn_early (show j ≤ 12 by omega) s HD.out
          have ht := HG.out.tick CC.out (show l'.length ≤ 1000 by have := HLN.out; have := HLL.out.1; omega) rfl
          have HT := Lib.hid ht
          have HE := Lib.hid he
          clear ht he
          go_wp2_with fail
          refine HT.out.mono ?_
          rintro e w5 ⟨F5, A5, c5, A6, c6, rfl, g5, _, _, _⟩
          have G5 : Hid (Gm At W w5 F5 g d ⟨2, 8, 3, (Ft.tick 2 8 3 s l').l⟩ (Ft.tick 2 8 3 s l').s) := Lib.hid g5
          clear g5
          go_wp2
          go_roundw
          case rel => exact ⟨j + 1, F5, _, _, by omega, by go_num, Lib.hid HE.out.1, Lib.hid (HE.out.2.trans HLN.out), G5⟩
          case measure => simp [intOf]; omega
        · skip
          go_wp2_with fail
          refine (HG.out.open CC.out (show l'.length ≤ 1000 by have := HLN.out; have := HLL.out.1; omega)).mono ?_
          rintro e w5 ⟨A5, c5, rfl, o5, g5, k5⟩
          have O5 := Lib.hid o5
          have G5 := Lib.hid g5
          clear o5 g5 k5
          obtain ⟨n0, hn0⟩ : ∃ n, l'.length = n := ⟨_, rfl⟩
          simp only [hn0]
          by_cases hz : n0 = 0
          · subst hz
            have hl0 : i = 0 := by have := HLL.out.2; have := HLN.out; omega
            subst hl0
            have K5 := Lib.hid G5.out.keeps
            go_wp2
            go_ret
            exact ⟨rfl, K5.out.below (by omega) (fun _ _ => id)⟩
          · have hzI : ¬ ((n0 : Int) = 0) := by omega
            obtain ⟨g5, hg5⟩ := own_some66 O5.out (show 0 < l'.length by omega)
            subst hg5
            obtain ⟨m, hm, hmn⟩ : ∃ m : Nat, (at_ : Int) % (n0 : Int) = (m : Int) ∧ m < n0 := ⟨at_ % n0, by push_cast; rfl, Nat.mod_lt _ (by omega)⟩
            have hmI : (m : Int) < (n0 : Int) := by omega
            obtain ⟨q0, hq0⟩ : ∃ q, l'[m]? = some q := ⟨_, List.getElem?_eq_getElem (by omega)⟩
            have hqm := List.mem_of_getElem? hq0
            have hokl : ∀ q ∈ l', Ft.Q.Ok q := fun q hq => ((CC.out.ok G5.out.at_).fine q hq).1
            have hhas : Ft.has l' q0.key = true := Ft.has_iff.2 ⟨q0, hqm, rfl⟩
            have hqo := hokl q0 hqm
            have hrg := own_w O5.out (fun y hy => by obtain ⟨z, hz, rfl⟩ := List.mem_map.1 hy; exact hokl z hz) (show (Ft.keys l')[m]? = some q0.key by unfold Ft.keys; rw [List.getElem?_map, hq0]; rfl)
            obtain ⟨kq, hkq⟩ : ∃ k, q0.key = k := ⟨_, rfl⟩
            have hqo' : Ft.Wn.Ok kq := by rw [← hkq]; exact hqo
            rw [hkq] at hrg hhas
            obtain ⟨WL, hWL⟩ : ∃ L, wcs kq = L := ⟨_, rfl⟩
            have HKQ := Lib.hid (And.intro hqo' hWL)
            have SWL : Hid ((Try.prog.info? 41).map (·.size) = some WL.length) := Lib.hid (by rw [← hWL, wcs_length hqo']; exact info_W)
            have SWA : Hid ((Try.prog.info? 41).map (·.size) = some WL.toArray.size) := Lib.hid (by rw [List.size_toArray]; exact SWL.out)
            have SZA : Hid (ZW.size = WL.toArray.size) := Lib.hid (by rw [SZ66.out, List.size_toArray, ← hWL, wcs_length hqo'])
            have OWA : Hid (WL.toArray.all (·.oneCell') = true) := Lib.hid (by rw [← hWL, Array.all_eq_true_iff_forall_mem]; intro v hv; exact wcs_one kq v (by simpa using hv))
            rw [hWL] at hrg
            have HRG := Lib.hid hrg
            obtain ⟨b6, hb6⟩ : ∃ x, w5.heap.size = x := ⟨_, rfl⟩
            obtain ⟨W6, hW6⟩ : ∃ V, w5.alloc (.cells ZW 41) = V := ⟨_, rfl⟩
            have k6 : Keeps (fun _ => False) w5 W6 := by rw [← hW6]; exact (Keeps.refl _ _).alloc _
            have r6 : W6.heap[b6]? = some (.cells ZW 41 (0, 0)) := by rw [← hW6, ← hb6]; exact heap_alloc_new w5 _
            obtain ⟨W7, hW7⟩ : ∃ V, W6.setRow b6 WL.toArray = V := ⟨_, rfl⟩
            have r7 : W7.heap[b6]? = some (.cells WL.toArray 41 (0, 0)) := by rw [← hW7]; exact setRow_heap _ _ _ _ _ _ r6
            have k7 : Keeps (fun _ => False) w5 W7 := k6.trans' (T := fun j => j = b6) (by rw [← hW7]; exact Keeps.setRow _ _) (fun j hj e => by omega)
            have R6 := Lib.hid r6
            have G7 := Lib.hid (G5.out.later CC.out k7)
            have B7 : Hid (Bx W7 F' d b6 41 WL.toArray) := Lib.hid ⟨r7, fun h => by have := CC.out.lt G5.out.at_ b6 h; omega, by have := G5.out.dice.lt; omega⟩
            have hd1 := G7.out.done CC.out kq hqo'
            rw [show (wcs kq).toArray = WL.toArray by rw [hWL], show Ft.has (⟨2, 8, 3, l'⟩ : Ft.Tb).l kq = true from hhas] at hd1
            have HD1 := Lib.hid hd1
            have HB1 : Hid (∀ q ∈ Ft.done l' kq, Ft.Dn q) := Lib.hid (fun q hq => (HD.out q (List.mem_filter.1 hq).1).1)
            have HN1 : Hid ((Ft.done l' kq).length ≤ 12) := Lib.hid (by have := Ft.done_length l' kq; have := HLN.out; have := HLL.out.1; omega)
            clear k6 r6 r7 k7 hd1 hrg hqo hqo' hokl hqm hWL hq0 hkq hhas
            go_wp2_with (first
              | (refine wpList_load_mid_w17 (by rfl) 41 _ (by rfl) g5 (m * 66) (by rfl) WL _ HRG.out Try.underlying41 rfl SWL.out ?_)
              | (refine wpList_store_row (by rfl) 41 _ _ (by rfl) b6 WL.toArray (by rfl) (by rfl) 41 ZW R6.out SWA.out SZA.out OWA.out ?_; rw [hW7])
              | (refine wpList_load_row (by rfl) 41 _ (by rfl) b6 (by rfl) 41 WL.toArray (0, 0) _ B7.out.row Try.underlying41 rfl SWA.out ?_)
              | fail)
            refine HD1.out.mono ?_
            rintro e w8 ⟨F8, rfl, g8, s8⟩
            have B8 := Lib.hid (B7.out.step s8)
            have G8 : Hid (Gm At W w8 F8 g d ⟨2, 8, 3, Ft.done l' kq⟩ s) := Lib.hid g8
            have hd2 := G8.out.done CC.out kq HKQ.out.1
            rw [show (wcs kq).toArray = WL.toArray by rw [HKQ.out.2], show Ft.has (⟨2, 8, 3, Ft.done l' kq⟩ : Ft.Tb).l kq = false from Ft.not_has (fun q hq => Ft.done_not q hq)] at hd2
            have HD2 := Lib.hid hd2
            clear hd2 g8 s8
            go_wp2_with (first
              | (refine wpList_load_row (by rfl) 41 _ (by rfl) b6 (by rfl) 41 WL.toArray (0, 0) _ B8.out.row Try.underlying41 rfl SWA.out ?_)
              | fail)
            refine HD2.out.mono ?_
            rintro e w9 ⟨F9, rfl, g9, s9⟩
            have B9 := Lib.hid (B8.out.step s9)
            have G9 : Hid (Gm At W w9 F9 g d ⟨2, 8, 3, Ft.done (Ft.done l' kq) kq⟩ s) := Lib.hid g9
            have HN2 : Hid ((Ft.done (Ft.done l' kq) kq).length ≤ 12) := Lib.hid (by have := Ft.done_length (Ft.done l' kq) kq; have := HN1.out; omega)
            have HI2 := Lib.hid (Ft.dn_begin (k := kq) HB1.out)
            obtain ⟨l2, hl2⟩ : ∃ l, Ft.done (Ft.done l' kq) kq = l := ⟨_, rfl⟩
            rw [hl2] at G9 HN2 HI2
            clear hl2 g9 s9 HD1 HD2 HRG B7 B8 G7 G8 G5 O5 HD HLN HG HN1 HB1
            go_wp2_with fail
            go_loopw [19, 20, 21, 22, 23] (fun iv _ _ _ _ wr => ∃ (i3 : Nat) (F' : Nat → Prop) (l3 : List Ft.Q) (s : BitVec 64), i3 ≤ 60 ∧ iv = .int .i64 (i3 : Int) ∧ Hid (∀ q ∈ l3, Ft.Dn q ∧ q.left + 9 * (3 - (q.tries : Int)) ≤ 36 - (i3 : Int) ∧ q.key ≠ kq) ∧ Hid (l3.length ≤ 12) ∧ Hid (Gm At W wr F' g d ⟨2, 8, 3, l3⟩ s) ∧ Hid (Bx wr F' d b6 41 WL.toArray)) (fun iv _ _ _ _ _ => 60 - (intOf iv).toNat)
            case atStart => exact ⟨0, F9, l2, s, by omega, rfl, HI2, HN2, G9, B9⟩
            case round =>
              clear G9 B9 HI2 HN2
              obtain ⟨i3, F', l3, s, hi3, rfl, HI, HN, HG, HB⟩ := hrel
              by_cases hi6 : i3 < 60
              · have hi6I : (i3 : Int) < 60 := by omega
                have hl := Ft.dn_late s HI.out
                have hsh := Ft.tick_short 2 8 3 s l3
                have hokl : ∀ q ∈ l3, Ft.Q.Ok q := fun q hq => ((CC.out.ok HG.out.at_).fine q hq).1
                have hoka : ∀ q ∈ (Ft.tick 2 8 3 s l3).asks, Ft.Q.Ok q ∧ q.key ≠ kq := fun x hx => by
                  obtain ⟨q, hq, e⟩ := Ft.tick_asks (by decide) hx
                  exact ⟨by unfold Ft.Q.Ok; rw [e]; exact hokl q hq, hl.2.1 x hx⟩
                have hoko : ∀ q ∈ (Ft.tick 2 8 3 s l3).lost, Ft.Q.Ok q ∧ q.key ≠ kq := fun x hx => by
                  obtain ⟨q, hq, e⟩ := Ft.tick_lost (by decide) hx
                  exact ⟨by unfold Ft.Q.Ok; rw [e]; exact hokl q hq, hl.2.2 x hx⟩
                have ht := HG.out.tick CC.out (show l3.length ≤ 1000 by have := HN.out; omega) (r := Ft.tick 2 8 3 s l3) rfl
                obtain ⟨T, hT⟩ : ∃ T, Ft.tick 2 8 3 s l3 = T := ⟨_, rfl⟩
                rw [hT] at hl hsh hoka hoko ht
                have HT := Lib.hid ht
                have HI4 := Lib.hid hl.1
                have HN4 : Hid (T.l.length ≤ 12) := Lib.hid (by have := hsh.1; have := HN.out; omega)
                obtain ⟨nx, hnx⟩ : ∃ n, T.asks.length = n := ⟨_, rfl⟩
                obtain ⟨ny, hny⟩ : ∃ n, T.lost.length = n := ⟨_, rfl⟩
                have HNX := Lib.hid (And.intro hnx hoka)
                have HNY := Lib.hid (And.intro hny hoko)
                have hxy : nx ≤ 12 ∧ ny ≤ 12 := by have := hsh.2; have := HN.out; omega
                clear ht hl hsh hokl hoka hoko hT
                go_wp2_with fail
                refine HT.out.mono ?_
                rintro e w10 ⟨F10, A5x, c5x, A6x, c6x, rfl, g10, o10, o11, s10⟩
                rw [hnx] at o10 ⊢
                rw [hny] at o11 ⊢
                have B10 := Lib.hid (HB.out.step s10)
                have G10 : Hid (Gm At W w10 F10 g d ⟨2, 8, 3, T.l⟩ T.s) := Lib.hid g10
                have O10 := Lib.hid o10
                have O11 := Lib.hid o11
                clear g10 o10 o11 s10 hnx hny HG HB HT
                go_wp2_with fail
                go_loopw [22] (fun iv wr => ∃ (k : Nat), k ≤ nx ∧ iv = .int .i64 (k : Int) ∧ Hid (Keeps (fun _ => False) w10 wr)) (fun iv _ => nx - (intOf iv).toNat)
                case atStart => exact ⟨0, by omega, rfl, Lib.hid (Keeps.refl _ _)⟩
                case round =>
                  obtain ⟨k, hk, rfl, K⟩ := hrel
                  by_cases hkl : k < nx
                  · have hkI : (k : Int) < (nx : Int) := by omega
                    obtain ⟨g1, hg1⟩ := own_some66 O10.out (by omega)
                    subst hg1
                    obtain ⟨q, hq⟩ : ∃ q, T.asks[k]? = some q := ⟨_, List.getElem?_eq_getElem (by have := HNX.out; omega)⟩
                    have hqm := List.mem_of_getElem? hq
                    obtain ⟨hqok, hqn⟩ := (HNX.out).2 q hqm
                    have hX := range_keeps17 (own_w O10.out (fun y hy => by obtain ⟨z, hz, rfl⟩ := List.mem_map.1 hy; exact ((HNX.out).2 z hz).1) (show (Ft.keys T.asks)[k]? = some q.key by unfold Ft.keys; rw [List.getElem?_map, hq]; rfl)) K.out id
                    have hY := range_keeps17 (range_row (show Row w10 b6 41 WL from B10.out.row)) K.out id
                    have E1 : Hid (∀ V : World, (binOp .eql 41 (.agg (wcs q.key).toArray) (.agg WL.toArray)).run Try.prog V = .ok (.bool false) V) := Lib.hid (fun V => by have h := run_eql_want q.key kq hqok HKQ.out.1 V; rw [decide_eq_false hqn, HKQ.out.2] at h; exact h)
                    have SX : Hid ((Try.prog.info? 41).map (·.size) = some (wcs q.key).length) := Lib.hid (by rw [wcs_length hqok]; exact info_W)
                    obtain ⟨X1, hX1⟩ : ∃ K, wcs q.key = K := ⟨_, rfl⟩
                    rw [hX1] at hX E1 SX
                    have HX1 : Hid (∀ V, Later wr V → V.rangeAt g1 (k * 66) X1) := Lib.hid (fun V hV => range_keeps17 hX hV.out id)
                    have HY1 : Hid (∀ V, Later wr V → V.rangeAt b6 0 WL) := Lib.hid (fun V hV => range_keeps17 hY hV.out id)
                    clear hX hY hX1 hqok hqn hqm hq
                    go_wp2_with fail
                    refine wp_region_class (Later wr) (by kernel_rfl) (by kernel_rfl) (⟨(Keeps.refl _ _).drew⟩) ?_
                    refine class_value (by rfl) (.slice (some ⟨g1, 0, none⟩) nx c5x) (fun V hV => by go_simp) ?_
                    simp only [Act.put, List.setIfInBounds_toArray, List.set_cons_zero, List.set_cons_succ]
                    refine class_value (by rfl) (.int .i64 (k : Int)) (fun V hV => by go_simp) ?_
                    simp only [Act.put, List.setIfInBounds_toArray, List.set_cons_zero, List.set_cons_succ]
                    refine class_value (by rfl) (.pointer (some ⟨g1, k * 66, none⟩)) (fun V hV => by go_simp) ?_
                    simp only [Act.put, List.setIfInBounds_toArray, List.set_cons_zero, List.set_cons_succ]
                    refine class_mid (by rfl) 41 (.tmp 101) (by rfl) g1 (k * 66) (by rfl) X1 _ (fun V hV => HX1.out V hV) Try.underlying41 rfl SX.out ?_
                    simp only [Act.put, List.setIfInBounds_toArray, List.set_cons_zero, List.set_cons_succ]
                    refine class_mid (by rfl) 41 (.tmp 16) (by rfl) b6 (0) (by rfl) WL _ (fun V hV => HY1.out V hV) Try.underlying41 rfl SWL.out ?_
                    simp only [Act.put, List.setIfInBounds_toArray, List.set_cons_zero, List.set_cons_succ]
                    refine class_eq (by rfl) .eql 41 _ (.tmp 102) (.tmp 103) (by rfl) X1.toArray WL.toArray (by rfl) (by rfl) (by kernel_rfl) (.bool false) (E1.out) ?_
                    simp only [Act.put, List.setIfInBounds_toArray, List.set_cons_zero, List.set_cons_succ]
                    refine wpQuiet_nil ?_
                    intro V6 k6
                    have K6 := Lib.hid (K.out.trans k6.out)
                    clear k6 HX1 HY1
                    go_wp2
                    go_roundw
                    case rel => exact ⟨k + 1, by omega, by go_num, K6⟩
                    case measure => simp [intOf]; omega
                  · obtain rfl : nx = k := by omega
                    have hkI : ¬ ((nx : Int) < (nx : Int)) := by omega
                    have O12 := Lib.hid (K.out.owns O11.out (fun _ _ => id))
                    have B11 := Lib.hid (B10.out.later K.out)
                    have G11 := Lib.hid (G10.out.later CC.out K.out)
                    obtain ⟨w12, hw12⟩ : ∃ V, V = wr := ⟨_, rfl⟩
                    subst hw12
                    clear K
                    go_wp2_with fail
                    go_loopw [23] (fun iv wr => ∃ (k : Nat), k ≤ ny ∧ iv = .int .i64 (k : Int) ∧ Hid (Keeps (fun _ => False) w12 wr)) (fun iv _ => ny - (intOf iv).toNat)
                    case atStart => exact ⟨0, by omega, rfl, Lib.hid (Keeps.refl _ _)⟩
                    case round =>
                      obtain ⟨k, hk, rfl, K⟩ := hrel
                      by_cases hkl : k < ny
                      · have hkI : (k : Int) < (ny : Int) := by omega
                        obtain ⟨g1, hg1⟩ := own_some66 O12.out (by omega)
                        subst hg1
                        obtain ⟨q, hq⟩ : ∃ q, T.lost[k]? = some q := ⟨_, List.getElem?_eq_getElem (by have := HNY.out; omega)⟩
                        have hqm := List.mem_of_getElem? hq
                        obtain ⟨hqok, hqn⟩ := (HNY.out).2 q hqm
                        have hX := range_keeps17 (own_w O12.out (fun y hy => by obtain ⟨z, hz, rfl⟩ := List.mem_map.1 hy; exact ((HNY.out).2 z hz).1) (show (Ft.keys T.lost)[k]? = some q.key by unfold Ft.keys; rw [List.getElem?_map, hq]; rfl)) K.out id
                        have hY := range_keeps17 (range_row (show Row w12 b6 41 WL from B11.out.row)) K.out id
                        have E1 : Hid (∀ V : World, (binOp .eql 41 (.agg (wcs q.key).toArray) (.agg WL.toArray)).run Try.prog V = .ok (.bool false) V) := Lib.hid (fun V => by have h := run_eql_want q.key kq hqok HKQ.out.1 V; rw [decide_eq_false hqn, HKQ.out.2] at h; exact h)
                        have SX : Hid ((Try.prog.info? 41).map (·.size) = some (wcs q.key).length) := Lib.hid (by rw [wcs_length hqok]; exact info_W)
                        obtain ⟨X1, hX1⟩ : ∃ K, wcs q.key = K := ⟨_, rfl⟩
                        rw [hX1] at hX E1 SX
                        have HX1 : Hid (∀ V, Later wr V → V.rangeAt g1 (k * 66) X1) := Lib.hid (fun V hV => range_keeps17 hX hV.out id)
                        have HY1 : Hid (∀ V, Later wr V → V.rangeAt b6 0 WL) := Lib.hid (fun V hV => range_keeps17 hY hV.out id)
                        clear hX hY hX1 hqok hqn hqm hq
                        go_wp2_with fail
                        refine wp_region_class (Later wr) (by kernel_rfl) (by kernel_rfl) (⟨(Keeps.refl _ _).drew⟩) ?_
                        refine class_value (by rfl) (.slice (some ⟨g1, 0, none⟩) ny c6x) (fun V hV => by go_simp) ?_
                        simp only [Act.put, List.setIfInBounds_toArray, List.set_cons_zero, List.set_cons_succ]
                        refine class_value (by rfl) (.int .i64 (k : Int)) (fun V hV => by go_simp) ?_
                        simp only [Act.put, List.setIfInBounds_toArray, List.set_cons_zero, List.set_cons_succ]
                        refine class_value (by rfl) (.pointer (some ⟨g1, k * 66, none⟩)) (fun V hV => by go_simp) ?_
                        simp only [Act.put, List.setIfInBounds_toArray, List.set_cons_zero, List.set_cons_succ]
                        refine class_mid (by rfl) 41 (.tmp 113) (by rfl) g1 (k * 66) (by rfl) X1 _ (fun V hV => HX1.out V hV) Try.underlying41 rfl SX.out ?_
                        simp only [Act.put, List.setIfInBounds_toArray, List.set_cons_zero, List.set_cons_succ]
                        refine class_mid (by rfl) 41 (.tmp 16) (by rfl) b6 (0) (by rfl) WL _ (fun V hV => HY1.out V hV) Try.underlying41 rfl SWL.out ?_
                        simp only [Act.put, List.setIfInBounds_toArray, List.set_cons_zero, List.set_cons_succ]
                        refine class_eq (by rfl) .eql 41 _ (.tmp 114) (.tmp 115) (by rfl) X1.toArray WL.toArray (by rfl) (by rfl) (by kernel_rfl) (.bool false) (E1.out) ?_
                        simp only [Act.put, List.setIfInBounds_toArray, List.set_cons_zero, List.set_cons_succ]
                        refine wpQuiet_nil ?_
                        intro V6 k6
                        have K6 := Lib.hid (K.out.trans k6.out)
                        clear k6 HX1 HY1
                        go_wp2
                        go_roundw
                        case rel => exact ⟨k + 1, by omega, by go_num, K6⟩
                        case measure => simp [intOf]; omega
                      · obtain rfl : ny = k := by omega
                        have hkI : ¬ ((ny : Int) < (ny : Int)) := by omega
                        have B12 := Lib.hid ((B11.out).later K.out)
                        have G12 := Lib.hid (G11.out.later CC.out K.out)
                        go_wp2
                        go_roundw
                        case rel => exact ⟨i3 + 1, F10, T.l, T.s, by omega, by go_num, HI4, HN4, G12, B12⟩
                        case measure => simp [intOf]; omega
              · obtain rfl : i3 = 60 := by omega
                obtain rfl : l3 = [] := Ft.dn_over (by omega) HI.out
                have hh := HG.out.has CC.out kq HKQ.out.1
                rw [show (wcs kq).toArray = WL.toArray by rw [HKQ.out.2], show Ft.has (⟨2, 8, 3, []⟩ : Ft.Tb).l kq = false from rfl] at hh
                have HH := Lib.hid hh
                clear hh
                go_wp2_with (first
                  | (refine wpList_load_row_w (by rfl) 41 _ (by rfl) b6 (by rfl) 41 WL.toArray (0, 0) _ HB.out.row Try.underlying41 rfl SWA.out ?_)
                  | fail)
                refine HH.out.mono ?_
                rintro e w10 ⟨rfl, g10, _⟩
                have G10 := Lib.hid g10
                clear g10
                go_wp2_with fail
                refine (G10.out.open CC.out (by show 0 ≤ 1000; omega)).mono ?_
                rintro e w11 ⟨A7, c7, rfl, _, g11, _⟩
                have K11 := Lib.hid g11.keeps
                clear g11
                simp only [List.length_nil]
                go_wp2
                go_ret
                exact ⟨rfl, K11.out.below (by omega) (fun _ _ => id)⟩
theorem done18_all (C : Fetch At) (a0 : Int) (A : Option Addr) (len c : Nat) (ks : List Ft.Key) (a2 a3 : Int) (W : World) (w0 : (Lit.int .u64 a0).wf = true) (w1 : IsActs W A len c ks) (w2 : (Lit.int .u8 a2).wf = true) (w3 : (Lit.int .u8 a3).wf = true) :
    Calls Try.prog 5 #[.int .u64 a0, .slice A len c, .int .u8 a2, .int .u8 a3] W fun e w' => e = .returned (.bool true) ∧ Below W.heap.size W w' := by
  obtain ⟨m, rfl, hm⟩ := wf_u8 w2
  obtain ⟨n, rfl, hn⟩ := wf_u8 w3
  exact done18_walk C a0 A len c ks m n W w0 w1 hm hn
end Go.Proofs.Ythnpgiagajfaiaa
