/-
  DicePlays: whatever is drawn, out of whatever number, is the document's.
-/
import Derived.Test.YtecdeogbponplaaDiD
import Derived.Test.YtecdeogbponplaaDiRb
import Derived.Test.YtecdeogbponplaaRowU
import Derived.Laws.BitsLemmas
namespace Go.Proofs.Ytecdeogbponplaa
open Go.RowKit Go.BigFrame
set_option linter.unusedVariables false
set_option linter.unusedSimpArgs false

theorem and_four (n : Int) : bits .and .i64 n 3 = n % 4 := by
  have h3 : (BitVec.ofInt 64 3).toNat = 2 ^ 2 - 1 := by decide
  have key : (BitVec.ofInt 64 n &&& BitVec.ofInt 64 3).toNat = (n % ((2 ^ 64 : Nat) : Int)).toNat % 2 ^ 2 := by
    rw [BitVec.toNat_and, BitVec.toNat_ofInt, h3, Nat.and_two_pow_sub_one_eq_mod]
  show IntKind.i64.wrap ((BitVec.ofInt 64 n &&& BitVec.ofInt 64 3).toNat : Nat) = n % 4
  rw [key, IntKind.wrap_i64]
  omega
set_option maxRecDepth 100000 in
set_option maxHeartbeats 1000000 in
theorem plays_go (x : BitVec 64) (A : Option Addr) (len c : Nat) (ls : List Int) (B : Option Addr) (len2 c2 : Nat) (ms : List Int) (W : World) (hl : ls.length = len) (hs : Src W A (ivs ls)) (hw : ∀ x ∈ ls, (Lit.int .i64 x).wf = true) (h60 : len ≤ 60) (hl2 : ms.length = len2) (hs2 : Src W B (ivs ms)) (hB0 : B = none → c2 = 0) (h30 : len2 ≤ 30) :
    Calls Try.prog 3 #[.int .u64 (di x), .slice A len c, .slice B len2 c2] W fun e w' => e = .returned (.bool true) ∧ Keeps (fun _ => False) W w' := by
  have HAW := Lib.hid (awake17_any W)
  have HS := Lib.hid hs
  have HW := Lib.hid hw
  have HL := Lib.hid hl
  have HM := Lib.hid (And.intro hl2 (And.intro hs2 hB0))
  clear hs hw hl hl2 hs2 hB0
  go_enter Try.func3, Try.ntmps3
  go_wp2_with fail
  refine HAW.out.mono ?_
  rintro e w1 ⟨rfl, k1⟩
  have K1 := Lib.hid k1
  clear k1
  go_wp2_with fail
  refine (dnew_any w1 x).mono ?_
  rintro e w2 ⟨g, rfl, hg, d2, k2⟩
  have D2 := Lib.hid d2
  have K2 := Lib.hid (K1.out.trans k2)
  have HG := Lib.hid (show W.heap.size ≤ g by have := K1.out.size; omega)
  clear d2 k2 hg
  go_wp2_with fail
  go_loopw [9, 10, 11, 12, 13, 14, 15, 16, 17, 18, 19] (fun sv iv _ _ _ _ _ _ _ _ _ wr => ∃ (i : Nat) (s : BitVec 64), i ≤ len ∧ sv = .int .u64 (di s) ∧ iv = .int .i64 (i : Int) ∧ Hid (DiceAt wr g s) ∧ Hid (Keeps (fun _ => False) W wr)) (fun _ iv _ _ _ _ _ _ _ _ _ _ => len - (intOf iv).toNat)
  case atStart => exact ⟨0, x, by omega, rfl, rfl, D2, K2⟩
  case round =>
    obtain ⟨i, s, hi, rfl, rfl, HD, HK⟩ := hrel
    by_cases hlt : i < len
    · have hii : (i : Int) < (len : Int) := by omega
      obtain ⟨kv, hkv⟩ : ∃ kv, ls[i]? = some kv := ⟨_, List.getElem?_eq_getElem (by have := HL.out; omega)⟩
      have HWF : Hid ((Lit.int .i64 kv).wf = true) := Lib.hid (HW.out kv (List.mem_of_getElem? hkv))
      have hkb := bounds_i64 HWF.out
      obtain ⟨ad, rfl, hc0⟩ := HS.out i (.int .i64 kv) (by rw [ivs_get, hkv]; rfl)
      have hc : wr.cell? (ad.add i) = some (.int .i64 kv) := (HK.out.cell (World.block_lt_of_cell? _ _ hc0) id).trans hc0
      clear hkv hc0
      have hr : kv % 4 = 0 ∨ (kv % 4 = 1 ∨ kv % 4 = 2) ∨ kv % 4 = 3 := by omega
      obtain ⟨nv, hnv⟩ : ∃ nv, kv.tdiv 4 = nv := ⟨_, rfl⟩
      have HNW : Hid ((Lit.int .i64 nv).wf = true) := Lib.hid (by
        rw [← hnv]
        simp only [Lit.wf, IntKind.min, IntKind.max, IntKind.signed, IntKind.bits, Bool.and_eq_true, decide_eq_true_eq, if_true]
        rcases Int.le_total 0 kv with h | h
        · rw [Int.tdiv_eq_ediv_of_nonneg h]; omega
        · have e : kv.tdiv 4 = -((-kv).tdiv 4) := by rw [Int.neg_tdiv]; omega
          rw [e, Int.tdiv_eq_ediv_of_nonneg (by omega)]; omega)
      have hnw : RowKit.wrap64 nv = nv := by have h := bounds_i64 HNW.out; unfold RowKit.wrap64; omega
      have hand := and_four kv
      rcases hr with hr | hr | hr
      · rw [hr] at hand
        clear hr
        obtain ⟨r, hr⟩ : ∃ r, Di.nxt s = r := ⟨_, rfl⟩
        obtain ⟨s2, hs2⟩ : ∃ s2, Di.inc s = s2 := ⟨_, rfl⟩
        have hrn := rnext_any s wr
        have hnx := next_any wr g s HD.out
        rw [hr, hs2] at hrn hnx
        have HRN := Lib.hid hrn
        have HNX := Lib.hid hnx
        have hne : (di r != di r) = false := by simp
        clear hrn hnx hr hs2
        go_wp2_with fail
        refine HRN.out.mono ?_
        rintro e w5 ⟨rfl, h5⟩
        obtain rfl : wr = w5 := h5.symm
        go_wp2_with fail
        refine HNX.out.mono ?_
        rintro e w6 ⟨rfl, d6, k6⟩
        have D6 := Lib.hid d6
        have K6 : Hid (Keeps (fun _ => False) W w6) := Lib.hid (HK.out.trans' k6 (fun j hj e => by have := HG.out; omega))
        clear d6 k6
        go_wp2
        go_roundw
        case rel => exact ⟨i + 1, s2, by omega, rfl, by go_num, D6, K6⟩
        case measure => simp [intOf]; omega
      · rcases hr with hr | hr
        · rw [hr] at hand
          clear hr
          obtain ⟨s2, hs2⟩ : ∃ s2, (Di.bel s nv).1 = s2 := ⟨_, rfl⟩
          obtain ⟨p, hp⟩ : ∃ p, (Di.bel s nv).2 = p := ⟨_, rfl⟩
          have hrb := rbelow_any s nv wr HNW.out
          rw [hs2, hp] at hrb
          have HRB := Lib.hid hrb
          have HBL : Hid (∀ V, Keeps (fun _ => False) wr V → Calls Try.prog 13 #[.pointer (some ⟨g, 0, none⟩), .int .i64 nv] V fun e w' => e = .returned (.int .i64 (p : Int)) ∧ DiceAt w' g s2 ∧ Keeps (fun k => k = g) V w') := Lib.hid (fun V hV => by
            have h := below_any V g s nv (Row.keeps HD.out hV id) HNW.out
            rw [hs2, hp] at h
            exact h)
          have hne : ((p : Int) != (p : Int)) = false := by simp
          clear hrb hs2 hp
          go_wp2_with fail
          refine HRB.out.mono ?_
          rintro e w5 ⟨rfl, k5⟩
          have HB5 := Lib.hid (HBL.out w5 k5)
          have K5 := Lib.hid (HK.out.trans k5)
          clear k5 HBL
          go_wp2_with fail
          refine HB5.out.mono ?_
          rintro e w6 ⟨rfl, d6, k6⟩
          have D6 := Lib.hid d6
          have K6 : Hid (Keeps (fun _ => False) W w6) := Lib.hid (K5.out.trans' k6 (fun j hj e => by have := HG.out; omega))
          clear d6 k6
          go_wp2
          go_roundw
          case rel => exact ⟨i + 1, s2, by omega, rfl, by go_num, D6, K6⟩
          case measure => simp [intOf]; omega
        · rw [hr] at hand
          clear hr
          obtain ⟨s2, hs2⟩ : ∃ s2, (Di.bel s nv).1 = s2 := ⟨_, rfl⟩
          obtain ⟨p, hp⟩ : ∃ p, (Di.bel s nv).2 = p := ⟨_, rfl⟩
          have hrb := rbelow_any s nv wr HNW.out
          rw [hs2, hp] at hrb
          have HRB := Lib.hid hrb
          have HBL : Hid (∀ V, Keeps (fun _ => False) wr V → Calls Try.prog 13 #[.pointer (some ⟨g, 0, none⟩), .int .i64 nv] V fun e w' => e = .returned (.int .i64 (p : Int)) ∧ DiceAt w' g s2 ∧ Keeps (fun k => k = g) V w') := Lib.hid (fun V hV => by
            have h := below_any V g s nv (Row.keeps HD.out hV id) HNW.out
            rw [hs2, hp] at h
            exact h)
          have hne : ((p : Int) != (p : Int)) = false := by simp
          clear hrb hs2 hp
          go_wp2_with fail
          refine HRB.out.mono ?_
          rintro e w5 ⟨rfl, k5⟩
          have HB5 := Lib.hid (HBL.out w5 k5)
          have K5 := Lib.hid (HK.out.trans k5)
          clear k5 HBL
          go_wp2_with fail
          refine HB5.out.mono ?_
          rintro e w6 ⟨rfl, d6, k6⟩
          have D6 := Lib.hid d6
          have K6 : Hid (Keeps (fun _ => False) W w6) := Lib.hid (K5.out.trans' k6 (fun j hj e => by have := HG.out; omega))
          clear d6 k6
          go_wp2
          go_roundw
          case rel => exact ⟨i + 1, s2, by omega, rfl, by go_num, D6, K6⟩
          case measure => simp [intOf]; omega
      · rw [hr] at hand
        clear hr
        have hlen2 := HM.out.1
        have hsw := HM.out.2.1.keeps HK.out (fun _ _ _ => id)
        have hrp := rpick_any wr s B c2 ms nv hsw (by omega) HNW.out
        rw [hlen2] at hrp
        obtain ⟨s2, hs2⟩ : ∃ s2, (Di.pick s ms nv).s = s2 := ⟨_, rfl⟩
        obtain ⟨L, hL⟩ : ∃ L, (Di.pick s ms nv).out = L := ⟨_, rfl⟩
        obtain ⟨pl, hpl⟩ : ∃ pl, L.length = pl := ⟨_, rfl⟩
        have hpl30 : pl ≤ 30 := by rw [← hpl, ← hL, Di.pick_length]; omega
        rw [hs2, hL, hpl] at hrp
        have HRP := Lib.hid hrp
        have HPK : Hid (∀ V, Keeps (fun _ => False) wr V → Calls Try.prog 15 #[.pointer (some ⟨g, 0, none⟩), .slice B len2 c2, .int .i64 nv] V fun e w' => ∃ v, e = .returned v ∧ DiceAt w' g s2 ∧ w'.ownsRow V.heap.size 3 1 v pl (ivs L) ∧ Keeps (fun k => k = g) V w') := Lib.hid (fun V hV => by
          have h := pick_any V g s B c2 ms nv (Row.keeps HD.out hV id) (hsw.keeps hV (fun _ _ _ => id)) HM.out.2.2 (by omega) HNW.out
          rw [hlen2, hs2, hL, hpl] at h
          exact h)
        have HPL := Lib.hid hpl
        have hne : ((pl : Int) != (pl : Int)) = false := by simp
        clear hrp hsw hs2 hL hpl hlen2
        go_wp2_with fail
        refine HRP.out.mono ?_
        rintro e w5 ⟨v, rfl, o5, k5⟩
        obtain ⟨A5, c5, rfl⟩ := own_slice o5
        have O5 := Lib.hid o5
        have HP5 := Lib.hid (HPK.out w5 k5)
        have K5 := Lib.hid (HK.out.trans k5)
        have HZ5 := Lib.hid k5.size
        clear o5 k5 HPK
        go_wp2_with fail
        refine HP5.out.mono ?_
        rintro e w6 ⟨v, rfl, d6, o6, k6⟩
        obtain ⟨A6, c6, rfl⟩ := own_slice o6
        have D6 := Lib.hid d6
        have O6 := Lib.hid (Src.of_own o6)
        have O56 := Lib.hid (Src.of_own (k6.owns O5.out (fun b hb e => by
          obtain ⟨_, _, h⟩ := own_block O5.out b hb
          have := HD.out.lt
          omega)))
        have K6 : Hid (Keeps (fun _ => False) W w6) := Lib.hid (K5.out.trans' k6 (fun j hj e => by have := HG.out; omega))
        clear d6 o6 k6
        go_wp2_with fail
        go_loopw [19] (fun iv wr => ∃ q : Nat, q ≤ pl ∧ iv = .int .i64 (q : Int) ∧ Hid (Keeps (fun _ => False) w6 wr)) (fun iv _ => pl - (intOf iv).toNat)
        case atStart => exact ⟨0, by omega, rfl, Lib.hid (Keeps.refl _ _)⟩
        case round =>
          obtain ⟨q, hq, rfl, KQ⟩ := hrel
          by_cases hql : q < pl
          · have hqi : (q : Int) < (pl : Int) := by omega
            obtain ⟨yv, hyv⟩ : ∃ yv, L[q]? = some yv := ⟨_, List.getElem?_eq_getElem (by have := HPL.out; omega)⟩
            obtain ⟨a5, rfl, hc5⟩ := (O56.out.keeps KQ.out (fun _ _ _ => id)) q (.int .i64 yv) (by rw [ivs_get, hyv]; rfl)
            obtain ⟨a6, rfl, hc6⟩ := (O6.out.keeps KQ.out (fun _ _ _ => id)) q (.int .i64 yv) (by rw [ivs_get, hyv]; rfl)
            have HC5 : Hid (∀ V, Later wr V → V.cell? (a5.add q) = some (.int .i64 yv)) := Lib.hid (fun V hV => (hV.out.cell (World.block_lt_of_cell? _ _ hc5) id).trans hc5)
            have HC6 : Hid (∀ V, Later wr V → V.cell? (a6.add q) = some (.int .i64 yv)) := Lib.hid (fun V hV => (hV.out.cell (World.block_lt_of_cell? _ _ hc6) id).trans hc6)
            clear hc5 hc6 hyv
            go_wp2_with fail
            refine wp_region_class (Later wr) (by kernel_rfl) (by kernel_rfl) (⟨(Keeps.refl _ _).drew⟩) ?_
            refine class_value (by rfl) (.slice (some a5) pl c5) (fun V hV => by go_simp) ?_
            simp only [Act.put, List.setIfInBounds_toArray, List.set_cons_zero, List.set_cons_succ]
            refine class_value (by rfl) (.int .i64 (q : Int)) (fun V hV => by go_simp) ?_
            simp only [Act.put, List.setIfInBounds_toArray, List.set_cons_zero, List.set_cons_succ]
            refine class_value (by rfl) (.pointer (some (a5.add q))) (fun V hV => by go_simp) ?_
            simp only [Act.put, List.setIfInBounds_toArray, List.set_cons_zero, List.set_cons_succ]
            refine class_cell (by rfl) 3 (.tmp 76) (by rfl) (a5.add q) (by rfl) (.int .i64 yv) _ (fun V hV => HC5.out V hV) Try.underlying3 rfl ?_
            simp only [Act.put, List.setIfInBounds_toArray, List.set_cons_zero, List.set_cons_succ]
            refine class_value (by rfl) (.slice (some a6) pl c6) (fun V hV => by go_simp) ?_
            simp only [Act.put, List.setIfInBounds_toArray, List.set_cons_zero, List.set_cons_succ]
            refine class_value (by rfl) (.int .i64 (q : Int)) (fun V hV => by go_simp) ?_
            simp only [Act.put, List.setIfInBounds_toArray, List.set_cons_zero, List.set_cons_succ]
            refine class_value (by rfl) (.pointer (some (a6.add q))) (fun V hV => by go_simp) ?_
            simp only [Act.put, List.setIfInBounds_toArray, List.set_cons_zero, List.set_cons_succ]
            refine class_cell (by rfl) 3 (.tmp 80) (by rfl) (a6.add q) (by rfl) (.int .i64 yv) _ (fun V hV => HC6.out V hV) Try.underlying3 rfl ?_
            simp only [Act.put, List.setIfInBounds_toArray, List.set_cons_zero, List.set_cons_succ]
            refine class_value (by rfl) (.bool false) (fun V hV => by go_simp) ?_
            simp only [Act.put, List.setIfInBounds_toArray, List.set_cons_zero, List.set_cons_succ]
            refine wpQuiet_nil ?_
            intro V7 k7
            have K7 := Lib.hid (KQ.out.trans k7.out)
            clear k7 HC5 HC6
            go_wp2
            go_roundw
            case rel => exact ⟨q + 1, by omega, by go_num, K7⟩
            case measure => simp [intOf]; omega
          · obtain rfl : q = pl := by omega
            have D7 := Lib.hid (Row.keeps D6.out KQ.out id)
            have K7 := Lib.hid (K6.out.trans KQ.out)
            go_wp2
            go_roundw
            case rel => exact ⟨i + 1, s2, by omega, rfl, by go_num, D7, K7⟩
            case measure => simp [intOf]; omega
    · obtain rfl : i = len := by omega
      go_wp2_with fail
      refine (next_none wr).mono ?_
      rintro e w5 ⟨rfl, h5⟩
      obtain rfl : wr = w5 := h5.symm
      go_wp2
      go_ret
      exact ⟨rfl, HK.out⟩
theorem plays_skip (x : BitVec 64) (A : Option Addr) (len c : Nat) (B : Option Addr) (len2 c2 : Nat) (W : World) (h : ¬ (len ≤ 60 ∧ len2 ≤ 30)) :
    Calls Try.prog 3 #[.int .u64 (di x), .slice A len c, .slice B len2 c2] W fun e w' => e = .returned (.bool true) ∧ Keeps (fun _ => False) W w' := by
  have HAW := Lib.hid (awake17_any W)
  by_cases h60 : len ≤ 60
  · have h30 : ¬ len2 ≤ 30 := fun h2 => h ⟨h60, h2⟩
    have hd1 : decide (60 < (len : Int)) = false := decide_eq_false (by omega)
    have hd2 : decide (30 < (len2 : Int)) = true := decide_eq_true (by omega)
    clear h
    go_enter Try.func3, Try.ntmps3
    go_wp2_with fail
    refine HAW.out.mono ?_
    rintro e w1 ⟨rfl, k1⟩
    have K1 := Lib.hid k1
    clear k1
    go_wp2
    go_ret
    exact ⟨rfl, K1.out⟩
  · have hd1 : decide (60 < (len : Int)) = true := decide_eq_true (by omega)
    clear h
    go_enter Try.func3, Try.ntmps3
    go_wp2_with fail
    refine HAW.out.mono ?_
    rintro e w1 ⟨rfl, k1⟩
    have K1 := Lib.hid k1
    clear k1
    go_wp2
    go_ret
    exact ⟨rfl, K1.out⟩
theorem plays_walk (a : Int) (A : Option Addr) (len c : Nat) (zs : List Int) (B : Option Addr) (len2 c2 : Nat) (ys : List Int) (W : World) (ha : (Lit.int .u64 a).wf = true) (hA : IsRowU .i64 W A len c zs) (hB : IsRowU .i64 W B len2 c2 ys) :
    Calls Try.prog 3 #[.int .u64 a, .slice A len c, .slice B len2 c2] W fun e w' => e = .returned (.bool true) ∧ Below W.heap.size W w' := by
  obtain ⟨x, rfl⟩ := di_of a ha
  obtain ⟨ls, hl, hs, hw, _⟩ := hA.ints
  obtain ⟨ms, hl2, hs2, _, _⟩ := hB.ints
  have hB0 : B = none → c2 = 0 := fun h => by
    rcases hB with ⟨_, _, h3, _⟩ | ⟨y, h1, _⟩
    · exact h3
    · rw [h] at h1; cases h1
  by_cases hlen : len ≤ 60 ∧ len2 ≤ 30
  · exact (plays_go x A len c ls B len2 c2 ms W hl hs hw hlen.1 hl2 hs2 hB0 hlen.2).mono (fun e w' h => ⟨h.1, h.2.below (Nat.le_refl _) (fun _ _ => id)⟩)
  · exact (plays_skip x A len c B len2 c2 W hlen).mono (fun e w' h => ⟨h.1, h.2.below (Nat.le_refl _) (fun _ _ => id)⟩)
end Go.Proofs.Ytecdeogbponplaa
