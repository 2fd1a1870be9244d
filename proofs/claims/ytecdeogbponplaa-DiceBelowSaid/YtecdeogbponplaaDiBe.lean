/-
  DiceBelow: what is drawn is below what it should be; the same number draws the same.
-/
import Derived.Test.YtecdeogbponplaaDiD
import Derived.Test.YtecdeogbponplaaRowU
namespace Go.Proofs.Ytecdeogbponplaa
open Go.RowKit Go.BigFrame
set_option linter.unusedVariables false
set_option linter.unusedSimpArgs false

set_option maxRecDepth 100000 in
set_option maxHeartbeats 4000000 in
theorem below_go (x : BitVec 64) (A : Option Addr) (len c : Nat) (ls : List Int) (W : World) (hl : ls.length = len) (hs : Src W A (ivs ls)) (hw : ∀ x ∈ ls, (Lit.int .i64 x).wf = true) (h60 : len ≤ 60) :
    Calls Try.prog 5 #[.int .u64 (di x), .slice A len c] W fun e w' => e = .returned (.bool true) ∧ Keeps (fun _ => False) W w' := by
  have HAW := Lib.hid (awake17_any W)
  have HS := Lib.hid hs
  have HW := Lib.hid hw
  have HL := Lib.hid hl
  clear hs hw hl
  go_enter Try.func5, Try.ntmps5
  go_wp2_with fail
  refine HAW.out.mono ?_
  rintro e w1 ⟨rfl, k1⟩
  have K1 := Lib.hid k1
  clear k1
  go_wp2_with fail
  refine (dnew_any w1 x).mono ?_
  rintro e w2 ⟨ga, rfl, hga, da, k2⟩
  have DA := Lib.hid da
  have K2 := Lib.hid (K1.out.trans k2)
  have HGA := Lib.hid (show W.heap.size ≤ ga ∧ ga < w2.heap.size by have := K1.out.size; have := da.lt; omega)
  clear da k2 hga
  go_wp2_with fail
  refine (dnew_any w2 x).mono ?_
  rintro e w3 ⟨gb, rfl, hgb, db, k3⟩
  have DB := Lib.hid db
  have DA3 := Lib.hid (Row.keeps DA.out k3 id)
  have K3 := Lib.hid (K2.out.trans k3)
  have HGN : Hid (ga ≠ gb) := Lib.hid (by have := HGA.out; omega)
  have HGB : Hid (W.heap.size ≤ gb) := Lib.hid (by have := HGA.out; omega)
  clear db k3 hgb
  go_wp2_with fail
  go_loopw [8, 9] (fun iv _ wr => ∃ (i : Nat) (s : BitVec 64), i ≤ len ∧ iv = .int .i64 (i : Int) ∧ Hid (DiceAt wr ga s) ∧ Hid (DiceAt wr gb s) ∧ Hid (Keeps (fun j => j = ga ∨ j = gb) W wr)) (fun iv _ _ => len - (intOf iv).toNat)
  case atStart => exact ⟨0, x, by omega, rfl, DA3, DB, Lib.hid (K3.out.mono (fun _ _ h => h.elim))⟩
  case round =>
    obtain ⟨i, s, hi, rfl, HEA, HEB, hK⟩ := hrel
    by_cases hlt : i < len
    · have hii : (i : Int) < (len : Int) := by omega
      obtain ⟨kv, hkv⟩ : ∃ kv, ls[i]? = some kv := ⟨_, List.getElem?_eq_getElem (by have := HL.out; omega)⟩
      have HWF : Hid ((Lit.int .i64 kv).wf = true) := Lib.hid (HW.out kv (List.mem_of_getElem? hkv))
      have hkb := bounds_i64 HWF.out
      obtain ⟨ad, rfl, hc0⟩ := HS.out i (.int .i64 kv) (by rw [ivs_get, hkv]; rfl)
      have hadb : (ad.add i).block = ad.block := by unfold Addr.add; split <;> rfl
      have hlt0 := World.block_lt_of_cell? _ _ hc0
      have hc : wr.cell? (ad.add i) = some (.int .i64 kv) := (hK.out.cell hlt0 (fun e => by have := HGA.out; have := HGB.out; omega)).trans hc0
      have HCC := Lib.hid hc
      have HCL : Hid (((ad.add i).block ≠ ga ∧ (ad.add i).block ≠ gb ∧ (ad.add i).block = ad.block) ∧ (ad.add i).block < wr.heap.size) := Lib.hid ⟨⟨fun e => by have := HGA.out; omega, fun e => by have := HGB.out; omega, hadb⟩, World.block_lt_of_cell? _ _ hc⟩
      obtain ⟨s2, hs2⟩ : ∃ s2, (Di.bel s kv).1 = s2 := ⟨_, rfl⟩
      obtain ⟨p, hp⟩ : ∃ p, (Di.bel s kv).2 = p := ⟨_, rfl⟩
      have ha := below_any wr ga s kv HEA.out HWF.out
      rw [hs2, hp] at ha
      have HA := Lib.hid ha
      have HPP := Lib.hid (And.intro hp hs2)
      have hlow : kv < 2 → p = 0 := fun h => by rw [← hp, Di.bel_low h]
      have hhigh : 1 ≤ kv → (p : Int) < kv := fun h => by rw [← hp]; exact Di.bel_lt s kv h
      have hp0 : decide ((p : Int) < 0) = false := decide_eq_false (by omega)
      have hpp : ((p : Int) != (p : Int)) = false := by simp
      clear ha hs2 hp hkv hc0 hadb hlt0
      by_cases h1 : 1 ≤ kv
      · have g1 : decide (kv ≥ 1) = true := decide_eq_true h1
        have g2 : decide ((p : Int) ≥ kv) = false := decide_eq_false (by have := hhigh h1; omega)
        by_cases h2 : kv < 2
        · obtain rfl : p = 0 := hlow h2
          obtain rfl : kv = 1 := by omega
          clear hlow hhigh h1 h2 g1 g2
          go_wp2_with fail
          refine HA.out.mono ?_
          rintro e w5 ⟨rfl, d5, k5⟩
          have e5 := Row.keeps HEB.out k5 (fun e => HGN.out e.symm)
          have h5 := below_any w5 gb s 1 e5 HWF.out
          rw [HPP.out.1, HPP.out.2] at h5
          have c5 : w5.cell? (ad.add i) = some (.int .i64 1) := (k5.cell HCL.out.2 (fun e => HCL.out.1.1 e)).trans HCC.out
          have H5 := Lib.hid h5
          have D5 := Lib.hid d5
          have HZ5 := Lib.hid k5.size
          have K5 := Lib.hid (hK.out.trans' k5 (fun j hj e => .inl e))
          clear h5 d5 e5 k5 hc
          go_wp2_with fail
          refine H5.out.mono ?_
          rintro e w6 ⟨rfl, d6, k6⟩
          have D6a := Lib.hid (Row.keeps D5.out k6 (fun e => HGN.out e))
          have D6b := Lib.hid d6
          have K6 := Lib.hid (K5.out.trans' k6 (fun j hj e => .inr e))
          have c6 : w6.cell? (ad.add i) = some (.int .i64 1) := (k6.cell (Nat.lt_of_lt_of_le HCL.out.2 HZ5.out) (fun e => HCL.out.1.2.1 e)).trans c5
          clear d6 k6 c5
          go_wp2
          go_roundw
          case rel => exact ⟨i + 1, s2, by omega, by go_num, D6a, D6b, K6⟩
          case measure => simp [intOf]; omega
        · skip
          have g3 : decide (kv < 2) = false := decide_eq_false h2
          clear hlow hhigh h1 h2
          go_wp2_with fail
          refine HA.out.mono ?_
          rintro e w5 ⟨rfl, d5, k5⟩
          have e5 := Row.keeps HEB.out k5 (fun e => HGN.out e.symm)
          have h5 := below_any w5 gb s kv e5 HWF.out
          rw [HPP.out.1, HPP.out.2] at h5
          have c5 : w5.cell? (ad.add i) = some (.int .i64 kv) := (k5.cell HCL.out.2 (fun e => HCL.out.1.1 e)).trans HCC.out
          have H5 := Lib.hid h5
          have D5 := Lib.hid d5
          have HZ5 := Lib.hid k5.size
          have K5 := Lib.hid (hK.out.trans' k5 (fun j hj e => .inl e))
          clear h5 d5 e5 k5 hc
          go_wp2_with fail
          refine H5.out.mono ?_
          rintro e w6 ⟨rfl, d6, k6⟩
          have D6a := Lib.hid (Row.keeps D5.out k6 (fun e => HGN.out e))
          have D6b := Lib.hid d6
          have K6 := Lib.hid (K5.out.trans' k6 (fun j hj e => .inr e))
          have c6 : w6.cell? (ad.add i) = some (.int .i64 kv) := (k6.cell (Nat.lt_of_lt_of_le HCL.out.2 HZ5.out) (fun e => HCL.out.1.2.1 e)).trans c5
          clear d6 k6 c5
          go_wp2
          go_roundw
          case rel => exact ⟨i + 1, s2, by omega, by go_num, D6a, D6b, K6⟩
          case measure => simp [intOf]; omega
      · have h2 : kv < 2 := by omega
        obtain rfl : p = 0 := hlow h2
        have g1 : decide (kv ≥ 1) = false := decide_eq_false (by omega)
        have g3 : decide (kv < 2) = true := decide_eq_true h2
        clear hlow hhigh h1 h2
        go_wp2_with fail
        refine HA.out.mono ?_
        rintro e w5 ⟨rfl, d5, k5⟩
        have e5 := Row.keeps HEB.out k5 (fun e => HGN.out e.symm)
        have h5 := below_any w5 gb s kv e5 HWF.out
        rw [HPP.out.1, HPP.out.2] at h5
        have c5 : w5.cell? (ad.add i) = some (.int .i64 kv) := (k5.cell HCL.out.2 (fun e => HCL.out.1.1 e)).trans HCC.out
        have H5 := Lib.hid h5
        have D5 := Lib.hid d5
        have HZ5 := Lib.hid k5.size
        have K5 := Lib.hid (hK.out.trans' k5 (fun j hj e => .inl e))
        clear h5 d5 e5 k5 hc
        go_wp2_with fail
        refine H5.out.mono ?_
        rintro e w6 ⟨rfl, d6, k6⟩
        have D6a := Lib.hid (Row.keeps D5.out k6 (fun e => HGN.out e))
        have D6b := Lib.hid d6
        have K6 := Lib.hid (K5.out.trans' k6 (fun j hj e => .inr e))
        have c6 : w6.cell? (ad.add i) = some (.int .i64 kv) := (k6.cell (Nat.lt_of_lt_of_le HCL.out.2 HZ5.out) (fun e => HCL.out.1.2.1 e)).trans c5
        clear d6 k6 c5
        go_wp2
        go_roundw
        case rel => exact ⟨i + 1, s2, by omega, by go_num, D6a, D6b, K6⟩
        case measure => simp [intOf]; omega
    · obtain rfl : i = len := by omega
      have hna := next_any wr ga s HEA.out
      obtain ⟨r, hr⟩ : ∃ r, Di.nxt s = r := ⟨_, rfl⟩
      rw [hr] at hna
      have HNA := Lib.hid hna
      have HR := Lib.hid hr
      clear hna hr
      go_wp2_with fail
      refine HNA.out.mono ?_
      rintro e w5 ⟨rfl, d5, k5⟩
      have h5 := next_any w5 gb s (Row.keeps HEB.out k5 (fun e => HGN.out e.symm))
      rw [HR.out] at h5
      have H5 := Lib.hid h5
      have K5 := Lib.hid (hK.out.trans' k5 (fun j hj e => .inl e))
      clear h5 d5 k5
      go_wp2_with fail
      refine H5.out.mono ?_
      rintro e w6 ⟨rfl, d6, k6⟩
      have K6 : Hid (Keeps (fun _ => False) W w6) := Lib.hid ((K5.out.trans' k6 (fun j hj e => .inr e)).mono (fun j hj e => by have := HGA.out; have := HGB.out; omega))
      clear d6 k6
      go_wp2
      go_ret
      exact ⟨rfl, K6.out⟩
theorem below_skip (x : BitVec 64) (A : Option Addr) (len c : Nat) (W : World) (h60 : ¬ len ≤ 60) :
    Calls Try.prog 5 #[.int .u64 (di x), .slice A len c] W fun e w' => e = .returned (.bool true) ∧ Keeps (fun _ => False) W w' := by
  have HAW := Lib.hid (awake17_any W)
  go_enter Try.func5, Try.ntmps5
  go_wp2_with fail
  refine HAW.out.mono ?_
  rintro e w1 ⟨rfl, k1⟩
  have K1 := Lib.hid k1
  clear k1
  go_wp2
  go_ret
  exact ⟨rfl, K1.out⟩
theorem below_walk (a : Int) (A : Option Addr) (len c : Nat) (zs : List Int) (W : World) (ha : (Lit.int .u64 a).wf = true) (hA : IsRowU .i64 W A len c zs) :
    Calls Try.prog 5 #[.int .u64 a, .slice A len c] W fun e w' => e = .returned (.bool true) ∧ Below W.heap.size W w' := by
  obtain ⟨x, rfl⟩ := di_of a ha
  obtain ⟨ls, hl, hs, hw, _⟩ := hA.ints
  by_cases hlen : len ≤ 60
  · exact (below_go x A len c ls W hl hs hw hlen).mono (fun e w' h => ⟨h.1, h.2.below (Nat.le_refl _) (fun _ _ => id)⟩)
  · exact (below_skip x A len c W hlen).mono (fun e w' h => ⟨h.1, h.2.below (Nat.le_refl _) (fun _ _ => id)⟩)
end Go.Proofs.Ytecdeogbponplaa
