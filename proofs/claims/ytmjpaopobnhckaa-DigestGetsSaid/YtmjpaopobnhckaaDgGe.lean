/-
  The statement DigestGets, for every input, out of the contracts.
-/
import Derived.Test.YtmjpaopobnhckaaDgPu
import Derived.Test.YtmjpaopobnhckaaDgU
import Derived.Test.YtmjpaopobnhckaaRowU
namespace Go.Proofs.Ytmjpaopobnhckaa
open Go.RowKit Go.BigFrame
set_option linter.unusedVariables false
set_option linter.unusedSimpArgs false

set_option maxRecDepth 100000 in
set_option maxHeartbeats 4000000 in
theorem gets_walk (C : Digs) (AW : Awake19) (A : Option Addr) (n c : Nat) (b : List UInt8) (W : World) (hA : LB W A n c b) :
    Calls Try.prog 5 #[.slice A n c] W fun e w' => e = .returned (.bool true) ∧ Below W.heap.size W w' := by
  have CC := Lib.hid C
  have HAW := Lib.hid (AW W)
  have HA := Lib.hid hA
  obtain ⟨Z, hZ⟩ : ∃ Z, dcs (.slice none 0 0) (.slice none 0 0) = Z := ⟨_, rfl⟩
  have hz : ∀ V : World, (zeroValue 26).run Try.prog V = .ok (.agg Z) V := fun V => by rw [← hZ]; exact zero_G V
  have hz2 : ∀ V : World, (zeroValue 28).run Try.prog V = .ok (.agg Z) V := fun V => by rw [← hZ]; exact zero_D V
  have HZ := Lib.hid hZ
  have hnx := hA.max
  have hna := hA.le
  have HN := Lib.hid hA.many
  clear C AW hA hZ
  go_enter Try.func5, Try.ntmps5
  go_wp2_with fail
  refine HAW.out.mono ?_
  rintro e w1 ⟨rfl, k1⟩
  have K1 := Lib.hid k1
  clear k1 HAW
  by_cases h1 : 600 < n
  · have i1 : (600 : Int) < (n : Int) := by omega
    go_wp2_with fail
    go_ret
    exact ⟨rfl, K1.out.below (by omega) (fun _ _ => id)⟩
  have i1 : ¬ (600 : Int) < (n : Int) := by omega
  have h2 := CC.out.get w1 A n c b (HA.out.later K1.out) (by omega)
  have h3 : ∀ V : World, Calls Try.prog 23 #[.string (strOf b)] V (GetSaid b V) := fun V => rget_any V b (by have := HN.out; omega)
  unfold GetSaid at h3
  have h4 : (Dg.get b).2.2 = 0 → Dg.put (Dg.get b).1 (Dg.get b).2.1 = (b, 0) := Dg.put_get b
  obtain ⟨ks, hks⟩ : ∃ x, (Dg.get b).1 = x := ⟨_, rfl⟩
  obtain ⟨fs, hfs⟩ : ∃ x, (Dg.get b).2.1 = x := ⟨_, rfl⟩
  obtain ⟨er, her⟩ : ∃ x, (Dg.get b).2.2 = x := ⟨_, rfl⟩
  simp only [hks, hfs, her] at h2 h3 h4
  obtain ⟨S, hS⟩ : ∃ S, strOf b = S := ⟨_, rfl⟩
  rw [hS] at h3
  obtain ⟨kn, hkn⟩ : ∃ x, ks.length = x := ⟨_, rfl⟩
  obtain ⟨fn, hfn⟩ : ∃ x, fs.length = x := ⟨_, rfl⟩
  have H2 := Lib.hid h2
  have H3 := Lib.hid h3
  have H4 := Lib.hid h4
  have HS := Lib.hid hS
  rw [hkn, hfn] at H2 H3
  have HKN := Lib.hid (And.intro hkn hfn)
  clear h2 h3 h4 hks hfs her hS hkn hfn
  go_wp2_with fail
  refine H2.out.mono ?_
  rintro e w2 ⟨B3, c3, B4, c4, rfl, k2, l2, m2⟩
  obtain ⟨D1, hD1⟩ : ∃ D, dcs (.slice B3 kn c3) (.slice B4 fn c4) = D := ⟨_, rfl⟩
  obtain ⟨b4, V3, W3, hb3, hV3, hW3, r3, r3', k3⟩ := lay_digest w2 26 D1 Z
  have K3 := Lib.hid ((K1.out.trans k2).trans k3)
  have L3 := Lib.hid (And.intro (l2.later k3) (m2.later k3))
  have R3 := Lib.hid r3
  have R3' := Lib.hid r3'
  have SD1 : Hid ((Try.prog.info? 26).map (·.size) = some D1.size ∧ Z.size = D1.size ∧ D1.all (·.oneCell') = true) := Lib.hid ⟨by rw [← hD1]; exact size_G _ _, by rw [← hD1, ← HZ.out]; rfl, by rw [← hD1]; exact dcs_one _ _ _ _ _ _⟩
  have HD1 := Lib.hid hD1
  have hcv := str_of_LB (HA.out.later K3.out)
  rw [HS.out] at hcv
  rw [hD1]
  clear k2 l2 m2 k3 r3 r3' hD1 H2
  go_wp2_with (first
    | (refine wpList_store_row (by rfl) 26 _ _ (by rfl) b4 D1 (by rfl) (by rfl) 26 Z R3.out SD1.out.1 SD1.out.2.1 SD1.out.2.2 ?_; rw [hW3])
    | fail)
  refine (H3.out W3).mono ?_
  rintro e w4 ⟨E3, d3, E4, d4, rfl, k4, l4, m4⟩
  obtain ⟨D2, hD2⟩ : ∃ D, dcs (.slice E3 kn d3) (.slice E4 fn d4) = D := ⟨_, rfl⟩
  obtain ⟨b6, V5, W5, hb5, hV5, hW5, r5, r5', k5⟩ := lay_digest w4 28 D2 Z
  have K5 := Lib.hid ((K3.out.trans k4).trans k5)
  have L5 := Lib.hid (And.intro (And.intro ((L3.out.1.later k4).later k5) (l4.later k5)) (And.intro ((L3.out.2.later k4).later k5) (m4.later k5)))
  have SD2 : Hid ((Try.prog.info? 28).map (·.size) = some D2.size ∧ Z.size = D2.size ∧ D2.all (·.oneCell') = true) := Lib.hid ⟨by rw [← hD2]; exact size_D _ _, by rw [← hD2, ← HZ.out]; rfl, by rw [← hD2]; exact dcs_one _ _ _ _ _ _⟩
  have e3 : Row W5 b4 26 [.slice B3 kn c3, .slice B4 fn c4] := Row.keeps (w := W3) (by show _ = _; rw [R3'.out, ← HD1.out]; rfl) (k4.trans k5) id
  have e5 : Row W5 b6 28 [.slice E3 kn d3, .slice E4 fn d4] := by show _ = _; rw [r5', ← hD2]; rfl
  have c30 : W5.cell? ⟨b4, 0, none⟩ = some (.slice B3 kn c3) := e3.cell 0
  have c50 : W5.cell? ⟨b6, 0, none⟩ = some (.slice E3 kn d3) := e5.cell 0
  have X3 := Lib.hid e3
  have X5 := Lib.hid e5
  have R5 := Lib.hid r5
  have R4 : Hid (W5.heap[b4]? = some (.cells D1 26 (0, 0))) := Lib.hid (((k4.trans k5).block b4 (Array.getElem?_eq_some_iff.1 R3'.out).1 id).trans R3'.out)
  rw [hD2]
  clear k4 l4 m4 k5 r5 r5' e3 e5 hD2 hcv hb3 hV3 hW3 R3 R3' L3 H3
  go_wp2_with (first
    | (refine wpList_store_row (by rfl) 28 _ _ (by rfl) b6 D2 (by rfl) (by rfl) 28 Z R5.out SD2.out.1 SD2.out.2.1 SD2.out.2.2 ?_; rw [hW5])
    | fail)
  refine (keyssame_eq W5 B3 E3 kn c3 d3 ks L5.out.1.1 L5.out.1.2).mono ?_
  rintro e w6 ⟨rfl, k6⟩
  have K6 := Lib.hid (K5.out.trans k6)
  have L6 := Lib.hid (And.intro (L5.out.2.1.later k6) (L5.out.2.2.later k6))
  have LK6 := Lib.hid (L5.out.1.1.later k6)
  have c31 : w6.cell? ⟨b4, 1, none⟩ = some (.slice B4 fn c4) := (X3.out.keeps k6 id).cell 1
  have c51 : w6.cell? ⟨b6, 1, none⟩ = some (.slice E4 fn d4) := (X5.out.keeps k6 id).cell 1
  have R6 : Hid (w6.heap[b4]? = some (.cells D1 26 (0, 0))) := Lib.hid ((k6.block b4 (Array.getElem?_eq_some_iff.1 R4.out).1 id).trans R4.out)
  clear k6 c30 c50 X3 X5 R4 R5 hb5 hV5 hW5 L5
  go_wp2_with fail
  refine (hashessame_eq w6 B4 E4 fn c4 d4 fs L6.out.1 L6.out.2).mono ?_
  rintro e w7 ⟨rfl, k7⟩
  have K7 := Lib.hid (K6.out.trans k7)
  have R7 : Hid (w7.heap[b4]? = some (.cells D1 26 (0, 0))) := Lib.hid ((k7.block b4 (Array.getElem?_eq_some_iff.1 R6.out).1 id).trans R6.out)
  have L7 := Lib.hid (And.intro (LK6.out.later k7) (L6.out.1.later k7))
  clear k7 c31 c51 R6 L6 LK6
  by_cases hz0 : er = 0
  · subst hz0
    have hput := H4.out rfl
    have hkb : kn ≤ 32 ∧ fn ≤ 32 := by
      have h := hput
      unfold Dg.put at h
      split at h
      · cases h
      · have := HKN.out; omega
    have h8 := CC.out.put w7 B3 B4 kn c3 fn c4 ks fs L7.out.1 L7.out.2 (by omega) (by omega)
    rw [hput, HD1.out] at h8
    have H8 : Hid (Calls Try.prog 19 #[.agg D1] w7 fun e w' => ∃ (A' : Option Addr) (c' : Nat), e = .returned (.tuple #[.slice A' n c', .int .i64 0]) ∧ Keeps (fun _ => False) w7 w' ∧ LB w' A' n c' b) := Lib.hid (by
      have e1 := HN.out
      rw [← e1]
      exact h8)
    clear h8 hput
    go_wp2_with (first
      | (refine wpList_load_row (by rfl) 26 _ (by rfl) b4 (by rfl) 26 D1 (0, 0) _ R7.out Try.underlying26 rfl SD1.out.1 ?_)
      | fail)
    refine H8.out.mono ?_
    rintro e w8 ⟨P, pc, rfl, k8, l8⟩
    have K8 := Lib.hid (K7.out.trans k8)
    have hpm := l8.max
    have hpl := l8.le
    have hcv1 := str_of_LB l8
    have hcv2 := str_of_LB (HA.out.later K8.out)
    rw [HS.out] at hcv1 hcv2
    clear k8 l8 H8
    go_wp2
    go_ret
    exact ⟨rfl, K8.out.below (by omega) (fun _ _ => id)⟩
  · have hzb : (er != 0) = true := by simpa using hz0
    go_wp2_with fail
    go_ret
    exact ⟨rfl, K7.out.below (by omega) (fun _ _ => id)⟩
theorem gets_all (C : Digs) (AW : Awake19) (A : Option Addr) (n c : Nat) (zs : List Int) (W : World) (h : IsRowU .u8 W A n c zs) :
    Calls Try.prog 5 #[.slice A n c] W fun e w' => e = .returned (.bool true) ∧ Below W.heap.size W w' := by
  obtain ⟨b, h1, h2, h3, h4⟩ := h.src
  exact gets_walk C AW A n c b W ⟨h1, h2, h3, h4⟩
end Go.Proofs.Ytmjpaopobnhckaa
