/-
  The statement DigestTells, for every input, out of the contracts.
-/
import Derived.Test.YtmjpaopobnhckaaDgK
namespace Go.Proofs.Ytmjpaopobnhckaa
open Go.RowKit Go.BigFrame
set_option linter.unusedVariables false
set_option linter.unusedSimpArgs false

set_option maxRecDepth 100000 in
set_option maxHeartbeats 4000000 in
theorem tells_walk (C : Digs) (AW : Awake19) (A : Option Addr) (n c : Nat) (ks : List Ft.Key) (A2 : Option Addr) (m d : Nat) (hs : List (List UInt8)) (A3 : Option Addr) (p q : Nat) (kn : List Ft.Key) (A4 : Option Addr) (r s : Nat) (hh : List (List UInt8)) (W : World)
    (hA : LK W A n c ks) (hB : LH W A2 m d hs) (hC : LK W A3 p q kn) (hD : LH W A4 r s hh) :
    Calls Try.prog 3 #[.slice A n c, .slice A2 m d, .slice A3 p q, .slice A4 r s] W fun e w' => e = .returned (.bool true) ∧ Below W.heap.size W w' := by
  have CC := Lib.hid C
  have HAW := Lib.hid (AW W)
  have HA := Lib.hid hA
  have HB := Lib.hid hB
  have HC := Lib.hid hC
  have HD := Lib.hid hD
  obtain ⟨Z, hZ⟩ : ∃ Z, dcs (.slice none 0 0) (.slice none 0 0) = Z := ⟨_, rfl⟩
  have hz : ∀ V : World, (zeroValue 26).run Try.prog V = .ok (.agg Z) V := fun V => by rw [← hZ]; exact zero_G V
  have hz2 : ∀ V : World, (zeroValue 28).run Try.prog V = .ok (.agg Z) V := fun V => by rw [← hZ]; exact zero_D V
  have HZ := Lib.hid hZ
  have hnx := hA.max
  have hna := hA.le
  have hmx := hB.max
  have hma := hB.le
  have hpx := hC.max
  have hpa := hC.le
  have hrx := hD.max
  have hra := hD.le
  clear C AW hA hB hC hD hZ
  go_enter Try.func3, Try.ntmps3
  go_wp2_with fail
  refine HAW.out.mono ?_
  rintro e w1 ⟨rfl, k1⟩
  have K1 := Lib.hid k1
  clear k1 HAW
  by_cases h1 : 50 < n
  · have i1 : (50 : Int) < (n : Int) := by omega
    go_wp2_with fail
    go_ret
    exact ⟨rfl, K1.out.below (by omega) (fun _ _ => id)⟩
  have i1 : ¬ (50 : Int) < (n : Int) := by omega
  by_cases h2 : 50 < m
  · have i2 : (50 : Int) < (m : Int) := by omega
    go_wp2_with fail
    go_ret
    exact ⟨rfl, K1.out.below (by omega) (fun _ _ => id)⟩
  have i2 : ¬ (50 : Int) < (m : Int) := by omega
  by_cases h3 : 50 < p
  · have i3 : (50 : Int) < (p : Int) := by omega
    go_wp2_with fail
    go_ret
    exact ⟨rfl, K1.out.below (by omega) (fun _ _ => id)⟩
  have i3 : ¬ (50 : Int) < (p : Int) := by omega
  by_cases h4 : 50 < r
  · have i4 : (50 : Int) < (r : Int) := by omega
    go_wp2_with fail
    go_ret
    exact ⟨rfl, K1.out.below (by omega) (fun _ _ => id)⟩
  have i4 : ¬ (50 : Int) < (r : Int) := by omega
  go_wp2_with fail
  refine (CC.out.make w1 A A2 n c m d ks hs (HA.out.later K1.out) (HB.out.later K1.out) (by omega) (by omega)).mono ?_
  rintro e w2 ⟨B3, c3, B4, c4, rfl, k2, l2, m2⟩
  obtain ⟨D1, hD1⟩ : ∃ D, dcs (.slice B3 (Dg.last ks).length c3) (.slice B4 (Dg.last hs).length c4) = D := ⟨_, rfl⟩
  obtain ⟨b10, V3, W3, hb3, hV3, hW3, r3, r3', k3⟩ := lay_digest w2 26 D1 Z
  have K3 := Lib.hid ((K1.out.trans k2).trans k3)
  have L1 := Lib.hid (And.intro (l2.later k3) (m2.later k3))
  have R3 := Lib.hid r3
  have R3' := Lib.hid r3'
  have SD1 : Hid ((Try.prog.info? 26).map (·.size) = some D1.size ∧ Z.size = D1.size ∧ D1.all (·.oneCell') = true) := Lib.hid ⟨by rw [← hD1]; exact size_G _ _, by rw [← hD1, ← HZ.out]; rfl, by rw [← hD1]; exact dcs_one _ _ _ _ _ _⟩
  have HD1 := Lib.hid hD1
  rw [hD1]
  clear k2 l2 m2 k3 r3 r3' hD1
  go_wp2_with (first
    | (refine wpList_store_row (by rfl) 26 _ _ (by rfl) b10 D1 (by rfl) (by rfl) 26 Z R3.out SD1.out.1 SD1.out.2.1 SD1.out.2.2 ?_; rw [hW3])
    | fail)
  refine (dmake_any W3 A A2 n c m d ks hs (HA.out.later K3.out) (HB.out.later K3.out) (by omega) (by omega)).mono ?_
  rintro e w4 ⟨E3, d3, E4, d4, rfl, k4, l4, m4⟩
  obtain ⟨D2, hD2⟩ : ∃ D, dcs (.slice E3 (Dg.last ks).length d3) (.slice E4 (Dg.last hs).length d4) = D := ⟨_, rfl⟩
  obtain ⟨b11, V5, W5, hb5, hV5, hW5, r5, r5', k5⟩ := lay_digest w4 28 D2 Z
  obtain ⟨D0, hD0⟩ : ∃ D, dcs (.slice A n c) (.slice A2 m d) = D := ⟨_, rfl⟩
  obtain ⟨b12, V6, W6, hb6, hV6, hW6, r6, r6', k6⟩ := lay_digest W5 26 D0 Z
  have K6 := Lib.hid (((K3.out.trans k4).trans k5).trans k6)
  have L2 := Lib.hid (And.intro ((l4.later k5).later k6) ((m4.later k5).later k6))
  have L1' := Lib.hid (And.intro (((L1.out.1.later k4).later k5).later k6) (((L1.out.2.later k4).later k5).later k6))
  have e3 : Row W6 b10 26 [.slice B3 (Dg.last ks).length c3, .slice B4 (Dg.last hs).length c4] := Row.keeps (w := W3) (by show _ = _; rw [R3'.out, ← HD1.out]; rfl) ((k4.trans k5).trans k6) id
  have e5 : Row W6 b11 28 [.slice E3 (Dg.last ks).length d3, .slice E4 (Dg.last hs).length d4] := Row.keeps (w := W5) (by show _ = _; rw [r5', ← hD2]; rfl) k6 id
  have SD2 : Hid ((Try.prog.info? 28).map (·.size) = some D2.size ∧ Z.size = D2.size ∧ D2.all (·.oneCell') = true) := Lib.hid ⟨by rw [← hD2]; exact size_D _ _, by rw [← hD2, ← HZ.out]; rfl, by rw [← hD2]; exact dcs_one _ _ _ _ _ _⟩
  have sd0 : (Try.prog.info? 26).map (·.size) = some D0.size := by rw [← hD0]; exact size_G _ _
  have SD0 := Lib.hid sd0
  have SZ0 : Hid (Z.size = D0.size ∧ D0.all (·.oneCell') = true) := Lib.hid ⟨by rw [← hD0, ← HZ.out]; rfl, by rw [← hD0]; exact dcs_one _ _ _ _ _ _⟩
  have HB0 : Hid (∀ V : World, (Instr.build 26 #[(0, .slice A n c), (1, .slice A2 m d)]).run Try.prog V = .ok (.agg D0) V) := Lib.hid (fun V => by rw [← hD0]; exact build_G _ _ _ _ _ _ V)
  have R5 := Lib.hid r5
  have R6 := Lib.hid r6
  have R6' := Lib.hid r6'
  have X3 := Lib.hid e3
  have X5 := Lib.hid e5
  have HD0 := Lib.hid hD0
  have c30 : W6.cell? ⟨b10, 0, none⟩ = some (.slice B3 (Dg.last ks).length c3) := e3.cell 0
  have c50 : W6.cell? ⟨b11, 0, none⟩ = some (.slice E3 (Dg.last ks).length d3) := e5.cell 0
  rw [hD2]
  clear k4 l4 m4 k5 k6 r5 r5' r6 r6' hD2 hD0 sd0 e3 e5 K3 L1 R3 hb3 hV3 hW3
  go_wp2_with (first
    | (refine wpList_store_row (by rfl) 28 _ _ (by rfl) b11 D2 (by rfl) (by rfl) 28 Z R5.out SD2.out.1 SD2.out.2.1 SD2.out.2.2 ?_; rw [hW5])
    | (refine wpList_made (by rfl) 26 [(0, .tmp 40), (1, .tmp 41)] (by rfl) [(0, .slice A n c), (1, .slice A2 m d)] (by rfl) (.agg D0) HB0.out ?_)
    | (refine wpList_store_row (by rfl) 26 _ _ (by rfl) b12 D0 (by rfl) (by rfl) 26 Z R6.out SD0.out SZ0.out.1 SZ0.out.2 ?_; rw [hW6])
    | fail)
  refine (keyssame_eq W6 B3 E3 (Dg.last ks).length c3 d3 (Dg.last ks) L1'.out.1 L2.out.1).mono ?_
  rintro e w7 ⟨rfl, k7⟩
  have K7 := Lib.hid (K6.out.trans k7)
  have c31 : w7.cell? ⟨b10, 1, none⟩ = some (.slice B4 (Dg.last hs).length c4) := (X3.out.keeps k7 id).cell 1
  have c51 : w7.cell? ⟨b11, 1, none⟩ = some (.slice E4 (Dg.last hs).length d4) := (X5.out.keeps k7 id).cell 1
  have M1 := Lib.hid (And.intro (L1'.out.2.later k7) (L2.out.2.later k7))
  have R7 : Hid (w7.heap[b12]? = some (.cells D0 26 (0, 0))) := Lib.hid ((k7.block b12 (Array.getElem?_eq_some_iff.1 R6'.out).1 id).trans R6'.out)
  clear k7 c30 c50 L1' L2 R6 R6' R5 hb5 hV5 hW5 hb6 hV6 hW6 R3'
  go_wp2_with fail
  refine (hashessame_eq w7 B4 E4 (Dg.last hs).length c4 d4 (Dg.last hs) M1.out.1 M1.out.2).mono ?_
  rintro e w8 ⟨rfl, k8⟩
  have K8 := Lib.hid (K7.out.trans k8)
  have R8 : Hid (w8.heap[b12]? = some (.cells D0 26 (0, 0))) := Lib.hid ((k8.block b12 (Array.getElem?_eq_some_iff.1 R7.out).1 id).trans R7.out)
  have H3 := CC.out.wants w8 A3 A A2 p q n c m d kn ks hs (HC.out.later K8.out) (HA.out.later K8.out) (HB.out.later K8.out) (by omega) (by omega) (by omega)
  rw [HD0.out] at H3
  clear k8 c31 c51 M1 R7
  go_wp2_with (first
    | (refine wpList_load_row_w (by rfl) 26 _ (by rfl) b12 (by rfl) 26 D0 (0, 0) _ R8.out Try.underlying26 rfl SD0.out ?_)
    | fail)
  refine H3.mono ?_
  rintro e w9 ⟨P, pc, rfl, k9, l9⟩
  have K9 := Lib.hid (K8.out.trans k9)
  have R9 : Hid (w9.heap[b12]? = some (.cells D0 26 (0, 0))) := Lib.hid ((k9.block b12 (Array.getElem?_eq_some_iff.1 R8.out).1 id).trans R8.out)
  have L9 := Lib.hid l9
  clear H3 k9 l9 R8
  go_wp2_with fail
  refine (keysnot_any w9 A A3 n c p q ks kn (HA.out.later K9.out) (HC.out.later K9.out) (by omega) (by omega)).mono ?_
  rintro e w10 ⟨Q, qc, rfl, k10, o10⟩
  have K10 := Lib.hid (K9.out.trans k10)
  have R10 : Hid (w10.heap[b12]? = some (.cells D0 26 (0, 0))) := Lib.hid ((k10.block b12 (Array.getElem?_eq_some_iff.1 R9.out).1 id).trans R9.out)
  have L10 : Hid (LK w10 P (Dg.knot ks kn).length pc (Dg.knot ks kn) ∧ LK w10 Q (Dg.knot ks kn).length qc (Dg.knot ks kn)) := Lib.hid ⟨L9.out.later k10, IsList.of_own kcs_len (by decide) (fun x hx => HA.out.okAll x ((Dg.mem_knot _ _ _).1 hx).1) o10⟩
  clear k10 o10 L9 R9
  go_wp2_with fail
  refine (keyssame_eq w10 P Q _ pc qc _ L10.out.1 L10.out.2).mono ?_
  rintro e w11 ⟨rfl, k11⟩
  have K11 := Lib.hid (K10.out.trans k11)
  have R11 : Hid (w11.heap[b12]? = some (.cells D0 26 (0, 0))) := Lib.hid ((k11.block b12 (Array.getElem?_eq_some_iff.1 R10.out).1 id).trans R10.out)
  have H3 := CC.out.lacks w11 A3 A A2 p q n c m d kn ks hs (HC.out.later K11.out) (HA.out.later K11.out) (HB.out.later K11.out) (by omega) (by omega) (by omega)
  rw [HD0.out] at H3
  clear k11 R10 L10
  go_wp2_with (first
    | (refine wpList_load_row_w (by rfl) 26 _ (by rfl) b12 (by rfl) 26 D0 (0, 0) _ R11.out Try.underlying26 rfl SD0.out ?_)
    | fail)
  refine H3.mono ?_
  rintro e w12 ⟨P2, pc2, rfl, k12, l12⟩
  have K12 := Lib.hid (K11.out.trans k12)
  have R12 : Hid (w12.heap[b12]? = some (.cells D0 26 (0, 0))) := Lib.hid ((k12.block b12 (Array.getElem?_eq_some_iff.1 R11.out).1 id).trans R11.out)
  have L12 := Lib.hid l12
  clear H3 k12 l12 R11
  go_wp2_with fail
  refine (keysnot_any w12 A3 A p q n c kn ks (HC.out.later K12.out) (HA.out.later K12.out) (by omega) (by omega)).mono ?_
  rintro e w13 ⟨Q2, qc2, rfl, k13, o13⟩
  have K13 := Lib.hid (K12.out.trans k13)
  have R13 : Hid (w13.heap[b12]? = some (.cells D0 26 (0, 0))) := Lib.hid ((k13.block b12 (Array.getElem?_eq_some_iff.1 R12.out).1 id).trans R12.out)
  have L13 : Hid (LK w13 P2 (Dg.knot kn ks).length pc2 (Dg.knot kn ks) ∧ LK w13 Q2 (Dg.knot kn ks).length qc2 (Dg.knot kn ks)) := Lib.hid ⟨L12.out.later k13, IsList.of_own kcs_len (by decide) (fun x hx => HC.out.okAll x ((Dg.mem_knot _ _ _).1 hx).1) o13⟩
  clear k13 o13 L12 R12
  go_wp2_with fail
  refine (keyssame_eq w13 P2 Q2 _ pc2 qc2 _ L13.out.1 L13.out.2).mono ?_
  rintro e w14 ⟨rfl, k14⟩
  have K14 := Lib.hid (K13.out.trans k14)
  have R14 : Hid (w14.heap[b12]? = some (.cells D0 26 (0, 0))) := Lib.hid ((k14.block b12 (Array.getElem?_eq_some_iff.1 R13.out).1 id).trans R13.out)
  have H3 := CC.out.misses w14 A4 A A2 r s n c m d hh ks hs (HD.out.later K14.out) (HA.out.later K14.out) (HB.out.later K14.out) (by omega) (by omega) (by omega)
  rw [HD0.out] at H3
  clear k14 R13 L13
  go_wp2_with (first
    | (refine wpList_load_row_w (by rfl) 26 _ (by rfl) b12 (by rfl) 26 D0 (0, 0) _ R14.out Try.underlying26 rfl SD0.out ?_)
    | fail)
  refine H3.mono ?_
  rintro e w15 ⟨P3, pc3, rfl, k15, l15⟩
  have K15 := Lib.hid (K14.out.trans k15)
  have L15 := Lib.hid l15
  clear H3 k15 l15 R14
  go_wp2_with fail
  refine (hashesnot_any w15 A4 A2 r s m d hh hs (HD.out.later K15.out) (HB.out.later K15.out) (by omega) (by omega)).mono ?_
  rintro e w16 ⟨Q3, qc3, rfl, k16, o16⟩
  have K16 := Lib.hid (K15.out.trans k16)
  have L16 : Hid (LH w16 P3 (Dg.knot hh hs).length pc3 (Dg.knot hh hs) ∧ LH w16 Q3 (Dg.knot hh hs).length qc3 (Dg.knot hh hs)) := Lib.hid ⟨L15.out.later k16, IsList.of_own hbs_len (by decide) (fun x hx => HD.out.okAll x ((Dg.mem_knot _ _ _).1 hx).1) o16⟩
  clear k16 o16 L15
  go_wp2_with fail
  refine (hashessame_eq w16 P3 Q3 _ pc3 qc3 _ L16.out.1 L16.out.2).mono ?_
  rintro e w17 ⟨rfl, k17⟩
  have K17 := Lib.hid (K16.out.trans k17)
  clear k17
  go_wp2
  go_ret
  exact ⟨rfl, K17.out.below (by omega) (fun _ _ => id)⟩
end Go.Proofs.Ytmjpaopobnhckaa
