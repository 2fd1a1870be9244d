/-
  The statement DigestOnce, for every input, out of the contracts.
-/
import Derived.Test.YtmjpaopobnhckaaDgMe
namespace Go.Proofs.Ytmjpaopobnhckaa
open Go.RowKit Go.BigFrame
set_option linter.unusedVariables false
set_option linter.unusedSimpArgs false

theorem nodup_at {α : Type} {l : List α} (h : l.Nodup) {i k : Nat} {x y : α} (hx : l[i]? = some x) (hy : l[k]? = some y) (hik : k < i) : ¬ y = x := by
  intro e
  subst e
  obtain ⟨h1, h2⟩ := List.getElem?_eq_some_iff.1 hx
  obtain ⟨h3, h4⟩ := List.getElem?_eq_some_iff.1 hy
  exact List.pairwise_iff_getElem.1 h k i h3 h1 hik (h4.trans h2.symm)
theorem build_G00 (V : World) : (Instr.build 26 #[]).run Try.prog V = .ok (.agg (dcs (.slice none 0 0) (.slice none 0 0))) V := by kernel_rfl
theorem LK.none (w : World) : LK w none 0 0 [] := IsList.empty _ _ _ _
set_option maxRecDepth 100000 in
set_option maxHeartbeats 4000000 in
theorem once_walk (C : Digs) (AW : Awake19) (A : Option Addr) (n c : Nat) (xa : List Ft.Key) (A2 : Option Addr) (m d : Nat) (xl : List Ft.Key) (A3 : Option Addr) (p q : Nat) (ha : List (List UInt8)) (A4 : Option Addr) (r s : Nat) (hb : List (List UInt8)) (W : World)
    (hA : LK W A n c xa) (hB : LK W A2 m d xl) (hC : LH W A3 p q ha) (hD : LH W A4 r s hb) :
    Calls Try.prog 8 #[.slice A n c, .slice A2 m d, .slice A3 p q, .slice A4 r s] W fun e w' => e = .returned (.bool true) ∧ Below W.heap.size W w' := by
  have CC := Lib.hid C
  have HAW := Lib.hid (AW W)
  have HA := Lib.hid hA
  have HB := Lib.hid hB
  have HC := Lib.hid hC
  have HD := Lib.hid hD
  obtain ⟨Z, hZ⟩ : ∃ Z, dcs (.slice none 0 0) (.slice none 0 0) = Z := ⟨_, rfl⟩
  have hz : ∀ V : World, (zeroValue 26).run Try.prog V = .ok (.agg Z) V := fun V => by rw [← hZ]; exact zero_G V
  have HZ := Lib.hid hZ
  have hnx := hA.max
  have hna := hA.le
  have hmx := hB.max
  have hma := hB.le
  have hpx := hC.max
  have hpa := hC.le
  have hrx := hD.max
  have hra := hD.le
  clear C AW hA hB hC hD hZ
  go_enter Try.func8, Try.ntmps8
  go_wp2_with fail
  refine HAW.out.mono ?_
  rintro e w1 ⟨rfl, k1⟩
  have K1 := Lib.hid k1
  clear k1 HAW
  by_cases h1 : 30 < n
  · have i1 : (30 : Int) < (n : Int) := by omega
    go_wp2_with fail
    go_ret
    exact ⟨rfl, K1.out.below (by omega) (fun _ _ => id)⟩
  have i1 : ¬ (30 : Int) < (n : Int) := by omega
  by_cases h2 : 30 < m
  · have i2 : (30 : Int) < (m : Int) := by omega
    go_wp2_with fail
    go_ret
    exact ⟨rfl, K1.out.below (by omega) (fun _ _ => id)⟩
  have i2 : ¬ (30 : Int) < (m : Int) := by omega
  by_cases h3 : 30 < p
  · have i3 : (30 : Int) < (p : Int) := by omega
    go_wp2_with fail
    go_ret
    exact ⟨rfl, K1.out.below (by omega) (fun _ _ => id)⟩
  have i3 : ¬ (30 : Int) < (p : Int) := by omega
  by_cases h4 : 30 < r
  · have i4 : (30 : Int) < (r : Int) := by omega
    go_wp2_with fail
    go_ret
    exact ⟨rfl, K1.out.below (by omega) (fun _ _ => id)⟩
  have i4 : ¬ (30 : Int) < (r : Int) := by omega
  obtain ⟨D0, hD0⟩ : ∃ D, dcs (.slice A2 m d) (.slice A4 r s) = D := ⟨_, rfl⟩
  obtain ⟨b10, V2, W2, hb2, hV2, hW2, r2, r2', k2⟩ := lay_digest w1 26 D0 Z
  have K2 := Lib.hid (K1.out.trans k2)
  have SD0 : Hid ((Try.prog.info? 26).map (·.size) = some D0.size ∧ Z.size = D0.size ∧ D0.all (·.oneCell') = true) := Lib.hid ⟨by rw [← hD0]; exact size_G _ _, by rw [← hD0, ← HZ.out]; rfl, by rw [← hD0]; exact dcs_one _ _ _ _ _ _⟩
  have HB0 : Hid (∀ V : World, (Instr.build 26 #[(0, .slice A2 m d), (1, .slice A4 r s)]).run Try.prog V = .ok (.agg D0) V) := Lib.hid (fun V => by rw [← hD0]; exact build_G _ _ _ _ _ _ V)
  have R2 := Lib.hid r2
  have R2' := Lib.hid r2'
  have HD0 := Lib.hid hD0
  have h5 := CC.out.wants W2 A A2 A4 n c m d r s xa xl hb (HA.out.later K2.out) (HB.out.later K2.out) (HD.out.later K2.out) (by omega) (by omega) (by omega)
  rw [hD0] at h5
  have hwn := Dg.knot_nodup xa xl
  have hwm := fun y => Dg.mem_knot xa xl y
  have hwl := Dg.knot_le xa xl
  obtain ⟨wl, hwle⟩ : ∃ x, Dg.knot xl xa = x := ⟨_, rfl⟩
  rw [hwle] at h5 hwn hwl
  simp only [hwle] at hwm
  have hml := Dg.knot_le hb ha
  have hmm := fun y => Dg.mem_knot hb ha y
  obtain ⟨ml, hmle⟩ : ∃ x, Dg.knot ha hb = x := ⟨_, rfl⟩
  rw [hmle] at hml
  simp only [hmle] at hmm
  obtain ⟨t, ht⟩ : ∃ x, wl.length = x := ⟨_, rfl⟩
  obtain ⟨u, hu⟩ : ∃ x, ml.length = x := ⟨_, rfl⟩
  rw [ht] at h5 hwl
  rw [hu] at hml
  have ht30 : t ≤ 30 := by have := HB.out.many; omega
  have hu30 : u ≤ 30 := by have := HC.out.many; omega
  have HW := Lib.hid (And.intro hwn (And.intro hwm (And.intro ht hwle)))
  have HM := Lib.hid (And.intro hmm (And.intro hu (And.intro hmle (show ml.Nodup by rw [← hmle]; exact Dg.knot_nodup hb ha))))
  have H5 := Lib.hid h5
  clear r2 r2' k2 hD0 h5 hwn hwm hwl hml hmm ht hu hwle hmle
  go_wp2_with (first
    | (refine wpList_made (by rfl) 26 [(0, .tmp 40), (1, .tmp 41)] (by rfl) [(0, .slice A2 m d), (1, .slice A4 r s)] (by rfl) (.agg D0) HB0.out ?_)
    | (refine wpList_store_row (by rfl) 26 _ _ (by rfl) b10 D0 (by rfl) (by rfl) 26 Z R2.out SD0.out.1 SD0.out.2.1 SD0.out.2.2 ?_; rw [hW2])
    | (refine wpList_load_row (by rfl) 26 _ (by rfl) b10 (by rfl) 26 D0 (0, 0) _ R2'.out Try.underlying26 rfl SD0.out.1 ?_)
    | fail)
  refine H5.out.mono ?_
  rintro e w3 ⟨P, pc, rfl, k3, l3⟩
  have K3 := Lib.hid (K2.out.trans k3)
  have L3 := Lib.hid l3
  have hpc := l3.le
  have hpcm := l3.max
  have R3 : Hid (w3.heap[b10]? = some (.cells D0 26 (0, 0))) := Lib.hid ((k3.block b10 (Array.getElem?_eq_some_iff.1 R2'.out).1 id).trans R2'.out)
  have h6 := CC.out.misses w3 A3 A2 A4 p q m d r s ha xl hb (HC.out.later K3.out) (HB.out.later K3.out) (HD.out.later K3.out) (by omega) (by omega) (by omega)
  rw [HD0.out, HM.out.2.2.1, HM.out.2.1] at h6
  have H6 := Lib.hid h6
  clear k3 l3 R2 R2' hb2 hV2 hW2 H5 HB0 h6
  go_wp2_with (first
    | (refine wpList_load_row (by rfl) 26 _ (by rfl) b10 (by rfl) 26 D0 (0, 0) _ R3.out Try.underlying26 rfl SD0.out.1 ?_)
    | fail)
  refine H6.out.mono ?_
  rintro e w4 ⟨M, mc, rfl, k4, m4⟩
  have K4 := Lib.hid (K3.out.trans k4)
  have L4 : Hid (LK w4 P t pc wl ∧ LH w4 M u mc ml) := Lib.hid ⟨L3.out.later k4, m4⟩
  have hmc := m4.le
  have hmcm := m4.max
  have R4 : Hid (w4.heap[b10]? = some (.cells D0 26 (0, 0))) := Lib.hid ((k4.block b10 (Array.getElem?_eq_some_iff.1 R3.out).1 id).trans R3.out)
  clear k4 m4 R3 L3 H6
  go_wp2_with fail
  go_loopw [13] (fun iv wr => ∃ i : Nat, i ≤ t ∧ iv = .int .i64 (i : Int) ∧ Hid (Keeps (fun _ => False) w4 wr)) (fun iv _ => t - (intOf iv).toNat)
  case atStart => exact ⟨0, by omega, rfl, Lib.hid (Keeps.refl _ _)⟩
  case round =>
    obtain ⟨i, hi, rfl, KI⟩ := hrel
    by_cases hlt : i < t
    · have hii : (i : Int) < (t : Int) := by omega
      obtain ⟨x, hx⟩ : ∃ x, wl[i]? = some x := ⟨_, List.getElem?_eq_getElem (by have := L4.out.1.many; omega)⟩
      obtain ⟨ad, rfl, hxok, hxc⟩ := keys_at L4.out.1 hx
      obtain ⟨w0, hw0⟩ : ∃ V, V = wr := ⟨_, rfl⟩
      subst hw0
      have SXL : Hid ((Try.prog.info? 54).map (·.size) = some (kcs x).length) := Lib.hid (by rw [kcs_len x hxok]; exact info_k)
      obtain ⟨XL, hXL⟩ : ∃ L, kcs x = L := ⟨_, rfl⟩
      rw [hXL] at hxc SXL
      have HX := Lib.hid (And.intro hxok hXL)
      have HXI := Lib.hid hx
      have HXC : Hid (∀ V, Keeps (fun _ => False) w0 V → ∀ j v, XL[j]? = some v → V.cell? ((ad.add (i * 33)).add j) = some v) := Lib.hid (fun V hV j v hv => ((KI.out.trans hV).cell (World.block_lt_of_cell? _ _ (hxc j v hv)) id).trans (hxc j v hv))
      clear hx hxok hxc hXL
      go_wp2_with fail
      go_loopw [14] (fun kv wr => ∃ k : Nat, k ≤ n ∧ kv = .int .i64 (k : Int) ∧ Hid (Keeps (fun _ => False) w0 wr)) (fun kv _ => n - (intOf kv).toNat)
      case atStart => exact ⟨0, by omega, rfl, Lib.hid (Keeps.refl _ _)⟩
      case round =>
        obtain ⟨k, hk, rfl, KK⟩ := hrel
        by_cases hkt : k < n
        · have hki : (k : Int) < (n : Int) := by omega
          obtain ⟨y, hy⟩ : ∃ y, xa[k]? = some y := ⟨_, List.getElem?_eq_getElem (by have := HA.out.many; omega)⟩
          obtain ⟨ad2, rfl, hyok, hyc⟩ := keys_at HA.out hy
          have hne : ¬ y = x := (fun e => ((HW.out.2.1 x).1 (List.mem_of_getElem? HXI.out)).2 (by rw [← e]; exact List.mem_of_getElem? hy))
          have ER : Hid (∀ V : World, (binOp .eql 54 (.agg (kcs y).toArray) (.agg XL.toArray)).run Try.prog V = .ok (.bool false) V) := Lib.hid (fun V => by have h := run_eql_key y x hyok HX.out.1 V; rw [← HX.out.2]; rwa [decide_eq_false hne] at h)
          have SYL : Hid ((Try.prog.info? 54).map (·.size) = some (kcs y).length) := Lib.hid (by rw [kcs_len y hyok]; exact info_k)
          obtain ⟨YL, hYL⟩ : ∃ L, kcs y = L := ⟨_, rfl⟩
          rw [hYL] at hyc ER SYL
          have HYC : Hid (∀ V, Later wr V → ∀ j v, YL[j]? = some v → V.cell? ((ad2.add (k * 33)).add j) = some v) := Lib.hid (fun V hV j v hv => ((((K4.out.trans KI.out).trans KK.out).trans hV.out).cell (World.block_lt_of_cell? _ _ (hyc j v hv)) id).trans (hyc j v hv))
          have HXK : Hid (∀ V, Later wr V → ∀ j v, XL[j]? = some v → V.cell? ((ad.add (i * 33)).add j) = some v) := Lib.hid (fun V hV => HXC.out V (KK.out.trans hV.out))
          clear hy hyok hyc hne hYL
          go_wp2_with fail
          refine wp_region_class (Later wr) (by kernel_rfl) (by kernel_rfl) (⟨(Keeps.refl _ _).drew⟩) ?_
          refine class_value (by rfl) (.slice (some ad2) n c) (fun V hV => by go_simp) ?_
          simp only [Act.put, List.setIfInBounds_toArray, List.set_cons_zero, List.set_cons_succ]
          refine class_value (by rfl) (.int .i64 (k : Int)) (fun V hV => by go_simp) ?_
          simp only [Act.put, List.setIfInBounds_toArray, List.set_cons_zero, List.set_cons_succ]
          refine class_value (by rfl) (.pointer (some (ad2.add (k * 33)))) (fun V hV => by go_simp) ?_
          simp only [Act.put, List.setIfInBounds_toArray, List.set_cons_zero, List.set_cons_succ]
          refine class_any (by rfl) 54 (.tmp 63) (by rfl) (ad2.add (k * 33)) (by rfl) YL _ (fun V hV => HYC.out V hV) Try.underlying54 rfl SYL.out ?_
          simp only [Act.put, List.setIfInBounds_toArray, List.set_cons_zero, List.set_cons_succ]
          refine class_value (by rfl) (.slice (some ad) t pc) (fun V hV => by go_simp) ?_
          simp only [Act.put, List.setIfInBounds_toArray, List.set_cons_zero, List.set_cons_succ]
          refine class_value (by rfl) (.int .i64 (i : Int)) (fun V hV => by go_simp) ?_
          simp only [Act.put, List.setIfInBounds_toArray, List.set_cons_zero, List.set_cons_succ]
          refine class_value (by rfl) (.pointer (some (ad.add (i * 33)))) (fun V hV => by go_simp) ?_
          simp only [Act.put, List.setIfInBounds_toArray, List.set_cons_zero, List.set_cons_succ]
          refine class_any (by rfl) 54 (.tmp 67) (by rfl) (ad.add (i * 33)) (by rfl) XL _ (fun V hV => HXK.out V hV) Try.underlying54 rfl SXL.out ?_
          simp only [Act.put, List.setIfInBounds_toArray, List.set_cons_zero, List.set_cons_succ]
          refine class_eq (by rfl) .eql 54 _ (.tmp 64) (.tmp 68) (by rfl) YL.toArray XL.toArray (by rfl) (by rfl) (by kernel_rfl) (.bool false) (ER.out) ?_
          simp only [Act.put, List.setIfInBounds_toArray, List.set_cons_zero, List.set_cons_succ]
          refine wpQuiet_nil ?_
          intro V6 k6
          have K6 := Lib.hid (KK.out.trans k6.out)
          clear k6 HYC HXK
          go_wp2
          go_roundw
          case rel => exact ⟨k + 1, by omega, by go_num, K6⟩
          case measure => simp [intOf]; omega
        · obtain rfl : k = n := by omega
          go_wp2_with fail
          go_loopw [15] (fun kv wr => ∃ k : Nat, k ≤ i ∧ kv = .int .i64 (k : Int) ∧ Hid (Keeps (fun _ => False) w0 wr)) (fun kv _ => i - (intOf kv).toNat)
          case atStart => exact ⟨0, by omega, rfl, KK⟩
          case round =>
            obtain ⟨k, hk, rfl, KK⟩ := hrel
            by_cases hkt : k < i
            · have hki : (k : Int) < (i : Int) := by omega
              obtain ⟨y, hy⟩ : ∃ y, wl[k]? = some y := ⟨_, List.getElem?_eq_getElem (by have := L4.out.1.many; omega)⟩
              obtain ⟨ad2, had, hyok, hyc⟩ := keys_at L4.out.1 hy
              injection had with had
              subst had
              have hkn : (k : Int) < (t : Int) := by omega
              have hne : ¬ y = x := nodup_at HW.out.1 HXI.out hy hkt
              have ER : Hid (∀ V : World, (binOp .eql 54 (.agg (kcs y).toArray) (.agg XL.toArray)).run Try.prog V = .ok (.bool false) V) := Lib.hid (fun V => by have h := run_eql_key y x hyok HX.out.1 V; rw [← HX.out.2]; rwa [decide_eq_false hne] at h)
              have SYL : Hid ((Try.prog.info? 54).map (·.size) = some (kcs y).length) := Lib.hid (by rw [kcs_len y hyok]; exact info_k)
              obtain ⟨YL, hYL⟩ : ∃ L, kcs y = L := ⟨_, rfl⟩
              rw [hYL] at hyc ER SYL
              have HYC : Hid (∀ V, Later wr V → ∀ j v, YL[j]? = some v → V.cell? ((ad.add (k * 33)).add j) = some v) := Lib.hid (fun V hV j v hv => (((KI.out.trans KK.out).trans hV.out).cell (World.block_lt_of_cell? _ _ (hyc j v hv)) id).trans (hyc j v hv))
              have HXK : Hid (∀ V, Later wr V → ∀ j v, XL[j]? = some v → V.cell? ((ad.add (i * 33)).add j) = some v) := Lib.hid (fun V hV => HXC.out V (KK.out.trans hV.out))
              clear hy hyok hyc hne hYL
              go_wp2_with fail
              refine wp_region_class (Later wr) (by kernel_rfl) (by kernel_rfl) (⟨(Keeps.refl _ _).drew⟩) ?_
              refine class_value (by rfl) (.slice (some ad) t pc) (fun V hV => by go_simp) ?_
              simp only [Act.put, List.setIfInBounds_toArray, List.set_cons_zero, List.set_cons_succ]
              refine class_value (by rfl) (.int .i64 (k : Int)) (fun V hV => by go_simp) ?_
              simp only [Act.put, List.setIfInBounds_toArray, List.set_cons_zero, List.set_cons_succ]
              refine class_value (by rfl) (.pointer (some (ad.add (k * 33)))) (fun V hV => by go_simp) ?_
              simp only [Act.put, List.setIfInBounds_toArray, List.set_cons_zero, List.set_cons_succ]
              refine class_any (by rfl) 54 (.tmp 77) (by rfl) (ad.add (k * 33)) (by rfl) YL _ (fun V hV => HYC.out V hV) Try.underlying54 rfl SYL.out ?_
              simp only [Act.put, List.setIfInBounds_toArray, List.set_cons_zero, List.set_cons_succ]
              refine class_value (by rfl) (.slice (some ad) t pc) (fun V hV => by go_simp) ?_
              simp only [Act.put, List.setIfInBounds_toArray, List.set_cons_zero, List.set_cons_succ]
              refine class_value (by rfl) (.int .i64 (i : Int)) (fun V hV => by go_simp) ?_
              simp only [Act.put, List.setIfInBounds_toArray, List.set_cons_zero, List.set_cons_succ]
              refine class_value (by rfl) (.pointer (some (ad.add (i * 33)))) (fun V hV => by go_simp) ?_
              simp only [Act.put, List.setIfInBounds_toArray, List.set_cons_zero, List.set_cons_succ]
              refine class_any (by rfl) 54 (.tmp 81) (by rfl) (ad.add (i * 33)) (by rfl) XL _ (fun V hV => HXK.out V hV) Try.underlying54 rfl SXL.out ?_
              simp only [Act.put, List.setIfInBounds_toArray, List.set_cons_zero, List.set_cons_succ]
              refine class_eq (by rfl) .eql 54 _ (.tmp 78) (.tmp 82) (by rfl) YL.toArray XL.toArray (by rfl) (by rfl) (by kernel_rfl) (.bool false) (ER.out) ?_
              simp only [Act.put, List.setIfInBounds_toArray, List.set_cons_zero, List.set_cons_succ]
              refine wpQuiet_nil ?_
              intro V6 k6
              have K6 := Lib.hid (KK.out.trans k6.out)
              clear k6 HYC HXK
              go_wp2
              go_roundw
              case rel => exact ⟨k + 1, by omega, by go_num, K6⟩
              case measure => simp [intOf]; omega
            · obtain rfl : k = i := by omega
              have KN := Lib.hid (KI.out.trans KK.out)
              go_wp2
              go_roundw
              case rel => exact ⟨k + 1, by omega, by go_num, KN⟩
              case measure => simp [intOf]; omega
    · obtain rfl : i = t := by omega
      have K5 := Lib.hid (K4.out.trans KI.out)
      have L5 : Hid (LK wr P i pc wl ∧ LH wr M u mc ml) := Lib.hid ⟨L4.out.1.later KI.out, L4.out.2.later KI.out⟩
      have R5 : Hid (wr.heap[b10]? = some (.cells D0 26 (0, 0))) := Lib.hid ((KI.out.block b10 (Array.getElem?_eq_some_iff.1 R4.out).1 id).trans R4.out)
      obtain ⟨w5, hw5⟩ : ∃ V, V = wr := ⟨_, rfl⟩
      subst hw5
      clear KI R4 L4
      go_wp2_with fail
      go_loopw [16] (fun iv wr => ∃ i : Nat, i ≤ u ∧ iv = .int .i64 (i : Int) ∧ Hid (Keeps (fun _ => False) w5 wr)) (fun iv _ => u - (intOf iv).toNat)
      case atStart => exact ⟨0, by omega, rfl, Lib.hid (Keeps.refl _ _)⟩
      case round =>
        obtain ⟨i2, hi2, rfl, KI⟩ := hrel
        by_cases hlt2 : i2 < u
        · have hii2 : (i2 : Int) < (u : Int) := by omega
          obtain ⟨x, hx⟩ : ∃ x, ml[i2]? = some x := ⟨_, List.getElem?_eq_getElem (by have := L5.out.2.many; omega)⟩
          obtain ⟨ad, rfl, hxok, hxc⟩ := hashes_at L5.out.2 hx
          obtain ⟨w0, hw0⟩ : ∃ V, V = wr := ⟨_, rfl⟩
          subst hw0
          have SXL : Hid ((Try.prog.info? 52).map (·.size) = some (bvs x).length) := Lib.hid (by rw [hbs_len x hxok]; exact info_h)
          obtain ⟨XL, hXL⟩ : ∃ L, bvs x = L := ⟨_, rfl⟩
          rw [hXL] at hxc SXL
          have HX := Lib.hid (And.intro hxok hXL)
          have HXI := Lib.hid hx
          have HXC : Hid (∀ V, Keeps (fun _ => False) w0 V → ∀ j v, XL[j]? = some v → V.cell? ((ad.add (i2 * 32)).add j) = some v) := Lib.hid (fun V hV j v hv => ((KI.out.trans hV).cell (World.block_lt_of_cell? _ _ (hxc j v hv)) id).trans (hxc j v hv))
          clear hx hxok hxc hXL
          go_wp2_with fail
          go_loopw [17] (fun kv wr => ∃ k : Nat, k ≤ r ∧ kv = .int .i64 (k : Int) ∧ Hid (Keeps (fun _ => False) w0 wr)) (fun kv _ => r - (intOf kv).toNat)
          case atStart => exact ⟨0, by omega, rfl, Lib.hid (Keeps.refl _ _)⟩
          case round =>
            obtain ⟨k, hk, rfl, KK⟩ := hrel
            by_cases hkt : k < r
            · have hki : (k : Int) < (r : Int) := by omega
              obtain ⟨y, hy⟩ : ∃ y, hb[k]? = some y := ⟨_, List.getElem?_eq_getElem (by have := HD.out.many; omega)⟩
              obtain ⟨ad2, rfl, hyok, hyc⟩ := hashes_at HD.out hy
              have hne : ¬ y = x := (fun e => ((HM.out.1 x).1 (List.mem_of_getElem? HXI.out)).2 (by rw [← e]; exact List.mem_of_getElem? hy))
              have ER : Hid (∀ V : World, (binOp .eql 52 (.agg (bvs y).toArray) (.agg XL.toArray)).run Try.prog V = .ok (.bool false) V) := Lib.hid (fun V => by have h := run_eql_hash y x hyok HX.out.1 V; rw [← HX.out.2]; rwa [decide_eq_false hne] at h)
              have SYL : Hid ((Try.prog.info? 52).map (·.size) = some (bvs y).length) := Lib.hid (by rw [hbs_len y hyok]; exact info_h)
              obtain ⟨YL, hYL⟩ : ∃ L, bvs y = L := ⟨_, rfl⟩
              rw [hYL] at hyc ER SYL
              have HYC : Hid (∀ V, Later wr V → ∀ j v, YL[j]? = some v → V.cell? ((ad2.add (k * 32)).add j) = some v) := Lib.hid (fun V hV j v hv => ((((K5.out.trans KI.out).trans KK.out).trans hV.out).cell (World.block_lt_of_cell? _ _ (hyc j v hv)) id).trans (hyc j v hv))
              have HXK : Hid (∀ V, Later wr V → ∀ j v, XL[j]? = some v → V.cell? ((ad.add (i2 * 32)).add j) = some v) := Lib.hid (fun V hV => HXC.out V (KK.out.trans hV.out))
              clear hy hyok hyc hne hYL
              go_wp2_with fail
              refine wp_region_class (Later wr) (by kernel_rfl) (by kernel_rfl) (⟨(Keeps.refl _ _).drew⟩) ?_
              refine class_value (by rfl) (.slice (some ad2) r s) (fun V hV => by go_simp) ?_
              simp only [Act.put, List.setIfInBounds_toArray, List.set_cons_zero, List.set_cons_succ]
              refine class_value (by rfl) (.int .i64 (k : Int)) (fun V hV => by go_simp) ?_
              simp only [Act.put, List.setIfInBounds_toArray, List.set_cons_zero, List.set_cons_succ]
              refine class_value (by rfl) (.pointer (some (ad2.add (k * 32)))) (fun V hV => by go_simp) ?_
              simp only [Act.put, List.setIfInBounds_toArray, List.set_cons_zero, List.set_cons_succ]
              refine class_any (by rfl) 52 (.tmp 98) (by rfl) (ad2.add (k * 32)) (by rfl) YL _ (fun V hV => HYC.out V hV) Try.underlying52 rfl SYL.out ?_
              simp only [Act.put, List.setIfInBounds_toArray, List.set_cons_zero, List.set_cons_succ]
              refine class_value (by rfl) (.slice (some ad) u mc) (fun V hV => by go_simp) ?_
              simp only [Act.put, List.setIfInBounds_toArray, List.set_cons_zero, List.set_cons_succ]
              refine class_value (by rfl) (.int .i64 (i2 : Int)) (fun V hV => by go_simp) ?_
              simp only [Act.put, List.setIfInBounds_toArray, List.set_cons_zero, List.set_cons_succ]
              refine class_value (by rfl) (.pointer (some (ad.add (i2 * 32)))) (fun V hV => by go_simp) ?_
              simp only [Act.put, List.setIfInBounds_toArray, List.set_cons_zero, List.set_cons_succ]
              refine class_any (by rfl) 52 (.tmp 102) (by rfl) (ad.add (i2 * 32)) (by rfl) XL _ (fun V hV => HXK.out V hV) Try.underlying52 rfl SXL.out ?_
              simp only [Act.put, List.setIfInBounds_toArray, List.set_cons_zero, List.set_cons_succ]
              refine class_eq (by rfl) .eql 52 _ (.tmp 99) (.tmp 103) (by rfl) YL.toArray XL.toArray (by rfl) (by rfl) (by kernel_rfl) (.bool false) (ER.out) ?_
              simp only [Act.put, List.setIfInBounds_toArray, List.set_cons_zero, List.set_cons_succ]
              refine wpQuiet_nil ?_
              intro V6 k6
              have K6 := Lib.hid (KK.out.trans k6.out)
              clear k6 HYC HXK
              go_wp2
              go_roundw
              case rel => exact ⟨k + 1, by omega, by go_num, K6⟩
              case measure => simp [intOf]; omega
            · obtain rfl : k = r := by omega
              have KN := Lib.hid (KI.out.trans KK.out)
              go_wp2
              go_roundw
              case rel => exact ⟨i2 + 1, by omega, by go_num, KN⟩
              case measure => simp [intOf]; omega
        · obtain rfl : i2 = u := by omega
          have K6 := Lib.hid (K5.out.trans KI.out)
          have LP := Lib.hid (L5.out.1.later KI.out)
          have LM := Lib.hid (L5.out.2.later KI.out)
          have R6 : Hid (wr.heap[b10]? = some (.cells D0 26 (0, 0))) := Lib.hid ((KI.out.block b10 (Array.getElem?_eq_some_iff.1 R5.out).1 id).trans R5.out)
          have e1 : Dg.knot wl xa = wl := Dg.knot_all xa wl HW.out.1 (fun y hy => ((HW.out.2.1 y).1 hy).2)
          have e2 : Dg.knot xl xl = [] := Dg.knot_sub (fun y hy => hy)
          have e3 : Dg.knot hb hb = [] := Dg.knot_sub (fun y hy => hy)
          have e4 : Dg.knot ml [] = ml := Dg.knot_all [] ml HM.out.2.2.2 (fun y _ h => by cases h)
          obtain ⟨D3, hD3⟩ : ∃ D, dcs (.slice P i pc) (.slice none 0 0) = D := ⟨_, rfl⟩
          have HB3 : Hid (∀ V : World, (Instr.build 26 #[(0, .slice P i pc)]).run Try.prog V = .ok (.agg D3) V) := Lib.hid (fun V => by rw [← hD3]; exact build_G1 _ _ _ V)
          have HBZ : Hid (∀ V : World, (Instr.build 26 #[]).run Try.prog V = .ok (.agg Z) V) := Lib.hid (fun V => by rw [← HZ.out]; exact build_G00 V)
          have h7 := CC.out.wants wr A P none n c i pc 0 0 xa wl [] (HA.out.later K6.out) LP.out (LH.none _) (by omega) (by omega) (by omega)
          rw [hD3, e1, HW.out.2.2.1] at h7
          have H7 := Lib.hid h7
          have H8 : Hid (∀ V : World, Keeps (fun _ => False) W V → Calls Try.prog 14 #[.slice A2 m d, .agg D0] V fun e w' => ∃ (A' : Option Addr) (c' : Nat), e = .returned (.slice A' 0 c') ∧ Keeps (fun _ => False) V w') := Lib.hid (fun V kV => by
            have h := CC.out.wants V A2 A2 A4 m d m d r s xl xl hb (HB.out.later kV) (HB.out.later kV) (HD.out.later kV) (by omega) (by omega) (by omega)
            rw [HD0.out, e2] at h
            exact h.mono (fun e w' ⟨A', c', h1, h2, _⟩ => ⟨A', c', h1, h2⟩))
          have H9 : Hid (∀ V : World, Keeps (fun _ => False) W V → Calls Try.prog 17 #[.slice A4 r s, .agg D0] V fun e w' => ∃ (A' : Option Addr) (c' : Nat), e = .returned (.slice A' 0 c') ∧ Keeps (fun _ => False) V w') := Lib.hid (fun V kV => by
            have h := CC.out.misses V A4 A2 A4 r s m d r s hb xl hb (HD.out.later kV) (HB.out.later kV) (HD.out.later kV) (by omega) (by omega) (by omega)
            rw [HD0.out, e3] at h
            exact h.mono (fun e w' ⟨A', c', h1, h2, _⟩ => ⟨A', c', h1, h2⟩))
          have H10 : Hid (∀ V : World, Keeps (fun _ => False) wr V → Calls Try.prog 17 #[.slice M i2 mc, .agg Z] V fun e w' => ∃ (A' : Option Addr) (c' : Nat), e = .returned (.slice A' i2 c') ∧ Keeps (fun _ => False) V w') := Lib.hid (fun V kV => by
            have h := CC.out.misses V M none none i2 mc 0 0 0 0 ml [] [] (LM.out.later kV) (LK.none _) (LH.none _) (by omega) (by omega) (by omega)
            rw [HZ.out, e4, HM.out.2.1] at h
            exact h.mono (fun e w' ⟨A', c', h1, h2, _⟩ => ⟨A', c', h1, h2⟩))
          clear hD3 h7 e1 e2 e3 e4 KI R5 L5 K5
          go_wp2_with (first
            | (refine wpList_made (by rfl) 26 [(0, .tmp 106)] (by rfl) [(0, .slice P i pc)] (by rfl) (.agg D3) HB3.out ?_)
            | fail)
          refine H7.out.mono ?_
          rintro e w7 ⟨X, xc, rfl, k7, l7⟩
          have K7 := Lib.hid (K6.out.trans k7)
          have KR7 := Lib.hid k7
          have hx7 := l7.le
          have hx8 := l7.max
          have R7 : Hid (w7.heap[b10]? = some (.cells D0 26 (0, 0))) := Lib.hid ((k7.block b10 (Array.getElem?_eq_some_iff.1 R6.out).1 id).trans R6.out)
          clear k7 l7 R6 H7
          go_wp2_with (first
            | (refine wpList_load_row_w (by rfl) 26 _ (by rfl) b10 (by rfl) 26 D0 (0, 0) _ R7.out Try.underlying26 rfl SD0.out.1 ?_)
            | fail)
          refine (H8.out w7 K7.out).mono ?_
          rintro e w8 ⟨Y, yc, rfl, k8⟩
          have K8 := Lib.hid (K7.out.trans k8)
          have KR8 := Lib.hid (KR7.out.trans k8)
          have R8 : Hid (w8.heap[b10]? = some (.cells D0 26 (0, 0))) := Lib.hid ((k8.block b10 (Array.getElem?_eq_some_iff.1 R7.out).1 id).trans R7.out)
          clear k8 R7 H8
          go_wp2_with (first
            | (refine wpList_load_row_w (by rfl) 26 _ (by rfl) b10 (by rfl) 26 D0 (0, 0) _ R8.out Try.underlying26 rfl SD0.out.1 ?_)
            | fail)
          refine (H9.out w8 K8.out).mono ?_
          rintro e w9 ⟨Y2, yc2, rfl, k9⟩
          have K9 := Lib.hid (K8.out.trans k9)
          have KR9 := Lib.hid (KR8.out.trans k9)
          clear k9 R8 H9
          go_wp2_with (first
            | (refine wpList_madeW (by rfl) 26 [] (by rfl) [] (by rfl) (.agg Z) HBZ.out ?_)
            | fail)
          refine (H10.out w9 KR9.out).mono ?_
          rintro e w10 ⟨Y3, yc3, rfl, k10⟩
          have K10 := Lib.hid (K9.out.trans k10)
          clear k10
          go_wp2
          go_ret
          exact ⟨rfl, K10.out.below (by omega) (fun _ _ => id)⟩
end Go.Proofs.Ytmjpaopobnhckaa
