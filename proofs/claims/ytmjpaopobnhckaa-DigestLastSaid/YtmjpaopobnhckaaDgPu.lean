/-
  The statement DigestPuts, for every input, out of the contracts.
-/
import Derived.Test.YtmjpaopobnhckaaDgK
import Derived.Test.YtmjpaopobnhckaaDgS
namespace Go.Proofs.Ytmjpaopobnhckaa
open Go.RowKit Go.BigFrame
set_option linter.unusedVariables false
set_option linter.unusedSimpArgs false

set_option maxRecDepth 100000 in
set_option maxHeartbeats 2000000 in
theorem digestof_any (w : World) (A A2 : Option Addr) (n c m d : Nat) :
    Calls Try.prog 21 #[.agg (dcs (.slice A n c) (.slice A2 m d))] w fun e w' => e = .returned (.agg (dcs (.slice A n c) (.slice A2 m d))) ∧ Keeps (fun _ => False) w w' := by
  obtain ⟨Z, hZ⟩ : ∃ Z, dcs (.slice none 0 0) (.slice none 0 0) = Z := ⟨_, rfl⟩
  have hz2 : ∀ V : World, (zeroValue 28).run Try.prog V = .ok (.agg Z) V := fun V => by rw [← hZ]; exact zero_D V
  obtain ⟨C, hC⟩ : ∃ C, dcs (.slice A n c) (.slice A2 m d) = C := ⟨_, rfl⟩
  have HBD : Hid (∀ V : World, (Instr.build 28 #[(0, .slice A n c), (1, .slice A2 m d)]).run Try.prog V = .ok (.agg C) V) := Lib.hid (fun V => by rw [← hC]; exact build_D _ _ _ _ _ _ V)
  have SD : Hid ((Try.prog.info? 28).map (·.size) = some C.size ∧ Z.size = C.size ∧ C.all (·.oneCell') = true) := Lib.hid ⟨by rw [← hC]; exact size_D _ _, by rw [← hC, ← hZ]; rfl, by rw [← hC]; exact dcs_one _ _ _ _ _ _⟩
  obtain ⟨b1, hb1⟩ : ∃ x, w.heap.size = x := ⟨_, rfl⟩
  obtain ⟨W1, hW1⟩ : ∃ V, w.alloc (.cells C 26) = V := ⟨_, rfl⟩
  have k1 : Keeps (fun _ => False) w W1 := by rw [← hW1]; exact (Keeps.refl _ _).alloc _
  have r1 : Row W1 b1 26 [.slice A n c, .slice A2 m d] := by rw [← hW1, ← hb1, ← hC]; exact heap_alloc_new w _
  obtain ⟨b2, W2, W3, hb2, hW2, hW3, r2, r3, k2⟩ := lay_digest W1 28 C Z
  have kW2 : Keeps (fun _ => False) W1 W2 := by rw [← hW2]; exact (Keeps.refl _ _).alloc _
  have c0 : W2.cell? ⟨b1, 0, none⟩ = some (.slice A n c) := (r1.keeps kW2 id).cell 0
  have c1 : W2.cell? ⟨b1, 1, none⟩ = some (.slice A2 m d) := (r1.keeps kW2 id).cell 1
  have R2 := Lib.hid r2
  have R3 := Lib.hid r3
  have K2 := Lib.hid (k1.trans k2)
  have HC := Lib.hid hC
  rw [hC]
  clear hZ hC k1 r1 r2 r3 k2 kW2
  go_enter Try.func21, Try.ntmps21
  go_wp2_with (first
    | (refine wpList_made (by rfl) 28 [(0, .tmp 4), (1, .tmp 6)] (by rfl) [(0, .slice A n c), (1, .slice A2 m d)] (by rfl) (.agg C) HBD.out ?_)
    | (refine wpList_store_row (by rfl) 28 _ _ (by rfl) b2 C (by rfl) (by rfl) 28 Z R2.out SD.out.1 SD.out.2.1 SD.out.2.2 ?_; rw [hW3])
    | fail)
  refine bodyPost_ret (results_cell19 rfl _ _ b2 28 C (0, 0) _ rfl R3.out Try.underlying28 rfl SD.out.1) rfl ?_
  exact ⟨rfl, K2.out⟩
theorem put_two (ks : List Ft.Key) (fs : List (List UInt8)) : ((Dg.put ks fs).2 = 13) ∨ ((Dg.put ks fs) = (Dg.bytes ks fs, 0) ∧ ks.length ≤ 32 ∧ fs.length ≤ 32) := by
  unfold Dg.put
  split
  · exact .inl rfl
  · exact .inr ⟨rfl, by omega, by omega⟩
theorem bytes_length {ks : List Ft.Key} {fs : List (List UInt8)} (hk : ∀ k ∈ ks, Ft.Key.Ok k) (hf : ∀ k ∈ fs, k.length = 32) : (Dg.bytes ks fs).length = 2 + ks.length * 40 + fs.length * 32 := by
  unfold Dg.bytes
  rw [List.length_append, List.length_append, List.length_append, nb_length, nb_length, fm_len hk, fl_len hf]
  omega
theorem str_of_LB {w : World} {A : Option Addr} {len cap : Nat} {b : List UInt8} (h : LB w A len cap b) : (convert 37 9 (.slice A len cap)).run Try.prog w = .ok (.string (strOf b)) w := by
  have := run_string_src (P := Try.prog) w 37 9 5 Try.underlying37 Try.underlying5 Try.underlying9 A b cap h.src
  rw [h.many] at this
  exact this
set_option maxRecDepth 100000 in
set_option maxHeartbeats 4000000 in
theorem puts_walk (C : Digs) (AW : Awake19) (A : Option Addr) (n c : Nat) (ks : List Ft.Key) (A2 : Option Addr) (m d : Nat) (fs : List (List UInt8)) (W : World) (hA : LK W A n c ks) (hB : LH W A2 m d fs) :
    Calls Try.prog 4 #[.slice A n c, .slice A2 m d] W fun e w' => e = .returned (.bool true) ∧ Below W.heap.size W w' := by
  have CC := Lib.hid C
  have HAW := Lib.hid (AW W)
  have HA := Lib.hid hA
  have HB := Lib.hid hB
  obtain ⟨Z, hZ⟩ : ∃ Z, dcs (.slice none 0 0) (.slice none 0 0) = Z := ⟨_, rfl⟩
  have hz : ∀ V : World, (zeroValue 26).run Try.prog V = .ok (.agg Z) V := fun V => by rw [← hZ]; exact zero_G V
  have HZ := Lib.hid hZ
  have hnx := hA.max
  have hna := hA.le
  have hmx := hB.max
  have hma := hB.le
  have HN : Hid (ks.length = n ∧ fs.length = m) := Lib.hid ⟨hA.many, hB.many⟩
  clear C AW hA hB hZ
  go_enter Try.func4, Try.ntmps4
  go_wp2_with fail
  refine HAW.out.mono ?_
  rintro e w1 ⟨rfl, k1⟩
  have K1 := Lib.hid k1
  clear k1 HAW
  by_cases h1 : 50 < n
  · have i1 : (50 : Int) < (n : Int) := by omega
    go_wp2_with fail
    go_ret
    exact ⟨rfl, K1.out.below (by omega) (fun _ _ => id)⟩
  have i1 : ¬ (50 : Int) < (n : Int) := by omega
  by_cases h2 : 50 < m
  · have i2 : (50 : Int) < (m : Int) := by omega
    go_wp2_with fail
    go_ret
    exact ⟨rfl, K1.out.below (by omega) (fun _ _ => id)⟩
  have i2 : ¬ (50 : Int) < (m : Int) := by omega
  obtain ⟨D0, hD0⟩ : ∃ D, dcs (.slice A n c) (.slice A2 m d) = D := ⟨_, rfl⟩
  obtain ⟨b6, V2, W2, hb2, hV2, hW2, r2, r2', k2⟩ := lay_digest w1 26 D0 Z
  have K2 := Lib.hid (K1.out.trans k2)
  have SD0 : Hid ((Try.prog.info? 26).map (·.size) = some D0.size ∧ Z.size = D0.size ∧ D0.all (·.oneCell') = true) := Lib.hid ⟨by rw [← hD0]; exact size_G _ _, by rw [← hD0, ← HZ.out]; rfl, by rw [← hD0]; exact dcs_one _ _ _ _ _ _⟩
  have HB0 : Hid (∀ V : World, (Instr.build 26 #[(0, .slice A n c), (1, .slice A2 m d)]).run Try.prog V = .ok (.agg D0) V) := Lib.hid (fun V => by rw [← hD0]; exact build_G _ _ _ _ _ _ V)
  have R2 := Lib.hid r2
  have R2' := Lib.hid r2'
  have h3 := CC.out.put W2 A A2 n c m d ks fs (HA.out.later K2.out) (HB.out.later K2.out) (by omega) (by omega)
  have h4 : ∀ V : World, Calls Try.prog 21 #[.agg D0] V fun e w' => e = .returned (.agg D0) ∧ Keeps (fun _ => False) V w' := fun V => by rw [← hD0]; exact digestof_any V _ _ _ _ _ _
  have h5 : ∀ V : World, Keeps (fun _ => False) W V → Calls Try.prog 20 #[.agg D0] V fun e w' => e = .returned (.tuple #[.string (strOf (Dg.put ks fs).1), .int .i64 (Dg.put ks fs).2]) ∧ Keeps (fun _ => False) V w' := fun V kV => by rw [← hD0]; exact rput_any V _ _ _ _ _ _ ks fs (HA.out.later kV) (HB.out.later kV) (by omega) (by omega)
  have h6 := put_two ks fs
  have h7 : (Dg.put ks fs).2 = 0 → (Dg.put ks fs).1.length ≤ 3000 ∧ Dg.get (Dg.put ks fs).1 = (ks, fs, 0) := fun e => by
    rcases h6 with h | ⟨h, h32, h33⟩
    · rw [h] at e; cases e
    · rw [h]
      exact ⟨by show (Dg.bytes ks fs).length ≤ 3000; rw [bytes_length HA.out.okAll HB.out.okAll]; omega, Dg.get_bytes ks fs HA.out.okAll HB.out.okAll h32 h33⟩
  rw [hD0] at h3
  obtain ⟨bs, hbs⟩ : ∃ b, (Dg.put ks fs).1 = b := ⟨_, rfl⟩
  obtain ⟨er, her⟩ : ∃ b, (Dg.put ks fs).2 = b := ⟨_, rfl⟩
  rw [hbs, her] at h3 h5 h7
  rw [her] at h6
  have h6' : er = 13 ∨ er = 0 := by
    rcases h6 with h | ⟨h, _⟩
    · exact .inl h
    · rw [h] at her; exact .inr her.symm
  obtain ⟨S, hS⟩ : ∃ S, strOf bs = S := ⟨_, rfl⟩
  rw [hS] at h5
  have H3 := Lib.hid h3
  have H4 := Lib.hid h4
  have H5 := Lib.hid h5
  have H7 := Lib.hid h7
  have HS := Lib.hid hS
  clear r2 r2' k2 hD0 h3 h4 h5 h6 h7 hbs her hS
  go_wp2_with (first
    | (refine wpList_made (by rfl) 26 [(0, .tmp 24), (1, .tmp 25)] (by rfl) [(0, .slice A n c), (1, .slice A2 m d)] (by rfl) (.agg D0) HB0.out ?_)
    | (refine wpList_store_row (by rfl) 26 _ _ (by rfl) b6 D0 (by rfl) (by rfl) 26 Z R2.out SD0.out.1 SD0.out.2.1 SD0.out.2.2 ?_; rw [hW2])
    | (refine wpList_load_row (by rfl) 26 _ (by rfl) b6 (by rfl) 26 D0 (0, 0) _ R2'.out Try.underlying26 rfl SD0.out.1 ?_)
    | fail)
  refine H3.out.mono ?_
  rintro e w3 ⟨B, bc, rfl, k3, l3⟩
  have K3 := Lib.hid (K2.out.trans k3)
  have L3 := Lib.hid l3
  have R3 : Hid (w3.heap[b6]? = some (.cells D0 26 (0, 0))) := Lib.hid ((k3.block b6 (Array.getElem?_eq_some_iff.1 R2'.out).1 id).trans R2'.out)
  clear k3 l3 R2 R2' hb2 hV2 hW2 H3 HB0
  obtain ⟨bl, hbl⟩ : ∃ x, bs.length = x := ⟨_, rfl⟩
  rw [hbl] at L3 H7 ⊢
  have hbc := L3.out.le
  have hbm := L3.out.max
  clear hbl
  go_wp2_with (first
    | (refine wpList_load_row (by rfl) 26 _ (by rfl) b6 (by rfl) 26 D0 (0, 0) _ R3.out Try.underlying26 rfl SD0.out.1 ?_)
    | fail)
  refine (H4.out w3).mono ?_
  rintro e w4 ⟨rfl, k4⟩
  have K4 := Lib.hid (K3.out.trans k4)
  have L4 := Lib.hid (L3.out.later k4)
  clear k4 R3 L3 H4
  go_wp2_with fail
  refine (H5.out w4 K4.out).mono ?_
  rintro e w5 ⟨rfl, k5⟩
  have K5 := Lib.hid (K4.out.trans k5)
  have L5 := Lib.hid (L4.out.later k5)
  have hcv := str_of_LB L5.out
  rw [HS.out] at hcv
  clear k5 L4 H5
  rcases h6' with rfl | rfl
  · go_wp2_with fail
    go_ret
    exact ⟨rfl, K5.out.below (by omega) (fun _ _ => id)⟩
  · obtain ⟨hl3, hget⟩ := H7.out rfl
    have h8 := CC.out.get w5 B bl bc bs L5.out hl3
    rw [hget] at h8
    have H8 : Hid (Calls Try.prog 22 #[.slice B bl bc] w5 fun e w' => ∃ (A3 : Option Addr) (c3 : Nat) (A4 : Option Addr) (c4 : Nat), e = .returned (.tuple #[.agg (dcs (.slice A3 n c3) (.slice A4 m c4)), .int .i64 0]) ∧ Keeps (fun _ => False) w5 w' ∧ LK w' A3 n c3 ks ∧ LH w' A4 m c4 fs) := Lib.hid (by
      have e1 := HN.out.1
      have e2 := HN.out.2
      rw [e1, e2] at h8
      exact h8)
    clear h8 hget
    go_wp2_with fail
    refine H8.out.mono ?_
    rintro e w6 ⟨X3, x3, X4, x4, rfl, k6, l6, m6⟩
    obtain ⟨D1, hD1⟩ : ∃ D, dcs (.slice X3 n x3) (.slice X4 m x4) = D := ⟨_, rfl⟩
    obtain ⟨b11, V7, W7, hb7, hV7, hW7, r7, r7', k7⟩ := lay_digest w6 26 D1 Z
    have K7 := Lib.hid ((K5.out.trans k6).trans k7)
    have L7 := Lib.hid (And.intro (l6.later k7) (m6.later k7))
    have SD1 : Hid ((Try.prog.info? 26).map (·.size) = some D1.size ∧ Z.size = D1.size ∧ D1.all (·.oneCell') = true) := Lib.hid ⟨by rw [← hD1]; exact size_G _ _, by rw [← hD1, ← HZ.out]; rfl, by rw [← hD1]; exact dcs_one _ _ _ _ _ _⟩
    have e7 : Row W7 b11 26 [.slice X3 n x3, .slice X4 m x4] := by show _ = _; rw [r7', ← hD1]; rfl
    have c7 : W7.cell? ⟨b11, 0, none⟩ = some (.slice X3 n x3) := e7.cell 0
    have E7 := Lib.hid e7
    have R7 := Lib.hid r7
    rw [hD1]
    clear k6 l6 m6 k7 r7 r7' e7 hD1 H8 hcv
    go_wp2_with (first
      | (refine wpList_store_row (by rfl) 26 _ _ (by rfl) b11 D1 (by rfl) (by rfl) 26 Z R7.out SD1.out.1 SD1.out.2.1 SD1.out.2.2 ?_; rw [hW7])
      | fail)
    refine (keyssame_eq W7 X3 A n x3 c ks L7.out.1 (HA.out.later K7.out)).mono ?_
    rintro e w8 ⟨rfl, k8⟩
    have K8 := Lib.hid (K7.out.trans k8)
    have M8 := Lib.hid (L7.out.2.later k8)
    have c8 : w8.cell? ⟨b11, 1, none⟩ = some (.slice X4 m x4) := (E7.out.keeps k8 id).cell 1
    clear k8 L7 E7 c7 R7 hb7 hV7 hW7
    go_wp2_with fail
    refine (hashessame_eq w8 X4 A2 m x4 d fs M8.out (HB.out.later K8.out)).mono ?_
    rintro e w9 ⟨rfl, k9⟩
    have K9 := Lib.hid (K8.out.trans k9)
    clear k9
    go_wp2
    go_ret
    exact ⟨rfl, K9.out.below (by omega) (fun _ _ => id)⟩
end Go.Proofs.Ytmjpaopobnhckaa
