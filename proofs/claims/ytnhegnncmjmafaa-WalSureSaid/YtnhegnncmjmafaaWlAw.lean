/-
  The document's example holds: 'awake' of layer 12 returns true, and leaves all that was as it was.
-/
import Derived.Test.YtnhegnncmjmafaaWlCl
import Derived.Lib.SlBytesConst
namespace Go.Proofs.Ytnhegnncmjmafaa
open Go.RowKit Go.BigFrame
set_option linter.unusedVariables false

theorem marked_src (w : World) (xs : List UInt8) (fr : Nat × Nat) : Src (w.alloc (.cells (bvs xs).toArray 5 fr)) (some ⟨w.heap.size, 0, none⟩) (bvs xs) := fun j u hu => ⟨_, rfl, by
  rw [add_plain]
  have h : (w.alloc (.cells (bvs xs).toArray 5 fr)).heap[w.heap.size]? = some (.cells (bvs xs).toArray 5 fr) := by
    show (w.heap.push (.cells (bvs xs).toArray 5 fr))[w.heap.size]? = _
    simp
  exact rangeAt_row h j u hu⟩
theorem calm_fresh (n : Nat) : Wl.Calm (Dk.fresh n) := ⟨rfl, rfl⟩
set_option maxRecDepth 100000 in
set_option maxHeartbeats 4000000 in
theorem awake12_any (w : World) :
    Calls Try.prog 9 #[] w fun e w' => e = .returned (.bool true) ∧ Keeps (fun _ => False) w w' := by
  obtain ⟨F, hF⟩ : ∃ F : Nat → Prop, (fun k => w.heap.size ≤ k) = F := ⟨_, rfl⟩
  have hFk : ∀ k, F k → w.heap.size ≤ k := fun k h => by rw [← hF] at h; exact h
  have hnew := new_disk 8 w (by omega) (by omega)
  rw [show ((8 : Nat) : Int) = 8 from rfl, hF] at hnew
  have HNEW := Lib.hid hnew
  have kc := fun (w : World) (C : Array Value) (n c : Nat) => Lib.run_convert_bytes_const (P := Try.prog) w 33 5 C n c Try.underlying33 Try.underlying5
  have KC := Lib.hid kc
  clear kc
  clear hnew
  go_enter Try.func9, Try.ntmps9
  go_wp2_with fail
  refine HNEW.out.mono ?_
  rintro e w1 ⟨g, rfl, hg, d1, k1⟩
  have hG0 := Wl.gd_fresh 8 (by omega) (by omega)
  have hop := open_gd w1 F g _ d1 (fun k hk => by rw [← hF]; have := k1.size; omega) _ hG0 rfl (by show 4 ≤ 8; omega) (fun r hr => by cases hr) rfl
  have HOP := Lib.hid hop
  have K1 := Lib.hid k1
  clear hop HNEW k1 d1
  go_wp2_with fail
  refine HOP.out.mono ?_
  rintro e w2 ⟨p, rfl, hp, l2, k2⟩
  obtain ⟨b3, hb3⟩ : ∃ b, w2.heap.size = b := ⟨_, rfl⟩
  obtain ⟨U3, hU3⟩ : ∃ W, w2.alloc (.cells #[.int .u8 97] 5) = W := ⟨_, rfl⟩
  obtain ⟨W3, hW3⟩ : ∃ W, w2.alloc (.cells #[.int .u8 97] 5 (1, 2)) = W := ⟨_, rfl⟩
  have hcv3 : (convert 33 33 (.slice (some ⟨b3, 0, none⟩) 1 1)).run Try.prog U3 = .ok (.slice (some ⟨b3, 0, none⟩) 1 1) W3 := by rw [← hU3, ← hW3, ← hb3]; exact KC.out w2 #[.int .u8 97] 1 1
  have k3 : Keeps (fun _ => False) w2 W3 := by rw [← hW3]; exact (Keeps.refl _ _).alloc _
  have r3 : Src W3 (some ⟨b3, 0, none⟩) (bvs [97]) := by rw [← hW3, ← hb3]; exact marked_src w2 [97] (1, 2)
  obtain ⟨l0, hl0⟩ : ∃ l, (⟨(8 - 2) / 2, 0, 0, [], 0, 0⟩ : Wl.St) = l := ⟨_, rfl⟩
  rw [hl0] at hG0 l2
  have lk : l0.k = 3 := by rw [← hl0]
  have lr : l0.rows = [] := by rw [← hl0]
  have lt : l0.turn = 0 := by rw [← hl0]
  have lhv : (Wl.hv l0).length = 0 := by rw [← hl0]; rfl
  have l3 := l2.still k3
  have hap := append_any W3 F p g l0 _ l3 (some ⟨b3, 0, none⟩) 1 [97] r3 (by simp) (by show 0 ≤ 900; omega)
  obtain ⟨s4, e4, g4, c4, n4, o4⟩ := Wl.gd_ap hG0 l3.ok (calm_fresh 8) [97] (by simp) (by rw [lhv, lk]; simp)
  rw [e4] at hap
  obtain ⟨l1, hl1⟩ : ∃ l, ({ l0 with rows := l0.rows ++ [[97]] } : Wl.St) = l := ⟨_, rfl⟩
  rw [hl1] at hap g4
  have lr1 : l1.rows = [[97]] := by rw [← hl1, lr]; rfl
  have lk1 : l1.k = 3 := by rw [← hl1]; exact lk
  have lt1 : l1.turn = 0 := by rw [← hl1]; exact lt
  have HAP : Hid (Calls Try.prog 14 #[.pointer (some ⟨p, 0, none⟩), .slice (some ⟨b3, 0, none⟩) 1 1] W3 _) := Lib.hid hap
  have HG4 := Lib.hid g4
  have C4 := Lib.hid c4
  have N4 := Lib.hid (And.intro n4 o4)
  have K3 := Lib.hid ((K1.out.trans k2).trans k3)
  have HFK := Lib.hid hFk
  clear hap HOP k2 k3 r3 l2 l3 g4 c4 n4 o4 e4 hG0 hl0 lr lt lk lhv hl1 K1 hFk hp
  go_wp2_with fail
  refine HAP.out.mono ?_
  rintro e w4 ⟨rfl, x4, k4⟩
  have K4 : Hid (Keeps (fun _ => False) w w4) := Lib.hid (K3.out.trans' k4 (fun i hi h => by have := HFK.out i h; omega))
  have hsy := wsync_any w4 F p g l1 s4 x4 (by have := N4.out.2; have : (Dk.fresh 8).loose.length = 0 := rfl; omega) (by omega)
  obtain ⟨T, s5, e5, g5, c5, n5, o5, t5⟩ := Wl.gd_sy HG4.out x4.ok C4.out (by omega)
  rw [e5] at hsy
  obtain ⟨l2, hl2⟩ : ∃ l, ({ l1 with turn := T, sure := l1.rows.length } : Wl.St) = l := ⟨_, rfl⟩
  rw [hl2] at hsy g5
  have lr2 : l2.rows = [[97]] := by rw [← hl2]; exact lr1
  have lk2 : l2.k = 3 := by rw [← hl2]; exact lk1
  have ls2 : l2.sure = 1 := by rw [← hl2]; show l1.rows.length = 1; rw [lr1]; rfl
  have lt2 : l2.turn ≤ 1 := by rw [← hl2]; show T ≤ 1; omega
  have HSY := Lib.hid hsy
  have HG5 := Lib.hid g5
  have C5 := Lib.hid c5
  have N5 := Lib.hid (And.intro (n5.trans N4.out.1) (Nat.le_trans o5 N4.out.2))
  clear hsy HAP k4 x4 g5 c5 n5 o5 e5 hl2 HG4 C4 N4 K3 lt1 lk1 lr1 t5
  go_wp2_with fail
  refine HSY.out.mono ?_
  rintro e w5 ⟨rfl, x5, k5⟩
  obtain ⟨b6, hb6⟩ : ∃ b, w5.heap.size = b := ⟨_, rfl⟩
  obtain ⟨U6, hU6⟩ : ∃ W, w5.alloc (.cells #[.int .u8 98] 5) = W := ⟨_, rfl⟩
  obtain ⟨W6, hW6⟩ : ∃ W, w5.alloc (.cells #[.int .u8 98] 5 (1, 2)) = W := ⟨_, rfl⟩
  have hcv6 : (convert 33 33 (.slice (some ⟨b6, 0, none⟩) 1 1)).run Try.prog U6 = .ok (.slice (some ⟨b6, 0, none⟩) 1 1) W6 := by rw [← hU6, ← hW6, ← hb6]; exact KC.out w5 #[.int .u8 98] 1 1
  have k6 : Keeps (fun _ => False) w5 W6 := by rw [← hW6]; exact (Keeps.refl _ _).alloc _
  have r6 : Src W6 (some ⟨b6, 0, none⟩) (bvs [98]) := by rw [← hW6, ← hb6]; exact marked_src w5 [98] (1, 2)
  have x6 := x5.still k6
  have l0e : (Dk.fresh 8).loose.length = 0 := rfl
  have hhv : (Wl.hv l2).length = 9 := by unfold Wl.hv; rw [lr2, Wl.frames_one, Wl.frame_length]; rfl
  have hap := append_any W6 F p g l2 s5 x6 (some ⟨b6, 0, none⟩) 1 [98] r6 (by simp) (by have := N5.out.2; omega)
  obtain ⟨s7, e7, g7, c7, n7, o7⟩ := Wl.gd_ap HG5.out x6.ok C5.out [98] (by simp) (by rw [hhv, lk2]; simp)
  rw [e7] at hap
  obtain ⟨l3, hl3⟩ : ∃ l, ({ l2 with rows := l2.rows ++ [[98]] } : Wl.St) = l := ⟨_, rfl⟩
  rw [hl3] at hap g7
  have lr3 : l3.rows = [[97], [98]] := by rw [← hl3]; show l2.rows ++ _ = _; rw [lr2]; rfl
  have lk3 : l3.k = 3 := by rw [← hl3]; exact lk2
  have ls3 : l3.sure = 1 := by rw [← hl3]; exact ls2
  have HAP : Hid (Calls Try.prog 14 #[.pointer (some ⟨p, 0, none⟩), .slice (some ⟨b6, 0, none⟩) 1 1] W6 _) := Lib.hid hap
  have HG7 := Lib.hid g7
  have N7 := Lib.hid (And.intro (n7.trans N5.out.1) (show s7.loose.length ≤ 200 by have := N5.out.2; omega))
  have K6 : Hid (Keeps (fun _ => False) w W6) := Lib.hid ((K4.out.trans' k5 (fun i hi h => by have := HFK.out i h; omega)).trans k6)
  clear hap HSY k5 x5 k6 r6 x6 g7 c7 n7 o7 e7 hl3 HG5 C5 N5 K4 hhv lk2 lr2 ls2 lt2 l0e
  go_wp2_with fail
  refine HAP.out.mono ?_
  rintro e w7 ⟨rfl, x7, k7⟩
  have hre := wrecords_any w7 F p g l3 x7.log
  rw [lr3] at hre
  have HRE : Hid (Calls Try.prog 20 #[.pointer (some ⟨p, 0, none⟩)] w7 fun e w' => ∃ A c rs, e = .returned (.slice A 2 c) ∧ bsOf rs = [[97], [98]] ∧ RowsOwn w' w7.heap.size A c rs ∧ Keeps (fun _ => False) w7 w') := Lib.hid hre
  have X7 := Lib.hid x7
  have K7 : Hid (Keeps (fun _ => False) w w7) := Lib.hid (K6.out.trans' k7 (fun i hi h => by have := HFK.out i h; omega))
  clear hre HAP x7 k7 K6
  go_wp2_with fail
  refine HRE.out.mono ?_
  rintro e w8 ⟨Ax, cx, rx, rfl, -, -, k8⟩
  obtain ⟨b9, hb9⟩ : ∃ b, w8.heap.size = b := ⟨_, rfl⟩
  obtain ⟨W9, hW9⟩ : ∃ W, w8.alloc (.cells #[.int .u8 255] 5) = W := ⟨_, rfl⟩
  have k9 : Keeps (fun _ => False) w8 W9 := by rw [← hW9]; exact (Keeps.refl _ _).alloc _
  have r9 : Row W9 b9 5 (bvs [255]) := by rw [← hW9, ← hb9]; exact heap_alloc_new w8 _
  have x8 := X7.out.still k8
  have x9 := x8.later k9
  have hcr := wal_crash W9 _ p g l3 s7 x9 (by have := N7.out.2; omega) (some ⟨b9, 0, none⟩) 1 [255] r9.src (fun a ha _ hf => by
    injection ha with ha
    subst ha
    have := r9.lt
    rcases hf.2 with h | h
    · rw [hb9] at h; simp only at h; omega
    · simp only at h; omega) (by simp)
  have HCR : Hid (Calls Try.prog 18 #[.pointer (some ⟨g, 0, none⟩), .slice (some ⟨b9, 0, none⟩) 1 1] W9 fun e w' => e = .returned (.tuple #[]) ∧ Wal w' F p g l3 (Dk.cr s7 [255]) ∧ Keeps F W9 w') := Lib.hid (hcr.mono (fun e w' h => ⟨h.1, h.2.1.mono (fun k hk => hk.1), h.2.2.mono (fun k _ hk => hk.1)⟩))
  have K9 : Hid (Keeps (fun _ => False) w W9) := Lib.hid ((K7.out.trans k8).trans k9)
  clear hcr HRE k8 k9 r9 x8 x9 X7 K7
  go_wp2_with fail
  refine HCR.out.mono ?_
  rintro e w10 ⟨rfl, x10, k10⟩
  have hG := Wl.gd_cr HG7.out [255]
  obtain ⟨s10, hs10⟩ : ∃ s, Dk.cr s7 [255] = s := ⟨_, rfl⟩
  have n10 : s10.n = 8 := by rw [← hs10]; exact N7.out.1
  rw [hs10] at hG x10
  obtain ⟨l4, hl4⟩ : ∃ l, ({ l3 with rows := l3.rows.take l3.sure, sure := (l3.rows.take l3.sure).length } : Wl.St) = l := ⟨_, rfl⟩
  rw [hl4] at hG
  have lr4 : l4.rows = [[97]] := by rw [← hl4]; show l3.rows.take l3.sure = _; rw [lr3, ls3]; rfl
  have lk4 : l4.k = 3 := by rw [← hl4]; exact lk3
  have ls4 : l4.sure = l4.rows.length := by rw [← hl4]
  have lhv4 : (Wl.hv l4).length = 9 := by unfold Wl.hv; rw [lr4, Wl.frames_one, Wl.frame_length]; rfl
  have le4 := hG.err
  have hop := open_gd w10 F g s10 x10.disk x10.clo l4 hG (by rw [lk4, n10]) (by omega) (fun r hr => by rw [lr4, List.mem_singleton] at hr; subst hr; simp) ls4
  have HOP := Lib.hid hop
  have X10 := Lib.hid x10
  have K10 : Hid (Keeps (fun _ => False) w w10) := Lib.hid (K9.out.trans' k10 (fun i hi h => by have := HFK.out i h; omega))
  clear hop HCR x10 k10 K9 hG hl4 HG7 N7 lr3 lk3 hs10
  go_wp2_with fail
  refine HOP.out.mono ?_
  rintro e w11 ⟨q, rfl, hq, x11, k11⟩
  have hre := wrecords_any w11 F q g l4 x11.log
  rw [lr4] at hre
  have HRE : Hid (Calls Try.prog 20 #[.pointer (some ⟨q, 0, none⟩)] w11 fun e w' => ∃ A c rs, e = .returned (.slice A 1 c) ∧ bsOf rs = [[97]] ∧ RowsOwn w' w11.heap.size A c rs ∧ Keeps (fun _ => False) w11 w') := Lib.hid hre
  have X11 := Lib.hid x11
  have Y11 := Lib.hid (X10.out.still k11)
  have K11 := Lib.hid (K10.out.trans k11)
  clear hre HOP x11 k11 X10 K10
  go_wp2_with fail
  refine HRE.out.mono ?_
  rintro e w12 ⟨Ax2, cx2, rx2, rfl, hbs, hro, k12⟩
  obtain ⟨⟨A1, c1, xs⟩, rfl⟩ : ∃ r, rx2 = [r] := by
    have hl := congrArg List.length hbs
    unfold bsOf at hl
    rw [List.length_map] at hl
    exact List.length_eq_one_iff.1 hl
  obtain rfl : xs = [97] := by injection hbs
  obtain ⟨ad, rfl, hc⟩ := hro.at_.cell 0 _ rfl
  have hsrc := hro.at_.src _ (List.mem_singleton.2 rfl)
  have hstr := run_string_src (P := Try.prog) w12 33 9 5 Try.underlying33 Try.underlying5 Try.underlying9 A1 [97] c1 hsrc
  obtain ⟨X2, hX2⟩ : ∃ X, ad = ⟨X, 0, none⟩ := by
    rcases hro.own.2 with ⟨_, h⟩ | ⟨X, cap, cur, h, _⟩
    · cases h
    · injection h with h; injection h with h; exact ⟨X, h⟩
  subst hX2
  have hc0 : w12.cell? ⟨X2, 0, none⟩ = some (.slice A1 1 c1) := by rw [add_plain] at hc; exact hc
  have hstr' : (convert 33 9 (.slice A1 1 c1)).run Try.prog w12 = .ok (.string (ByteArray.mk #[97])) w12 := hstr
  have x12 := X11.out.still k12
  have y12 := Y11.out.still k12
  have hsu := wsure_any w12 F p g l3 y12.log
  rw [ls3] at hsu
  have hfr := wfree_any w12 F q g l4 x12.log
  rw [lhv4, lk4] at hfr
  have HSU := Lib.hid hsu
  have HFR := Lib.hid hfr
  have HER := Lib.hid (fun V (hV : Keeps (fun _ => False) w12 V) => werr_any V F q g l4 (x12.still hV).log)
  have K12 := Lib.hid (K11.out.trans k12)
  clear hro hsrc hstr hc hsu hfr HRE X11 Y11 K11 k12 hbs
  go_wp2_with fail
  refine HSU.out.mono ?_
  rintro e wx ⟨rfl, hx⟩
  obtain rfl : w12 = wx := hx.symm
  go_wp2_with fail
  refine HFR.out.mono ?_
  rintro e w13 ⟨rfl, k13⟩
  have her := HER.out w13 k13
  rw [le4] at her
  have HER2 := Lib.hid her
  have K13 := Lib.hid (K12.out.trans k13)
  clear her k13 HER HFR HSU
  go_wp2_with fail
  refine HER2.out.mono ?_
  rintro e wx ⟨rfl, hx⟩
  obtain rfl : w13 = wx := hx.symm
  go_wp2
  go_ret
  exact ⟨rfl, K13.out⟩
end Go.Proofs.Ytnhegnncmjmafaa
