/-
  WalBig's walk.
-/
import Derived.Test.YtaadmkhhgpcgeaaWlAw
import Derived.Test.YtaadmkhhgpcgeaaRowU
namespace Go.Proofs.Ytaadmkhhgpcgeaa
open Go.RowKit Go.BigFrame
set_option linter.unusedVariables false

theorem own_one {w : World} {K : Nat} {A : Option Addr} {c : Nat} {rs : List RowOf} {b : List UInt8} (h : RowsOwn w K A c rs) (hb : bsOf rs = [b]) (hn : 0 < b.length) :
    ∃ X Y c1, A = some ⟨X, 0, none⟩ ∧ w.cell? ⟨X, 0, none⟩ = some (.slice (some ⟨Y, 0, none⟩) b.length c1) ∧ ∀ j v, (bvs b)[j]? = some v → w.cell? ⟨Y, j, none⟩ = some v := by
  have hl := congrArg List.length hb
  unfold bsOf at hl
  rw [List.length_map] at hl
  obtain ⟨⟨A1, c1, xs⟩, rfl⟩ := List.length_eq_one_iff.1 hl
  obtain rfl : xs = b := by injection hb
  obtain ⟨ad, rfl, hc⟩ := h.at_.cell 0 _ rfl
  obtain ⟨X, rfl⟩ : ∃ X, ad = ⟨X, 0, none⟩ := by
    rcases h.own.2 with ⟨_, h⟩ | ⟨X, cap, cur, h, _⟩
    · cases h
    · injection h with h; injection h with h; exact ⟨X, h⟩
  have he := h.each _ (List.mem_singleton.2 rfl)
  have hs := Src.of_own he
  obtain ⟨Y, hY⟩ : ∃ Y, A1 = some ⟨Y, 0, none⟩ := by
    rcases he.2 with ⟨_, h⟩ | ⟨X, cap, cur, h, _⟩
    · simp only at h; omega
    · injection h with h; exact ⟨X, h⟩
  subst hY
  refine ⟨X, Y, c1, rfl, by rw [add_plain] at hc; exact hc, fun j v hv => ?_⟩
  obtain ⟨a, ha, hc2⟩ := hs j v hv
  injection ha with ha
  subst ha
  rw [add_plain, Nat.zero_add] at hc2
  exact hc2
set_option maxRecDepth 100000 in
set_option maxHeartbeats 8000000 in
theorem big_go (a x : Nat) (ha : a ≤ 255) (hx : x ≤ 255) (w : World) :
    Calls Try.prog 7 #[.int .u8 (a : Int), .int .u8 (x : Int)] w fun e w' => e = .returned (.bool true) ∧ Keeps (fun _ => False) w w' := by
  obtain ⟨L, hL⟩ : ∃ L, 16384 - a = L := ⟨_, rfl⟩
  obtain ⟨m, hm⟩ : ∃ m, L - 1 = m := ⟨_, rfl⟩
  have e1 : IntKind.i64.wrap (16384 - (a : Int)) = (L : Int) := by rw [IntWalk.i64_in _ (by omega)]; omega
  have e2 : IntKind.i64.wrap ((L : Int) - 1) = (m : Int) := by rw [IntWalk.i64_in _ (by omega)]; omega
  have e0 : IntKind.i64.wrap (a : Int) = (a : Int) := IntWalk.i64_in _ (by omega)
  obtain ⟨bb, hbb⟩ : ∃ b, (List.replicate L (0 : UInt8)).set m (UInt8.ofNat x) = b := ⟨_, rfl⟩
  have hbl : bb.length = L := by rw [← hbb]; simp
  have hbv : (bvs (List.replicate L (0 : UInt8))).set m (.int .u8 (x : Int)) = bvs bb := by
    rw [← hbb]; unfold bvs; rw [List.map_set]; congr 1
    unfold bv; rw [UInt8.toNat_ofNat']; congr 1; omega
  have hbm : (bvs bb)[m]? = some (.int .u8 (x : Int)) := by rw [← hbv, List.getElem?_set_self (by rw [bvs_length, List.length_replicate]; omega)]
  have haw := awake12_any w
  have HAW := Lib.hid haw
  have HB := Lib.hid (And.intro hbl (And.intro hbv hbm))
  clear haw hbb hbv hbm hbl
  go_enter Try.func7, Try.ntmps7
  go_wp2_with fail
  refine HAW.out.mono ?_
  rintro e w0 ⟨rfl, k0⟩
  obtain ⟨F, hF⟩ : ∃ F : Nat → Prop, (fun k => w0.heap.size ≤ k) = F := ⟨_, rfl⟩
  have HFK : Hid (∀ k, F k → w.heap.size ≤ k) := Lib.hid (fun k h => by rw [← hF] at h; have := k0.size; omega)
  have hnew := new_disk 142 w0 (by omega) (by omega)
  rw [show ((142 : Nat) : Int) = 142 from rfl, hF] at hnew
  have HNEW := Lib.hid hnew
  have K0 := Lib.hid k0
  clear hnew k0 HAW
  go_wp2_with fail
  refine HNEW.out.mono ?_
  rintro e w1 ⟨g, rfl, hg, d1, k1⟩
  have hG0 := Wl.gd_fresh 142 (by omega) (by omega)
  have hop := open_gd w1 F g _ d1 (fun k hk => by rw [← hF]; have := k1.size; omega) _ hG0 rfl (by show 4 ≤ 142; omega) (fun r hr => by cases hr) rfl
  have HOP := Lib.hid hop
  have K1 := Lib.hid (K0.out.trans k1)
  clear hop HNEW k1 d1 hF K0
  go_wp2_with fail
  refine HOP.out.mono ?_
  rintro e w2 ⟨p, rfl, hp, x2, k2⟩
  obtain ⟨l0, hl0⟩ : ∃ l, (⟨(142 - 2) / 2, 0, 0, [], 0, 0⟩ : Wl.St) = l := ⟨_, rfl⟩
  rw [hl0] at hG0 x2
  have lk : l0.k = 70 := by rw [← hl0]
  have lr : l0.rows = [] := by rw [← hl0]
  have lt : l0.turn = 0 := by rw [← hl0]
  have ls : l0.sure = 0 := by rw [← hl0]
  have lhv : (Wl.hv l0).length = 0 := by rw [← hl0]; rfl
  obtain ⟨b3, hb3⟩ : ∃ b, w2.heap.size = b := ⟨_, rfl⟩
  obtain ⟨W3, hW3⟩ : ∃ W, w2.alloc (.cells (bvs (List.replicate L 0)).toArray 5) = W := ⟨_, rfl⟩
  have hmk := make_zeros L (by omega) w2
  rw [hW3, hb3] at hmk
  have k3 : Keeps (fun _ => False) w2 W3 := by rw [← hW3]; exact (Keeps.refl _ _).alloc _
  have r3 : Row W3 b3 5 (bvs (List.replicate L 0)) := by rw [← hW3, ← hb3]; exact heap_alloc_new w2 _
  have c3 : W3.cell? ⟨b3, m, none⟩ = some (.int .u8 0) := by rw [r3.cell, bvs_get, List.getElem?_replicate, if_pos (by omega)]; rfl
  have f3 : W3.frozen? ⟨b3, m, none⟩ = false := r3.frozen m
  obtain ⟨W4, hW4⟩ : ∃ W, W3.setCell ⟨b3, m, none⟩ (.int .u8 (x : Int)) = W := ⟨_, rfl⟩
  have k4 : Keeps (fun _ => False) w2 W4 := k3.trans' (by rw [← hW4]; exact (Keeps.refl (fun k => k = b3) W3).setCell (p := ⟨b3, m, none⟩) (fun _ => rfl) _) (fun i hi e => by omega)
  have r4 : Row W4 b3 5 (bvs bb) := by rw [← hW4, ← HB.out.2.1]; exact r3.set m _
  have hml : (m : Int) < (L : Int) := by omega
  have x4 := x2.still k4
  have hap := append_any W4 F p g l0 _ x4 (some ⟨b3, 0, none⟩) L bb r4.src ⟨by rw [HB.out.1]; omega, by omega⟩ (by show 0 ≤ 900; omega)
  obtain ⟨s5, e5, g5, c5, n5, o5⟩ := Wl.gd_ap hG0 x4.ok (calm_fresh 142) bb (by rw [HB.out.1]; omega) (by rw [lhv, lk, HB.out.1]; omega)
  rw [e5, HB.out.1] at hap
  obtain ⟨l1, hl1⟩ : ∃ l, ({ l0 with rows := l0.rows ++ [bb] } : Wl.St) = l := ⟨_, rfl⟩
  rw [hl1] at hap g5
  have lr1 : l1.rows = [bb] := by rw [← hl1, lr]; rfl
  have lk1 : l1.k = 70 := by rw [← hl1]; exact lk
  have lt1 : l1.turn = 0 := by rw [← hl1]; exact lt
  have HAP := Lib.hid hap
  have HG5 := Lib.hid g5
  have C5 := Lib.hid c5
  have N5 : Hid (s5.n = 142 ∧ s5.loose.length ≤ 66) := Lib.hid (And.intro n5 (by have : (Dk.fresh 142).loose.length = 0 := rfl; omega))
  have K4 := Lib.hid ((K1.out.trans k2).trans k4)
  clear hap HOP k2 k3 k4 r3 r4 x2 x4 g5 c5 n5 o5 e5 hG0 hl0 lr lt lk ls lhv hl1 K1 hp
  go_wp2_with fail
  refine HAP.out.mono ?_
  rintro e w5 ⟨rfl, x5, k5⟩
  have k5' : Keeps (fun _ => False) w w5 := K4.out.trans' k5 (fun i hi h => by have := HFK.out i h; omega)
  obtain ⟨Z, hZ⟩ : ∃ Z : List UInt8, List.replicate 16385 0 = Z := ⟨_, rfl⟩
  have hZl : Z.length = 16385 := by rw [← hZ, List.length_replicate]
  obtain ⟨b6, hb6⟩ : ∃ b, w5.heap.size = b := ⟨_, rfl⟩
  have hmk := make_zeros 16385 (by omega) w5
  rw [hZ, hb6, show ((16385 : Nat) : Int) = 16385 from rfl] at hmk
  obtain ⟨W6, hW6⟩ : ∃ W, w5.alloc (.cells (bvs Z).toArray 5) = W := ⟨_, rfl⟩
  rw [hW6] at hmk
  have k6 : Keeps (fun _ => False) w5 W6 := by rw [← hW6]; exact (Keeps.refl _ _).alloc _
  have r6 : Row W6 b6 5 (bvs Z) := by rw [← hW6, ← hb6]; exact heap_alloc_new w5 _
  have hap := append_any W6 F p g l1 s5 (x5.still k6) (some ⟨b6, 0, none⟩) 16385 Z r6.src ⟨by omega, by omega⟩ (by have := N5.out.2; omega)
  have eap : Wl.ap l1 s5 Z = (13, l1, s5) := by unfold Wl.ap; rw [if_neg (by rw [HG5.out.err]; exact fun h => h rfl), if_pos (by omega)]
  rw [eap, hZl] at hap
  have HAP2 := Lib.hid hap
  have K6 := Lib.hid (k5'.trans k6)
  have HZ := Lib.hid (And.intro hZ hZl)
  clear hap k5' k5 k6 x5 r6 HAP hW6 hZ K4 eap hZl
  go_wp2_with fail
  refine HAP2.out.mono ?_
  rintro e w7 ⟨rfl, x7, k7⟩
  have k7' : Keeps (fun _ => False) w w7 := K6.out.trans' k7 (fun i hi h => by have := HFK.out i h; omega)
  obtain ⟨b8, hb8⟩ : ∃ b, w7.heap.size = b := ⟨_, rfl⟩
  have hmk2 := make_zeros 16385 (by omega) w7
  rw [HZ.out.1, hb8, show ((16385 : Nat) : Int) = 16385 from rfl] at hmk2
  obtain ⟨W8, hW8⟩ : ∃ W, w7.alloc (.cells (bvs Z).toArray 5) = W := ⟨_, rfl⟩
  rw [hW8] at hmk2
  have k8 : Keeps (fun _ => False) w7 W8 := by rw [← hW8]; exact (Keeps.refl _ _).alloc _
  have r8 : Row W8 b8 5 (bvs Z) := by rw [← hW8, ← hb8]; exact heap_alloc_new w7 _
  obtain ⟨b9, hb9⟩ : ∃ b, W8.heap.size = b := ⟨_, rfl⟩
  obtain ⟨W9, hW9⟩ : ∃ W, W8.alloc (.cells #[.slice (some ⟨b8, 0, none⟩) 16385 16385] 33) = W := ⟨_, rfl⟩
  have k9 : Keeps (fun _ => False) W8 W9 := by rw [← hW9]; exact (Keeps.refl _ _).alloc _
  have r9 : Row W9 b9 33 [.slice (some ⟨b8, 0, none⟩) 16385 16385] := by rw [← hW9, ← hb9]; exact heap_alloc_new W8 _
  have hcp := wcompact_any W9 F p g l1 s5 (x7.still (k8.trans k9)) (some ⟨b9, 0, none⟩) 1 [(some ⟨b8, 0, none⟩, 16385, Z)] (rowsAt_one (by rw [add_plain, r9.cell]; show some (Value.slice (some ⟨b8, 0, none⟩) 16385 16385) = _; rw [HZ.out.2]) ((r8.src).keeps k9 (fun _ _ _ => id)) ⟨by show Z.length ≤ 16385; rw [HZ.out.2]; exact Nat.le_refl _, by show (16385 : Nat) ≤ _; omega⟩) (by simp) (by rw [lk1]; have := N5.out.2; omega) (by omega)
  have ecp : Wl.cp l1 s5 (bsOf [((some ⟨b8, 0, none⟩ : Option Addr), 16385, Z)]) = (13, l1, s5) := by
    unfold Wl.cp
    rw [if_neg (by rw [HG5.out.err]; exact fun h => h rfl), if_pos ⟨Z, List.mem_singleton.2 rfl, by have := HZ.out.2; omega⟩]
  rw [ecp] at hcp
  have HCP : Hid (Calls Try.prog 17 #[.pointer (some ⟨p, 0, none⟩), .slice (some ⟨b9, 0, none⟩) 1 1] W9 fun e w' => e = .returned (.int .i64 13) ∧ Wal w' F p g l1 s5 ∧ Keeps F W9 w') := Lib.hid hcp
  have K9 := Lib.hid ((k7'.trans k8).trans k9)
  clear hcp k7' k7 k8 k9 x7 r8 r9 HAP2 hW8 K6 ecp hmk
  go_wp2_with fail
  refine HCP.out.mono ?_
  rintro e w10 ⟨rfl, x10, k10⟩
  have K10 : Hid (Keeps (fun _ => False) w w10) := Lib.hid (K9.out.trans' k10 (fun i hi h => by have := HFK.out i h; omega))
  have hsy := wsync_any w10 F p g l1 s5 x10 (by have := N5.out.2; omega) (by omega)
  obtain ⟨T, s11, e11, g11, c11, n11, o11, t11⟩ := Wl.gd_sy HG5.out x10.ok C5.out (by omega)
  rw [e11] at hsy
  obtain ⟨l2, hl2⟩ : ∃ l, ({ l1 with turn := T, sure := l1.rows.length } : Wl.St) = l := ⟨_, rfl⟩
  rw [hl2] at hsy g11
  have lr2 : l2.rows = [bb] := by rw [← hl2]; exact lr1
  have lk2 : l2.k = 70 := by rw [← hl2]; exact lk1
  have ls2 : l2.sure = 1 := by rw [← hl2]; show l1.rows.length = 1; rw [lr1]; rfl
  have HSY := Lib.hid hsy
  have HG11 := Lib.hid g11
  have N11 : Hid (s11.n = 142 ∧ s11.loose.length ≤ 66) := Lib.hid (And.intro (n11.trans N5.out.1) (Nat.le_trans o11 N5.out.2))
  clear hsy HCP k10 x10 g11 c11 n11 o11 e11 hl2 HG5 C5 N5 K9 lt1 lk1 lr1 t11 hmk2
  go_wp2_with fail
  refine HSY.out.mono ?_
  rintro e w11 ⟨rfl, x11, k11⟩
  have hcr := wal_crash w11 F p g l2 s11 x11 (by have := N11.out.2; omega) none 0 [] (Src.nil _ _) (fun a ha => by cases ha) (by simp)
  have HCR : Hid (Calls Try.prog 18 #[.pointer (some ⟨g, 0, none⟩), .slice none 0 0] w11 fun e w' => e = .returned (.tuple #[]) ∧ Wal w' F p g l2 (Dk.cr s11 []) ∧ Keeps F w11 w') := Lib.hid hcr
  have K11 : Hid (Keeps (fun _ => False) w w11) := Lib.hid (K10.out.trans' k11 (fun i hi h => by have := HFK.out i h; omega))
  clear hcr HSY k11 x11 K10
  go_wp2_with fail
  refine HCR.out.mono ?_
  rintro e w12 ⟨rfl, x12, k12⟩
  have hG := Wl.gd_cr HG11.out []
  obtain ⟨s12, hs12⟩ : ∃ s, Dk.cr s11 [] = s := ⟨_, rfl⟩
  have n12 : s12.n = 142 := by rw [← hs12]; exact N11.out.1
  rw [hs12] at hG x12
  obtain ⟨l4, hl4⟩ : ∃ l, ({ l2 with rows := l2.rows.take l2.sure, sure := (l2.rows.take l2.sure).length } : Wl.St) = l := ⟨_, rfl⟩
  rw [hl4] at hG
  have lr4 : l4.rows = [bb] := by rw [← hl4]; show l2.rows.take l2.sure = _; rw [lr2, ls2]; rfl
  have lk4 : l4.k = 70 := by rw [← hl4]; exact lk2
  have ls4 : l4.sure = l4.rows.length := by rw [← hl4]
  have hop := open_gd w12 F g s12 x12.disk x12.clo l4 hG (by rw [lk4, n12]) (by omega) (fun r hr => by rw [lr4, List.mem_singleton] at hr; subst hr; rw [HB.out.1]; omega) ls4
  have HOP := Lib.hid hop
  have K12 : Hid (Keeps (fun _ => False) w w12) := Lib.hid (K11.out.trans' k12 (fun i hi h => by have := HFK.out i h; omega))
  clear hop HCR x12 k12 K11 hG hl4 HG11 N11 lr2 lk2 hs12
  go_wp2_with fail
  refine HOP.out.mono ?_
  rintro e w13 ⟨q, rfl, hq, x13, k13⟩
  have hre := wrecords_any w13 F q g l4 x13.log
  rw [lr4] at hre
  have HRE : Hid (Calls Try.prog 20 #[.pointer (some ⟨q, 0, none⟩)] w13 fun e w' => ∃ A c rs, e = .returned (.slice A 1 c) ∧ bsOf rs = [bb] ∧ RowsOwn w' w13.heap.size A c rs ∧ Keeps (fun _ => False) w13 w') := Lib.hid hre
  have K13 := Lib.hid (K12.out.trans k13)
  clear hre HOP x13 k13 K12
  go_wp2_with fail
  refine HRE.out.mono ?_
  rintro e w14 ⟨Ax, cx, rx, rfl, hbs, hro, k14⟩
  obtain ⟨X, Y, c1, rfl, hc0, hcs⟩ := own_one hro hbs (by rw [HB.out.1]; omega)
  rw [HB.out.1] at hc0
  have hcm := hcs m _ HB.out.2.2
  have K14 := Lib.hid (K13.out.trans k14)
  clear hro hbs hcs k14 HRE K13
  go_wp2
  go_ret
  exact ⟨rfl, K14.out⟩
theorem big_walk (a x : Int) (W : World) (ha : (Lit.int .u8 a).wf = true) (hx : (Lit.int .u8 x).wf = true) :
    Calls Try.prog 7 #[.int .u8 a, .int .u8 x] W fun e W' => e = .returned (.bool true) ∧ Below W.heap.size W W' := by
  have h1 : 0 ≤ a ∧ a ≤ 255 := bounds_u8 ha
  have h2 : 0 ≤ x ∧ x ≤ 255 := bounds_u8 hx
  obtain ⟨a, rfl⟩ := Int.eq_ofNat_of_zero_le h1.1
  obtain ⟨x, rfl⟩ := Int.eq_ofNat_of_zero_le h2.1
  exact (big_go a x (by omega) (by omega) W).mono (fun e w' h => ⟨h.1, h.2.below (Nat.le_refl _) (fun _ _ => id)⟩)
end Go.Proofs.Ytaadmkhhgpcgeaa
