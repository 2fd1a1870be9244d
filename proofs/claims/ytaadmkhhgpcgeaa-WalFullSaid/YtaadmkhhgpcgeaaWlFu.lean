/-
  WalFull's walk.
-/
import Derived.Test.YtaadmkhhgpcgeaaWlAw
import Derived.Test.YtaadmkhhgpcgeaaDkRb
import Derived.Test.YtaadmkhhgpcgeaaRowU
namespace Go.Proofs.Ytaadmkhhgpcgeaa
open Go.RowKit Go.BigFrame
set_option linter.unusedVariables false
set_option linter.unusedSimpArgs false

theorem ap_loose {l : Wl.St} {s : Dk.St} (b : Wl.Bs) (h2 : (Wl.hv l).length + (8 + b.length) ≤ 256 * l.k) : (Wl.ap l s b).2.2.loose.length ≤ s.loose.length + l.k := by
  obtain ⟨c, hc⟩ : ∃ c, (Wl.hv l ++ Wl.frame b).drop (256 * ((Wl.hv l).length / 256)) = c := ⟨_, rfl⟩
  have hcl : c.length = (Wl.hv l).length + (8 + b.length) - 256 * ((Wl.hv l).length / 256) := by rw [← hc, List.length_drop, List.length_append, Wl.frame_length]
  have hnc : Wl.nch c ≤ l.k := by unfold Wl.nch; omega
  have h := Wl.wst_length s (2 + l.area * l.k + (Wl.hv l).length / 256) c (Wl.nch c)
  unfold Wl.ap
  split
  · show s.loose.length ≤ _; omega
  · split
    · show s.loose.length ≤ _; omega
    · split
      · show s.loose.length ≤ _; omega
      · simp only [hc]
        split
        · show (Wl.wst s _ c (Wl.nch c)).2.loose.length ≤ _; omega
        · show (Wl.wst s _ c (Wl.nch c)).2.loose.length ≤ _; omega
theorem rows_take {w : World} {a : Option Addr} {rs : List RowOf} (h : RowsAt w a rs) (k : Nat) : RowsAt w a (rs.take k) :=
  ⟨fun i r hr => h.cell i r (by rw [List.getElem?_take] at hr; split at hr <;> first | exact hr | cases hr), fun r hr => h.src r (List.mem_of_mem_take hr), fun r hr => h.cap r (List.mem_of_mem_take hr)⟩
theorem bounds_u16k {x : Int} (h : (Lit.int .u16 x).wf = true) : 0 ≤ x ∧ x ≤ 65535 := bounds_u16 h
set_option maxRecDepth 100000 in
set_option maxHeartbeats 16000000 in
theorem full_go (n keep : Int) (A : Option Addr) (c : Nat) (zs : List Int) (w : World) (hn : 0 ≤ n) (hk : 0 ≤ keep ∧ keep ≤ 255) (hs : Src w A (zs.map (Value.int .u16))) (hz : ∀ x ∈ zs, (Lit.int .u16 x).wf = true) (h30 : zs.length ≤ 30) :
    Calls Try.prog 4 #[.int .u8 n, .slice A zs.length c, .int .u8 keep] w fun e w' => e = .returned (.bool true) ∧ Keeps (fun _ => False) w w' := by
  obtain ⟨N, hN⟩ : ∃ N, zs.length = N := ⟨_, rfl⟩
  obtain ⟨a, ha, ha', hab, e1⟩ := rest_of n 10 (by decide) (by decide) hn
  obtain ⟨k, hkk⟩ : ∃ k : Nat, a + 1 = k := ⟨_, rfl⟩
  have hk10 : 1 ≤ k ∧ k ≤ 10 := by omega
  have HEQ1 : Hid (wrap64 (wrap64 (n.tmod 10) + 1) = (k : Int)) := Lib.hid (by
    rw [show n.tmod 10 = (a : Int) from ha', e1]
    clear ha ha' e1
    rw [IntWalk.wrap64_in _ (by omega)]; omega)
  clear ha ha' e1
  obtain ⟨z1, hz1⟩ : ∃ z, 2 * k = z := ⟨_, rfl⟩
  obtain ⟨nd, hnd⟩ : ∃ z, 2 + z1 = z := ⟨_, rfl⟩
  obtain ⟨kk, hkk2⟩ : ∃ z, 256 * k = z := ⟨_, rfl⟩
  have HEQ2 : Hid (wrap64 (2 * (k : Int)) = (z1 : Int)) := Lib.hid (by rw [IntWalk.wrap64_in _ (by omega)]; omega)
  have HEQ3 : Hid (wrap64 (2 + (z1 : Int)) = (nd : Int)) := Lib.hid (by rw [IntWalk.wrap64_in _ (by omega)]; omega)
  have HEQ4 : Hid (wrap64 (256 * (k : Int)) = (kk : Int)) := Lib.hid (by rw [IntWalk.wrap64_in _ (by omega)]; omega)
  have HEQ5 : Hid (wrap64 keep = keep) := Lib.hid (IntWalk.wrap64_in _ (by omega))
  have hN30 : ¬ (30 : Int) < (N : Int) := by omega
  have haw := awake12_any w
  have HAW := Lib.hid haw
  have HSZ := Lib.hid hs
  have HZW := Lib.hid hz
  have HN := Lib.hid hN
  have HND : Hid (4 ≤ nd ∧ nd ≤ 65536 ∧ (nd - 2) / 2 = k) := Lib.hid ⟨by omega, by omega, by omega⟩
  have HK := Lib.hid (And.intro hkk2 (And.intro hk10 (And.intro hz1 hnd)))
  rw [hN] at h30 ⊢
  have HBN := Lib.hid (And.intro hn hk)
  clear hn hk haw hs hz hN hab hkk hkk2 hk10 hz1 hnd
  go_enter Try.func4, Try.ntmps4
  go_wp2_with fail
  refine HAW.out.mono ?_
  rintro e w0 ⟨rfl, k0⟩
  obtain ⟨F, hF⟩ : ∃ F : Nat → Prop, (fun k => w0.heap.size ≤ k) = F := ⟨_, rfl⟩
  have HFK : Hid (∀ k, F k → w.heap.size ≤ k) := Lib.hid (fun k h => by rw [← hF] at h; have := k0.size; omega)
  have hnew := new_disk nd w0 (by have := HK.out; omega) (by have := HK.out; omega)
  rw [hF] at hnew
  have HNEW := Lib.hid hnew
  have K0 := Lib.hid k0
  clear hnew k0 HAW
  have he1 := HEQ1.out
  have he2 := HEQ2.out
  have he3 := HEQ3.out
  go_wp2_with fail
  refine HNEW.out.mono ?_
  rintro e w1 ⟨g, rfl, hg, d1, k1⟩
  simp only [he1, he2, he3]
  clear he1 he2 he3
  have hG0 := Wl.gd_fresh nd HND.out.1 HND.out.2.1
  obtain ⟨l0, hl0⟩ : ∃ l, (⟨(nd - 2) / 2, 0, 0, [], 0, 0⟩ : Wl.St) = l := ⟨_, rfl⟩
  rw [hl0] at hG0
  have L0 : Hid (l0.k = k ∧ l0.rows = [] ∧ l0.turn = 0 ∧ (Wl.hv l0).length = 0 ∧ l0.k = (nd - 2) / 2 ∧ l0.sure = 0) := Lib.hid ⟨by rw [← hl0]; exact HND.out.2.2, by rw [← hl0], by rw [← hl0], by rw [← hl0]; rfl, by rw [← hl0], by rw [← hl0]⟩
  have hop := open_gd w1 F g _ d1 (fun k hk => by rw [← hF]; have := k1.size; omega) l0 hG0 L0.out.2.2.2.2.1 HND.out.1 (fun r hr => by rw [L0.out.2.1] at hr; cases hr) (by rw [L0.out.2.1, L0.out.2.2.2.2.2]; rfl)
  have HOP := Lib.hid hop
  have K1 := Lib.hid (K0.out.trans k1)
  clear hop HNEW k1 d1 hF K0 hl0
  go_wp2_with fail
  refine HOP.out.mono ?_
  rintro e w2 ⟨p, rfl, hp, x2, k2⟩
  have hfr := wfree_any w2 F p g l0 x2.log
  rw [L0.out.1, L0.out.2.2.2.1, HK.out.1, Nat.sub_zero] at hfr
  have HFR := Lib.hid hfr
  have HG0 := Lib.hid hG0
  have X2 := Lib.hid x2
  have K2 := Lib.hid (K1.out.trans k2)
  clear hfr HOP k2 x2 hG0 K1 hp
  go_wp2_with fail
  refine HFR.out.mono ?_
  rintro e w3 ⟨rfl, k3⟩
  have X3 := Lib.hid (X2.out.still k3)
  have K3 := Lib.hid (K2.out.trans k3)
  clear HFR k3 X2 K2
  have he4 := HEQ4.out
  go_wp2_with fail
  simp only [he4]
  clear he4
  go_loopw [13, 14, 15, 16, 17] (fun us mn iv _ _ ww => ∃ (i u y : Nat) (l : Wl.St) (s : Dk.St), i ≤ N ∧ y ≤ i ∧ us = .int .i64 (u : Int) ∧ mn = .int .i64 (y : Int) ∧ iv = .int .i64 (i : Int) ∧ Hid (Wal ww F p g l s) ∧ Hid (Wl.Gd l s ∧ Wl.Calm s ∧ l.k = k ∧ (Wl.hv l).length = u ∧ l.rows.length = y ∧ l.turn = 0 ∧ s.loose.length ≤ 10 * i ∧ ∀ r ∈ l.rows, r.length ≤ 700) ∧ Hid (Keeps (fun _ => False) w ww)) (fun _ _ iv _ _ _ => N - (intOf iv).toNat)
  case atStart => exact ⟨0, 0, 0, l0, _, by omega, by omega, rfl, rfl, rfl, X3, Lib.hid ⟨HG0.out, calm_fresh nd, L0.out.1, L0.out.2.2.2.1, by rw [L0.out.2.1]; rfl, L0.out.2.2.1, by show 0 ≤ _; omega, by rw [L0.out.2.1]; simp⟩, K3⟩
  case round =>
    obtain ⟨i, u, y, l, s, hi, hy, rfl, rfl, rfl, X, I, K⟩ := hrel
    by_cases hlt : i < N
    · have hii : (i : Int) < (N : Int) := by omega
      obtain ⟨x, hx⟩ : ∃ x, zs[i]? = some x := ⟨_, List.getElem?_eq_getElem (by rw [HN.out]; exact hlt)⟩
      obtain ⟨ad, rfl, hc⟩ := (HSZ.out.keeps K.out (fun _ _ _ => id)) i (.int .u16 x) (by rw [List.getElem?_map, hx]; rfl)
      have bx := bounds_u16 (HZW.out x (List.mem_of_getElem? hx))
      obtain ⟨m, hm, hm', hmb, em⟩ := rest_of x 700 (by decide) (by decide) bx.1
      have hem : wrap64 (x.tmod 700) = (m : Int) := by rw [show x.tmod 700 = (m : Int) from hm', em]
      have HEM := Lib.hid hem
      clear hem hm hm' em bx
      obtain ⟨p1, p2, p3, p4, p5, p6, p7, p8⟩ := I.out
      have hfit := X.out.ok.fit
      rw [p3, p4, HK.out.1] at hfit
      have hkb : kk ≤ 2560 := by have := HK.out; omega
      obtain ⟨b4, hb4⟩ : ∃ b, wr.heap.size = b := ⟨_, rfl⟩
      obtain ⟨W4, hW4⟩ : ∃ W, wr.alloc (.cells (bvs (List.replicate m 0)).toArray 5) = W := ⟨_, rfl⟩
      have hmk := make_zeros m (by omega) wr
      rw [hW4, hb4] at hmk
      have k4 : Keeps (fun _ => False) wr W4 := by rw [← hW4]; exact (Keeps.refl _ _).alloc _
      obtain ⟨Z, hZ⟩ : ∃ Z : List UInt8, List.replicate m 0 = Z := ⟨_, rfl⟩
      have hZl : Z.length = m := by rw [← hZ, List.length_replicate]
      have r4 : Row W4 b4 5 (bvs Z) := by rw [← hW4, ← hb4, hZ]; exact heap_alloc_new wr _
      have x4 := X.out.still k4
      have hap := append_any W4 F p g l s x4 (some ⟨b4, 0, none⟩) m Z r4.src ⟨by omega, by omega⟩ (by omega)
      rw [hZl] at hap
      obtain ⟨u2, hu2⟩ : ∃ z, u + (8 + m) = z := ⟨_, rfl⟩
      obtain ⟨u8, hu8⟩ : ∃ z, u + 8 = z := ⟨_, rfl⟩
      obtain ⟨q8, hq8⟩ : ∃ z, 8 + m = z := ⟨_, rfl⟩
      have F1 : Hid (wrap64 ((u : Int) + 8) = (u8 : Int)) := Lib.hid (by rw [IntWalk.wrap64_in _ (by omega)]; omega)
      have F2 : Hid (wrap64 ((u8 : Int) + (m : Int)) = (u2 : Int)) := Lib.hid (by rw [IntWalk.wrap64_in _ (by omega)]; omega)
      have F3 : Hid (wrap64 (8 + (m : Int)) = (q8 : Int)) := Lib.hid (by rw [IntWalk.wrap64_in _ (by omega)]; omega)
      have F4 : Hid (wrap64 ((u : Int) + (8 + (m : Int))) = (u2 : Int)) := Lib.hid (by rw [IntWalk.wrap64_in _ (by omega)]; omega)
      have K4 := Lib.hid (K.out.trans k4)
      by_cases hroom : u2 ≤ kk
      · have hroom2 : (u2 : Int) ≤ (kk : Int) := by omega
        obtain ⟨s5, e5, g5, c5, n5, o5⟩ := Wl.gd_ap p1 x4.ok p2 Z (by omega) (by rw [p4, p3, hZl, HK.out.1]; omega)
        have lo5 := ap_loose (l := l) (s := s) Z (by rw [p4, p3, hZl, HK.out.1]; omega)
        rw [e5] at hap lo5
        obtain ⟨l1, hl1⟩ : ∃ x, ({ l with rows := l.rows ++ [Z] } : Wl.St) = x := ⟨_, rfl⟩
        rw [hl1] at hap g5
        obtain ⟨y1, hy1⟩ : ∃ z, y + 1 = z := ⟨_, rfl⟩
        have F5 : Hid (wrap64 ((y : Int) + 1) = (y1 : Int)) := Lib.hid (by rw [IntWalk.wrap64_in _ (by omega)]; omega)
        obtain ⟨v, hv⟩ : ∃ z, kk - u2 = z := ⟨_, rfl⟩
        have F6 : Hid (wrap64 ((kk : Int) - (u2 : Int)) = (v : Int)) := Lib.hid (by rw [IntWalk.wrap64_in _ (by omega)]; omega)
        have hhv : (Wl.hv l1).length = u2 := by rw [← hl1]; show (Wl.frames (l.rows ++ [Z])).length = u2; rw [Wl.frames_snoc, List.length_append, Wl.frame_length, hZl]; have : (Wl.frames l.rows).length = u := p4; omega
        have I1 : Hid (Wl.Gd l1 s5 ∧ Wl.Calm s5 ∧ l1.k = k ∧ (Wl.hv l1).length = u2 ∧ l1.rows.length = y1 ∧ l1.turn = 0 ∧ s5.loose.length ≤ 10 * (i + 1) ∧ ∀ r ∈ l1.rows, r.length ≤ 700) := Lib.hid ⟨g5, c5, by rw [← hl1]; exact p3, hhv, by rw [← hl1, ← hy1, ← p5]; simp, by rw [← hl1]; exact p6, by have lo5 : s5.loose.length ≤ s.loose.length + l.k := lo5; have := HK.out; omega, fun r hr => by
          rw [← hl1] at hr
          rcases List.mem_append.1 hr with h | h
          · exact p8 r h
          · rw [List.mem_singleton.1 h]; omega⟩
        have HEQS := Lib.hid (And.intro hu2 (And.intro hu8 (And.intro hq8 (And.intro hy1 hv))))
        have HAP := Lib.hid hap
        clear hu2 hu8 hq8 hy1 hv hZ hZl hb4 hhv hap e5 g5 c5 n5 o5 lo5 hl1 p1 p2 p3 p4 p5 p6 p7 p8 hfit x4 r4 k4 hW4 hx
        have hem := HEM.out
        go_wp2_with fail
        refine HAP.out.mono ?_
        rintro e w5 ⟨rfl, x5, k5⟩
        simp only [hem]
        clear hem
        have K5 : Hid (Keeps (fun _ => False) w w5) := Lib.hid (K4.out.trans' k5 (fun i hi h => by have := HFK.out i h; omega))
        have hfr := wfree_any w5 F p g l1 x5.log
        rw [I1.out.2.2.1, I1.out.2.2.2.1, HK.out.1, HEQS.out.2.2.2.2] at hfr
        have HFR := Lib.hid hfr
        have X5 := Lib.hid x5
        clear HAP hfr x5 k5
        have he4 := HEQ4.out
        have f1 := F1.out
        have f2 := F2.out
        have f3 := F3.out
        have f4 := F4.out
        have f5 := F5.out
        go_wp2_with fail
        refine HFR.out.mono ?_
        rintro e w6 ⟨rfl, k6⟩
        simp only [f1, f2, f3, f4, f5]
        clear he4 f1 f2 f3 f4 f5
        have hyy : (y : Int) + 1 = (y1 : Int) := by have := HEQS.out.2.2.2.1; omega
        simp only [hyy]
        clear hyy
        have hre := wrecords_any w6 F p g l1 (X5.out.still k6).log
        rw [I1.out.2.2.2.2.1] at hre
        have HRE := Lib.hid hre
        have X6 := Lib.hid (X5.out.still k6)
        have K6 := Lib.hid (K5.out.trans k6)
        clear HFR hre k6 X5 K5
        have he4 := HEQ4.out
        have f6 := F6.out
        have f6b : (kk : Int) - (u2 : Int) = (v : Int) := by have := HEQS.out.2.2.2.2; omega
        go_wp2_with fail
        refine HRE.out.mono ?_
        rintro e w7 ⟨Ar, cr, rr, rfl, -, -, k7⟩
        clear he4 f6
        have X7 := Lib.hid (X6.out.still k7)
        have K7 := Lib.hid (K6.out.trans k7)
        clear HRE k7 X6 K6
        go_wp2_with fail
        go_roundw
        case rel =>
          exact ⟨i + 1, u2, y1, l1, s5, by omega, by have := HEQS.out.2.2.2.1; omega, rfl, rfl, by go_num, X7, I1, K7⟩
        case measure => simp [intOf]; omega
      · have hroom2 : ¬ (u2 : Int) ≤ (kk : Int) := by omega
        have eap : Wl.ap l s Z = (31, l, s) := by
          unfold Wl.ap
          rw [if_neg (by rw [p1.err]; exact fun h => h rfl), if_neg (by omega), if_pos (by rw [p3, p4, hZl, HK.out.1]; omega)]
        rw [eap] at hap
        obtain ⟨v, hv⟩ : ∃ z, kk - u = z := ⟨_, rfl⟩
        have F6 : Hid (wrap64 ((kk : Int) - (u : Int)) = (v : Int)) := Lib.hid (by rw [IntWalk.wrap64_in _ (by omega)]; omega)
        have I1 : Hid (Wl.Gd l s ∧ Wl.Calm s ∧ l.k = k ∧ (Wl.hv l).length = u ∧ l.rows.length = y ∧ l.turn = 0 ∧ s.loose.length ≤ 10 * (i + 1) ∧ ∀ r ∈ l.rows, r.length ≤ 700) := Lib.hid ⟨p1, p2, p3, p4, p5, p6, by omega, p8⟩
        have HEQS := Lib.hid (And.intro hu2 (And.intro hu8 (And.intro hq8 hv)))
        have HAP := Lib.hid hap
        clear hu2 hu8 hq8 hv hZ hZl hb4 hap eap p1 p2 p3 p4 p5 p6 p7 p8 hfit x4 r4 k4 hW4 hx I
        have hem := HEM.out
        go_wp2_with fail
        refine HAP.out.mono ?_
        rintro e w5 ⟨rfl, x5, k5⟩
        simp only [hem]
        clear hem
        have K5 : Hid (Keeps (fun _ => False) w w5) := Lib.hid (K4.out.trans' k5 (fun i hi h => by have := HFK.out i h; omega))
        have hfr := wfree_any w5 F p g l x5.log
        rw [I1.out.2.2.1, I1.out.2.2.2.1, HK.out.1, HEQS.out.2.2.2] at hfr
        have HFR := Lib.hid hfr
        have X5 := Lib.hid x5
        clear HAP hfr x5 k5
        have he4 := HEQ4.out
        have f1 := F1.out
        have f2 := F2.out
        go_wp2_with fail
        refine HFR.out.mono ?_
        rintro e w6 ⟨rfl, k6⟩
        clear he4 f1 f2
        have hre := wrecords_any w6 F p g l (X5.out.still k6).log
        rw [I1.out.2.2.2.2.1] at hre
        have HRE := Lib.hid hre
        have X6 := Lib.hid (X5.out.still k6)
        have K6 := Lib.hid (K5.out.trans k6)
        clear HFR hre k6 X5 K5
        have he4 := HEQ4.out
        have f6 := F6.out
        go_wp2_with fail
        refine HRE.out.mono ?_
        rintro e w7 ⟨Ar, cr, rr, rfl, -, -, k7⟩
        clear he4 f6
        have X7 := Lib.hid (X6.out.still k7)
        have K7 := Lib.hid (K6.out.trans k7)
        clear HRE k7 X6 K6
        go_wp2_with fail
        go_roundw
        case rel =>
          exact ⟨i + 1, u, y, l, s, by omega, by omega, rfl, rfl, by go_num, X7, I1, K7⟩
        case measure => simp [intOf]; omega
    · have hii : ¬ (i : Int) < (N : Int) := by omega
      obtain rfl : i = N := by omega
      obtain ⟨p1, p2, p3, p4, p5, p6, p7, p8⟩ := I.out
      have hre := wrecords_any wr F p g l X.out.log
      rw [p5] at hre
      obtain ⟨y1, hy1⟩ : ∃ z, y + 1 = z := ⟨_, rfl⟩
      obtain ⟨mm, hm1, hm2, hmb, em⟩ := rest_of keep y1 (by omega) (by omega) HBN.out.2.1
      have HMM : Hid (keep.tmod (y1 : Int) = (mm : Int)) := Lib.hid hm2
      have HMB : Hid (mm ≤ y) := Lib.hid (by clear hm1 hm2 em; omega)
      have HY1 : Hid ((y : Int) + 1 = (y1 : Int) ∧ (y1 : Int) ≠ 0 ∧ 0 < y1) := Lib.hid (by clear hm1 hm2 em; omega)
      have HRE := Lib.hid hre
      have HFIT : Hid ((Wl.hv l).length ≤ 256 * l.k) := Lib.hid X.out.ok.fit
      clear hre hm1 hm2 em hmb hy1 p1 p2 p3 p4 p5 p6 p7 p8
      go_wp2_with fail
      refine HRE.out.mono ?_
      rintro e w5 ⟨Ar, cr, rr, rfl, hbs, hro, k5⟩
      have hrl : rr.length = y := by have := congrArg List.length hbs; unfold bsOf at this; rw [List.length_map] at this; rw [this]; exact I.out.2.2.2.2.1
      have hcr : y ≤ cr := by
        rcases hro.own.2 with ⟨h1, h2⟩ | ⟨X, cap, cur, h, _, _, h4, _⟩
        · injection h1 with _ h3 h4; omega
        · injection h with _ _ h5; rw [h5]; omega
      have hmc : mm ≤ cr := by have := HMB.out; omega
      have hbt : bsOf (rr.take mm) = l.rows.take mm := by unfold bsOf; rw [List.map_take]; unfold bsOf at hbs; rw [hbs]
      have x5 := X.out.later k5
      have htl : (rr.take mm).length = mm := by rw [List.length_take]; have := HMB.out; omega
      have hcp := wcompact_any w5 _ p g l s x5 Ar cr (rr.take mm) (rows_take hro.at_ mm) (by rw [htl]; have := HMB.out; omega) (by rw [I.out.2.2.1]; have := I.out.2.2.2.2.2.2.1; have := HK.out; omega) (by rw [I.out.2.2.2.2.2.1]; omega)
      obtain ⟨s6, e6, g6, c6, n6, o6⟩ := Wl.gd_cp I.out.1 X.out.ok I.out.2.1 (by rw [I.out.2.2.2.2.2.1]; omega) (l.rows.take mm) (fun r hr => by have := I.out.2.2.2.2.2.2.2 r (List.mem_of_mem_take hr); omega) (Nat.le_trans (Wl.frames_take_le _ _) HFIT.out)
      rw [hbt, e6, htl] at hcp
      obtain ⟨l6, hl6⟩ : ∃ x, ({ l with turn := l.turn + 1, area := 1 - l.area, rows := l.rows.take mm, sure := (l.rows.take mm).length } : Wl.St) = x := ⟨_, rfl⟩
      rw [hl6] at hcp g6
      have hlm : (l.rows.take mm).length = mm := by rw [List.length_take, I.out.2.2.2.2.1]; have := HMB.out; omega
      have L6 : Hid (l6.k = k ∧ l6.rows.length = mm ∧ l6.sure = mm ∧ l6.turn ≤ 1 ∧ (Wl.hv l6).length = (Wl.frames (bsOf (rr.take mm))).length ∧ l6.sure = l6.rows.length) := Lib.hid ⟨by rw [← hl6]; exact I.out.2.2.1, by rw [← hl6]; exact hlm, by rw [← hl6]; exact hlm, by rw [← hl6]; show l.turn + 1 ≤ 1; rw [I.out.2.2.2.2.2.1]; omega, by rw [← hl6, hbt]; rfl, by rw [← hl6]⟩
      have HCP := Lib.hid hcp
      have HG6 := Lib.hid (And.intro g6 (And.intro c6 o6))
      have HRO := Lib.hid hro
      have HRR := Lib.hid (And.intro hrl (And.intro hbs hbt))
      have K5 := Lib.hid (K.out.trans k5)
      have hmm := HMM.out
      have hyy := HY1.out.1
      have hy0 := HY1.out.2.1
      have he5 := HEQ5.out
      clear hcp g6 c6 o6 n6 e6 hl6 hlm hro hrl hbs hbt htl x5 HRE hcr
      go_wp2_with fail
      refine HCP.out.mono ?_
      rintro e w6 ⟨rfl, x6, k6⟩
      have K6 : Hid (Keeps (fun _ => False) w w6) := Lib.hid (K5.out.trans' k6 (fun i hi h => by have := HFK.out i h.1; omega))
      have hro6 := HRO.out.keeps k6 (fun k hk hK hf => by rcases hf.2 with h | h <;> omega)
      have RC := Lib.hid hro6.at_.cell
      have hfr := wfree_any w6 _ p g l6 x6.log
      have HFR := Lib.hid hfr
      have X6 := Lib.hid x6
      have he4 := HEQ4.out
      clear he5 hmm hyy hy0 hro6 hfr x6 k6 HCP HRO K5
      go_wp2_with fail
      try simp only [he4]
      clear he4
      go_loopw [21, 22] (fun lv iv ww => ∃ (j d : Nat), j ≤ mm ∧ lv = .int .i64 (d : Int) ∧ iv = .int .i64 (j : Int) ∧ Hid (d + (Wl.frames (bsOf (rr.take j))).length = kk) ∧ Hid (ww = w6)) (fun _ iv _ => mm - (intOf iv).toNat)
      case atStart => exact ⟨0, kk, by omega, rfl, rfl, Lib.hid (by simp [bsOf, Wl.frames]), Lib.hid rfl⟩
      case round =>
        obtain ⟨j, d, hj, rfl, rfl, HD, HW⟩ := hrel
        have hw := HW.out
        subst hw
        by_cases hlt : j < mm
        · have hjj : (j : Int) < (mm : Int) := by omega
          have hjy : j < y := by have := HMB.out; omega
          have hjy2 : (j : Int) < (y : Int) := by omega
          obtain ⟨r, hr⟩ : ∃ r, rr[j]? = some r := ⟨_, List.getElem?_eq_getElem (by rw [HRR.out.1]; exact hjy)⟩
          obtain ⟨ad, rfl, hc⟩ := RC.out j r hr
          have hft := frames_take rr j r hr
          have hle := bsOf_le rr (j + 1)
          rw [HRR.out.2.1] at hle
          obtain ⟨q, hq⟩ : ∃ q, r.2.2.length = q := ⟨_, rfl⟩
          rw [hq] at hc hft
          obtain ⟨d2, hd2⟩ : ∃ z, d - (8 + q) = z := ⟨_, rfl⟩
          obtain ⟨q8, hq8⟩ : ∃ z, 8 + q = z := ⟨_, rfl⟩
          have hfit := HFIT.out
          rw [I.out.2.2.1, HK.out.1] at hfit
          have hfit2 : (Wl.frames l.rows).length ≤ kk := hfit
          have hkk : kk ≤ 2560 := by have := HK.out; omega
          have hHD := HD.out
          have F7 : Hid (wrap64 (8 + (q : Int)) = (q8 : Int)) := Lib.hid (by rw [IntWalk.wrap64_in _ (by omega)]; omega)
          have F9 : Hid (wrap64 ((d : Int) - (q8 : Int)) = (d2 : Int)) := Lib.hid (by rw [IntWalk.wrap64_in _ (by omega)]; omega)
          have HD2 : Hid (d2 + (Wl.frames (bsOf (rr.take (j + 1)))).length = kk) := Lib.hid (by omega)
          obtain ⟨A8, c8, xs⟩ := r
          simp only at hc
          clear hft hle hq hd2 hq8 hfit hfit2 hkk hHD hr hlt
          have f7 := F7.out
          have f9 := F9.out
          go_wp2_with fail
          try simp only [f7, f9]
          clear f7 f9
          go_roundw
          case rel => exact ⟨j + 1, d2, by omega, rfl, by go_num, HD2, Lib.hid (by first | rfl | trivial)⟩
          case measure => simp [intOf]; omega
        · have hjj : ¬ (j : Int) < (mm : Int) := by omega
          obtain rfl : j = mm := by omega
          have hfr := HFR.out
          have he : 256 * l6.k - (Wl.hv l6).length = d := by rw [L6.out.1, HK.out.1, L6.out.2.2.2.2.1]; have := HD.out; omega
          rw [he] at hfr
          have HFR2 := Lib.hid hfr
          have HSU := Lib.hid (fun V (hV : Keeps (fun _ => False) wr V) => wsure_any V _ p g l6 (X6.out.still hV).log)
          clear hfr he HFR
          go_wp2_with fail
          refine HFR2.out.mono ?_
          rintro e w8 ⟨rfl, k8⟩
          have hsu := HSU.out w8 k8
          rw [L6.out.2.2.1] at hsu
          have HSU2 := Lib.hid hsu
          have X8 := Lib.hid (X6.out.still k8)
          have K8 := Lib.hid (K6.out.trans k8)
          clear HFR2 HSU hsu k8
          go_wp2_with fail
          refine HSU2.out.mono ?_
          rintro e wx ⟨rfl, hx⟩
          obtain rfl : w8 = wx := hx.symm
          have hre := wrecords_any w8 _ p g l6 X8.out.log
          rw [L6.out.2.1] at hre
          have HRE := Lib.hid hre
          clear HSU2 hre
          go_wp2_with fail
          refine HRE.out.mono ?_
          rintro e w9 ⟨Aq, cq, rq, rfl, -, -, k9⟩
          have hsy := wsync_any w9 _ p g l6 s6 (X8.out.still k9) (by rw [HG6.out.2.2]; simp) (by have := L6.out.2.2.2.1; omega)
          rw [show Wl.sy l6 s6 = (0, l6, s6) by unfold Wl.sy; rw [if_neg (by rw [HG6.out.1.err]; exact fun h => h rfl), if_pos L6.out.2.2.2.2.2]] at hsy
          have HSY := Lib.hid hsy
          have K9 := Lib.hid (K8.out.trans k9)
          clear HRE hsy k9
          go_wp2_with fail
          refine HSY.out.mono ?_
          rintro e w10 ⟨rfl, -, k10⟩
          have K10 : Hid (Keeps (fun _ => False) w w10) := Lib.hid (K9.out.trans' k10 (fun i hi h => by have := HFK.out i h.1; omega))
          go_wp2
          go_ret
          exact ⟨rfl, K10.out⟩
set_option maxRecDepth 100000 in
set_option maxHeartbeats 2000000 in
theorem full_skip (n keep : Int) (A : Option Addr) (N c : Nat) (w : World) (h : 30 < N) :
    Calls Try.prog 4 #[.int .u8 n, .slice A N c, .int .u8 keep] w fun e w' => e = .returned (.bool true) ∧ Keeps (fun _ => False) w w' := by
  have hN30 : (30 : Int) < (N : Int) := by omega
  have haw := awake12_any w
  have HAW := Lib.hid haw
  clear haw h
  go_enter Try.func4, Try.ntmps4
  go_wp2_with fail
  refine HAW.out.mono ?_
  rintro e w0 ⟨rfl, k0⟩
  have K0 := Lib.hid k0
  clear k0 HAW
  go_wp2
  go_ret
  exact ⟨rfl, K0.out⟩
theorem full_walk (n : Int) (A : Option Addr) (len c : Nat) (zs : List Int) (keep : Int) (W : World) (h0 : (Lit.int .u8 n).wf = true) (h1 : IsRowU .u16 W A len c zs) (h2 : (Lit.int .u8 keep).wf = true) :
    Calls Try.prog 4 #[.int .u8 n, .slice A len c, .int .u8 keep] W fun e W' => e = .returned (.bool true) ∧ Below W.heap.size W W' := by
  have b1 := bounds_u8 h0
  have b2 := bounds_u8 h2
  obtain ⟨ls, hl, hs, hw, _, _⟩ := h1.ints
  subst hl
  suffices hgo : Calls Try.prog 4 #[.int .u8 n, .slice A ls.length c, .int .u8 keep] W fun e w' => e = .returned (.bool true) ∧ Keeps (fun _ => False) W w' from hgo.mono (fun e w' h => ⟨h.1, h.2.below (Nat.le_refl _) (fun _ _ => id)⟩)
  by_cases h : ls.length ≤ 30
  · exact full_go n keep A c ls W b1.1 b2 hs hw h
  · exact full_skip n keep A ls.length c W (by omega)
end Go.Proofs.Ytaadmkhhgpcgeaa
