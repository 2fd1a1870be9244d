/-
  WalStays' walk.
-/
import Derived.Test.YtaadmkhhgpcgeaaWlFe
import Derived.Test.YtaadmkhhgpcgeaaWlDo
import Derived.Test.YtaadmkhhgpcgeaaRowU
namespace Go.Proofs.Ytaadmkhhgpcgeaa
open Go.RowKit Go.BigFrame
set_option linter.unusedVariables false

theorem stamp_loose (l : Wl.St) (s : Dk.St) (a n : Nat) : (Wl.stamp l s a n).2.loose.length ≤ s.loose.length + 1 := by
  have h1 := Dk.sy_length s
  have h2 := Dk.wr_length (Dk.sy s) (((l.turn + 1) % 2 : Nat) : Int) 256 (Wl.sup (l.turn + 1) a n)
  have h3 := Dk.sy_length (Dk.wr (Dk.sy s) (((l.turn + 1) % 2 : Nat) : Int) 256 (Wl.sup (l.turn + 1) a n))
  unfold Wl.stamp
  split
  · show (Dk.sy s).loose.length ≤ _; omega
  · simp only []
    split
    · show (Dk.wr (Dk.sy s) _ 256 _).loose.length ≤ _; omega
    · show (Dk.sy (Dk.wr (Dk.sy s) _ 256 _)).loose.length ≤ _; omega
theorem sy_loose {l l' : Wl.St} {s s' : Dk.St} {x : Int} (h : Wl.sy l s = (x, l', s')) (hs : s.loose.length ≤ 66) : s'.loose.length ≤ 800 := by
  have e : s' = (Wl.sy l s).2.2 := by rw [h]
  have h1 := stamp_loose l s l.area (Wl.hv l).length
  rw [e]
  unfold Wl.sy
  split
  · show s.loose.length ≤ 800; omega
  · split
    · show s.loose.length ≤ 800; omega
    · simp only []
      split
      · show (Wl.stamp l s l.area (Wl.hv l).length).2.loose.length ≤ 800; omega
      · show (Wl.stamp l s l.area (Wl.hv l).length).2.loose.length ≤ 800; omega
theorem frames_small {b : Nat} : ∀ (rows : List Wl.Bs), (∀ r ∈ rows, r.length ≤ b) → (Wl.frames rows).length ≤ (8 + b) * rows.length
  | [], _ => Nat.zero_le _
  | r :: rows, h => by
    have ih := frames_small (b := b) rows (fun r hr => h r (List.mem_cons_of_mem _ hr))
    have h1 := h r (by simp)
    rw [Wl.frames_cons, List.length_append, Wl.frame_length, List.length_cons, Nat.mul_succ]
    omega
set_option maxRecDepth 100000 in
set_option maxHeartbeats 8000000 in
theorem stays_go (A : Option Addr) (c : Nat) (rs : List RowOf) (after : Int) (A3 : Option Addr) (m3 c3 : Nat) (w : World) (hR : RowsAt w A rs) (hfew : few12B rs = true) (hm3 : m3 ≤ 300) (q : Bool) (hq : q = true) :
    Calls Try.prog 6 #[.slice A rs.length c, .int .u8 after, .slice A3 m3 c3] w fun e w' => e = .returned (.bool true) ∧ Keeps (fun _ => False) w w' := by
  subst hq
  obtain ⟨hN10, hsm⟩ := few12_all hfew
  obtain ⟨N, hN⟩ : ∃ N, rs.length = N := ⟨_, rfl⟩
  obtain ⟨u, hu⟩ : ∃ u, bits .and .u8 after 15 = u := ⟨_, rfl⟩
  obtain ⟨v, hv⟩ : ∃ v, IntKind.i64.wrap u = v := ⟨_, rfl⟩
  have hvr : -9223372036854775808 ≤ v ∧ v ≤ 9223372036854775807 := by rw [← hv, IntKind.wrap_i64]; omega
  have hm300 : ¬ (300 : Int) < (m3 : Int) := by omega
  have haw := awake12_any w
  have HAW := Lib.hid haw
  have HFW : Hid (∀ V, Keeps (fun _ => False) w V → Calls Try.prog 12 #[.slice A N c] V fun e w' => e = .returned (.bool true) ∧ w' = V) := Lib.hid (fun V hk => by
    have := few12_any A c rs V (hR.keeps hk (fun _ _ => id)) (by omega)
    rw [hfew, hN] at this
    exact this)
  have HR := Lib.hid hR
  have HN := Lib.hid hN
  have HSM := Lib.hid hsm
  rw [hN] at hN10 ⊢
  clear haw hR hfew hsm hN
  go_enter Try.func6, Try.ntmps6
  go_wp2_with fail
  refine HAW.out.mono ?_
  rintro e w0 ⟨rfl, k0⟩
  have HF2 := Lib.hid (HFW.out w0 k0)
  obtain ⟨F, hF⟩ : ∃ F : Nat → Prop, (fun k => w0.heap.size ≤ k) = F := ⟨_, rfl⟩
  have HFK : Hid (∀ k, F k → w.heap.size ≤ k) := Lib.hid (fun k h => by rw [← hF] at h; have := k0.size; omega)
  have hnew := new_disk 100 w0 (by omega) (by omega)
  rw [show ((100 : Nat) : Int) = 100 from rfl, hF] at hnew
  have HNEW := Lib.hid hnew
  have K0 := Lib.hid k0
  clear hnew k0 HAW HFW
  go_wp2_with fail
  refine HF2.out.mono ?_
  rintro e wx ⟨rfl, hx⟩
  obtain rfl : w0 = wx := hx.symm
  go_wp2_with fail
  refine HNEW.out.mono ?_
  rintro e w1 ⟨g, rfl, hg, d1, k1⟩
  have hG0 := Wl.gd_fresh 100 (by omega) (by omega)
  have hop := open_gd w1 F g _ d1 (fun k hk => by rw [← hF]; have := k1.size; omega) _ hG0 rfl (by show 4 ≤ 100; omega) (fun r hr => by cases hr) rfl
  have HOP := Lib.hid hop
  have K1 := Lib.hid (K0.out.trans k1)
  clear hop HNEW k1 d1 hF K0 HF2 hG0
  go_wp2_with fail
  refine HOP.out.mono ?_
  rintro e w2 ⟨p, rfl, hp, x2, k2⟩
  obtain ⟨FD, Al, cl, hx2⟩ := x2
  have hfl := fail_any w2 FD g _ v hx2.dsk hvr
  have HFL : Hid (Calls Try.prog 13 #[.pointer (some ⟨g, 0, none⟩), .int .i64 v] w2 fun e w' => e = .returned (.tuple #[]) ∧ Wal w' F p g ⟨(100 - 2) / 2, 0, 0, [], 0, 0⟩ { Dk.fresh 100 with fails := decide (0 ≤ v), after := v } ∧ Keeps F w2 w') := Lib.hid (hfl.mono (fun e w' h => by
    have hg0 : FD g := by obtain ⟨_, _, _, _, _, _, h⟩ := hx2.dsk; exact h.fg
    exact ⟨h.1, ⟨FD, Al, cl, hx2.call h.2.1 (h.2.2.mono (fun k _ e => by subst e; exact hg0))⟩, h.2.2.mono (fun k _ e => by subst e; exact hx2.sub _ hg0)⟩))
  have K2 := Lib.hid (K1.out.trans k2)
  clear HOP hfl k2 hx2 K1 hp
  go_wp2_with fail
  refine HFL.out.mono ?_
  rintro e w3 ⟨rfl, x3, k3⟩
  have K3 : Hid (Keeps (fun _ => False) w w3) := Lib.hid (K2.out.trans' k3 (fun i hi h => by have := HFK.out i h; omega))
  have X3 := Lib.hid x3
  clear HFL x3 k3 K2
  go_wp2_with fail
  go_loopw [13, 14, 15, 16, 17, 18] (fun nv iv _ _ _ _ ww => ∃ (i : Nat) (l : Wl.St) (s : Dk.St), i ≤ N ∧ nv = .int .i64 (i : Int) ∧ iv = .int .i64 (i : Int) ∧ Hid (Wal ww F p g l s) ∧ Hid (l.rows = (bsOf rs).take i ∧ l.sure = i ∧ l.err = 0 ∧ s.dead = false ∧ s.n = 100 ∧ s.loose = [] ∧ l.k = 49 ∧ l.turn = i) ∧ Hid (Keeps (fun _ => False) w ww)) (fun _ iv _ _ _ _ _ => N - (intOf iv).toNat)
  case atStart => exact ⟨0, _, _, by omega, rfl, rfl, X3, Lib.hid ⟨rfl, rfl, rfl, rfl, rfl, rfl, rfl, rfl⟩, K3⟩
  case round =>
    obtain ⟨i, l, s, hi, rfl, rfl, X, I, K⟩ := hrel
    by_cases hlt : i < N
    · have hii : (i : Int) < (N : Int) := by omega
      obtain ⟨r, hr⟩ : ∃ r, rs[i]? = some r := ⟨_, List.getElem?_eq_getElem (by rw [HN.out]; exact hlt)⟩
      have hRr := HR.out.keeps K.out (fun _ _ => id)
      obtain ⟨ad, rfl, hc⟩ := hRr.cell i r hr
      have hmem := List.mem_of_getElem? hr
      have hsrc := hRr.src r hmem
      have hcap := hRr.cap r hmem
      have h600 := HSM.out r hmem
      have hbr : (bsOf rs).take (i + 1) = (bsOf rs).take i ++ [r.2.2] := by
        unfold bsOf
        rw [List.take_succ_eq_append_getElem (by rw [List.length_map, HN.out]; exact hlt)]
        congr 1
        rw [List.getElem_map]
        rw [(List.getElem?_eq_some_iff.1 hr).2]
      obtain ⟨A8, c8, xs⟩ := r
      simp only at hc hsrc hcap h600 hbr
      obtain ⟨i1, hi1⟩ : ∃ i1, i + 1 = i1 := ⟨_, rfl⟩
      have ei : IntKind.i64.wrap ((i : Int) + 1) = (i1 : Int) := by rw [IntWalk.i64_in _ (by omega)]; omega
      obtain ⟨p1, p2, p3, p4, p5, p6, p7, p8⟩ := I.out
      have hlr : l.rows.length = i := by rw [p1, List.length_take]; unfold bsOf; rw [List.length_map, HN.out]; omega
      have hhv : (Wl.hv l).length ≤ 608 * i := by
        have := frames_small (b := 600) l.rows (fun r hr => by
          rw [p1] at hr
          obtain ⟨q, h3, h4⟩ := List.mem_map.1 (List.mem_of_mem_take hr)
          have := HSM.out q h3
          rw [h4] at this; exact this)
        rw [hlr] at this
        exact this
      have hap := append_any wr F p g l s X.out A8 c8 xs hsrc hcap (by rw [p6]; simp)
      obtain ⟨s', n', o', hcase⟩ := Wl.live_ap p3 X.out.ok p4 (by rw [p7, p5]; omega) xs (by omega) (by rw [p7]; omega)
      obtain ⟨m, hm⟩ : ∃ m, xs.length = m := ⟨_, rfl⟩
      rw [hm] at hap hc
      rcases hcase with ⟨e4, d4⟩ | e4
      · rw [e4] at hap
        obtain ⟨l1, hl1⟩ : ∃ x, ({ l with rows := l.rows ++ [xs] } : Wl.St) = x := ⟨_, rfl⟩
        rw [hl1] at hap
        have L1 : Hid (l1.rows = (bsOf rs).take i1 ∧ l1.rows.length = i1 ∧ l1.sure = i ∧ l1.err = 0 ∧ l1.k = 49 ∧ l1.turn = i) := Lib.hid ⟨by rw [← hl1, ← hi1, hbr, ← p1], by rw [← hl1, ← hi1, ← hlr]; simp, by rw [← hl1]; exact p2, by rw [← hl1]; exact p3, by rw [← hl1]; exact p7, by rw [← hl1]; exact p8⟩
        have S1 : Hid (s'.n = 100 ∧ s'.loose.length ≤ 66 ∧ s'.dead = false) := Lib.hid ⟨n'.trans p5, by rw [p6] at o'; simpa using o', d4⟩
        have HAP := Lib.hid hap
        clear hap e4 d4 n' o' hl1 p1 p2 p3 p4 p5 p6 p7 p8 hhv hlr hbr hsrc hcap hRr hmem hr
        go_wp2_with fail
        refine HAP.out.mono ?_
        rintro e w4 ⟨rfl, x4, k4⟩
        have K4 : Hid (Keeps (fun _ => False) w w4) := Lib.hid (K.out.trans' k4 (fun i hi h => by have := HFK.out i h; omega))
        have hsy := wsync_any w4 F p g l1 s' x4 (by have := S1.out.2.1; omega) (by rw [L1.out.2.2.2.2.2]; omega)
        obtain ⟨s5, n5, hcase⟩ := Wl.live_sync (l := l1) (s := s') L1.out.2.2.2.1 S1.out.2.2 (by rw [S1.out.1]; omega) (by rw [L1.out.2.1, L1.out.2.2.1]; omega)
        rcases hcase with ⟨e5, d5, o5⟩ | e5
        · rw [e5] at hsy
          obtain ⟨l2, hl2⟩ : ∃ x, ({ l1 with turn := l1.turn + 1, sure := l1.rows.length } : Wl.St) = x := ⟨_, rfl⟩
          rw [hl2] at hsy
          have L2 : Hid (l2.rows = (bsOf rs).take i1 ∧ l2.sure = i1 ∧ l2.err = 0 ∧ s5.dead = false ∧ s5.n = 100 ∧ s5.loose = [] ∧ l2.k = 49 ∧ l2.turn = i1) := Lib.hid ⟨by rw [← hl2]; exact L1.out.1, by rw [← hl2]; exact L1.out.2.1, by rw [← hl2]; exact L1.out.2.2.2.1, d5, n5.trans S1.out.1, o5, by rw [← hl2]; exact L1.out.2.2.2.2.1, by rw [← hl2]; show l1.turn + 1 = i1; rw [L1.out.2.2.2.2.2]; exact hi1⟩
          have HSY := Lib.hid hsy
          clear hsy e5 d5 o5 n5 hl2 x4 k4 HAP
          go_wp2_with fail
          refine HSY.out.mono ?_
          rintro e w5 ⟨rfl, x5, k5⟩
          have K5 : Hid (Keeps (fun _ => False) w w5) := Lib.hid (K4.out.trans' k5 (fun i hi h => by have := HFK.out i h; omega))
          have X5 := Lib.hid x5
          clear HSY x5 k5
          go_wp2_with fail
          go_roundw
          case rel => exact ⟨i1, l2, s5, by omega, rfl, rfl, X5, L2, K5⟩
          case measure => simp [intOf]; omega
        · rw [e5] at hsy
          obtain ⟨l3, hl3⟩ : ∃ x, ({ l1 with err := 30 } : Wl.St) = x := ⟨_, rfl⟩
          rw [hl3] at hsy
          obtain ⟨s3, hs3⟩ : ∃ x, s5 = x := ⟨_, rfl⟩
          rw [hs3] at hsy
          have HSY := Lib.hid hsy
          have e9 : IntKind.i64.wrap ((i1 : Int) - 1) = (i : Int) := by rw [IntWalk.i64_in _ (by omega)]; omega
          have hle : (i : Int) ≤ (i1 : Int) := by omega
          have hle2 : i ≤ i1 := by omega
          have l5 : s3.loose.length ≤ 800 := by
            have h1 : Wl.sy l1 s' = (30, { l1 with err := 30 }, s5) := e5
            rw [← hs3]
            exact sy_loose h1 S1.out.2.1
          have L3 : Hid (l3.err = 30 ∧ l3.rows.length = i1 ∧ l3.sure = i ∧ l3.k = 49 ∧ l3.turn ≤ 10 ∧ s3.loose.length ≤ 800) := Lib.hid ⟨by rw [← hl3], by rw [← hl3]; exact L1.out.2.1, by rw [← hl3]; exact L1.out.2.2.1, by rw [← hl3]; exact L1.out.2.2.2.2.1, by rw [← hl3]; show l1.turn ≤ 10; rw [L1.out.2.2.2.2.2]; omega, l5⟩
          clear hsy e5 n5 hl3 x4 k4 HAP hs3 l5
          go_wp2_with fail
          refine HSY.out.mono ?_
          rintro e w5 ⟨rfl, x5, k5⟩
          have K5 : Hid (Keeps (fun _ => False) w w5) := Lib.hid (K4.out.trans' k5 (fun i hi h => by have := HFK.out i h; omega))
          have X5 := Lib.hid x5
          clear HSY x5 k5
          have han := append_not w5 F p g _ _ X5.out A3 m3 c3 (by omega) 30 (.inl ⟨by rw [L3.out.1]; decide, L3.out.1.symm⟩)
          have HAN := Lib.hid han
          clear han
          go_wp2_with fail
          refine HAN.out.mono ?_
          rintro e y1 ⟨rfl, xa, ka⟩
          have ka' : Keeps (fun _ => False) w y1 := K5.out.trans' ka (fun i hi h => by have := HFK.out i h; omega)
          have hsn := wsync_not y1 F p g _ _ xa (.inl (by rw [L3.out.1]; decide))
          rw [L3.out.1] at hsn
          have HSN := Lib.hid hsn
          have KA := Lib.hid ka'
          clear HAN hsn xa ka ka'
          go_wp2_with fail
          refine HSN.out.mono ?_
          rintro e y2 ⟨rfl, xb, kb⟩
          have kb' : Keeps (fun _ => False) w y2 := KA.out.trans' kb (fun i hi h => by have := HFK.out i h; omega)
          have hcn := wcompact_any y2 F p g _ _ xb none 0 [] (RowsAt.nil _ _) (by simp) (by rw [L3.out.2.2.2.1]; have := L3.out.2.2.2.2.2; omega) (by have := L3.out.2.2.2.2.1; omega)
          rw [show Wl.cp l3 s3 (bsOf []) = (30, l3, s3) by unfold Wl.cp; rw [if_pos (by rw [L3.out.1]; decide), L3.out.1]] at hcn
          have HCN : Hid (Calls Try.prog 17 #[.pointer (some ⟨p, 0, none⟩), .slice none 0 0] y2 fun e w' => e = .returned (.int .i64 30) ∧ Wal w' F p g l3 s3 ∧ Keeps F y2 w') := Lib.hid hcn
          have KB := Lib.hid kb'
          clear HSN hcn xb kb kb' KA
          go_wp2_with fail
          refine HCN.out.mono ?_
          rintro e y3 ⟨rfl, xc, kc⟩
          have kc' : Keeps (fun _ => False) w y3 := KB.out.trans' kc (fun i hi h => by have := HFK.out i h; omega)
          have her := werr_any y3 F p g _ xc.log
          rw [L3.out.1] at her
          have hre := wrecords_any y3 F p g _ xc.log
          rw [L3.out.2.1] at hre
          have HER := Lib.hid her
          have HRE := Lib.hid hre
          have HSU := Lib.hid (fun V (hV : Keeps (fun _ => False) y3 V) => wsure_any V F p g _ (xc.still hV).log)
          have KC := Lib.hid kc'
          clear HCN her hre xc kc kc' KB
          go_wp2_with fail
          refine HER.out.mono ?_
          rintro e wx ⟨rfl, hx⟩
          obtain rfl : y3 = wx := hx.symm
          go_wp2_with fail
          refine HRE.out.mono ?_
          rintro e y4 ⟨Ar, cr, rr, rfl, -, -, kd⟩
          have hsu := HSU.out y4 kd
          rw [L3.out.2.2.1] at hsu
          have HSU2 := Lib.hid hsu
          have KD := Lib.hid (KC.out.trans kd)
          clear HER HRE hsu kd KC HSU
          go_wp2_with fail
          refine HSU2.out.mono ?_
          rintro e wx ⟨rfl, hx⟩
          obtain rfl : y4 = wx := hx.symm
          go_wp2_with fail
          refine HSU2.out.mono ?_
          rintro e wx ⟨rfl, hx⟩
          obtain rfl : y4 = wx := hx.symm
          go_wp2
          go_ret
          exact ⟨rfl, KD.out⟩
      · rw [e4] at hap
        obtain ⟨l3, hl3⟩ : ∃ x, ({ l with err := 30 } : Wl.St) = x := ⟨_, rfl⟩
        rw [hl3] at hap
        obtain ⟨s3, hs3⟩ : ∃ x, s' = x := ⟨_, rfl⟩
        rw [hs3] at hap
        obtain ⟨z, hz⟩ : ∃ z, IntKind.i64.wrap ((i : Int) - 1) = z := ⟨_, rfl⟩
        have hzi : z ≤ (i : Int) := by rw [← hz, IntWalk.i64_in _ (by omega)]; omega
        have L3 : Hid (l3.err = 30 ∧ l3.rows.length = i ∧ l3.sure = i ∧ l3.k = 49 ∧ l3.turn ≤ 10 ∧ s3.loose.length ≤ 800) := Lib.hid ⟨by rw [← hl3], by rw [← hl3]; exact hlr, by rw [← hl3]; exact p2, by rw [← hl3]; exact p7, by rw [← hl3]; show l.turn ≤ 10; rw [p8]; omega, by rw [← hs3]; rw [p6] at o'; simp at o'; omega⟩
        have HAP := Lib.hid hap
        clear hap e4 n' o' hl3 hs3 p1 p2 p3 p4 p5 p6 p7 p8 hhv hlr hbr hsrc hcap hRr hmem hr
        go_wp2_with fail
        refine HAP.out.mono ?_
        rintro e w5 ⟨rfl, x5, k5⟩
        have K5 : Hid (Keeps (fun _ => False) w w5) := Lib.hid (K.out.trans' k5 (fun i hi h => by have := HFK.out i h; omega))
        have X5 := Lib.hid x5
        clear HAP x5 k5
        have han := append_not w5 F p g _ _ X5.out A3 m3 c3 (by omega) 30 (.inl ⟨by rw [L3.out.1]; decide, L3.out.1.symm⟩)
        have HAN := Lib.hid han
        clear han
        go_wp2_with fail
        refine HAN.out.mono ?_
        rintro e y1 ⟨rfl, xa, ka⟩
        have ka' : Keeps (fun _ => False) w y1 := K5.out.trans' ka (fun i hi h => by have := HFK.out i h; omega)
        have hsn := wsync_not y1 F p g _ _ xa (.inl (by rw [L3.out.1]; decide))
        rw [L3.out.1] at hsn
        have HSN := Lib.hid hsn
        have KA := Lib.hid ka'
        clear HAN hsn xa ka ka'
        go_wp2_with fail
        refine HSN.out.mono ?_
        rintro e y2 ⟨rfl, xb, kb⟩
        have kb' : Keeps (fun _ => False) w y2 := KA.out.trans' kb (fun i hi h => by have := HFK.out i h; omega)
        have hcn := wcompact_any y2 F p g _ _ xb none 0 [] (RowsAt.nil _ _) (by simp) (by rw [L3.out.2.2.2.1]; have := L3.out.2.2.2.2.2; omega) (by have := L3.out.2.2.2.2.1; omega)
        rw [show Wl.cp l3 s3 (bsOf []) = (30, l3, s3) by unfold Wl.cp; rw [if_pos (by rw [L3.out.1]; decide), L3.out.1]] at hcn
        have HCN : Hid (Calls Try.prog 17 #[.pointer (some ⟨p, 0, none⟩), .slice none 0 0] y2 fun e w' => e = .returned (.int .i64 30) ∧ Wal w' F p g l3 s3 ∧ Keeps F y2 w') := Lib.hid hcn
        have KB := Lib.hid kb'
        clear HSN hcn xb kb kb' KA
        go_wp2_with fail
        refine HCN.out.mono ?_
        rintro e y3 ⟨rfl, xc, kc⟩
        have kc' : Keeps (fun _ => False) w y3 := KB.out.trans' kc (fun i hi h => by have := HFK.out i h; omega)
        have her := werr_any y3 F p g _ xc.log
        rw [L3.out.1] at her
        have hre := wrecords_any y3 F p g _ xc.log
        rw [L3.out.2.1] at hre
        have HER := Lib.hid her
        have HRE := Lib.hid hre
        have HSU := Lib.hid (fun V (hV : Keeps (fun _ => False) y3 V) => wsure_any V F p g _ (xc.still hV).log)
        have KC := Lib.hid kc'
        clear HCN her hre xc kc kc' KB
        go_wp2_with fail
        refine HER.out.mono ?_
        rintro e wx ⟨rfl, hx⟩
        obtain rfl : y3 = wx := hx.symm
        go_wp2_with fail
        refine HRE.out.mono ?_
        rintro e y4 ⟨Ar, cr, rr, rfl, -, -, kd⟩
        have hsu := HSU.out y4 kd
        rw [L3.out.2.2.1] at hsu
        have HSU2 := Lib.hid hsu
        have KD := Lib.hid (KC.out.trans kd)
        clear HER HRE hsu kd KC HSU
        go_wp2_with fail
        refine HSU2.out.mono ?_
        rintro e wx ⟨rfl, hx⟩
        obtain rfl : y4 = wx := hx.symm
        go_wp2_with fail
        refine HSU2.out.mono ?_
        rintro e wx ⟨rfl, hx⟩
        obtain rfl : y4 = wx := hx.symm
        go_wp2
        go_ret
        exact ⟨rfl, KD.out⟩
    · have hii : ¬ (i : Int) < (N : Int) := by omega
      obtain rfl : i = N := by omega
      obtain ⟨p1, p2, p3, p4, p5, p6, p7, p8⟩ := I.out
      have her := werr_any wr F p g l X.out.log
      rw [p3] at her
      have hsu := wsure_any wr F p g l X.out.log
      rw [p2] at hsu
      have HER := Lib.hid her
      have HSU := Lib.hid hsu
      clear her hsu p1 p2 p3 p4 p5 p6 p7 p8
      go_wp2_with fail
      refine HER.out.mono ?_
      rintro e wx ⟨rfl, hx⟩
      obtain rfl : wr = wx := hx.symm
      go_wp2_with fail
      refine HSU.out.mono ?_
      rintro e wx ⟨rfl, hx⟩
      obtain rfl : wr = wx := hx.symm
      go_wp2
      go_ret
      exact ⟨rfl, K.out⟩
set_option maxRecDepth 100000 in
set_option maxHeartbeats 4000000 in
theorem stays_skip (A : Option Addr) (c N : Nat) (after : Int) (A3 : Option Addr) (m3 c3 : Nat) (w : World) (q : Bool) (hq : q = false ∨ 300 < m3)
    (HFW : Hid (∀ V, Keeps (fun _ => False) w V → Calls Try.prog 12 #[.slice A N c] V fun e w' => e = .returned (.bool q) ∧ w' = V)) :
    Calls Try.prog 6 #[.slice A N c, .int .u8 after, .slice A3 m3 c3] w fun e w' => e = .returned (.bool true) ∧ Keeps (fun _ => False) w w' := by
  have haw := awake12_any w
  have HAW := Lib.hid haw
  have HQ := Lib.hid hq
  clear haw hq
  go_enter Try.func6, Try.ntmps6
  go_wp2_with fail
  refine HAW.out.mono ?_
  rintro e w0 ⟨rfl, k0⟩
  have HF2 := Lib.hid (HFW.out w0 k0)
  have K0 := Lib.hid k0
  clear k0 HAW HFW
  go_wp2_with fail
  refine HF2.out.mono ?_
  rintro e wx ⟨rfl, hx⟩
  obtain rfl : w0 = wx := hx.symm
  cases q with
  | false =>
    go_wp2
    go_ret
    exact ⟨rfl, K0.out⟩
  | true =>
    have h3 : (300 : Int) < (m3 : Int) := by have := HQ.out; simp at this; omega
    go_wp2
    go_ret
    exact ⟨rfl, K0.out⟩
theorem stays_walk (A : Option Addr) (len c : Nat) (rs : List RowOf) (after : Int) (A3 : Option Addr) (m3 c3 : Nat) (zs : List Int) (W : World) (h0 : IsRows W A len c rs) (h1 : (Lit.int .u8 after).wf = true) (h2 : IsRowU .u8 W A3 m3 c3 zs) :
    Calls Try.prog 6 #[.slice A len c, .int .u8 after, .slice A3 m3 c3] W fun e W' => e = .returned (.bool true) ∧ Below W.heap.size W W' := by
  obtain ⟨rfl, hc, hmax, hR⟩ := h0
  have hfew : ∀ V, Keeps (fun _ => False) W V → Calls Try.prog 12 #[.slice A rs.length c] V fun e w' => e = .returned (.bool (few12B rs)) ∧ w' = V := fun V hk => few12_any A c rs V (hR.keeps hk (fun _ _ => id)) (by omega)
  suffices hgo : Calls Try.prog 6 #[.slice A rs.length c, .int .u8 after, .slice A3 m3 c3] W fun e w' => e = .returned (.bool true) ∧ Keeps (fun _ => False) W w' from hgo.mono (fun e w' h => ⟨h.1, h.2.below (Nat.le_refl _) (fun _ _ => id)⟩)
  by_cases hm : m3 ≤ 300
  · cases hq : few12B rs with
    | true => exact stays_go A c rs after A3 m3 c3 W hR hq hm true rfl
    | false => rw [hq] at hfew; exact stays_skip A c rs.length after A3 m3 c3 W false (.inl rfl) (Lib.hid hfew)
  · exact stays_skip A c rs.length after A3 m3 c3 W _ (.inr (by omega)) (Lib.hid hfew)
end Go.Proofs.Ytaadmkhhgpcgeaa
