/-
  WalTurns' walk.
-/
import Derived.Test.YtkfpfjbabnfphaaWlTi
import Derived.Test.YtkfpfjbabnfphaaOpenL
import Derived.Test.YtkfpfjbabnfphaaDkRb
namespace Go.Proofs.Ytkfpfjbabnfphaa
open Go.RowKit Go.BigFrame
set_option linter.unusedVariables false
set_option linter.unusedSimpArgs false
def RecAt (V : World) (A : Option Addr) (n : Nat) (bs : List Wl.Bs) : Prop := ∃ rs, rs.length = n ∧ bsOf rs = bs ∧ RowsAt V A rs
theorem RecAt.later {V V' : World} {A : Option Addr} {n : Nat} {bs : List Wl.Bs} (h : RecAt V A n bs) (hk : Keeps (fun _ => False) V V') : RecAt V' A n bs := by
  obtain ⟨rs, h1, h2, h3⟩ := h
  exact ⟨rs, h1, h2, h3.keeps hk (fun _ _ => id)⟩
def TexAt (V : World) (A : Option Addr) (n c : Nat) (bs : List Wl.Bs) : Prop := V.ownsRow 0 9 1 (.slice A n c) n (svals12 bs)
theorem TexAt.later {V V' : World} {A : Option Addr} {n c : Nat} {bs : List Wl.Bs} (h : TexAt V A n c bs) (hk : Keeps (fun _ => False) V V') : TexAt V' A n c bs := hk.owns h (fun _ _ => id)
theorem rows_take12 {w : World} {a : Option Addr} {rs : List RowOf} (h : RowsAt w a rs) (k : Nat) : RowsAt w a (rs.take k) :=
  ⟨fun i r hr => h.cell i r (by rw [List.getElem?_take] at hr; split at hr <;> first | exact hr | cases hr), fun r hr => h.src r (List.mem_of_mem_take hr), fun r hr => h.cap r (List.mem_of_mem_take hr)⟩
theorem TI.cp {l : Wl.St} {s : Dk.St} {k n m t : Nat} (h : TI l s k n m t) (ho : Wl.Ok l) (ht : t ≤ 1000) (rs : List Wl.Bs) (h6 : ∀ r ∈ rs, r.length ≤ 600) (m2 : Nat) (hm2 : rs.length ≤ m2) (hf : 608 * m2 ≤ 256 * k) :
    ∃ s', Wl.cp l s rs = (0, { l with turn := l.turn + 1, area := 1 - l.area, rows := rs, sure := rs.length }, s') ∧ TI { l with turn := l.turn + 1, area := 1 - l.area, rows := rs, sure := rs.length } s' k n m2 (t + 1) := by
  have h1 := h.turn
  have h2 := frames_few rs h6
  have h3 : 608 * rs.length ≤ 608 * m2 := Nat.mul_le_mul_left _ hm2
  obtain ⟨s', e, g, c, n1, hl⟩ := Wl.gd_cp h.gd ho h.calm (by omega) rs (fun r hr => by have := h6 r hr; omega) (by rw [h.k_]; omega)
  exact ⟨s', e, ⟨g, c, h.k_, n1.trans h.n_, by show l.turn + 1 ≤ t + 1; omega, by rw [hl]; exact Nat.zero_le _, hm2, h6⟩⟩
theorem tl_compact (w : World) (F : Nat → Prop) (p g : Nat) (l : Wl.St) (s : Dk.St) (k n m t : Nat) (h : Wal w F p g l s) (ti : TI l s k n m t) (hm : m ≤ 100) (hk : k ≤ 400) (ht : t ≤ 1000) (Ar : Option Addr) (cr : Nat) (rs : List RowOf) (hR : RowsAt w Ar rs) (h6 : ∀ r ∈ rs, r.2.2.length ≤ 600) (m2 : Nat) (hm2 : rs.length ≤ m2) (hf : 608 * m2 ≤ 256 * k) :
    ∃ l' s', l'.rows = bsOf rs ∧ l'.sure = rs.length ∧ TI l' s' k n m2 (t + 1) ∧ ∀ V, Wal V F p g l s → RowsAt V Ar rs → Calls Try.prog 17 #[.pointer (some ⟨p, 0, none⟩), .slice Ar rs.length cr] V fun e w' => e = .returned (.int .i64 0) ∧ Wal w' F p g l' s' ∧ Keeps F V w' := by
  have hl := ti.loose
  have h1 := ti.turn
  have hkk := ti.k_
  have hbl : (bsOf rs).length = rs.length := by unfold bsOf; rw [List.length_map]
  obtain ⟨s', e, t2⟩ := ti.cp h.ok ht (bsOf rs) (fun b hb => by unfold bsOf at hb; obtain ⟨r, hr, rfl⟩ := List.mem_map.1 hb; exact h6 r hr) m2 (by rw [hbl]; exact hm2) hf
  refine ⟨{ l with turn := l.turn + 1, area := 1 - l.area, rows := bsOf rs, sure := (bsOf rs).length }, s', rfl, hbl, t2, fun V hV hR => ?_⟩
  have h2 : 608 * m2 ≤ 256 * 400 := Nat.le_trans hf (Nat.mul_le_mul_left _ hk)
  have ha := wcompact_any V F p g l s hV Ar cr rs hR (by omega) (by omega) (by omega)
  rw [e] at ha
  exact ha
set_option maxRecDepth 100000 in
set_option maxHeartbeats 16000000 in
theorem turns_go (A : Option Addr) (ca : Nat) (ra : List RowOf) (T : Option Addr) (ct : Nat) (f : List UInt8) (w : World)
    (hA : RowsAt w A ra) (hca : ra.length ≤ ca ∧ ca ≤ 9223372036854775807) (fa : few12B ra = true) (hS : Src w T (bvs f)) (hfl : f.length ≤ 20) :
    Calls Try.prog 8 #[.slice A ra.length ca, .slice T f.length ct] w fun e w' => e = .returned (.bool true) ∧ Keeps (fun _ => False) w w' := by
  obtain ⟨a10, hsa⟩ := few12_all fa
  obtain ⟨na, hna⟩ : ∃ N, ra.length = N := ⟨_, rfl⟩
  obtain ⟨nt, hnf⟩ : ∃ N, f.length = N := ⟨_, rfl⟩
  have haw := awake12_any w
  have HAW := Lib.hid haw
  have HFA : Hid (∀ V, Keeps (fun _ => False) w V → Calls Try.prog 12 #[.slice A na ca] V fun e w' => e = .returned (.bool true) ∧ w' = V) := Lib.hid (fun V hk => by
    have := few12_any A ca ra V (hA.keeps hk (fun _ _ => id)) (by omega)
    rw [fa, hna] at this
    exact this)
  have HSF : Hid (∀ a, T = some a → 0 < nt → a.block < w.heap.size) := Lib.hid (fun a ha h0 => by
    obtain ⟨b, hb, hc⟩ := hS.pos (by simp [bvs]; omega)
    rw [ha] at hb
    injection hb with hb
    subst hb
    have h1 : ∃ u, (bvs f)[0]? = some u := ⟨_, List.getElem?_eq_getElem (by simp [bvs]; omega)⟩
    obtain ⟨u, hu⟩ := h1
    exact World.block_lt_of_cell? w _ (hc 0 u hu))
  have HRA := Lib.hid hA
  have HSA := Lib.hid hsa
  have HNA := Lib.hid hna
  have HNF := Lib.hid (And.intro hnf hS)
  rw [hna] at a10 hca ⊢
  rw [hnf] at hfl ⊢
  have HBD : Hid (na ≤ 10 ∧ nt ≤ 20 ∧ na ≤ ca ∧ ca ≤ 9223372036854775807) := Lib.hid ⟨a10, hfl, hca⟩
  have h60 : ¬ (20 : Int) < (nt : Int) := by omega
  clear haw hA fa hsa hna hnf hS hfl hca
  go_enter Try.func8, Try.ntmps8
  go_wp2_with fail
  refine HAW.out.mono ?_
  rintro e w0 ⟨rfl, k0⟩
  have HFA2 := Lib.hid (HFA.out w0 k0)
  obtain ⟨F, hF⟩ : ∃ F : Nat → Prop, (fun k => w0.heap.size ≤ k) = F := ⟨_, rfl⟩
  have HFK : Hid (∀ k, F k → w.heap.size ≤ k) := Lib.hid (fun k h => by rw [← hF] at h; have := k0.size; omega)
  have hnew := new_disk 80 w0 (by omega) (by omega)
  rw [show ((80 : Nat) : Int) = 80 from rfl, hF] at hnew
  have HNEW := Lib.hid hnew
  have K0 := Lib.hid k0
  clear hnew k0 HAW HFA
  go_wp2_with fail
  refine HFA2.out.mono ?_
  rintro e wx ⟨rfl, hx⟩
  obtain rfl : w0 = wx := hx.symm
  go_wp2_with fail
  refine HNEW.out.mono ?_
  rintro e w1 ⟨g, rfl, hg, d1, k1⟩
  have hT0 := TI.fresh 80 (by omega) (by omega)
  have hop := tl_open w1 F g _ _ _ 80 0 0 d1 (fun k hk => by rw [← hF]; have := k1.size; omega) hT0 rfl rfl (by omega)
  obtain ⟨l0, hl0⟩ : ∃ l, (⟨(80 - 2) / 2, 0, 0, [], 0, 0⟩ : Wl.St) = l := ⟨_, rfl⟩
  rw [hl0] at hT0 hop
  have HOP := Lib.hid hop
  have T2 : Hid (TI l0 (Dk.fresh 80) 39 80 11 0) := Lib.hid ⟨hT0.gd, hT0.calm, hT0.k_, hT0.n_, hT0.turn, Nat.le_trans hT0.loose (by omega), Nat.le_trans hT0.many (by omega), hT0.short⟩
  have K1 := Lib.hid (K0.out.trans k1)
  clear hop HNEW k1 d1 hF K0 HFA2 hT0 hl0
  go_wp2_with fail
  refine HOP.out.mono ?_
  rintro e w2 ⟨p, rfl, x2, k2⟩
  have X2 := Lib.hid x2
  have K2 := Lib.hid (K1.out.trans k2)
  clear HOP x2 k2 K1
  go_wp2_with fail
  go_loopw [9, 11, 12, 13, 14] (fun lv iv kv mv fv ww => ∃ (i p : Nat) (l : Wl.St) (s : Dk.St), i ≤ nt ∧ lv = .pointer (some ⟨p, 0, none⟩) ∧ iv = .int .i64 (i : Int) ∧ Hid (Wal ww F p g l s) ∧ Hid (TI l s 39 80 11 i) ∧ Hid (Keeps (fun _ => False) w ww)) (fun _ iv _ _ _ _ => nt - (intOf iv).toNat)
  case atStart => exact ⟨0, p, l0, _, by omega, rfl, rfl, X2, T2, K2⟩
  case round =>
    clear X2 T2 K2
    obtain ⟨i, p, l, s, hi, rfl, rfl, X, TT, K⟩ := hrel
    by_cases hlt : i < nt
    · have hii : (i : Int) < (nt : Int) := by omega
      obtain ⟨x, hx⟩ : ∃ x, f[i]? = some x := ⟨_, List.getElem?_eq_getElem (by rw [HNF.out.1]; exact hlt)⟩
      obtain ⟨ad, rfl, hc⟩ := (HNF.out.2.keeps K.out (fun _ _ _ => id)) i (.int .u8 (x.toNat : Int)) (by unfold bvs; rw [List.getElem?_map, hx]; rfl)
      obtain ⟨u, hu⟩ : ∃ u : Nat, x.toNat = u := ⟨_, rfl⟩
      have hcx : (x.toNat : Int) = (u : Int) := by rw [hu]
      have hub : u ≤ 255 := by have := x.toNat_lt; omega
      rw [hcx] at hc
      have hcell : (bvs f)[i]? = some (.int .u8 (u : Int)) := by rw [← hcx]; unfold bvs; rw [List.getElem?_map, hx]; rfl
      obtain ⟨q, hq⟩ : ∃ q, u / 4 = q := ⟨_, rfl⟩
      obtain ⟨y1, hy1⟩ : ∃ z, na + 1 = z := ⟨_, rfl⟩
      obtain ⟨kk, hk1, hk2, hkb, ek⟩ := rest_of (q : Int) y1 (by omega) (by have := HBD.out; omega) (by omega)
      have HKK : Hid (kk ≤ na) := Lib.hid (by clear hk1 hk2 ek; omega)
      have hs1 : (u : Int) / 4 = (q : Int) := by clear hk1 hk2 ek; omega
      have hs2 : (u : Int) / 2 ^ 2 = (q : Int) := by rw [← hs1]; rfl
      have hyy : (na : Int) + 1 = (y1 : Int) := by clear hk1 hk2 ek; omega
      have hy0 : (y1 : Int) ≠ 0 := by clear hk1 hk2 ek; omega
      clear hk1 hkb hx hu hcx hq hy1
      have hkl : (ra.take kk).length = kk := by rw [List.length_take, HNA.out]; have := HKK.out; clear hk2 ek; omega
      obtain ⟨bs, hbs⟩ : ∃ b, bsOf (ra.take kk) = b := ⟨_, rfl⟩
      have hbl : bs.length = kk := by rw [← hbs]; unfold bsOf; rw [List.length_map]; exact hkl
      have HBL := Lib.hid hbl
      have hcomp := tl_compact wr F p g l s 39 80 11 i X.out TT.out (by clear hk2 ek; omega) (by clear hk2 ek; omega) (by have := HBD.out; clear hk2 ek; omega) A ca (ra.take kk) (rows_take12 (HRA.out.keeps K.out (fun _ _ => id)) kk) (fun r hr => HSA.out r (List.mem_of_mem_take hr)) 10 (by rw [hkl]; have := HBD.out; have := HKK.out; clear hk2 ek; omega) (by clear hk2 ek; omega)
      have HTT : Hid (∀ V, Keeps (fun _ => False) w V → Calls Try.prog 16 #[.slice A kk ca] V fun e w' => ∃ A' c', e = .returned (.slice A' kk c') ∧ w'.ownsRow V.heap.size 9 1 (.slice A' kk c') kk (svals12 bs) ∧ Keeps (fun _ => False) V w') := Lib.hid (fun V hV => by
        have := texts12_any A ca (ra.take kk) V (rows_take12 (HRA.out.keeps hV (fun _ _ => id)) kk) (by rw [hkl]; have := HBD.out; have := HKK.out; clear hk2 ek; omega)
        rw [hkl, hbs] at this
        exact this)
      have HSS : Hid (∀ V (A1 : Option Addr) (c1 : Nat) (A2 : Option Addr) (c2 : Nat), RecAt V A1 kk bs → TexAt V A2 kk c2 bs → Calls Try.prog 19 #[.slice A1 kk c1, .slice A2 kk c2] V fun e w' => e = .returned (.bool true) ∧ Keeps (fun _ => False) V w') := Lib.hid (fun V A1 c1 A2 c2 h1 h2 => by
        obtain ⟨rs, g1, g2, g3⟩ := h1
        exact same12_eq A1 A2 c1 c2 0 rs V g3 kk g1 (by rw [g2]; exact h2) (by have := HBD.out; have := HKK.out; clear hk2 ek; omega))
      rw [hkl, hbs] at hcomp
      obtain ⟨l6, s6, hr6, hs6, t6, hcp⟩ := hcomp
      have HCP : Hid (∀ V, Keeps (fun _ => False) w V → Wal V F p g l s → Calls Try.prog 17 #[.pointer (some ⟨p, 0, none⟩), .slice A kk ca] V fun e w' => e = .returned (.int .i64 0) ∧ Keeps (fun _ => False) w w' ∧ Wal w' F p g l6 s6) := Lib.hid (fun V hV hW => (hcp V hW (rows_take12 (HRA.out.keeps hV (fun _ _ => id)) kk)).mono (fun e w' h => ⟨h.1, hV.trans' h.2.2 (fun i hi e => by have := HFK.out i e; clear hk2 ek; omega), h.2.1⟩))
      have HSU : Hid (∀ V, Keeps (fun _ => False) w V → Wal V F p g l6 s6 → Calls Try.prog 21 #[.pointer (some ⟨p, 0, none⟩)] V fun e w' => e = .returned (.int .i64 (kk : Int)) ∧ Keeps (fun _ => False) w w' ∧ Wal w' F p g l6 s6) := Lib.hid (fun V hV hW => (wsure_any V F p g l6 hW.log).mono (fun e w' h => ⟨by rw [← hs6]; exact h.1, by rw [h.2]; exact hV, by rw [h.2]; exact hW⟩))
      have HRE : Hid (∀ V, Keeps (fun _ => False) w V → Wal V F p g l6 s6 → Calls Try.prog 20 #[.pointer (some ⟨p, 0, none⟩)] V fun e w' => ∃ x : Option Addr × Nat, e = .returned (.slice x.1 kk x.2) ∧ Keeps (fun _ => False) w w' ∧ (Wal w' F p g l6 s6 ∧ RecAt w' x.1 kk bs)) := Lib.hid (fun V hV hW => (tl_records V F p g l6 s6 hW kk (by rw [hr6]; exact hbl)).mono (fun e w' h => by
        obtain ⟨A', c', rs, h1, h2, h3, h4, h5⟩ := h
        exact ⟨(A', c'), h1, hV.trans h5, hW.still h5, rs, h2, h3.trans hr6, h4⟩))
      have HTX : Hid (∀ V (A' : Option Addr), Keeps (fun _ => False) w V → (Wal V F p g l6 s6 ∧ RecAt V A' kk bs) → Calls Try.prog 16 #[.slice A kk ca] V fun e w' => ∃ x : Option Addr × Nat, e = .returned (.slice x.1 kk x.2) ∧ Keeps (fun _ => False) w w' ∧ (Wal w' F p g l6 s6 ∧ RecAt w' A' kk bs ∧ TexAt w' x.1 kk x.2 bs)) := Lib.hid (fun V A' hV hF => (HTT.out V hV).mono (fun e w' h => by
        obtain ⟨A2, c2, h1, h2, h3⟩ := h
        exact ⟨(A2, c2), h1, hV.trans h3, hF.1.still h3, hF.2.later h3, own_base h2 (Nat.zero_le _)⟩))
      have HSM : Hid (∀ V (A1 : Option Addr) (c1 : Nat) (A2 : Option Addr) (c2 : Nat), Keeps (fun _ => False) w V → (Wal V F p g l6 s6 ∧ RecAt V A1 kk bs ∧ TexAt V A2 kk c2 bs) → Calls Try.prog 19 #[.slice A1 kk c1, .slice A2 kk c2] V fun e w' => e = .returned (.bool true) ∧ Keeps (fun _ => False) w w' ∧ Wal w' F p g l6 s6) := Lib.hid (fun V A1 c1 A2 c2 hV hF => (HSS.out V A1 c1 A2 c2 hF.2.1 hF.2.2).mono (fun e w' h => ⟨h.1, hV.trans h.2, hF.1.still h.2⟩))
      have L6 : Hid (l6.rows = bs ∧ l6.sure = kk) := Lib.hid ⟨hr6, hs6⟩
      have T6 := Lib.hid t6
      have HC0 : Hid (∀ V, Keeps (fun _ => False) w V → V.cell? (ad.add i) = some (.int .u8 (u : Int))) := Lib.hid (fun V hV => (HNF.out.2.keeps hV (fun _ _ _ => id)).at_ hcell)
      clear hcell
      have hkca : kk ≤ ca := by have := HBD.out; have := HKK.out; clear hk2 ek; omega
      obtain ⟨b1, hand1⟩ : ∃ b, bits .and .u8 (u : Int) 1 = b := ⟨_, rfl⟩
      obtain ⟨b2, hand2⟩ : ∃ b, bits .and .u8 (u : Int) 2 = b := ⟨_, rfl⟩
      clear hkl hbs hbl hr6 hs6 t6 hcp
      go_wp2_with fail
      clear hk2 ek hs1 hs2 hyy hy0 hub
      refine wp_region_stores 22 [4, 8, 14, 18, 19] [0, 1, 2, 3, 4, 5, 6, 7, 9, 8, 10, 11, 12, 13, 15, 16, 17, 14, 18, 19, 20, 21] (fun V => Keeps (fun _ => False) w V) (fun V => Wal V F p g l s) (by kernel_rfl) (by kernel_rfl) (fun _ _ h k => h.trans k) (fun _ _ h k => h.still k) ((K.out.trans (Keeps.refl _ _).drew)) ((X.out.still (Keeps.refl _ _).drew)) ?_
      refine T_quiet (get_op rfl) (by rfl) (by rfl) (by rfl) ?_
      intro K hK
      go_big_quiet_op
      first | go_big_quiet_on | go_big_quiet_call ((intro _; rfl))
      refine T_quiet (get_op rfl) (by rfl) (by rfl) (by rfl) ?_
      intro K hK
      go_big_quiet_op
      first | go_big_quiet_on | go_big_quiet_call ((intro _; rfl))
      refine T_quiet (get_op rfl) (by rfl) (by rfl) (by rfl) ?_
      intro K hK
      go_big_quiet_op
      first | go_big_quiet_on | go_big_quiet_call ((intro _; rfl))
      refine T_value (get_op rfl) (by rfl) (by rfl) (.slice A kk ca) (fun _ _ => by go_simp) ?_
      simp only [Act.put, List.setIfInBounds_toArray, List.set_cons_zero, List.set_cons_succ]
      refine T_enter (get_op rfl) (by rfl) (by rfl) _ _ (.int .i64 0) (fun _ => by go_simp) (fun V => Wal V F p g l6 s6) (fun _ _ h k => h.still k) (fun V hb hf => HCP.out V hb hf) ?_
      simp only [Act.put, List.setIfInBounds_toArray, List.set_cons_zero, List.set_cons_succ]
      refine T_value (get_op rfl) (by rfl) (by rfl) (.bool false) (fun _ _ => by go_simp) ?_
      simp only [Act.put, List.setIfInBounds_toArray, List.set_cons_zero, List.set_cons_succ]
      refine T_value (get_op rfl) (by rfl) (by rfl) (.bool false) (fun _ _ => by go_simp) ?_
      simp only [Act.put, List.setIfInBounds_toArray, List.set_cons_zero, List.set_cons_succ]
      refine T_quiet (get_op rfl) (by rfl) (by rfl) (by rfl) ?_
      intro K hK
      go_big_quiet_op
      first | go_big_quiet_on | go_big_quiet_call ((intro _; rfl))
      refine T_quiet (get_op rfl) (by rfl) (by rfl) (by rfl) ?_
      intro K hK
      go_big_quiet_op
      first | go_big_quiet_on | go_big_quiet_call ((intro _; rfl))
      refine T_enter (get_op rfl) (by rfl) (by rfl) _ _ (.int .i64 (kk : Int)) (fun _ => by go_simp) (fun V => Wal V F p g l6 s6) (fun _ _ h k => h.still k) (fun V hb hf => HSU.out V hb hf) ?_
      simp only [Act.put, List.setIfInBounds_toArray, List.set_cons_zero, List.set_cons_succ]
      refine T_value (get_op rfl) (by rfl) (by rfl) (.bool false) (fun _ _ => by go_simp) ?_
      simp only [Act.put, List.setIfInBounds_toArray, List.set_cons_zero, List.set_cons_succ]
      refine T_value (get_op rfl) (by rfl) (by rfl) (.bool false) (fun _ _ => by go_simp) ?_
      simp only [Act.put, List.setIfInBounds_toArray, List.set_cons_zero, List.set_cons_succ]
      refine T_value (get_op rfl) (by rfl) (by rfl) (.bool false) (fun _ _ => by go_simp) ?_
      simp only [Act.put, List.setIfInBounds_toArray, List.set_cons_zero, List.set_cons_succ]
      refine T_quiet (get_op rfl) (by rfl) (by rfl) (by rfl) ?_
      intro K hK
      go_big_quiet_op
      first | go_big_quiet_on | go_big_quiet_call ((intro _; rfl))
      refine T_quiet (get_op rfl) (by rfl) (by rfl) (by rfl) ?_
      intro K hK
      go_big_quiet_op
      first | go_big_quiet_on | go_big_quiet_call ((intro _; rfl))
      refine T_quiet (get_op rfl) (by rfl) (by rfl) (by rfl) ?_
      intro K hK
      go_big_quiet_op
      first | go_big_quiet_on | go_big_quiet_call ((intro _; rfl))
      refine T_value (get_op rfl) (by rfl) (by rfl) (.slice A kk ca) (fun _ _ => by go_simp) ?_
      simp only [Act.put, List.setIfInBounds_toArray, List.set_cons_zero, List.set_cons_succ]
      refine T_enterR (get_op rfl) (by rfl) (by rfl) _ _ (fun x : Option Addr × Nat => .slice x.1 kk x.2) (fun x y h => by cases x; cases y; simp at h; simp [h]) (fun _ => by go_simp) (fun x V => Wal V F p g l6 s6 ∧ RecAt V x.1 kk bs) (fun x w w' h hk => ⟨h.1.still hk, h.2.later hk⟩) (fun V hb hf => HRE.out V hb hf) ?_
      intro x14
      simp only [Act.put, List.setIfInBounds_toArray, List.set_cons_zero, List.set_cons_succ]
      refine T_enterR (get_op rfl) (by rfl) (by rfl) _ _ (fun x : Option Addr × Nat => .slice x.1 kk x.2) (fun x y h => by cases x; cases y; simp at h; simp [h]) (fun _ => by go_simp) (fun x V => Wal V F p g l6 s6 ∧ RecAt V x14.1 kk bs ∧ TexAt V x.1 kk x.2 bs) (fun x w w' h hk => ⟨h.1.still hk, h.2.1.later hk, h.2.2.later hk⟩) (fun V hb hf => HTX.out V _ hb hf) ?_
      intro x18
      simp only [Act.put, List.setIfInBounds_toArray, List.set_cons_zero, List.set_cons_succ]
      refine T_enter (get_op rfl) (by rfl) (by rfl) _ _ (.bool true) (fun _ => by go_simp) (fun V => Wal V F p g l6 s6) (fun _ _ h k => h.still k) (fun V hb hf => HSM.out V x14.1 x14.2 x18.1 x18.2 hb hf) ?_
      simp only [Act.put, List.setIfInBounds_toArray, List.set_cons_zero, List.set_cons_succ]
      refine T_value (get_op rfl) (by rfl) (by rfl) (.bool false) (fun _ _ => by go_simp) ?_
      simp only [Act.put, List.setIfInBounds_toArray, List.set_cons_zero, List.set_cons_succ]
      refine T_value (get_op rfl) (by rfl) (by rfl) (.bool false) (fun _ _ => by go_simp) ?_
      simp only [Act.put, List.setIfInBounds_toArray, List.set_cons_zero, List.set_cons_succ]
      refine T_nil ?_
      intro w15 k15 x15
      simp only [List.drop_succ_cons, List.drop_zero]
      have X15 := Lib.hid x15
      have K15 := Lib.hid k15
      have hc15 := HC0.out w15 k15
      clear HCP HSU HRE HTX HSM k15 x15 X TT K hc
      by_cases hb1 : b1 = 1
      · subst hb1
        obtain ⟨V1, hV1⟩ : ∃ V, w15.alloc (.cells #[.int .u8 7] 5) = V := ⟨_, rfl⟩
        have kv1 : Keeps (fun _ => False) w15 V1 := by rw [← hV1]; exact (Keeps.refl _ _).alloc _
        have rv1 : Row V1 w15.heap.size 5 (bvs [7]) := by rw [← hV1]; exact heap_alloc_new w15 _
        have hap := tl_append V1 F p g l6 s6 39 80 10 (i + 1) (X15.out.still kv1) T6.out (some ⟨w15.heap.size, 0, none⟩) 1 [7] rv1.src ⟨by decide, by decide⟩ (by decide) (by decide) (by decide)
        rw [← hV1] at hap
        have HAP : Hid (Calls Try.prog 14 #[.pointer (some ⟨p, 0, none⟩), .slice (some ⟨w15.heap.size, 0, none⟩) 1 1] (w15.alloc (.cells #[.int .u8 7] 5)) fun e w' => ∃ l' s', e = .returned (.int .i64 0) ∧ l'.rows = l6.rows ++ [[7]] ∧ l'.sure = l6.sure ∧ Wal w' F p g l' s' ∧ TI l' s' 39 80 11 (i + 1) ∧ Keeps F (w15.alloc (.cells #[.int .u8 7] 5)) w') := Lib.hid hap
        rw [← hV1] at kv1
        have KV1 := Lib.hid (K15.out.trans kv1)
        clear hap kv1 rv1 hV1
        go_wp2_with fail
        refine HAP.out.mono ?_
        rintro e w7 ⟨l7, s7, rfl, hr7, hs7, x7, t7, k7⟩
        have X7 := Lib.hid x7
        have T7 := Lib.hid t7
        have K7 : Hid (Keeps (fun _ => False) w w7) := Lib.hid (KV1.out.trans' k7 (fun i hi h => by have := HFK.out i h; omega))
        have L7 : Hid (l7.rows.take l7.sure = bs ∧ l7.sure = kk) := Lib.hid ⟨by rw [hr7, hs7, L6.out.1, L6.out.2]; exact List.take_left' HBL.out, by rw [hs7, L6.out.2]⟩
        clear HAP KV1 hr7 hs7 x7 t7 k7 X15 K15 hc15 T6
        have hc7 := HC0.out w7 K7.out
        by_cases hb2 : b2 = 2
        · subst hb2
          have hcr := tl_crash w7 F p g l7 s7 39 80 11 (i + 1) 11 X7.out T7.out (by omega) (by rw [L7.out.1, HBL.out]; have := HBD.out; have := HKK.out; omega) (some ad) ct f (HNF.out.2.keeps K7.out (fun _ _ _ => id)) (fun a ha h0 hf => by have := HSF.out a ha (by have := HNF.out.1; omega); have := HFK.out _ hf; omega) (by have := HBD.out; have := HNF.out.1; omega)
          rw [HNF.out.1] at hcr
          have HCR := Lib.hid hcr
          have HC7 := Lib.hid X7
          clear hcr
          go_wp2_with fail
          refine HCR.out.mono ?_
          rintro e wa ⟨l8, s8, rfl, hr8, hs8, d8, f8, t8, k8⟩
          have hr9 : l8.rows = bs := hr8.trans L7.out.1
          have hop := tl_open wa F g l8 s8 39 80 11 (i + 1) d8 f8 t8 hs8 rfl (by omega)
          have HOP := Lib.hid hop
          have T8 := Lib.hid t8
          have HR8 : Hid (l8.rows = bs ∧ l8.rows.length = kk) := Lib.hid ⟨hr9, by rw [hr9]; exact HBL.out⟩
          have Ka : Hid (Keeps (fun _ => False) w wa) := Lib.hid (K7.out.trans' k8 (fun i hi h => by have := HFK.out i h; omega))
          clear HCR HC7 hr8 hr9 hs8 d8 f8 t8 k8 hop X7 T7 L7 K7 hc7
          go_wp2_with fail
          refine HOP.out.mono ?_
          rintro e wb ⟨p2, rfl, xb, kb⟩
          have X8 := Lib.hid xb
          have K8 := Lib.hid (Ka.out.trans kb)
          clear xb kb HOP Ka
          have HRE2 : Hid (∀ V, Keeps (fun _ => False) w V → Wal V F p2 g l8 s8 → Calls Try.prog 20 #[.pointer (some ⟨p2, 0, none⟩)] V fun e w' => ∃ x : Option Addr × Nat, e = .returned (.slice x.1 kk x.2) ∧ Keeps (fun _ => False) w w' ∧ (Wal w' F p2 g l8 s8 ∧ RecAt w' x.1 kk bs)) := Lib.hid (fun V hV hW => (tl_records V F p2 g l8 s8 hW kk HR8.out.2).mono (fun e w' h => by
            obtain ⟨A', c', rs, h1, h2, h3, h4, h5⟩ := h
            exact ⟨(A', c'), h1, hV.trans h5, hW.still h5, rs, h2, h3.trans HR8.out.1, h4⟩))
          have HTX2 : Hid (∀ V (A' : Option Addr), Keeps (fun _ => False) w V → (Wal V F p2 g l8 s8 ∧ RecAt V A' kk bs) → Calls Try.prog 16 #[.slice A kk ca] V fun e w' => ∃ x : Option Addr × Nat, e = .returned (.slice x.1 kk x.2) ∧ Keeps (fun _ => False) w w' ∧ (Wal w' F p2 g l8 s8 ∧ RecAt w' A' kk bs ∧ TexAt w' x.1 kk x.2 bs)) := Lib.hid (fun V A' hV hF => (HTT.out V hV).mono (fun e w' h => by
            obtain ⟨A2, c2, h1, h2, h3⟩ := h
            exact ⟨(A2, c2), h1, hV.trans h3, hF.1.still h3, hF.2.later h3, own_base h2 (Nat.zero_le _)⟩))
          have HSM2 : Hid (∀ V (A1 : Option Addr) (c1 : Nat) (A2 : Option Addr) (c2 : Nat), Keeps (fun _ => False) w V → (Wal V F p2 g l8 s8 ∧ RecAt V A1 kk bs ∧ TexAt V A2 kk c2 bs) → Calls Try.prog 19 #[.slice A1 kk c1, .slice A2 kk c2] V fun e w' => e = .returned (.bool true) ∧ Keeps (fun _ => False) w w' ∧ Wal w' F p2 g l8 s8) := Lib.hid (fun V A1 c1 A2 c2 hV hF => (HSS.out V A1 c1 A2 c2 hF.2.1 hF.2.2).mono (fun e w' h => ⟨h.1, hV.trans h.2, hF.1.still h.2⟩))
          go_wp2_with fail
          refine wp_region_stores 12 [4, 8, 9] [0, 1, 2, 3, 5, 6, 7, 4, 8, 9, 10, 11] (fun V => Keeps (fun _ => False) w V) (fun V => Wal V F p2 g l8 s8) (by kernel_rfl) (by kernel_rfl) (fun _ _ h k => h.trans k) (fun _ _ h k => h.still k) ((K8.out.trans (Keeps.refl _ _).drew)) ((X8.out.still (Keeps.refl _ _).drew)) ?_
          refine T_quiet (get_op rfl) (by rfl) (by rfl) (by rfl) ?_
          intro K hK
          go_big_quiet_op
          first | go_big_quiet_on | go_big_quiet_call ((intro _; rfl))
          refine T_value (get_op rfl) (by rfl) (by rfl) (.bool false) (fun _ _ => by go_simp) ?_
          simp only [Act.put, List.setIfInBounds_toArray, List.set_cons_zero, List.set_cons_succ]
          refine T_value (get_op rfl) (by rfl) (by rfl) (.bool false) (fun _ _ => by go_simp) ?_
          simp only [Act.put, List.setIfInBounds_toArray, List.set_cons_zero, List.set_cons_succ]
          refine T_quiet (get_op rfl) (by rfl) (by rfl) (by rfl) ?_
          intro K hK
          go_big_quiet_op
          first | go_big_quiet_on | go_big_quiet_call ((intro _; rfl))
          refine T_quiet (get_op rfl) (by rfl) (by rfl) (by rfl) ?_
          intro K hK
          go_big_quiet_op
          first | go_big_quiet_on | go_big_quiet_call ((intro _; rfl))
          refine T_quiet (get_op rfl) (by rfl) (by rfl) (by rfl) ?_
          intro K hK
          go_big_quiet_op
          first | go_big_quiet_on | go_big_quiet_call ((intro _; rfl))
          refine T_value (get_op rfl) (by rfl) (by rfl) (.slice A kk ca) (fun _ _ => by go_simp) ?_
          simp only [Act.put, List.setIfInBounds_toArray, List.set_cons_zero, List.set_cons_succ]
          refine T_enterR (get_op rfl) (by rfl) (by rfl) _ _ (fun x : Option Addr × Nat => .slice x.1 kk x.2) (fun x y h => by cases x; cases y; simp at h; simp [h]) (fun _ => by go_simp) (fun x V => Wal V F p2 g l8 s8 ∧ RecAt V x.1 kk bs) (fun x w w' h hk => ⟨h.1.still hk, h.2.later hk⟩) (fun V hb hf => HRE2.out V hb hf) ?_
          intro x14
          simp only [Act.put, List.setIfInBounds_toArray, List.set_cons_zero, List.set_cons_succ]
          refine T_enterR (get_op rfl) (by rfl) (by rfl) _ _ (fun x : Option Addr × Nat => .slice x.1 kk x.2) (fun x y h => by cases x; cases y; simp at h; simp [h]) (fun _ => by go_simp) (fun x V => Wal V F p2 g l8 s8 ∧ RecAt V x14.1 kk bs ∧ TexAt V x.1 kk x.2 bs) (fun x w w' h hk => ⟨h.1.still hk, h.2.1.later hk, h.2.2.later hk⟩) (fun V hb hf => HTX2.out V _ hb hf) ?_
          intro x18
          simp only [Act.put, List.setIfInBounds_toArray, List.set_cons_zero, List.set_cons_succ]
          refine T_enter (get_op rfl) (by rfl) (by rfl) _ _ (.bool true) (fun _ => by go_simp) (fun V => Wal V F p2 g l8 s8) (fun _ _ h k => h.still k) (fun V hb hf => HSM2.out V x14.1 x14.2 x18.1 x18.2 hb hf) ?_
          simp only [Act.put, List.setIfInBounds_toArray, List.set_cons_zero, List.set_cons_succ]
          refine T_value (get_op rfl) (by rfl) (by rfl) (.bool false) (fun _ _ => by go_simp) ?_
          simp only [Act.put, List.setIfInBounds_toArray, List.set_cons_zero, List.set_cons_succ]
          refine T_value (get_op rfl) (by rfl) (by rfl) (.bool false) (fun _ _ => by go_simp) ?_
          simp only [Act.put, List.setIfInBounds_toArray, List.set_cons_zero, List.set_cons_succ]
          refine T_nil ?_
          intro w22 k22 x22
          simp only [List.drop_succ_cons, List.drop_zero]
          have X22 := Lib.hid x22
          have K22 := Lib.hid k22
          clear HRE2 HTX2 HSM2 k22 x22 X8 K8
          go_wp2_with fail
          go_roundw
          case rel => exact ⟨i + 1, p2, l8, s8, by omega, rfl, by go_num, X22, T8, K22⟩
          case measure => simp [intOf]; omega
        · have hb2f : (b2 == 2) = false := by simpa using hb2
          have HB2 := Lib.hid hb2
          clear hb2
          go_wp2_with fail
          go_roundw
          case rel => exact ⟨i + 1, p, l7, s7, by omega, rfl, by go_num, X7, T7, K7⟩
          case measure => simp [intOf]; omega
      · have hb1f : (b1 == 1) = false := by simpa using hb1
        have HB1 := Lib.hid hb1
        obtain ⟨w7, hw7⟩ : ∃ x, x = w15 := ⟨_, rfl⟩
        subst hw7
        have X7 := X15
        obtain ⟨l7, hl7⟩ : ∃ x, x = l6 := ⟨_, rfl⟩
        obtain ⟨s7, hs7⟩ : ∃ x, x = s6 := ⟨_, rfl⟩
        subst hl7
        subst hs7
        have T7 : Hid (TI l7 s7 39 80 11 (i + 1)) := Lib.hid (by have h := T6.out; exact ⟨h.gd, h.calm, h.k_, h.n_, h.turn, Nat.le_trans h.loose (by omega), Nat.le_trans h.many (by omega), h.short⟩)
        have L7 : Hid (l7.rows.take l7.sure = bs ∧ l7.sure = kk) := Lib.hid ⟨by rw [L6.out.1, L6.out.2]; exact List.take_of_length_le (Nat.le_of_eq HBL.out), L6.out.2⟩
        have K7 := K15
        clear hb1 X15 K15 T6
        have hc7 := HC0.out w7 K7.out
        by_cases hb2 : b2 = 2
        · subst hb2
          have hcr := tl_crash w7 F p g l7 s7 39 80 11 (i + 1) 11 X7.out T7.out (by omega) (by rw [L7.out.1, HBL.out]; have := HBD.out; have := HKK.out; omega) (some ad) ct f (HNF.out.2.keeps K7.out (fun _ _ _ => id)) (fun a ha h0 hf => by have := HSF.out a ha (by have := HNF.out.1; omega); have := HFK.out _ hf; omega) (by have := HBD.out; have := HNF.out.1; omega)
          rw [HNF.out.1] at hcr
          have HCR := Lib.hid hcr
          have HC7 := Lib.hid X7
          clear hcr
          go_wp2_with fail
          refine HCR.out.mono ?_
          rintro e wa ⟨l8, s8, rfl, hr8, hs8, d8, f8, t8, k8⟩
          have hr9 : l8.rows = bs := hr8.trans L7.out.1
          have hop := tl_open wa F g l8 s8 39 80 11 (i + 1) d8 f8 t8 hs8 rfl (by omega)
          have HOP := Lib.hid hop
          have T8 := Lib.hid t8
          have HR8 : Hid (l8.rows = bs ∧ l8.rows.length = kk) := Lib.hid ⟨hr9, by rw [hr9]; exact HBL.out⟩
          have Ka : Hid (Keeps (fun _ => False) w wa) := Lib.hid (K7.out.trans' k8 (fun i hi h => by have := HFK.out i h; omega))
          clear HCR HC7 hr8 hr9 hs8 d8 f8 t8 k8 hop X7 T7 L7 K7 hc7
          go_wp2_with fail
          refine HOP.out.mono ?_
          rintro e wb ⟨p2, rfl, xb, kb⟩
          have X8 := Lib.hid xb
          have K8 := Lib.hid (Ka.out.trans kb)
          clear xb kb HOP Ka
          have HRE2 : Hid (∀ V, Keeps (fun _ => False) w V → Wal V F p2 g l8 s8 → Calls Try.prog 20 #[.pointer (some ⟨p2, 0, none⟩)] V fun e w' => ∃ x : Option Addr × Nat, e = .returned (.slice x.1 kk x.2) ∧ Keeps (fun _ => False) w w' ∧ (Wal w' F p2 g l8 s8 ∧ RecAt w' x.1 kk bs)) := Lib.hid (fun V hV hW => (tl_records V F p2 g l8 s8 hW kk HR8.out.2).mono (fun e w' h => by
            obtain ⟨A', c', rs, h1, h2, h3, h4, h5⟩ := h
            exact ⟨(A', c'), h1, hV.trans h5, hW.still h5, rs, h2, h3.trans HR8.out.1, h4⟩))
          have HTX2 : Hid (∀ V (A' : Option Addr), Keeps (fun _ => False) w V → (Wal V F p2 g l8 s8 ∧ RecAt V A' kk bs) → Calls Try.prog 16 #[.slice A kk ca] V fun e w' => ∃ x : Option Addr × Nat, e = .returned (.slice x.1 kk x.2) ∧ Keeps (fun _ => False) w w' ∧ (Wal w' F p2 g l8 s8 ∧ RecAt w' A' kk bs ∧ TexAt w' x.1 kk x.2 bs)) := Lib.hid (fun V A' hV hF => (HTT.out V hV).mono (fun e w' h => by
            obtain ⟨A2, c2, h1, h2, h3⟩ := h
            exact ⟨(A2, c2), h1, hV.trans h3, hF.1.still h3, hF.2.later h3, own_base h2 (Nat.zero_le _)⟩))
          have HSM2 : Hid (∀ V (A1 : Option Addr) (c1 : Nat) (A2 : Option Addr) (c2 : Nat), Keeps (fun _ => False) w V → (Wal V F p2 g l8 s8 ∧ RecAt V A1 kk bs ∧ TexAt V A2 kk c2 bs) → Calls Try.prog 19 #[.slice A1 kk c1, .slice A2 kk c2] V fun e w' => e = .returned (.bool true) ∧ Keeps (fun _ => False) w w' ∧ Wal w' F p2 g l8 s8) := Lib.hid (fun V A1 c1 A2 c2 hV hF => (HSS.out V A1 c1 A2 c2 hF.2.1 hF.2.2).mono (fun e w' h => ⟨h.1, hV.trans h.2, hF.1.still h.2⟩))
          go_wp2_with fail
          refine wp_region_stores 12 [4, 8, 9] [0, 1, 2, 3, 5, 6, 7, 4, 8, 9, 10, 11] (fun V => Keeps (fun _ => False) w V) (fun V => Wal V F p2 g l8 s8) (by kernel_rfl) (by kernel_rfl) (fun _ _ h k => h.trans k) (fun _ _ h k => h.still k) ((K8.out.trans (Keeps.refl _ _).drew)) ((X8.out.still (Keeps.refl _ _).drew)) ?_
          refine T_quiet (get_op rfl) (by rfl) (by rfl) (by rfl) ?_
          intro K hK
          go_big_quiet_op
          first | go_big_quiet_on | go_big_quiet_call ((intro _; rfl))
          refine T_value (get_op rfl) (by rfl) (by rfl) (.bool false) (fun _ _ => by go_simp) ?_
          simp only [Act.put, List.setIfInBounds_toArray, List.set_cons_zero, List.set_cons_succ]
          refine T_value (get_op rfl) (by rfl) (by rfl) (.bool false) (fun _ _ => by go_simp) ?_
          simp only [Act.put, List.setIfInBounds_toArray, List.set_cons_zero, List.set_cons_succ]
          refine T_quiet (get_op rfl) (by rfl) (by rfl) (by rfl) ?_
          intro K hK
          go_big_quiet_op
          first | go_big_quiet_on | go_big_quiet_call ((intro _; rfl))
          refine T_quiet (get_op rfl) (by rfl) (by rfl) (by rfl) ?_
          intro K hK
          go_big_quiet_op
          first | go_big_quiet_on | go_big_quiet_call ((intro _; rfl))
          refine T_quiet (get_op rfl) (by rfl) (by rfl) (by rfl) ?_
          intro K hK
          go_big_quiet_op
          first | go_big_quiet_on | go_big_quiet_call ((intro _; rfl))
          refine T_value (get_op rfl) (by rfl) (by rfl) (.slice A kk ca) (fun _ _ => by go_simp) ?_
          simp only [Act.put, List.setIfInBounds_toArray, List.set_cons_zero, List.set_cons_succ]
          refine T_enterR (get_op rfl) (by rfl) (by rfl) _ _ (fun x : Option Addr × Nat => .slice x.1 kk x.2) (fun x y h => by cases x; cases y; simp at h; simp [h]) (fun _ => by go_simp) (fun x V => Wal V F p2 g l8 s8 ∧ RecAt V x.1 kk bs) (fun x w w' h hk => ⟨h.1.still hk, h.2.later hk⟩) (fun V hb hf => HRE2.out V hb hf) ?_
          intro x14
          simp only [Act.put, List.setIfInBounds_toArray, List.set_cons_zero, List.set_cons_succ]
          refine T_enterR (get_op rfl) (by rfl) (by rfl) _ _ (fun x : Option Addr × Nat => .slice x.1 kk x.2) (fun x y h => by cases x; cases y; simp at h; simp [h]) (fun _ => by go_simp) (fun x V => Wal V F p2 g l8 s8 ∧ RecAt V x14.1 kk bs ∧ TexAt V x.1 kk x.2 bs) (fun x w w' h hk => ⟨h.1.still hk, h.2.1.later hk, h.2.2.later hk⟩) (fun V hb hf => HTX2.out V _ hb hf) ?_
          intro x18
          simp only [Act.put, List.setIfInBounds_toArray, List.set_cons_zero, List.set_cons_succ]
          refine T_enter (get_op rfl) (by rfl) (by rfl) _ _ (.bool true) (fun _ => by go_simp) (fun V => Wal V F p2 g l8 s8) (fun _ _ h k => h.still k) (fun V hb hf => HSM2.out V x14.1 x14.2 x18.1 x18.2 hb hf) ?_
          simp only [Act.put, List.setIfInBounds_toArray, List.set_cons_zero, List.set_cons_succ]
          refine T_value (get_op rfl) (by rfl) (by rfl) (.bool false) (fun _ _ => by go_simp) ?_
          simp only [Act.put, List.setIfInBounds_toArray, List.set_cons_zero, List.set_cons_succ]
          refine T_value (get_op rfl) (by rfl) (by rfl) (.bool false) (fun _ _ => by go_simp) ?_
          simp only [Act.put, List.setIfInBounds_toArray, List.set_cons_zero, List.set_cons_succ]
          refine T_nil ?_
          intro w22 k22 x22
          simp only [List.drop_succ_cons, List.drop_zero]
          have X22 := Lib.hid x22
          have K22 := Lib.hid k22
          clear HRE2 HTX2 HSM2 k22 x22 X8 K8
          go_wp2_with fail
          go_roundw
          case rel => exact ⟨i + 1, p2, l8, s8, by omega, rfl, by go_num, X22, T8, K22⟩
          case measure => simp [intOf]; omega
        · have hb2f : (b2 == 2) = false := by simpa using hb2
          have HB2 := Lib.hid hb2
          clear hb2
          go_wp2_with fail
          go_roundw
          case rel => exact ⟨i + 1, p, l7, s7, by omega, rfl, by go_num, X7, T7, K7⟩
          case measure => simp [intOf]; omega
    · have hii : ¬ (i : Int) < (nt : Int) := by omega
      obtain rfl : i = nt := by omega
      have her := werr_any wr F p g l X.out.log
      rw [TT.out.gd.err] at her
      have HER := Lib.hid her
      clear her X TT
      go_wp2_with fail
      refine HER.out.mono ?_
      rintro e wx ⟨rfl, hx⟩
      obtain rfl : wr = wx := hx.symm
      go_wp2
      go_ret
      exact ⟨rfl, K.out⟩
end Go.Proofs.Ytkfpfjbabnfphaa
