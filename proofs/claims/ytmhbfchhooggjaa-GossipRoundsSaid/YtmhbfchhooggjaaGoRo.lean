/-
  The statement GossipRounds, for every input, out of the contracts.
-/
import Derived.Test.YtmhbfchhooggjaaGoQ
namespace Go.Proofs.Ytmhbfchhooggjaa
open Go.RowKit Go.BigFrame
set_option linter.unusedVariables false
set_option linter.unusedSimpArgs false

variable {At : World → (Nat → Prop) → Nat → Gp.G → Prop}
set_option maxRecDepth 100000 in
set_option maxHeartbeats 8000000 in
theorem rounds_walk (C : Goss At) (AW : Awake21) (av ov : Nat) (ha : av < 256) (ho : ov < 256) (s : BitVec 64) (A : Option Addr) (len c : Nat) (ls : List Int) (W : World) (hl : ls.length = len) (hS : Src W A (ivs ls)) (hlc : len ≤ c) (hcx : c ≤ 9223372036854775807) (hA0 : A = none → c = 0) :
    Calls Try.prog 5 #[.int .u8 (av : Int), .int .u8 (ov : Int), .int .u64 (di s), .slice A len c] W fun e w' => e = .returned (.bool true) ∧ Below W.heap.size W w' := by
  have CC := Lib.hid C
  have HAW := Lib.hid (AW W)
  have HS := Lib.hid hS
  have HL := Lib.hid hl
  have HC := Lib.hid (And.intro hlc (And.intro hcx hA0))
  clear C AW hS hl hlc hcx hA0
  by_cases h40 : 40 < len
  · have h1 : (40 : Int) < (len : Int) := by omega
    go_enter Try.func5, Try.ntmps5
    go_wp2_with fail
    refine HAW.out.mono ?_
    rintro e w1 ⟨rfl, k1⟩
    go_wp2
    go_ret
    exact ⟨rfl, k1.below (Nat.le_refl _) (fun _ _ => id)⟩
  · have h1 : ¬ (40 : Int) < (len : Int) := by omega
    obtain ⟨m, hm1, hm3⟩ : ∃ m : Nat, (ov : Int) % 20 = (m : Int) ∧ m < 20 := ⟨ov % 20, by omega, by omega⟩
    obtain ⟨n, hn⟩ : ∃ n : Nat, (m : Int) + 1 = (n : Int) := ⟨m + 1, by omega⟩
    have hn20 : n ≤ 20 := by omega
    obtain ⟨k, ⟨hk1, hk2⟩, hk3, hk4⟩ := rest_of21 av n (by omega) (by omega) ha
    have hkn : k < n := hk3
    have hnn : ¬ (n : Int) = 0 := by omega
    go_enter Try.func5, Try.ntmps5
    go_wp2_with fail
    refine HAW.out.mono ?_
    rintro e w1 ⟨rfl, k1⟩
    have K1 := Lib.hid k1
    clear k1
    obtain ⟨g0, hg0⟩ : ∃ g : Gp.G, (⟨k, n, n, s, []⟩ : Gp.G) = g := ⟨_, rfl⟩
    have hnew := CC.out.new_on w1 k n n s (by unfold Gp.In; omega)
    rw [hg0] at hnew
    have HNEW := Lib.hid hnew
    have HG0 : Hid (g0.me = k ∧ g0.many = n ∧ g0.fan = n) := Lib.hid (by rw [← hg0]; exact ⟨rfl, rfl, rfl⟩)
    have hmk := fun V => make_bools n hn20 V
    obtain ⟨BQ, hBQ⟩ : ∃ B, (tn n []).toArray = B := ⟨_, rfl⟩
    rw [hBQ] at hmk
    have HBQ := Lib.hid hBQ
    have HHG := Lib.hid hg0
    clear hnew HAW hBQ hg0
    go_wp2_with fail
    refine HNEW.out.mono ?_
    rintro e w2 ⟨g, F, rfl, a2, hF, k2⟩
    clear hm1 hm3 hn hk1 hk2 hk3 hk4
    obtain ⟨sb, hs⟩ : ∃ sb, w2.heap.size = sb := ⟨_, rfl⟩
    obtain ⟨V2, hV2⟩ : ∃ V, w2.alloc (.cells BQ 4) = V := ⟨_, rfl⟩
    have kv2 : Keeps (fun _ => False) w2 V2 := by rw [← hV2]; exact (Keeps.refl _ _).alloc _
    have HA2 := Lib.hid (CC.out.keeps a2 kv2 (fun _ h => h.elim))
    have HR2 : Hid (Row V2 sb 4 (tn n [])) := Lib.hid (by rw [← hV2, ← hs]; unfold Row; rw [HBQ.out]; exact heap_alloc_new w2 _)
    have HF2 : Hid ((∀ b, F b → W.heap.size ≤ b) ∧ ¬ F sb ∧ W.heap.size ≤ sb) := Lib.hid ⟨fun b h => Nat.le_trans K1.out.size (hF b h), fun h => by have := CC.out.lt a2 _ h; omega, by have := K1.out.size; have := k2.size; omega⟩
    have HK2 : Hid (Keeps (fun _ => False) W V2) := Lib.hid ((K1.out.trans k2).trans kv2)
    clear a2 hF k2 kv2 HNEW
    go_wp2_with fail
    clear hs hV2 hmk
    go_loopw [15, 16] (fun wv iv wr => ∃ i : Nat, i ≤ len ∧ iv = .int .i64 (i : Int) ∧ wv = .int .i64 (((Gp.oth g0 (ls.take i) (-1)).length : Nat) : Int) ∧ Hid (Row wr sb 4 (tn n (Gp.oth g0 (ls.take i) (-1)))) ∧ Hid (Keeps (fun j => j = sb) V2 wr)) (fun _ iv _ => len - (intOf iv).toNat)
    case atStart => exact ⟨0, by omega, rfl, rfl, HR2, Lib.hid (Keeps.refl _ _)⟩
    case round =>
      clear HR2
      obtain ⟨i, hi, rfl, rfl, HR, HK⟩ := hrel
      by_cases hlt : i < len
      · have hii : (i : Int) < (len : Int) := by omega
        obtain ⟨x, hx⟩ : ∃ x, ls[i]? = some x := ⟨_, List.getElem?_eq_getElem (by have := HL.out; omega)⟩
        obtain ⟨ad, rfl, hxc⟩ := src_at21 HS.out hx
        have hot := oth_take g0 ls i x (-1) hx
        have hxr : wr.cell? (ad.add i) = some (.int .i64 x) := ((HK2.out.trans' HK.out (fun j hj e => by have := HF2.out.2.2; have e' : j = sb := e; omega)).cell (World.block_lt_of_cell? _ _ hxc) id).trans hxc
        have hom : ∀ y, y ∈ Gp.oth g0 (ls.take i) (-1) ↔ y ∈ ls.take i ∧ 0 ≤ y ∧ y < (n : Int) ∧ y ≠ (k : Int) := fun y => by
          rw [Gp.mem_oth2, HG0.out.1, HG0.out.2.1]
          constructor
          · rintro ⟨h1, h2, h3, h4, _⟩; exact ⟨h1, h2, h3, h4⟩
          · rintro ⟨h1, h2, h3, h4⟩; exact ⟨h1, h2, h3, h4, by omega⟩
        have hca : Gp.can g0 (-1) x = true ↔ 0 ≤ x ∧ x < (n : Int) ∧ x ≠ (k : Int) := by
          unfold Gp.can
          rw [HG0.out.1, HG0.out.2.1]
          simp
          omega
        have hol := Nat.le_trans (Gp.oth_le g0 (ls.take i) (-1)) (List.length_take_le i ls)
        obtain ⟨O, hO⟩ : ∃ O, Gp.oth g0 (ls.take i) (-1) = O := ⟨_, rfl⟩
        obtain ⟨O2, hO2⟩ : ∃ O, Gp.oth g0 (ls.take (i + 1)) (-1) = O := ⟨_, rfl⟩
        rw [hO, hO2] at hot
        rw [hO] at hom hol HR ⊢
        obtain ⟨wl, hwl⟩ : ∃ m, O.length = m := ⟨_, rfl⟩
        rw [hwl] at hol ⊢
        have hw40 : wl ≤ 40 := by omega
        have HO := Lib.hid (And.intro hwl hO2)
        have HXR := Lib.hid hxr
        clear hx hxc hO hO2 hwl hol
        by_cases c1 : 0 ≤ x
        · by_cases c2 : x < (n : Int)
          · by_cases c3 : x = (k : Int)
            · subst c3
              have ho : O2 = O := by rw [hot, if_neg (by rw [Bool.and_eq_true, hca]; omega)]
              have HOO := Lib.hid ho
              clear hot hca hom ho
              go_wp2
              go_roundw
              case rel =>
                refine ⟨i + 1, by omega, by go_num, ?_, ?_, HK⟩
                · rw [HO.out.2, HOO.out, HO.out.1]
                · rw [HO.out.2, HOO.out]; exact HR
              case measure => simp [intOf]; omega
            · obtain ⟨q, rfl⟩ : ∃ q : Nat, x = (q : Int) := ⟨x.toNat, by omega⟩
              have hqn : q < n := by omega
              have hne : ((q : Int) != (k : Int)) = true := by simpa using c3
              by_cases c4 : (q : Int) ∈ O
              · have ho : O2 = O := by rw [hot, if_neg (by have := ((hom _).1 c4).1; simp [this])]
                have hsr : wr.cell? ⟨sb, q, none⟩ = some (.bool true) := by rw [HR.out.cell q, tn_at n O hqn, decide_eq_true c4]
                have HOO := Lib.hid ho
                clear hot hca hom ho
                go_wp2
                go_roundw
                case rel =>
                  refine ⟨i + 1, by omega, by go_num, ?_, ?_, HK⟩
                  · rw [HO.out.2, HOO.out, HO.out.1]
                  · rw [HO.out.2, HOO.out]; exact HR
                case measure => simp [intOf]; omega
              · have ho : O2 = O ++ [(q : Int)] := by rw [hot, if_pos (by rw [Bool.and_eq_true]; exact ⟨hca.2 ⟨c1, c2, c3⟩, by have : (q : Int) ∉ ls.take i := fun h => c4 ((hom _).2 ⟨h, c1, c2, c3⟩); simpa using this⟩)]
                have hsr : wr.cell? ⟨sb, q, none⟩ = some (.bool false) := by rw [HR.out.cell q, tn_at n O hqn, decide_eq_false c4]
                have hfr : wr.frozen? ⟨sb, q, none⟩ = false := HR.out.frozen q
                obtain ⟨W9, hW9⟩ : ∃ V, wr.setCell ⟨sb, q, none⟩ (.bool true) = V := ⟨_, rfl⟩
                have HR9 : Hid (Row W9 sb 4 (tn n O2)) := Lib.hid (by rw [ho, ← tn_set n O hqn, ← hW9]; exact HR.out.set q (.bool true))
                have HK9 : Hid (Keeps (fun j => j = sb) V2 W9) := Lib.hid (HK.out.trans (by rw [← hW9]; exact (Keeps.refl (fun j => j = sb) wr).setCell (p := ⟨sb, q, none⟩) (fun _ => rfl) _))
                have HOO : Hid (O2.length = wl + 1) := Lib.hid (by rw [ho, List.length_append, HO.out.1]; rfl)
                clear hot hca hom ho
                go_wp2
                go_roundw
                case rel =>
                  refine ⟨i + 1, by omega, by go_num, ?_, ?_, HK9⟩
                  · rw [HO.out.2, HOO.out]; go_num
                  · rw [HO.out.2]; exact HR9
                case measure => simp [intOf]; omega
          · have ho : O2 = O := by rw [hot, if_neg (by rw [Bool.and_eq_true, hca]; omega)]
            have HOO := Lib.hid ho
            clear hot hca hom ho
            go_wp2
            go_roundw
            case rel =>
              refine ⟨i + 1, by omega, by go_num, ?_, ?_, HK⟩
              · rw [HO.out.2, HOO.out, HO.out.1]
              · rw [HO.out.2, HOO.out]; exact HR
            case measure => simp [intOf]; omega
        · have ho : O2 = O := by rw [hot, if_neg (by rw [Bool.and_eq_true, hca]; omega)]
          have HOO := Lib.hid ho
          clear hot hca hom ho
          go_wp2
          go_roundw
          case rel =>
            refine ⟨i + 1, by omega, by go_num, ?_, ?_, HK⟩
            · rw [HO.out.2, HOO.out, HO.out.1]
            · rw [HO.out.2, HOO.out]; exact HR
          case measure => simp [intOf]; omega
      · obtain rfl : len = i := by omega
        have etk : ls.take len = ls := List.take_of_length_le (by have := HL.out; omega)
        rw [etk] at HR ⊢
        have hfew := Gp.oth_few g0 (by rw [HG0.out.1, HG0.out.2.1]; exact hkn) ls (-1)
        rw [HG0.out.2.1] at hfew
        obtain ⟨O, hO⟩ : ∃ O, Gp.oth g0 ls (-1) = O := ⟨_, rfl⟩
        rw [hO] at hfew HR ⊢
        obtain ⟨wl, hwl⟩ : ∃ m, O.length = m := ⟨_, rfl⟩
        rw [hwl] at hfew ⊢
        have hOm : ∀ y ∈ O, 0 ≤ y ∧ y < (n : Int) := fun y hy => by
          rw [← hO] at hy
          obtain ⟨_, h1, h2, _⟩ := Gp.mem_oth2.1 hy
          rw [HG0.out.2.1] at h2
          exact ⟨h1, h2⟩
        have HO := Lib.hid (And.intro hO (And.intro hwl hOm))
        have HA3 : Hid (At wr F g ⟨k, n, n, s, []⟩) := Lib.hid (by rw [HHG.out]; exact CC.out.keeps HA2.out HK.out (fun j e h => HF2.out.2.1 (by have e' : j = sb := e; rw [← e']; exact h)))
        have HK3 : Hid (Keeps (fun _ => False) W wr) := Lib.hid (HK2.out.trans' HK.out (fun j hj e => by have := HF2.out.2.2; have e' : j = sb := e; omega))
        have HR3 := Lib.hid HR.out
        have hw20 : wl ≤ 20 := by omega
        clear etk hO hwl hOm HA2 HK2 HK HR
        go_wp2_with fail
        obtain ⟨w0, hw0⟩ : ∃ V, V = wr := ⟨_, rfl⟩
        subst hw0
        go_loopw [17, 18, 19] (fun tv _ _ wr => ∃ (t : Nat) (F : Nat → Prop) (s : BitVec 64), t ≤ 3 ∧ tv = .int .i64 (t : Int) ∧ Hid (At wr F g ⟨k, n, n, s, []⟩) ∧ Hid (Row wr sb 4 (tn n O)) ∧ Hid ((∀ b, F b → W.heap.size ≤ b) ∧ ¬ F sb ∧ W.heap.size ≤ sb) ∧ Hid (Keeps (fun _ => False) W wr)) (fun tv _ _ _ => 3 - (intOf tv).toNat)
        case atStart => exact ⟨0, F, s, by omega, rfl, HA3, HR3, HF2, HK3⟩
        case round =>
          clear HA3 HR3 HF2 HK3
          obtain ⟨t, F, s, ht, rfl, HA, HR, HF, HK⟩ := hrel
          by_cases ht3 : t < 3
          · have hti : (t : Int) < 3 := by omega
            have hS1 := HS.out.keeps HK.out (fun _ _ _ => id)
            have hrd := CC.out.round A len c ls HA.out hS1 HL.out HC.out.1 HC.out.2.1 HC.out.2.2 (fun ad e hp h => by have h1 := src_lt HS.out HL.out ad e hp; have h2 := HF.out.1 _ h; omega) (by omega)
            have hrl : (Gp.round ⟨k, n, n, s, []⟩ ls).2.length = wl := by
              rw [Gp.round_length, Gp.oth_same _ g0 HG0.out.1.symm HG0.out.2.1.symm, HO.out.1, HO.out.2.1]
              show min n wl = wl
              omega
            have hrm : ∀ y ∈ (Gp.round ⟨k, n, n, s, []⟩ ls).2, y ∈ O := fun y hy => by
              have h := Gp.round_mem hy
              rw [Gp.oth_same _ g0 HG0.out.1.symm HG0.out.2.1.symm, HO.out.1] at h
              exact h
            obtain ⟨s2, hs2⟩ : ∃ s2, (Gp.round ⟨k, n, n, s, []⟩ ls).1 = ⟨k, n, n, s2, []⟩ := ⟨_, rfl⟩
            obtain ⟨os, hos⟩ : ∃ os, (Gp.round ⟨k, n, n, s, []⟩ ls).2 = os := ⟨_, rfl⟩
            rw [hs2, hos] at hrd
            rw [hos] at hrl hrm
            rw [hrl] at hrd
            have HRD := Lib.hid hrd
            have HOS := Lib.hid (And.intro hrl hrm)
            clear hS1 hrd hrl hrm hs2 hos
            go_wp2_with fail
            refine HRD.out.mono ?_
            rintro e w4 ⟨F4, A4, c4, rfl, a4, o4, hF4, hA4, k4⟩
            have HA4 := Lib.hid a4
            have HO4 := Lib.hid (Src.of_own o4)
            have HR4 := Lib.hid (HR.out.keeps k4 HF.out.2.1)
            have HF4 : Hid ((∀ b, F4 b → W.heap.size ≤ b) ∧ ¬ F4 sb ∧ W.heap.size ≤ sb) := Lib.hid ⟨fun b h => by rcases hF4 b h with h | h; exact HF.out.1 b h; exact Nat.le_trans HK.out.size h, fun h => by rcases hF4 _ h with h | h; exact HF.out.2.1 h; have := HR.out.lt; omega, HF.out.2.2⟩
            have HK4 : Hid (Keeps (fun _ => False) W w4) := Lib.hid (HK.out.trans' k4 (fun j hj e => by have := HF.out.1 j e; omega))
            have hne : ((wl : Int) != (wl : Int)) = false := by simp
            clear a4 o4 hF4 hA4 k4 HRD
            go_wp2_with fail
            go_loopw [19] (fun qv wr => ∃ q : Nat, q ≤ wl ∧ qv = .int .i64 (q : Int) ∧ Hid (Keeps (fun _ => False) w4 wr)) (fun qv _ => wl - (intOf qv).toNat)
            case atStart => exact ⟨0, by omega, rfl, Lib.hid (Keeps.refl _ _)⟩
            case round =>
              obtain ⟨q, hq, rfl, KQ⟩ := hrel
              by_cases hqt : q < wl
              · have hqi : (q : Int) < (wl : Int) := by omega
                obtain ⟨y, hy⟩ : ∃ y, os[q]? = some y := ⟨_, List.getElem?_eq_getElem (by have := HOS.out.1; omega)⟩
                have hyO := HOS.out.2 y (List.mem_of_getElem? hy)
                obtain ⟨hy0, hyn⟩ := HO.out.2.2 y hyO
                obtain ⟨p, rfl⟩ : ∃ p : Nat, y = (p : Int) := ⟨y.toNat, by omega⟩
                obtain ⟨ad, rfl, hyc⟩ := src_at21 (HO4.out.keeps KQ.out (fun _ _ _ => id)) hy
                have hpn : p < n := by omega
                have hsr : wr.cell? ⟨sb, p, none⟩ = some (.bool true) := by rw [(HR4.out.keeps KQ.out id).cell p, tn_at n O hpn, decide_eq_true hyO]
                clear hy hyO
                go_wp2
                go_roundw
                case rel => exact ⟨q + 1, by omega, by go_num, KQ⟩
                case measure => simp [intOf]; omega
              · obtain rfl : wl = q := by omega
                have HA5 := Lib.hid (CC.out.keeps HA4.out KQ.out (fun _ h => h.elim))
                have HR5 := Lib.hid (HR4.out.keeps KQ.out id)
                have HK5 := Lib.hid (HK4.out.trans KQ.out)
                go_wp2
                go_roundw
                case rel => exact ⟨t + 1, F4, s2, by omega, by go_num, HA5, HR5, HF4, HK5⟩
                case measure => simp [intOf]; omega
          · obtain rfl : 3 = t := by omega
            go_wp2
            go_ret
            exact ⟨rfl, HK.out.below (Nat.le_refl _) (fun _ _ => id)⟩
theorem rounds_all (C : Goss At) (AW : Awake21) (a0 a1 a2 : Int) (A : Option Addr) (n c : Nat) (zs : List Int) (W : World) (w0 : (Lit.int .u8 a0).wf = true) (w1 : (Lit.int .u8 a1).wf = true) (w2 : (Lit.int .u64 a2).wf = true) (h : IsRowU .i64 W A n c zs) :
    Calls Try.prog 5 #[.int .u8 a0, .int .u8 a1, .int .u64 a2, .slice A n c] W fun e w' => e = .returned (.bool true) ∧ Below W.heap.size W w' := by
  obtain ⟨x, rfl, hx⟩ := byte_of21 w0
  obtain ⟨y, rfl, hy⟩ := byte_of21 w1
  obtain ⟨s, rfl⟩ := di_of a2 w2
  obtain ⟨l, h1, h2, _, h3, h4⟩ := h.ints
  exact rounds_walk C AW x y hx hy s A n c l W h1 h2 h3 h4 (row_nil h)
end Go.Proofs.Ytmhbfchhooggjaa
