/-
  The landed gossip keeps the contracts: Round, Flood; goss_ok.
-/
import Derived.Test.YtmhbfchhooggjaaGsB
namespace Go.Proofs.Ytmhbfchhooggjaa
open Go.RowKit Go.BigFrame
set_option linter.unusedVariables false
set_option linter.unusedSimpArgs false

theorem oth_me (t : Gp.G) (l : List Int) : Gp.oth t l (t.me : Int) = Gp.oth t l (-1) := by
  unfold Gp.oth
  congr 1
  funext x
  unfold Gp.can
  by_cases h0 : 0 ≤ x
  · have h1 : decide (x = -1) = false := decide_eq_false (by omega)
    rw [h1]
    by_cases h2 : x = (t.me : Int)
    · simp [h2]
    · simp [h2]
  · simp [h0]
theorem own_nilcap {w : World} {base size n c : Nat} {e : TypeId} {A : Option Addr} {xs : List Value} (h : w.ownsRow base e size (.slice A n c) n xs) (hA : A = none) : c = 0 := by
  rcases h.2 with ⟨h1, _⟩ | ⟨g, cap, cur, h1, _⟩
  · injection h1
  · injection h1 with h1
    rw [hA] at h1
    cases h1
structure LaterK (d : Nat) (w V : World) : Prop where
  out : Keeps (fun k => k = d) w V
theorem LaterK.lasts (d : Nat) (w0 : World) : Lasts (LaterK d w0) := fun w w' h hk => ⟨h.out.trans' hk (fun _ _ h => h.elim)⟩
theorem dice_lastsG (d : Nat) (s : BitVec 64) : Lasts (fun V => DiceAt V d s) := fun w w' h hk => Row.keeps h hk id
set_option maxRecDepth 100000 in
set_option maxHeartbeats 1000000 in
theorem ground_any {w : World} {F : Nat → Prop} {g : Nat} {t : Gp.G} (A : Option Addr) (n c : Nat) (l : List Int) (h : GsAt w F g t) (hS : Src w A (ivs l)) (hl : l.length = n) (hnc : n ≤ c) (hcx : c ≤ 9223372036854775807) (hA : A = none → c = 0) (hF : ∀ ad, A = some ad → 0 < n → ¬ F ad.block) (hn : n ≤ 1000) :
    Calls Try.prog 10 #[.pointer (some ⟨g, 0, none⟩), .slice A n c] w fun e w' => ∃ F' A' c', e = .returned (.slice A' (Gp.round t l).2.length c') ∧ GsAt w' F' g (Gp.round t l).1 ∧ w'.ownsRow w.heap.size 3 1 (.slice A' (Gp.round t l).2.length c') (Gp.round t l).2.length (ivs (Gp.round t l).2) ∧
      (∀ b, F' b → F b ∨ w.heap.size ≤ b) ∧ (∀ ad, A' = some ad → ¬ F' ad.block) ∧ Keeps F w w' := by
  obtain ⟨d, m, h⟩ := h
  obtain ⟨mi, hmi⟩ : ∃ x, (t.me : Int) = x := ⟨_, rfl⟩
  obtain ⟨fan, hfan⟩ : ∃ x, (t.fan : Int) = x := ⟨_, rfl⟩
  obtain ⟨s0, hs0⟩ : ∃ x, t.s = x := ⟨_, rfl⟩
  obtain ⟨B, hB⟩ : ∃ x, w.heap.size = x := ⟨_, rfl⟩
  obtain ⟨os, hos⟩ : ∃ os, Gp.oth t l (-1) = os := ⟨_, rfl⟩
  have hol := Gp.oth_le t l (-1)
  have hr1 : (Gp.round t l).1 = { t with s := (Di.pick s0 os fan).s } := by unfold Gp.round; rw [hos, hs0, hfan]
  have hr2 : (Gp.round t l).2 = (Di.pick s0 os fan).out := by unfold Gp.round; rw [hos, hs0, hfan]
  obtain ⟨ps, hps⟩ : ∃ ps, (Di.pick s0 os fan).out = ps := ⟨_, rfl⟩
  obtain ⟨s1, hs1⟩ : ∃ ps, (Di.pick s0 os fan).s = ps := ⟨_, rfl⟩
  rw [hr1, hr2, hps, hs1]
  have hfw : (Lit.int .i64 fan).wf = true := by
    have h1 := h.ok.inn
    unfold Gp.In at h1
    simp [Lit.wf, IntKind.min, IntKind.max, IntKind.signed, IntKind.bits]
    omega
  have hpk := fun V A' c' (hD : DiceAt V d s0) (hV : Src V A' (ivs os)) (h0 : A' = none → c' = 0) => pick_any V d s0 A' c' os fan hD hV h0 (by rw [← hos]; omega) hfw
  obtain ⟨mo, hmo⟩ : ∃ n, os.length = n := ⟨_, rfl⟩
  obtain ⟨mp, hmp⟩ : ∃ n, ps.length = n := ⟨_, rfl⟩
  rw [hps, hs1, hmo, hmp] at hpk
  rw [hmp]
  have hgt : ∀ V, LaterK d w V → DiceAt V d s0 → GsT V F g d m t := fun V hV hD =>
    ⟨h.row.keeps hV.out h.ne.symm, by rw [hs0]; exact hD, h.map.keeps hV.out h.md, h.ne, h.own, h.ok⟩
  have hsr : ∀ V, LaterK d w V → Src V A (ivs l) := fun V hV => by
    by_cases hz : 0 < n
    · exact hS.keeps hV.out (fun ad e _ e2 => hF ad e hz ((h.own _).2 (.inr (.inl e2))))
    · obtain rfl : l = [] := List.eq_nil_of_length_eq_zero (by omega)
      exact fun j u hu => by cases hu
  have HOT : Hid (∀ V, LaterK d w V → DiceAt V d s0 → Calls Try.prog 20 #[.pointer (some ⟨g, 0, none⟩), .slice A n c, .int .i64 mi] V fun e w' => ∃ x : Option Addr × Nat, e = .returned (.slice x.1 mo x.2) ∧ LaterK d w w' ∧ (DiceAt w' d s0 ∧ w'.ownsRow B 3 1 (.slice x.1 mo x.2) mo (ivs os))) := Lib.hid (fun V hV hD => by
    rw [← hmi]
    refine (gothers_any (hgt V hV hD) A n c l (t.me : Int) (hsr V hV) hl hn hnc hcx hA).mono ?_
    rintro e w' ⟨A', c', rfl, ho, hk⟩
    rw [oth_me, hos, hmo] at ho
    rw [oth_me, hos, hmo]
    exact ⟨(A', c'), rfl, ⟨hV.out.trans' hk (fun _ _ h => h.elim)⟩, Row.keeps hD hk id, own_base ho (by have := hV.out.size; omega)⟩)
  have HPK : Hid (∀ V A' c', LaterK d w V → DiceAt V d s0 → V.ownsRow B 3 1 (.slice A' mo c') mo (ivs os) → Calls Try.prog 19 #[.pointer (some ⟨d, 0, none⟩), .slice A' mo c', .int .i64 fan] V fun e w' => ∃ x : Option Addr × Nat, e = .returned (.slice x.1 mp x.2) ∧ LaterK d w w' ∧ (DiceAt w' d s1 ∧ w'.ownsRow B 3 1 (.slice x.1 mp x.2) mp (ivs ps))) := Lib.hid (fun V A' c' hV hD ho => by
    refine (hpk V A' c' hD (Src.of_own ho) (own_nilcap ho)).mono ?_
    rintro e w' ⟨v, rfl, hd, ho2, hk⟩
    obtain ⟨A3, c3, rfl⟩ := own_slice ho2
    exact ⟨(A3, c3), rfl, ⟨hV.out.trans hk⟩, hd, own_base ho2 (by have := hV.out.size; omega)⟩)
  have HC0 : Hid (∀ V, LaterK d w V → V.cell? ⟨g, 0, none⟩ = some (.int .i64 mi)) := Lib.hid (fun V hV => by rw [← hmi]; exact (h.row.keeps hV.out h.ne.symm).cell 0)
  have HC2 : Hid (∀ V, LaterK d w V → V.cell? ⟨g, 2, none⟩ = some (.int .i64 fan)) := Lib.hid (fun V hV => by rw [← hfan]; exact (h.row.keeps hV.out h.ne.symm).cell 2)
  have HC3 : Hid (∀ V, LaterK d w V → V.cell? ⟨g, 3, none⟩ = some (.pointer (some ⟨d, 0, none⟩))) := Lib.hid (fun V hV => (h.row.keeps hV.out h.ne.symm).cell 3)
  have HDI : Hid (DiceAt w d s0) := Lib.hid (by rw [← hs0]; exact h.dice)
  have HGT : Hid (GsT w F g d m t ∧ w.heap.size = B) := Lib.hid ⟨h, hB⟩
  clear h hmi hfan hs0 hB hos hol hr1 hr2 hps hs1 hpk hmo hmp hgt hsr hS hF
  go_enter Try.func10, Try.ntmps10
  go_wp2_with fail
  refine wp_region_stores 17 [10, 15] [0, 1, 2, 3, 4, 5, 6, 7, 8, 9, 11, 12, 13, 14, 10, 15, 16] (LaterK d w) (fun V => DiceAt V d s0) (by kernel_rfl) (by kernel_rfl) (LaterK.lasts d w) (dice_lastsG d s0) (⟨(Keeps.refl _ _).drew⟩) (HDI.out) ?_
  refine T_value (get_op rfl) (by rfl) (by rfl) (.pointer (some ⟨g, 0, none⟩)) (fun _ _ => by go_simp) ?_
  simp only [Act.put, List.setIfInBounds_toArray, List.set_cons_zero, List.set_cons_succ]
  refine T_value (get_op rfl) (by rfl) (by rfl) (.pointer (some ⟨g, 0, none⟩)) (fun _ _ => by go_simp) ?_
  simp only [Act.put, List.setIfInBounds_toArray, List.set_cons_zero, List.set_cons_succ]
  refine T_value (get_op rfl) (by rfl) (by rfl) (.pointer (some ⟨g, 3, none⟩)) (fun _ _ => by go_simp) ?_
  simp only [Act.put, List.setIfInBounds_toArray, List.set_cons_zero, List.set_cons_succ]
  refine T_cell (get_op rfl) (by rfl) (by rfl) 54 (.tmp 9) (by rfl) ⟨g, 3, none⟩ (by rfl) (.pointer (some ⟨d, 0, none⟩)) _ (fun V hV => HC3.out V hV) Try.underlying54 rfl ?_
  simp only [Act.put, List.setIfInBounds_toArray, List.set_cons_zero, List.set_cons_succ]
  refine T_value (get_op rfl) (by rfl) (by rfl) (.pointer (some ⟨g, 0, none⟩)) (fun _ _ => by go_simp) ?_
  simp only [Act.put, List.setIfInBounds_toArray, List.set_cons_zero, List.set_cons_succ]
  refine T_value (get_op rfl) (by rfl) (by rfl) (.slice A n c) (fun _ _ => by go_simp) ?_
  simp only [Act.put, List.setIfInBounds_toArray, List.set_cons_zero, List.set_cons_succ]
  refine T_value (get_op rfl) (by rfl) (by rfl) (.pointer (some ⟨g, 0, none⟩)) (fun _ _ => by go_simp) ?_
  simp only [Act.put, List.setIfInBounds_toArray, List.set_cons_zero, List.set_cons_succ]
  refine T_value (get_op rfl) (by rfl) (by rfl) (.pointer (some ⟨g, 0, none⟩)) (fun _ _ => by go_simp) ?_
  simp only [Act.put, List.setIfInBounds_toArray, List.set_cons_zero, List.set_cons_succ]
  refine T_value (get_op rfl) (by rfl) (by rfl) (.pointer (some ⟨g, 0, none⟩)) (fun _ _ => by go_simp) ?_
  simp only [Act.put, List.setIfInBounds_toArray, List.set_cons_zero, List.set_cons_succ]
  refine T_cell (get_op rfl) (by rfl) (by rfl) 3 (.tmp 15) (by rfl) ⟨g, 0, none⟩ (by rfl) (.int .i64 mi) _ (fun V hV => HC0.out V hV) Try.underlying3 rfl ?_
  simp only [Act.put, List.setIfInBounds_toArray, List.set_cons_zero, List.set_cons_succ]
  refine T_value (get_op rfl) (by rfl) (by rfl) (.pointer (some ⟨g, 0, none⟩)) (fun _ _ => by go_simp) ?_
  simp only [Act.put, List.setIfInBounds_toArray, List.set_cons_zero, List.set_cons_succ]
  refine T_value (get_op rfl) (by rfl) (by rfl) (.pointer (some ⟨g, 0, none⟩)) (fun _ _ => by go_simp) ?_
  simp only [Act.put, List.setIfInBounds_toArray, List.set_cons_zero, List.set_cons_succ]
  refine T_value (get_op rfl) (by rfl) (by rfl) (.pointer (some ⟨g, 2, none⟩)) (fun _ _ => by go_simp) ?_
  simp only [Act.put, List.setIfInBounds_toArray, List.set_cons_zero, List.set_cons_succ]
  refine T_cell (get_op rfl) (by rfl) (by rfl) 3 (.tmp 20) (by rfl) ⟨g, 2, none⟩ (by rfl) (.int .i64 fan) _ (fun V hV => HC2.out V hV) Try.underlying3 rfl ?_
  simp only [Act.put, List.setIfInBounds_toArray, List.set_cons_zero, List.set_cons_succ]
  refine T_enterR (get_op rfl) (by rfl) (by rfl) _ _ (fun x : Option Addr × Nat => Value.slice x.1 mo x.2) (fun x y h => isl21 x y mo h) (fun _ => by go_simp) (fun x V => DiceAt V d s0 ∧ V.ownsRow B 3 1 (.slice x.1 mo x.2) mo (ivs os)) (fun x => (dice_lastsG d s0).and (fun V V' h k => k.owns h (fun _ _ => id))) (fun V hV hf => HOT.out V hV hf) ?_
  intro xo
  simp only [Act.put, List.setIfInBounds_toArray, List.set_cons_zero, List.set_cons_succ]
  refine T_enterR (get_op rfl) (by rfl) (by rfl) _ _ (fun x : Option Addr × Nat => Value.slice x.1 mp x.2) (fun x y h => isl21 x y mp h) (fun _ => by go_simp) (fun x V => DiceAt V d s1 ∧ V.ownsRow B 3 1 (.slice x.1 mp x.2) mp (ivs ps)) (fun x => (dice_lastsG d s1).and (fun V V' h k => k.owns h (fun _ _ => id))) (fun V hV hf => HPK.out V xo.1 xo.2 hV hf.1 hf.2) ?_
  intro xp
  simp only [Act.put, List.setIfInBounds_toArray, List.set_cons_zero, List.set_cons_succ]
  refine T_value (get_op rfl) (by rfl) (by rfl) (.slice xp.1 mp xp.2) (fun _ _ => by go_simp) ?_
  simp only [Act.put, List.setIfInBounds_toArray, List.set_cons_zero, List.set_cons_succ]
  refine T_nil ?_
  intro V hV hf
  have h := HGT.out.1
  have FIN : Hid (GsAt V F g { t with s := s1 } ∧ V.ownsRow w.heap.size 3 1 (.slice xp.1 mp xp.2) mp (ivs ps) ∧ (∀ ad, xp.1 = some ad → ¬ F ad.block) ∧ Keeps F w V) := Lib.hid (by
    refine ⟨⟨d, m, h.row.keeps hV.out h.ne.symm, hf.1, h.map.keeps hV.out h.md, h.ne, h.own, ⟨h.ok.inn, h.ok.told⟩⟩, by rw [HGT.out.2]; exact hf.2, fun ad e hFa => ?_, hV.out.mono (fun k _ e => (h.own k).2 (.inr (.inl e)))⟩
    have h1 := h.lt _ hFa
    obtain ⟨_, _, h2⟩ := own_block hf.2 ad.block (by rw [e]; rfl)
    have := HGT.out.2
    omega)
  clear hV hf h
  simp only [List.drop_succ_cons, List.drop_zero]
  go_wp2
  go_ret
  exact ⟨F, xp.1, xp.2, rfl, FIN.out.1, FIN.out.2.1, fun b hb => .inl hb, FIN.out.2.2⟩
end Go.Proofs.Ytmhbfchhooggjaa
