/-
  The document's own: New, and the others of a row.
-/
import Derived.Test.YtmhbfchhooggjaaGoM
import Derived.Test.YtmhbfchhooggjaaDiRb
import Derived.Test.YtmhbfchhooggjaaLisA
namespace Go.Proofs.Ytmhbfchhooggjaa
open Go.RowKit Go.BigFrame
set_option linter.unusedVariables false
set_option linter.unusedSimpArgs false

/-- The cells of the document's own. -/
def gcs (g : Gp.G) (T : Value) : List Value := [.int .i64 (g.me : Int), .int .i64 (g.many : Int), .int .i64 (g.fan : Int), .int .u64 (di g.s), T]
theorem own_grow21 {w w' : World} {B size n : Nat} {e : TypeId} {v : Value} {xs : List Value} (ho : w.ownsRow B e size v n xs) (hg : w.grownBy w' v.ownBlock) : Keeps (fun j => B ≤ j) w w' :=
  (Keeps.refl _ _).grown hg (fun k _ h => by obtain ⟨_, _, hb⟩ := own_block ho k h; exact hb)
theorem wpList_build1_21 {P : Program} {ops : Array Oper} {rest : List Oper} {o : Oper} {a : Act} {w w' : World} {Q : Exit → Act → World → Prop} (hgd : o.guard = none) (t : TypeId) (n m : Nat) (x : Operand) (ho : o.op = .buildSlice t n #[(m, x)])
    (u v : Value) (hx : a.eval x = u) (hrun : (Instr.buildSlice t n #[(m, u)]).run P w = .ok v w') (h : wpList P ops Q rest (a.put o.dst v) w') : wpList P ops Q (o :: rest) a w := by
  refine wpList_plain hgd fun _ hK => ?_
  unfold Oper.wp execOp
  simp only [ho, Sem.run_bind, Sem.run_pure, Result.andThen_ok, List.map_toArray, List.map_cons, List.map_nil, hx, hrun]
  exact hK _ _ h
theorem src_at21 {w : World} {A : Option Addr} {l : List Int} (h : Src w A (ivs l)) {i : Nat} {x : Int} (hx : l[i]? = some x) : ∃ ad, A = some ad ∧ w.cell? (ad.add i) = some (.int .i64 x) :=
  h i (.int .i64 x) (by rw [ivs_get, hx]; rfl)
set_option maxRecDepth 100000 in
set_option maxHeartbeats 4000000 in
theorem rothers_any (w : World) (g : Gp.G) (T : Value) (A : Option Addr) (c : Nat) (l : List Int) (but : Int) (hT : T.oneCell' = true) (hS : Src w A (ivs l)) (hlc : l.length ≤ c) (hcx : c ≤ 9223372036854775807) (hn : l.length ≤ 1000) (hg : g.many ≤ 64 ∧ g.me ≤ 64) :
    Calls Try.prog 22 #[.agg (gcs g T).toArray, .slice A l.length c, .int .i64 but] w fun e w' => ∃ (A' : Option Addr) (c' : Nat), e = .returned (.slice A' (Gp.oth g l but).length c') ∧ w'.ownsRow w.heap.size 3 1 (.slice A' (Gp.oth g l but).length c') (Gp.oth g l but).length (ivs (Gp.oth g l but)) ∧ Keeps (fun _ => False) w w' := by
  obtain ⟨n, hnn⟩ : ∃ n, l.length = n := ⟨_, rfl⟩
  obtain ⟨C, hC⟩ : ∃ C, (gcs g T).toArray = C := ⟨_, rfl⟩
  obtain ⟨b1, hb1⟩ : ∃ x, w.heap.size = x := ⟨_, rfl⟩
  obtain ⟨W1, hW1⟩ : ∃ V, w.alloc (.cells C 31) = V := ⟨_, rfl⟩
  have k1 : Keeps (fun _ => False) w W1 := by rw [← hW1]; exact (Keeps.refl _ _).alloc _
  have r1 : Row W1 b1 31 (gcs g T) := by rw [← hW1, ← hb1, ← hC]; exact heap_alloc_new w _
  obtain ⟨mn, hmn⟩ : ∃ m, g.many = m := ⟨_, rfl⟩
  obtain ⟨me, hme⟩ : ∃ m, g.me = m := ⟨_, rfl⟩
  have hcan : ∀ x : Int, Gp.can g but x = (decide (0 ≤ x) && (decide (x < (mn : Int)) && (!decide (x = (me : Int)) && !decide (x = but)))) := fun x => by unfold Gp.can; rw [hmn, hme]
  have hc0 : ∀ V, Keeps (fun _ => False) W1 V → V.cell? ⟨b1, 0, none⟩ = some (.int .i64 (me : Int)) := fun V hV => by rw [← hme]; exact (r1.keeps hV id).cell 0
  have hc1 : ∀ V, Keeps (fun _ => False) W1 V → V.cell? ⟨b1, 1, none⟩ = some (.int .i64 (mn : Int)) := fun V hV => by rw [← hmn]; exact (r1.keeps hV id).cell 1
  obtain ⟨ih, zh, hih, hzh, hsh, hbh, hzsh⟩ := info_in
  have HII := Lib.hid (And.intro hih (And.intro hzh (And.intro hsh (And.intro hbh hzsh))))
  have HS := Lib.hid (hS.keeps k1 (fun _ _ _ => id))
  have HC := Lib.hid (And.intro hc0 hc1)
  have HCAN := Lib.hid hcan
  have HN := Lib.hid hnn
  have HB : Hid (w.heap.size = b1 ∧ W1.heap.size = b1 + 1) := Lib.hid ⟨hb1, by rw [← hW1, ← hb1]; simp⟩
  have K1 := Lib.hid k1
  rw [hnn] at hn hlc ⊢
  rw [hC, hb1]
  clear hnn hC r1 k1 hmn hme hcan hc0 hc1 hih hzh hsh hbh hzsh hS hg
  go_enter Try.func22, Try.ntmps22
  go_wp2_with fail
  clear hb1 hW1
  go_loopw [7, 8] (fun ov iv wr => ∃ (i q : Nat) (o : List Int) (A3 : Option Addr) (c3 : Nat), i ≤ n ∧ ov = .slice A3 q c3 ∧ iv = .int .i64 (i : Int) ∧ Hid (Gp.oth g (l.take i) but = o) ∧ Hid (q = o.length ∧ q ≤ i) ∧ Hid (wr.ownsRow (b1 + 1) 3 1 (.slice A3 q c3) q (ivs o)) ∧ Hid (Keeps (fun _ => False) W1 wr)) (fun _ iv _ => n - (intOf iv).toNat)
  case atStart => exact ⟨0, 0, [], none, 0, by omega, rfl, rfl, Lib.hid rfl, Lib.hid ⟨rfl, by omega⟩, Lib.hid (World.ownsRow_nil _ _ _ _), Lib.hid (Keeps.refl _ _)⟩
  case round =>
    obtain ⟨i, q, o, A3, c3, hi, rfl, rfl, HP, HM, HO, HK⟩ := hrel
    obtain ⟨w0, hw0⟩ : ∃ V, V = wr := ⟨_, rfl⟩
    subst hw0
    by_cases hlt : i < n
    · have hii : (i : Int) < (n : Int) := by omega
      obtain ⟨x, hx⟩ : ∃ x, l[i]? = some x := ⟨_, List.getElem?_eq_getElem (by have := HN.out; omega)⟩
      obtain ⟨ad, rfl, hxc⟩ := src_at21 HS.out hx
      have htk : l.take (i + 1) = l.take i ++ [x] := by
        obtain ⟨h1, h2⟩ := List.getElem?_eq_some_iff.1 hx
        rw [List.take_succ_eq_append_getElem h1, h2]
      have HST := Lib.hid (Gp.oth_snoc g (l.take i) but x)
      rw [← htk, HP.out] at HST
      have HXC : Hid (∀ V, Later w0 V → V.cell? (ad.add i) = some (.int .i64 x)) := Lib.hid (fun V hV => ((HK.out.trans hV.out).cell (World.block_lt_of_cell? _ _ hxc) id).trans hxc)
      have HC0 : Hid (∀ V, Later w0 V → V.cell? ⟨b1, 0, none⟩ = some (.int .i64 (me : Int))) := Lib.hid (fun V hV => HC.out.1 V (HK.out.trans hV.out))
      have HC1 : Hid (∀ V, Later w0 V → V.cell? ⟨b1, 1, none⟩ = some (.int .i64 (mn : Int))) := Lib.hid (fun V hV => HC.out.2 V (HK.out.trans hV.out))
      have hcx := HCAN.out x
      clear hx hxc htk
      by_cases hp0 : 0 ≤ x
      rotate_left
      · have HN1 : Hid (Gp.oth g (l.take (i + 1)) but = o) := Lib.hid (by rw [HST.out, if_neg]; rw [hcx]; intro h; simp only [Bool.and_eq_true, decide_eq_true_eq, Bool.not_eq_true', decide_eq_false_iff_not] at h; exact hp0 h.1.1)
        go_wp2_with fail
        refine wp_region_class (Later w0) (by kernel_rfl) (by kernel_rfl) (⟨(Keeps.refl _ _).drew⟩) ?_
        refine class_value (by rfl) (.slice (some ad) n c) (fun V hV => by go_simp) ?_
        simp only [Act.put, List.setIfInBounds_toArray, List.set_cons_zero, List.set_cons_succ]
        refine class_value (by rfl) (.int .i64 (i : Int)) (fun V hV => by go_simp) ?_
        simp only [Act.put, List.setIfInBounds_toArray, List.set_cons_zero, List.set_cons_succ]
        refine class_value (by rfl) (.pointer (some (ad.add i))) (fun V hV => by go_simp) ?_
        simp only [Act.put, List.setIfInBounds_toArray, List.set_cons_zero, List.set_cons_succ]
        refine class_cell (by rfl) 3 (.tmp 19) (by rfl) (ad.add i) (by rfl) (.int .i64 x) _ (fun V hV => HXC.out V hV) Try.underlying3 rfl ?_
        simp only [Act.put, List.setIfInBounds_toArray, List.set_cons_zero, List.set_cons_succ]
        refine class_value (by rfl) (.bool false) (fun V hV => by go_simp) ?_
        simp only [Act.put, List.setIfInBounds_toArray, List.set_cons_zero, List.set_cons_succ]
        refine class_value (by rfl) (.bool false) (fun V hV => by go_simp) ?_
        simp only [Act.put, List.setIfInBounds_toArray, List.set_cons_zero, List.set_cons_succ]
        go_big_quiet_skip
        go_big_quiet_skip
        go_big_quiet_skip
        go_big_quiet_skip
        go_big_quiet_skip
        go_big_quiet_skip
        go_big_quiet_skip
        refine class_value (by rfl) (.bool false) (fun V hV => by go_simp) ?_
        simp only [Act.put, List.setIfInBounds_toArray, List.set_cons_zero, List.set_cons_succ]
        refine class_value (by rfl) (.bool false) (fun V hV => by go_simp) ?_
        simp only [Act.put, List.setIfInBounds_toArray, List.set_cons_zero, List.set_cons_succ]
        go_big_quiet_skip
        go_big_quiet_skip
        go_big_quiet_skip
        go_big_quiet_skip
        go_big_quiet_skip
        go_big_quiet_skip
        go_big_quiet_skip
        refine class_value (by rfl) (.bool false) (fun V hV => by go_simp) ?_
        simp only [Act.put, List.setIfInBounds_toArray, List.set_cons_zero, List.set_cons_succ]
        refine class_value (by rfl) (.bool false) (fun V hV => by go_simp) ?_
        simp only [Act.put, List.setIfInBounds_toArray, List.set_cons_zero, List.set_cons_succ]
        go_big_quiet_skip
        go_big_quiet_skip
        go_big_quiet_skip
        go_big_quiet_skip
        go_big_quiet_skip
        go_big_quiet_skip
        refine class_value (by rfl) (.bool false) (fun V hV => by go_simp) ?_
        simp only [Act.put, List.setIfInBounds_toArray, List.set_cons_zero, List.set_cons_succ]
        refine class_value (by rfl) (.bool false) (fun V hV => by go_simp) ?_
        simp only [Act.put, List.setIfInBounds_toArray, List.set_cons_zero, List.set_cons_succ]
        refine wpQuiet_nil ?_
        intro V6 k6
        have K6 := Lib.hid k6.out
        clear k6 HXC HC0 HC1 hcx HST
        go_wp2_with fail
        go_loopw [9, 10] (fun bv kv wr => ∃ k : Nat, k ≤ i ∧ bv = .bool false ∧ kv = .int .i64 (k : Int) ∧ Hid (Keeps (fun _ => False) w0 wr)) (fun _ kv _ => i - (intOf kv).toNat)
        case atStart => exact ⟨0, by omega, rfl, rfl, K6⟩
        case round =>
          obtain ⟨k, hk, rfl, rfl, KK⟩ := hrel
          by_cases hkt : k < i
          · have hki : (k : Int) < (i : Int) := by omega
            go_wp2_with fail
            refine wp_region_class (Later wr) (by kernel_rfl) (by kernel_rfl) (⟨(Keeps.refl _ _).drew⟩) ?_
            refine class_value (by rfl) (.bool false) (fun V hV => by go_simp) ?_
            simp only [Act.put, List.setIfInBounds_toArray, List.set_cons_zero, List.set_cons_succ]
            refine class_value (by rfl) (.bool false) (fun V hV => by go_simp) ?_
            simp only [Act.put, List.setIfInBounds_toArray, List.set_cons_zero, List.set_cons_succ]
            go_big_quiet_skip
            go_big_quiet_skip
            go_big_quiet_skip
            go_big_quiet_skip
            go_big_quiet_skip
            go_big_quiet_skip
            go_big_quiet_skip
            go_big_quiet_skip
            go_big_quiet_skip
            refine class_value (by rfl) (.bool false) (fun V hV => by go_simp) ?_
            simp only [Act.put, List.setIfInBounds_toArray, List.set_cons_zero, List.set_cons_succ]
            refine class_value (by rfl) (.bool false) (fun V hV => by go_simp) ?_
            simp only [Act.put, List.setIfInBounds_toArray, List.set_cons_zero, List.set_cons_succ]
            refine wpQuiet_nil ?_
            intro V7 k7
            have K7 := Lib.hid (KK.out.trans k7.out)
            clear k7
            go_wp2
            go_roundw
            case rel => exact ⟨k + 1, by omega, rfl, by go_num, K7⟩
            case measure => simp [intOf]; omega
          · obtain rfl : k = i := by omega
            go_wp2
            go_roundw
            case rel => exact ⟨k + 1, q, o, A3, c3, by omega, rfl, by go_num, HN1, Lib.hid ⟨HM.out.1, by have := HM.out; omega⟩, Lib.hid (KK.out.owns HO.out (fun _ _ => id)), Lib.hid (HK.out.trans KK.out)⟩
            case measure => simp [intOf]; omega
      by_cases hp1 : x < (mn : Int)
      rotate_left
      · have HN1 : Hid (Gp.oth g (l.take (i + 1)) but = o) := Lib.hid (by rw [HST.out, if_neg]; rw [hcx]; intro h; simp only [Bool.and_eq_true, decide_eq_true_eq, Bool.not_eq_true', decide_eq_false_iff_not] at h; exact hp1 h.1.2.1)
        go_wp2_with fail
        refine wp_region_class (Later w0) (by kernel_rfl) (by kernel_rfl) (⟨(Keeps.refl _ _).drew⟩) ?_
        refine class_value (by rfl) (.slice (some ad) n c) (fun V hV => by go_simp) ?_
        simp only [Act.put, List.setIfInBounds_toArray, List.set_cons_zero, List.set_cons_succ]
        refine class_value (by rfl) (.int .i64 (i : Int)) (fun V hV => by go_simp) ?_
        simp only [Act.put, List.setIfInBounds_toArray, List.set_cons_zero, List.set_cons_succ]
        refine class_value (by rfl) (.pointer (some (ad.add i))) (fun V hV => by go_simp) ?_
        simp only [Act.put, List.setIfInBounds_toArray, List.set_cons_zero, List.set_cons_succ]
        refine class_cell (by rfl) 3 (.tmp 19) (by rfl) (ad.add i) (by rfl) (.int .i64 x) _ (fun V hV => HXC.out V hV) Try.underlying3 rfl ?_
        simp only [Act.put, List.setIfInBounds_toArray, List.set_cons_zero, List.set_cons_succ]
        refine class_value (by rfl) (.bool true) (fun V hV => by go_simp) ?_
        simp only [Act.put, List.setIfInBounds_toArray, List.set_cons_zero, List.set_cons_succ]
        refine class_value (by rfl) (.bool true) (fun V hV => by go_simp) ?_
        simp only [Act.put, List.setIfInBounds_toArray, List.set_cons_zero, List.set_cons_succ]
        refine class_value (by rfl) (.slice (some ad) n c) (fun V hV => by go_simp) ?_
        simp only [Act.put, List.setIfInBounds_toArray, List.set_cons_zero, List.set_cons_succ]
        refine class_value (by rfl) (.int .i64 (i : Int)) (fun V hV => by go_simp) ?_
        simp only [Act.put, List.setIfInBounds_toArray, List.set_cons_zero, List.set_cons_succ]
        refine class_value (by rfl) (.pointer (some (ad.add i))) (fun V hV => by go_simp) ?_
        simp only [Act.put, List.setIfInBounds_toArray, List.set_cons_zero, List.set_cons_succ]
        refine class_cell (by rfl) 3 (.tmp 25) (by rfl) (ad.add i) (by rfl) (.int .i64 x) _ (fun V hV => HXC.out V hV) Try.underlying3 rfl ?_
        simp only [Act.put, List.setIfInBounds_toArray, List.set_cons_zero, List.set_cons_succ]
        refine class_value (by rfl) (.pointer (some ⟨b1, 1, none⟩)) (fun V hV => by go_simp) ?_
        simp only [Act.put, List.setIfInBounds_toArray, List.set_cons_zero, List.set_cons_succ]
        refine class_cell (by rfl) 3 (.tmp 27) (by rfl) ⟨b1, 1, none⟩ (by rfl) (.int .i64 (mn : Int)) _ (fun V hV => HC1.out V hV) Try.underlying3 rfl ?_
        simp only [Act.put, List.setIfInBounds_toArray, List.set_cons_zero, List.set_cons_succ]
        refine class_value (by rfl) (.bool false) (fun V hV => by go_simp) ?_
        simp only [Act.put, List.setIfInBounds_toArray, List.set_cons_zero, List.set_cons_succ]
        refine class_value (by rfl) (.bool false) (fun V hV => by go_simp) ?_
        simp only [Act.put, List.setIfInBounds_toArray, List.set_cons_zero, List.set_cons_succ]
        refine class_value (by rfl) (.bool false) (fun V hV => by go_simp) ?_
        simp only [Act.put, List.setIfInBounds_toArray, List.set_cons_zero, List.set_cons_succ]
        go_big_quiet_skip
        go_big_quiet_skip
        go_big_quiet_skip
        go_big_quiet_skip
        go_big_quiet_skip
        go_big_quiet_skip
        go_big_quiet_skip
        refine class_value (by rfl) (.bool false) (fun V hV => by go_simp) ?_
        simp only [Act.put, List.setIfInBounds_toArray, List.set_cons_zero, List.set_cons_succ]
        refine class_value (by rfl) (.bool false) (fun V hV => by go_simp) ?_
        simp only [Act.put, List.setIfInBounds_toArray, List.set_cons_zero, List.set_cons_succ]
        go_big_quiet_skip
        go_big_quiet_skip
        go_big_quiet_skip
        go_big_quiet_skip
        go_big_quiet_skip
        go_big_quiet_skip
        refine class_value (by rfl) (.bool false) (fun V hV => by go_simp) ?_
        simp only [Act.put, List.setIfInBounds_toArray, List.set_cons_zero, List.set_cons_succ]
        refine class_value (by rfl) (.bool false) (fun V hV => by go_simp) ?_
        simp only [Act.put, List.setIfInBounds_toArray, List.set_cons_zero, List.set_cons_succ]
        refine wpQuiet_nil ?_
        intro V6 k6
        have K6 := Lib.hid k6.out
        clear k6 HXC HC0 HC1 hcx HST
        go_wp2_with fail
        go_loopw [9, 10] (fun bv kv wr => ∃ k : Nat, k ≤ i ∧ bv = .bool false ∧ kv = .int .i64 (k : Int) ∧ Hid (Keeps (fun _ => False) w0 wr)) (fun _ kv _ => i - (intOf kv).toNat)
        case atStart => exact ⟨0, by omega, rfl, rfl, K6⟩
        case round =>
          obtain ⟨k, hk, rfl, rfl, KK⟩ := hrel
          by_cases hkt : k < i
          · have hki : (k : Int) < (i : Int) := by omega
            go_wp2_with fail
            refine wp_region_class (Later wr) (by kernel_rfl) (by kernel_rfl) (⟨(Keeps.refl _ _).drew⟩) ?_
            refine class_value (by rfl) (.bool false) (fun V hV => by go_simp) ?_
            simp only [Act.put, List.setIfInBounds_toArray, List.set_cons_zero, List.set_cons_succ]
            refine class_value (by rfl) (.bool false) (fun V hV => by go_simp) ?_
            simp only [Act.put, List.setIfInBounds_toArray, List.set_cons_zero, List.set_cons_succ]
            go_big_quiet_skip
            go_big_quiet_skip
            go_big_quiet_skip
            go_big_quiet_skip
            go_big_quiet_skip
            go_big_quiet_skip
            go_big_quiet_skip
            go_big_quiet_skip
            go_big_quiet_skip
            refine class_value (by rfl) (.bool false) (fun V hV => by go_simp) ?_
            simp only [Act.put, List.setIfInBounds_toArray, List.set_cons_zero, List.set_cons_succ]
            refine class_value (by rfl) (.bool false) (fun V hV => by go_simp) ?_
            simp only [Act.put, List.setIfInBounds_toArray, List.set_cons_zero, List.set_cons_succ]
            refine wpQuiet_nil ?_
            intro V7 k7
            have K7 := Lib.hid (KK.out.trans k7.out)
            clear k7
            go_wp2
            go_roundw
            case rel => exact ⟨k + 1, by omega, rfl, by go_num, K7⟩
            case measure => simp [intOf]; omega
          · obtain rfl : k = i := by omega
            go_wp2
            go_roundw
            case rel => exact ⟨k + 1, q, o, A3, c3, by omega, rfl, by go_num, HN1, Lib.hid ⟨HM.out.1, by have := HM.out; omega⟩, Lib.hid (KK.out.owns HO.out (fun _ _ => id)), Lib.hid (HK.out.trans KK.out)⟩
            case measure => simp [intOf]; omega
      by_cases hp2 : x = (me : Int)
      · have HN1 : Hid (Gp.oth g (l.take (i + 1)) but = o) := Lib.hid (by rw [HST.out, if_neg]; rw [hcx]; intro h; simp only [Bool.and_eq_true, decide_eq_true_eq, Bool.not_eq_true', decide_eq_false_iff_not] at h; exact h.1.2.2.1 hp2)
        have hn2 : (x != (me : Int)) = false := by simp [hp2]
        clear hp2
        go_wp2_with fail
        refine wp_region_class (Later w0) (by kernel_rfl) (by kernel_rfl) (⟨(Keeps.refl _ _).drew⟩) ?_
        refine class_value (by rfl) (.slice (some ad) n c) (fun V hV => by go_simp) ?_
        simp only [Act.put, List.setIfInBounds_toArray, List.set_cons_zero, List.set_cons_succ]
        refine class_value (by rfl) (.int .i64 (i : Int)) (fun V hV => by go_simp) ?_
        simp only [Act.put, List.setIfInBounds_toArray, List.set_cons_zero, List.set_cons_succ]
        refine class_value (by rfl) (.pointer (some (ad.add i))) (fun V hV => by go_simp) ?_
        simp only [Act.put, List.setIfInBounds_toArray, List.set_cons_zero, List.set_cons_succ]
        refine class_cell (by rfl) 3 (.tmp 19) (by rfl) (ad.add i) (by rfl) (.int .i64 x) _ (fun V hV => HXC.out V hV) Try.underlying3 rfl ?_
        simp only [Act.put, List.setIfInBounds_toArray, List.set_cons_zero, List.set_cons_succ]
        refine class_value (by rfl) (.bool true) (fun V hV => by go_simp) ?_
        simp only [Act.put, List.setIfInBounds_toArray, List.set_cons_zero, List.set_cons_succ]
        refine class_value (by rfl) (.bool true) (fun V hV => by go_simp) ?_
        simp only [Act.put, List.setIfInBounds_toArray, List.set_cons_zero, List.set_cons_succ]
        refine class_value (by rfl) (.slice (some ad) n c) (fun V hV => by go_simp) ?_
        simp only [Act.put, List.setIfInBounds_toArray, List.set_cons_zero, List.set_cons_succ]
        refine class_value (by rfl) (.int .i64 (i : Int)) (fun V hV => by go_simp) ?_
        simp only [Act.put, List.setIfInBounds_toArray, List.set_cons_zero, List.set_cons_succ]
        refine class_value (by rfl) (.pointer (some (ad.add i))) (fun V hV => by go_simp) ?_
        simp only [Act.put, List.setIfInBounds_toArray, List.set_cons_zero, List.set_cons_succ]
        refine class_cell (by rfl) 3 (.tmp 25) (by rfl) (ad.add i) (by rfl) (.int .i64 x) _ (fun V hV => HXC.out V hV) Try.underlying3 rfl ?_
        simp only [Act.put, List.setIfInBounds_toArray, List.set_cons_zero, List.set_cons_succ]
        refine class_value (by rfl) (.pointer (some ⟨b1, 1, none⟩)) (fun V hV => by go_simp) ?_
        simp only [Act.put, List.setIfInBounds_toArray, List.set_cons_zero, List.set_cons_succ]
        refine class_cell (by rfl) 3 (.tmp 27) (by rfl) ⟨b1, 1, none⟩ (by rfl) (.int .i64 (mn : Int)) _ (fun V hV => HC1.out V hV) Try.underlying3 rfl ?_
        simp only [Act.put, List.setIfInBounds_toArray, List.set_cons_zero, List.set_cons_succ]
        refine class_value (by rfl) (.bool true) (fun V hV => by go_simp) ?_
        simp only [Act.put, List.setIfInBounds_toArray, List.set_cons_zero, List.set_cons_succ]
        refine class_value (by rfl) (.bool true) (fun V hV => by go_simp) ?_
        simp only [Act.put, List.setIfInBounds_toArray, List.set_cons_zero, List.set_cons_succ]
        refine class_value (by rfl) (.bool true) (fun V hV => by go_simp) ?_
        simp only [Act.put, List.setIfInBounds_toArray, List.set_cons_zero, List.set_cons_succ]
        refine class_value (by rfl) (.slice (some ad) n c) (fun V hV => by go_simp) ?_
        simp only [Act.put, List.setIfInBounds_toArray, List.set_cons_zero, List.set_cons_succ]
        refine class_value (by rfl) (.int .i64 (i : Int)) (fun V hV => by go_simp) ?_
        simp only [Act.put, List.setIfInBounds_toArray, List.set_cons_zero, List.set_cons_succ]
        refine class_value (by rfl) (.pointer (some (ad.add i))) (fun V hV => by go_simp) ?_
        simp only [Act.put, List.setIfInBounds_toArray, List.set_cons_zero, List.set_cons_succ]
        refine class_cell (by rfl) 3 (.tmp 34) (by rfl) (ad.add i) (by rfl) (.int .i64 x) _ (fun V hV => HXC.out V hV) Try.underlying3 rfl ?_
        simp only [Act.put, List.setIfInBounds_toArray, List.set_cons_zero, List.set_cons_succ]
        refine class_value (by rfl) (.pointer (some ⟨b1, 0, none⟩)) (fun V hV => by go_simp) ?_
        simp only [Act.put, List.setIfInBounds_toArray, List.set_cons_zero, List.set_cons_succ]
        refine class_cell (by rfl) 3 (.tmp 36) (by rfl) ⟨b1, 0, none⟩ (by rfl) (.int .i64 (me : Int)) _ (fun V hV => HC0.out V hV) Try.underlying3 rfl ?_
        simp only [Act.put, List.setIfInBounds_toArray, List.set_cons_zero, List.set_cons_succ]
        refine class_value (by rfl) (.bool false) (fun V hV => by go_simp) ?_
        simp only [Act.put, List.setIfInBounds_toArray, List.set_cons_zero, List.set_cons_succ]
        refine class_value (by rfl) (.bool false) (fun V hV => by go_simp) ?_
        simp only [Act.put, List.setIfInBounds_toArray, List.set_cons_zero, List.set_cons_succ]
        refine class_value (by rfl) (.bool false) (fun V hV => by go_simp) ?_
        simp only [Act.put, List.setIfInBounds_toArray, List.set_cons_zero, List.set_cons_succ]
        go_big_quiet_skip
        go_big_quiet_skip
        go_big_quiet_skip
        go_big_quiet_skip
        go_big_quiet_skip
        go_big_quiet_skip
        refine class_value (by rfl) (.bool false) (fun V hV => by go_simp) ?_
        simp only [Act.put, List.setIfInBounds_toArray, List.set_cons_zero, List.set_cons_succ]
        refine class_value (by rfl) (.bool false) (fun V hV => by go_simp) ?_
        simp only [Act.put, List.setIfInBounds_toArray, List.set_cons_zero, List.set_cons_succ]
        refine wpQuiet_nil ?_
        intro V6 k6
        have K6 := Lib.hid k6.out
        clear k6 HXC HC0 HC1 hcx HST
        go_wp2_with fail
        go_loopw [9, 10] (fun bv kv wr => ∃ k : Nat, k ≤ i ∧ bv = .bool false ∧ kv = .int .i64 (k : Int) ∧ Hid (Keeps (fun _ => False) w0 wr)) (fun _ kv _ => i - (intOf kv).toNat)
        case atStart => exact ⟨0, by omega, rfl, rfl, K6⟩
        case round =>
          obtain ⟨k, hk, rfl, rfl, KK⟩ := hrel
          by_cases hkt : k < i
          · have hki : (k : Int) < (i : Int) := by omega
            go_wp2_with fail
            refine wp_region_class (Later wr) (by kernel_rfl) (by kernel_rfl) (⟨(Keeps.refl _ _).drew⟩) ?_
            refine class_value (by rfl) (.bool false) (fun V hV => by go_simp) ?_
            simp only [Act.put, List.setIfInBounds_toArray, List.set_cons_zero, List.set_cons_succ]
            refine class_value (by rfl) (.bool false) (fun V hV => by go_simp) ?_
            simp only [Act.put, List.setIfInBounds_toArray, List.set_cons_zero, List.set_cons_succ]
            go_big_quiet_skip
            go_big_quiet_skip
            go_big_quiet_skip
            go_big_quiet_skip
            go_big_quiet_skip
            go_big_quiet_skip
            go_big_quiet_skip
            go_big_quiet_skip
            go_big_quiet_skip
            refine class_value (by rfl) (.bool false) (fun V hV => by go_simp) ?_
            simp only [Act.put, List.setIfInBounds_toArray, List.set_cons_zero, List.set_cons_succ]
            refine class_value (by rfl) (.bool false) (fun V hV => by go_simp) ?_
            simp only [Act.put, List.setIfInBounds_toArray, List.set_cons_zero, List.set_cons_succ]
            refine wpQuiet_nil ?_
            intro V7 k7
            have K7 := Lib.hid (KK.out.trans k7.out)
            clear k7
            go_wp2
            go_roundw
            case rel => exact ⟨k + 1, by omega, rfl, by go_num, K7⟩
            case measure => simp [intOf]; omega
          · obtain rfl : k = i := by omega
            go_wp2
            go_roundw
            case rel => exact ⟨k + 1, q, o, A3, c3, by omega, rfl, by go_num, HN1, Lib.hid ⟨HM.out.1, by have := HM.out; omega⟩, Lib.hid (KK.out.owns HO.out (fun _ _ => id)), Lib.hid (HK.out.trans KK.out)⟩
            case measure => simp [intOf]; omega
      by_cases hp3 : x = but
      · have HN1 : Hid (Gp.oth g (l.take (i + 1)) but = o) := Lib.hid (by rw [HST.out, if_neg]; rw [hcx]; intro h; simp only [Bool.and_eq_true, decide_eq_true_eq, Bool.not_eq_true', decide_eq_false_iff_not] at h; exact h.1.2.2.2 hp3)
        have hn3 : (x != but) = false := by simp [hp3]
        clear hp3
        go_wp2_with fail
        refine wp_region_class (Later w0) (by kernel_rfl) (by kernel_rfl) (⟨(Keeps.refl _ _).drew⟩) ?_
        refine class_value (by rfl) (.slice (some ad) n c) (fun V hV => by go_simp) ?_
        simp only [Act.put, List.setIfInBounds_toArray, List.set_cons_zero, List.set_cons_succ]
        refine class_value (by rfl) (.int .i64 (i : Int)) (fun V hV => by go_simp) ?_
        simp only [Act.put, List.setIfInBounds_toArray, List.set_cons_zero, List.set_cons_succ]
        refine class_value (by rfl) (.pointer (some (ad.add i))) (fun V hV => by go_simp) ?_
        simp only [Act.put, List.setIfInBounds_toArray, List.set_cons_zero, List.set_cons_succ]
        refine class_cell (by rfl) 3 (.tmp 19) (by rfl) (ad.add i) (by rfl) (.int .i64 x) _ (fun V hV => HXC.out V hV) Try.underlying3 rfl ?_
        simp only [Act.put, List.setIfInBounds_toArray, List.set_cons_zero, List.set_cons_succ]
        refine class_value (by rfl) (.bool true) (fun V hV => by go_simp) ?_
        simp only [Act.put, List.setIfInBounds_toArray, List.set_cons_zero, List.set_cons_succ]
        refine class_value (by rfl) (.bool true) (fun V hV => by go_simp) ?_
        simp only [Act.put, List.setIfInBounds_toArray, List.set_cons_zero, List.set_cons_succ]
        refine class_value (by rfl) (.slice (some ad) n c) (fun V hV => by go_simp) ?_
        simp only [Act.put, List.setIfInBounds_toArray, List.set_cons_zero, List.set_cons_succ]
        refine class_value (by rfl) (.int .i64 (i : Int)) (fun V hV => by go_simp) ?_
        simp only [Act.put, List.setIfInBounds_toArray, List.set_cons_zero, List.set_cons_succ]
        refine class_value (by rfl) (.pointer (some (ad.add i))) (fun V hV => by go_simp) ?_
        simp only [Act.put, List.setIfInBounds_toArray, List.set_cons_zero, List.set_cons_succ]
        refine class_cell (by rfl) 3 (.tmp 25) (by rfl) (ad.add i) (by rfl) (.int .i64 x) _ (fun V hV => HXC.out V hV) Try.underlying3 rfl ?_
        simp only [Act.put, List.setIfInBounds_toArray, List.set_cons_zero, List.set_cons_succ]
        refine class_value (by rfl) (.pointer (some ⟨b1, 1, none⟩)) (fun V hV => by go_simp) ?_
        simp only [Act.put, List.setIfInBounds_toArray, List.set_cons_zero, List.set_cons_succ]
        refine class_cell (by rfl) 3 (.tmp 27) (by rfl) ⟨b1, 1, none⟩ (by rfl) (.int .i64 (mn : Int)) _ (fun V hV => HC1.out V hV) Try.underlying3 rfl ?_
        simp only [Act.put, List.setIfInBounds_toArray, List.set_cons_zero, List.set_cons_succ]
        refine class_value (by rfl) (.bool true) (fun V hV => by go_simp) ?_
        simp only [Act.put, List.setIfInBounds_toArray, List.set_cons_zero, List.set_cons_succ]
        refine class_value (by rfl) (.bool true) (fun V hV => by go_simp) ?_
        simp only [Act.put, List.setIfInBounds_toArray, List.set_cons_zero, List.set_cons_succ]
        refine class_value (by rfl) (.bool true) (fun V hV => by go_simp) ?_
        simp only [Act.put, List.setIfInBounds_toArray, List.set_cons_zero, List.set_cons_succ]
        refine class_value (by rfl) (.slice (some ad) n c) (fun V hV => by go_simp) ?_
        simp only [Act.put, List.setIfInBounds_toArray, List.set_cons_zero, List.set_cons_succ]
        refine class_value (by rfl) (.int .i64 (i : Int)) (fun V hV => by go_simp) ?_
        simp only [Act.put, List.setIfInBounds_toArray, List.set_cons_zero, List.set_cons_succ]
        refine class_value (by rfl) (.pointer (some (ad.add i))) (fun V hV => by go_simp) ?_
        simp only [Act.put, List.setIfInBounds_toArray, List.set_cons_zero, List.set_cons_succ]
        refine class_cell (by rfl) 3 (.tmp 34) (by rfl) (ad.add i) (by rfl) (.int .i64 x) _ (fun V hV => HXC.out V hV) Try.underlying3 rfl ?_
        simp only [Act.put, List.setIfInBounds_toArray, List.set_cons_zero, List.set_cons_succ]
        refine class_value (by rfl) (.pointer (some ⟨b1, 0, none⟩)) (fun V hV => by go_simp) ?_
        simp only [Act.put, List.setIfInBounds_toArray, List.set_cons_zero, List.set_cons_succ]
        refine class_cell (by rfl) 3 (.tmp 36) (by rfl) ⟨b1, 0, none⟩ (by rfl) (.int .i64 (me : Int)) _ (fun V hV => HC0.out V hV) Try.underlying3 rfl ?_
        simp only [Act.put, List.setIfInBounds_toArray, List.set_cons_zero, List.set_cons_succ]
        refine class_value (by rfl) (.bool true) (fun V hV => by go_simp) ?_
        simp only [Act.put, List.setIfInBounds_toArray, List.set_cons_zero, List.set_cons_succ]
        refine class_value (by rfl) (.bool true) (fun V hV => by go_simp) ?_
        simp only [Act.put, List.setIfInBounds_toArray, List.set_cons_zero, List.set_cons_succ]
        refine class_value (by rfl) (.bool true) (fun V hV => by go_simp) ?_
        simp only [Act.put, List.setIfInBounds_toArray, List.set_cons_zero, List.set_cons_succ]
        refine class_value (by rfl) (.slice (some ad) n c) (fun V hV => by go_simp) ?_
        simp only [Act.put, List.setIfInBounds_toArray, List.set_cons_zero, List.set_cons_succ]
        refine class_value (by rfl) (.int .i64 (i : Int)) (fun V hV => by go_simp) ?_
        simp only [Act.put, List.setIfInBounds_toArray, List.set_cons_zero, List.set_cons_succ]
        refine class_value (by rfl) (.pointer (some (ad.add i))) (fun V hV => by go_simp) ?_
        simp only [Act.put, List.setIfInBounds_toArray, List.set_cons_zero, List.set_cons_succ]
        refine class_cell (by rfl) 3 (.tmp 43) (by rfl) (ad.add i) (by rfl) (.int .i64 x) _ (fun V hV => HXC.out V hV) Try.underlying3 rfl ?_
        simp only [Act.put, List.setIfInBounds_toArray, List.set_cons_zero, List.set_cons_succ]
        refine class_value (by rfl) (.int .i64 but) (fun V hV => by go_simp) ?_
        simp only [Act.put, List.setIfInBounds_toArray, List.set_cons_zero, List.set_cons_succ]
        refine class_value (by rfl) (.bool false) (fun V hV => by go_simp) ?_
        simp only [Act.put, List.setIfInBounds_toArray, List.set_cons_zero, List.set_cons_succ]
        refine class_value (by rfl) (.bool false) (fun V hV => by go_simp) ?_
        simp only [Act.put, List.setIfInBounds_toArray, List.set_cons_zero, List.set_cons_succ]
        refine class_value (by rfl) (.bool false) (fun V hV => by go_simp) ?_
        simp only [Act.put, List.setIfInBounds_toArray, List.set_cons_zero, List.set_cons_succ]
        refine wpQuiet_nil ?_
        intro V6 k6
        have K6 := Lib.hid k6.out
        clear k6 HXC HC0 HC1 hcx HST
        go_wp2_with fail
        go_loopw [9, 10] (fun bv kv wr => ∃ k : Nat, k ≤ i ∧ bv = .bool false ∧ kv = .int .i64 (k : Int) ∧ Hid (Keeps (fun _ => False) w0 wr)) (fun _ kv _ => i - (intOf kv).toNat)
        case atStart => exact ⟨0, by omega, rfl, rfl, K6⟩
        case round =>
          obtain ⟨k, hk, rfl, rfl, KK⟩ := hrel
          by_cases hkt : k < i
          · have hki : (k : Int) < (i : Int) := by omega
            go_wp2_with fail
            refine wp_region_class (Later wr) (by kernel_rfl) (by kernel_rfl) (⟨(Keeps.refl _ _).drew⟩) ?_
            refine class_value (by rfl) (.bool false) (fun V hV => by go_simp) ?_
            simp only [Act.put, List.setIfInBounds_toArray, List.set_cons_zero, List.set_cons_succ]
            refine class_value (by rfl) (.bool false) (fun V hV => by go_simp) ?_
            simp only [Act.put, List.setIfInBounds_toArray, List.set_cons_zero, List.set_cons_succ]
            go_big_quiet_skip
            go_big_quiet_skip
            go_big_quiet_skip
            go_big_quiet_skip
            go_big_quiet_skip
            go_big_quiet_skip
            go_big_quiet_skip
            go_big_quiet_skip
            go_big_quiet_skip
            refine class_value (by rfl) (.bool false) (fun V hV => by go_simp) ?_
            simp only [Act.put, List.setIfInBounds_toArray, List.set_cons_zero, List.set_cons_succ]
            refine class_value (by rfl) (.bool false) (fun V hV => by go_simp) ?_
            simp only [Act.put, List.setIfInBounds_toArray, List.set_cons_zero, List.set_cons_succ]
            refine wpQuiet_nil ?_
            intro V7 k7
            have K7 := Lib.hid (KK.out.trans k7.out)
            clear k7
            go_wp2
            go_roundw
            case rel => exact ⟨k + 1, by omega, rfl, by go_num, K7⟩
            case measure => simp [intOf]; omega
          · obtain rfl : k = i := by omega
            go_wp2
            go_roundw
            case rel => exact ⟨k + 1, q, o, A3, c3, by omega, rfl, by go_num, HN1, Lib.hid ⟨HM.out.1, by have := HM.out; omega⟩, Lib.hid (KK.out.owns HO.out (fun _ _ => id)), Lib.hid (HK.out.trans KK.out)⟩
            case measure => simp [intOf]; omega
      have HST2 : Hid ((x ∈ l.take i → Gp.oth g (l.take (i + 1)) but = o) ∧ (x ∉ l.take i → Gp.oth g (l.take (i + 1)) but = o ++ [x])) := Lib.hid ⟨fun h => by rw [HST.out, if_neg]; simp [h], fun h => by rw [HST.out, if_pos]; rw [hcx]; simp [hp0, hp1, hp2, hp3, h]⟩
      go_wp2_with fail
      refine wp_region_class (Later w0) (by kernel_rfl) (by kernel_rfl) (⟨(Keeps.refl _ _).drew⟩) ?_
      refine class_value (by rfl) (.slice (some ad) n c) (fun V hV => by go_simp) ?_
      simp only [Act.put, List.setIfInBounds_toArray, List.set_cons_zero, List.set_cons_succ]
      refine class_value (by rfl) (.int .i64 (i : Int)) (fun V hV => by go_simp) ?_
      simp only [Act.put, List.setIfInBounds_toArray, List.set_cons_zero, List.set_cons_succ]
      refine class_value (by rfl) (.pointer (some (ad.add i))) (fun V hV => by go_simp) ?_
      simp only [Act.put, List.setIfInBounds_toArray, List.set_cons_zero, List.set_cons_succ]
      refine class_cell (by rfl) 3 (.tmp 19) (by rfl) (ad.add i) (by rfl) (.int .i64 x) _ (fun V hV => HXC.out V hV) Try.underlying3 rfl ?_
      simp only [Act.put, List.setIfInBounds_toArray, List.set_cons_zero, List.set_cons_succ]
      refine class_value (by rfl) (.bool true) (fun V hV => by go_simp) ?_
      simp only [Act.put, List.setIfInBounds_toArray, List.set_cons_zero, List.set_cons_succ]
      refine class_value (by rfl) (.bool true) (fun V hV => by go_simp) ?_
      simp only [Act.put, List.setIfInBounds_toArray, List.set_cons_zero, List.set_cons_succ]
      refine class_value (by rfl) (.slice (some ad) n c) (fun V hV => by go_simp) ?_
      simp only [Act.put, List.setIfInBounds_toArray, List.set_cons_zero, List.set_cons_succ]
      refine class_value (by rfl) (.int .i64 (i : Int)) (fun V hV => by go_simp) ?_
      simp only [Act.put, List.setIfInBounds_toArray, List.set_cons_zero, List.set_cons_succ]
      refine class_value (by rfl) (.pointer (some (ad.add i))) (fun V hV => by go_simp) ?_
      simp only [Act.put, List.setIfInBounds_toArray, List.set_cons_zero, List.set_cons_succ]
      refine class_cell (by rfl) 3 (.tmp 25) (by rfl) (ad.add i) (by rfl) (.int .i64 x) _ (fun V hV => HXC.out V hV) Try.underlying3 rfl ?_
      simp only [Act.put, List.setIfInBounds_toArray, List.set_cons_zero, List.set_cons_succ]
      refine class_value (by rfl) (.pointer (some ⟨b1, 1, none⟩)) (fun V hV => by go_simp) ?_
      simp only [Act.put, List.setIfInBounds_toArray, List.set_cons_zero, List.set_cons_succ]
      refine class_cell (by rfl) 3 (.tmp 27) (by rfl) ⟨b1, 1, none⟩ (by rfl) (.int .i64 (mn : Int)) _ (fun V hV => HC1.out V hV) Try.underlying3 rfl ?_
      simp only [Act.put, List.setIfInBounds_toArray, List.set_cons_zero, List.set_cons_succ]
      refine class_value (by rfl) (.bool true) (fun V hV => by go_simp) ?_
      simp only [Act.put, List.setIfInBounds_toArray, List.set_cons_zero, List.set_cons_succ]
      refine class_value (by rfl) (.bool true) (fun V hV => by go_simp) ?_
      simp only [Act.put, List.setIfInBounds_toArray, List.set_cons_zero, List.set_cons_succ]
      refine class_value (by rfl) (.bool true) (fun V hV => by go_simp) ?_
      simp only [Act.put, List.setIfInBounds_toArray, List.set_cons_zero, List.set_cons_succ]
      refine class_value (by rfl) (.slice (some ad) n c) (fun V hV => by go_simp) ?_
      simp only [Act.put, List.setIfInBounds_toArray, List.set_cons_zero, List.set_cons_succ]
      refine class_value (by rfl) (.int .i64 (i : Int)) (fun V hV => by go_simp) ?_
      simp only [Act.put, List.setIfInBounds_toArray, List.set_cons_zero, List.set_cons_succ]
      refine class_value (by rfl) (.pointer (some (ad.add i))) (fun V hV => by go_simp) ?_
      simp only [Act.put, List.setIfInBounds_toArray, List.set_cons_zero, List.set_cons_succ]
      refine class_cell (by rfl) 3 (.tmp 34) (by rfl) (ad.add i) (by rfl) (.int .i64 x) _ (fun V hV => HXC.out V hV) Try.underlying3 rfl ?_
      simp only [Act.put, List.setIfInBounds_toArray, List.set_cons_zero, List.set_cons_succ]
      refine class_value (by rfl) (.pointer (some ⟨b1, 0, none⟩)) (fun V hV => by go_simp) ?_
      simp only [Act.put, List.setIfInBounds_toArray, List.set_cons_zero, List.set_cons_succ]
      refine class_cell (by rfl) 3 (.tmp 36) (by rfl) ⟨b1, 0, none⟩ (by rfl) (.int .i64 (me : Int)) _ (fun V hV => HC0.out V hV) Try.underlying3 rfl ?_
      simp only [Act.put, List.setIfInBounds_toArray, List.set_cons_zero, List.set_cons_succ]
      refine class_value (by rfl) (.bool true) (fun V hV => by go_simp) ?_
      simp only [Act.put, List.setIfInBounds_toArray, List.set_cons_zero, List.set_cons_succ]
      refine class_value (by rfl) (.bool true) (fun V hV => by go_simp) ?_
      simp only [Act.put, List.setIfInBounds_toArray, List.set_cons_zero, List.set_cons_succ]
      refine class_value (by rfl) (.bool true) (fun V hV => by go_simp) ?_
      simp only [Act.put, List.setIfInBounds_toArray, List.set_cons_zero, List.set_cons_succ]
      refine class_value (by rfl) (.slice (some ad) n c) (fun V hV => by go_simp) ?_
      simp only [Act.put, List.setIfInBounds_toArray, List.set_cons_zero, List.set_cons_succ]
      refine class_value (by rfl) (.int .i64 (i : Int)) (fun V hV => by go_simp) ?_
      simp only [Act.put, List.setIfInBounds_toArray, List.set_cons_zero, List.set_cons_succ]
      refine class_value (by rfl) (.pointer (some (ad.add i))) (fun V hV => by go_simp) ?_
      simp only [Act.put, List.setIfInBounds_toArray, List.set_cons_zero, List.set_cons_succ]
      refine class_cell (by rfl) 3 (.tmp 43) (by rfl) (ad.add i) (by rfl) (.int .i64 x) _ (fun V hV => HXC.out V hV) Try.underlying3 rfl ?_
      simp only [Act.put, List.setIfInBounds_toArray, List.set_cons_zero, List.set_cons_succ]
      refine class_value (by rfl) (.int .i64 but) (fun V hV => by go_simp) ?_
      simp only [Act.put, List.setIfInBounds_toArray, List.set_cons_zero, List.set_cons_succ]
      refine class_value (by rfl) (.bool true) (fun V hV => by go_simp) ?_
      simp only [Act.put, List.setIfInBounds_toArray, List.set_cons_zero, List.set_cons_succ]
      refine class_value (by rfl) (.bool true) (fun V hV => by go_simp) ?_
      simp only [Act.put, List.setIfInBounds_toArray, List.set_cons_zero, List.set_cons_succ]
      refine class_value (by rfl) (.bool true) (fun V hV => by go_simp) ?_
      simp only [Act.put, List.setIfInBounds_toArray, List.set_cons_zero, List.set_cons_succ]
      refine wpQuiet_nil ?_
      intro V6 k6
      have K6 := Lib.hid k6.out
      have HXW : Hid (∀ V, Keeps (fun _ => False) w0 V → V.cell? (ad.add i) = some (.int .i64 x)) := Lib.hid (fun V hV => HXC.out V ⟨hV⟩)
      clear k6 HXC HC0 HC1 hcx HST
      go_wp2_with fail
      go_loopw [9, 10] (fun bv kv wr => ∃ k : Nat, k ≤ i ∧ bv = .bool (!decide (x ∈ l.take k)) ∧ kv = .int .i64 (k : Int) ∧ Hid (Keeps (fun _ => False) w0 wr)) (fun _ kv _ => i - (intOf kv).toNat)
      case atStart => exact ⟨0, by omega, by simp, rfl, K6⟩
      case round =>
        obtain ⟨k, hk, rfl, rfl, KK⟩ := hrel
        by_cases hkt : k < i
        · have hki : (k : Int) < (i : Int) := by omega
          have hkn : (k : Int) < (n : Int) := by omega
          obtain ⟨y, hy⟩ : ∃ y, l[k]? = some y := ⟨_, List.getElem?_eq_getElem (by have := HN.out; omega)⟩
          obtain ⟨ad2, had, hyc⟩ := src_at21 HS.out hy
          injection had with had
          subst had
          have htk : (!decide (x ∈ l.take (k + 1))) = ((!decide (x ∈ l.take k)) && !decide (y = x)) := by
            obtain ⟨h1, h2⟩ := List.getElem?_eq_some_iff.1 hy
            rw [List.take_succ_eq_append_getElem h1, h2]
            simp [eq_comm]
          cases hb : (!decide (x ∈ l.take k)) with
          | false =>
            rw [hb, Bool.false_and] at htk
            have HTK := Lib.hid htk
            clear htk hb hy hyc
            go_wp2_with fail
            refine wp_region_class (Later wr) (by kernel_rfl) (by kernel_rfl) (⟨(Keeps.refl _ _).drew⟩) ?_
            refine class_value (by rfl) (.bool false) (fun V hV => by go_simp) ?_
            simp only [Act.put, List.setIfInBounds_toArray, List.set_cons_zero, List.set_cons_succ]
            refine class_value (by rfl) (.bool false) (fun V hV => by go_simp) ?_
            simp only [Act.put, List.setIfInBounds_toArray, List.set_cons_zero, List.set_cons_succ]
            go_big_quiet_skip
            go_big_quiet_skip
            go_big_quiet_skip
            go_big_quiet_skip
            go_big_quiet_skip
            go_big_quiet_skip
            go_big_quiet_skip
            go_big_quiet_skip
            go_big_quiet_skip
            refine class_value (by rfl) (.bool false) (fun V hV => by go_simp) ?_
            simp only [Act.put, List.setIfInBounds_toArray, List.set_cons_zero, List.set_cons_succ]
            refine class_value (by rfl) (.bool false) (fun V hV => by go_simp) ?_
            simp only [Act.put, List.setIfInBounds_toArray, List.set_cons_zero, List.set_cons_succ]
            refine wpQuiet_nil ?_
            intro V7 k7
            have K7 := Lib.hid (KK.out.trans k7.out)
            clear k7
            go_wp2
            go_roundw
            case rel => exact ⟨k + 1, by omega, by rw [HTK.out], by go_num, K7⟩
            case measure => simp [intOf]; omega
          | true =>
            obtain ⟨r, hr⟩ : ∃ r, (!decide (y = x)) = r := ⟨_, rfl⟩
            rw [hb, Bool.true_and, hr] at htk
            have HTK := Lib.hid htk
            have HR : Hid ((!(y == x)) = r ∧ (y != x) = r ∧ (!decide (y = x)) = r) := Lib.hid ⟨by rw [← hr]; by_cases h : y = x <;> simp [h], by rw [← hr]; by_cases h : y = x <;> simp [h], hr⟩
            have HYC : Hid (∀ V, Later wr V → V.cell? (ad.add k) = some (.int .i64 y)) := Lib.hid (fun V hV => (((HK.out.trans KK.out).trans hV.out).cell (World.block_lt_of_cell? _ _ hyc) id).trans hyc)
            have HXC : Hid (∀ V, Later wr V → V.cell? (ad.add i) = some (.int .i64 x)) := Lib.hid (fun V hV => HXW.out V (KK.out.trans hV.out))
            clear htk hb hy hyc hr
            go_wp2_with fail
            refine wp_region_class (Later wr) (by kernel_rfl) (by kernel_rfl) (⟨(Keeps.refl _ _).drew⟩) ?_
            refine class_value (by rfl) (.bool true) (fun V hV => by go_simp) ?_
            simp only [Act.put, List.setIfInBounds_toArray, List.set_cons_zero, List.set_cons_succ]
            refine class_value (by rfl) (.bool true) (fun V hV => by go_simp) ?_
            simp only [Act.put, List.setIfInBounds_toArray, List.set_cons_zero, List.set_cons_succ]
            refine class_value (by rfl) (.slice (some ad) n c) (fun V hV => by go_simp) ?_
            simp only [Act.put, List.setIfInBounds_toArray, List.set_cons_zero, List.set_cons_succ]
            refine class_value (by rfl) (.int .i64 (k : Int)) (fun V hV => by go_simp) ?_
            simp only [Act.put, List.setIfInBounds_toArray, List.set_cons_zero, List.set_cons_succ]
            refine class_value (by rfl) (.pointer (some (ad.add k))) (fun V hV => by go_simp) ?_
            simp only [Act.put, List.setIfInBounds_toArray, List.set_cons_zero, List.set_cons_succ]
            refine class_cell (by rfl) 3 (.tmp 57) (by rfl) (ad.add k) (by rfl) (.int .i64 y) _ (fun V hV => HYC.out V hV) Try.underlying3 rfl ?_
            simp only [Act.put, List.setIfInBounds_toArray, List.set_cons_zero, List.set_cons_succ]
            refine class_value (by rfl) (.slice (some ad) n c) (fun V hV => by go_simp) ?_
            simp only [Act.put, List.setIfInBounds_toArray, List.set_cons_zero, List.set_cons_succ]
            refine class_value (by rfl) (.int .i64 (i : Int)) (fun V hV => by go_simp) ?_
            simp only [Act.put, List.setIfInBounds_toArray, List.set_cons_zero, List.set_cons_succ]
            refine class_value (by rfl) (.pointer (some (ad.add i))) (fun V hV => by go_simp) ?_
            simp only [Act.put, List.setIfInBounds_toArray, List.set_cons_zero, List.set_cons_succ]
            refine class_cell (by rfl) 3 (.tmp 61) (by rfl) (ad.add i) (by rfl) (.int .i64 x) _ (fun V hV => HXC.out V hV) Try.underlying3 rfl ?_
            simp only [Act.put, List.setIfInBounds_toArray, List.set_cons_zero, List.set_cons_succ]
            refine class_value (by rfl) (.bool r) (fun V hV => by have hr := HR.out; go_simp) ?_
            simp only [Act.put, List.setIfInBounds_toArray, List.set_cons_zero, List.set_cons_succ]
            refine class_value (by rfl) (.bool r) (fun V hV => by go_simp) ?_
            simp only [Act.put, List.setIfInBounds_toArray, List.set_cons_zero, List.set_cons_succ]
            refine class_value (by rfl) (.bool r) (fun V hV => by go_simp) ?_
            simp only [Act.put, List.setIfInBounds_toArray, List.set_cons_zero, List.set_cons_succ]
            refine wpQuiet_nil ?_
            intro V7 k7
            have K7 := Lib.hid (KK.out.trans k7.out)
            clear k7 HYC HXC
            go_wp2
            go_roundw
            case rel => exact ⟨k + 1, by omega, by rw [HTK.out], by go_num, K7⟩
            case measure => simp [intOf]; omega
        · obtain rfl : k = i := by omega
          by_cases hin : x ∈ l.take k
          · have HN1 := Lib.hid (HST2.out.1 hin)
            have hd : (!decide (x ∈ l.take k)) = false := by simp [hin]
            rw [hd]
            clear hd hin HXW
            go_wp2
            go_roundw
            case rel => exact ⟨k + 1, q, o, A3, c3, by omega, rfl, by go_num, HN1, Lib.hid ⟨HM.out.1, by have := HM.out; omega⟩, Lib.hid (KK.out.owns HO.out (fun _ _ => id)), Lib.hid (HK.out.trans KK.out)⟩
            case measure => simp [intOf]; omega
          · have HN1 := Lib.hid (HST2.out.2 hin)
            have hd : (!decide (x ∈ l.take k)) = true := by simp [hin]
            rw [hd]
            have hxc : wr.cell? (ad.add k) = some (.int .i64 x) := HXW.out wr KK.out
            have hq9 : q ≤ 1000 := by have := HM.out; omega
            have HOK := Lib.hid (KK.out.owns HO.out (fun _ _ => id))
            have HBK : Hid (b1 + 1 ≤ wr.heap.size) := Lib.hid (by have := (HK.out.trans KK.out).size; have := HB.out; omega)
            clear hd hin
            go_wp2_with (first
              | (refine wpList_build1_21 (by rfl) 34 1 0 _ (by rfl) (.int .i64 x) _ (by rfl) (build_int x wr) ?_)
              | (refine wpList_append_own _ (by rfl) _ _ 34 (by rfl) (b1 + 1) 3 ih zh 1 8 Try.underlying34 HII.out.1 HII.out.2.1 HII.out.2.2.1 HII.out.2.2.2.1 HII.out.2.2.2.2 (by decide) (.slice A3 q c3) q (ivs o) (by rfl) (((Keeps.refl (fun _ => False) wr).alloc _).owns HOK.out (fun _ _ => id)) ⟨wr.heap.size, 0, none⟩ 1 1 [.int .i64 x] (by rfl) (by simp) (World.news_of_block (heap_alloc_new wr _)) (by simp [Value.oneCell']) (by unfold maxLen; omega) (by omega) (by have := HBK.out; simp; omega) ?_; intro v4 V8 ho4 hg4 _; have HO4 := Lib.hid ho4; have K8 : Hid (Keeps (fun j => b1 + 1 ≤ j) wr V8) := Lib.hid (Keeps.trans ((Keeps.refl (fun j => b1 + 1 ≤ j) wr).alloc _) (own_grow21 (((Keeps.refl (fun _ => False) wr).alloc _).owns HOK.out (fun _ _ => id)) hg4)); obtain ⟨A4, c4, rfl⟩ := own_slice ho4; clear ho4 hg4)
              | fail)
            go_roundw
            case rel => exact ⟨k + 1, q + 1, o ++ [x], A4, c4, by omega, rfl, by go_num, HN1, Lib.hid ⟨by rw [List.length_append, ← HM.out.1]; rfl, by have := HM.out; omega⟩, Lib.hid (by rw [← ivs_append]; exact HO4.out), Lib.hid ((HK.out.trans KK.out).trans' K8.out (fun j hj e => by have := HB.out; have e' : b1 + 1 ≤ j := e; omega))⟩
            case measure => simp [intOf]; omega
    · obtain rfl : i = n := by omega
      have hfin := HP.out
      rw [List.take_of_length_le (by have := HN.out; omega)] at hfin
      have hq : (Gp.oth g l but).length = q := by rw [hfin]; exact HM.out.1.symm
      have HO9 : Hid (w0.ownsRow (b1 + 1) 3 1 (.slice A3 q c3) q (ivs (Gp.oth g l but))) := Lib.hid (by rw [hfin]; exact HO.out)
      have HQ := Lib.hid hq
      have HK9 := Lib.hid (K1.out.trans HK.out)
      clear hq hfin
      go_wp2
      go_ret
      rw [HQ.out]
      exact ⟨A3, c3, rfl, own_base HO9.out (by omega), HK9.out⟩
end Go.Proofs.Ytmhbfchhooggjaa
