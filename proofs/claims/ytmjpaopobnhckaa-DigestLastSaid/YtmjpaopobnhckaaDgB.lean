/-
  The document's own rows: those that aren't in another one; are two the same?
-/
import Derived.Test.YtmjpaopobnhckaaDgA
import Derived.Test.YtmjpaopobnhckaaDgM
namespace Go.Proofs.Ytmjpaopobnhckaa
open Go.RowKit Go.BigFrame
set_option linter.unusedVariables false
set_option linter.unusedSimpArgs false

theorem own_grow19 {w w' : World} {B size n : Nat} {e : TypeId} {v : Value} {xs : List Value} (ho : w.ownsRow B e size v n xs) (hg : w.grownBy w' v.ownBlock) : Keeps (fun j => B ≤ j) w w' :=
  (Keeps.refl _ _).grown hg (fun k _ h => by obtain ⟨_, _, hb⟩ := own_block ho k h; exact hb)
theorem wpList_build1_19 {P : Program} {ops : Array Oper} {rest : List Oper} {o : Oper} {a : Act} {w w' : World} {Q : Exit → Act → World → Prop} (hgd : o.guard = none) (t : TypeId) (n m : Nat) (x : Operand) (ho : o.op = .buildSlice t n #[(m, x)])
    (u v : Value) (hx : a.eval x = u) (hrun : (Instr.buildSlice t n #[(m, u)]).run P w = .ok v w') (h : wpList P ops Q rest (a.put o.dst v) w') : wpList P ops Q (o :: rest) a w := by
  refine wpList_plain hgd fun _ hK => ?_
  unfold Oper.wp execOp
  simp only [ho, Sem.run_bind, Sem.run_pure, Result.andThen_ok, List.map_toArray, List.map_cons, List.map_nil, hx, hrun]
  exact hK _ _ h
theorem info_keyss : (Try.prog.info? 54).map (fun i => (i.zero.map (·.cells.size), i.size, i.bytes)) = some (some 33, 33, 40) := by kernel_rfl
theorem info_keys_in : ∃ (ih : TypeInfo) (zh : Value), Try.prog.info? 54 = some ih ∧ ih.zero = some zh ∧ ih.size = 33 ∧ ih.bytes = 40 ∧ zh.cells.size = 33 := by
  obtain ⟨ih, hi, h⟩ := Option.map_eq_some_iff.1 info_keyss
  simp only [Prod.mk.injEq, Option.map_eq_some_iff] at h
  obtain ⟨⟨zh, h1, h2⟩, h3, h4⟩ := h
  exact ⟨ih, zh, hi, h1, h3, h4, h2⟩
theorem zero_keys : ∃ z, ∀ w : World, (zeroValue 54).run Try.prog w = .ok z w := by
  obtain ⟨ih, zh, hi, hz, _⟩ := info_keys_in
  refine ⟨zh, fun w => ?_⟩
  simp [zeroValue, typeInfo, hi, hz]
theorem build_keys1 (L : List Value) (hL : L.length = 33) (w : World) : (Instr.buildSlice 22 1 #[(0, .agg L.toArray)]).run Try.prog w = .ok (.slice (some ⟨w.heap.size, 0, none⟩) 1 1) (w.alloc (.cells L.toArray 54)) := by
  obtain ⟨ih, zh, hi, hz, hs, _, _⟩ := info_keys_in
  obtain ⟨z, hzz⟩ := zero_keys
  exact run_buildSlice_one w _ 54 Try.underlying22 hi L.toArray (by rw [List.size_toArray, hL, hs]) (by omega) (by omega) z (hzz w)
theorem keys_at {w : World} {A : Option Addr} {n c : Nat} {xs : List Ft.Key} (h : LK w A n c xs) {i : Nat} {x : Ft.Key} (hx : xs[i]? = some x) : ∃ ad, A = some ad ∧ Ft.Key.Ok x ∧ ∀ j v, (kcs x)[j]? = some v → w.cell? ((ad.add (i * 33)).add j) = some v := by
  obtain ⟨h1, ad, h2, h3⟩ := h.at_ i x hx
  exact ⟨ad, h2, h1, fun j v hv => by rw [Addr.add_add]; exact h3 j v hv⟩
set_option maxRecDepth 100000 in
set_option maxHeartbeats 4000000 in
theorem keysnot_any (w : World) (A A2 : Option Addr) (n c m d : Nat) (xs ys : List Ft.Key) (hA : LK w A n c xs) (hB : LK w A2 m d ys) (hn : n ≤ 1000) (hm : m ≤ 1000) :
    Calls Try.prog 15 #[.slice A n c, .slice A2 m d] w fun e w' => ∃ (A' : Option Addr) (c' : Nat), e = .returned (.slice A' (Dg.knot xs ys).length c') ∧ Keeps (fun _ => False) w w' ∧ w'.ownsRow w.heap.size 54 33 (.slice A' (Dg.knot xs ys).length c') (Dg.knot xs ys).length (flt kcs (Dg.knot xs ys)) := by
  have HA := Lib.hid hA
  have HB := Lib.hid hB
  have hcn := hA.le
  have hcx := hA.max
  have hdm := hB.le
  have hdx := hB.max
  have HLX := Lib.hid hA.many
  have HLY := Lib.hid hB.many
  obtain ⟨ih, zh, hih, hzh, hsh, hbh, hzsh⟩ := info_keys_in
  have HII := Lib.hid (And.intro hih (And.intro hzh (And.intro hsh (And.intro hbh hzsh))))
  obtain ⟨B, hBB⟩ : ∃ B, w.heap.size = B := ⟨_, rfl⟩
  have HBE := Lib.hid hBB
  rw [hBB]
  clear hA hB hih hzh hsh hbh hzsh hBB
  go_enter Try.func15, Try.ntmps15
  go_wp2_with fail
  go_loopw [5, 6] (fun ov iv wr => ∃ (i q : Nat) (o : List Ft.Key) (A3 : Option Addr) (c3 : Nat), i ≤ n ∧ ov = .slice A3 q c3 ∧ iv = .int .i64 (i : Int) ∧ Hid (Dg.knot (xs.take i) ys = o) ∧ Hid (q = o.length ∧ q ≤ i) ∧ Hid (wr.ownsRow B 54 33 (.slice A3 q c3) q (flt kcs o)) ∧ Hid (Keeps (fun _ => False) w wr)) (fun _ iv _ => n - (intOf iv).toNat)
  case atStart => exact ⟨0, 0, [], none, 0, by omega, rfl, rfl, Lib.hid rfl, Lib.hid ⟨rfl, by omega⟩, Lib.hid (World.ownsRow_nil _ _ _ _), Lib.hid (Keeps.refl _ _)⟩
  case round =>
    obtain ⟨i, q, o, A3, c3, hi, rfl, rfl, HP, HM, HO, HK⟩ := hrel
    obtain ⟨w0, hw0⟩ : ∃ V, V = wr := ⟨_, rfl⟩
    subst hw0
    by_cases hlt : i < n
    · have hii : (i : Int) < (n : Int) := by omega
      obtain ⟨x, hx⟩ : ∃ x, xs[i]? = some x := ⟨_, List.getElem?_eq_getElem (by have := HLX.out; omega)⟩
      obtain ⟨ad, rfl, hxok, hxc⟩ := keys_at HA.out hx
      have htk : xs.take (i + 1) = xs.take i ++ [x] := by
        obtain ⟨h1, h2⟩ := List.getElem?_eq_some_iff.1 hx
        rw [List.take_succ_eq_append_getElem h1, h2]
      have HST : Hid ((x ∈ ys ∨ x ∈ xs.take i → Dg.knot (xs.take (i + 1)) ys = o) ∧ (¬ (x ∈ ys ∨ x ∈ xs.take i) → Dg.knot (xs.take (i + 1)) ys = o ++ [x])) := Lib.hid ⟨fun h => by rw [htk, Dg.knot_snoc, if_pos h, HP.out], fun h => by rw [htk, Dg.knot_snoc, if_neg h, HP.out]⟩
      have SXL : Hid ((Try.prog.info? 54).map (·.size) = some (kcs x).length) := Lib.hid (by rw [kcs_len x hxok]; exact info_k)
      obtain ⟨XL, hXL⟩ : ∃ L, kcs x = L := ⟨_, rfl⟩
      rw [hXL] at hxc SXL
      have HX := Lib.hid (And.intro hxok hXL)
      have HXC : Hid (∀ V, Keeps (fun _ => False) w0 V → ∀ j v, XL[j]? = some v → V.cell? ((ad.add (i * 33)).add j) = some v) := Lib.hid (fun V hV j v hv => ((HK.out.trans hV).cell (World.block_lt_of_cell? _ _ (hxc j v hv)) id).trans (hxc j v hv))
      clear hx hxok hxc htk hXL
      go_wp2_with fail
      go_loopw [7, 8] (fun bv kv wr => ∃ k : Nat, k ≤ m ∧ bv = .bool (decide (x ∈ ys.take k)) ∧ kv = .int .i64 (k : Int) ∧ Hid (Keeps (fun _ => False) w0 wr)) (fun _ kv _ => m - (intOf kv).toNat)
      case atStart => exact ⟨0, by omega, by simp, rfl, Lib.hid (Keeps.refl _ _)⟩
      case round =>
        obtain ⟨k, hk, rfl, rfl, KK⟩ := hrel
        by_cases hkt : k < m
        · have hki : (k : Int) < (m : Int) := by omega
          obtain ⟨y, hy⟩ : ∃ y, ys[k]? = some y := ⟨_, List.getElem?_eq_getElem (by have := HLY.out; omega)⟩
          obtain ⟨ad2, rfl, hyok, hyc⟩ := keys_at HB.out hy
          have htk : decide (x ∈ ys.take (k + 1)) = (decide (x ∈ ys.take k) || decide (y = x)) := by
            obtain ⟨h1, h2⟩ := List.getElem?_eq_some_iff.1 hy
            rw [List.take_succ_eq_append_getElem h1, h2]
            simp [eq_comm]
          cases hb : decide (x ∈ ys.take k) with
          | true =>
            rw [hb, Bool.true_or] at htk
            have HTK := Lib.hid htk
            clear htk hb hy hyok hyc
            go_wp2_with fail
            refine wp_region_class (Later wr) (by kernel_rfl) (by kernel_rfl) (⟨(Keeps.refl _ _).drew⟩) ?_
            refine class_value (by rfl) (.bool true) (fun V hV => by go_simp) ?_
            simp only [Act.put, List.setIfInBounds_toArray, List.set_cons_zero, List.set_cons_succ]
            refine class_value (by rfl) (.bool true) (fun V hV => by go_simp) ?_
            simp only [Act.put, List.setIfInBounds_toArray, List.set_cons_zero, List.set_cons_succ]
            go_big_quiet_skip
            go_big_quiet_skip
            go_big_quiet_skip
            go_big_quiet_skip
            go_big_quiet_skip
            go_big_quiet_skip
            go_big_quiet_skip
            go_big_quiet_skip
            go_big_quiet_skip
            refine class_value (by rfl) (.bool true) (fun V hV => by go_simp) ?_
            simp only [Act.put, List.setIfInBounds_toArray, List.set_cons_zero, List.set_cons_succ]
            refine class_value (by rfl) (.bool true) (fun V hV => by go_simp) ?_
            simp only [Act.put, List.setIfInBounds_toArray, List.set_cons_zero, List.set_cons_succ]
            refine wpQuiet_nil ?_
            intro V6 k6
            have K6 := Lib.hid (KK.out.trans k6.out)
            clear k6
            go_wp2
            go_roundw
            case rel => exact ⟨k + 1, by omega, by rw [HTK.out], by go_num, K6⟩
            case measure => simp [intOf]; omega
          | false =>
            obtain ⟨r, hr⟩ : ∃ r, decide (y = x) = r := ⟨_, rfl⟩
            rw [hb, Bool.false_or, hr] at htk
            have HTK := Lib.hid htk
            have ER : Hid (∀ V : World, (binOp .eql 54 (.agg (kcs y).toArray) (.agg XL.toArray)).run Try.prog V = .ok (.bool r) V) := Lib.hid (fun V => by rw [← hr, ← HX.out.2]; exact run_eql_key y x hyok HX.out.1 V)
            have SYL : Hid ((Try.prog.info? 54).map (·.size) = some (kcs y).length) := Lib.hid (by rw [kcs_len y hyok]; exact info_k)
            obtain ⟨YL, hYL⟩ : ∃ L, kcs y = L := ⟨_, rfl⟩
            rw [hYL] at hyc ER SYL
            have HYC : Hid (∀ V, Later wr V → ∀ j v, YL[j]? = some v → V.cell? ((ad2.add (k * 33)).add j) = some v) := Lib.hid (fun V hV j v hv => (((HK.out.trans KK.out).trans hV.out).cell (World.block_lt_of_cell? _ _ (hyc j v hv)) id).trans (hyc j v hv))
            have HXK : Hid (∀ V, Later wr V → ∀ j v, XL[j]? = some v → V.cell? ((ad.add (i * 33)).add j) = some v) := Lib.hid (fun V hV => HXC.out V (KK.out.trans hV.out))
            clear htk hb hy hyok hyc hr hYL
            go_wp2_with fail
            refine wp_region_class (Later wr) (by kernel_rfl) (by kernel_rfl) (⟨(Keeps.refl _ _).drew⟩) ?_
            refine class_value (by rfl) (.bool false) (fun V hV => by go_simp) ?_
            simp only [Act.put, List.setIfInBounds_toArray, List.set_cons_zero, List.set_cons_succ]
            refine class_value (by rfl) (.bool false) (fun V hV => by go_simp) ?_
            simp only [Act.put, List.setIfInBounds_toArray, List.set_cons_zero, List.set_cons_succ]
            refine class_value (by rfl) (.slice (some ad2) m d) (fun V hV => by go_simp) ?_
            simp only [Act.put, List.setIfInBounds_toArray, List.set_cons_zero, List.set_cons_succ]
            refine class_value (by rfl) (.int .i64 (k : Int)) (fun V hV => by go_simp) ?_
            simp only [Act.put, List.setIfInBounds_toArray, List.set_cons_zero, List.set_cons_succ]
            refine class_value (by rfl) (.pointer (some (ad2.add (k * 33)))) (fun V hV => by go_simp) ?_
            simp only [Act.put, List.setIfInBounds_toArray, List.set_cons_zero, List.set_cons_succ]
            refine class_any (by rfl) 54 (.tmp 26) (by rfl) (ad2.add (k * 33)) (by rfl) YL _ (fun V hV => HYC.out V hV) Try.underlying54 rfl SYL.out ?_
            simp only [Act.put, List.setIfInBounds_toArray, List.set_cons_zero, List.set_cons_succ]
            refine class_value (by rfl) (.slice (some ad) n c) (fun V hV => by go_simp) ?_
            simp only [Act.put, List.setIfInBounds_toArray, List.set_cons_zero, List.set_cons_succ]
            refine class_value (by rfl) (.int .i64 (i : Int)) (fun V hV => by go_simp) ?_
            simp only [Act.put, List.setIfInBounds_toArray, List.set_cons_zero, List.set_cons_succ]
            refine class_value (by rfl) (.pointer (some (ad.add (i * 33)))) (fun V hV => by go_simp) ?_
            simp only [Act.put, List.setIfInBounds_toArray, List.set_cons_zero, List.set_cons_succ]
            refine class_any (by rfl) 54 (.tmp 30) (by rfl) (ad.add (i * 33)) (by rfl) XL _ (fun V hV => HXK.out V hV) Try.underlying54 rfl SXL.out ?_
            simp only [Act.put, List.setIfInBounds_toArray, List.set_cons_zero, List.set_cons_succ]
            refine class_eq (by rfl) .eql 54 _ (.tmp 27) (.tmp 31) (by rfl) YL.toArray XL.toArray (by rfl) (by rfl) (by kernel_rfl) (.bool r) (ER.out) ?_
            simp only [Act.put, List.setIfInBounds_toArray, List.set_cons_zero, List.set_cons_succ]
            refine class_value (by rfl) (.bool r) (fun V hV => by go_simp) ?_
            simp only [Act.put, List.setIfInBounds_toArray, List.set_cons_zero, List.set_cons_succ]
            refine class_value (by rfl) (.bool r) (fun V hV => by go_simp) ?_
            simp only [Act.put, List.setIfInBounds_toArray, List.set_cons_zero, List.set_cons_succ]
            refine wpQuiet_nil ?_
            intro V6 k6
            have K6 := Lib.hid (KK.out.trans k6.out)
            clear k6 HYC HXK
            go_wp2
            go_roundw
            case rel => exact ⟨k + 1, by omega, by rw [HTK.out], by go_num, K6⟩
            case measure => simp [intOf]; omega
        · obtain rfl : k = m := by omega
          have hfull : decide (x ∈ ys.take k) = decide (x ∈ ys ∨ x ∈ xs.take 0) := by rw [List.take_of_length_le (by have := HLY.out; omega)]; simp
          rw [hfull]
          clear hfull
          go_wp2_with fail
          go_loopw [7, 9] (fun bv kv wr => ∃ k : Nat, k ≤ i ∧ bv = .bool (decide (x ∈ ys ∨ x ∈ xs.take k)) ∧ kv = .int .i64 (k : Int) ∧ Hid (Keeps (fun _ => False) w0 wr)) (fun _ kv _ => i - (intOf kv).toNat)
          case atStart => exact ⟨0, by omega, rfl, rfl, KK⟩
          case round =>
            clear KK
            obtain ⟨k, hk, rfl, rfl, KK⟩ := hrel
            by_cases hkt : k < i
            · have hki : (k : Int) < (i : Int) := by omega
              have hkn : (k : Int) < (n : Int) := by omega
              obtain ⟨y, hy⟩ : ∃ y, xs[k]? = some y := ⟨_, List.getElem?_eq_getElem (by have := HLX.out; omega)⟩
              obtain ⟨ad3, had, hyok, hyc⟩ := keys_at HA.out hy
              injection had with had
              subst had
              have htk : decide (x ∈ ys ∨ x ∈ xs.take (k + 1)) = (decide (x ∈ ys ∨ x ∈ xs.take k) || decide (y = x)) := by
                obtain ⟨h1, h2⟩ := List.getElem?_eq_some_iff.1 hy
                rw [List.take_succ_eq_append_getElem h1, h2]
                simp [eq_comm, Bool.or_assoc]
              cases hb : decide (x ∈ ys ∨ x ∈ xs.take k) with
              | true =>
                rw [hb, Bool.true_or] at htk
                have HTK := Lib.hid htk
                clear htk hb hy hyok hyc
                go_wp2_with fail
                refine wp_region_class (Later wr) (by kernel_rfl) (by kernel_rfl) (⟨(Keeps.refl _ _).drew⟩) ?_
                refine class_value (by rfl) (.bool true) (fun V hV => by go_simp) ?_
                simp only [Act.put, List.setIfInBounds_toArray, List.set_cons_zero, List.set_cons_succ]
                refine class_value (by rfl) (.bool true) (fun V hV => by go_simp) ?_
                simp only [Act.put, List.setIfInBounds_toArray, List.set_cons_zero, List.set_cons_succ]
                go_big_quiet_skip
                go_big_quiet_skip
                go_big_quiet_skip
                go_big_quiet_skip
                go_big_quiet_skip
                go_big_quiet_skip
                go_big_quiet_skip
                go_big_quiet_skip
                go_big_quiet_skip
                refine class_value (by rfl) (.bool true) (fun V hV => by go_simp) ?_
                simp only [Act.put, List.setIfInBounds_toArray, List.set_cons_zero, List.set_cons_succ]
                refine class_value (by rfl) (.bool true) (fun V hV => by go_simp) ?_
                simp only [Act.put, List.setIfInBounds_toArray, List.set_cons_zero, List.set_cons_succ]
                refine wpQuiet_nil ?_
                intro V6 k6
                have K6 := Lib.hid (KK.out.trans k6.out)
                clear k6
                go_wp2
                go_roundw
                case rel => exact ⟨k + 1, by omega, by rw [HTK.out], by go_num, K6⟩
                case measure => simp [intOf]; omega
              | false =>
                obtain ⟨r, hr⟩ : ∃ r, decide (y = x) = r := ⟨_, rfl⟩
                rw [hb, Bool.false_or, hr] at htk
                have HTK := Lib.hid htk
                have ER : Hid (∀ V : World, (binOp .eql 54 (.agg (kcs y).toArray) (.agg XL.toArray)).run Try.prog V = .ok (.bool r) V) := Lib.hid (fun V => by rw [← hr, ← HX.out.2]; exact run_eql_key y x hyok HX.out.1 V)
                have SYL : Hid ((Try.prog.info? 54).map (·.size) = some (kcs y).length) := Lib.hid (by rw [kcs_len y hyok]; exact info_k)
                obtain ⟨YL, hYL⟩ : ∃ L, kcs y = L := ⟨_, rfl⟩
                rw [hYL] at hyc ER SYL
                have HYC : Hid (∀ V, Later wr V → ∀ j v, YL[j]? = some v → V.cell? ((ad.add (k * 33)).add j) = some v) := Lib.hid (fun V hV j v hv => (((HK.out.trans KK.out).trans hV.out).cell (World.block_lt_of_cell? _ _ (hyc j v hv)) id).trans (hyc j v hv))
                have HXK : Hid (∀ V, Later wr V → ∀ j v, XL[j]? = some v → V.cell? ((ad.add (i * 33)).add j) = some v) := Lib.hid (fun V hV => HXC.out V (KK.out.trans hV.out))
                clear htk hb hy hyok hyc hr hYL
                go_wp2_with fail
                refine wp_region_class (Later wr) (by kernel_rfl) (by kernel_rfl) (⟨(Keeps.refl _ _).drew⟩) ?_
                refine class_value (by rfl) (.bool false) (fun V hV => by go_simp) ?_
                simp only [Act.put, List.setIfInBounds_toArray, List.set_cons_zero, List.set_cons_succ]
                refine class_value (by rfl) (.bool false) (fun V hV => by go_simp) ?_
                simp only [Act.put, List.setIfInBounds_toArray, List.set_cons_zero, List.set_cons_succ]
                refine class_value (by rfl) (.slice (some ad) n c) (fun V hV => by go_simp) ?_
                simp only [Act.put, List.setIfInBounds_toArray, List.set_cons_zero, List.set_cons_succ]
                refine class_value (by rfl) (.int .i64 (k : Int)) (fun V hV => by go_simp) ?_
                simp only [Act.put, List.setIfInBounds_toArray, List.set_cons_zero, List.set_cons_succ]
                refine class_value (by rfl) (.pointer (some (ad.add (k * 33)))) (fun V hV => by go_simp) ?_
                simp only [Act.put, List.setIfInBounds_toArray, List.set_cons_zero, List.set_cons_succ]
                refine class_any (by rfl) 54 (.tmp 43) (by rfl) (ad.add (k * 33)) (by rfl) YL _ (fun V hV => HYC.out V hV) Try.underlying54 rfl SYL.out ?_
                simp only [Act.put, List.setIfInBounds_toArray, List.set_cons_zero, List.set_cons_succ]
                refine class_value (by rfl) (.slice (some ad) n c) (fun V hV => by go_simp) ?_
                simp only [Act.put, List.setIfInBounds_toArray, List.set_cons_zero, List.set_cons_succ]
                refine class_value (by rfl) (.int .i64 (i : Int)) (fun V hV => by go_simp) ?_
                simp only [Act.put, List.setIfInBounds_toArray, List.set_cons_zero, List.set_cons_succ]
                refine class_value (by rfl) (.pointer (some (ad.add (i * 33)))) (fun V hV => by go_simp) ?_
                simp only [Act.put, List.setIfInBounds_toArray, List.set_cons_zero, List.set_cons_succ]
                refine class_any (by rfl) 54 (.tmp 47) (by rfl) (ad.add (i * 33)) (by rfl) XL _ (fun V hV => HXK.out V hV) Try.underlying54 rfl SXL.out ?_
                simp only [Act.put, List.setIfInBounds_toArray, List.set_cons_zero, List.set_cons_succ]
                refine class_eq (by rfl) .eql 54 _ (.tmp 44) (.tmp 48) (by rfl) YL.toArray XL.toArray (by rfl) (by rfl) (by kernel_rfl) (.bool r) (ER.out) ?_
                simp only [Act.put, List.setIfInBounds_toArray, List.set_cons_zero, List.set_cons_succ]
                refine class_value (by rfl) (.bool r) (fun V hV => by go_simp) ?_
                simp only [Act.put, List.setIfInBounds_toArray, List.set_cons_zero, List.set_cons_succ]
                refine class_value (by rfl) (.bool r) (fun V hV => by go_simp) ?_
                simp only [Act.put, List.setIfInBounds_toArray, List.set_cons_zero, List.set_cons_succ]
                refine wpQuiet_nil ?_
                intro V6 k6
                have K6 := Lib.hid (KK.out.trans k6.out)
                clear k6 HYC HXK
                go_wp2
                go_roundw
                case rel => exact ⟨k + 1, by omega, by rw [HTK.out], by go_num, K6⟩
                case measure => simp [intOf]; omega
            · obtain rfl : k = i := by omega
              have HOK := Lib.hid (KK.out.owns HO.out (fun _ _ => id))
              have HKK := Lib.hid (HK.out.trans KK.out)
              have HBK : Hid (B ≤ wr.heap.size) := Lib.hid (by have := HKK.out.size; have := HBE.out; omega)
              have HXK : Hid (∀ j v, XL[j]? = some v → wr.cell? ((ad.add (k * 33)).add j) = some v) := Lib.hid (HXC.out wr KK.out)
              by_cases hin : x ∈ ys ∨ x ∈ xs.take k
              · have hd : decide (x ∈ ys ∨ x ∈ xs.take k) = true := decide_eq_true hin
                have HN : Hid (Dg.knot (xs.take (k + 1)) ys = o) := Lib.hid (HST.out.1 hin)
                rw [hd]
                clear hd hin HXC KK
                go_wp2
                go_roundw
                case rel => exact ⟨k + 1, q, o, A3, c3, by omega, rfl, by go_num, HN, Lib.hid ⟨HM.out.1, by have := HM.out; omega⟩, HOK, HKK⟩
                case measure => simp [intOf]; omega
              · have hd : decide (x ∈ ys ∨ x ∈ xs.take k) = false := decide_eq_false hin
                have HN : Hid (Dg.knot (xs.take (k + 1)) ys = o ++ [x]) := Lib.hid (HST.out.2 hin)
                have HXL : Hid (XL.length = 33) := Lib.hid (by rw [← HX.out.2]; exact kcs_len x HX.out.1)
                have HX1 : Hid (∀ u ∈ XL, u.oneCell' = true) := Lib.hid (by rw [← HX.out.2]; exact kcs_one x)
                have hq9 : q ≤ 1000 := by have := HM.out; omega
                rw [hd]
                clear hd hin HXC KK
                go_wp2_with (first
                  | (refine wpList_load_any19 (by rfl) 54 (.tmp 56) (by rfl) (ad.add (k * 33)) (by rfl) XL _ HXK.out Try.underlying54 rfl SXL.out ?_)
                  | (refine wpList_build1_19 (by rfl) 22 1 0 _ (by rfl) (.agg XL.toArray) _ (by rfl) (build_keys1 XL HXL.out wr) ?_)
                  | (refine wpList_append_own _ (by rfl) _ _ 22 (by rfl) B 54 ih zh 33 40 Try.underlying22 HII.out.1 HII.out.2.1 HII.out.2.2.1 HII.out.2.2.2.1 HII.out.2.2.2.2 (by decide) (.slice A3 q c3) q (flt kcs o) (by rfl) (((Keeps.refl (fun _ => False) wr).alloc _).owns HOK.out (fun _ _ => id)) ⟨wr.heap.size, 0, none⟩ 1 1 XL (by rfl) (by have := HXL.out; omega) (World.news_of_block (heap_alloc_new wr _)) HX1.out (by unfold maxLen; omega) (by omega) (by have := HBK.out; simp; omega) ?_; intro v4 V4 ho4 hg4 _; have HO4 := Lib.hid ho4; have K4 : Hid (Keeps (fun j => B ≤ j) wr V4) := Lib.hid (Keeps.trans ((Keeps.refl (fun j => B ≤ j) wr).alloc _) (own_grow19 (((Keeps.refl (fun _ => False) wr).alloc _).owns HOK.out (fun _ _ => id)) hg4)); obtain ⟨A4, c4, rfl⟩ := own_slice ho4; clear ho4 hg4)
                  | fail)
                go_roundw
                case rel => exact ⟨k + 1, q + 1, o ++ [x], A4, c4, by omega, rfl, by go_num, HN, Lib.hid ⟨by rw [List.length_append, ← HM.out.1]; rfl, by have := HM.out; omega⟩, Lib.hid (by rw [← flt_snoc, HX.out.2]; exact HO4.out), Lib.hid (HKK.out.trans' K4.out (fun j hj e => by have := HBE.out; omega))⟩
                case measure => simp [intOf]; omega
    · obtain rfl : i = n := by omega
      have hfin := HP.out
      rw [List.take_of_length_le (by have := HLX.out; omega)] at hfin
      have hq : (Dg.knot xs ys).length = q := by rw [hfin]; exact HM.out.1.symm
      have HO9 : Hid (w0.ownsRow B 54 33 (.slice A3 q c3) q (flt kcs (Dg.knot xs ys))) := Lib.hid (by rw [hfin]; exact HO.out)
      have HQ := Lib.hid hq
      clear hq hfin
      go_wp2
      go_ret
      rw [HQ.out]
      exact ⟨A3, c3, rfl, HK.out, HO9.out⟩
theorem info_hashess : (Try.prog.info? 52).map (fun i => (i.zero.map (·.cells.size), i.size, i.bytes)) = some (some 32, 32, 32) := by kernel_rfl
theorem info_hashes_in : ∃ (ih : TypeInfo) (zh : Value), Try.prog.info? 52 = some ih ∧ ih.zero = some zh ∧ ih.size = 32 ∧ ih.bytes = 32 ∧ zh.cells.size = 32 := by
  obtain ⟨ih, hi, h⟩ := Option.map_eq_some_iff.1 info_hashess
  simp only [Prod.mk.injEq, Option.map_eq_some_iff] at h
  obtain ⟨⟨zh, h1, h2⟩, h3, h4⟩ := h
  exact ⟨ih, zh, hi, h1, h3, h4, h2⟩
theorem zero_hashes : ∃ z, ∀ w : World, (zeroValue 52).run Try.prog w = .ok z w := by
  obtain ⟨ih, zh, hi, hz, _⟩ := info_hashes_in
  refine ⟨zh, fun w => ?_⟩
  simp [zeroValue, typeInfo, hi, hz]
theorem build_hashes1 (L : List Value) (hL : L.length = 32) (w : World) : (Instr.buildSlice 23 1 #[(0, .agg L.toArray)]).run Try.prog w = .ok (.slice (some ⟨w.heap.size, 0, none⟩) 1 1) (w.alloc (.cells L.toArray 52)) := by
  obtain ⟨ih, zh, hi, hz, hs, _, _⟩ := info_hashes_in
  obtain ⟨z, hzz⟩ := zero_hashes
  exact run_buildSlice_one w _ 52 Try.underlying23 hi L.toArray (by rw [List.size_toArray, hL, hs]) (by omega) (by omega) z (hzz w)
theorem hashes_at {w : World} {A : Option Addr} {n c : Nat} {xs : List (List UInt8)} (h : LH w A n c xs) {i : Nat} {x : (List UInt8)} (hx : xs[i]? = some x) : ∃ ad, A = some ad ∧ (fun h : List UInt8 => h.length = 32) x ∧ ∀ j v, (bvs x)[j]? = some v → w.cell? ((ad.add (i * 32)).add j) = some v := by
  obtain ⟨h1, ad, h2, h3⟩ := h.at_ i x hx
  exact ⟨ad, h2, h1, fun j v hv => by rw [Addr.add_add]; exact h3 j v hv⟩
set_option maxRecDepth 100000 in
set_option maxHeartbeats 4000000 in
theorem hashesnot_any (w : World) (A A2 : Option Addr) (n c m d : Nat) (xs ys : List (List UInt8)) (hA : LH w A n c xs) (hB : LH w A2 m d ys) (hn : n ≤ 1000) (hm : m ≤ 1000) :
    Calls Try.prog 18 #[.slice A n c, .slice A2 m d] w fun e w' => ∃ (A' : Option Addr) (c' : Nat), e = .returned (.slice A' (Dg.knot xs ys).length c') ∧ Keeps (fun _ => False) w w' ∧ w'.ownsRow w.heap.size 52 32 (.slice A' (Dg.knot xs ys).length c') (Dg.knot xs ys).length (flt bvs (Dg.knot xs ys)) := by
  have HA := Lib.hid hA
  have HB := Lib.hid hB
  have hcn := hA.le
  have hcx := hA.max
  have hdm := hB.le
  have hdx := hB.max
  have HLX := Lib.hid hA.many
  have HLY := Lib.hid hB.many
  obtain ⟨ih, zh, hih, hzh, hsh, hbh, hzsh⟩ := info_hashes_in
  have HII := Lib.hid (And.intro hih (And.intro hzh (And.intro hsh (And.intro hbh hzsh))))
  obtain ⟨B, hBB⟩ : ∃ B, w.heap.size = B := ⟨_, rfl⟩
  have HBE := Lib.hid hBB
  rw [hBB]
  clear hA hB hih hzh hsh hbh hzsh hBB
  go_enter Try.func18, Try.ntmps18
  go_wp2_with fail
  go_loopw [5, 6] (fun ov iv wr => ∃ (i q : Nat) (o : List (List UInt8)) (A3 : Option Addr) (c3 : Nat), i ≤ n ∧ ov = .slice A3 q c3 ∧ iv = .int .i64 (i : Int) ∧ Hid (Dg.knot (xs.take i) ys = o) ∧ Hid (q = o.length ∧ q ≤ i) ∧ Hid (wr.ownsRow B 52 32 (.slice A3 q c3) q (flt bvs o)) ∧ Hid (Keeps (fun _ => False) w wr)) (fun _ iv _ => n - (intOf iv).toNat)
  case atStart => exact ⟨0, 0, [], none, 0, by omega, rfl, rfl, Lib.hid rfl, Lib.hid ⟨rfl, by omega⟩, Lib.hid (World.ownsRow_nil _ _ _ _), Lib.hid (Keeps.refl _ _)⟩
  case round =>
    obtain ⟨i, q, o, A3, c3, hi, rfl, rfl, HP, HM, HO, HK⟩ := hrel
    obtain ⟨w0, hw0⟩ : ∃ V, V = wr := ⟨_, rfl⟩
    subst hw0
    by_cases hlt : i < n
    · have hii : (i : Int) < (n : Int) := by omega
      obtain ⟨x, hx⟩ : ∃ x, xs[i]? = some x := ⟨_, List.getElem?_eq_getElem (by have := HLX.out; omega)⟩
      obtain ⟨ad, rfl, hxok, hxc⟩ := hashes_at HA.out hx
      have htk : xs.take (i + 1) = xs.take i ++ [x] := by
        obtain ⟨h1, h2⟩ := List.getElem?_eq_some_iff.1 hx
        rw [List.take_succ_eq_append_getElem h1, h2]
      have HST : Hid ((x ∈ ys ∨ x ∈ xs.take i → Dg.knot (xs.take (i + 1)) ys = o) ∧ (¬ (x ∈ ys ∨ x ∈ xs.take i) → Dg.knot (xs.take (i + 1)) ys = o ++ [x])) := Lib.hid ⟨fun h => by rw [htk, Dg.knot_snoc, if_pos h, HP.out], fun h => by rw [htk, Dg.knot_snoc, if_neg h, HP.out]⟩
      have SXL : Hid ((Try.prog.info? 52).map (·.size) = some (bvs x).length) := Lib.hid (by rw [hbs_len x hxok]; exact info_h)
      obtain ⟨XL, hXL⟩ : ∃ L, bvs x = L := ⟨_, rfl⟩
      rw [hXL] at hxc SXL
      have HX := Lib.hid (And.intro hxok hXL)
      have HXC : Hid (∀ V, Keeps (fun _ => False) w0 V → ∀ j v, XL[j]? = some v → V.cell? ((ad.add (i * 32)).add j) = some v) := Lib.hid (fun V hV j v hv => ((HK.out.trans hV).cell (World.block_lt_of_cell? _ _ (hxc j v hv)) id).trans (hxc j v hv))
      clear hx hxok hxc htk hXL
      go_wp2_with fail
      go_loopw [7, 8] (fun bv kv wr => ∃ k : Nat, k ≤ m ∧ bv = .bool (decide (x ∈ ys.take k)) ∧ kv = .int .i64 (k : Int) ∧ Hid (Keeps (fun _ => False) w0 wr)) (fun _ kv _ => m - (intOf kv).toNat)
      case atStart => exact ⟨0, by omega, by simp, rfl, Lib.hid (Keeps.refl _ _)⟩
      case round =>
        obtain ⟨k, hk, rfl, rfl, KK⟩ := hrel
        by_cases hkt : k < m
        · have hki : (k : Int) < (m : Int) := by omega
          obtain ⟨y, hy⟩ : ∃ y, ys[k]? = some y := ⟨_, List.getElem?_eq_getElem (by have := HLY.out; omega)⟩
          obtain ⟨ad2, rfl, hyok, hyc⟩ := hashes_at HB.out hy
          have htk : decide (x ∈ ys.take (k + 1)) = (decide (x ∈ ys.take k) || decide (y = x)) := by
            obtain ⟨h1, h2⟩ := List.getElem?_eq_some_iff.1 hy
            rw [List.take_succ_eq_append_getElem h1, h2]
            simp [eq_comm]
          cases hb : decide (x ∈ ys.take k) with
          | true =>
            rw [hb, Bool.true_or] at htk
            have HTK := Lib.hid htk
            clear htk hb hy hyok hyc
            go_wp2_with fail
            refine wp_region_class (Later wr) (by kernel_rfl) (by kernel_rfl) (⟨(Keeps.refl _ _).drew⟩) ?_
            refine class_value (by rfl) (.bool true) (fun V hV => by go_simp) ?_
            simp only [Act.put, List.setIfInBounds_toArray, List.set_cons_zero, List.set_cons_succ]
            refine class_value (by rfl) (.bool true) (fun V hV => by go_simp) ?_
            simp only [Act.put, List.setIfInBounds_toArray, List.set_cons_zero, List.set_cons_succ]
            go_big_quiet_skip
            go_big_quiet_skip
            go_big_quiet_skip
            go_big_quiet_skip
            go_big_quiet_skip
            go_big_quiet_skip
            go_big_quiet_skip
            go_big_quiet_skip
            go_big_quiet_skip
            refine class_value (by rfl) (.bool true) (fun V hV => by go_simp) ?_
            simp only [Act.put, List.setIfInBounds_toArray, List.set_cons_zero, List.set_cons_succ]
            refine class_value (by rfl) (.bool true) (fun V hV => by go_simp) ?_
            simp only [Act.put, List.setIfInBounds_toArray, List.set_cons_zero, List.set_cons_succ]
            refine wpQuiet_nil ?_
            intro V6 k6
            have K6 := Lib.hid (KK.out.trans k6.out)
            clear k6
            go_wp2
            go_roundw
            case rel => exact ⟨k + 1, by omega, by rw [HTK.out], by go_num, K6⟩
            case measure => simp [intOf]; omega
          | false =>
            obtain ⟨r, hr⟩ : ∃ r, decide (y = x) = r := ⟨_, rfl⟩
            rw [hb, Bool.false_or, hr] at htk
            have HTK := Lib.hid htk
            have ER : Hid (∀ V : World, (binOp .eql 52 (.agg (bvs y).toArray) (.agg XL.toArray)).run Try.prog V = .ok (.bool r) V) := Lib.hid (fun V => by rw [← hr, ← HX.out.2]; exact run_eql_hash y x hyok HX.out.1 V)
            have SYL : Hid ((Try.prog.info? 52).map (·.size) = some (bvs y).length) := Lib.hid (by rw [hbs_len y hyok]; exact info_h)
            obtain ⟨YL, hYL⟩ : ∃ L, bvs y = L := ⟨_, rfl⟩
            rw [hYL] at hyc ER SYL
            have HYC : Hid (∀ V, Later wr V → ∀ j v, YL[j]? = some v → V.cell? ((ad2.add (k * 32)).add j) = some v) := Lib.hid (fun V hV j v hv => (((HK.out.trans KK.out).trans hV.out).cell (World.block_lt_of_cell? _ _ (hyc j v hv)) id).trans (hyc j v hv))
            have HXK : Hid (∀ V, Later wr V → ∀ j v, XL[j]? = some v → V.cell? ((ad.add (i * 32)).add j) = some v) := Lib.hid (fun V hV => HXC.out V (KK.out.trans hV.out))
            clear htk hb hy hyok hyc hr hYL
            go_wp2_with fail
            refine wp_region_class (Later wr) (by kernel_rfl) (by kernel_rfl) (⟨(Keeps.refl _ _).drew⟩) ?_
            refine class_value (by rfl) (.bool false) (fun V hV => by go_simp) ?_
            simp only [Act.put, List.setIfInBounds_toArray, List.set_cons_zero, List.set_cons_succ]
            refine class_value (by rfl) (.bool false) (fun V hV => by go_simp) ?_
            simp only [Act.put, List.setIfInBounds_toArray, List.set_cons_zero, List.set_cons_succ]
            refine class_value (by rfl) (.slice (some ad2) m d) (fun V hV => by go_simp) ?_
            simp only [Act.put, List.setIfInBounds_toArray, List.set_cons_zero, List.set_cons_succ]
            refine class_value (by rfl) (.int .i64 (k : Int)) (fun V hV => by go_simp) ?_
            simp only [Act.put, List.setIfInBounds_toArray, List.set_cons_zero, List.set_cons_succ]
            refine class_value (by rfl) (.pointer (some (ad2.add (k * 32)))) (fun V hV => by go_simp) ?_
            simp only [Act.put, List.setIfInBounds_toArray, List.set_cons_zero, List.set_cons_succ]
            refine class_any (by rfl) 52 (.tmp 26) (by rfl) (ad2.add (k * 32)) (by rfl) YL _ (fun V hV => HYC.out V hV) Try.underlying52 rfl SYL.out ?_
            simp only [Act.put, List.setIfInBounds_toArray, List.set_cons_zero, List.set_cons_succ]
            refine class_value (by rfl) (.slice (some ad) n c) (fun V hV => by go_simp) ?_
            simp only [Act.put, List.setIfInBounds_toArray, List.set_cons_zero, List.set_cons_succ]
            refine class_value (by rfl) (.int .i64 (i : Int)) (fun V hV => by go_simp) ?_
            simp only [Act.put, List.setIfInBounds_toArray, List.set_cons_zero, List.set_cons_succ]
            refine class_value (by rfl) (.pointer (some (ad.add (i * 32)))) (fun V hV => by go_simp) ?_
            simp only [Act.put, List.setIfInBounds_toArray, List.set_cons_zero, List.set_cons_succ]
            refine class_any (by rfl) 52 (.tmp 30) (by rfl) (ad.add (i * 32)) (by rfl) XL _ (fun V hV => HXK.out V hV) Try.underlying52 rfl SXL.out ?_
            simp only [Act.put, List.setIfInBounds_toArray, List.set_cons_zero, List.set_cons_succ]
            refine class_eq (by rfl) .eql 52 _ (.tmp 27) (.tmp 31) (by rfl) YL.toArray XL.toArray (by rfl) (by rfl) (by kernel_rfl) (.bool r) (ER.out) ?_
            simp only [Act.put, List.setIfInBounds_toArray, List.set_cons_zero, List.set_cons_succ]
            refine class_value (by rfl) (.bool r) (fun V hV => by go_simp) ?_
            simp only [Act.put, List.setIfInBounds_toArray, List.set_cons_zero, List.set_cons_succ]
            refine class_value (by rfl) (.bool r) (fun V hV => by go_simp) ?_
            simp only [Act.put, List.setIfInBounds_toArray, List.set_cons_zero, List.set_cons_succ]
            refine wpQuiet_nil ?_
            intro V6 k6
            have K6 := Lib.hid (KK.out.trans k6.out)
            clear k6 HYC HXK
            go_wp2
            go_roundw
            case rel => exact ⟨k + 1, by omega, by rw [HTK.out], by go_num, K6⟩
            case measure => simp [intOf]; omega
        · obtain rfl : k = m := by omega
          have hfull : decide (x ∈ ys.take k) = decide (x ∈ ys ∨ x ∈ xs.take 0) := by rw [List.take_of_length_le (by have := HLY.out; omega)]; simp
          rw [hfull]
          clear hfull
          go_wp2_with fail
          go_loopw [7, 9] (fun bv kv wr => ∃ k : Nat, k ≤ i ∧ bv = .bool (decide (x ∈ ys ∨ x ∈ xs.take k)) ∧ kv = .int .i64 (k : Int) ∧ Hid (Keeps (fun _ => False) w0 wr)) (fun _ kv _ => i - (intOf kv).toNat)
          case atStart => exact ⟨0, by omega, rfl, rfl, KK⟩
          case round =>
            clear KK
            obtain ⟨k, hk, rfl, rfl, KK⟩ := hrel
            by_cases hkt : k < i
            · have hki : (k : Int) < (i : Int) := by omega
              have hkn : (k : Int) < (n : Int) := by omega
              obtain ⟨y, hy⟩ : ∃ y, xs[k]? = some y := ⟨_, List.getElem?_eq_getElem (by have := HLX.out; omega)⟩
              obtain ⟨ad3, had, hyok, hyc⟩ := hashes_at HA.out hy
              injection had with had
              subst had
              have htk : decide (x ∈ ys ∨ x ∈ xs.take (k + 1)) = (decide (x ∈ ys ∨ x ∈ xs.take k) || decide (y = x)) := by
                obtain ⟨h1, h2⟩ := List.getElem?_eq_some_iff.1 hy
                rw [List.take_succ_eq_append_getElem h1, h2]
                simp [eq_comm, Bool.or_assoc]
              cases hb : decide (x ∈ ys ∨ x ∈ xs.take k) with
              | true =>
                rw [hb, Bool.true_or] at htk
                have HTK := Lib.hid htk
                clear htk hb hy hyok hyc
                go_wp2_with fail
                refine wp_region_class (Later wr) (by kernel_rfl) (by kernel_rfl) (⟨(Keeps.refl _ _).drew⟩) ?_
                refine class_value (by rfl) (.bool true) (fun V hV => by go_simp) ?_
                simp only [Act.put, List.setIfInBounds_toArray, List.set_cons_zero, List.set_cons_succ]
                refine class_value (by rfl) (.bool true) (fun V hV => by go_simp) ?_
                simp only [Act.put, List.setIfInBounds_toArray, List.set_cons_zero, List.set_cons_succ]
                go_big_quiet_skip
                go_big_quiet_skip
                go_big_quiet_skip
                go_big_quiet_skip
                go_big_quiet_skip
                go_big_quiet_skip
                go_big_quiet_skip
                go_big_quiet_skip
                go_big_quiet_skip
                refine class_value (by rfl) (.bool true) (fun V hV => by go_simp) ?_
                simp only [Act.put, List.setIfInBounds_toArray, List.set_cons_zero, List.set_cons_succ]
                refine class_value (by rfl) (.bool true) (fun V hV => by go_simp) ?_
                simp only [Act.put, List.setIfInBounds_toArray, List.set_cons_zero, List.set_cons_succ]
                refine wpQuiet_nil ?_
                intro V6 k6
                have K6 := Lib.hid (KK.out.trans k6.out)
                clear k6
                go_wp2
                go_roundw
                case rel => exact ⟨k + 1, by omega, by rw [HTK.out], by go_num, K6⟩
                case measure => simp [intOf]; omega
              | false =>
                obtain ⟨r, hr⟩ : ∃ r, decide (y = x) = r := ⟨_, rfl⟩
                rw [hb, Bool.false_or, hr] at htk
                have HTK := Lib.hid htk
                have ER : Hid (∀ V : World, (binOp .eql 52 (.agg (bvs y).toArray) (.agg XL.toArray)).run Try.prog V = .ok (.bool r) V) := Lib.hid (fun V => by rw [← hr, ← HX.out.2]; exact run_eql_hash y x hyok HX.out.1 V)
                have SYL : Hid ((Try.prog.info? 52).map (·.size) = some (bvs y).length) := Lib.hid (by rw [hbs_len y hyok]; exact info_h)
                obtain ⟨YL, hYL⟩ : ∃ L, bvs y = L := ⟨_, rfl⟩
                rw [hYL] at hyc ER SYL
                have HYC : Hid (∀ V, Later wr V → ∀ j v, YL[j]? = some v → V.cell? ((ad.add (k * 32)).add j) = some v) := Lib.hid (fun V hV j v hv => (((HK.out.trans KK.out).trans hV.out).cell (World.block_lt_of_cell? _ _ (hyc j v hv)) id).trans (hyc j v hv))
                have HXK : Hid (∀ V, Later wr V → ∀ j v, XL[j]? = some v → V.cell? ((ad.add (i * 32)).add j) = some v) := Lib.hid (fun V hV => HXC.out V (KK.out.trans hV.out))
                clear htk hb hy hyok hyc hr hYL
                go_wp2_with fail
                refine wp_region_class (Later wr) (by kernel_rfl) (by kernel_rfl) (⟨(Keeps.refl _ _).drew⟩) ?_
                refine class_value (by rfl) (.bool false) (fun V hV => by go_simp) ?_
                simp only [Act.put, List.setIfInBounds_toArray, List.set_cons_zero, List.set_cons_succ]
                refine class_value (by rfl) (.bool false) (fun V hV => by go_simp) ?_
                simp only [Act.put, List.setIfInBounds_toArray, List.set_cons_zero, List.set_cons_succ]
                refine class_value (by rfl) (.slice (some ad) n c) (fun V hV => by go_simp) ?_
                simp only [Act.put, List.setIfInBounds_toArray, List.set_cons_zero, List.set_cons_succ]
                refine class_value (by rfl) (.int .i64 (k : Int)) (fun V hV => by go_simp) ?_
                simp only [Act.put, List.setIfInBounds_toArray, List.set_cons_zero, List.set_cons_succ]
                refine class_value (by rfl) (.pointer (some (ad.add (k * 32)))) (fun V hV => by go_simp) ?_
                simp only [Act.put, List.setIfInBounds_toArray, List.set_cons_zero, List.set_cons_succ]
                refine class_any (by rfl) 52 (.tmp 43) (by rfl) (ad.add (k * 32)) (by rfl) YL _ (fun V hV => HYC.out V hV) Try.underlying52 rfl SYL.out ?_
                simp only [Act.put, List.setIfInBounds_toArray, List.set_cons_zero, List.set_cons_succ]
                refine class_value (by rfl) (.slice (some ad) n c) (fun V hV => by go_simp) ?_
                simp only [Act.put, List.setIfInBounds_toArray, List.set_cons_zero, List.set_cons_succ]
                refine class_value (by rfl) (.int .i64 (i : Int)) (fun V hV => by go_simp) ?_
                simp only [Act.put, List.setIfInBounds_toArray, List.set_cons_zero, List.set_cons_succ]
                refine class_value (by rfl) (.pointer (some (ad.add (i * 32)))) (fun V hV => by go_simp) ?_
                simp only [Act.put, List.setIfInBounds_toArray, List.set_cons_zero, List.set_cons_succ]
                refine class_any (by rfl) 52 (.tmp 47) (by rfl) (ad.add (i * 32)) (by rfl) XL _ (fun V hV => HXK.out V hV) Try.underlying52 rfl SXL.out ?_
                simp only [Act.put, List.setIfInBounds_toArray, List.set_cons_zero, List.set_cons_succ]
                refine class_eq (by rfl) .eql 52 _ (.tmp 44) (.tmp 48) (by rfl) YL.toArray XL.toArray (by rfl) (by rfl) (by kernel_rfl) (.bool r) (ER.out) ?_
                simp only [Act.put, List.setIfInBounds_toArray, List.set_cons_zero, List.set_cons_succ]
                refine class_value (by rfl) (.bool r) (fun V hV => by go_simp) ?_
                simp only [Act.put, List.setIfInBounds_toArray, List.set_cons_zero, List.set_cons_succ]
                refine class_value (by rfl) (.bool r) (fun V hV => by go_simp) ?_
                simp only [Act.put, List.setIfInBounds_toArray, List.set_cons_zero, List.set_cons_succ]
                refine wpQuiet_nil ?_
                intro V6 k6
                have K6 := Lib.hid (KK.out.trans k6.out)
                clear k6 HYC HXK
                go_wp2
                go_roundw
                case rel => exact ⟨k + 1, by omega, by rw [HTK.out], by go_num, K6⟩
                case measure => simp [intOf]; omega
            · obtain rfl : k = i := by omega
              have HOK := Lib.hid (KK.out.owns HO.out (fun _ _ => id))
              have HKK := Lib.hid (HK.out.trans KK.out)
              have HBK : Hid (B ≤ wr.heap.size) := Lib.hid (by have := HKK.out.size; have := HBE.out; omega)
              have HXK : Hid (∀ j v, XL[j]? = some v → wr.cell? ((ad.add (k * 32)).add j) = some v) := Lib.hid (HXC.out wr KK.out)
              by_cases hin : x ∈ ys ∨ x ∈ xs.take k
              · have hd : decide (x ∈ ys ∨ x ∈ xs.take k) = true := decide_eq_true hin
                have HN : Hid (Dg.knot (xs.take (k + 1)) ys = o) := Lib.hid (HST.out.1 hin)
                rw [hd]
                clear hd hin HXC KK
                go_wp2
                go_roundw
                case rel => exact ⟨k + 1, q, o, A3, c3, by omega, rfl, by go_num, HN, Lib.hid ⟨HM.out.1, by have := HM.out; omega⟩, HOK, HKK⟩
                case measure => simp [intOf]; omega
              · have hd : decide (x ∈ ys ∨ x ∈ xs.take k) = false := decide_eq_false hin
                have HN : Hid (Dg.knot (xs.take (k + 1)) ys = o ++ [x]) := Lib.hid (HST.out.2 hin)
                have HXL : Hid (XL.length = 32) := Lib.hid (by rw [← HX.out.2]; exact hbs_len x HX.out.1)
                have HX1 : Hid (∀ u ∈ XL, u.oneCell' = true) := Lib.hid (by rw [← HX.out.2]; exact bvs_one x)
                have hq9 : q ≤ 1000 := by have := HM.out; omega
                rw [hd]
                clear hd hin HXC KK
                go_wp2_with (first
                  | (refine wpList_load_any19 (by rfl) 52 (.tmp 56) (by rfl) (ad.add (k * 32)) (by rfl) XL _ HXK.out Try.underlying52 rfl SXL.out ?_)
                  | (refine wpList_build1_19 (by rfl) 23 1 0 _ (by rfl) (.agg XL.toArray) _ (by rfl) (build_hashes1 XL HXL.out wr) ?_)
                  | (refine wpList_append_own _ (by rfl) _ _ 23 (by rfl) B 52 ih zh 32 32 Try.underlying23 HII.out.1 HII.out.2.1 HII.out.2.2.1 HII.out.2.2.2.1 HII.out.2.2.2.2 (by decide) (.slice A3 q c3) q (flt bvs o) (by rfl) (((Keeps.refl (fun _ => False) wr).alloc _).owns HOK.out (fun _ _ => id)) ⟨wr.heap.size, 0, none⟩ 1 1 XL (by rfl) (by have := HXL.out; omega) (World.news_of_block (heap_alloc_new wr _)) HX1.out (by unfold maxLen; omega) (by omega) (by have := HBK.out; simp; omega) ?_; intro v4 V4 ho4 hg4 _; have HO4 := Lib.hid ho4; have K4 : Hid (Keeps (fun j => B ≤ j) wr V4) := Lib.hid (Keeps.trans ((Keeps.refl (fun j => B ≤ j) wr).alloc _) (own_grow19 (((Keeps.refl (fun _ => False) wr).alloc _).owns HOK.out (fun _ _ => id)) hg4)); obtain ⟨A4, c4, rfl⟩ := own_slice ho4; clear ho4 hg4)
                  | fail)
                go_roundw
                case rel => exact ⟨k + 1, q + 1, o ++ [x], A4, c4, by omega, rfl, by go_num, HN, Lib.hid ⟨by rw [List.length_append, ← HM.out.1]; rfl, by have := HM.out; omega⟩, Lib.hid (by rw [← flt_snoc, HX.out.2]; exact HO4.out), Lib.hid (HKK.out.trans' K4.out (fun j hj e => by have := HBE.out; omega))⟩
                case measure => simp [intOf]; omega
    · obtain rfl : i = n := by omega
      have hfin := HP.out
      rw [List.take_of_length_le (by have := HLX.out; omega)] at hfin
      have hq : (Dg.knot xs ys).length = q := by rw [hfin]; exact HM.out.1.symm
      have HO9 : Hid (w0.ownsRow B 52 32 (.slice A3 q c3) q (flt bvs (Dg.knot xs ys))) := Lib.hid (by rw [hfin]; exact HO.out)
      have HQ := Lib.hid hq
      clear hq hfin
      go_wp2
      go_ret
      rw [HQ.out]
      exact ⟨A3, c3, rfl, HK.out, HO9.out⟩
set_option maxRecDepth 100000 in
set_option maxHeartbeats 2000000 in
theorem keyssame_eq (w : World) (A A2 : Option Addr) (n c d : Nat) (xs : List Ft.Key) (hA : LK w A n c xs) (hB : LK w A2 n d xs) :
    Calls Try.prog 12 #[.slice A n c, .slice A2 n d] w fun e w' => e = .returned (.bool true) ∧ Keeps (fun _ => False) w w' := by
  have HA := Lib.hid hA
  have HB := Lib.hid hB
  have hcn := hA.le
  have hcx := hA.max
  have hdm := hB.le
  have hdx := hB.max
  have HLX := Lib.hid hA.many
  clear hA hB
  go_enter Try.func12, Try.ntmps12
  go_wp2_with fail
  go_loopw [5] (fun iv wr => ∃ (i : Nat), i ≤ n ∧ iv = .int .i64 (i : Int) ∧ Hid (Keeps (fun _ => False) w wr)) (fun iv _ => n - (intOf iv).toNat)
  case atStart => exact ⟨0, by omega, rfl, Lib.hid (Keeps.refl _ _)⟩
  case round =>
    obtain ⟨i, hi, rfl, K⟩ := hrel
    by_cases hlt : i < n
    · have hii : (i : Int) < (n : Int) := by omega
      obtain ⟨x, hx⟩ : ∃ x, xs[i]? = some x := ⟨_, List.getElem?_eq_getElem (by have := HLX.out; omega)⟩
      obtain ⟨ad, rfl, hxok, hx1⟩ := keys_at HA.out hx
      obtain ⟨ad2, rfl, _, hx2⟩ := keys_at HB.out hx
      have E1 : Hid (∀ V : World, (binOp .neq 54 (.agg (kcs x).toArray) (.agg (kcs x).toArray)).run Try.prog V = .ok (.bool false) V) := Lib.hid (fun V => by have h := run_neq_key x x hxok hxok V; rwa [decide_eq_true rfl] at h)
      have SXL : Hid ((Try.prog.info? 54).map (·.size) = some (kcs x).length) := Lib.hid (by rw [kcs_len x hxok]; exact info_k)
      obtain ⟨XL, hXL⟩ : ∃ L, kcs x = L := ⟨_, rfl⟩
      rw [hXL] at hx1 hx2 E1 SXL
      have HX1 : Hid (∀ V, Later wr V → ∀ j v, XL[j]? = some v → V.cell? ((ad.add (i * 33)).add j) = some v) := Lib.hid (fun V hV j v hv => ((K.out.trans hV.out).cell (World.block_lt_of_cell? _ _ (hx1 j v hv)) id).trans (hx1 j v hv))
      have HX2 : Hid (∀ V, Later wr V → ∀ j v, XL[j]? = some v → V.cell? ((ad2.add (i * 33)).add j) = some v) := Lib.hid (fun V hV j v hv => ((K.out.trans hV.out).cell (World.block_lt_of_cell? _ _ (hx2 j v hv)) id).trans (hx2 j v hv))
      clear hx1 hx2 hXL hx hxok
      go_wp2_with fail
      refine wp_region_class (Later wr) (by kernel_rfl) (by kernel_rfl) (⟨(Keeps.refl _ _).drew⟩) ?_
      refine class_value (by rfl) (.slice (some ad) n c) (fun V hV => by go_simp) ?_
      simp only [Act.put, List.setIfInBounds_toArray, List.set_cons_zero, List.set_cons_succ]
      refine class_value (by rfl) (.int .i64 (i : Int)) (fun V hV => by go_simp) ?_
      simp only [Act.put, List.setIfInBounds_toArray, List.set_cons_zero, List.set_cons_succ]
      refine class_value (by rfl) (.pointer (some (ad.add (i * 33)))) (fun V hV => by go_simp) ?_
      simp only [Act.put, List.setIfInBounds_toArray, List.set_cons_zero, List.set_cons_succ]
      refine class_any (by rfl) 54 (.tmp 19) (by rfl) (ad.add (i * 33)) (by rfl) XL _ (fun V hV => HX1.out V hV) Try.underlying54 rfl SXL.out ?_
      simp only [Act.put, List.setIfInBounds_toArray, List.set_cons_zero, List.set_cons_succ]
      refine class_value (by rfl) (.slice (some ad2) n d) (fun V hV => by go_simp) ?_
      simp only [Act.put, List.setIfInBounds_toArray, List.set_cons_zero, List.set_cons_succ]
      refine class_value (by rfl) (.int .i64 (i : Int)) (fun V hV => by go_simp) ?_
      simp only [Act.put, List.setIfInBounds_toArray, List.set_cons_zero, List.set_cons_succ]
      refine class_value (by rfl) (.pointer (some (ad2.add (i * 33)))) (fun V hV => by go_simp) ?_
      simp only [Act.put, List.setIfInBounds_toArray, List.set_cons_zero, List.set_cons_succ]
      refine class_any (by rfl) 54 (.tmp 23) (by rfl) (ad2.add (i * 33)) (by rfl) XL _ (fun V hV => HX2.out V hV) Try.underlying54 rfl SXL.out ?_
      simp only [Act.put, List.setIfInBounds_toArray, List.set_cons_zero, List.set_cons_succ]
      refine class_eq (by rfl) .neq 54 _ (.tmp 20) (.tmp 24) (by rfl) XL.toArray XL.toArray (by rfl) (by rfl) (by kernel_rfl) (.bool false) (E1.out) ?_
      simp only [Act.put, List.setIfInBounds_toArray, List.set_cons_zero, List.set_cons_succ]
      refine wpQuiet_nil ?_
      intro V6 k6
      have K6 := Lib.hid (K.out.trans k6.out)
      clear k6 HX1 HX2
      go_wp2
      go_roundw
      case rel => exact ⟨i + 1, by omega, by go_num, K6⟩
      case measure => simp [intOf]; omega
    · obtain rfl : i = n := by omega
      go_wp2
      go_ret
      exact ⟨rfl, K.out⟩
set_option maxRecDepth 100000 in
set_option maxHeartbeats 2000000 in
theorem hashessame_eq (w : World) (A A2 : Option Addr) (n c d : Nat) (xs : List (List UInt8)) (hA : LH w A n c xs) (hB : LH w A2 n d xs) :
    Calls Try.prog 13 #[.slice A n c, .slice A2 n d] w fun e w' => e = .returned (.bool true) ∧ Keeps (fun _ => False) w w' := by
  have HA := Lib.hid hA
  have HB := Lib.hid hB
  have hcn := hA.le
  have hcx := hA.max
  have hdm := hB.le
  have hdx := hB.max
  have HLX := Lib.hid hA.many
  clear hA hB
  go_enter Try.func13, Try.ntmps13
  go_wp2_with fail
  go_loopw [5] (fun iv wr => ∃ (i : Nat), i ≤ n ∧ iv = .int .i64 (i : Int) ∧ Hid (Keeps (fun _ => False) w wr)) (fun iv _ => n - (intOf iv).toNat)
  case atStart => exact ⟨0, by omega, rfl, Lib.hid (Keeps.refl _ _)⟩
  case round =>
    obtain ⟨i, hi, rfl, K⟩ := hrel
    by_cases hlt : i < n
    · have hii : (i : Int) < (n : Int) := by omega
      obtain ⟨x, hx⟩ : ∃ x, xs[i]? = some x := ⟨_, List.getElem?_eq_getElem (by have := HLX.out; omega)⟩
      obtain ⟨ad, rfl, hxok, hx1⟩ := hashes_at HA.out hx
      obtain ⟨ad2, rfl, _, hx2⟩ := hashes_at HB.out hx
      have E1 : Hid (∀ V : World, (binOp .neq 52 (.agg (bvs x).toArray) (.agg (bvs x).toArray)).run Try.prog V = .ok (.bool false) V) := Lib.hid (fun V => by have h := run_neq_hash x x hxok hxok V; rwa [decide_eq_true rfl] at h)
      have SXL : Hid ((Try.prog.info? 52).map (·.size) = some (bvs x).length) := Lib.hid (by rw [hbs_len x hxok]; exact info_h)
      obtain ⟨XL, hXL⟩ : ∃ L, bvs x = L := ⟨_, rfl⟩
      rw [hXL] at hx1 hx2 E1 SXL
      have HX1 : Hid (∀ V, Later wr V → ∀ j v, XL[j]? = some v → V.cell? ((ad.add (i * 32)).add j) = some v) := Lib.hid (fun V hV j v hv => ((K.out.trans hV.out).cell (World.block_lt_of_cell? _ _ (hx1 j v hv)) id).trans (hx1 j v hv))
      have HX2 : Hid (∀ V, Later wr V → ∀ j v, XL[j]? = some v → V.cell? ((ad2.add (i * 32)).add j) = some v) := Lib.hid (fun V hV j v hv => ((K.out.trans hV.out).cell (World.block_lt_of_cell? _ _ (hx2 j v hv)) id).trans (hx2 j v hv))
      clear hx1 hx2 hXL hx hxok
      go_wp2_with fail
      refine wp_region_class (Later wr) (by kernel_rfl) (by kernel_rfl) (⟨(Keeps.refl _ _).drew⟩) ?_
      refine class_value (by rfl) (.slice (some ad) n c) (fun V hV => by go_simp) ?_
      simp only [Act.put, List.setIfInBounds_toArray, List.set_cons_zero, List.set_cons_succ]
      refine class_value (by rfl) (.int .i64 (i : Int)) (fun V hV => by go_simp) ?_
      simp only [Act.put, List.setIfInBounds_toArray, List.set_cons_zero, List.set_cons_succ]
      refine class_value (by rfl) (.pointer (some (ad.add (i * 32)))) (fun V hV => by go_simp) ?_
      simp only [Act.put, List.setIfInBounds_toArray, List.set_cons_zero, List.set_cons_succ]
      refine class_any (by rfl) 52 (.tmp 19) (by rfl) (ad.add (i * 32)) (by rfl) XL _ (fun V hV => HX1.out V hV) Try.underlying52 rfl SXL.out ?_
      simp only [Act.put, List.setIfInBounds_toArray, List.set_cons_zero, List.set_cons_succ]
      refine class_value (by rfl) (.slice (some ad2) n d) (fun V hV => by go_simp) ?_
      simp only [Act.put, List.setIfInBounds_toArray, List.set_cons_zero, List.set_cons_succ]
      refine class_value (by rfl) (.int .i64 (i : Int)) (fun V hV => by go_simp) ?_
      simp only [Act.put, List.setIfInBounds_toArray, List.set_cons_zero, List.set_cons_succ]
      refine class_value (by rfl) (.pointer (some (ad2.add (i * 32)))) (fun V hV => by go_simp) ?_
      simp only [Act.put, List.setIfInBounds_toArray, List.set_cons_zero, List.set_cons_succ]
      refine class_any (by rfl) 52 (.tmp 23) (by rfl) (ad2.add (i * 32)) (by rfl) XL _ (fun V hV => HX2.out V hV) Try.underlying52 rfl SXL.out ?_
      simp only [Act.put, List.setIfInBounds_toArray, List.set_cons_zero, List.set_cons_succ]
      refine class_eq (by rfl) .neq 52 _ (.tmp 20) (.tmp 24) (by rfl) XL.toArray XL.toArray (by rfl) (by rfl) (by kernel_rfl) (.bool false) (E1.out) ?_
      simp only [Act.put, List.setIfInBounds_toArray, List.set_cons_zero, List.set_cons_succ]
      refine wpQuiet_nil ?_
      intro V6 k6
      have K6 := Lib.hid (K.out.trans k6.out)
      clear k6 HX1 HX2
      go_wp2
      go_roundw
      case rel => exact ⟨i + 1, by omega, by go_num, K6⟩
      case measure => simp [intOf]; omega
    · obtain rfl : i = n := by omega
      go_wp2
      go_ret
      exact ⟨rfl, K.out⟩
end Go.Proofs.Ytmjpaopobnhckaa
