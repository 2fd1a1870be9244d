/-
  The law ShaText walked: a hash's text has 64 digits, and tells it.
-/
import Derived.Test.YtahjmlhomaommaaDoorShaW
import Derived.Test.YtahjmlhomaommaaDoorClassQ
namespace Go.Proofs.YtahjmlhomaommaaDoor
open Go.RowKit Go.BigFrame
set_option linter.unusedVariables false

theorem digit_few (d : Nat) (h : d < 10) : (digit d).toNat = 48 + d := by
  match d, h with
  | 0, _ => rfl
  | 1, _ => rfl
  | 2, _ => rfl
  | 3, _ => rfl
  | 4, _ => rfl
  | 5, _ => rfl
  | 6, _ => rfl
  | 7, _ => rfl
  | 8, _ => rfl
  | 9, _ => rfl
theorem digit_more (d : Nat) (h : 10 ≤ d) (h2 : d < 16) : (digit d).toNat = 87 + d := by
  match d, h, h2 with
  | 10, _, _ => rfl
  | 11, _, _ => rfl
  | 12, _, _ => rfl
  | 13, _, _ => rfl
  | 14, _, _ => rfl
  | 15, _, _ => rfl
  | n + 16, _, h2 => exact absurd h2 (by omega)
theorem digit_inj (d e : Nat) (h1 : d < 16) (h2 : e < 16) (h : digit d = digit e) : d = e := by
  have h' : (digit d).toNat = (digit e).toNat := by rw [h]
  by_cases a : d < 10 <;> by_cases b : e < 10
  · rw [digit_few d a, digit_few e b] at h'; omega
  · rw [digit_few d a, digit_more e (by omega) h2] at h'; omega
  · rw [digit_more d (by omega) h1, digit_few e b] at h'; omega
  · rw [digit_more d (by omega) h1, digit_more e (by omega) h2] at h'; omega
theorem hex_inj : ∀ (xs ys : List UInt8), xs.length = ys.length → hex xs = hex ys → xs = ys
  | [], [], _, _ => rfl
  | x :: xs, y :: ys, hl, h => by
    have hx := x.toNat_lt
    have hy := y.toNat_lt
    have e1 : hex (x :: xs) = digit (x.toNat / 16) :: digit (x.toNat % 16) :: hex xs := by simp [hex]
    have e2 : hex (y :: ys) = digit (y.toNat / 16) :: digit (y.toNat % 16) :: hex ys := by simp [hex]
    rw [e1, e2] at h
    injection h with h1 h
    injection h with h2 h3
    have d1 := digit_inj _ _ (by omega) (by omega) h1
    have d2 := digit_inj _ _ (by omega) (by omega) h2
    have e : x = y := UInt8.toNat_inj.1 (by omega)
    rw [e, hex_inj xs ys (by simpa using hl) h3]
theorem hex_even (xs : List UInt8) (j : Nat) (h : j < xs.length) : (hex xs)[2 * j]? = some (digit (xs[j].toNat / 16)) := by
  unfold hex
  have := flat_get (fun c : UInt8 => [digit (c.toNat / 16), digit (c.toNat % 16)]) 2 (fun _ => rfl) 0 (by omega) xs j
  rw [Nat.add_zero] at this
  rw [this, List.getElem?_eq_getElem h]
  rfl
theorem hex_odd (xs : List UInt8) (j : Nat) (h : j < xs.length) : (hex xs)[2 * j + 1]? = some (digit (xs[j].toNat % 16)) := by
  unfold hex
  rw [flat_get (fun c : UInt8 => [digit (c.toNat / 16), digit (c.toNat % 16)]) 2 (fun _ => rfl) 1 (by omega) xs j, List.getElem?_eq_getElem h]
  rfl
/-- What a digit is, by cases, as numbers. -/
theorem digit_cases (d : Nat) (h : d < 16) : ∃ e : Nat, (digit d).toNat = e ∧ e ≤ 255 ∧ ((e < 97 ∧ e ≤ 48 + d ∧ 48 + d ≤ e) ∨ (97 ≤ e ∧ e ≤ 87 + d ∧ 87 + d ≤ e)) := by
  refine ⟨_, rfl, by have := (digit d).toNat_lt; omega, ?_⟩
  by_cases a : d < 10
  · rw [digit_few d a]; omega
  · rw [digit_more d (by omega) h]; omega
theorem str_at (l : List UInt8) (k : Nat) (c : UInt8) (h : l[k]? = some c) : (strOf l)[k]? = some c := by
  have hk := (List.getElem?_eq_some_iff.1 h).1
  have e : (strOf l)[k]? = if h : k < (strOf l).size then some ((strOf l)[k]) else none := rfl
  rw [e, dif_pos (show k < (strOf l).size from hk)]
  rw [List.getElem?_eq_getElem hk] at h
  rw [← h]
  rfl
theorem strOf_size' (l : List UInt8) : (strOf l).size = l.length := rfl
theorem keeps_below2 {w w' : World} (h : Keeps (fun _ => False) w w') : Below w.heap.size w w' := h.below (Nat.le_refl _) (fun _ _ => id)
/-- The digit at k, and the byte that it is of. -/
structure DigitAt (zx : List UInt8) (k b e : Nat) : Prop where
  out : b ≤ 255 ∧ zx[k / 2]? = some (UInt8.ofNat b) ∧ (hex zx)[k]? = some (UInt8.ofNat e) ∧ e ≤ 255 ∧
    ((k % 2 = 0 ∧ ((e < 97 ∧ e ≤ 48 + b / 16 ∧ 48 + b / 16 ≤ e) ∨ (97 ≤ e ∧ e ≤ 87 + b / 16 ∧ 87 + b / 16 ≤ e))) ∨ (k % 2 = 1 ∧ ((e < 97 ∧ e ≤ 48 + b % 16 ∧ 48 + b % 16 ≤ e) ∨ (97 ≤ e ∧ e ≤ 87 + b % 16 ∧ 87 + b % 16 ≤ e))))
theorem text_digit (zx : List UInt8) (k : Nat) (hx : zx.length = 32) (hk : k < 64) : ∃ b e, DigitAt zx k b e := by
  have hj : k / 2 < zx.length := by omega
  have hb := zx[k / 2].toNat_lt
  have e1 : UInt8.ofNat zx[k / 2].toNat = zx[k / 2] := UInt8.ofNat_toNat
  have h0 : zx[k / 2]? = some (UInt8.ofNat zx[k / 2].toNat) := by rw [e1]; exact List.getElem?_eq_getElem hj
  rcases Nat.mod_two_eq_zero_or_one k with hp | hp
  · obtain ⟨e, he, h1, h2⟩ := digit_cases (zx[k / 2].toNat / 16) (by omega)
    have h3 := hex_even zx (k / 2) hj
    rw [show 2 * (k / 2) = k by omega] at h3
    exact ⟨_, e, ⟨by omega, h0, by rw [h3, ← he, UInt8.ofNat_toNat], h1, .inl ⟨hp, h2⟩⟩⟩
  · obtain ⟨e, he, h1, h2⟩ := digit_cases (zx[k / 2].toNat % 16) (by omega)
    have h3 := hex_odd zx (k / 2) hj
    rw [show 2 * (k / 2) + 1 = k by omega] at h3
    exact ⟨_, e, ⟨by omega, h0, by rw [h3, ← he, UInt8.ofNat_toNat], h1, .inr ⟨hp, h2⟩⟩⟩
theorem str_list (a : List UInt8) : (strOf a).toList = a := by simp [strOf, ByteArray.toList_mk]
structure IsStr (l : List UInt8) (s : ByteArray) : Prop where
  out : strOf l = s

set_option maxRecDepth 100000 in
set_option maxHeartbeats 1000000 in
/-- Behind the awakening and the choice: the row of y holds y'. -/
theorem text_rest (zx zy zz : List UInt8) (same : Bool) (W : World) (hT : Tabs W) (hx : zx.length = 32) (hy : zy.length = 32) (hz : zz = if same then zx else zy) :
    Calls Tryd.prog 5 #[.agg (bvs zx).toArray, .agg (bvs zy).toArray, .bool same] W fun e W' => e = .returned (.bool true) ∧ Below W.heap.size W W' := by
  have hzl : zz.length = 32 := by rw [hz]; cases same <;> simp [hx, hy]
  obtain ⟨X, hX⟩ : ∃ X : Array Value, (bvs zx).toArray = X := ⟨_, rfl⟩
  obtain ⟨Y, hY⟩ : ∃ Y : Array Value, (bvs zy).toArray = Y := ⟨_, rfl⟩
  have hxs : (Tryd.prog.info? 24).map (·.size) = some X.size := by rw [← hX, List.size_toArray, bvs_length, hx]; exact size_hash'
  have hyx : Y.size = X.size := by rw [← hX, ← hY, List.size_toArray, List.size_toArray, bvs_length, bvs_length, hx, hy]
  have h1 : X.all (·.oneCell') = true := by rw [← hX]; exact bvs_all _
  have htx := text_any zx
  rw [hX] at htx
  rw [hX, hY]
  obtain ⟨W1, hW1⟩ : ∃ V, W.alloc (.cells X 24) = V := ⟨_, rfl⟩
  obtain ⟨W2, hW2⟩ : ∃ V, W1.alloc (.cells Y 24) = V := ⟨_, rfl⟩
  have k2 : Keeps (fun _ => False) W W2 := by rw [← hW2, ← hW1]; exact ((Keeps.refl _ _).alloc _).alloc _
  have rX : W2.heap[W.heap.size]? = some (.cells X 24 (0, 0)) := by rw [← hW2, ← hW1]; exact heap_alloc2_old W _ _
  have rY : W2.heap[W1.heap.size]? = some (.cells Y 24 (0, 0)) := by rw [← hW2]; exact heap_alloc_new W1 _
  have bX : W.heap.size < W1.heap.size := by rw [← hW1]; simp
  have bY : W1.heap.size < W2.heap.size := by rw [← hW2]; simp
  have haw := awake2_any W2 (hT.keeps k2 id id)
  have HAW := Lib.hid haw
  have HX := Lib.hid hx
  have HY := Lib.hid hy
  have HXX := Lib.hid hX
  have HYY := Lib.hid hY
  have HXS := Lib.hid hxs
  have HYX := Lib.hid hyx
  have HONE := Lib.hid h1
  have HTX := Lib.hid htx
  have RX : Hid (∀ V, Keeps (fun _ => False) W2 V → V.heap[W.heap.size]? = some (.cells X 24 (0, 0))) := fun V hk => (hk.block _ (by omega) id).trans rX
  have RY : Hid (∀ V, Keeps (fun _ => False) W2 V → V.heap[W1.heap.size]? = some (.cells Y 24 (0, 0))) := fun V hk => (hk.block _ bY id).trans rY
  clear haw hX hY hx hy hxs hyx h1 htx rX rY hT
  cases same with
  | true =>
    have hzz : zz = zx := by simpa using hz
    have HZZ : Hid ((bvs zz).toArray = X) := by show _ = _; rw [hzz]; exact HXX.out
    clear hz hzz
    go_enter Tryd.func5, Tryd.ntmps5
    go_wp2_with fail
    refine HAW.out.mono ?_
    rintro e w3 ⟨rfl, k3⟩
    clear HAW hW1 hW2
    have b3 := k3.size
    go_wp2_with (first
      | (refine wpList_load_row (by rfl) 24 (.tmp 3) (by rfl) W.heap.size (by rfl) 24 X (0, 0) _ (RX.out _ k3) Tryd.underlying24 rfl HXS.out ?_)
      | (refine wpList_store_abs (by rfl) 24 (.tmp 4) (.tmp 17) (by rfl) W1.heap.size X (by rfl) (by rfl) 24 Y (RY.out _ k3) HXS.out HYX.out HONE.out ?_; intro w4 HH k4; have hx4 : Hid (w4.heap[W.heap.size]? = some (.cells X 24 (0, 0))) := (k4.block _ (by omega) (by omega)).trans (RX.out _ k3))
      | (refine wpList_load_row (by rfl) 24 (.tmp 3) (by rfl) W.heap.size (by rfl) 24 X (0, 0) _ hx4.out Tryd.underlying24 rfl HXS.out ?_))
    have hz4 : Hid (w4.heap[W1.heap.size]? = some (.cells X 24 (0, 0))) := HH.out
    have kW4 : Keeps (fun _ => False) W w4 := (k2.trans k3).trans' k4 (fun i hi h => by omega)
    have BEL : Hid (∀ V, Keeps (fun _ => False) w4 V → Below W.heap.size W V) := fun V hk => keeps_below2 (kW4.trans' hk (fun _ _ h => h.elim))
    have hlt4 : W.heap.size < w4.heap.size ∧ W1.heap.size < w4.heap.size := ⟨(Array.getElem?_eq_some_iff.1 hx4.out).1, (Array.getElem?_eq_some_iff.1 hz4.out).1⟩
    refine (HTX.out _ HX.out).mono ?_
    rintro e w5 ⟨rfl, k5⟩
    obtain ⟨s, hs⟩ : ∃ s, strOf (hex zx) = s := ⟨_, rfl⟩
    have HS : IsStr (hex zx) s := ⟨hs⟩
    have hsz : s.size = 64 := by rw [← hs, strOf_size', hex_length, HX.out]
    rw [hs]
    have hne : ((s.size : Int) != 64) = false := by rw [hsz]; rfl
    have HSZ := Lib.hid hsz
    clear hs hsz
    go_wp2_with fail
    clear hne
    go_loopw [9] (fun i wr => ∃ k : Nat, k ≤ 64 ∧ i = .int .i64 k ∧ Keeps (fun _ => False) w4 wr) (fun i _ => 64 - (intOf i).toNat)
    case atStart => exact ⟨0, by omega, rfl, k5⟩
    case round =>
      obtain ⟨k, hk, rfl, kr⟩ := hrel
      by_cases hlt : k < 64
      · obtain ⟨b, e, hbe⟩ := text_digit zx k HX.out hlt
        obtain ⟨hb, hbc, hat, he, hcase⟩ := hbe.out
        have hst := str_at _ _ _ hat
        rw [HS.out] at hst
        have hin := fun V => run_index_str (P := Tryd.prog) V 9 Tryd.underlying9 s .i64 k _ hst
        have ee : (UInt8.ofNat e).toNat = e := by rw [UInt8.toNat_ofNat']; exact Nat.mod_eq_of_lt (by omega)
        rw [ee] at hin
        have HIN := Lib.hid hin
        have hcell : wr.cell? ⟨W.heap.size, k / 2, none⟩ = some (.int .u8 (b : Int)) := by
          have hrow : Row wr W.heap.size 24 (bvs zx) := by
            have h := (kr.block _ hlt4.1 id).trans hx4.out
            rw [← HXX.out] at h
            exact h
          rw [hrow.cell, bvs_get, hbc]
          show some (Value.int .u8 ((UInt8.ofNat b).toNat : Int)) = _
          rw [UInt8.toNat_ofNat', Nat.mod_eq_of_lt (by omega)]
        have hb15 : bits .and .u8 (b : Int) (15 : Int) = (b : Int) % 16 := u8_and15 _ (by omega) (by omega)
        have HB15 := Lib.hid hb15
        clear hst hin hat ee hbc hbe hb15
        rcases hcase with ⟨hp, ⟨h97, h1, h2⟩ | ⟨h97, h1, h2⟩⟩ | ⟨hp, ⟨h97, h1, h2⟩ | ⟨h97, h1, h2⟩⟩
        all_goals
          first
            | (have hp0 : k % 2 ≤ 0 := by omega)
            | (have hp1 : 1 ≤ k % 2 := (by omega); have hb15 := HB15.out)
          clear hp
          go_wp2_with (refine wpList_index_run (by rfl) 9 (.tmp 27) (.tmp 28) (by rfl) (.string s) (.int .i64 (k : Int)) (.int .u8 (e : Int)) (by rfl) (by rfl) (HIN.out _) ?_)
          go_roundw
          case rel => exact ⟨k + 1, by omega, by go_num, kr⟩
          case measure => first | (simp [intOf]; done) | (simp [intOf]; omega)
      · have HRX : Hid (∀ V, Later w4 V → V.heap[W.heap.size]? = some (.cells X 24 (0, 0))) := fun V hv => (hv.out.block _ hlt4.1 id).trans hx4.out
        have HRZ : Hid (∀ V, Later w4 V → V.heap[W1.heap.size]? = some (.cells X 24 (0, 0))) := fun V hv => (hv.out.block _ hlt4.2 id).trans hz4.out
        have hzs : (Tryd.prog.info? 24).map (·.size) = some (X : Array Value).size := by rw [← HZZ.out, List.size_toArray, bvs_length, hzl]; exact size_hash'
        have HZS := Lib.hid hzs
        clear hzs
        obtain ⟨i0, hi0, _⟩ := info_parts info_u8t
        have hea : ∀ V, (binOp .eql 24 (.agg X) (.agg X)).run Tryd.prog V = .ok (.bool (zx == zz)) V := fun V => by
          have h := run_eql_bytes (P := Tryd.prog) V 24 5 32 Tryd.underlying24 Tryd.underlying5 hi0 (by kernel_rfl) (by kernel_rfl) zx zz HX.out hzl
          rw [HXX.out, HZZ.out] at h
          exact h
        obtain ⟨s2, hs2⟩ : ∃ s2, strOf (hex zz) = s2 := ⟨_, rfl⟩
        have HS2 : IsStr (hex zz) s2 := ⟨hs2⟩
        have hbb : (s.toList == s2.toList) = (zx == zz) := by
          rw [← hs2, ← HS.out, str_list, str_list]
          by_cases h : zx = zz
          · rw [h]; simp
          · rw [beq_eq_false_iff_ne.2 (fun h2 => h (hex_inj zx zz (by rw [HX.out, hzl]) h2)), beq_eq_false_iff_ne.2 h]
        have htz := text_any zz
        rw [hs2, HZZ.out] at htz
        have HTZ := Lib.hid htz
        have HZL := Lib.hid hzl
        clear hi0 hs2 htz hzl
        go_wp2
        clear hlt hk
        cases hq : (zx == zz)
        all_goals
          rw [hq] at hbb hea
          clear hq
          have HEA := Lib.hid hea
          clear hea
          refine wp_region_class (Later w4) (by kernel_rfl) (by kernel_rfl) ⟨kr.drew⟩ ?_
          go_big_quiet_step ((intro _; rfl))
          refine class_load (by rfl) 24 (.tmp 4) (by rfl) W1.heap.size (by rfl) 24 X (0, 0) _ HRZ.out Tryd.underlying24 rfl HZS.out ?_
          simp only [Act.put, List.setIfInBounds_toArray, List.set_cons_zero, List.set_cons_succ]
          go_big_quiet_want
          go_big_quiet_op
          refine ⟨.string s2, fun V hV => (HTZ.out V HZL.out).mono fun e w' h => ⟨h.1, ⟨hV.out.trans h.2⟩⟩, ?_⟩
          go_big_quiet_on
          go_big_quiet_step ((intro _; rfl))
          refine class_load (by rfl) 24 (.tmp 3) (by rfl) W.heap.size (by rfl) 24 X (0, 0) _ HRX.out Tryd.underlying24 rfl HXS.out ?_
          simp only [Act.put, List.setIfInBounds_toArray, List.set_cons_zero, List.set_cons_succ]
          refine class_load (by rfl) 24 (.tmp 4) (by rfl) W1.heap.size (by rfl) 24 X (0, 0) _ HRZ.out Tryd.underlying24 rfl HZS.out ?_
          simp only [Act.put, List.setIfInBounds_toArray, List.set_cons_zero, List.set_cons_succ]
          refine class_eq (by rfl) .eql 24 _ (.tmp 61) (.tmp 62) (by rfl) X X (by rfl) (by rfl) (by kernel_rfl) _ HEA.out ?_
          simp only [Act.put, List.setIfInBounds_toArray, List.set_cons_zero, List.set_cons_succ]
          repeat (go_big_quiet_step ((intro _; rfl)))
          refine wpQuiet_nil ?_
          intro w6 k6
          go_wp2
          go_ret
          exact ⟨rfl, BEL.out _ k6.out⟩
  | false =>
    have hzz : zz = zy := by simpa using hz
    have HZZ : Hid ((bvs zz).toArray = Y) := by show _ = _; rw [hzz]; exact HYY.out
    clear hz hzz
    go_enter Tryd.func5, Tryd.ntmps5
    go_wp2_with fail
    refine HAW.out.mono ?_
    rintro e w3 ⟨rfl, k3⟩
    clear HAW hW1 hW2
    have hx4 : Hid (w3.heap[W.heap.size]? = some (.cells X 24 (0, 0))) := RX.out _ k3
    have hz4 : Hid (w3.heap[W1.heap.size]? = some (.cells Y 24 (0, 0))) := RY.out _ k3
    have kW4 : Keeps (fun _ => False) W w3 := k2.trans k3
    go_wp2_with (refine wpList_load_row (by rfl) 24 (.tmp 3) (by rfl) W.heap.size (by rfl) 24 X (0, 0) _ hx4.out Tryd.underlying24 rfl HXS.out ?_)
    have BEL : Hid (∀ V, Keeps (fun _ => False) w3 V → Below W.heap.size W V) := fun V hk => keeps_below2 (kW4.trans' hk (fun _ _ h => h.elim))
    have hlt4 : W.heap.size < w3.heap.size ∧ W1.heap.size < w3.heap.size := ⟨(Array.getElem?_eq_some_iff.1 hx4.out).1, (Array.getElem?_eq_some_iff.1 hz4.out).1⟩
    refine (HTX.out _ HX.out).mono ?_
    rintro e w5 ⟨rfl, k5⟩
    obtain ⟨s, hs⟩ : ∃ s, strOf (hex zx) = s := ⟨_, rfl⟩
    have HS : IsStr (hex zx) s := ⟨hs⟩
    have hsz : s.size = 64 := by rw [← hs, strOf_size', hex_length, HX.out]
    rw [hs]
    have hne : ((s.size : Int) != 64) = false := by rw [hsz]; rfl
    have HSZ := Lib.hid hsz
    clear hs hsz
    go_wp2_with fail
    clear hne
    go_loopw [9] (fun i wr => ∃ k : Nat, k ≤ 64 ∧ i = .int .i64 k ∧ Keeps (fun _ => False) w3 wr) (fun i _ => 64 - (intOf i).toNat)
    case atStart => exact ⟨0, by omega, rfl, k5⟩
    case round =>
      obtain ⟨k, hk, rfl, kr⟩ := hrel
      by_cases hlt : k < 64
      · obtain ⟨b, e, hbe⟩ := text_digit zx k HX.out hlt
        obtain ⟨hb, hbc, hat, he, hcase⟩ := hbe.out
        have hst := str_at _ _ _ hat
        rw [HS.out] at hst
        have hin := fun V => run_index_str (P := Tryd.prog) V 9 Tryd.underlying9 s .i64 k _ hst
        have ee : (UInt8.ofNat e).toNat = e := by rw [UInt8.toNat_ofNat']; exact Nat.mod_eq_of_lt (by omega)
        rw [ee] at hin
        have HIN := Lib.hid hin
        have hcell : wr.cell? ⟨W.heap.size, k / 2, none⟩ = some (.int .u8 (b : Int)) := by
          have hrow : Row wr W.heap.size 24 (bvs zx) := by
            have h := (kr.block _ hlt4.1 id).trans hx4.out
            rw [← HXX.out] at h
            exact h
          rw [hrow.cell, bvs_get, hbc]
          show some (Value.int .u8 ((UInt8.ofNat b).toNat : Int)) = _
          rw [UInt8.toNat_ofNat', Nat.mod_eq_of_lt (by omega)]
        have hb15 : bits .and .u8 (b : Int) (15 : Int) = (b : Int) % 16 := u8_and15 _ (by omega) (by omega)
        have HB15 := Lib.hid hb15
        clear hst hin hat ee hbc hbe hb15
        rcases hcase with ⟨hp, ⟨h97, h1, h2⟩ | ⟨h97, h1, h2⟩⟩ | ⟨hp, ⟨h97, h1, h2⟩ | ⟨h97, h1, h2⟩⟩
        all_goals
          first
            | (have hp0 : k % 2 ≤ 0 := by omega)
            | (have hp1 : 1 ≤ k % 2 := (by omega); have hb15 := HB15.out)
          clear hp
          go_wp2_with (refine wpList_index_run (by rfl) 9 (.tmp 27) (.tmp 28) (by rfl) (.string s) (.int .i64 (k : Int)) (.int .u8 (e : Int)) (by rfl) (by rfl) (HIN.out _) ?_)
          go_roundw
          case rel => exact ⟨k + 1, by omega, by go_num, kr⟩
          case measure => first | (simp [intOf]; done) | (simp [intOf]; omega)
      · have HRX : Hid (∀ V, Later w3 V → V.heap[W.heap.size]? = some (.cells X 24 (0, 0))) := fun V hv => (hv.out.block _ hlt4.1 id).trans hx4.out
        have HRZ : Hid (∀ V, Later w3 V → V.heap[W1.heap.size]? = some (.cells Y 24 (0, 0))) := fun V hv => (hv.out.block _ hlt4.2 id).trans hz4.out
        have hzs : (Tryd.prog.info? 24).map (·.size) = some (Y : Array Value).size := by rw [← HZZ.out, List.size_toArray, bvs_length, hzl]; exact size_hash'
        have HZS := Lib.hid hzs
        clear hzs
        obtain ⟨i0, hi0, _⟩ := info_parts info_u8t
        have hea : ∀ V, (binOp .eql 24 (.agg X) (.agg Y)).run Tryd.prog V = .ok (.bool (zx == zz)) V := fun V => by
          have h := run_eql_bytes (P := Tryd.prog) V 24 5 32 Tryd.underlying24 Tryd.underlying5 hi0 (by kernel_rfl) (by kernel_rfl) zx zz HX.out hzl
          rw [HXX.out, HZZ.out] at h
          exact h
        obtain ⟨s2, hs2⟩ : ∃ s2, strOf (hex zz) = s2 := ⟨_, rfl⟩
        have HS2 : IsStr (hex zz) s2 := ⟨hs2⟩
        have hbb : (s.toList == s2.toList) = (zx == zz) := by
          rw [← hs2, ← HS.out, str_list, str_list]
          by_cases h : zx = zz
          · rw [h]; simp
          · rw [beq_eq_false_iff_ne.2 (fun h2 => h (hex_inj zx zz (by rw [HX.out, hzl]) h2)), beq_eq_false_iff_ne.2 h]
        have htz := text_any zz
        rw [hs2, HZZ.out] at htz
        have HTZ := Lib.hid htz
        have HZL := Lib.hid hzl
        clear hi0 hs2 htz hzl
        go_wp2
        clear hlt hk
        cases hq : (zx == zz)
        all_goals
          rw [hq] at hbb hea
          clear hq
          have HEA := Lib.hid hea
          clear hea
          refine wp_region_class (Later w3) (by kernel_rfl) (by kernel_rfl) ⟨kr.drew⟩ ?_
          go_big_quiet_step ((intro _; rfl))
          refine class_load (by rfl) 24 (.tmp 4) (by rfl) W1.heap.size (by rfl) 24 Y (0, 0) _ HRZ.out Tryd.underlying24 rfl HZS.out ?_
          simp only [Act.put, List.setIfInBounds_toArray, List.set_cons_zero, List.set_cons_succ]
          go_big_quiet_want
          go_big_quiet_op
          refine ⟨.string s2, fun V hV => (HTZ.out V HZL.out).mono fun e w' h => ⟨h.1, ⟨hV.out.trans h.2⟩⟩, ?_⟩
          go_big_quiet_on
          go_big_quiet_step ((intro _; rfl))
          refine class_load (by rfl) 24 (.tmp 3) (by rfl) W.heap.size (by rfl) 24 X (0, 0) _ HRX.out Tryd.underlying24 rfl HXS.out ?_
          simp only [Act.put, List.setIfInBounds_toArray, List.set_cons_zero, List.set_cons_succ]
          refine class_load (by rfl) 24 (.tmp 4) (by rfl) W1.heap.size (by rfl) 24 Y (0, 0) _ HRZ.out Tryd.underlying24 rfl HZS.out ?_
          simp only [Act.put, List.setIfInBounds_toArray, List.set_cons_zero, List.set_cons_succ]
          refine class_eq (by rfl) .eql 24 _ (.tmp 61) (.tmp 62) (by rfl) X Y (by rfl) (by rfl) (by kernel_rfl) _ HEA.out ?_
          simp only [Act.put, List.setIfInBounds_toArray, List.set_cons_zero, List.set_cons_succ]
          repeat (go_big_quiet_step ((intro _; rfl)))
          refine wpQuiet_nil ?_
          intro w6 k6
          go_wp2
          go_ret
          exact ⟨rfl, BEL.out _ k6.out⟩
/-- All. -/
theorem text_all (zx zy : List UInt8) (same : Bool) (W : World) (hT : Tabs W) (hx : zx.length = 32) (hy : zy.length = 32) :
    Calls Tryd.prog 5 #[.agg (bvs zx).toArray, .agg (bvs zy).toArray, .bool same] W fun e W' => e = .returned (.bool true) ∧ Below W.heap.size W W' :=
  text_rest zx zy _ same W hT hx hy rfl
end Go.Proofs.YtahjmlhomaommaaDoor
