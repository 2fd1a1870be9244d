/-
  The document's own of layer 21, by value: whether something was told on; a round.
-/
import Derived.Test.YtmhbfchhooggjaaGoN
namespace Go.Proofs.Ytmhbfchhooggjaa
open Go.RowKit Go.BigFrame
set_option linter.unusedVariables false
set_option linter.unusedSimpArgs false

theorem hash_at21 {w : World} {A : Option Addr} {n c : Nat} {xs : List (List UInt8)} (h : LH w A n c xs) {i : Nat} {x : List UInt8} (hx : xs[i]? = some x) : ∃ ad, A = some ad ∧ x.length = 32 ∧ ∀ j v, (bvs x)[j]? = some v → w.cell? ((ad.add (i * 32)).add j) = some v := by
  obtain ⟨h1, ad, h2, h3⟩ := h.at_ i x hx
  exact ⟨ad, h2, h1, fun j v hv => by rw [Addr.add_add]; exact h3 j v hv⟩
set_option maxRecDepth 100000 in
set_option maxHeartbeats 2000000 in
theorem rseen_any (w : World) (g : Gp.G) (A : Option Addr) (n c : Nat) (qk : List UInt8) (hT : LH w A n c g.told) (hi : qk.length = 32) :
    Calls Try.prog 16 #[.agg (gcs g (.slice A n c)).toArray, .agg (bvs qk).toArray] w fun e w' => e = .returned (.bool (decide (qk ∈ g.told))) ∧ Keeps (fun _ => False) w w' := by
  have hcn := hT.le
  have hcx := hT.max
  obtain ⟨ts, hts⟩ : ∃ ts, g.told = ts := ⟨_, rfl⟩
  rw [hts] at hT ⊢
  have HN := Lib.hid hT.many
  obtain ⟨C, hC⟩ : ∃ C, (gcs g (.slice A n c)).toArray = C := ⟨_, rfl⟩
  obtain ⟨YL, hYL⟩ : ∃ Y, (bvs qk).toArray = Y := ⟨_, rfl⟩
  obtain ⟨b1, hb1⟩ : ∃ x, w.heap.size = x := ⟨_, rfl⟩
  obtain ⟨W1, hW1⟩ : ∃ V, w.alloc (.cells C 31) = V := ⟨_, rfl⟩
  obtain ⟨b2, hb2⟩ : ∃ x, W1.heap.size = x := ⟨_, rfl⟩
  obtain ⟨W2, hW2⟩ : ∃ V, W1.alloc (.cells YL 36) = V := ⟨_, rfl⟩
  have k1 : Keeps (fun _ => False) w W1 := by rw [← hW1]; exact (Keeps.refl _ _).alloc _
  have k2 : Keeps (fun _ => False) W1 W2 := by rw [← hW2]; exact (Keeps.refl _ _).alloc _
  have r1 : Row W2 b1 31 (gcs g (.slice A n c)) := by
    have h : Row W1 b1 31 (gcs g (.slice A n c)) := by rw [← hW1, ← hb1, ← hC]; exact heap_alloc_new w _
    exact h.keeps k2 id
  have r2 : W2.heap[b2]? = some (.cells YL 36 (0, 0)) := by rw [← hW2, ← hb2]; exact heap_alloc_new W1 _
  have HT := Lib.hid (hT.later (k1.trans k2))
  have R1 := Lib.hid r1
  have R2 := Lib.hid r2
  have K2 := Lib.hid (k1.trans k2)
  have SYL : Hid ((Try.prog.info? 36).map (·.size) = some YL.size) := Lib.hid (by rw [← hYL, List.size_toArray, bvs_length, hi]; exact info_h)
  have HI := Lib.hid (And.intro hi hYL)
  rw [hC, hYL]
  clear hC hYL k1 k2 r1 r2 hT hi hts
  go_enter Try.func16, Try.ntmps16
  go_wp2_with fail
  clear hW1 hW2 hb1 hb2
  go_loopw [5] (fun iv wr => ∃ i : Nat, i ≤ n ∧ iv = .int .i64 (i : Int) ∧ Hid (qk ∉ ts.take i) ∧ Hid (Keeps (fun _ => False) W2 wr)) (fun iv _ => n - (intOf iv).toNat)
  case atStart => exact ⟨0, by omega, rfl, Lib.hid (by simp), Lib.hid (Keeps.refl _ _)⟩
  case round =>
    obtain ⟨i, hi, rfl, HP, HK⟩ := hrel
    have ht4 : wr.cell? ⟨b1, 4, none⟩ = some (.slice A n c) := (R1.out.keeps HK.out id).cell 4
    by_cases hlt : i < n
    · have hii : (i : Int) < (n : Int) := by omega
      obtain ⟨x, hx⟩ : ∃ x, ts[i]? = some x := ⟨_, List.getElem?_eq_getElem (by have := HN.out; omega)⟩
      obtain ⟨ad, rfl, hxl, hxc⟩ := hash_at21 HT.out hx
      have htk : ts.take (i + 1) = ts.take i ++ [x] := by
        obtain ⟨h1, h2⟩ := List.getElem?_eq_some_iff.1 hx
        rw [List.take_succ_eq_append_getElem h1, h2]
      obtain ⟨r, hr⟩ : ∃ r, decide (x = qk) = r := ⟨_, rfl⟩
      have ER : Hid (∀ V : World, (binOp .eql 36 (.agg (bvs x).toArray) (.agg YL)).run Try.prog V = .ok (.bool r) V) := Lib.hid (fun V => by rw [← hr, ← HI.out.2]; exact run_eql_hash x qk hxl HI.out.1 V)
      have SXL : Hid ((Try.prog.info? 36).map (·.size) = some (bvs x).length) := Lib.hid (by rw [bvs_length, hxl]; exact info_h)
      have HTK : Hid ((r = true → qk ∈ ts) ∧ (r = false → qk ∉ ts.take (i + 1))) := Lib.hid ⟨fun e => by rw [e] at hr; rw [← of_decide_eq_true hr]; exact List.mem_of_getElem? hx, fun e => by
        rw [e] at hr
        have h1 := of_decide_eq_false hr
        rw [htk, List.mem_append, List.mem_singleton]
        rintro (h | h)
        · exact HP.out h
        · exact h1 h.symm⟩
      obtain ⟨XL, hXL⟩ : ∃ L, bvs x = L := ⟨_, rfl⟩
      rw [hXL] at hxc ER SXL
      have HXC : Hid (∀ V, Later wr V → ∀ j v, XL[j]? = some v → V.cell? ((ad.add (i * 32)).add j) = some v) := Lib.hid (fun V hV j v hv => ((HK.out.trans hV.out).cell (World.block_lt_of_cell? _ _ (hxc j v hv)) id).trans (hxc j v hv))
      have HT4 : Hid (∀ V, Later wr V → V.cell? ⟨b1, 4, none⟩ = some (.slice (some ad) n c)) := Lib.hid (fun V hV => (R1.out.keeps (HK.out.trans hV.out) id).cell 4)
      have HY2 : Hid (∀ V, Later wr V → V.heap[b2]? = some (.cells YL 36 (0, 0))) := Lib.hid (fun V hV => ((HK.out.trans hV.out).block b2 (Array.getElem?_eq_some_iff.1 R2.out).1 id).trans R2.out)
      clear hx hxl hxc htk hr hXL
      go_wp2_with fail
      refine wp_region_class (Later wr) (by kernel_rfl) (by kernel_rfl) (⟨(Keeps.refl _ _).drew⟩) ?_
      refine class_value (by rfl) (.pointer (some ⟨b1, 4, none⟩)) (fun V hV => by go_simp) ?_
      simp only [Act.put, List.setIfInBounds_toArray, List.set_cons_zero, List.set_cons_succ]
      refine class_cell (by rfl) 29 (.tmp 13) (by rfl) ⟨b1, 4, none⟩ (by rfl) (.slice (some ad) n c) _ (fun V hV => HT4.out V hV) Try.underlying29 rfl ?_
      simp only [Act.put, List.setIfInBounds_toArray, List.set_cons_zero, List.set_cons_succ]
      refine class_value (by rfl) (.int .i64 (i : Int)) (fun V hV => by go_simp) ?_
      simp only [Act.put, List.setIfInBounds_toArray, List.set_cons_zero, List.set_cons_succ]
      refine class_value (by rfl) (.pointer (some (ad.add (i * 32)))) (fun V hV => by go_simp) ?_
      simp only [Act.put, List.setIfInBounds_toArray, List.set_cons_zero, List.set_cons_succ]
      refine class_any (by rfl) 36 (.tmp 16) (by rfl) (ad.add (i * 32)) (by rfl) XL _ (fun V hV => HXC.out V hV) Try.underlying36 rfl SXL.out ?_
      simp only [Act.put, List.setIfInBounds_toArray, List.set_cons_zero, List.set_cons_succ]
      refine class_load (by rfl) 36 (.tmp 3) (by rfl) b2 (by rfl) _ YL _ _ (fun V hV => HY2.out V hV) Try.underlying36 rfl SYL.out ?_
      simp only [Act.put, List.setIfInBounds_toArray, List.set_cons_zero, List.set_cons_succ]
      refine class_eq (by rfl) .eql 36 _ (.tmp 17) (.tmp 18) (by rfl) XL.toArray YL (by rfl) (by rfl) (by kernel_rfl) (.bool r) (ER.out) ?_
      simp only [Act.put, List.setIfInBounds_toArray, List.set_cons_zero, List.set_cons_succ]
      refine wpQuiet_nil ?_
      intro V6 k6
      have K6 := Lib.hid (HK.out.trans k6.out)
      clear k6 HXC HT4 HY2 ht4
      cases r with
      | true =>
        have HD : Hid (decide (qk ∈ ts) = true) := Lib.hid (decide_eq_true (HTK.out.1 rfl))
        go_wp2
        go_ret
        exact ⟨by rw [HD.out]; rfl, K2.out.trans K6.out⟩
      | false =>
        have HN2 := Lib.hid (HTK.out.2 rfl)
        go_wp2
        go_roundw
        case rel => exact ⟨i + 1, by omega, by go_num, HN2, K6⟩
        case measure => simp [intOf]; omega
    · obtain rfl : i = n := by omega
      have HD : Hid (decide (qk ∈ ts) = false) := Lib.hid (decide_eq_false (by have h := HP.out; rwa [List.take_of_length_le (by have := HN.out; omega)] at h))
      go_wp2
      go_ret
      exact ⟨by rw [HD.out]; rfl, K2.out.trans HK.out⟩
theorem isl21 : ∀ x y : Option Addr × Nat, ∀ m : Nat, Value.slice x.1 m x.2 = Value.slice y.1 m y.2 → x = y := fun x y m h => by
  injection h with h1 _ h3
  exact Prod.ext h1 h3
theorem gcs_len (g : Gp.G) (T : Value) : (gcs g T).length = 5 := rfl
set_option maxRecDepth 100000 in
set_option maxHeartbeats 2000000 in
theorem rround_any (w : World) (g : Gp.G) (A : Option Addr) (tn tc : Nat) (A2 : Option Addr) (c2 : Nat) (l : List Int) (hg : g.Ok) (hS : Src w A2 (ivs l)) (hlc : l.length ≤ c2) (hcx : c2 ≤ 9223372036854775807) (hn : l.length ≤ 1000) :
    Calls Try.prog 11 #[.agg (gcs g (.slice A tn tc)).toArray, .slice A2 l.length c2] w fun e w' => ∃ (A' : Option Addr) (c' : Nat), e = .returned (.tuple #[.agg (gcs (Gp.round g l).1 (.slice A tn tc)).toArray, .slice A' (Gp.round g l).2.length c']) ∧ w'.ownsRow w.heap.size 3 1 (.slice A' (Gp.round g l).2.length c') (Gp.round g l).2.length (ivs (Gp.round g l).2) ∧ Keeps (fun _ => False) w w' := by
  have hcan := hg.inn
  unfold Gp.In at hcan
  have hol := Gp.oth_le g l (-1)
  obtain ⟨os, hos⟩ : ∃ os, Gp.oth g l (-1) = os := ⟨_, rfl⟩
  have hot := fun V (hV : Src V A2 (ivs l)) => rothers_any V g (.slice A tn tc) A2 c2 l (-1) rfl hV hlc hcx hn (by omega)
  have hpk := fun V A' c' (hV : Src V A' (ivs os)) => rpick_any V g.s A' c' os g.fan hV (by rw [← hos]; omega) (by simp [Lit.wf, IntKind.min, IntKind.max, IntKind.signed, IntKind.bits]; omega)
  have hr1 : (Gp.round g l).1 = { g with s := (Di.pick g.s os g.fan).s } := by unfold Gp.round; rw [hos]
  have hr2 : (Gp.round g l).2 = (Di.pick g.s os g.fan).out := by unfold Gp.round; rw [hos]
  rw [hr1, hr2]
  obtain ⟨ps, hps⟩ : ∃ ps, (Di.pick g.s os g.fan).out = ps := ⟨_, rfl⟩
  obtain ⟨sb, hsb⟩ : ∃ ps, (Di.pick g.s os g.fan).s = ps := ⟨_, rfl⟩
  obtain ⟨n, hnn⟩ : ∃ n, l.length = n := ⟨_, rfl⟩
  obtain ⟨mo, hmo⟩ : ∃ n, os.length = n := ⟨_, rfl⟩
  obtain ⟨mp, hmp⟩ : ∃ n, ps.length = n := ⟨_, rfl⟩
  obtain ⟨s1, hs1⟩ : ∃ s, di g.s = s := ⟨_, rfl⟩
  obtain ⟨s2, hs2⟩ : ∃ s, di sb = s := ⟨_, rfl⟩
  obtain ⟨fan, hfan⟩ : ∃ n, g.fan = n := ⟨_, rfl⟩
  rw [hos] at hot hol
  rw [hps, hsb] at hpk
  rw [hps, hsb]
  rw [hmo] at hot hpk hol
  rw [hmp] at hpk
  rw [hmp]
  rw [hs1, hs2, hfan] at hpk
  rw [hnn] at hot hlc hn hol
  rw [hnn]
  have hnew : ∀ T : Value, (gcs { g with s := sb } T) = (gcs g T).set 3 (.int .u64 s2) := fun T => by rw [← hs2]; rfl
  have hold : ∀ T : Value, (gcs g T) = [.int .i64 (g.me : Int), .int .i64 (g.many : Int), .int .i64 (fan : Int), .int .u64 s1, T] := fun T => by rw [← hs1, ← hfan]; rfl
  obtain ⟨CL, hCL⟩ : ∃ C, gcs g (.slice A tn tc) = C := ⟨_, rfl⟩
  obtain ⟨CN, hCN⟩ : ∃ C, (gcs { g with s := sb } (.slice A tn tc)).toArray = C := ⟨_, rfl⟩
  obtain ⟨Z, hZ⟩ : ∃ Z, gz = Z := ⟨_, rfl⟩
  have hz : ∀ V : World, (zeroValue 31).run Try.prog V = .ok (.agg Z) V := fun V => by rw [← hZ]; exact zero_g21 V
  obtain ⟨b1, hb1⟩ : ∃ x, w.heap.size = x := ⟨_, rfl⟩
  obtain ⟨W1, hW1⟩ : ∃ V, w.alloc (.cells CL.toArray 31) = V := ⟨_, rfl⟩
  obtain ⟨b4, hb4⟩ : ∃ x, W1.heap.size = x := ⟨_, rfl⟩
  obtain ⟨W2, hW2⟩ : ∃ V, W1.alloc (.cells Z 31) = V := ⟨_, rfl⟩
  have k1 : Keeps (fun _ => False) w W1 := by rw [← hW1]; exact (Keeps.refl _ _).alloc _
  have k2 : Keeps (fun _ => False) W1 W2 := by rw [← hW2]; exact (Keeps.refl _ _).alloc _
  have r1 : Row W2 b1 31 CL := by
    have h : Row W1 b1 31 CL := by rw [← hW1, ← hb1]; exact heap_alloc_new w _
    exact h.keeps k2 id
  have r4 : W2.heap[b4]? = some (.cells Z 31 (0, 0)) := by rw [← hW2, ← hb4]; exact heap_alloc_new W1 _
  have hb14 : b4 = b1 + 1 := by rw [← hb4, ← hW1, ← hb1]; simp
  have hB2 : W2.heap.size = b1 + 2 := by rw [← hW2]; simp [hb4, hb14]
  obtain ⟨B, hB⟩ : ∃ B, b1 + 2 = B := ⟨_, rfl⟩
  have HBB := Lib.hid (And.intro hb1 (And.intro hb14 (hB2.trans hB)))
  have HOT : Hid (∀ V, Keeps (fun _ => False) W2 V → Calls Try.prog 22 #[.agg CL.toArray, .slice A2 n c2, .int .i64 (-1)] V fun e w' => ∃ x : Option Addr × Nat, e = .returned (.slice x.1 mo x.2) ∧ Later W2 w' ∧ w'.ownsRow B 3 1 (.slice x.1 mo x.2) mo (ivs os)) := Lib.hid (fun V hV => by
    rw [← hCL]
    refine (hot V (hS.keeps ((k1.trans k2).trans hV) (fun _ _ _ => id))).mono ?_
    rintro e w' ⟨A', c', rfl, ho, hk⟩
    exact ⟨(A', c'), rfl, ⟨hV.trans hk⟩, own_base ho (by have := hV.size; omega)⟩)
  have HPK : Hid (∀ V A' c', Keeps (fun _ => False) W2 V → V.ownsRow B 3 1 (.slice A' mo c') mo (ivs os) → Calls Try.prog 21 #[.int .u64 s1, .slice A' mo c', .int .i64 (fan : Int)] V fun e w' => ∃ x : Option Addr × Nat, e = .returned (.tuple #[.int .u64 s2, .slice x.1 mp x.2]) ∧ Later W2 w' ∧ w'.ownsRow B 3 1 (.slice x.1 mp x.2) mp (ivs ps)) := Lib.hid (fun V A' c' hV ho => by
    refine (hpk V A' c' (Src.of_own ho)).mono ?_
    rintro e w' ⟨v, rfl, ho2, hk⟩
    obtain ⟨A3, c3, rfl⟩ := own_slice ho2
    exact ⟨(A3, c3), rfl, ⟨hV.trans hk⟩, own_base ho2 (by have := hV.size; omega)⟩)
  have HD3 : Hid (∀ V, Later W2 V → V.cell? ⟨b1, 3, none⟩ = some (.int .u64 s1)) := Lib.hid (fun V hV => by have h := (r1.keeps hV.out id).cell 3; rw [← hCL, hold] at h; exact h)
  have HF2 : Hid (∀ V, Later W2 V → V.cell? ⟨b1, 2, none⟩ = some (.int .i64 (fan : Int))) := Lib.hid (fun V hV => by have h := (r1.keeps hV.out id).cell 2; rw [← hCL, hold] at h; exact h)
  have HCL : Hid (∀ V, Later W2 V → V.rangeAt b1 0 CL) := Lib.hid (fun V hV j v hv => by rw [(r1.keeps hV.out id).cell, Nat.zero_add]; exact hv)
  have SCL : Hid ((Try.prog.info? 31).map (·.size) = some CL.length) := Lib.hid (by rw [← hCL]; exact size_g21)
  have R1 := Lib.hid r1
  have R4 := Lib.hid r4
  have K2 := Lib.hid (k1.trans k2)
  have SCN : Hid ((Try.prog.info? 31).map (·.size) = some CN.size ∧ Z.size = CN.size ∧ CN.all (·.oneCell') = true ∧ (CL.set 3 (.int .u64 s2)).toArray = CN) := Lib.hid ⟨by rw [← hCN]; exact size_g21, by rw [← hCN, ← hZ]; rfl, by rw [← hCN]; exact gcs_one _ _ _ _, by rw [← hCN, hnew, hCL]⟩
  rw [hCN, hCL]
  clear hot hpk hr1 hr2 hps hsb hmo hmp hs1 hs2 hfan hos hnn hnew hold hCL hCN hZ k1 k2 r1 r4 hb14 hB2 hS hg hcan
  go_enter Try.func11, Try.ntmps11
  go_wp2_with fail
  clear hW1 hW2 hb1 hb4
  refine wp_region_stores 13 [4, 7] [0, 1, 2, 3, 5, 6, 4, 7, 8, 9, 10, 11, 12] (Later W2) (fun _ => True) (by kernel_rfl) (by kernel_rfl) (Lasts.later W2) (Lasts.true) (⟨(Keeps.refl _ _).drew⟩) (trivial) ?_
  refine T_value (get_op rfl) (by rfl) (by rfl) (.pointer (some ⟨b1, 3, none⟩)) (fun _ _ => by go_simp) ?_
  simp only [Act.put, List.setIfInBounds_toArray, List.set_cons_zero, List.set_cons_succ]
  refine T_cell (get_op rfl) (by rfl) (by rfl) 22 (.tmp 9) (by rfl) ⟨b1, 3, none⟩ (by rfl) (.int .u64 s1) _ (fun V hV => HD3.out V hV) Try.underlying22 rfl ?_
  simp only [Act.put, List.setIfInBounds_toArray, List.set_cons_zero, List.set_cons_succ]
  refine T_load (get_op rfl) (by rfl) (by rfl) 31 (.tmp 2) (by rfl) b1 0 (by rfl) CL _ (fun V hV => HCL.out V hV) Try.underlying31 rfl SCL.out ?_
  simp only [Act.put, List.setIfInBounds_toArray, List.set_cons_zero, List.set_cons_succ]
  refine T_quiet (get_op rfl) (by rfl) (by rfl) (by rfl) ?_
  intro K hK
  go_big_quiet_op
  first | go_big_quiet_on | go_big_quiet_call ((intro _; rfl))
  refine T_value (get_op rfl) (by rfl) (by rfl) (.pointer (some ⟨b1, 2, none⟩)) (fun _ _ => by go_simp) ?_
  simp only [Act.put, List.setIfInBounds_toArray, List.set_cons_zero, List.set_cons_succ]
  refine T_cell (get_op rfl) (by rfl) (by rfl) 3 (.tmp 14) (by rfl) ⟨b1, 2, none⟩ (by rfl) (.int .i64 (fan : Int)) _ (fun V hV => HF2.out V hV) Try.underlying3 rfl ?_
  simp only [Act.put, List.setIfInBounds_toArray, List.set_cons_zero, List.set_cons_succ]
  refine T_enterR (get_op rfl) (by rfl) (by rfl) _ _ (fun x : Option Addr × Nat => Value.slice x.1 mo x.2) (fun x y h => isl21 x y mo h) (fun _ => by go_simp) (fun x V => V.ownsRow B 3 1 (.slice x.1 mo x.2) mo (ivs os)) (fun x V V' h k => k.owns h (fun _ _ => id)) (fun V hV hf => HOT.out V hV.out) ?_
  intro xo
  simp only [Act.put, List.setIfInBounds_toArray, List.set_cons_zero, List.set_cons_succ]
  refine T_enterR (get_op rfl) (by rfl) (by rfl) _ _ (fun x : Option Addr × Nat => Value.tuple #[.int .u64 s2, .slice x.1 mp x.2]) (fun x y h => by injection h with h; injection h with h; injection h with _ h; injection h with h _; exact isl21 x y mp h) (fun _ => by go_simp) (fun x V => V.ownsRow B 3 1 (.slice x.1 mp x.2) mp (ivs ps)) (fun x V V' h k => k.owns h (fun _ _ => id)) (fun V hV hf => HPK.out V xo.1 xo.2 hV.out hf) ?_
  intro xp
  simp only [Act.put, List.setIfInBounds_toArray, List.set_cons_zero, List.set_cons_succ]
  refine T_value (get_op rfl) (by rfl) (by rfl) (.tuple #[.int .u64 s2, .slice xp.1 mp xp.2]) (fun _ _ => by go_simp) ?_
  simp only [Act.put, List.setIfInBounds_toArray, List.set_cons_zero, List.set_cons_succ]
  refine T_value (get_op rfl) (by rfl) (by rfl) (.int .u64 s2) (fun _ _ => by go_simp) ?_
  simp only [Act.put, List.setIfInBounds_toArray, List.set_cons_zero, List.set_cons_succ]
  refine T_value (get_op rfl) (by rfl) (by rfl) (.slice xp.1 mp xp.2) (fun _ _ => by go_simp) ?_
  simp only [Act.put, List.setIfInBounds_toArray, List.set_cons_zero, List.set_cons_succ]
  refine T_value (get_op rfl) (by rfl) (by rfl) (.int .u64 s2) (fun _ _ => by go_simp) ?_
  simp only [Act.put, List.setIfInBounds_toArray, List.set_cons_zero, List.set_cons_succ]
  refine T_value (get_op rfl) (by rfl) (by rfl) (.slice xp.1 mp xp.2) (fun _ _ => by go_simp) ?_
  simp only [Act.put, List.setIfInBounds_toArray, List.set_cons_zero, List.set_cons_succ]
  refine T_nil ?_
  intro V5 k5 f5
  simp only [List.drop_succ_cons, List.drop_zero]
  have O5 := Lib.hid f5
  have K5 := Lib.hid k5.out
  have e5 := R1.out.keeps k5.out id
  have q5 := (k5.out.block b4 (Array.getElem?_eq_some_iff.1 R4.out).1 id).trans R4.out
  have hc5 : V5.cell? ⟨b1, 3, none⟩ = some (.int .u64 s1) := HD3.out V5 k5
  have hf5 : V5.frozen? ⟨b1, 3, none⟩ = false := e5.frozen 3
  obtain ⟨V6, hV6⟩ : ∃ V, V5.setCell ⟨b1, 3, none⟩ (.int .u64 s2) = V := ⟨_, rfl⟩
  have k6 : Keeps (fun j => j = b1) V5 V6 := by rw [← hV6]; exact (Keeps.refl (fun j => j = b1) V5).setCell (p := ⟨b1, 3, none⟩) (fun _ => rfl) _
  have e6 : V6.heap[b1]? = some (.cells CN 31 (0, 0)) := by rw [← hV6, ← SCN.out.2.2.2]; exact e5.set 3 _
  have q6 := (k6.block b4 (Array.getElem?_eq_some_iff.1 q5).1 (fun e => by have := HBB.out; have e' : b4 = b1 := e; omega)).trans q5
  obtain ⟨V7, hV7⟩ : ∃ V, V6.setRow b4 CN = V := ⟨_, rfl⟩
  have k7 : Keeps (fun j => j = b4) V6 V7 := by rw [← hV7]; exact Keeps.setRow _ _
  have q7 : V7.heap[b4]? = some (.cells CN 31 (0, 0)) := by rw [← hV7]; exact setRow_heap _ _ _ _ _ _ q6
  have FIN : Hid (V7.ownsRow w.heap.size 3 1 (.slice xp.1 mp xp.2) mp (ivs ps) ∧ Keeps (fun _ => False) w V7) := Lib.hid ⟨own_base (k7.owns (k6.owns O5.out (fun j hj e => by obtain ⟨_, _, h0⟩ := own_block O5.out j hj; have e' : j = b1 := e; omega)) (fun j hj e => by obtain ⟨_, _, h0⟩ := own_block O5.out j hj; have := HBB.out; have e' : j = b4 := e; omega)) (by have := HBB.out; omega), ((K2.out.trans K5.out).trans' k6 (fun i hi e => by have := HBB.out; have e' : i = b1 := e; omega)).trans' k7 (fun i hi e => by have := HBB.out; have e' : i = b4 := e; omega)⟩
  have E6 := Lib.hid e6
  have Q6 := Lib.hid q6
  have Q7 := Lib.hid q7
  clear k5 f5 e5 q5 k6 e6 q6 k7 q7
  go_wp2_with (first
    | (refine wpList_load_row (by rfl) 31 _ (by rfl) b1 (by rfl) 31 CN (0, 0) _ E6.out Try.underlying31 rfl SCN.out.1 ?_)
    | (refine wpList_store_row (by rfl) 31 _ _ (by rfl) b4 CN (by rfl) (by rfl) 31 Z Q6.out SCN.out.1 SCN.out.2.1 SCN.out.2.2.1 ?_; rw [hV7])
    | fail)
  refine bodyPost_ret (results_cell_tmp21 rfl _ _ b4 31 CN (0, 0) _ rfl Q7.out Try.underlying31 rfl SCN.out.1) rfl ?_
  exact ⟨xp.1, xp.2, rfl, FIN.out.1, FIN.out.2⟩
end Go.Proofs.Ytmhbfchhooggjaa