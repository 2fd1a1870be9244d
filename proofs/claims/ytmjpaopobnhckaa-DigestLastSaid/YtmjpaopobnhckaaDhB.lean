/-
  digest.Make (the last ones, of other memory), digest.Wants, digest.Lacks, digest.Misses.
-/
import Derived.Test.YtmjpaopobnhckaaDhA
import Derived.Test.YtmjpaopobnhckaaDgMe
namespace Go.Proofs.Ytmjpaopobnhckaa
open Go.RowKit Go.BigFrame
set_option linter.unusedVariables false
set_option linter.unusedSimpArgs false

theorem max_zero {P : Program} (w : World) (ts : Array TypeId) (t : TypeId) (n : Nat) (x : Int) (h : x = (n : Int) - 32) : (Builtin.max_ ts t #[.int .i64 0, .int .i64 x]).run P w = .ok (.int .i64 ((n - 32 : Nat) : Int)) w := by
  have e : (if (0 : Int) < x then x else 0) = ((n - 32 : Nat) : Int) := by
    split <;> omega
  rw [← e]
  simp [Builtin.max_, Builtin.max2]
theorem make_keys0 (w : World) : (Instr.buildSlice 22 0 #[]).run Try.prog w = .ok (.slice (some ⟨w.heap.size, 0, none⟩) 0 0) (w.alloc (.cells #[] 54)) := by kernel_rfl
set_option maxRecDepth 100000 in
theorem keysclone_any (w : World) (A : Option Addr) (n c : Nat) (xs : List Ft.Key) (hA : LK w A n c xs) (hn : n ≤ 1000) :
    Calls Try.prog 44 #[.slice A n c] w fun e w' => ∃ (A' : Option Addr) (c' : Nat), e = .returned (.slice A' n c') ∧ Keeps (fun _ => False) w w' ∧ ∀ V, Keeps (fun j => j < w.heap.size) w' V → LK V A' n c' xs := by
  have q28 : ∀ (w : World) (a : Option Addr) (n c n' c' : Nat), (binOp .eql 22 (.slice a n c) (.slice none n' c')).run Try.prog w = .ok (.bool a.isNone) w := fun w a n c n' c' => Lib.run_eql_slice_nil w _ _ a n c n' c' Try.underlying22
  cases A with
  | none =>
    have hc := hA.nil rfl
    have hle := hA.le
    have hm := hA.many
    obtain rfl : n = 0 := by omega
    obtain rfl : xs = [] := List.eq_nil_of_length_eq_zero hm
    go_enter Try.func44, Try.ntmps44
    go_wp2
    go_ret
    exact ⟨none, 0, rfl, Keeps.refl _ _, fun _ _ => IsList.empty _ _ _ _⟩
  | some ad =>
    obtain ⟨ih, zh, hih, hzh, hsh, hbh, hzsh⟩ := info_keys_in
    have hk0 : Keeps (fun _ => False) w (w.alloc (.cells #[] 54)) := (Keeps.refl _ _).alloc _
    have HA := Lib.hid (hA.later hk0)
    have HOK := Lib.hid hA.okAll
    have hcn := hA.le
    have hcx := hA.max
    have HMY := Lib.hid hA.many
    have HK0 := Lib.hid hk0
    have HMK := Lib.hid (make_keys0 w)
    clear hA hk0
    go_enter Try.func44, Try.ntmps44
    go_wp2_with (first
      | (refine wpList_append_list19 (by rfl) (.tmp 5) (.tmp 6) 22 (by rfl) w.heap.size 54 ih zh 33 40 Try.underlying22 hih hzh hsh hbh hzsh (by decide) (.slice (some ⟨w.heap.size, 0, none⟩) 0 0) 0 [] (by rfl) (World.ownsRow_made w #[] 0 (Nat.le_refl _) (Nat.zero_le _) rfl) (some ad) n c xs (by rfl) HA.out kcs_len (flt_one kcs_one xs) (by unfold maxLen; omega) (by omega) (by simp) ?_; intro v1 w1 ho1 hg1; obtain ⟨A1, c1, rfl⟩ := own_slice ho1; rw [List.nil_append] at ho1; have HO1 := Lib.hid ho1; have HK1 := Lib.hid (HK0.out.grown hg1 (fun k hk h => by simp only [Value.ownBlock, Option.some.injEq] at h; omega)); clear ho1 hg1)
      | fail)
    go_ret
    have ho := HO1.out
    simp only [Nat.zero_add] at ho
    refine ⟨A1, c1, rfl, HK1.out, fun V hV => ?_⟩
    have hm := HMY.out
    subst hm
    exact IsList.of_own kcs_len (by decide) HOK.out (hV.owns ho (fun j hj e => by obtain ⟨_, _, h0⟩ := own_block ho j hj; exact absurd (show j < w.heap.size from e) (by omega)))
set_option maxRecDepth 100000 in
theorem keyslast_any (w : World) (A : Option Addr) (n c : Nat) (xs : List Ft.Key) (hA : LK w A n c xs) (hn : n ≤ 1000) :
    Calls Try.prog 24 #[.slice A n c, .int .i64 32] w fun e w' => ∃ (A' : Option Addr) (c' : Nat), e = .returned (.slice A' (Dg.last xs).length c') ∧ Keeps (fun _ => False) w w' ∧ ∀ V, Keeps (fun j => j < w.heap.size) w' V → LK V A' (Dg.last xs).length c' (Dg.last xs) := by
  have hcn := hA.le
  have hcx := hA.max
  have hd := hA.drop (n - 32) (by omega)
  have hl : xs.drop (n - 32) = Dg.last xs := by unfold Dg.last; rw [hA.many]
  rw [hl] at hd
  have hs := fun V => slice_keys V A n c (n - 32) (by omega)
  have hw : wrap64 ((n : Int) - 32) = (n : Int) - 32 := IntWalk.wrap64_in _ (by omega)
  have hx := fun (V : World) (ts : Array TypeId) (t : TypeId) => max_zero (P := Try.prog) V ts t n ((n : Int) - 32) rfl
  obtain ⟨A3, hA3⟩ : ∃ z, (if c = n - 32 then A else A.map (·.add ((n - 32) * 33))) = z := ⟨_, rfl⟩
  obtain ⟨k, hk⟩ : ∃ k, n - 32 = k := ⟨_, rfl⟩
  obtain ⟨m, hm⟩ : ∃ m, (Dg.last xs).length = m := ⟨_, rfl⟩
  have hmm : n - (n - 32) = m := by rw [← hm, ← hd.many]
  rw [hA3, hmm] at hd hs
  rw [hk] at hd hs hx
  rw [hm]
  have HS := Lib.hid hs
  have HC := Lib.hid (keysclone_any w A3 m (c - k) (Dg.last xs) hd (by omega))
  clear hA hd hl hs hA3 hm hmm
  go_enter Try.func24, Try.ntmps24
  go_wp2_with (first
    | (refine wpList_slice19 (by rfl) 22 _ _ (by rfl) (.slice A n c) (.int .i64 (k : Int)) (.slice A3 m (c - k)) (by rfl) (by rfl) HS.out ?_)
    | fail)
  refine HC.out.mono ?_
  rintro e w1 ⟨A', c', rfl, k1, l1⟩
  have K1 := Lib.hid k1
  have L1 := Lib.hid l1
  clear k1 l1
  go_wp2
  go_ret
  exact ⟨A', c', rfl, K1.out, L1.out⟩
theorem make_hashes0 (w : World) : (Instr.buildSlice 23 0 #[]).run Try.prog w = .ok (.slice (some ⟨w.heap.size, 0, none⟩) 0 0) (w.alloc (.cells #[] 52)) := by kernel_rfl
set_option maxRecDepth 100000 in
theorem hashesclone_any (w : World) (A : Option Addr) (n c : Nat) (xs : List (List UInt8)) (hA : LH w A n c xs) (hn : n ≤ 1000) :
    Calls Try.prog 45 #[.slice A n c] w fun e w' => ∃ (A' : Option Addr) (c' : Nat), e = .returned (.slice A' n c') ∧ Keeps (fun _ => False) w w' ∧ ∀ V, Keeps (fun j => j < w.heap.size) w' V → LH V A' n c' xs := by
  have q28 : ∀ (w : World) (a : Option Addr) (n c n' c' : Nat), (binOp .eql 23 (.slice a n c) (.slice none n' c')).run Try.prog w = .ok (.bool a.isNone) w := fun w a n c n' c' => Lib.run_eql_slice_nil w _ _ a n c n' c' Try.underlying23
  cases A with
  | none =>
    have hc := hA.nil rfl
    have hle := hA.le
    have hm := hA.many
    obtain rfl : n = 0 := by omega
    obtain rfl : xs = [] := List.eq_nil_of_length_eq_zero hm
    go_enter Try.func45, Try.ntmps45
    go_wp2
    go_ret
    exact ⟨none, 0, rfl, Keeps.refl _ _, fun _ _ => IsList.empty _ _ _ _⟩
  | some ad =>
    obtain ⟨ih, zh, hih, hzh, hsh, hbh, hzsh⟩ := info_hashes_in
    have hk0 : Keeps (fun _ => False) w (w.alloc (.cells #[] 52)) := (Keeps.refl _ _).alloc _
    have HA := Lib.hid (hA.later hk0)
    have HOK := Lib.hid hA.okAll
    have hcn := hA.le
    have hcx := hA.max
    have HMY := Lib.hid hA.many
    have HK0 := Lib.hid hk0
    have HMK := Lib.hid (make_hashes0 w)
    clear hA hk0
    go_enter Try.func45, Try.ntmps45
    go_wp2_with (first
      | (refine wpList_append_list19 (by rfl) (.tmp 5) (.tmp 6) 23 (by rfl) w.heap.size 52 ih zh 32 32 Try.underlying23 hih hzh hsh hbh hzsh (by decide) (.slice (some ⟨w.heap.size, 0, none⟩) 0 0) 0 [] (by rfl) (World.ownsRow_made w #[] 0 (Nat.le_refl _) (Nat.zero_le _) rfl) (some ad) n c xs (by rfl) HA.out hbs_len (flt_one bvs_one xs) (by unfold maxLen; omega) (by omega) (by simp) ?_; intro v1 w1 ho1 hg1; obtain ⟨A1, c1, rfl⟩ := own_slice ho1; rw [List.nil_append] at ho1; have HO1 := Lib.hid ho1; have HK1 := Lib.hid (HK0.out.grown hg1 (fun k hk h => by simp only [Value.ownBlock, Option.some.injEq] at h; omega)); clear ho1 hg1)
      | fail)
    go_ret
    have ho := HO1.out
    simp only [Nat.zero_add] at ho
    refine ⟨A1, c1, rfl, HK1.out, fun V hV => ?_⟩
    have hm := HMY.out
    subst hm
    exact IsList.of_own hbs_len (by decide) HOK.out (hV.owns ho (fun j hj e => by obtain ⟨_, _, h0⟩ := own_block ho j hj; exact absurd (show j < w.heap.size from e) (by omega)))
set_option maxRecDepth 100000 in
theorem hasheslast_any (w : World) (A : Option Addr) (n c : Nat) (xs : List (List UInt8)) (hA : LH w A n c xs) (hn : n ≤ 1000) :
    Calls Try.prog 25 #[.slice A n c, .int .i64 32] w fun e w' => ∃ (A' : Option Addr) (c' : Nat), e = .returned (.slice A' (Dg.last xs).length c') ∧ Keeps (fun _ => False) w w' ∧ ∀ V, Keeps (fun j => j < w.heap.size) w' V → LH V A' (Dg.last xs).length c' (Dg.last xs) := by
  have hcn := hA.le
  have hcx := hA.max
  have hd := hA.drop (n - 32) (by omega)
  have hl : xs.drop (n - 32) = Dg.last xs := by unfold Dg.last; rw [hA.many]
  rw [hl] at hd
  have hs := fun V => slice_hashes V A n c (n - 32) (by omega)
  have hw : wrap64 ((n : Int) - 32) = (n : Int) - 32 := IntWalk.wrap64_in _ (by omega)
  have hx := fun (V : World) (ts : Array TypeId) (t : TypeId) => max_zero (P := Try.prog) V ts t n ((n : Int) - 32) rfl
  obtain ⟨A3, hA3⟩ : ∃ z, (if c = n - 32 then A else A.map (·.add ((n - 32) * 32))) = z := ⟨_, rfl⟩
  obtain ⟨k, hk⟩ : ∃ k, n - 32 = k := ⟨_, rfl⟩
  obtain ⟨m, hm⟩ : ∃ m, (Dg.last xs).length = m := ⟨_, rfl⟩
  have hmm : n - (n - 32) = m := by rw [← hm, ← hd.many]
  rw [hA3, hmm] at hd hs
  rw [hk] at hd hs hx
  rw [hm]
  have HS := Lib.hid hs
  have HC := Lib.hid (hashesclone_any w A3 m (c - k) (Dg.last xs) hd (by omega))
  clear hA hd hl hs hA3 hm hmm
  go_enter Try.func25, Try.ntmps25
  go_wp2_with (first
    | (refine wpList_slice19 (by rfl) 23 _ _ (by rfl) (.slice A n c) (.int .i64 (k : Int)) (.slice A3 m (c - k)) (by rfl) (by rfl) HS.out ?_)
    | fail)
  refine HC.out.mono ?_
  rintro e w1 ⟨A', c', rfl, k1, l1⟩
  have K1 := Lib.hid k1
  have L1 := Lib.hid l1
  clear k1 l1
  go_wp2
  go_ret
  exact ⟨A', c', rfl, K1.out, L1.out⟩
set_option maxRecDepth 100000 in
theorem gmake_any (w : World) (A A2 : Option Addr) (n c m d : Nat) (xs : List Ft.Key) (ys : List (List UInt8)) (hA : LK w A n c xs) (hB : LH w A2 m d ys) (hn : n ≤ 1000) (hm : m ≤ 1000) :
    Calls Try.prog 10 #[.slice A n c, .slice A2 m d] w fun e w' => ∃ (A3 : Option Addr) (c3 : Nat) (A4 : Option Addr) (c4 : Nat), e = .returned (.agg (dcs (.slice A3 (Dg.last xs).length c3) (.slice A4 (Dg.last ys).length c4))) ∧ Keeps (fun _ => False) w w' ∧ LK w' A3 (Dg.last xs).length c3 (Dg.last xs) ∧ LH w' A4 (Dg.last ys).length c4 (Dg.last ys) := by
  obtain ⟨Z, hZ⟩ : ∃ Z, dcs (.slice none 0 0) (.slice none 0 0) = Z := ⟨_, rfl⟩
  have hz : ∀ V : World, (zeroValue 26).run Try.prog V = .ok (.agg Z) V := fun V => by rw [← hZ]; exact zero_G V
  have HZ := Lib.hid hZ
  obtain ⟨b1, hb1⟩ : ∃ x, w.heap.size = x := ⟨_, rfl⟩
  obtain ⟨W1, hW1⟩ : ∃ V, w.alloc (.cells Z 26) = V := ⟨_, rfl⟩
  have k1 : Keeps (fun _ => False) w W1 := by rw [← hW1]; exact (Keeps.refl _ _).alloc _
  have r1 : W1.heap[b1]? = some (.cells Z 26 (0, 0)) := by rw [← hW1, ← hb1]; exact heap_alloc_new w _
  have H2 := Lib.hid (keyslast_any W1 A n c xs (hA.later k1) hn)
  have HB := Lib.hid (hB.later k1)
  have HK1 := Lib.hid k1
  have R1 := Lib.hid r1
  have hcn := hA.le
  have hcx := hA.max
  have hdm := hB.le
  have hdx := hB.max
  have HBN : Hid (w.heap.size = b1 ∧ b1 < W1.heap.size) := Lib.hid ⟨hb1, (Array.getElem?_eq_some_iff.1 r1).1⟩
  clear hZ hA hB k1 r1
  go_enter Try.func10, Try.ntmps10
  go_wp2_with fail
  refine H2.out.mono ?_
  rintro e w2 ⟨A3, c3, rfl, k2, l2⟩
  have K2 := Lib.hid k2
  have L2 := Lib.hid l2
  have H3 := Lib.hid (hasheslast_any w2 A2 m d ys (HB.out.later k2) hm)
  clear k2 l2 H2 hb1 hW1
  go_wp2_with fail
  refine H3.out.mono ?_
  rintro e w3 ⟨A4, c4, rfl, k3, l3⟩
  have K3 := Lib.hid ((HK1.out.trans K2.out).trans k3)
  have L3 : Hid ((∀ V, Keeps (fun j => j = b1) w3 V → LK V A3 (Dg.last xs).length c3 (Dg.last xs)) ∧ ∀ V, Keeps (fun j => j = b1) w3 V → LH V A4 (Dg.last ys).length c4 (Dg.last ys)) := Lib.hid ⟨fun V hV => L2.out V ((k3.mono (fun _ _ h => h.elim)).trans (hV.mono (fun j _ e => by have e' : j = b1 := e; have := HBN.out.2; show j < _; omega))), fun V hV => l3 V (hV.mono (fun j _ e => by have e' : j = b1 := e; have := HBN.out.2; have := K2.out.size; show j < _; omega))⟩
  obtain ⟨C, hC⟩ : ∃ C, dcs (.slice A3 (Dg.last xs).length c3) (.slice A4 (Dg.last ys).length c4) = C := ⟨_, rfl⟩
  have SC : Hid ((Try.prog.info? 26).map (·.size) = some C.size) := Lib.hid (by rw [← hC]; exact size_G _ _)
  have SZC : Hid (Z.size = C.size) := Lib.hid (by rw [← hC, ← HZ.out]; rfl)
  have OC : Hid (C.all (·.oneCell') = true) := Lib.hid (by rw [← hC]; exact dcs_one _ _ _ _ _ _)
  obtain ⟨m1, hm1⟩ : ∃ x, (Dg.last xs).length = x := ⟨_, rfl⟩
  obtain ⟨m2, hm2⟩ : ∃ x, (Dg.last ys).length = x := ⟨_, rfl⟩
  have HM := Lib.hid (And.intro hm1 hm2)
  rw [hm1, hm2] at hC L3
  simp only [hm1, hm2]
  have HB2 : Hid (∀ V : World, (Instr.build 26 #[(0, .slice A3 m1 c3), (1, .slice A4 m2 c4)]).run Try.prog V = .ok (.agg C) V) := Lib.hid (fun V => by rw [← hC]; exact build_G _ _ _ _ _ _ V)
  have r3 := ((K2.out.trans k3).block b1 (Array.getElem?_eq_some_iff.1 R1.out).1 id).trans R1.out
  obtain ⟨W4, hW4⟩ : ∃ V, w3.setRow b1 C = V := ⟨_, rfl⟩
  have k4 : Keeps (fun j => j = b1) w3 W4 := by rw [← hW4]; exact Keeps.setRow _ _
  have R3 := Lib.hid r3
  have R4 : Hid (W4.heap[b1]? = some (.cells C 26 (0, 0))) := Lib.hid (by rw [← hW4]; exact setRow_heap _ _ _ _ _ _ r3)
  have K4 : Hid (Keeps (fun _ => False) w W4) := Lib.hid (K3.out.trans' k4 (fun i hi e => by have := HBN.out.1; omega))
  have HCC := Lib.hid hC
  clear hC k3 l3 r3 k4 H3 hm1 hm2
  go_wp2_with (first
    | (refine wpList_made (by rfl) 26 [(0, .tmp 6), (1, .tmp 8)] (by rfl) [(0, .slice A3 m1 c3), (1, .slice A4 m2 c4)] (by rfl) (.agg C) HB2.out ?_)
    | (refine wpList_store_row (by rfl) 26 _ _ (by rfl) b1 C (by rfl) (by rfl) 26 Z R3.out SC.out SZC.out OC.out ?_; rw [hW4])
    | fail)
  refine bodyPost_ret (results_cell19 rfl _ _ b1 26 C (0, 0) _ rfl R4.out Try.underlying26 rfl SC.out) rfl ?_
  have k5 : Keeps (fun j => j = b1) w3 W4 := by rw [← hW4]; exact Keeps.setRow _ _
  refine ⟨A3, c3, A4, c4, ?_, K4.out, ?_, ?_⟩
  · rw [HM.out.1, HM.out.2, HCC.out]
  · rw [HM.out.1]; exact L3.out.1 W4 k5
  · rw [HM.out.2]; exact L3.out.2 W4 k5
set_option maxRecDepth 100000 in
theorem gwants_any (w : World) (A A2 A3 : Option Addr) (n c m d p q : Nat) (known : List Ft.Key) (xs : List Ft.Key) (ys : List (List UInt8)) (hA : LK w A n c known) (hB : LK w A2 m d xs) (hC : LH w A3 p q ys) (hn : n ≤ 1000) (hm : m ≤ 1000) (hp : p ≤ 1000) :
    Calls Try.prog 14 #[.slice A n c, .agg (dcs (.slice A2 m d) (.slice A3 p q))] w fun e w' => ∃ (A' : Option Addr) (c' : Nat), e = .returned (.slice A' (Dg.knot xs known).length c') ∧ Keeps (fun _ => False) w w' ∧ LK w' A' (Dg.knot xs known).length c' (Dg.knot xs known) := by
  obtain ⟨C, hC9⟩ : ∃ C, dcs (.slice A2 m d) (.slice A3 p q) = C := ⟨_, rfl⟩
  obtain ⟨b1, hb1⟩ : ∃ x, w.heap.size = x := ⟨_, rfl⟩
  obtain ⟨W1, hW1⟩ : ∃ V, w.alloc (.cells C 26) = V := ⟨_, rfl⟩
  have k1 : Keeps (fun _ => False) w W1 := by rw [← hW1]; exact (Keeps.refl _ _).alloc _
  have r1 : Row W1 b1 26 [.slice A2 m d, .slice A3 p q] := by rw [← hW1, ← hb1, ← hC9]; exact heap_alloc_new w _
  have c0 : W1.cell? ⟨b1, 0, none⟩ = some (.slice A2 m d) := r1.cell 0
  have hcn := hA.le
  have hcx := hA.max
  have hdm := hB.le
  have hdx := hB.max
  have hqp := hC.le
  have hqx := hC.max
  have HH := Lib.hid (keyswithout_any W1 A2 A m d n c xs known (hB.later k1) (hA.later k1) hm hn)
  have HK := Lib.hid k1
  rw [hC9]
  clear k1 r1 hA hB hC hC9
  go_enter Try.func14, Try.ntmps14
  go_wp2_with fail
  refine HH.out.mono ?_
  rintro e w1 ⟨A', c', rfl, k2, l2⟩
  have K2 := Lib.hid (HK.out.trans k2)
  have L2 := Lib.hid l2
  clear k2 l2
  go_wp2
  go_ret
  exact ⟨A', c', rfl, K2.out, L2.out⟩
set_option maxRecDepth 100000 in
theorem glacks_any (w : World) (A A2 A3 : Option Addr) (n c m d p q : Nat) (known : List Ft.Key) (xs : List Ft.Key) (ys : List (List UInt8)) (hA : LK w A n c known) (hB : LK w A2 m d xs) (hC : LH w A3 p q ys) (hn : n ≤ 1000) (hm : m ≤ 1000) (hp : p ≤ 1000) :
    Calls Try.prog 16 #[.slice A n c, .agg (dcs (.slice A2 m d) (.slice A3 p q))] w fun e w' => ∃ (A' : Option Addr) (c' : Nat), e = .returned (.slice A' (Dg.knot known xs).length c') ∧ Keeps (fun _ => False) w w' ∧ LK w' A' (Dg.knot known xs).length c' (Dg.knot known xs) := by
  obtain ⟨C, hC9⟩ : ∃ C, dcs (.slice A2 m d) (.slice A3 p q) = C := ⟨_, rfl⟩
  obtain ⟨b1, hb1⟩ : ∃ x, w.heap.size = x := ⟨_, rfl⟩
  obtain ⟨W1, hW1⟩ : ∃ V, w.alloc (.cells C 26) = V := ⟨_, rfl⟩
  have k1 : Keeps (fun _ => False) w W1 := by rw [← hW1]; exact (Keeps.refl _ _).alloc _
  have r1 : Row W1 b1 26 [.slice A2 m d, .slice A3 p q] := by rw [← hW1, ← hb1, ← hC9]; exact heap_alloc_new w _
  have c0 : W1.cell? ⟨b1, 0, none⟩ = some (.slice A2 m d) := r1.cell 0
  have hcn := hA.le
  have hcx := hA.max
  have hdm := hB.le
  have hdx := hB.max
  have hqp := hC.le
  have hqx := hC.max
  have HH := Lib.hid (keyswithout_any W1 A A2 n c m d known xs (hA.later k1) (hB.later k1) hn hm)
  have HK := Lib.hid k1
  rw [hC9]
  clear k1 r1 hA hB hC hC9
  go_enter Try.func16, Try.ntmps16
  go_wp2_with fail
  refine HH.out.mono ?_
  rintro e w1 ⟨A', c', rfl, k2, l2⟩
  have K2 := Lib.hid (HK.out.trans k2)
  have L2 := Lib.hid l2
  clear k2 l2
  go_wp2
  go_ret
  exact ⟨A', c', rfl, K2.out, L2.out⟩
set_option maxRecDepth 100000 in
theorem gmisses_any (w : World) (A A2 A3 : Option Addr) (n c m d p q : Nat) (known : List (List UInt8)) (xs : List Ft.Key) (ys : List (List UInt8)) (hA : LH w A n c known) (hB : LK w A2 m d xs) (hC : LH w A3 p q ys) (hn : n ≤ 1000) (hm : m ≤ 1000) (hp : p ≤ 1000) :
    Calls Try.prog 17 #[.slice A n c, .agg (dcs (.slice A2 m d) (.slice A3 p q))] w fun e w' => ∃ (A' : Option Addr) (c' : Nat), e = .returned (.slice A' (Dg.knot known ys).length c') ∧ Keeps (fun _ => False) w w' ∧ LH w' A' (Dg.knot known ys).length c' (Dg.knot known ys) := by
  obtain ⟨C, hC9⟩ : ∃ C, dcs (.slice A2 m d) (.slice A3 p q) = C := ⟨_, rfl⟩
  obtain ⟨b1, hb1⟩ : ∃ x, w.heap.size = x := ⟨_, rfl⟩
  obtain ⟨W1, hW1⟩ : ∃ V, w.alloc (.cells C 26) = V := ⟨_, rfl⟩
  have k1 : Keeps (fun _ => False) w W1 := by rw [← hW1]; exact (Keeps.refl _ _).alloc _
  have r1 : Row W1 b1 26 [.slice A2 m d, .slice A3 p q] := by rw [← hW1, ← hb1, ← hC9]; exact heap_alloc_new w _
  have c0 : W1.cell? ⟨b1, 1, none⟩ = some (.slice A3 p q) := r1.cell 1
  have hcn := hA.le
  have hcx := hA.max
  have hdm := hB.le
  have hdx := hB.max
  have hqp := hC.le
  have hqx := hC.max
  have HH := Lib.hid (hasheswithout_any W1 A A3 n c p q known ys (hA.later k1) (hC.later k1) hn hp)
  have HK := Lib.hid k1
  rw [hC9]
  clear k1 r1 hA hB hC hC9
  go_enter Try.func17, Try.ntmps17
  go_wp2_with fail
  refine HH.out.mono ?_
  rintro e w1 ⟨A', c', rfl, k2, l2⟩
  have K2 := Lib.hid (HK.out.trans k2)
  have L2 := Lib.hid l2
  clear k2 l2
  go_wp2
  go_ret
  exact ⟨A', c', rfl, K2.out, L2.out⟩
end Go.Proofs.Ytmjpaopobnhckaa
