/-
  The law DiskPlays walked. WRITTEN BY wip/gen/mkdkpl.py.
-/
import Derived.Test.YtonokeldlknadaaRkI
import Derived.Test.YtonokeldlknadaaOpenAct
namespace Go.Proofs.Ytonokeldlknadaa
open Go.RowKit Go.BigFrame
set_option linter.unusedVariables false

theorem src_lt2 {w : World} {a : Addr} {xs : List Value} (h : Src w (some a) xs) (h0 : 0 < xs.length) : a.block < w.heap.size := by
  have hc := h.at_ (j := 0) (u := xs[0]) (by simp)
  have := World.block_lt_of_cell? w _ hc
  have e : (a.add 0).block = a.block := by unfold Addr.add; split <;> rfl
  rw [e] at this
  exact this
theorem add_block (a : Addr) (j : Nat) : (a.add j).block = a.block := by unfold Addr.add; split <;> rfl
set_option maxRecDepth 100000 in
set_option maxHeartbeats 8000000 in
theorem dplays_high (n : Int) (A : Option Addr) (len c : Nat) (W : World) (hn : n > 20) :
    Calls Try.prog 3 #[.int .i64 n, .slice A len c] W fun e W' => e = .returned (.bool true) ∧ Below W.heap.size W W' := by
  have HAW := Lib.hid (awake11_any W)
  go_enter Try.func3, Try.ntmps3
  go_wp2_with fail
  refine HAW.out.mono ?_
  rintro e w1 ⟨rfl, k1⟩
  go_wp2
  go_ret
  exact ⟨rfl, keeps_belowD k1⟩
set_option maxRecDepth 100000 in
set_option maxHeartbeats 8000000 in
theorem dplays_low (n : Int) (A : Option Addr) (len c : Nat) (W : World) (hn : n < 1) :
    Calls Try.prog 3 #[.int .i64 n, .slice A len c] W fun e W' => e = .returned (.bool true) ∧ Below W.heap.size W W' := by
  have HAW := Lib.hid (awake11_any W)
  have h20 : ¬ n > 20 := by omega
  obtain ⟨Z, hZ⟩ : ∃ Z : Array Value, (#[.slice none 0 0, .slice none 0 0, .int .i64 0, .bool false] : Array Value) = Z := ⟨_, rfl⟩
  have hz : ∀ V : World, (zeroValue 31).run Try.prog V = .ok (.agg Z) V := fun V => by rw [← hZ]; exact zero_D V
  have ZN : Hid (Z.size = 4) := Lib.hid (by rw [← hZ]; rfl)
  have ZS : Hid ((Try.prog.info? 31).map (·.size) = some Z.size) := Lib.hid (by rw [ZN.out]; exact size_D)
  have ZO : Hid (Z.all (·.oneCell') = true) := Lib.hid (by rw [← hZ]; simp [Value.oneCell'])
  have HBAD : Hid (∀ w : World, Calls Try.prog 11 #[.int .i64 n] w fun e w' => e = .returned (.tuple #[.agg Z, .int .i64 1]) ∧ Keeps (fun _ => False) w w') := Lib.hid (fun w => by rw [← hZ]; exact rnew_bad n hn w)
  have HNOT : Hid (∀ w : World, Calls Try.prog 10 #[.int .i64 n] w fun e w' => e = .returned (.tuple #[.pointer none, .int .i64 1]) ∧ w' = w) := Lib.hid (fun w => new_not n w (.inl hn))
  clear hZ hn
  go_enter Try.func3, Try.ntmps3
  go_wp2_with fail
  refine HAW.out.mono ?_
  rintro e w1 ⟨rfl, k1⟩
  have K1 := Lib.hid k1
  clear k1 HAW
  go_wp2_with fail
  refine (HNOT.out _).mono ?_
  rintro e w2 ⟨rfl, h2⟩
  obtain rfl : w1 = w2 := h2.symm
  go_wp2_with fail
  refine (HBAD.out _).mono ?_
  rintro e w3 ⟨rfl, k3⟩
  obtain ⟨b8, hb8⟩ : ∃ x, w3.heap.size = x := ⟨_, rfl⟩
  obtain ⟨w4, hw4⟩ : ∃ V, w3.alloc (.cells Z 31) = V := ⟨_, rfl⟩
  have k4 : Keeps (fun _ => False) w3 w4 := by rw [← hw4]; exact (Keeps.refl _ _).alloc _
  have r4 : w4.heap[b8]? = some (.cells Z 31 (0, 0)) := by rw [← hw4, ← hb8]; exact heap_alloc_new w3 _
  obtain ⟨w5, hw5⟩ : ∃ V, w4.setRow b8 Z = V := ⟨_, rfl⟩
  have k5 : Keeps (fun k => k = b8) w4 w5 := by rw [← hw5]; exact Keeps.setRow _ _
  have K5 : Hid (Keeps (fun _ => False) W w5) := Lib.hid (((K1.out.trans k3).trans k4).trans' k5 (fun i hi e => by have := K1.out.size; have := k3.size; omega))
  have R4 := Lib.hid r4
  clear k3 k4 r4 k5 HBAD HNOT h2
  go_wp2_with (first
    | (refine wpList_store_row (by rfl) 31 (.tmp 8) (.tmp 29) (by rfl) b8 Z (by rfl) (by rfl) 31 Z R4.out ZS.out rfl ZO.out ?_; rw [hw5]))
  go_loopw [10] (fun iv wr => iv = .int .i64 0 ∧ Hid (Keeps (fun _ => False) W wr)) (fun iv _ => 0)
  case atStart => exact ⟨rfl, K5⟩
  case round =>
    clear K5
    obtain ⟨rfl, HK⟩ := hrel
    have FIN := Lib.hid (keeps_belowD HK.out)
    by_cases hlen : (0 : Int) < (len : Int)
    · skip
      go_wp2_with fail
      refine (fail_none _ _).mono ?_
      rintro e wz0 ⟨rfl, hz0⟩
      obtain rfl : wr = wz0 := hz0.symm
      go_wp2_with fail
      refine (crash_none _ _).mono ?_
      rintro e wz1 ⟨rfl, hz1⟩
      obtain rfl : wr = wz1 := hz1.symm
      go_wp2_with fail
      refine (read_none _ _).mono ?_
      rintro e wz2 ⟨rfl, hz2⟩
      obtain rfl : wr = wz2 := hz2.symm
      go_wp2_with fail
      refine (write_none _ _ _).mono ?_
      rintro e wz3 ⟨rfl, hz3⟩
      obtain rfl : wr = wz3 := hz3.symm
      go_wp2_with fail
      refine (sync_none _).mono ?_
      rintro e wz4 ⟨rfl, hz4⟩
      obtain rfl : wr = wz4 := hz4.symm
      go_wp2_with fail
      refine (len_none _).mono ?_
      rintro e wz5 ⟨rfl, hz5⟩
      obtain rfl : wr = wz5 := hz5.symm
      go_wp2_with fail
      refine (loose_none _).mono ?_
      rintro e wz6 ⟨rfl, hz6⟩
      obtain rfl : wr = wz6 := hz6.symm
      go_wp2_with fail
      refine (dead_none _).mono ?_
      rintro e wz7 ⟨rfl, hz7⟩
      obtain rfl : wr = wz7 := hz7.symm
      go_wp2
      go_ret
      exact ⟨rfl, FIN.out⟩
    · skip
      go_wp2_with fail
      refine (fail_none _ _).mono ?_
      rintro e wz0 ⟨rfl, hz0⟩
      obtain rfl : wr = wz0 := hz0.symm
      go_wp2_with fail
      refine (crash_none _ _).mono ?_
      rintro e wz1 ⟨rfl, hz1⟩
      obtain rfl : wr = wz1 := hz1.symm
      go_wp2_with fail
      refine (read_none _ _).mono ?_
      rintro e wz2 ⟨rfl, hz2⟩
      obtain rfl : wr = wz2 := hz2.symm
      go_wp2_with fail
      refine (write_none _ _ _).mono ?_
      rintro e wz3 ⟨rfl, hz3⟩
      obtain rfl : wr = wz3 := hz3.symm
      go_wp2_with fail
      refine (sync_none _).mono ?_
      rintro e wz4 ⟨rfl, hz4⟩
      obtain rfl : wr = wz4 := hz4.symm
      go_wp2_with fail
      refine (len_none _).mono ?_
      rintro e wz5 ⟨rfl, hz5⟩
      obtain rfl : wr = wz5 := hz5.symm
      go_wp2_with fail
      refine (loose_none _).mono ?_
      rintro e wz6 ⟨rfl, hz6⟩
      obtain rfl : wr = wz6 := hz6.symm
      go_wp2_with fail
      refine (dead_none _).mono ?_
      rintro e wz7 ⟨rfl, hz7⟩
      obtain rfl : wr = wz7 := hz7.symm
      go_wp2
      go_ret
      exact ⟨rfl, FIN.out⟩
set_option maxRecDepth 100000 in
set_option maxHeartbeats 8000000 in
theorem dplays_in (n : Nat) (h1 : 1 ≤ n) (hn : n ≤ 20) (A : Option Addr) (len c : Nat) (acts : List ActOf) (W : World) (ha : IsActs W A len c acts) :
    Calls Try.prog 3 #[.int .i64 (n : Int), .slice A len c] W fun e W' => e = .returned (.bool true) ∧ Below W.heap.size W W' := by
  have HAW := Lib.hid (awake11_any W)
  have h20 : ¬ (n : Int) > 20 := by omega
  have HA := Lib.hid ha
  obtain ⟨Z, hZ⟩ : ∃ Z : Array Value, (#[.slice none 0 0, .slice none 0 0, .int .i64 0, .bool false] : Array Value) = Z := ⟨_, rfl⟩
  have hz : ∀ V : World, (zeroValue 31).run Try.prog V = .ok (.agg Z) V := fun V => by rw [← hZ]; exact zero_D V
  have ZN : Hid (Z.size = 4) := Lib.hid (by rw [← hZ]; rfl)
  obtain ⟨Z2, hZ2⟩ : ∃ Z : Array Value, (#[.int .i64 0, .int .i64 0, .int .i64 0, .slice none 0 0] : Array Value) = Z := ⟨_, rfl⟩
  have hz2 : ∀ V : World, (zeroValue 36).run Try.prog V = .ok (.agg Z2) V := fun V => by rw [← hZ2]; exact zero_act V
  have Z2N : Hid (Z2.size = 4) := Lib.hid (by rw [← hZ2]; rfl)
  have HNEW : Hid (∀ w : World, Calls Try.prog 10 #[.int .i64 (n : Int)] w fun e w' => ∃ g, e = .returned (.tuple #[.pointer (some ⟨g, 0, none⟩), .int .i64 0]) ∧ w.heap.size ≤ g ∧ DskAt w' (fun k => w.heap.size ≤ k) g (Dk.fresh n) ∧ Keeps (fun _ => False) w w') := Lib.hid (fun w => new_disk n w h1 (by omega))
  have HREF : Hid (∀ (w : World) (F : Nat → Prop), Calls Try.prog 11 #[.int .i64 (n : Int)] w fun e w' => ∃ v', e = .returned (.tuple #[v', .int .i64 0]) ∧ RefV w' (cut F w.heap.size w'.heap.size) v' (Dk.fresh n) ∧ Keeps (fun _ => False) w w') := Lib.hid (fun w F => rne_any n h1 (by omega) w F)
  have HN1K : Hid (n ≤ 1000) := Lib.hid (by omega)
  clear ha hZ hZ2 hn h1
  go_enter Try.func3, Try.ntmps3
  go_wp2_with fail
  refine HAW.out.mono ?_
  rintro e w1 ⟨rfl, k1⟩
  have K1 := Lib.hid k1
  clear k1 HAW
  go_wp2_with fail
  refine (HNEW.out _).mono ?_
  rintro e w2 ⟨g, rfl, hg, d2, k2⟩
  have D2 := Lib.hid d2
  have K2 := Lib.hid k2
  clear d2 k2 HNEW
  go_wp2_with fail
  refine (HREF.out _ (fun k => w1.heap.size ≤ k)).mono ?_
  rintro e w3 ⟨v', rfl, v3, k3⟩
  obtain ⟨R, rfl, hRn, hRo⟩ := v3.row
  have RN0 := Lib.hid hRn
  have RS0 : Hid ((Try.prog.info? 31).map (·.size) = some R.size) := Lib.hid (by rw [hRn]; exact size_D)
  have RO0 := Lib.hid hRo
  obtain ⟨b8, hb8⟩ : ∃ x, w3.heap.size = x := ⟨_, rfl⟩
  obtain ⟨w4, hw4⟩ : ∃ V, w3.alloc (.cells Z 31) = V := ⟨_, rfl⟩
  have k4 : Keeps (fun _ => False) w3 w4 := by rw [← hw4]; exact (Keeps.refl _ _).alloc _
  have r4 : w4.heap[b8]? = some (.cells Z 31 (0, 0)) := by rw [← hw4, ← hb8]; exact heap_alloc_new w3 _
  have hsz4 : w4.heap.size = b8 + 1 := by rw [← hw4, ← hb8]; simp
  obtain ⟨w5, hw5⟩ : ∃ V, w4.setRow b8 R = V := ⟨_, rfl⟩
  have k5 : Keeps (fun k => k = b8) w4 w5 := by rw [← hw5]; exact Keeps.setRow _ _
  have HB8 : Hid (W.heap.size ≤ b8) := Lib.hid (by have := K1.out.size; have := K2.out.size; have := k3.size; omega)
  have B0 : Hid (Both W w5 (fun k => cut (fun k => w1.heap.size ≤ k) w2.heap.size w3.heap.size k ∧ k ≠ b8) g b8 R (Dk.fresh n) (Dk.fresh n)) := Lib.hid (by
    have k35 : Keeps (fun k => k = b8) w3 w5 := (k4.mono (fun _ _ h => h.elim)).trans' k5 (fun _ _ h => h)
    refine ⟨?_, ?_, fun k hl => ?_, fun k hf => ?_, fun hf => hf.2 rfl, ?_, ?_⟩
    · refine ((((D2.out.mono (G := fun k => cut (fun k => w1.heap.size ≤ k) w2.heap.size w3.heap.size k ∧ k ≠ b8) (fun k hk hf => ⟨⟨hf, .inl hk⟩, fun e => by have := k3.size; omega⟩)).later k3)).later k4).keeps k5 (fun k _ hf e => hf.2 e)
    · have hv := (v3.mono (G := fun k => cut (fun k => w1.heap.size ≤ k) w2.heap.size w3.heap.size k ∧ k ≠ b8) (fun k hk => hk.1)).later k4
      obtain ⟨A', c', A2, c2, h3, h4, h5, h6, h7⟩ := hv
      refine ⟨A', c', A2, c2, h3, k5.owns h4 (fun k hk e => ?_), k5.owns h5 (fun k hk e => ?_), h6, h7⟩
      · obtain ⟨cur, hc, _⟩ := own_block h4 k hk
        rw [e, r4] at hc
        simp at hc
      · obtain ⟨cur, hc, _⟩ := own_block h5 k hk
        rw [e, r4] at hc
        simp at hc
    · have h5 := k5.size
      have h3 := k3.size
      have h2 := K2.out.size
      exact ⟨⟨by show w1.heap.size ≤ k; omega, .inr (by omega)⟩, by omega⟩
    · have := K1.out.size
      have h7 : w1.heap.size ≤ k := hf.1.1
      omega
    · rw [← hw5]; exact setRow_heap _ _ _ _ _ _ r4
    · exact (((K1.out.trans K2.out).trans k3).trans k4).trans' k5 (fun i hi e => by have := HB8.out; omega))
  have R4 := Lib.hid r4
  clear k3 k4 r4 k5 v3 D2 HREF hRn hRo hg hsz4
  go_wp2_with (first
    | (refine wpList_store_row (by rfl) 31 (.tmp 8) (.tmp 29) (by rfl) b8 R (by rfl) (by rfl) 31 Z R4.out RS0.out (ZN.out.trans RN0.out.symm) RO0.out ?_; rw [hw5]))
  clear R4
  go_loopw [10] (fun iv wr => ∃ (i : Nat) (F : Nat → Prop) (s : Dk.St) (R : Array Value), i ≤ 30 ∧ iv = .int .i64 (i : Int) ∧ Hid (Both W wr F g b8 R s s) ∧ Hid (R.size = 4) ∧ Hid ((Try.prog.info? 31).map (·.size) = some R.size) ∧ Hid (R.all (·.oneCell') = true) ∧ Hid (s.n ≤ 1000) ∧ Hid (s.loose.length ≤ i)) (fun iv _ => 30 - (intOf iv).toNat)
  case atStart => exact ⟨0, _, Dk.fresh n, R, by omega, rfl, B0, RN0, RS0, RO0, HN1K, Lib.hid (Nat.le_refl _)⟩
  case round =>
    clear B0 RN0 RS0 RO0 hw4 hw5 K2 HN1K
    obtain ⟨i, F, s, R, hi, rfl, HB, HRN, HRS, HRO, HNN, HLE⟩ := hrel
    by_cases hil : (i : Int) < (len : Int)
    · by_cases hi30 : (i : Int) < 30
      · obtain ⟨x, hx⟩ : ∃ x, acts[i]? = some x := ⟨_, List.getElem?_eq_getElem (by rw [HA.out.many]; omega)⟩
        obtain ⟨ad, rfl, hxc, hxs, hxC, hxC2, wk, wi, wn⟩ := HA.out.at_ i x hx
        obtain ⟨kd, qi, qn, B, C, bs⟩ := x
        simp only at hxs hxC hxC2 wk wi wn
        have HQN := Lib.hid (bounds_i64 wn)
        have HS0 := Lib.hid hxs
        obtain ⟨RX, hRX⟩ : ∃ R : Array Value, ([.int .i64 kd, .int .i64 qi, .int .i64 qn, .slice B bs.length C] : List Value).toArray = R := ⟨_, rfl⟩
        have RXN : Hid (RX.size = 4) := Lib.hid (by rw [← hRX]; rfl)
        have RXS : Hid ((Try.prog.info? 36).map (·.size) = some RX.size) := Lib.hid (by rw [RXN.out]; exact size_act)
        have RXO : Hid (RX.all (·.oneCell') = true) := Lib.hid (by rw [← hRX]; simp [Value.oneCell'])
        have HXC : Hid (∀ q u, ([.int .i64 kd, .int .i64 qi, .int .i64 qn, .slice B bs.length C] : List Value)[q]? = some u → wr.cell? ((ad.add (i * 4)).add q) = some u) := Lib.hid (fun q u hq => by
          have h := hxc q u hq
          rw [Go.Deep.add_add]
          rw [HB.out.kept.cell (World.block_lt_of_cell? W _ h) id]
          exact h)
        obtain ⟨b11, hb11⟩ : ∃ x, wr.heap.size = x := ⟨_, rfl⟩
        obtain ⟨W5, hW5⟩ : ∃ V, wr.alloc (.cells Z2 36) = V := ⟨_, rfl⟩
        have k5 : Keeps (fun _ => False) wr W5 := by rw [← hW5]; exact (Keeps.refl _ _).alloc _
        have r5 : W5.heap[b11]? = some (.cells Z2 36 (0, 0)) := by rw [← hW5, ← hb11]; exact heap_alloc_new wr _
        obtain ⟨W6, hW6⟩ : ∃ V, W5.setRow b11 RX = V := ⟨_, rfl⟩
        have k6 : Keeps (fun k => k = b11) W5 W6 := by rw [← hW6]; exact Keeps.setRow _ _
        have r6 : Row W6 b11 36 [.int .i64 kd, .int .i64 qi, .int .i64 qn, .slice B bs.length C] := by show _ = some (Obj.cells (_ : List Value).toArray _ _); rw [hRX, ← hW6]; exact setRow_heap _ _ _ _ _ _ r5
        have k06 : Keeps (fun _ => False) wr W6 := k5.trans' k6 (fun i hi e => by omega)
        obtain ⟨F1, hF1⟩ : ∃ G : Nat → Prop, cut F wr.heap.size W6.heap.size = G := ⟨_, rfl⟩
        have bb1 := HB.out.later k06
        have hn11 : ¬ F1 b11 := by
          rw [← hF1]
          intro h
          have := r6.lt
          rcases h.2 with h | h <;> omega
        rw [hF1] at bb1
        have B1 := Lib.hid bb1
        have HN11 := Lib.hid hn11
        have R5 := Lib.hid r5
        have R11 := Lib.hid r6
        have HS6 : Hid (Src W6 B (bvs bs)) := Lib.hid (hxs.keeps bb1.kept (fun _ _ _ => id))
        have HSF : Hid (∀ a, B = some a → 0 < bs.length → ¬ F1 a.block) := Lib.hid (fun a ha h0 hf => by
          subst ha
          have h1 := src_lt2 hxs (by rw [bvs_length]; exact h0)
          have h2 := bb1.old _ hf
          omega)
        have HRX := Lib.hid hRX
        have FIN := Lib.hid (keeps_belowD bb1.kept)
        have hc0 : W6.cell? ⟨b11, 0, none⟩ = some (.int .i64 kd) := r6.cell 0
        have hc3x : W6.cell? ⟨b11, 3, none⟩ = some (.slice B bs.length C) := r6.cell 3
        obtain ⟨r, hand⟩ : ∃ r, bits .and .i64 kd 15 = r := ⟨_, rfl⟩
        clear bb1 hn11 r5 r6 k5 k6 k06 hRX hxc hxs hx hF1 HB wk wi wn
        by_cases hbl : (bs.length : Int) > 100
        · go_wp2_with (first
            | (refine wpList_load_any (by rfl) 36 (.tmp 57) (by rfl) (ad.add (i * 4)) (by rfl) [.int .i64 kd, .int .i64 qi, .int .i64 qn, .slice B bs.length C] _ HXC.out Try.underlying36 rfl size_act ?_)
            | (refine wpList_store_row (by rfl) 36 (.tmp 11) (.tmp 58) (by rfl) b11 RX (by rfl) (by rw [← HRX.out]; rfl) 36 Z2 R5.out RXS.out (Z2N.out.trans RXN.out.symm) RXO.out ?_; rw [hW6]))
          go_ret
          exact ⟨rfl, FIN.out⟩
        · have hb100 : bs.length ≤ 100 := by omega
          rcases (show r = 0 ∨ r = 1 ∨ r = 2 ∨ r = 3 ∨ r = 4 ∨ r = 5 ∨ r = 6 ∨ r = 7 ∨ r = 8 ∨ r = 9 ∨ r = 10 ∨ r = 11 ∨ (r ≠ 0 ∧ r ≠ 1 ∧ r ≠ 2 ∧ r ≠ 3 ∧ r ≠ 4 ∧ r ≠ 5 ∧ r ≠ 6 ∧ r ≠ 7 ∧ r ≠ 8 ∧ r ≠ 9 ∧ r ≠ 10 ∧ r ≠ 11) by omega) with hr | hr | hr | hr | hr | hr | hr | hr | hr | hr | hr | hr | hr
          · subst hr
            have hc3 : W6.cell? ⟨b11, 3, none⟩ = some (.slice B bs.length C) := R11.out.cell 3
            have hc2 : W6.cell? ⟨b11, 2, none⟩ = some (.int .i64 qn) := R11.out.cell 2
            obtain ⟨odd, hodd⟩ : ∃ o, (qn == 1) = o := ⟨_, rfl⟩
            obtain ⟨m, hm⟩ : ∃ m, (if odd then 255 else 256) = m := ⟨_, rfl⟩
            have hm256 : m ≤ 256 := by rw [← hm]; split <;> omega
            have HM := Lib.hid hm
            clear hm
            go_wp2_with (first
              | (refine wpList_load_any (by rfl) 36 (.tmp 57) (by rfl) (ad.add (i * 4)) (by rfl) [.int .i64 kd, .int .i64 qi, .int .i64 qn, .slice B bs.length C] _ HXC.out Try.underlying36 rfl size_act ?_)
              | (refine wpList_store_row (by rfl) 36 (.tmp 11) (.tmp 58) (by rfl) b11 RX (by rfl) (by rw [← HRX.out]; rfl) 36 Z2 R5.out RXS.out (Z2N.out.trans RXN.out.symm) RXO.out ?_; rw [hW6]))
            refine (full_any B C bs odd m HM.out W6 HS6.out (by omega)).mono ?_
            rintro e w7 ⟨rfl, r7, k7⟩
            obtain ⟨X, hX⟩ : ∃ x, W6.heap.size = x := ⟨_, rfl⟩
            rw [hX] at r7
            obtain ⟨F2, hF2⟩ : ∃ G : Nat → Prop, cut F1 W6.heap.size w7.heap.size = G := ⟨_, rfl⟩
            have b2 := B1.out.later k7
            have hFX : ¬ F2 X := by
              rw [← hF2]
              intro h
              have := r7.lt
              rcases h.2 with h | h <;> omega
            have hF11 : ¬ F2 b11 := by rw [← hF2]; exact fun h => HN11.out h.1
            rw [hF2] at b2
            have r11 := R11.out.keeps k7 id
            have hc1 : w7.cell? ⟨b11, 1, none⟩ = some (.int .i64 qi) := r11.cell 1
            have hwr := write_there w7 F2 g s X 256 (b2.dsk.mono (fun k _ hf => ⟨hf, fun e => hFX (by rw [← e]; exact hf)⟩)) b2.clo 5 (Dk.fill bs) r7 qi m (Dk.fill_length _) (by have := HLE.out; omega)
            obtain ⟨E, hE⟩ : ∃ x, Dk.wrE s qi m = x := ⟨_, rfl⟩
            obtain ⟨s1, hs1⟩ : ∃ x, Dk.wr s qi m (Dk.fill bs) = x := ⟨_, rfl⟩
            obtain ⟨ht1, ht2⟩ := Dk.wr_take s qi m (Dk.fill bs) (Dk.fill_length _) hm256
            obtain ⟨bt, hbt⟩ : ∃ x, (Dk.fill bs).take m = x := ⟨_, rfl⟩
            rw [hbt, hs1] at ht1
            rw [hbt, hE] at ht2
            rw [hE, hs1] at hwr
            have hbl : bt.length = m := by rw [← hbt, List.length_take, Dk.fill_length]; omega
            have hsb : Src w7 (some ⟨X, 0, none⟩) (bvs bt) := by rw [← hbt]; exact take_row r7
            have HN1 : Hid (s1.n ≤ 1000) := Lib.hid (by rw [← hs1, Dk.wr_n]; exact HNN.out)
            have HNS : Hid (s1.n ≤ 1000) := HN1
            have hls1 : s1.loose.length ≤ i + 1 := by
              have h1 := Dk.wr_length s qi m (Dk.fill bs)
              have h2 := HLE.out
              rw [hs1] at h1
              omega
            have HM1 : Hid (s1.loose.length ≤ 1000) := Lib.hid (by omega)
            have HLS : Hid (s1.loose.length ≤ i + 1) := Lib.hid hls1
            have HTW := Lib.hid (And.intro ht1 ht2)
            have HWR := Lib.hid hwr
            have B2 := Lib.hid b2
            have HSB := Lib.hid hsb
            have HBL := Lib.hid hbl
            have HF11 := Lib.hid hF11
            have HFX := Lib.hid hFX
            have R11b := Lib.hid r11
            clear b2 hwr hE hs1 ht1 ht2 hbt hbl hsb hls1 hF2 hF11 hFX r7 k7 r11 hm256
            go_wp2_with fail
            refine HWR.out.mono ?_
            rintro e w8 ⟨rfl, d8, k8⟩
            have B3 := Lib.hid (B2.out.call d8 k8)
            have hc1b : w8.cell? ⟨b11, 1, none⟩ = some (.int .i64 qi) := (R11b.out.keeps k8 HF11.out).cell 1
            have hst : (convert 34 9 (.slice (some ⟨X, 0, none⟩) m 256)).run Try.prog w8 = .ok (.string (strOf bt)) w8 := by
              have h := run_string_src (P := Try.prog) w8 34 9 5 Try.underlying34 Try.underlying5 Try.underlying9 (some ⟨X, 0, none⟩) bt 256 (HSB.out.keeps k8 (fun a ha _ hf => by cases ha; exact HFX.out hf))
              rw [HBL.out] at h
              exact h
            have hrw := rwr_any w8 F2 (.agg R) s B3.out.ref B1.out.dsk.ok (by have := HLE.out; omega) qi bt
            rw [← HTW.out.1, ← HTW.out.2] at hrw
            obtain ⟨sb, hsb⟩ : ∃ x, strOf bt = x := ⟨_, rfl⟩
            rw [hsb] at hst hrw
            have HRW := Lib.hid hrw
            clear hrw hsb d8 k8 HWR B2 hc1
            go_wp2_with (first
              | (refine wpList_load_row (by rfl) 31 (.tmp 8) (by rfl) b8 (by rfl) 31 R (0, 0) _ B3.out.row Try.underlying31 rfl HRS.out ?_))
            refine HRW.out.mono ?_
            rintro e w9 ⟨v', rfl, v9, k9⟩
            clear hst hc1b hc2 hc3 HRW
            obtain ⟨R2, rfl, R2n, R2o⟩ := v9.row
            have R2N := Lib.hid R2n
            have R2S : Hid ((Try.prog.info? 31).map (·.size) = some R2.size) := Lib.hid (by rw [R2n]; exact size_D)
            have R2O := Lib.hid R2o
            have hb4 := B3.out.refd HB8.out k9 v9
            obtain ⟨W10, hW10⟩ : ∃ V, w9.setRow b8 R2 = V := ⟨_, rfl⟩
            have R9 : Hid (w9.heap[b8]? = some (.cells R 31 (0, 0))) := Lib.hid ((k9.block b8 (Array.getElem?_eq_some_iff.1 B3.out.row).1 id).trans B3.out.row)
            rw [hW10] at hb4
            have B4 := Lib.hid hb4
            clear hb4 v9 R2n R2o
            go_wp2_with (first
              | (refine wpList_store_row (by rfl) 31 (.tmp 8) (.tmp 101) (by rfl) b8 R2 (by rfl) (by rfl) 31 R R9.out R2S.out (HRN.out.trans R2N.out.symm) R2O.out ?_; rw [hW10])
              | (refine wpList_load_row_w (by rfl) 31 (.tmp 8) (by rfl) b8 (by rfl) 31 R2 (0, 0) _ B4.out.row Try.underlying31 rfl R2S.out ?_))
            refine (alike_ref _ _ _ g _ _ B4.out.dsk B4.out.ref HN1.out HM1.out).mono ?_
            rintro e w11 ⟨rfl, k11⟩
            have B5 := Lib.hid (B4.out.later k11)
            clear k11 B4 B3 R9
            go_wp2_with fail
            go_roundw
            case rel => exact ⟨i + 1, _, s1, R2, by omega, by go_num, B5, R2N, R2S, R2O, Lib.hid HNS.out, Lib.hid HLS.out⟩
            case measure => simp [intOf]; omega
          · subst hr
            have hc3 : W6.cell? ⟨b11, 3, none⟩ = some (.slice B bs.length C) := R11.out.cell 3
            have hc2 : W6.cell? ⟨b11, 2, none⟩ = some (.int .i64 qn) := R11.out.cell 2
            obtain ⟨odd, hodd⟩ : ∃ o, (qn == 1) = o := ⟨_, rfl⟩
            obtain ⟨m, hm⟩ : ∃ m, (if odd then 255 else 256) = m := ⟨_, rfl⟩
            have hm256 : m ≤ 256 := by rw [← hm]; split <;> omega
            have HM := Lib.hid hm
            clear hm
            go_wp2_with (first
              | (refine wpList_load_any (by rfl) 36 (.tmp 57) (by rfl) (ad.add (i * 4)) (by rfl) [.int .i64 kd, .int .i64 qi, .int .i64 qn, .slice B bs.length C] _ HXC.out Try.underlying36 rfl size_act ?_)
              | (refine wpList_store_row (by rfl) 36 (.tmp 11) (.tmp 58) (by rfl) b11 RX (by rfl) (by rw [← HRX.out]; rfl) 36 Z2 R5.out RXS.out (Z2N.out.trans RXN.out.symm) RXO.out ?_; rw [hW6]))
            refine (full_any B C bs odd m HM.out W6 HS6.out (by omega)).mono ?_
            rintro e w7 ⟨rfl, r7, k7⟩
            obtain ⟨X, hX⟩ : ∃ x, W6.heap.size = x := ⟨_, rfl⟩
            rw [hX] at r7
            obtain ⟨F2, hF2⟩ : ∃ G : Nat → Prop, cut F1 W6.heap.size w7.heap.size = G := ⟨_, rfl⟩
            have b2 := B1.out.later k7
            have hFX : ¬ F2 X := by
              rw [← hF2]
              intro h
              have := r7.lt
              rcases h.2 with h | h <;> omega
            have hF11 : ¬ F2 b11 := by rw [← hF2]; exact fun h => HN11.out h.1
            rw [hF2] at b2
            have r11 := R11.out.keeps k7 id
            have hc1 : w7.cell? ⟨b11, 1, none⟩ = some (.int .i64 qi) := r11.cell 1
            have hwr := write_there w7 F2 g s X 256 (b2.dsk.mono (fun k _ hf => ⟨hf, fun e => hFX (by rw [← e]; exact hf)⟩)) b2.clo 5 (Dk.fill bs) r7 qi m (Dk.fill_length _) (by have := HLE.out; omega)
            obtain ⟨E, hE⟩ : ∃ x, Dk.wrE s qi m = x := ⟨_, rfl⟩
            obtain ⟨s1, hs1⟩ : ∃ x, Dk.wr s qi m (Dk.fill bs) = x := ⟨_, rfl⟩
            obtain ⟨ht1, ht2⟩ := Dk.wr_take s qi m (Dk.fill bs) (Dk.fill_length _) hm256
            obtain ⟨bt, hbt⟩ : ∃ x, (Dk.fill bs).take m = x := ⟨_, rfl⟩
            rw [hbt, hs1] at ht1
            rw [hbt, hE] at ht2
            rw [hE, hs1] at hwr
            have hbl : bt.length = m := by rw [← hbt, List.length_take, Dk.fill_length]; omega
            have hsb : Src w7 (some ⟨X, 0, none⟩) (bvs bt) := by rw [← hbt]; exact take_row r7
            have HN1 : Hid (s1.n ≤ 1000) := Lib.hid (by rw [← hs1, Dk.wr_n]; exact HNN.out)
            have HNS : Hid (s1.n ≤ 1000) := HN1
            have hls1 : s1.loose.length ≤ i + 1 := by
              have h1 := Dk.wr_length s qi m (Dk.fill bs)
              have h2 := HLE.out
              rw [hs1] at h1
              omega
            have HM1 : Hid (s1.loose.length ≤ 1000) := Lib.hid (by omega)
            have HLS : Hid (s1.loose.length ≤ i + 1) := Lib.hid hls1
            have HTW := Lib.hid (And.intro ht1 ht2)
            have HWR := Lib.hid hwr
            have B2 := Lib.hid b2
            have HSB := Lib.hid hsb
            have HBL := Lib.hid hbl
            have HF11 := Lib.hid hF11
            have HFX := Lib.hid hFX
            have R11b := Lib.hid r11
            clear b2 hwr hE hs1 ht1 ht2 hbt hbl hsb hls1 hF2 hF11 hFX r7 k7 r11 hm256
            go_wp2_with fail
            refine HWR.out.mono ?_
            rintro e w8 ⟨rfl, d8, k8⟩
            have B3 := Lib.hid (B2.out.call d8 k8)
            have hc1b : w8.cell? ⟨b11, 1, none⟩ = some (.int .i64 qi) := (R11b.out.keeps k8 HF11.out).cell 1
            have hst : (convert 34 9 (.slice (some ⟨X, 0, none⟩) m 256)).run Try.prog w8 = .ok (.string (strOf bt)) w8 := by
              have h := run_string_src (P := Try.prog) w8 34 9 5 Try.underlying34 Try.underlying5 Try.underlying9 (some ⟨X, 0, none⟩) bt 256 (HSB.out.keeps k8 (fun a ha _ hf => by cases ha; exact HFX.out hf))
              rw [HBL.out] at h
              exact h
            have hrw := rwr_any w8 F2 (.agg R) s B3.out.ref B1.out.dsk.ok (by have := HLE.out; omega) qi bt
            rw [← HTW.out.1, ← HTW.out.2] at hrw
            obtain ⟨sb, hsb⟩ : ∃ x, strOf bt = x := ⟨_, rfl⟩
            rw [hsb] at hst hrw
            have HRW := Lib.hid hrw
            clear hrw hsb d8 k8 HWR B2 hc1
            go_wp2_with (first
              | (refine wpList_load_row (by rfl) 31 (.tmp 8) (by rfl) b8 (by rfl) 31 R (0, 0) _ B3.out.row Try.underlying31 rfl HRS.out ?_))
            refine HRW.out.mono ?_
            rintro e w9 ⟨v', rfl, v9, k9⟩
            clear hst hc1b hc2 hc3 HRW
            obtain ⟨R2, rfl, R2n, R2o⟩ := v9.row
            have R2N := Lib.hid R2n
            have R2S : Hid ((Try.prog.info? 31).map (·.size) = some R2.size) := Lib.hid (by rw [R2n]; exact size_D)
            have R2O := Lib.hid R2o
            have hb4 := B3.out.refd HB8.out k9 v9
            obtain ⟨W10, hW10⟩ : ∃ V, w9.setRow b8 R2 = V := ⟨_, rfl⟩
            have R9 : Hid (w9.heap[b8]? = some (.cells R 31 (0, 0))) := Lib.hid ((k9.block b8 (Array.getElem?_eq_some_iff.1 B3.out.row).1 id).trans B3.out.row)
            rw [hW10] at hb4
            have B4 := Lib.hid hb4
            clear hb4 v9 R2n R2o
            go_wp2_with (first
              | (refine wpList_store_row (by rfl) 31 (.tmp 8) (.tmp 101) (by rfl) b8 R2 (by rfl) (by rfl) 31 R R9.out R2S.out (HRN.out.trans R2N.out.symm) R2O.out ?_; rw [hW10])
              | (refine wpList_load_row_w (by rfl) 31 (.tmp 8) (by rfl) b8 (by rfl) 31 R2 (0, 0) _ B4.out.row Try.underlying31 rfl R2S.out ?_))
            refine (alike_ref _ _ _ g _ _ B4.out.dsk B4.out.ref HN1.out HM1.out).mono ?_
            rintro e w11 ⟨rfl, k11⟩
            have B5 := Lib.hid (B4.out.later k11)
            clear k11 B4 B3 R9
            go_wp2_with fail
            go_roundw
            case rel => exact ⟨i + 1, _, s1, R2, by omega, by go_num, B5, R2N, R2S, R2O, Lib.hid HNS.out, Lib.hid HLS.out⟩
            case measure => simp [intOf]; omega
          · subst hr
            have hc3 : W6.cell? ⟨b11, 3, none⟩ = some (.slice B bs.length C) := R11.out.cell 3
            have hc2 : W6.cell? ⟨b11, 2, none⟩ = some (.int .i64 qn) := R11.out.cell 2
            obtain ⟨odd, hodd⟩ : ∃ o, (qn == 1) = o := ⟨_, rfl⟩
            obtain ⟨m, hm⟩ : ∃ m, (if odd then 255 else 256) = m := ⟨_, rfl⟩
            have hm256 : m ≤ 256 := by rw [← hm]; split <;> omega
            have HM := Lib.hid hm
            clear hm
            go_wp2_with (first
              | (refine wpList_load_any (by rfl) 36 (.tmp 57) (by rfl) (ad.add (i * 4)) (by rfl) [.int .i64 kd, .int .i64 qi, .int .i64 qn, .slice B bs.length C] _ HXC.out Try.underlying36 rfl size_act ?_)
              | (refine wpList_store_row (by rfl) 36 (.tmp 11) (.tmp 58) (by rfl) b11 RX (by rfl) (by rw [← HRX.out]; rfl) 36 Z2 R5.out RXS.out (Z2N.out.trans RXN.out.symm) RXO.out ?_; rw [hW6]))
            refine (full_any B C bs odd m HM.out W6 HS6.out (by omega)).mono ?_
            rintro e w7 ⟨rfl, r7, k7⟩
            obtain ⟨X, hX⟩ : ∃ x, W6.heap.size = x := ⟨_, rfl⟩
            rw [hX] at r7
            obtain ⟨F2, hF2⟩ : ∃ G : Nat → Prop, cut F1 W6.heap.size w7.heap.size = G := ⟨_, rfl⟩
            have b2 := B1.out.later k7
            have hFX : ¬ F2 X := by
              rw [← hF2]
              intro h
              have := r7.lt
              rcases h.2 with h | h <;> omega
            have hF11 : ¬ F2 b11 := by rw [← hF2]; exact fun h => HN11.out h.1
            rw [hF2] at b2
            have r11 := R11.out.keeps k7 id
            have hc1 : w7.cell? ⟨b11, 1, none⟩ = some (.int .i64 qi) := r11.cell 1
            have hwr := write_there w7 F2 g s X 256 (b2.dsk.mono (fun k _ hf => ⟨hf, fun e => hFX (by rw [← e]; exact hf)⟩)) b2.clo 5 (Dk.fill bs) r7 qi m (Dk.fill_length _) (by have := HLE.out; omega)
            obtain ⟨E, hE⟩ : ∃ x, Dk.wrE s qi m = x := ⟨_, rfl⟩
            obtain ⟨s1, hs1⟩ : ∃ x, Dk.wr s qi m (Dk.fill bs) = x := ⟨_, rfl⟩
            obtain ⟨ht1, ht2⟩ := Dk.wr_take s qi m (Dk.fill bs) (Dk.fill_length _) hm256
            obtain ⟨bt, hbt⟩ : ∃ x, (Dk.fill bs).take m = x := ⟨_, rfl⟩
            rw [hbt, hs1] at ht1
            rw [hbt, hE] at ht2
            rw [hE, hs1] at hwr
            have hbl : bt.length = m := by rw [← hbt, List.length_take, Dk.fill_length]; omega
            have hsb : Src w7 (some ⟨X, 0, none⟩) (bvs bt) := by rw [← hbt]; exact take_row r7
            have HN1 : Hid (s1.n ≤ 1000) := Lib.hid (by rw [← hs1, Dk.wr_n]; exact HNN.out)
            have HNS : Hid (s1.n ≤ 1000) := HN1
            have hls1 : s1.loose.length ≤ i + 1 := by
              have h1 := Dk.wr_length s qi m (Dk.fill bs)
              have h2 := HLE.out
              rw [hs1] at h1
              omega
            have HM1 : Hid (s1.loose.length ≤ 1000) := Lib.hid (by omega)
            have HLS : Hid (s1.loose.length ≤ i + 1) := Lib.hid hls1
            have HTW := Lib.hid (And.intro ht1 ht2)
            have HWR := Lib.hid hwr
            have B2 := Lib.hid b2
            have HSB := Lib.hid hsb
            have HBL := Lib.hid hbl
            have HF11 := Lib.hid hF11
            have HFX := Lib.hid hFX
            have R11b := Lib.hid r11
            clear b2 hwr hE hs1 ht1 ht2 hbt hbl hsb hls1 hF2 hF11 hFX r7 k7 r11 hm256
            go_wp2_with fail
            refine HWR.out.mono ?_
            rintro e w8 ⟨rfl, d8, k8⟩
            have B3 := Lib.hid (B2.out.call d8 k8)
            have hc1b : w8.cell? ⟨b11, 1, none⟩ = some (.int .i64 qi) := (R11b.out.keeps k8 HF11.out).cell 1
            have hst : (convert 34 9 (.slice (some ⟨X, 0, none⟩) m 256)).run Try.prog w8 = .ok (.string (strOf bt)) w8 := by
              have h := run_string_src (P := Try.prog) w8 34 9 5 Try.underlying34 Try.underlying5 Try.underlying9 (some ⟨X, 0, none⟩) bt 256 (HSB.out.keeps k8 (fun a ha _ hf => by cases ha; exact HFX.out hf))
              rw [HBL.out] at h
              exact h
            have hrw := rwr_any w8 F2 (.agg R) s B3.out.ref B1.out.dsk.ok (by have := HLE.out; omega) qi bt
            rw [← HTW.out.1, ← HTW.out.2] at hrw
            obtain ⟨sb, hsb⟩ : ∃ x, strOf bt = x := ⟨_, rfl⟩
            rw [hsb] at hst hrw
            have HRW := Lib.hid hrw
            clear hrw hsb d8 k8 HWR B2 hc1
            go_wp2_with (first
              | (refine wpList_load_row (by rfl) 31 (.tmp 8) (by rfl) b8 (by rfl) 31 R (0, 0) _ B3.out.row Try.underlying31 rfl HRS.out ?_))
            refine HRW.out.mono ?_
            rintro e w9 ⟨v', rfl, v9, k9⟩
            clear hst hc1b hc2 hc3 HRW
            obtain ⟨R2, rfl, R2n, R2o⟩ := v9.row
            have R2N := Lib.hid R2n
            have R2S : Hid ((Try.prog.info? 31).map (·.size) = some R2.size) := Lib.hid (by rw [R2n]; exact size_D)
            have R2O := Lib.hid R2o
            have hb4 := B3.out.refd HB8.out k9 v9
            obtain ⟨W10, hW10⟩ : ∃ V, w9.setRow b8 R2 = V := ⟨_, rfl⟩
            have R9 : Hid (w9.heap[b8]? = some (.cells R 31 (0, 0))) := Lib.hid ((k9.block b8 (Array.getElem?_eq_some_iff.1 B3.out.row).1 id).trans B3.out.row)
            rw [hW10] at hb4
            have B4 := Lib.hid hb4
            clear hb4 v9 R2n R2o
            go_wp2_with (first
              | (refine wpList_store_row (by rfl) 31 (.tmp 8) (.tmp 101) (by rfl) b8 R2 (by rfl) (by rfl) 31 R R9.out R2S.out (HRN.out.trans R2N.out.symm) R2O.out ?_; rw [hW10])
              | (refine wpList_load_row_w (by rfl) 31 (.tmp 8) (by rfl) b8 (by rfl) 31 R2 (0, 0) _ B4.out.row Try.underlying31 rfl R2S.out ?_))
            refine (alike_ref _ _ _ g _ _ B4.out.dsk B4.out.ref HN1.out HM1.out).mono ?_
            rintro e w11 ⟨rfl, k11⟩
            have B5 := Lib.hid (B4.out.later k11)
            clear k11 B4 B3 R9
            go_wp2_with fail
            go_roundw
            case rel => exact ⟨i + 1, _, s1, R2, by omega, by go_num, B5, R2N, R2S, R2O, Lib.hid HNS.out, Lib.hid HLS.out⟩
            case measure => simp [intOf]; omega
          · subst hr
            have hc3 : W6.cell? ⟨b11, 3, none⟩ = some (.slice B bs.length C) := R11.out.cell 3
            have hc2 : W6.cell? ⟨b11, 2, none⟩ = some (.int .i64 qn) := R11.out.cell 2
            obtain ⟨odd, hodd⟩ : ∃ o, (qn == 1) = o := ⟨_, rfl⟩
            obtain ⟨m, hm⟩ : ∃ m, (if odd then 255 else 256) = m := ⟨_, rfl⟩
            have hm256 : m ≤ 256 := by rw [← hm]; split <;> omega
            have HM := Lib.hid hm
            clear hm
            go_wp2_with (first
              | (refine wpList_load_any (by rfl) 36 (.tmp 57) (by rfl) (ad.add (i * 4)) (by rfl) [.int .i64 kd, .int .i64 qi, .int .i64 qn, .slice B bs.length C] _ HXC.out Try.underlying36 rfl size_act ?_)
              | (refine wpList_store_row (by rfl) 36 (.tmp 11) (.tmp 58) (by rfl) b11 RX (by rfl) (by rw [← HRX.out]; rfl) 36 Z2 R5.out RXS.out (Z2N.out.trans RXN.out.symm) RXO.out ?_; rw [hW6]))
            refine (full_any B C bs odd m HM.out W6 HS6.out (by omega)).mono ?_
            rintro e w7 ⟨rfl, r7, k7⟩
            obtain ⟨X, hX⟩ : ∃ x, W6.heap.size = x := ⟨_, rfl⟩
            rw [hX] at r7
            obtain ⟨F2, hF2⟩ : ∃ G : Nat → Prop, cut F1 W6.heap.size w7.heap.size = G := ⟨_, rfl⟩
            have b2 := B1.out.later k7
            have hFX : ¬ F2 X := by
              rw [← hF2]
              intro h
              have := r7.lt
              rcases h.2 with h | h <;> omega
            have hF11 : ¬ F2 b11 := by rw [← hF2]; exact fun h => HN11.out h.1
            rw [hF2] at b2
            have r11 := R11.out.keeps k7 id
            have hc1 : w7.cell? ⟨b11, 1, none⟩ = some (.int .i64 qi) := r11.cell 1
            have hwr := write_there w7 F2 g s X 256 (b2.dsk.mono (fun k _ hf => ⟨hf, fun e => hFX (by rw [← e]; exact hf)⟩)) b2.clo 5 (Dk.fill bs) r7 qi m (Dk.fill_length _) (by have := HLE.out; omega)
            obtain ⟨E, hE⟩ : ∃ x, Dk.wrE s qi m = x := ⟨_, rfl⟩
            obtain ⟨s1, hs1⟩ : ∃ x, Dk.wr s qi m (Dk.fill bs) = x := ⟨_, rfl⟩
            obtain ⟨ht1, ht2⟩ := Dk.wr_take s qi m (Dk.fill bs) (Dk.fill_length _) hm256
            obtain ⟨bt, hbt⟩ : ∃ x, (Dk.fill bs).take m = x := ⟨_, rfl⟩
            rw [hbt, hs1] at ht1
            rw [hbt, hE] at ht2
            rw [hE, hs1] at hwr
            have hbl : bt.length = m := by rw [← hbt, List.length_take, Dk.fill_length]; omega
            have hsb : Src w7 (some ⟨X, 0, none⟩) (bvs bt) := by rw [← hbt]; exact take_row r7
            have HN1 : Hid (s1.n ≤ 1000) := Lib.hid (by rw [← hs1, Dk.wr_n]; exact HNN.out)
            have HNS : Hid (s1.n ≤ 1000) := HN1
            have hls1 : s1.loose.length ≤ i + 1 := by
              have h1 := Dk.wr_length s qi m (Dk.fill bs)
              have h2 := HLE.out
              rw [hs1] at h1
              omega
            have HM1 : Hid (s1.loose.length ≤ 1000) := Lib.hid (by omega)
            have HLS : Hid (s1.loose.length ≤ i + 1) := Lib.hid hls1
            have HTW := Lib.hid (And.intro ht1 ht2)
            have HWR := Lib.hid hwr
            have B2 := Lib.hid b2
            have HSB := Lib.hid hsb
            have HBL := Lib.hid hbl
            have HF11 := Lib.hid hF11
            have HFX := Lib.hid hFX
            have R11b := Lib.hid r11
            clear b2 hwr hE hs1 ht1 ht2 hbt hbl hsb hls1 hF2 hF11 hFX r7 k7 r11 hm256
            go_wp2_with fail
            refine HWR.out.mono ?_
            rintro e w8 ⟨rfl, d8, k8⟩
            have B3 := Lib.hid (B2.out.call d8 k8)
            have hc1b : w8.cell? ⟨b11, 1, none⟩ = some (.int .i64 qi) := (R11b.out.keeps k8 HF11.out).cell 1
            have hst : (convert 34 9 (.slice (some ⟨X, 0, none⟩) m 256)).run Try.prog w8 = .ok (.string (strOf bt)) w8 := by
              have h := run_string_src (P := Try.prog) w8 34 9 5 Try.underlying34 Try.underlying5 Try.underlying9 (some ⟨X, 0, none⟩) bt 256 (HSB.out.keeps k8 (fun a ha _ hf => by cases ha; exact HFX.out hf))
              rw [HBL.out] at h
              exact h
            have hrw := rwr_any w8 F2 (.agg R) s B3.out.ref B1.out.dsk.ok (by have := HLE.out; omega) qi bt
            rw [← HTW.out.1, ← HTW.out.2] at hrw
            obtain ⟨sb, hsb⟩ : ∃ x, strOf bt = x := ⟨_, rfl⟩
            rw [hsb] at hst hrw
            have HRW := Lib.hid hrw
            clear hrw hsb d8 k8 HWR B2 hc1
            go_wp2_with (first
              | (refine wpList_load_row (by rfl) 31 (.tmp 8) (by rfl) b8 (by rfl) 31 R (0, 0) _ B3.out.row Try.underlying31 rfl HRS.out ?_))
            refine HRW.out.mono ?_
            rintro e w9 ⟨v', rfl, v9, k9⟩
            clear hst hc1b hc2 hc3 HRW
            obtain ⟨R2, rfl, R2n, R2o⟩ := v9.row
            have R2N := Lib.hid R2n
            have R2S : Hid ((Try.prog.info? 31).map (·.size) = some R2.size) := Lib.hid (by rw [R2n]; exact size_D)
            have R2O := Lib.hid R2o
            have hb4 := B3.out.refd HB8.out k9 v9
            obtain ⟨W10, hW10⟩ : ∃ V, w9.setRow b8 R2 = V := ⟨_, rfl⟩
            have R9 : Hid (w9.heap[b8]? = some (.cells R 31 (0, 0))) := Lib.hid ((k9.block b8 (Array.getElem?_eq_some_iff.1 B3.out.row).1 id).trans B3.out.row)
            rw [hW10] at hb4
            have B4 := Lib.hid hb4
            clear hb4 v9 R2n R2o
            go_wp2_with (first
              | (refine wpList_store_row (by rfl) 31 (.tmp 8) (.tmp 101) (by rfl) b8 R2 (by rfl) (by rfl) 31 R R9.out R2S.out (HRN.out.trans R2N.out.symm) R2O.out ?_; rw [hW10])
              | (refine wpList_load_row_w (by rfl) 31 (.tmp 8) (by rfl) b8 (by rfl) 31 R2 (0, 0) _ B4.out.row Try.underlying31 rfl R2S.out ?_))
            refine (alike_ref _ _ _ g _ _ B4.out.dsk B4.out.ref HN1.out HM1.out).mono ?_
            rintro e w11 ⟨rfl, k11⟩
            have B5 := Lib.hid (B4.out.later k11)
            clear k11 B4 B3 R9
            go_wp2_with fail
            go_roundw
            case rel => exact ⟨i + 1, _, s1, R2, by omega, by go_num, B5, R2N, R2S, R2O, Lib.hid HNS.out, Lib.hid HLS.out⟩
            case measure => simp [intOf]; omega
          · subst hr
            have hc3 : W6.cell? ⟨b11, 3, none⟩ = some (.slice B bs.length C) := R11.out.cell 3
            have hc2 : W6.cell? ⟨b11, 2, none⟩ = some (.int .i64 qn) := R11.out.cell 2
            obtain ⟨odd, hodd⟩ : ∃ o, (qn == 1) = o := ⟨_, rfl⟩
            obtain ⟨m, hm⟩ : ∃ m, (if odd then 255 else 256) = m := ⟨_, rfl⟩
            have hm256 : m ≤ 256 := by rw [← hm]; split <;> omega
            have HM := Lib.hid hm
            clear hm
            go_wp2_with (first
              | (refine wpList_load_any (by rfl) 36 (.tmp 57) (by rfl) (ad.add (i * 4)) (by rfl) [.int .i64 kd, .int .i64 qi, .int .i64 qn, .slice B bs.length C] _ HXC.out Try.underlying36 rfl size_act ?_)
              | (refine wpList_store_row (by rfl) 36 (.tmp 11) (.tmp 58) (by rfl) b11 RX (by rfl) (by rw [← HRX.out]; rfl) 36 Z2 R5.out RXS.out (Z2N.out.trans RXN.out.symm) RXO.out ?_; rw [hW6]))
            refine (full_any B C bs odd m HM.out W6 HS6.out (by omega)).mono ?_
            rintro e w7 ⟨rfl, r7, k7⟩
            obtain ⟨X, hX⟩ : ∃ x, W6.heap.size = x := ⟨_, rfl⟩
            rw [hX] at r7
            obtain ⟨F2, hF2⟩ : ∃ G : Nat → Prop, cut F1 W6.heap.size w7.heap.size = G := ⟨_, rfl⟩
            have b2 := B1.out.later k7
            have hFX : ¬ F2 X := by
              rw [← hF2]
              intro h
              have := r7.lt
              rcases h.2 with h | h <;> omega
            have hF11 : ¬ F2 b11 := by rw [← hF2]; exact fun h => HN11.out h.1
            rw [hF2] at b2
            have r11 := R11.out.keeps k7 id
            have hc1 : w7.cell? ⟨b11, 1, none⟩ = some (.int .i64 qi) := r11.cell 1
            have hwr := write_there w7 F2 g s X 256 (b2.dsk.mono (fun k _ hf => ⟨hf, fun e => hFX (by rw [← e]; exact hf)⟩)) b2.clo 5 (Dk.fill bs) r7 qi m (Dk.fill_length _) (by have := HLE.out; omega)
            obtain ⟨E, hE⟩ : ∃ x, Dk.wrE s qi m = x := ⟨_, rfl⟩
            obtain ⟨s1, hs1⟩ : ∃ x, Dk.wr s qi m (Dk.fill bs) = x := ⟨_, rfl⟩
            obtain ⟨ht1, ht2⟩ := Dk.wr_take s qi m (Dk.fill bs) (Dk.fill_length _) hm256
            obtain ⟨bt, hbt⟩ : ∃ x, (Dk.fill bs).take m = x := ⟨_, rfl⟩
            rw [hbt, hs1] at ht1
            rw [hbt, hE] at ht2
            rw [hE, hs1] at hwr
            have hbl : bt.length = m := by rw [← hbt, List.length_take, Dk.fill_length]; omega
            have hsb : Src w7 (some ⟨X, 0, none⟩) (bvs bt) := by rw [← hbt]; exact take_row r7
            have HN1 : Hid (s1.n ≤ 1000) := Lib.hid (by rw [← hs1, Dk.wr_n]; exact HNN.out)
            have HNS : Hid (s1.n ≤ 1000) := HN1
            have hls1 : s1.loose.length ≤ i + 1 := by
              have h1 := Dk.wr_length s qi m (Dk.fill bs)
              have h2 := HLE.out
              rw [hs1] at h1
              omega
            have HM1 : Hid (s1.loose.length ≤ 1000) := Lib.hid (by omega)
            have HLS : Hid (s1.loose.length ≤ i + 1) := Lib.hid hls1
            have HTW := Lib.hid (And.intro ht1 ht2)
            have HWR := Lib.hid hwr
            have B2 := Lib.hid b2
            have HSB := Lib.hid hsb
            have HBL := Lib.hid hbl
            have HF11 := Lib.hid hF11
            have HFX := Lib.hid hFX
            have R11b := Lib.hid r11
            clear b2 hwr hE hs1 ht1 ht2 hbt hbl hsb hls1 hF2 hF11 hFX r7 k7 r11 hm256
            go_wp2_with fail
            refine HWR.out.mono ?_
            rintro e w8 ⟨rfl, d8, k8⟩
            have B3 := Lib.hid (B2.out.call d8 k8)
            have hc1b : w8.cell? ⟨b11, 1, none⟩ = some (.int .i64 qi) := (R11b.out.keeps k8 HF11.out).cell 1
            have hst : (convert 34 9 (.slice (some ⟨X, 0, none⟩) m 256)).run Try.prog w8 = .ok (.string (strOf bt)) w8 := by
              have h := run_string_src (P := Try.prog) w8 34 9 5 Try.underlying34 Try.underlying5 Try.underlying9 (some ⟨X, 0, none⟩) bt 256 (HSB.out.keeps k8 (fun a ha _ hf => by cases ha; exact HFX.out hf))
              rw [HBL.out] at h
              exact h
            have hrw := rwr_any w8 F2 (.agg R) s B3.out.ref B1.out.dsk.ok (by have := HLE.out; omega) qi bt
            rw [← HTW.out.1, ← HTW.out.2] at hrw
            obtain ⟨sb, hsb⟩ : ∃ x, strOf bt = x := ⟨_, rfl⟩
            rw [hsb] at hst hrw
            have HRW := Lib.hid hrw
            clear hrw hsb d8 k8 HWR B2 hc1
            go_wp2_with (first
              | (refine wpList_load_row (by rfl) 31 (.tmp 8) (by rfl) b8 (by rfl) 31 R (0, 0) _ B3.out.row Try.underlying31 rfl HRS.out ?_))
            refine HRW.out.mono ?_
            rintro e w9 ⟨v', rfl, v9, k9⟩
            clear hst hc1b hc2 hc3 HRW
            obtain ⟨R2, rfl, R2n, R2o⟩ := v9.row
            have R2N := Lib.hid R2n
            have R2S : Hid ((Try.prog.info? 31).map (·.size) = some R2.size) := Lib.hid (by rw [R2n]; exact size_D)
            have R2O := Lib.hid R2o
            have hb4 := B3.out.refd HB8.out k9 v9
            obtain ⟨W10, hW10⟩ : ∃ V, w9.setRow b8 R2 = V := ⟨_, rfl⟩
            have R9 : Hid (w9.heap[b8]? = some (.cells R 31 (0, 0))) := Lib.hid ((k9.block b8 (Array.getElem?_eq_some_iff.1 B3.out.row).1 id).trans B3.out.row)
            rw [hW10] at hb4
            have B4 := Lib.hid hb4
            clear hb4 v9 R2n R2o
            go_wp2_with (first
              | (refine wpList_store_row (by rfl) 31 (.tmp 8) (.tmp 101) (by rfl) b8 R2 (by rfl) (by rfl) 31 R R9.out R2S.out (HRN.out.trans R2N.out.symm) R2O.out ?_; rw [hW10])
              | (refine wpList_load_row_w (by rfl) 31 (.tmp 8) (by rfl) b8 (by rfl) 31 R2 (0, 0) _ B4.out.row Try.underlying31 rfl R2S.out ?_))
            refine (alike_ref _ _ _ g _ _ B4.out.dsk B4.out.ref HN1.out HM1.out).mono ?_
            rintro e w11 ⟨rfl, k11⟩
            have B5 := Lib.hid (B4.out.later k11)
            clear k11 B4 B3 R9
            go_wp2_with fail
            go_roundw
            case rel => exact ⟨i + 1, _, s1, R2, by omega, by go_num, B5, R2N, R2S, R2O, Lib.hid HNS.out, Lib.hid HLS.out⟩
            case measure => simp [intOf]; omega
          · subst hr
            have hc3 : W6.cell? ⟨b11, 3, none⟩ = some (.slice B bs.length C) := R11.out.cell 3
            have hc2 : W6.cell? ⟨b11, 2, none⟩ = some (.int .i64 qn) := R11.out.cell 2
            obtain ⟨odd, hodd⟩ : ∃ o, (qn == 1) = o := ⟨_, rfl⟩
            obtain ⟨m, hm⟩ : ∃ m, (if odd then 255 else 256) = m := ⟨_, rfl⟩
            have hm256 : m ≤ 256 := by rw [← hm]; split <;> omega
            have HM := Lib.hid hm
            clear hm
            go_wp2_with (first
              | (refine wpList_load_any (by rfl) 36 (.tmp 57) (by rfl) (ad.add (i * 4)) (by rfl) [.int .i64 kd, .int .i64 qi, .int .i64 qn, .slice B bs.length C] _ HXC.out Try.underlying36 rfl size_act ?_)
              | (refine wpList_store_row (by rfl) 36 (.tmp 11) (.tmp 58) (by rfl) b11 RX (by rfl) (by rw [← HRX.out]; rfl) 36 Z2 R5.out RXS.out (Z2N.out.trans RXN.out.symm) RXO.out ?_; rw [hW6]))
            refine (full_any B C bs odd m HM.out W6 HS6.out (by omega)).mono ?_
            rintro e w7 ⟨rfl, r7, k7⟩
            obtain ⟨X, hX⟩ : ∃ x, W6.heap.size = x := ⟨_, rfl⟩
            rw [hX] at r7
            obtain ⟨F2, hF2⟩ : ∃ G : Nat → Prop, cut F1 W6.heap.size w7.heap.size = G := ⟨_, rfl⟩
            have b2 := B1.out.later k7
            have hFX : ¬ F2 X := by
              rw [← hF2]
              intro h
              have := r7.lt
              rcases h.2 with h | h <;> omega
            have hF11 : ¬ F2 b11 := by rw [← hF2]; exact fun h => HN11.out h.1
            rw [hF2] at b2
            have r11 := R11.out.keeps k7 id
            have hc1 : w7.cell? ⟨b11, 1, none⟩ = some (.int .i64 qi) := r11.cell 1
            have hwr := write_there w7 F2 g s X 256 (b2.dsk.mono (fun k _ hf => ⟨hf, fun e => hFX (by rw [← e]; exact hf)⟩)) b2.clo 5 (Dk.fill bs) r7 qi m (Dk.fill_length _) (by have := HLE.out; omega)
            obtain ⟨E, hE⟩ : ∃ x, Dk.wrE s qi m = x := ⟨_, rfl⟩
            obtain ⟨s1, hs1⟩ : ∃ x, Dk.wr s qi m (Dk.fill bs) = x := ⟨_, rfl⟩
            obtain ⟨ht1, ht2⟩ := Dk.wr_take s qi m (Dk.fill bs) (Dk.fill_length _) hm256
            obtain ⟨bt, hbt⟩ : ∃ x, (Dk.fill bs).take m = x := ⟨_, rfl⟩
            rw [hbt, hs1] at ht1
            rw [hbt, hE] at ht2
            rw [hE, hs1] at hwr
            have hbl : bt.length = m := by rw [← hbt, List.length_take, Dk.fill_length]; omega
            have hsb : Src w7 (some ⟨X, 0, none⟩) (bvs bt) := by rw [← hbt]; exact take_row r7
            have HN1 : Hid (s1.n ≤ 1000) := Lib.hid (by rw [← hs1, Dk.wr_n]; exact HNN.out)
            have HNS : Hid (s1.n ≤ 1000) := HN1
            have hls1 : s1.loose.length ≤ i + 1 := by
              have h1 := Dk.wr_length s qi m (Dk.fill bs)
              have h2 := HLE.out
              rw [hs1] at h1
              omega
            have HM1 : Hid (s1.loose.length ≤ 1000) := Lib.hid (by omega)
            have HLS : Hid (s1.loose.length ≤ i + 1) := Lib.hid hls1
            have HTW := Lib.hid (And.intro ht1 ht2)
            have HWR := Lib.hid hwr
            have B2 := Lib.hid b2
            have HSB := Lib.hid hsb
            have HBL := Lib.hid hbl
            have HF11 := Lib.hid hF11
            have HFX := Lib.hid hFX
            have R11b := Lib.hid r11
            clear b2 hwr hE hs1 ht1 ht2 hbt hbl hsb hls1 hF2 hF11 hFX r7 k7 r11 hm256
            go_wp2_with fail
            refine HWR.out.mono ?_
            rintro e w8 ⟨rfl, d8, k8⟩
            have B3 := Lib.hid (B2.out.call d8 k8)
            have hc1b : w8.cell? ⟨b11, 1, none⟩ = some (.int .i64 qi) := (R11b.out.keeps k8 HF11.out).cell 1
            have hst : (convert 34 9 (.slice (some ⟨X, 0, none⟩) m 256)).run Try.prog w8 = .ok (.string (strOf bt)) w8 := by
              have h := run_string_src (P := Try.prog) w8 34 9 5 Try.underlying34 Try.underlying5 Try.underlying9 (some ⟨X, 0, none⟩) bt 256 (HSB.out.keeps k8 (fun a ha _ hf => by cases ha; exact HFX.out hf))
              rw [HBL.out] at h
              exact h
            have hrw := rwr_any w8 F2 (.agg R) s B3.out.ref B1.out.dsk.ok (by have := HLE.out; omega) qi bt
            rw [← HTW.out.1, ← HTW.out.2] at hrw
            obtain ⟨sb, hsb⟩ : ∃ x, strOf bt = x := ⟨_, rfl⟩
            rw [hsb] at hst hrw
            have HRW := Lib.hid hrw
            clear hrw hsb d8 k8 HWR B2 hc1
            go_wp2_with (first
              | (refine wpList_load_row (by rfl) 31 (.tmp 8) (by rfl) b8 (by rfl) 31 R (0, 0) _ B3.out.row Try.underlying31 rfl HRS.out ?_))
            refine HRW.out.mono ?_
            rintro e w9 ⟨v', rfl, v9, k9⟩
            clear hst hc1b hc2 hc3 HRW
            obtain ⟨R2, rfl, R2n, R2o⟩ := v9.row
            have R2N := Lib.hid R2n
            have R2S : Hid ((Try.prog.info? 31).map (·.size) = some R2.size) := Lib.hid (by rw [R2n]; exact size_D)
            have R2O := Lib.hid R2o
            have hb4 := B3.out.refd HB8.out k9 v9
            obtain ⟨W10, hW10⟩ : ∃ V, w9.setRow b8 R2 = V := ⟨_, rfl⟩
            have R9 : Hid (w9.heap[b8]? = some (.cells R 31 (0, 0))) := Lib.hid ((k9.block b8 (Array.getElem?_eq_some_iff.1 B3.out.row).1 id).trans B3.out.row)
            rw [hW10] at hb4
            have B4 := Lib.hid hb4
            clear hb4 v9 R2n R2o
            go_wp2_with (first
              | (refine wpList_store_row (by rfl) 31 (.tmp 8) (.tmp 101) (by rfl) b8 R2 (by rfl) (by rfl) 31 R R9.out R2S.out (HRN.out.trans R2N.out.symm) R2O.out ?_; rw [hW10])
              | (refine wpList_load_row_w (by rfl) 31 (.tmp 8) (by rfl) b8 (by rfl) 31 R2 (0, 0) _ B4.out.row Try.underlying31 rfl R2S.out ?_))
            refine (alike_ref _ _ _ g _ _ B4.out.dsk B4.out.ref HN1.out HM1.out).mono ?_
            rintro e w11 ⟨rfl, k11⟩
            have B5 := Lib.hid (B4.out.later k11)
            clear k11 B4 B3 R9
            go_wp2_with fail
            go_roundw
            case rel => exact ⟨i + 1, _, s1, R2, by omega, by go_num, B5, R2N, R2S, R2O, Lib.hid HNS.out, Lib.hid HLS.out⟩
            case measure => simp [intOf]; omega
          · subst hr
            have hc3 : W6.cell? ⟨b11, 3, none⟩ = some (.slice B bs.length C) := R11.out.cell 3
            have hc2 : W6.cell? ⟨b11, 2, none⟩ = some (.int .i64 qn) := R11.out.cell 2
            obtain ⟨odd, hodd⟩ : ∃ o, (qn == 1) = o := ⟨_, rfl⟩
            obtain ⟨m, hm⟩ : ∃ m, (if odd then 255 else 256) = m := ⟨_, rfl⟩
            have hm256 : m ≤ 256 := by rw [← hm]; split <;> omega
            have HM := Lib.hid hm
            clear hm
            go_wp2_with (first
              | (refine wpList_load_any (by rfl) 36 (.tmp 57) (by rfl) (ad.add (i * 4)) (by rfl) [.int .i64 kd, .int .i64 qi, .int .i64 qn, .slice B bs.length C] _ HXC.out Try.underlying36 rfl size_act ?_)
              | (refine wpList_store_row (by rfl) 36 (.tmp 11) (.tmp 58) (by rfl) b11 RX (by rfl) (by rw [← HRX.out]; rfl) 36 Z2 R5.out RXS.out (Z2N.out.trans RXN.out.symm) RXO.out ?_; rw [hW6]))
            refine (full_any B C bs odd m HM.out W6 HS6.out (by omega)).mono ?_
            rintro e w7 ⟨rfl, r7, k7⟩
            obtain ⟨X, hX⟩ : ∃ x, W6.heap.size = x := ⟨_, rfl⟩
            rw [hX] at r7
            obtain ⟨F2, hF2⟩ : ∃ G : Nat → Prop, cut F1 W6.heap.size w7.heap.size = G := ⟨_, rfl⟩
            have b2 := B1.out.later k7
            have hFX : ¬ F2 X := by
              rw [← hF2]
              intro h
              have := r7.lt
              rcases h.2 with h | h <;> omega
            have hF11 : ¬ F2 b11 := by rw [← hF2]; exact fun h => HN11.out h.1
            rw [hF2] at b2
            have r11 := R11.out.keeps k7 id
            have hc1 : w7.cell? ⟨b11, 1, none⟩ = some (.int .i64 qi) := r11.cell 1
            have hwr := write_there w7 F2 g s X 256 (b2.dsk.mono (fun k _ hf => ⟨hf, fun e => hFX (by rw [← e]; exact hf)⟩)) b2.clo 5 (Dk.fill bs) r7 qi m (Dk.fill_length _) (by have := HLE.out; omega)
            obtain ⟨E, hE⟩ : ∃ x, Dk.wrE s qi m = x := ⟨_, rfl⟩
            obtain ⟨s1, hs1⟩ : ∃ x, Dk.wr s qi m (Dk.fill bs) = x := ⟨_, rfl⟩
            obtain ⟨ht1, ht2⟩ := Dk.wr_take s qi m (Dk.fill bs) (Dk.fill_length _) hm256
            obtain ⟨bt, hbt⟩ : ∃ x, (Dk.fill bs).take m = x := ⟨_, rfl⟩
            rw [hbt, hs1] at ht1
            rw [hbt, hE] at ht2
            rw [hE, hs1] at hwr
            have hbl : bt.length = m := by rw [← hbt, List.length_take, Dk.fill_length]; omega
            have hsb : Src w7 (some ⟨X, 0, none⟩) (bvs bt) := by rw [← hbt]; exact take_row r7
            have HN1 : Hid (s1.n ≤ 1000) := Lib.hid (by rw [← hs1, Dk.wr_n]; exact HNN.out)
            have HNS : Hid (s1.n ≤ 1000) := HN1
            have hls1 : s1.loose.length ≤ i + 1 := by
              have h1 := Dk.wr_length s qi m (Dk.fill bs)
              have h2 := HLE.out
              rw [hs1] at h1
              omega
            have HM1 : Hid (s1.loose.length ≤ 1000) := Lib.hid (by omega)
            have HLS : Hid (s1.loose.length ≤ i + 1) := Lib.hid hls1
            have HTW := Lib.hid (And.intro ht1 ht2)
            have HWR := Lib.hid hwr
            have B2 := Lib.hid b2
            have HSB := Lib.hid hsb
            have HBL := Lib.hid hbl
            have HF11 := Lib.hid hF11
            have HFX := Lib.hid hFX
            have R11b := Lib.hid r11
            clear b2 hwr hE hs1 ht1 ht2 hbt hbl hsb hls1 hF2 hF11 hFX r7 k7 r11 hm256
            go_wp2_with fail
            refine HWR.out.mono ?_
            rintro e w8 ⟨rfl, d8, k8⟩
            have B3 := Lib.hid (B2.out.call d8 k8)
            have hc1b : w8.cell? ⟨b11, 1, none⟩ = some (.int .i64 qi) := (R11b.out.keeps k8 HF11.out).cell 1
            have hst : (convert 34 9 (.slice (some ⟨X, 0, none⟩) m 256)).run Try.prog w8 = .ok (.string (strOf bt)) w8 := by
              have h := run_string_src (P := Try.prog) w8 34 9 5 Try.underlying34 Try.underlying5 Try.underlying9 (some ⟨X, 0, none⟩) bt 256 (HSB.out.keeps k8 (fun a ha _ hf => by cases ha; exact HFX.out hf))
              rw [HBL.out] at h
              exact h
            have hrw := rwr_any w8 F2 (.agg R) s B3.out.ref B1.out.dsk.ok (by have := HLE.out; omega) qi bt
            rw [← HTW.out.1, ← HTW.out.2] at hrw
            obtain ⟨sb, hsb⟩ : ∃ x, strOf bt = x := ⟨_, rfl⟩
            rw [hsb] at hst hrw
            have HRW := Lib.hid hrw
            clear hrw hsb d8 k8 HWR B2 hc1
            go_wp2_with (first
              | (refine wpList_load_row (by rfl) 31 (.tmp 8) (by rfl) b8 (by rfl) 31 R (0, 0) _ B3.out.row Try.underlying31 rfl HRS.out ?_))
            refine HRW.out.mono ?_
            rintro e w9 ⟨v', rfl, v9, k9⟩
            clear hst hc1b hc2 hc3 HRW
            obtain ⟨R2, rfl, R2n, R2o⟩ := v9.row
            have R2N := Lib.hid R2n
            have R2S : Hid ((Try.prog.info? 31).map (·.size) = some R2.size) := Lib.hid (by rw [R2n]; exact size_D)
            have R2O := Lib.hid R2o
            have hb4 := B3.out.refd HB8.out k9 v9
            obtain ⟨W10, hW10⟩ : ∃ V, w9.setRow b8 R2 = V := ⟨_, rfl⟩
            have R9 : Hid (w9.heap[b8]? = some (.cells R 31 (0, 0))) := Lib.hid ((k9.block b8 (Array.getElem?_eq_some_iff.1 B3.out.row).1 id).trans B3.out.row)
            rw [hW10] at hb4
            have B4 := Lib.hid hb4
            clear hb4 v9 R2n R2o
            go_wp2_with (first
              | (refine wpList_store_row (by rfl) 31 (.tmp 8) (.tmp 101) (by rfl) b8 R2 (by rfl) (by rfl) 31 R R9.out R2S.out (HRN.out.trans R2N.out.symm) R2O.out ?_; rw [hW10])
              | (refine wpList_load_row_w (by rfl) 31 (.tmp 8) (by rfl) b8 (by rfl) 31 R2 (0, 0) _ B4.out.row Try.underlying31 rfl R2S.out ?_))
            refine (alike_ref _ _ _ g _ _ B4.out.dsk B4.out.ref HN1.out HM1.out).mono ?_
            rintro e w11 ⟨rfl, k11⟩
            have B5 := Lib.hid (B4.out.later k11)
            clear k11 B4 B3 R9
            go_wp2_with fail
            go_roundw
            case rel => exact ⟨i + 1, _, s1, R2, by omega, by go_num, B5, R2N, R2S, R2O, Lib.hid HNS.out, Lib.hid HLS.out⟩
            case measure => simp [intOf]; omega
          · subst hr
            have hsy := sync_any W6 F1 g s B1.out.dsk B1.out.clo (by have := HLE.out; omega)
            obtain ⟨E, hE⟩ : ∃ x, Dk.syE s = x := ⟨_, rfl⟩
            obtain ⟨s1, hs1⟩ : ∃ x, Dk.sy s = x := ⟨_, rfl⟩
            rw [hE, hs1] at hsy
            have HN1 : Hid (s1.n ≤ 1000) := Lib.hid (by rw [← hs1, Dk.sy_n]; exact HNN.out)
            have HNS : Hid (s1.n ≤ 1000) := HN1
            have hls1 : s1.loose.length ≤ i + 1 := by
              have h1 := Dk.sy_length s
              have h2 := HLE.out
              rw [hs1] at h1
              omega
            have HM1 : Hid (s1.loose.length ≤ 1000) := Lib.hid (by omega)
            have HLS : Hid (s1.loose.length ≤ i + 1) := Lib.hid hls1
            have HSY := Lib.hid hsy
            have HES := Lib.hid (And.intro hE hs1)
            clear hsy hE hs1 hls1
            go_wp2_with (first
              | (refine wpList_load_any (by rfl) 36 (.tmp 57) (by rfl) (ad.add (i * 4)) (by rfl) [.int .i64 kd, .int .i64 qi, .int .i64 qn, .slice B bs.length C] _ HXC.out Try.underlying36 rfl size_act ?_)
              | (refine wpList_store_row (by rfl) 36 (.tmp 11) (.tmp 58) (by rfl) b11 RX (by rfl) (by rw [← HRX.out]; rfl) 36 Z2 R5.out RXS.out (Z2N.out.trans RXN.out.symm) RXO.out ?_; rw [hW6]))
            refine HSY.out.mono ?_
            rintro e w8 ⟨rfl, d8, k8⟩
            have B3 := Lib.hid (B1.out.call d8 k8)
            have hrw := rsy_any w8 F1 (.agg R) s B3.out.ref B1.out.dsk.ok HNN.out (by have := HLE.out; omega)
            rw [HES.out.1, HES.out.2] at hrw
            have HRW := Lib.hid hrw
            clear hrw d8 k8 HSY HES
            go_wp2_with (first
              | (refine wpList_load_row (by rfl) 31 (.tmp 8) (by rfl) b8 (by rfl) 31 R (0, 0) _ B3.out.row Try.underlying31 rfl HRS.out ?_))
            refine HRW.out.mono ?_
            rintro e w9 ⟨v', rfl, v9, k9⟩
            clear HRW
            obtain ⟨R2, rfl, R2n, R2o⟩ := v9.row
            have R2N := Lib.hid R2n
            have R2S : Hid ((Try.prog.info? 31).map (·.size) = some R2.size) := Lib.hid (by rw [R2n]; exact size_D)
            have R2O := Lib.hid R2o
            have hb4 := B3.out.refd HB8.out k9 v9
            obtain ⟨W10, hW10⟩ : ∃ V, w9.setRow b8 R2 = V := ⟨_, rfl⟩
            have R9 : Hid (w9.heap[b8]? = some (.cells R 31 (0, 0))) := Lib.hid ((k9.block b8 (Array.getElem?_eq_some_iff.1 B3.out.row).1 id).trans B3.out.row)
            rw [hW10] at hb4
            have B4 := Lib.hid hb4
            clear hb4 v9 R2n R2o
            go_wp2_with (first
              | (refine wpList_store_row (by rfl) 31 (.tmp 8) (.tmp 112) (by rfl) b8 R2 (by rfl) (by rfl) 31 R R9.out R2S.out (HRN.out.trans R2N.out.symm) R2O.out ?_; rw [hW10])
              | (refine wpList_load_row_w (by rfl) 31 (.tmp 8) (by rfl) b8 (by rfl) 31 R2 (0, 0) _ B4.out.row Try.underlying31 rfl R2S.out ?_))
            refine (alike_ref _ _ _ g _ _ B4.out.dsk B4.out.ref HN1.out HM1.out).mono ?_
            rintro e w11 ⟨rfl, k11⟩
            have B5 := Lib.hid (B4.out.later k11)
            clear k11 B4 B3 R9
            go_wp2_with fail
            go_roundw
            case rel => exact ⟨i + 1, _, s1, R2, by omega, by go_num, B5, R2N, R2S, R2O, Lib.hid HNS.out, Lib.hid HLS.out⟩
            case measure => simp [intOf]; omega
          · subst hr
            have hsy := sync_any W6 F1 g s B1.out.dsk B1.out.clo (by have := HLE.out; omega)
            obtain ⟨E, hE⟩ : ∃ x, Dk.syE s = x := ⟨_, rfl⟩
            obtain ⟨s1, hs1⟩ : ∃ x, Dk.sy s = x := ⟨_, rfl⟩
            rw [hE, hs1] at hsy
            have HN1 : Hid (s1.n ≤ 1000) := Lib.hid (by rw [← hs1, Dk.sy_n]; exact HNN.out)
            have HNS : Hid (s1.n ≤ 1000) := HN1
            have hls1 : s1.loose.length ≤ i + 1 := by
              have h1 := Dk.sy_length s
              have h2 := HLE.out
              rw [hs1] at h1
              omega
            have HM1 : Hid (s1.loose.length ≤ 1000) := Lib.hid (by omega)
            have HLS : Hid (s1.loose.length ≤ i + 1) := Lib.hid hls1
            have HSY := Lib.hid hsy
            have HES := Lib.hid (And.intro hE hs1)
            clear hsy hE hs1 hls1
            go_wp2_with (first
              | (refine wpList_load_any (by rfl) 36 (.tmp 57) (by rfl) (ad.add (i * 4)) (by rfl) [.int .i64 kd, .int .i64 qi, .int .i64 qn, .slice B bs.length C] _ HXC.out Try.underlying36 rfl size_act ?_)
              | (refine wpList_store_row (by rfl) 36 (.tmp 11) (.tmp 58) (by rfl) b11 RX (by rfl) (by rw [← HRX.out]; rfl) 36 Z2 R5.out RXS.out (Z2N.out.trans RXN.out.symm) RXO.out ?_; rw [hW6]))
            refine HSY.out.mono ?_
            rintro e w8 ⟨rfl, d8, k8⟩
            have B3 := Lib.hid (B1.out.call d8 k8)
            have hrw := rsy_any w8 F1 (.agg R) s B3.out.ref B1.out.dsk.ok HNN.out (by have := HLE.out; omega)
            rw [HES.out.1, HES.out.2] at hrw
            have HRW := Lib.hid hrw
            clear hrw d8 k8 HSY HES
            go_wp2_with (first
              | (refine wpList_load_row (by rfl) 31 (.tmp 8) (by rfl) b8 (by rfl) 31 R (0, 0) _ B3.out.row Try.underlying31 rfl HRS.out ?_))
            refine HRW.out.mono ?_
            rintro e w9 ⟨v', rfl, v9, k9⟩
            clear HRW
            obtain ⟨R2, rfl, R2n, R2o⟩ := v9.row
            have R2N := Lib.hid R2n
            have R2S : Hid ((Try.prog.info? 31).map (·.size) = some R2.size) := Lib.hid (by rw [R2n]; exact size_D)
            have R2O := Lib.hid R2o
            have hb4 := B3.out.refd HB8.out k9 v9
            obtain ⟨W10, hW10⟩ : ∃ V, w9.setRow b8 R2 = V := ⟨_, rfl⟩
            have R9 : Hid (w9.heap[b8]? = some (.cells R 31 (0, 0))) := Lib.hid ((k9.block b8 (Array.getElem?_eq_some_iff.1 B3.out.row).1 id).trans B3.out.row)
            rw [hW10] at hb4
            have B4 := Lib.hid hb4
            clear hb4 v9 R2n R2o
            go_wp2_with (first
              | (refine wpList_store_row (by rfl) 31 (.tmp 8) (.tmp 112) (by rfl) b8 R2 (by rfl) (by rfl) 31 R R9.out R2S.out (HRN.out.trans R2N.out.symm) R2O.out ?_; rw [hW10])
              | (refine wpList_load_row_w (by rfl) 31 (.tmp 8) (by rfl) b8 (by rfl) 31 R2 (0, 0) _ B4.out.row Try.underlying31 rfl R2S.out ?_))
            refine (alike_ref _ _ _ g _ _ B4.out.dsk B4.out.ref HN1.out HM1.out).mono ?_
            rintro e w11 ⟨rfl, k11⟩
            have B5 := Lib.hid (B4.out.later k11)
            clear k11 B4 B3 R9
            go_wp2_with fail
            go_roundw
            case rel => exact ⟨i + 1, _, s1, R2, by omega, by go_num, B5, R2N, R2S, R2O, Lib.hid HNS.out, Lib.hid HLS.out⟩
            case measure => simp [intOf]; omega
          · subst hr
            have hsy := sync_any W6 F1 g s B1.out.dsk B1.out.clo (by have := HLE.out; omega)
            obtain ⟨E, hE⟩ : ∃ x, Dk.syE s = x := ⟨_, rfl⟩
            obtain ⟨s1, hs1⟩ : ∃ x, Dk.sy s = x := ⟨_, rfl⟩
            rw [hE, hs1] at hsy
            have HN1 : Hid (s1.n ≤ 1000) := Lib.hid (by rw [← hs1, Dk.sy_n]; exact HNN.out)
            have HNS : Hid (s1.n ≤ 1000) := HN1
            have hls1 : s1.loose.length ≤ i + 1 := by
              have h1 := Dk.sy_length s
              have h2 := HLE.out
              rw [hs1] at h1
              omega
            have HM1 : Hid (s1.loose.length ≤ 1000) := Lib.hid (by omega)
            have HLS : Hid (s1.loose.length ≤ i + 1) := Lib.hid hls1
            have HSY := Lib.hid hsy
            have HES := Lib.hid (And.intro hE hs1)
            clear hsy hE hs1 hls1
            go_wp2_with (first
              | (refine wpList_load_any (by rfl) 36 (.tmp 57) (by rfl) (ad.add (i * 4)) (by rfl) [.int .i64 kd, .int .i64 qi, .int .i64 qn, .slice B bs.length C] _ HXC.out Try.underlying36 rfl size_act ?_)
              | (refine wpList_store_row (by rfl) 36 (.tmp 11) (.tmp 58) (by rfl) b11 RX (by rfl) (by rw [← HRX.out]; rfl) 36 Z2 R5.out RXS.out (Z2N.out.trans RXN.out.symm) RXO.out ?_; rw [hW6]))
            refine HSY.out.mono ?_
            rintro e w8 ⟨rfl, d8, k8⟩
            have B3 := Lib.hid (B1.out.call d8 k8)
            have hrw := rsy_any w8 F1 (.agg R) s B3.out.ref B1.out.dsk.ok HNN.out (by have := HLE.out; omega)
            rw [HES.out.1, HES.out.2] at hrw
            have HRW := Lib.hid hrw
            clear hrw d8 k8 HSY HES
            go_wp2_with (first
              | (refine wpList_load_row (by rfl) 31 (.tmp 8) (by rfl) b8 (by rfl) 31 R (0, 0) _ B3.out.row Try.underlying31 rfl HRS.out ?_))
            refine HRW.out.mono ?_
            rintro e w9 ⟨v', rfl, v9, k9⟩
            clear HRW
            obtain ⟨R2, rfl, R2n, R2o⟩ := v9.row
            have R2N := Lib.hid R2n
            have R2S : Hid ((Try.prog.info? 31).map (·.size) = some R2.size) := Lib.hid (by rw [R2n]; exact size_D)
            have R2O := Lib.hid R2o
            have hb4 := B3.out.refd HB8.out k9 v9
            obtain ⟨W10, hW10⟩ : ∃ V, w9.setRow b8 R2 = V := ⟨_, rfl⟩
            have R9 : Hid (w9.heap[b8]? = some (.cells R 31 (0, 0))) := Lib.hid ((k9.block b8 (Array.getElem?_eq_some_iff.1 B3.out.row).1 id).trans B3.out.row)
            rw [hW10] at hb4
            have B4 := Lib.hid hb4
            clear hb4 v9 R2n R2o
            go_wp2_with (first
              | (refine wpList_store_row (by rfl) 31 (.tmp 8) (.tmp 112) (by rfl) b8 R2 (by rfl) (by rfl) 31 R R9.out R2S.out (HRN.out.trans R2N.out.symm) R2O.out ?_; rw [hW10])
              | (refine wpList_load_row_w (by rfl) 31 (.tmp 8) (by rfl) b8 (by rfl) 31 R2 (0, 0) _ B4.out.row Try.underlying31 rfl R2S.out ?_))
            refine (alike_ref _ _ _ g _ _ B4.out.dsk B4.out.ref HN1.out HM1.out).mono ?_
            rintro e w11 ⟨rfl, k11⟩
            have B5 := Lib.hid (B4.out.later k11)
            clear k11 B4 B3 R9
            go_wp2_with fail
            go_roundw
            case rel => exact ⟨i + 1, _, s1, R2, by omega, by go_num, B5, R2N, R2S, R2O, Lib.hid HNS.out, Lib.hid HLS.out⟩
            case measure => simp [intOf]; omega
          · subst hr
            have hc2 : W6.cell? ⟨b11, 2, none⟩ = some (.int .i64 qn) := R11.out.cell 2
            have hfg : F1 g := by obtain ⟨_, _, _, _, _, _, h⟩ := B1.out.dsk; exact h.fg
            have hsy := fail_any W6 F1 g s qn B1.out.dsk HQN.out
            obtain ⟨s1, hs1⟩ : ∃ x : Dk.St, ({ s with fails := decide (0 ≤ qn), after := qn } : Dk.St) = x := ⟨_, rfl⟩
            rw [hs1] at hsy
            have HN1 : Hid (s1.n ≤ 1000) := Lib.hid (by rw [← hs1]; exact HNN.out)
            have HNS : Hid (s1.n ≤ 1000) := HN1
            have hls1 : s1.loose.length ≤ i + 1 := by
              have h2 := HLE.out
              rw [← hs1]
              show s.loose.length ≤ i + 1
              omega
            have HM1 : Hid (s1.loose.length ≤ 1000) := Lib.hid (by omega)
            have HLS : Hid (s1.loose.length ≤ i + 1) := Lib.hid hls1
            have HSY := Lib.hid hsy
            have HES := Lib.hid hs1
            have HFG := Lib.hid hfg
            clear hsy hs1 hls1 hfg
            go_wp2_with (first
              | (refine wpList_load_any (by rfl) 36 (.tmp 57) (by rfl) (ad.add (i * 4)) (by rfl) [.int .i64 kd, .int .i64 qi, .int .i64 qn, .slice B bs.length C] _ HXC.out Try.underlying36 rfl size_act ?_)
              | (refine wpList_store_row (by rfl) 36 (.tmp 11) (.tmp 58) (by rfl) b11 RX (by rfl) (by rw [← HRX.out]; rfl) 36 Z2 R5.out RXS.out (Z2N.out.trans RXN.out.symm) RXO.out ?_; rw [hW6]))
            refine HSY.out.mono ?_
            rintro e w8 ⟨rfl, d8, k80⟩
            have k8 : Keeps F1 W6 w8 := k80.mono (fun j _ e => by rw [e]; exact HFG.out)
            have B3 := Lib.hid (B1.out.call d8 k8)
            have hc2b : w8.cell? ⟨b11, 2, none⟩ = some (.int .i64 qn) := (R11.out.keeps k8 HN11.out).cell 2
            have hrw := rfa_any w8 F1 (.agg R) s B3.out.ref qn
            rw [HES.out] at hrw
            have HRW := Lib.hid hrw
            clear hrw d8 k8 k80 HSY HES hc2
            go_wp2_with (first
              | (refine wpList_load_row (by rfl) 31 (.tmp 8) (by rfl) b8 (by rfl) 31 R (0, 0) _ B3.out.row Try.underlying31 rfl HRS.out ?_))
            refine HRW.out.mono ?_
            rintro e w9 ⟨v', rfl, v9, k9⟩
            clear HRW hc2b
            obtain ⟨R2, rfl, R2n, R2o⟩ := v9.row
            have R2N := Lib.hid R2n
            have R2S : Hid ((Try.prog.info? 31).map (·.size) = some R2.size) := Lib.hid (by rw [R2n]; exact size_D)
            have R2O := Lib.hid R2o
            have hb4 := B3.out.refd HB8.out k9 v9
            obtain ⟨W10, hW10⟩ : ∃ V, w9.setRow b8 R2 = V := ⟨_, rfl⟩
            have R9 : Hid (w9.heap[b8]? = some (.cells R 31 (0, 0))) := Lib.hid ((k9.block b8 (Array.getElem?_eq_some_iff.1 B3.out.row).1 id).trans B3.out.row)
            rw [hW10] at hb4
            have B4 := Lib.hid hb4
            clear hb4 v9 R2n R2o
            go_wp2_with (first
              | (refine wpList_store_row (by rfl) 31 (.tmp 8) (.tmp 124) (by rfl) b8 R2 (by rfl) (by rfl) 31 R R9.out R2S.out (HRN.out.trans R2N.out.symm) R2O.out ?_; rw [hW10])
              | (refine wpList_load_row_w (by rfl) 31 (.tmp 8) (by rfl) b8 (by rfl) 31 R2 (0, 0) _ B4.out.row Try.underlying31 rfl R2S.out ?_))
            refine (alike_ref _ _ _ g _ _ B4.out.dsk B4.out.ref HN1.out HM1.out).mono ?_
            rintro e w11 ⟨rfl, k11⟩
            have B5 := Lib.hid (B4.out.later k11)
            clear k11 B4 B3 R9
            go_wp2_with fail
            go_roundw
            case rel => exact ⟨i + 1, _, s1, R2, by omega, by go_num, B5, R2N, R2S, R2O, Lib.hid HNS.out, Lib.hid HLS.out⟩
            case measure => simp [intOf]; omega
          · subst hr
            have hc2 : W6.cell? ⟨b11, 2, none⟩ = some (.int .i64 qn) := R11.out.cell 2
            have hfg : F1 g := by obtain ⟨_, _, _, _, _, _, h⟩ := B1.out.dsk; exact h.fg
            have hsy := fail_any W6 F1 g s qn B1.out.dsk HQN.out
            obtain ⟨s1, hs1⟩ : ∃ x : Dk.St, ({ s with fails := decide (0 ≤ qn), after := qn } : Dk.St) = x := ⟨_, rfl⟩
            rw [hs1] at hsy
            have HN1 : Hid (s1.n ≤ 1000) := Lib.hid (by rw [← hs1]; exact HNN.out)
            have HNS : Hid (s1.n ≤ 1000) := HN1
            have hls1 : s1.loose.length ≤ i + 1 := by
              have h2 := HLE.out
              rw [← hs1]
              show s.loose.length ≤ i + 1
              omega
            have HM1 : Hid (s1.loose.length ≤ 1000) := Lib.hid (by omega)
            have HLS : Hid (s1.loose.length ≤ i + 1) := Lib.hid hls1
            have HSY := Lib.hid hsy
            have HES := Lib.hid hs1
            have HFG := Lib.hid hfg
            clear hsy hs1 hls1 hfg
            go_wp2_with (first
              | (refine wpList_load_any (by rfl) 36 (.tmp 57) (by rfl) (ad.add (i * 4)) (by rfl) [.int .i64 kd, .int .i64 qi, .int .i64 qn, .slice B bs.length C] _ HXC.out Try.underlying36 rfl size_act ?_)
              | (refine wpList_store_row (by rfl) 36 (.tmp 11) (.tmp 58) (by rfl) b11 RX (by rfl) (by rw [← HRX.out]; rfl) 36 Z2 R5.out RXS.out (Z2N.out.trans RXN.out.symm) RXO.out ?_; rw [hW6]))
            refine HSY.out.mono ?_
            rintro e w8 ⟨rfl, d8, k80⟩
            have k8 : Keeps F1 W6 w8 := k80.mono (fun j _ e => by rw [e]; exact HFG.out)
            have B3 := Lib.hid (B1.out.call d8 k8)
            have hc2b : w8.cell? ⟨b11, 2, none⟩ = some (.int .i64 qn) := (R11.out.keeps k8 HN11.out).cell 2
            have hrw := rfa_any w8 F1 (.agg R) s B3.out.ref qn
            rw [HES.out] at hrw
            have HRW := Lib.hid hrw
            clear hrw d8 k8 k80 HSY HES hc2
            go_wp2_with (first
              | (refine wpList_load_row (by rfl) 31 (.tmp 8) (by rfl) b8 (by rfl) 31 R (0, 0) _ B3.out.row Try.underlying31 rfl HRS.out ?_))
            refine HRW.out.mono ?_
            rintro e w9 ⟨v', rfl, v9, k9⟩
            clear HRW hc2b
            obtain ⟨R2, rfl, R2n, R2o⟩ := v9.row
            have R2N := Lib.hid R2n
            have R2S : Hid ((Try.prog.info? 31).map (·.size) = some R2.size) := Lib.hid (by rw [R2n]; exact size_D)
            have R2O := Lib.hid R2o
            have hb4 := B3.out.refd HB8.out k9 v9
            obtain ⟨W10, hW10⟩ : ∃ V, w9.setRow b8 R2 = V := ⟨_, rfl⟩
            have R9 : Hid (w9.heap[b8]? = some (.cells R 31 (0, 0))) := Lib.hid ((k9.block b8 (Array.getElem?_eq_some_iff.1 B3.out.row).1 id).trans B3.out.row)
            rw [hW10] at hb4
            have B4 := Lib.hid hb4
            clear hb4 v9 R2n R2o
            go_wp2_with (first
              | (refine wpList_store_row (by rfl) 31 (.tmp 8) (.tmp 124) (by rfl) b8 R2 (by rfl) (by rfl) 31 R R9.out R2S.out (HRN.out.trans R2N.out.symm) R2O.out ?_; rw [hW10])
              | (refine wpList_load_row_w (by rfl) 31 (.tmp 8) (by rfl) b8 (by rfl) 31 R2 (0, 0) _ B4.out.row Try.underlying31 rfl R2S.out ?_))
            refine (alike_ref _ _ _ g _ _ B4.out.dsk B4.out.ref HN1.out HM1.out).mono ?_
            rintro e w11 ⟨rfl, k11⟩
            have B5 := Lib.hid (B4.out.later k11)
            clear k11 B4 B3 R9
            go_wp2_with fail
            go_roundw
            case rel => exact ⟨i + 1, _, s1, R2, by omega, by go_num, B5, R2N, R2S, R2O, Lib.hid HNS.out, Lib.hid HLS.out⟩
            case measure => simp [intOf]; omega
          · obtain ⟨q0, q1, q2, q3, q4, q5, q6, q7, q8, q9, q10, q11⟩ := hr
            have e0 : (r == 0) = false := by rw [beq_eq_false_iff_ne]; exact q0
            have e1 : (r == 1) = false := by rw [beq_eq_false_iff_ne]; exact q1
            have e2 : (r == 2) = false := by rw [beq_eq_false_iff_ne]; exact q2
            have e3 : (r == 3) = false := by rw [beq_eq_false_iff_ne]; exact q3
            have e4 : (r == 4) = false := by rw [beq_eq_false_iff_ne]; exact q4
            have e5 : (r == 5) = false := by rw [beq_eq_false_iff_ne]; exact q5
            have e6 : (r == 6) = false := by rw [beq_eq_false_iff_ne]; exact q6
            have e7 : (r == 7) = false := by rw [beq_eq_false_iff_ne]; exact q7
            have e8 : (r == 8) = false := by rw [beq_eq_false_iff_ne]; exact q8
            have e9 : (r == 9) = false := by rw [beq_eq_false_iff_ne]; exact q9
            have e10 : (r == 10) = false := by rw [beq_eq_false_iff_ne]; exact q10
            have e11 : (r == 11) = false := by rw [beq_eq_false_iff_ne]; exact q11
            clear q0 q1 q2 q3 q4 q5 q6 q7 q8 q9 q10 q11
            have hc3 : W6.cell? ⟨b11, 3, none⟩ = some (.slice B bs.length C) := R11.out.cell 3
            have hsy := crash_any W6 F1 g s B1.out.dsk B1.out.clo (by have := HLE.out; omega) B C bs HS6.out HSF.out (by omega)
            obtain ⟨s1, hs1⟩ : ∃ x : Dk.St, Dk.cr s bs = x := ⟨_, rfl⟩
            have hs2 : ({ s with good := Dk.crash s.good s.loose bs, loose := [], fails := false, dead := false } : Dk.St) = s1 := hs1
            rw [hs2] at hsy
            have HN1 : Hid (s1.n ≤ 1000) := Lib.hid (by rw [← hs1]; exact HNN.out)
            have HNS : Hid (s1.n ≤ 1000) := HN1
            have hls1 : s1.loose.length ≤ i + 1 := by
              rw [← hs1]
              show 0 ≤ i + 1
              omega
            have HM1 : Hid (s1.loose.length ≤ 1000) := Lib.hid (by omega)
            have HLS : Hid (s1.loose.length ≤ i + 1) := Lib.hid hls1
            have HSY := Lib.hid hsy
            have HES := Lib.hid hs1
            clear hsy hs1 hs2 hls1
            go_wp2_with (first
              | (refine wpList_load_any (by rfl) 36 (.tmp 57) (by rfl) (ad.add (i * 4)) (by rfl) [.int .i64 kd, .int .i64 qi, .int .i64 qn, .slice B bs.length C] _ HXC.out Try.underlying36 rfl size_act ?_)
              | (refine wpList_store_row (by rfl) 36 (.tmp 11) (.tmp 58) (by rfl) b11 RX (by rfl) (by rw [← HRX.out]; rfl) 36 Z2 R5.out RXS.out (Z2N.out.trans RXN.out.symm) RXO.out ?_; rw [hW6]))
            refine HSY.out.mono ?_
            rintro e w8 ⟨rfl, d8, k8⟩
            have B3 := Lib.hid (B1.out.call d8 k8)
            have hc3b : w8.cell? ⟨b11, 3, none⟩ = some (.slice B bs.length C) := (R11.out.keeps k8 HN11.out).cell 3
            have hst : (convert 34 9 (.slice B bs.length C)).run Try.prog w8 = .ok (.string (strOf bs)) w8 :=
              run_string_src (P := Try.prog) w8 34 9 5 Try.underlying34 Try.underlying5 Try.underlying9 B bs C (HS0.out.keeps B3.out.kept (fun _ _ _ => id))
            have hrw := rcr_any w8 F1 (.agg R) s B3.out.ref B1.out.dsk.ok HNN.out (by have := HLE.out; omega) bs (by omega)
            rw [HES.out] at hrw
            obtain ⟨sb, hsb⟩ : ∃ x, strOf bs = x := ⟨_, rfl⟩
            rw [hsb] at hst hrw
            have HRW := Lib.hid hrw
            clear hrw hsb d8 k8 HSY HES hc3
            go_wp2_with (first
              | (refine wpList_load_row (by rfl) 31 (.tmp 8) (by rfl) b8 (by rfl) 31 R (0, 0) _ B3.out.row Try.underlying31 rfl HRS.out ?_))
            refine HRW.out.mono ?_
            rintro e w9 ⟨v', rfl, v9, k9⟩
            clear hst hc3b HRW
            obtain ⟨R2, rfl, R2n, R2o⟩ := v9.row
            have R2N := Lib.hid R2n
            have R2S : Hid ((Try.prog.info? 31).map (·.size) = some R2.size) := Lib.hid (by rw [R2n]; exact size_D)
            have R2O := Lib.hid R2o
            have hb4 := B3.out.refd HB8.out k9 v9
            obtain ⟨W10, hW10⟩ : ∃ V, w9.setRow b8 R2 = V := ⟨_, rfl⟩
            have R9 : Hid (w9.heap[b8]? = some (.cells R 31 (0, 0))) := Lib.hid ((k9.block b8 (Array.getElem?_eq_some_iff.1 B3.out.row).1 id).trans B3.out.row)
            rw [hW10] at hb4
            have B4 := Lib.hid hb4
            clear hb4 v9 R2n R2o
            go_wp2_with (first
              | (refine wpList_store_row (by rfl) 31 (.tmp 8) (.tmp 74) (by rfl) b8 R2 (by rfl) (by rfl) 31 R R9.out R2S.out (HRN.out.trans R2N.out.symm) R2O.out ?_; rw [hW10])
              | (refine wpList_load_row_w (by rfl) 31 (.tmp 8) (by rfl) b8 (by rfl) 31 R2 (0, 0) _ B4.out.row Try.underlying31 rfl R2S.out ?_))
            refine (alike_ref _ _ _ g _ _ B4.out.dsk B4.out.ref HN1.out HM1.out).mono ?_
            rintro e w11 ⟨rfl, k11⟩
            have B5 := Lib.hid (B4.out.later k11)
            clear k11 B4 B3 R9
            go_wp2_with fail
            go_roundw
            case rel => exact ⟨i + 1, _, s1, R2, by omega, by go_num, B5, R2N, R2S, R2O, Lib.hid HNS.out, Lib.hid HLS.out⟩
            case measure => simp [intOf]; omega
      · have FIN := Lib.hid (keeps_belowD HB.out.kept)
        go_wp2_with fail
        refine (fail_none _ _).mono ?_
        rintro e wz0 ⟨rfl, hz0⟩
        obtain rfl : wr = wz0 := hz0.symm
        go_wp2_with fail
        refine (crash_none _ _).mono ?_
        rintro e wz1 ⟨rfl, hz1⟩
        obtain rfl : wr = wz1 := hz1.symm
        go_wp2_with fail
        refine (read_none _ _).mono ?_
        rintro e wz2 ⟨rfl, hz2⟩
        obtain rfl : wr = wz2 := hz2.symm
        go_wp2_with fail
        refine (write_none _ _ _).mono ?_
        rintro e wz3 ⟨rfl, hz3⟩
        obtain rfl : wr = wz3 := hz3.symm
        go_wp2_with fail
        refine (sync_none _).mono ?_
        rintro e wz4 ⟨rfl, hz4⟩
        obtain rfl : wr = wz4 := hz4.symm
        go_wp2_with fail
        refine (len_none _).mono ?_
        rintro e wz5 ⟨rfl, hz5⟩
        obtain rfl : wr = wz5 := hz5.symm
        go_wp2_with fail
        refine (loose_none _).mono ?_
        rintro e wz6 ⟨rfl, hz6⟩
        obtain rfl : wr = wz6 := hz6.symm
        go_wp2_with fail
        refine (dead_none _).mono ?_
        rintro e wz7 ⟨rfl, hz7⟩
        obtain rfl : wr = wz7 := hz7.symm
        go_wp2
        go_ret
        exact ⟨rfl, FIN.out⟩
    · have FIN := Lib.hid (keeps_belowD HB.out.kept)
      go_wp2_with fail
      refine (fail_none _ _).mono ?_
      rintro e wz0 ⟨rfl, hz0⟩
      obtain rfl : wr = wz0 := hz0.symm
      go_wp2_with fail
      refine (crash_none _ _).mono ?_
      rintro e wz1 ⟨rfl, hz1⟩
      obtain rfl : wr = wz1 := hz1.symm
      go_wp2_with fail
      refine (read_none _ _).mono ?_
      rintro e wz2 ⟨rfl, hz2⟩
      obtain rfl : wr = wz2 := hz2.symm
      go_wp2_with fail
      refine (write_none _ _ _).mono ?_
      rintro e wz3 ⟨rfl, hz3⟩
      obtain rfl : wr = wz3 := hz3.symm
      go_wp2_with fail
      refine (sync_none _).mono ?_
      rintro e wz4 ⟨rfl, hz4⟩
      obtain rfl : wr = wz4 := hz4.symm
      go_wp2_with fail
      refine (len_none _).mono ?_
      rintro e wz5 ⟨rfl, hz5⟩
      obtain rfl : wr = wz5 := hz5.symm
      go_wp2_with fail
      refine (loose_none _).mono ?_
      rintro e wz6 ⟨rfl, hz6⟩
      obtain rfl : wr = wz6 := hz6.symm
      go_wp2_with fail
      refine (dead_none _).mono ?_
      rintro e wz7 ⟨rfl, hz7⟩
      obtain rfl : wr = wz7 := hz7.symm
      go_wp2
      go_ret
      exact ⟨rfl, FIN.out⟩
theorem dplays_all (n : Int) (A : Option Addr) (len c : Nat) (acts : List ActOf) (W : World) (wn : (Lit.int .i64 n).wf = true) (ha : IsActs W A len c acts) :
    Calls Try.prog 3 #[.int .i64 n, .slice A len c] W fun e W' => e = .returned (.bool true) ∧ Below W.heap.size W W' := by
  by_cases h : n > 20
  · exact dplays_high n A len c W h
  · by_cases h1 : n < 1
    · exact dplays_low n A len c W h1
    · obtain ⟨k, rfl⟩ := Int.eq_ofNat_of_zero_le (show 0 ≤ n by omega)
      exact dplays_in k (by omega) (by omega) A len c acts W ha
end Go.Proofs.Ytonokeldlknadaa
