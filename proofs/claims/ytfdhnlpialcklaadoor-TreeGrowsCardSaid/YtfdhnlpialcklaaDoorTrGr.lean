/-
  The law TreeGrows walked: to be twice as long is to be a node of both halves.
-/
import Derived.Test.YtfdhnlpialcklaaDoorTrL
namespace Go.Proofs.YtfdhnlpialcklaaDoor
open Go.RowKit Go.BigFrame
set_option linter.unusedVariables false

/-- The powers of two that come. -/
def isPow (k : Nat) : Prop := k = 1 ∨ k = 2 ∨ k = 4 ∨ k = 8 ∨ k = 16
theorem pow_next {k : Nat} (h : isPow k) (h20 : 2 * k ≤ 20) : isPow (2 * k) ∧ Tr.split (2 * k) = k ∧ Tr.split (2 * k + 1) = 2 * k := by
  rcases h with rfl | rfl | rfl | rfl | rfl
  · exact ⟨by unfold isPow; omega, by decide, by decide⟩
  · exact ⟨by unfold isPow; omega, by decide, by decide⟩
  · exact ⟨by unfold isPow; omega, by decide, by decide⟩
  · exact ⟨by unfold isPow; omega, by decide, by decide⟩
  · omega
theorem pow_pos {k : Nat} (h : isPow k) : 1 ≤ k ∧ k ≤ 16 := by rcases h with rfl | rfl | rfl | rfl | rfl <;> omega
set_option maxRecDepth 100000 in
set_option maxHeartbeats 2000000 in
theorem grows_more (a : Addr) (c : Nat) (W : World) (hT : Tabs W) (HAW : Hid (Calls Tryd.prog 20 #[] W fun e w' => e = .returned (.bool true) ∧ Keeps (fun _ => False) W w')) (rs : List RowOf) (hR : RowsAt W (some a) rs) (h2 : 2 ≤ rs.length) (h20 : rs.length ≤ 20) (hc : rs.length ≤ c) (hmax : c ≤ 9223372036854775807) (hlen : ∀ x ∈ rs, x.2.2.length ≤ 1000) (HFEW : Hid (∀ V, Keeps (fun _ => False) W V → Calls Tryd.prog 21 #[.slice (some a) rs.length c] V fun e w' => e = .returned (.bool true) ∧ w' = V)) :
    Calls Tryd.prog 8 #[.slice (some a) rs.length c] W fun e W' => e = .returned (.bool true) ∧ Below W.heap.size W W' := by
  obtain ⟨n, hn⟩ : ∃ n, rs.length = n := ⟨_, rfl⟩
  rw [hn] at HFEW hc h2 h20 ⊢
  have HT := Lib.hid hT
  have HR := Lib.hid hR
  have HN := Lib.hid hn
  have HLEN := Lib.hid hlen
  have hn2 : (2 : Int) ≤ n := by omega
  have hn20 : (n : Int) ≤ 20 := by omega
  have hnc : (n : Int) ≤ c := by omega
  obtain ⟨i0, hi0, _⟩ := info_parts info_u8t
  have hne : ∀ l : List UInt8, l.length = 32 → ∀ V, (binOp .neq 24 (.agg (bvs l).toArray) (.agg (bvs l).toArray)).run Tryd.prog V = .ok (.bool false) V := fun l hl V => by
    rw [run_neq_bytes V 24 5 32 Tryd.underlying24 Tryd.underlying5 hi0 (by kernel_rfl) (by kernel_rfl) _ _ hl hl]
    simp
  have HNE := Lib.hid hne
  clear hT hR hn hlen hi0 hne
  go_enter Tryd.func8, Tryd.ntmps8
  go_wp2_with fail
  refine HAW.out.mono ?_
  rintro e1 w1 ⟨rfl, k1⟩
  go_wp2_with fail
  refine (HFEW.out w1 k1).mono ?_
  rintro e2 w2 ⟨rfl, rfl⟩
  clear HAW HFEW
  go_wp2_with fail
  go_loopw [5] (fun kv wr => ∃ k : Nat, kv = .int .i64 k ∧ isPow k ∧ Keeps (fun _ => False) W wr) (fun kv _ => 40 - (intOf kv).toNat)
  case atStart => exact ⟨1, rfl, .inl rfl, k1⟩
  case round =>
    clear k1
    obtain ⟨k, rfl, hpw, kr⟩ := hrel
    obtain ⟨p1, p16⟩ := pow_pos hpw
    obtain ⟨K, hK⟩ : ∃ K, 2 * k = K := ⟨_, rfl⟩
    have h2k : (2 : Int) * (k : Int) = (K : Int) := by omega
    by_cases hle : K ≤ n
    · obtain ⟨hpn, hs1, hs2⟩ := pow_next hpw (by omega)
      rw [hK] at hpn hs1 hs2
      have lK : (rs.take K).length = K := by rw [List.length_take, HN.out]; omega
      have lk : (rs.take k).length = k := by rw [List.length_take, HN.out]; omega
      have ld : ((rs.take K).drop k).length = K - k := by rw [List.length_drop, lK]
      have hmore := Tr.root_more (ents (rs.take K)) (by rw [ents_length, lK]; omega)
      rw [ents_length, lK, hs1] at hmore
      have e1 : (ents (rs.take K)).take k = ents (rs.take k) := by
        unfold ents
        rw [← List.map_take, List.take_take, Nat.min_eq_left (by omega)]
      have e2 : (ents (rs.take K)).drop k = ents ((rs.take K).drop k) := by simp [ents, List.map_drop]
      rw [e1, e2] at hmore
      have hT := HT.out
      have hR := HR.out
      have c0 := fun V (hk : Keeps (fun _ => False) W V) => root_any (some a) c (rs.take K) V (hT.keeps hk id id) ((hR.take K).keeps hk (fun _ _ => id)) (by omega) hmax (fun r hr => HLEN.out r (List.mem_of_mem_take hr))
      have c1 := fun V (hk : Keeps (fun _ => False) W V) => root_any (some a) c (rs.take k) V (hT.keeps hk id id) ((hR.take k).keeps hk (fun _ _ => id)) (by omega) hmax (fun r hr => HLEN.out r (List.mem_of_mem_take hr))
      have c2 := fun V (hk : Keeps (fun _ => False) W V) => root_any (some (a.add k)) (c - k) ((rs.take K).drop k) V (hT.keeps hk id id) (((hR.take K).drop k).keeps hk (fun _ _ => id)) (by omega) (by omega) (fun r hr => HLEN.out r (List.mem_of_mem_take (List.mem_of_mem_drop hr)))
      rw [lK, hmore] at c0
      rw [lk] at c1
      rw [ld] at c2
      obtain ⟨x, hx⟩ : ∃ x, Tr.root (ents (rs.take k)) = x := ⟨_, rfl⟩
      obtain ⟨y, hy⟩ : ∃ y, Tr.root (ents ((rs.take K).drop k)) = y := ⟨_, rfl⟩
      have x32 : x.length = 32 := by rw [← hx]; exact Tr.root_length _
      have y32 : y.length = 32 := by rw [← hy]; exact Tr.root_length _
      rw [hx] at c0 c1
      rw [hy] at c0 c2
      have c3 : ∀ V, Keeps (fun _ => False) W V → Calls Tryd.prog 16 #[.agg (bvs x).toArray, .agg (bvs y).toArray] V fun e w' => e = .returned (.agg (bvs (Tr.node x y)).toArray) ∧ Keeps (fun _ => False) V w' := fun V hk => node_any x y V (hT.keeps hk id id) x32 y32
      have hnq := HNE.out (Tr.node x y) (Tr.node_length x y)
      have hsp := fun V => split_any (K + 1) V (by omega)
      rw [hs2] at hsp
      have hsp' : ∀ V, Calls Tryd.prog 28 #[.int .u64 ((K : Int) + 1)] V fun e w' => e = .returned (.int .u64 (K : Int)) ∧ w' = V := fun V => by
        have := hsp V
        rwa [show ((K + 1 : Nat) : Int) = (K : Int) + 1 by omega] at this
      obtain ⟨R, hRR⟩ : ∃ R, (bvs (Tr.node x y)).toArray = R := ⟨_, rfl⟩
      obtain ⟨X, hXX⟩ : ∃ R, (bvs x).toArray = R := ⟨_, rfl⟩
      obtain ⟨Y, hYY⟩ : ∃ R, (bvs y).toArray = R := ⟨_, rfl⟩
      rw [hRR] at c0 c3 hnq
      rw [hXX] at c1 c3
      rw [hYY] at c2 c3
      have C0 := Lib.hid c0
      have C1 := Lib.hid c1
      have C2 := Lib.hid c2
      have C3 := Lib.hid c3
      have HNQ := Lib.hid hnq
      have HSP := Lib.hid hsp'
      have LK : Hid (∀ V, Later wr V → Keeps (fun _ => False) W V) := fun V h => kr.trans h.out
      have q1 : (K : Int) ≤ n := by omega
      have q2 : (K : Int) ≤ c := by omega
      have q3 : (k : Int) ≤ K := by omega
      have q4 : (k : Int) ≤ c := by omega
      have q5 : ¬ c = k := by omega
      have q6 : (1 : Int) ≤ k := by omega
      have q7 : (K : Int) ≤ 20 := by omega
      have q8 : k ≤ K := by omega
      clear c0 c1 c2 c3 hnq hsp hsp' hmore e1 e2 lK lk ld hs1 hs2 hT hR hx hy x32 y32 hRR hXX hYY
      go_wp2_with fail
      refine wp_region_class (Later wr) (by kernel_rfl) (by kernel_rfl) ⟨(Keeps.refl _ _).drew⟩ ?_
      go_big_quiet_step ((intro _; rfl))
      go_big_quiet_step ((intro _; rfl))
      go_big_quiet_step ((intro _; rfl))
      go_big_quiet_step ((intro _; rfl))
      go_big_quiet_want
      go_big_quiet_op
      refine ⟨.agg R, fun V hV => (C0.out V (LK.out V hV)).mono fun e w' h => ⟨h.1, ⟨hV.out.trans h.2⟩⟩, ?_⟩
      go_big_quiet_on
      go_big_quiet_step ((intro _; rfl))
      go_big_quiet_step ((intro _; rfl))
      go_big_quiet_step ((intro _; rfl))
      go_big_quiet_want
      go_big_quiet_op
      refine ⟨.agg X, fun V hV => (C1.out V (LK.out V hV)).mono fun e w' h => ⟨h.1, ⟨hV.out.trans h.2⟩⟩, ?_⟩
      go_big_quiet_on
      go_big_quiet_step ((intro _; rfl))
      go_big_quiet_step ((intro _; rfl))
      go_big_quiet_step ((intro _; rfl))
      go_big_quiet_step ((intro _; rfl))
      go_big_quiet_step ((intro _; rfl))
      go_big_quiet_want
      go_big_quiet_op
      refine ⟨.agg Y, fun V hV => (C2.out V (LK.out V hV)).mono fun e w' h => ⟨h.1, ⟨hV.out.trans h.2⟩⟩, ?_⟩
      go_big_quiet_on
      go_big_quiet_want
      go_big_quiet_op
      refine ⟨.agg R, fun V hV => (C3.out V (LK.out V hV)).mono fun e w' h => ⟨h.1, ⟨hV.out.trans h.2⟩⟩, ?_⟩
      go_big_quiet_on
      refine class_eq (by rfl) .neq 24 _ (.tmp 24) (.tmp 35) (by rfl) R R (by rfl) (by rfl) (by kernel_rfl) _ HNQ.out ?_
      simp only [Act.put, List.setIfInBounds_toArray, List.set_cons_zero, List.set_cons_succ]
      refine wpQuiet_nil ?_
      intro w6 k6
      have K6 := Lib.hid (LK.out w6 k6)
      clear C0 C1 C2 C3 HNQ LK kr
      by_cases hlt : K < n
      · have hlt' : (K : Int) < n := by omega
        go_wp2_with (go_at_call 28; refine (HSP.out _).mono ?_; rintro e w' ⟨rfl, rfl⟩)
        go_roundw
        case rel => exact ⟨K, by go_num, hpn, K6.out⟩
        case measure => simp [intOf]; omega
      · have hlt' : (n : Int) ≤ K := by omega
        go_wp2_with fail
        go_roundw
        case rel => exact ⟨K, by go_num, hpn, K6.out⟩
        case measure => simp [intOf]; omega
    · have hle' : (n : Int) < K := by omega
      have hnn : ((n : Int) != 1) = true := bne_iff_ne.2 (by omega)
      clear hle
      go_wp2_with fail
      refine wp_region_class (Later wr) (by kernel_rfl) (by kernel_rfl) ⟨(Keeps.refl _ _).drew⟩ ?_
      repeat (go_big_quiet_step ((intro _; rfl)))
      refine wpQuiet_nil ?_
      intro w6 k6
      go_wp2
      go_ret
      exact ⟨rfl, keeps_below3 (kr.trans k6.out)⟩
set_option maxRecDepth 100000 in
set_option maxHeartbeats 1000000 in
theorem grows_long (A : Option Addr) (c : Nat) (W : World) (m : Nat) (HAW : Hid (Calls Tryd.prog 20 #[] W fun e w' => e = .returned (.bool true) ∧ Keeps (fun _ => False) W w')) (HFEW : Hid (∀ V, Keeps (fun _ => False) W V → Calls Tryd.prog 21 #[.slice A m c] V fun e w' => e = .returned (.bool false) ∧ w' = V)) :
    Calls Tryd.prog 8 #[.slice A m c] W fun e W' => e = .returned (.bool true) ∧ Below W.heap.size W W' := by
  go_enter Tryd.func8, Tryd.ntmps8
  go_wp2_with fail
  refine HAW.out.mono ?_
  rintro e1 w1 ⟨rfl, k1⟩
  go_wp2_with fail
  refine (HFEW.out w1 k1).mono ?_
  rintro e2 w2 ⟨rfl, rfl⟩
  go_wp2
  go_ret
  exact ⟨rfl, keeps_below3 k1⟩
set_option maxRecDepth 100000 in
set_option maxHeartbeats 1000000 in
theorem grows_zero (A : Option Addr) (c : Nat) (W : World) (HAW : Hid (Calls Tryd.prog 20 #[] W fun e w' => e = .returned (.bool true) ∧ Keeps (fun _ => False) W w')) (HFEW : Hid (∀ V, Keeps (fun _ => False) W V → Calls Tryd.prog 21 #[.slice A 0 c] V fun e w' => e = .returned (.bool true) ∧ w' = V)) :
    Calls Tryd.prog 8 #[.slice A 0 c] W fun e W' => e = .returned (.bool true) ∧ Below W.heap.size W W' := by
  go_enter Tryd.func8, Tryd.ntmps8
  go_wp2_with fail
  refine HAW.out.mono ?_
  rintro e1 w1 ⟨rfl, k1⟩
  go_wp2_with fail
  refine (HFEW.out w1 k1).mono ?_
  rintro e2 w2 ⟨rfl, rfl⟩
  clear HAW HFEW
  go_wp2_with fail
  go_loopw [5] (fun kv wr => kv = .int .i64 1 ∧ wr = w2) (fun _ _ => 0)
  case atStart => exact ⟨rfl, rfl⟩
  case round =>
    obtain ⟨rfl, rfl⟩ := hrel
    go_wp2_with fail
    refine wp_region_class (Later wr) (by kernel_rfl) (by kernel_rfl) ⟨(Keeps.refl _ _).drew⟩ ?_
    repeat (go_big_quiet_step ((intro _; rfl)))
    refine wpQuiet_nil ?_
    intro w6 k6
    go_wp2
    go_ret
    exact ⟨rfl, keeps_below3 (k1.trans k6.out)⟩
set_option maxRecDepth 100000 in
set_option maxHeartbeats 2000000 in
theorem grows_one (A : Option Addr) (c : Nat) (W : World) (hT : Tabs W) (HAW : Hid (Calls Tryd.prog 20 #[] W fun e w' => e = .returned (.bool true) ∧ Keeps (fun _ => False) W w')) (r : RowOf) (hR : RowsAt W A [r]) (hc : [r].length ≤ c) (hmax : c ≤ 9223372036854775807) (hlen : ∀ x ∈ [r], x.2.2.length ≤ 1000) (HFEW : Hid (∀ V, Keeps (fun _ => False) W V → Calls Tryd.prog 21 #[.slice A [r].length c] V fun e w' => e = .returned (.bool true) ∧ w' = V)) :
    Calls Tryd.prog 8 #[.slice A [r].length c] W fun e W' => e = .returned (.bool true) ∧ Below W.heap.size W W' := by
  obtain ⟨a, rfl, hcell⟩ := hR.cell 0 r rfl
  have hroot := fun V (hk : Keeps (fun _ => False) W V) => root_any (some a) c [r] V (hT.keeps hk id id) (hR.keeps hk (fun _ _ => id)) hc hmax hlen
  have hr1 : Tr.root (ents [r]) = Tr.leaf r.2.2 := Tr.root_one r.2.2
  have hsr := hR.src r (by simp)
  have hcp := hR.cap r (by simp)
  have hl1 := hlen r (by simp)
  obtain ⟨B, cB, xs⟩ := r
  simp only at hcell hsr hcp hl1 hr1
  have hleaf := fun V (hk : Keeps (fun _ => False) W V) => leaf_any B cB xs V (hT.keeps hk id id) (hsr.keeps hk (fun _ _ _ => id)) hcp.1 hcp.2 (by omega)
  have hcl : ∀ V, Keeps (fun _ => False) W V → V.cell? a = some (.slice B xs.length cB) := fun V hk => by
    have h := (hk.cell (World.block_lt_of_cell? W _ hcell) id).trans hcell
    simpa [Addr.add] using h
  obtain ⟨i0, hi0, _⟩ := info_parts info_u8t
  have heq : ∀ V, (binOp .eql 24 (.agg (bvs (Tr.leaf xs)).toArray) (.agg (bvs (Tr.leaf xs)).toArray)).run Tryd.prog V = .ok (.bool true) V := fun V => by
    rw [run_eql_bytes V 24 5 32 Tryd.underlying24 Tryd.underlying5 hi0 (by kernel_rfl) (by kernel_rfl) _ _ (Tr.leaf_length xs) (Tr.leaf_length xs)]
    simp
  rw [hr1] at hroot
  have hleaf' : ∀ V, Keeps (fun _ => False) W V → Calls Tryd.prog 14 #[.slice B xs.length cB] V fun e w' => e = .returned (.agg (bvs (Tr.leaf xs)).toArray) ∧ Keeps (fun _ => False) V w' := hleaf
  obtain ⟨R, hRR⟩ : ∃ R, (bvs (Tr.leaf xs)).toArray = R := ⟨_, rfl⟩
  rw [hRR] at hroot hleaf' heq
  simp only [List.length_singleton] at hroot HFEW ⊢
  have HROOT := Lib.hid hroot
  have HLEAF := Lib.hid hleaf'
  have HEQ := Lib.hid heq
  have HCL := Lib.hid hcl
  clear hR hT hlen hc hroot hleaf hleaf' heq hcl hi0 hsr hcp hl1 hr1 hcell hRR
  go_enter Tryd.func8, Tryd.ntmps8
  go_wp2_with fail
  refine HAW.out.mono ?_
  rintro e1 w1 ⟨rfl, k1⟩
  go_wp2_with fail
  refine (HFEW.out w1 k1).mono ?_
  rintro e2 w2 ⟨rfl, rfl⟩
  clear HAW HFEW
  go_wp2_with fail
  go_loopw [5] (fun kv wr => kv = .int .i64 1 ∧ wr = w2) (fun _ _ => 0)
  case atStart => exact ⟨rfl, rfl⟩
  case round =>
    obtain ⟨rfl, rfl⟩ := hrel
    go_wp2_with fail
    have LK : Hid (∀ V, Later wr V → Keeps (fun _ => False) W V) := fun V h => k1.trans h.out
    refine wp_region_class (Later wr) (by kernel_rfl) (by kernel_rfl) ⟨(Keeps.refl _ _).drew⟩ ?_
    go_big_quiet_step ((intro _; rfl))
    go_big_quiet_step ((intro _; rfl))
    go_big_quiet_step ((intro _; rfl))
    go_big_quiet_step ((intro _; rfl))
    go_big_quiet_step ((intro _; rfl))
    go_big_quiet_want
    go_big_quiet_op
    refine ⟨.agg R, fun V hV => (HROOT.out V (LK.out V hV)).mono fun e w' h => ⟨h.1, ⟨hV.out.trans h.2⟩⟩, ?_⟩
    go_big_quiet_on
    go_big_quiet_step ((intro _; rfl))
    go_big_quiet_step ((intro _; rfl))
    refine class_cell (by rfl) 22 (.tmp 60) (by rfl) a (by rfl) _ _ (fun V hV => HCL.out V (LK.out V hV)) Tryd.underlying22 rfl ?_
    simp only [Act.put, List.setIfInBounds_toArray, List.set_cons_zero, List.set_cons_succ]
    go_big_quiet_want
    go_big_quiet_op
    refine ⟨.agg R, fun V hV => (HLEAF.out V (LK.out V hV)).mono fun e w' h => ⟨h.1, ⟨hV.out.trans h.2⟩⟩, ?_⟩
    go_big_quiet_on
    refine class_eq (by rfl) .eql 24 _ (.tmp 58) (.tmp 62) (by rfl) R R (by rfl) (by rfl) (by kernel_rfl) _ HEQ.out ?_
    simp only [Act.put, List.setIfInBounds_toArray, List.set_cons_zero, List.set_cons_succ]
    repeat (go_big_quiet_step ((intro _; rfl)))
    refine wpQuiet_nil ?_
    intro w6 k6
    go_wp2
    go_ret
    exact ⟨rfl, keeps_below3 (LK.out w6 k6)⟩
theorem grows_walk (A : Option Addr) (len c : Nat) (rs : List RowOf) (W : World) (hT : Tabs W) (h0 : IsRows W A len c rs) :
    Calls Tryd.prog 8 #[.slice A len c] W fun e W' => e = .returned (.bool true) ∧ Below W.heap.size W W' := by
  obtain ⟨rfl, hc, hmax, hR⟩ := h0
  have HAW := Lib.hid (awake3_any W hT)
  have hfew : ∀ V, Keeps (fun _ => False) W V → Calls Tryd.prog 21 #[.slice A rs.length c] V fun e w' => e = .returned (.bool (fewB rs)) ∧ w' = V := fun V hk => few_any A c rs V (hR.keeps hk (fun _ _ => id)) (by omega)
  cases hq : fewB rs with
  | false => rw [hq] at hfew; exact grows_long A c W _ HAW (Lib.hid hfew)
  | true =>
    rw [hq] at hfew
    obtain ⟨h20, hlen⟩ := few_short hq
    rcases Nat.lt_or_ge rs.length 2 with h2 | h2
    · rcases Nat.lt_or_ge rs.length 1 with h3 | h3
      · obtain rfl : rs = [] := List.eq_nil_of_length_eq_zero (by omega)
        exact grows_zero A c W HAW (Lib.hid hfew)
      · obtain ⟨r, rfl⟩ : ∃ r, rs = [r] := List.length_eq_one_iff.1 (by omega)
        exact grows_one A c W hT HAW r hR hc hmax hlen (Lib.hid hfew)
    · obtain ⟨a, rfl, _⟩ := hR.cell 0 rs[0] (by simp)
      exact grows_more a c W hT HAW rs hR h2 h20 hc hmax hlen (Lib.hid hfew)
end Go.Proofs.YtfdhnlpialcklaaDoor
