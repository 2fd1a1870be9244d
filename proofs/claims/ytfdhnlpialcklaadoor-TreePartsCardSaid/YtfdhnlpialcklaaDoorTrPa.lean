/-
  The law TreeParts walked: the root of entries is made of the roots of their parts.
-/
import Derived.Test.YtfdhnlpialcklaaDoorTrL
import Derived.Laws.BitsAllLaws
namespace Go.Proofs.YtfdhnlpialcklaaDoor
open Go.RowKit Go.BigFrame
set_option linter.unusedVariables false

theorem split_and (n : Nat) : (Tr.split n) &&& (Tr.split n - 1) = 0 := by
  unfold Tr.split
  split
  · rfl
  · rw [Nat.and_two_pow_sub_one_eq_mod]
    exact Nat.mod_self _
theorem split_bits (n : Nat) (h2 : 2 ≤ n) (h : n ≤ 18446744073709551615) : bits .and .u64 (Tr.split n : Int) ((Tr.split n : Int) - 1) = 0 := by
  have a := Tr.split_pos h2
  have b := Tr.split_lt h2
  have c := split_and n
  generalize Tr.split n = k at *
  have e : ((k : Int) - 1) = ((k - 1 : Nat) : Int) := by omega
  rw [e, u64_and_nat k (k - 1) (by omega) (by omega), c]
  rfl
/-- The root of what came in, in every later world. -/
theorem root_later {W : World} {A : Option Addr} {c : Nat} {rs : List RowOf} (hT : Tabs W) (hR : RowsAt W A rs) (hc : rs.length ≤ c) (hmax : c ≤ 9223372036854775807) (hlen : ∀ r ∈ rs, r.2.2.length ≤ 1000) : ∀ V, Later W V → Calls Tryd.prog 25 #[.slice A rs.length c] V fun e w' => e = .returned (.agg (bvs (Tr.root (ents rs))).toArray) ∧ Later W w' := fun V hV =>
  (root_any A c rs V (hT.keeps hV.out id id) (hR.keeps hV.out (fun _ _ => id)) hc hmax hlen).mono fun e w' h => ⟨h.1, ⟨hV.out.trans h.2⟩⟩
/-- Where a number is parted, as the law asks. -/
theorem split_law (n : Nat) (h : n ≤ 18446744073709551615) : ((n : Int) < 2 ∧ Tr.split n = 0) ∨ ((2 : Int) ≤ n ∧ ((Tr.split n : Nat) : Int) < n ∧ (n : Int) - ((Tr.split n : Nat) : Int) ≤ ((Tr.split n : Nat) : Int) ∧ bits .and .u64 (Tr.split n : Int) ((Tr.split n : Int) - 1) = 0 ∧ (1 : Int) ≤ ((Tr.split n : Nat) : Int)) := by
  rcases Nat.lt_or_ge n 2 with h2 | h2
  · exact .inl ⟨by omega, Tr.split_few h2⟩
  · have a := Tr.split_pos h2
    have b := Tr.split_lt h2
    have c := Tr.split_ge h2
    exact .inr ⟨by omega, by omega, by omega, split_bits n h2 h, by omega⟩
set_option maxRecDepth 100000 in
set_option maxHeartbeats 2000000 in
theorem parts_zero (A : Option Addr) (c : Nat) (n : Nat) (W : World) (hT : Tabs W) (hn64 : n ≤ 18446744073709551615) (HAW : Hid (Calls Tryd.prog 20 #[] W fun e w' => e = .returned (.bool true) ∧ Keeps (fun _ => False) W w')) (HFEW : Hid (∀ V, Keeps (fun _ => False) W V → Calls Tryd.prog 21 #[.slice A 0 c] V fun e w' => e = .returned (.bool true) ∧ w' = V)) :
    Calls Tryd.prog 7 #[.slice A 0 c, .int .u64 (n : Int)] W fun e W' => e = .returned (.bool true) ∧ Below W.heap.size W W' := by
  have hsl := split_law n hn64
  have hsp := fun V => split_any n V hn64
  obtain ⟨k, hk⟩ : ∃ k, Tr.split n = k := ⟨_, rfl⟩
  rw [hk] at hsl hsp
  have HSP := Lib.hid hsp
  clear hsp hk
  clear hT
  rcases hsl with ⟨hn2, rfl⟩ | ⟨hn2, hk1, hk2, hk3, hk4⟩
  all_goals
    go_enter Tryd.func7, Tryd.ntmps7
    go_wp2_with fail
    refine HAW.out.mono ?_
    rintro e1 w1 ⟨rfl, k1⟩
    go_wp2_with fail
    refine (HFEW.out w1 k1).mono ?_
    rintro e2 w2 ⟨rfl, rfl⟩
    go_wp2_with fail
    refine (HSP.out w2).mono ?_
    rintro e3 w3 ⟨rfl, rfl⟩
    clear HAW HFEW HSP
    go_wp2_with fail
    refine wp_region_class (Later w3) (by kernel_rfl) (by kernel_rfl) ⟨(Keeps.refl _ _).drew⟩ ?_
    repeat (go_big_quiet_step ((intro _; rfl)))
    refine wpQuiet_nil ?_
    intro w6 k6
    go_wp2
    go_ret
    exact ⟨rfl, keeps_below3 (k1.trans k6.out)⟩
set_option maxRecDepth 100000 in
set_option maxHeartbeats 2000000 in
theorem parts_one (A : Option Addr) (c : Nat) (n : Nat) (W : World) (hT : Tabs W) (hn64 : n ≤ 18446744073709551615) (HAW : Hid (Calls Tryd.prog 20 #[] W fun e w' => e = .returned (.bool true) ∧ Keeps (fun _ => False) W w')) (r : RowOf) (hR : RowsAt W A [r]) (hc : [r].length ≤ c) (hmax : c ≤ 9223372036854775807) (hlen : ∀ x ∈ [r], x.2.2.length ≤ 1000) (HFEW : Hid (∀ V, Keeps (fun _ => False) W V → Calls Tryd.prog 21 #[.slice A [r].length c] V fun e w' => e = .returned (.bool true) ∧ w' = V)) :
    Calls Tryd.prog 7 #[.slice A [r].length c, .int .u64 (n : Int)] W fun e W' => e = .returned (.bool true) ∧ Below W.heap.size W W' := by
  have hsl := split_law n hn64
  have hsp := fun V => split_any n V hn64
  obtain ⟨k, hk⟩ : ∃ k, Tr.split n = k := ⟨_, rfl⟩
  rw [hk] at hsl hsp
  have HSP := Lib.hid hsp
  clear hsp hk
  obtain ⟨a, rfl, hcell⟩ := hR.cell 0 r rfl
  have hroot := fun V (hk : Keeps (fun _ => False) W V) => root_any (some a) c [r] V (hT.keeps hk id id) (hR.keeps hk (fun _ _ => id)) hc hmax hlen
  have hr1 : Tr.root (ents [r]) = Tr.leaf r.2.2 := Tr.root_one r.2.2
  have hsr := hR.src r (by simp)
  have hcp := hR.cap r (by simp)
  have hl1 := hlen r (by simp)
  obtain ⟨B, cB, xs⟩ := r
  simp only at hcell hsr hcp hl1 hr1
  have hleaf := fun V (hk : Keeps (fun _ => False) W V) => leaf_any B cB xs V (hT.keeps hk id id) (hsr.keeps hk (fun _ _ _ => id)) hcp.1 hcp.2 (by omega)
  have hcl : ∀ V, Keeps (fun _ => False) W V → V.cell? a = some (.slice B xs.length cB) := fun V hk => by
    have h := (hk.cell (World.block_lt_of_cell? W _ hcell) id).trans hcell
    simpa [Addr.add] using h
  obtain ⟨i0, hi0, _⟩ := info_parts info_u8t
  have heq : ∀ V, (binOp .eql 24 (.agg (bvs (Tr.leaf xs)).toArray) (.agg (bvs (Tr.leaf xs)).toArray)).run Tryd.prog V = .ok (.bool true) V := fun V => by
    rw [run_eql_bytes V 24 5 32 Tryd.underlying24 Tryd.underlying5 hi0 (by kernel_rfl) (by kernel_rfl) _ _ (Tr.leaf_length xs) (Tr.leaf_length xs)]
    simp
  rw [hr1] at hroot
  have hleaf' : ∀ V, Keeps (fun _ => False) W V → Calls Tryd.prog 14 #[.slice B xs.length cB] V fun e w' => e = .returned (.agg (bvs (Tr.leaf xs)).toArray) ∧ Keeps (fun _ => False) V w' := hleaf
  obtain ⟨R, hRR⟩ : ∃ R, (bvs (Tr.leaf xs)).toArray = R := ⟨_, rfl⟩
  rw [hRR] at hroot hleaf' heq
  simp only [List.length_singleton] at hroot HFEW ⊢
  have HROOT := Lib.hid hroot
  have HLEAF := Lib.hid hleaf'
  have HEQ := Lib.hid heq
  have HCL := Lib.hid hcl
  clear hR hT hlen hc hroot hleaf hleaf' heq hcl hi0 hsr hcp hl1 hr1 hcell hRR
  rcases hsl with ⟨hn2, rfl⟩ | ⟨hn2, hk1, hk2, hk3, hk4⟩
  all_goals
    go_enter Tryd.func7, Tryd.ntmps7
    go_wp2_with fail
    refine HAW.out.mono ?_
    rintro e1 w1 ⟨rfl, k1⟩
    go_wp2_with fail
    refine (HFEW.out w1 k1).mono ?_
    rintro e2 w2 ⟨rfl, rfl⟩
    go_wp2_with fail
    refine (HSP.out w2).mono ?_
    rintro e3 w3 ⟨rfl, rfl⟩
    clear HAW HFEW HSP
    go_wp2_with fail
    have LK : Hid (∀ V, Later w3 V → Keeps (fun _ => False) W V) := fun V h => k1.trans h.out
    refine wp_region_class (Later w3) (by kernel_rfl) (by kernel_rfl) ⟨(Keeps.refl _ _).drew⟩ ?_
    go_big_quiet_step ((intro _; rfl))
    go_big_quiet_step ((intro _; rfl))
    go_big_quiet_step ((intro _; rfl))
    go_big_quiet_step ((intro _; rfl))
    go_big_quiet_step ((intro _; rfl))
    go_big_quiet_want
    go_big_quiet_op
    refine ⟨.agg R, fun V hV => (HROOT.out V (LK.out V hV)).mono fun e w' h => ⟨h.1, ⟨hV.out.trans h.2⟩⟩, ?_⟩
    go_big_quiet_on
    go_big_quiet_step ((intro _; rfl))
    go_big_quiet_step ((intro _; rfl))
    refine class_cell (by rfl) 22 (.tmp 57) (by rfl) a (by rfl) _ _ (fun V hV => HCL.out V (LK.out V hV)) Tryd.underlying22 rfl ?_
    simp only [Act.put, List.setIfInBounds_toArray, List.set_cons_zero, List.set_cons_succ]
    go_big_quiet_want
    go_big_quiet_op
    refine ⟨.agg R, fun V hV => (HLEAF.out V (LK.out V hV)).mono fun e w' h => ⟨h.1, ⟨hV.out.trans h.2⟩⟩, ?_⟩
    go_big_quiet_on
    refine class_eq (by rfl) .eql 24 _ (.tmp 55) (.tmp 59) (by rfl) R R (by rfl) (by rfl) (by kernel_rfl) _ HEQ.out ?_
    simp only [Act.put, List.setIfInBounds_toArray, List.set_cons_zero, List.set_cons_succ]
    repeat (go_big_quiet_step ((intro _; rfl)))
    refine wpQuiet_nil ?_
    intro w6 k6
    go_wp2
    go_ret
    exact ⟨rfl, keeps_below3 (LK.out w6 k6)⟩
set_option maxRecDepth 100000 in
set_option maxHeartbeats 2000000 in
theorem parts_more (a : Addr) (c : Nat) (n : Nat) (W : World) (hT : Tabs W) (hn64 : n ≤ 18446744073709551615) (HAW : Hid (Calls Tryd.prog 20 #[] W fun e w' => e = .returned (.bool true) ∧ Keeps (fun _ => False) W w')) (rs : List RowOf) (hR : RowsAt W (some a) rs) (h2 : 2 ≤ rs.length) (hc : rs.length ≤ c) (hmax : c ≤ 9223372036854775807) (hlen : ∀ x ∈ rs, x.2.2.length ≤ 1000) (HFEW : Hid (∀ V, Keeps (fun _ => False) W V → Calls Tryd.prog 21 #[.slice (some a) rs.length c] V fun e w' => e = .returned (.bool true) ∧ w' = V)) :
    Calls Tryd.prog 7 #[.slice (some a) rs.length c, .int .u64 (n : Int)] W fun e W' => e = .returned (.bool true) ∧ Below W.heap.size W W' := by
  have hsl := split_law n hn64
  have hsp := fun V => split_any n V hn64
  obtain ⟨k, hk⟩ : ∃ k, Tr.split n = k := ⟨_, rfl⟩
  rw [hk] at hsl hsp
  have HSP := Lib.hid hsp
  clear hsp hk
  have hroot := fun V (hk : Keeps (fun _ => False) W V) => root_any (some a) c rs V (hT.keeps hk id id) (hR.keeps hk (fun _ _ => id)) hc hmax hlen
  have hn := Tr.root_more (ents rs) (by rw [ents_length]; exact h2)
  have a1 := Tr.split_pos h2
  have a2 := Tr.split_lt h2
  rw [ents_length] at hn
  have hsj := fun V => split_any rs.length V (by omega)
  obtain ⟨j, hj⟩ : ∃ j, Tr.split rs.length = j := ⟨_, rfl⟩
  rw [hj] at hn a1 a2 hsj
  have e1 : (ents rs).take j = ents (rs.take j) := by simp [ents, List.map_take]
  have e2 : (ents rs).drop j = ents (rs.drop j) := by simp [ents, List.map_drop]
  rw [e1, e2] at hn
  have l1 : (rs.take j).length = j := by rw [List.length_take]; omega
  have l2 : (rs.drop j).length = rs.length - j := List.length_drop
  have hr1 := fun V (hk : Keeps (fun _ => False) W V) => root_any (some a) c (rs.take j) V (hT.keeps hk id id) ((hR.take j).keeps hk (fun _ _ => id)) (by omega) hmax (fun r hr => hlen r (List.mem_of_mem_take hr))
  have hr2 := fun V (hk : Keeps (fun _ => False) W V) => root_any (some (a.add j)) (c - j) (rs.drop j) V (hT.keeps hk id id) ((hR.drop j).keeps hk (fun _ _ => id)) (by omega) (by omega) (fun r hr => hlen r (List.mem_of_mem_drop hr))
  rw [l1] at hr1
  rw [l2] at hr2
  rw [hn] at hroot
  obtain ⟨x, hx⟩ : ∃ x, Tr.root (ents (rs.take j)) = x := ⟨_, rfl⟩
  obtain ⟨y, hy⟩ : ∃ y, Tr.root (ents (rs.drop j)) = y := ⟨_, rfl⟩
  have x32 : x.length = 32 := by rw [← hx]; exact Tr.root_length _
  have y32 : y.length = 32 := by rw [← hy]; exact Tr.root_length _
  rw [hx] at hroot hr1
  rw [hy] at hroot hr2
  have hnode : ∀ V, Keeps (fun _ => False) W V → Calls Tryd.prog 16 #[.agg (bvs x).toArray, .agg (bvs y).toArray] V fun e w' => e = .returned (.agg (bvs (Tr.node x y)).toArray) ∧ Keeps (fun _ => False) V w' := fun V hk => node_any x y V (hT.keeps hk id id) x32 y32
  obtain ⟨i0, hi0, _⟩ := info_parts info_u8t
  have heq : ∀ V, (binOp .eql 24 (.agg (bvs (Tr.node x y)).toArray) (.agg (bvs (Tr.node x y)).toArray)).run Tryd.prog V = .ok (.bool true) V := fun V => by
    rw [run_eql_bytes V 24 5 32 Tryd.underlying24 Tryd.underlying5 hi0 (by kernel_rfl) (by kernel_rfl) _ _ (Tr.node_length x y) (Tr.node_length x y)]
    simp
  obtain ⟨R, hRR⟩ : ∃ R, (bvs (Tr.node x y)).toArray = R := ⟨_, rfl⟩
  obtain ⟨X, hXX⟩ : ∃ R, (bvs x).toArray = R := ⟨_, rfl⟩
  obtain ⟨Y, hYY⟩ : ∃ R, (bvs y).toArray = R := ⟨_, rfl⟩
  rw [hRR] at hroot hnode heq
  rw [hXX] at hr1 hnode
  rw [hYY] at hr2 hnode
  obtain ⟨m, hm⟩ : ∃ m, rs.length = m := ⟨_, rfl⟩
  rw [hm] at HFEW hroot hsj hr2 h2 hc a2 ⊢
  have HROOT := Lib.hid hroot
  have HR1 := Lib.hid hr1
  have HR2 := Lib.hid hr2
  have HND := Lib.hid hnode
  have HEQ := Lib.hid heq
  have HSJ := Lib.hid hsj
  have hs1 : (j : Int) ≤ m := by omega
  have hs2 : (j : Int) ≤ c := by omega
  have hs3 : (m : Int) ≤ c := by omega
  have hs4 : ¬ c = j := by omega
  have hs5 : (2 : Int) ≤ m := by omega
  have hs6 : (1 : Int) ≤ j := by omega
  have hs7 : (j : Int) < m := by omega
  clear hR hT hlen hroot hr1 hr2 hnode heq hsj hi0 hn e1 e2 l1 l2 hx hy x32 y32 hRR hXX hYY hm hj
  rcases hsl with ⟨hn2, rfl⟩ | ⟨hn2, hk1, hk2, hk3, hk4⟩
  all_goals
    go_enter Tryd.func7, Tryd.ntmps7
    go_wp2_with fail
    refine HAW.out.mono ?_
    rintro e1 w1 ⟨rfl, k1⟩
    go_wp2_with fail
    refine (HFEW.out w1 k1).mono ?_
    rintro e2 w2 ⟨rfl, rfl⟩
    go_wp2_with fail
    refine (HSP.out w2).mono ?_
    rintro e3 w3 ⟨rfl, rfl⟩
    clear HAW HFEW HSP
    go_wp2_with fail
    refine (HSJ.out w3).mono ?_
    rintro e4 w4 ⟨rfl, rfl⟩
    go_wp2_with fail
    have LK : Hid (∀ V, Later w4 V → Keeps (fun _ => False) W V) := fun V h => k1.trans h.out
    refine wp_region_class (Later w4) (by kernel_rfl) (by kernel_rfl) ⟨(Keeps.refl _ _).drew⟩ ?_
    go_big_quiet_step ((intro _; rfl))
    go_big_quiet_want
    go_big_quiet_op
    refine ⟨.agg R, fun V hV => (HROOT.out V (LK.out V hV)).mono fun e w' h => ⟨h.1, ⟨hV.out.trans h.2⟩⟩, ?_⟩
    go_big_quiet_on
    go_big_quiet_step ((intro _; rfl))
    go_big_quiet_step ((intro _; rfl))
    go_big_quiet_step ((intro _; rfl))
    go_big_quiet_want
    go_big_quiet_op
    refine ⟨.agg X, fun V hV => (HR1.out V (LK.out V hV)).mono fun e w' h => ⟨h.1, ⟨hV.out.trans h.2⟩⟩, ?_⟩
    go_big_quiet_on
    go_big_quiet_step ((intro _; rfl))
    go_big_quiet_step ((intro _; rfl))
    go_big_quiet_step ((intro _; rfl))
    go_big_quiet_want
    go_big_quiet_op
    refine ⟨.agg Y, fun V hV => (HR2.out V (LK.out V hV)).mono fun e w' h => ⟨h.1, ⟨hV.out.trans h.2⟩⟩, ?_⟩
    go_big_quiet_on
    go_big_quiet_want
    go_big_quiet_op
    refine ⟨.agg R, fun V hV => (HND.out V (LK.out V hV)).mono fun e w' h => ⟨h.1, ⟨hV.out.trans h.2⟩⟩, ?_⟩
    go_big_quiet_on
    refine class_eq (by rfl) .eql 24 _ (.tmp 76) (.tmp 85) (by rfl) R R (by rfl) (by rfl) (by kernel_rfl) _ HEQ.out ?_
    simp only [Act.put, List.setIfInBounds_toArray, List.set_cons_zero, List.set_cons_succ]
    repeat (go_big_quiet_step ((intro _; rfl)))
    refine wpQuiet_nil ?_
    intro w6 k6
    go_wp2
    go_ret
    exact ⟨rfl, keeps_below3 (LK.out w6 k6)⟩
set_option maxRecDepth 100000 in
set_option maxHeartbeats 1000000 in
theorem parts_long (A : Option Addr) (c : Nat) (n : Int) (W : World) (m : Nat) (HAW : Hid (Calls Tryd.prog 20 #[] W fun e w' => e = .returned (.bool true) ∧ Keeps (fun _ => False) W w')) (HFEW : Hid (∀ V, Keeps (fun _ => False) W V → Calls Tryd.prog 21 #[.slice A m c] V fun e w' => e = .returned (.bool false) ∧ w' = V)) :
    Calls Tryd.prog 7 #[.slice A m c, .int .u64 n] W fun e W' => e = .returned (.bool true) ∧ Below W.heap.size W W' := by
  go_enter Tryd.func7, Tryd.ntmps7
  go_wp2_with fail
  refine HAW.out.mono ?_
  rintro e1 w1 ⟨rfl, k1⟩
  go_wp2_with fail
  refine (HFEW.out w1 k1).mono ?_
  rintro e2 w2 ⟨rfl, rfl⟩
  go_wp2
  go_ret
  exact ⟨rfl, keeps_below3 k1⟩
theorem parts_walk (A : Option Addr) (len c : Nat) (rs : List RowOf) (n : Int) (W : World) (hT : Tabs W) (h0 : IsRows W A len c rs) (h1 : (Lit.int .u64 n).wf = true) :
    Calls Tryd.prog 7 #[.slice A len c, .int .u64 n] W fun e W' => e = .returned (.bool true) ∧ Below W.heap.size W W' := by
  have bn := bounds_u64 h1
  obtain ⟨n, rfl⟩ := Int.eq_ofNat_of_zero_le bn.1
  obtain ⟨rfl, hc, hmax, hR⟩ := h0
  have hn64 : n ≤ 18446744073709551615 := by omega
  have HAW := Lib.hid (awake3_any W hT)
  have hfew : ∀ V, Keeps (fun _ => False) W V → Calls Tryd.prog 21 #[.slice A rs.length c] V fun e w' => e = .returned (.bool (fewB rs)) ∧ w' = V := fun V hk => few_any A c rs V (hR.keeps hk (fun _ _ => id)) (by omega)
  cases hq : fewB rs with
  | false => rw [hq] at hfew; exact parts_long A c _ W _ HAW (Lib.hid hfew)
  | true =>
    rw [hq] at hfew
    obtain ⟨h20, hlen⟩ := few_short hq
    rcases Nat.lt_or_ge rs.length 2 with h2 | h2
    · rcases Nat.lt_or_ge rs.length 1 with h3 | h3
      · obtain rfl : rs = [] := List.eq_nil_of_length_eq_zero (by omega)
        exact parts_zero A c n W hT hn64 HAW (Lib.hid hfew)
      · obtain ⟨r, rfl⟩ : ∃ r, rs = [r] := List.length_eq_one_iff.1 (by omega)
        exact parts_one A c n W hT hn64 HAW r hR hc hmax hlen (Lib.hid hfew)
    · obtain ⟨a, rfl, _⟩ := hR.cell 0 rs[0] (by simp)
      exact parts_more a c n W hT hn64 HAW rs hR h2 hc hmax hlen (Lib.hid hfew)
end Go.Proofs.YtfdhnlpialcklaaDoor
