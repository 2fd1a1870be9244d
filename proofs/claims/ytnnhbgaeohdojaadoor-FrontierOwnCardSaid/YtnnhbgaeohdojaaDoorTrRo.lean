/-
  The law TreeRoots walked: roots, paths and parts are the document's.
-/
import Derived.Test.YtnnhbgaeohdojaaDoorRtP
import Derived.Test.YtnnhbgaeohdojaaDoorRtA
import Derived.Test.YtnnhbgaeohdojaaDoorTrL
import Derived.Test.YtnnhbgaeohdojaaDoorLawC
namespace Go.Proofs.YtnnhbgaeohdojaaDoor
open Go.RowKit Go.BigFrame
set_option linter.unusedVariables false

theorem few_sixty {rs : List RowOf} (h : fewB rs = true) : ∀ r ∈ rs, r.2.2.length ≤ 60 := by
  unfold fewB at h
  rw [Bool.and_eq_true, List.all_eq_true] at h
  intro r hr
  have := h.1 r hr
  simpa using this
theorem StrsAt.of_own {w : World} {base n : Nat} {A : Option Addr} {c : Nat} {l : List (List UInt8)} (h : w.ownsRow base 9 1 (.slice A n c) n (strs l)) : StrsAt w A l := by
  refine ⟨fun i x hx => ?_⟩
  have hl : (strs l)[i]? = some (.string (strOf x)) := by unfold strs; rw [List.getElem?_map, hx]; rfl
  rcases h.2 with ⟨h1, h2⟩ | ⟨g, cap, cur, h1, _⟩
  · subst h2
    have h3 := (List.getElem?_eq_some_iff.1 hl).1
    rw [h.1] at h3
    omega
  · injection h1 with h1 _ _
    subst h1
    exact ⟨_, rfl, h.cells (g := g) rfl i _ hl⟩
/-- Of any place: both paths are the same, and so are the errors. -/
theorem paths_same (A : Option Addr) (c : Nat) (rs : List RowOf) (x : Int) (W : World) (hT : Tabs W) (hR : RowsAt W A rs) (h20 : rs.length ≤ 20) (hc : rs.length ≤ c) (hmax : c ≤ 9223372036854775807) (h60 : ∀ r ∈ rs, r.2.2.length ≤ 60) :
    ∃ (ps : List (List UInt8)) (er : Int), (∀ p ∈ ps, p.length = 32) ∧ ps.length ≤ 1000 ∧
      (∀ V, Keeps (fun _ => False) W V → Calls Tryd.prog 14 #[.slice A rs.length c, .int .i64 x] V fun e w' => ∃ v, e = .returned (.tuple #[v, .int .i64 er]) ∧ w'.ownsRow V.heap.size 34 32 v ps.length (flat ps) ∧ Keeps (fun _ => False) V w') ∧
      (∀ V B cb, StrsAt V B (ents rs) → rs.length ≤ cb → cb ≤ 9223372036854775807 → Calls Tryd.prog 15 #[.slice B rs.length cb, .int .i64 x] V fun e w' => ∃ v, e = .returned (.tuple #[v, .int .i64 er]) ∧ w'.ownsRow V.heap.size 34 32 v ps.length (flat ps) ∧ Keeps (fun _ => False) V w') := by
  by_cases hx : x < 0 ∨ (rs.length : Int) ≤ x
  · refine ⟨[], 15, fun p hp => (by cases hp), by simp, fun V _ => (path_out A rs.length c x V hx).mono fun e w' ⟨h1, h2⟩ => ⟨_, h1, World.ownsRow_nil _ _ _ _, by rw [h2]; exact Keeps.refl _ _⟩,
      fun V B cb _ _ _ => (rpath_out B rs.length cb x V hx).mono fun e w' ⟨h1, h2⟩ => ⟨_, h1, World.ownsRow_nil _ _ _ _, by rw [h2]; exact Keeps.refl _ _⟩⟩
  · obtain ⟨i, rfl⟩ := Int.eq_ofNat_of_zero_le (show 0 ≤ x by omega)
    have hi : i < rs.length := by simp at hx; omega
    obtain ⟨a, rfl, _⟩ := hR.cell 0 rs[0] (by rw [List.getElem?_eq_getElem (by omega)])
    have hpf := path_few (ents rs) i (by rw [ents_length]; exact hi)
    rw [ents_length] at hpf
    refine ⟨Tr.path (ents rs) i, 0, fun p hp => Tr.path_all _ _ _ p hp, by omega, fun V hk => path_in a c rs i V (hT.keeps hk id id) (hR.keeps hk (fun _ _ => id)) hi hc hmax (fun r hr => by have := h60 r hr; omega) (by omega), fun V B cb hS hcb hmb => ?_⟩
    obtain ⟨ad, rfl, _⟩ := hS.cell 0 _ (List.getElem?_eq_getElem (show 0 < (ents rs).length by rw [ents_length]; omega))
    have h := rpath_in ad cb (ents rs) i V hS (by rw [ents_length]; exact hi) (by rw [ents_length]; exact hcb) hmb (by rw [ents_length]; omega) (fun y hy => by
      unfold ents at hy
      obtain ⟨r, hr, rfl⟩ := List.mem_map.1 hy
      have := h60 r hr
      omega)
    rw [ents_length] at h
    exact h
set_option maxRecDepth 100000 in
set_option maxHeartbeats 2000000 in
theorem troots_in (A : Option Addr) (c : Nat) (rs : List RowOf) (x : Int) (y : Nat) (W : World) (hT : Tabs W) (hR : RowsAt W A rs) (h20 : rs.length ≤ 20) (hc : rs.length ≤ c) (hmax : c ≤ 9223372036854775807) (h60 : ∀ r ∈ rs, r.2.2.length ≤ 60) (hy : y ≤ 18446744073709551615)
    (HFEW : Hid (∀ V, Keeps (fun _ => False) W V → Calls Tryd.prog 12 #[.slice A rs.length c] V fun e w' => e = .returned (.bool true) ∧ w' = V)) :
    Calls Tryd.prog 3 #[.slice A rs.length c, .int .i64 x, .int .u64 (y : Int)] W fun e W' => e = .returned (.bool true) ∧ Below W.heap.size W W' := by
  have HAW := Lib.hid (awake3_any W hT)
  obtain ⟨ps, er, hall, hpl, hp1, hp2⟩ := paths_same A c rs x W hT hR h20 hc hmax h60
  have htx := fun V (hk : Keeps (fun _ => False) W V) => texts3_any A c rs V (hR.keeps hk (fun _ _ => id)) (by omega)
  have hr1 := fun V (hk : Keeps (fun _ => False) W V) => root_any A c rs V (hT.keeps hk id id) (hR.keeps hk (fun _ _ => id)) hc hmax (fun r hr => by have := h60 r hr; omega)
  have hr2 : ∀ V B cb, StrsAt V B (ents rs) → Calls Tryd.prog 17 #[.slice B rs.length cb] V fun e w' => e = .returned (.agg (bvs (Tr.root (ents rs))).toArray) ∧ Keeps (fun _ => False) V w' := fun V B cb hS => by
    have h := rroot_any B cb (ents rs) V hS (by rw [ents_length]; omega) (fun z hz => by
      unfold ents at hz
      obtain ⟨r, hr, rfl⟩ := List.mem_map.1 hz
      have := h60 r hr
      omega)
    rw [ents_length] at h
    exact h
  have hs1 := fun V => split_any y V (by omega)
  have hs2 := fun V => rsplit_any y V hy
  obtain ⟨sp, hsp⟩ : ∃ s, Tr.split y = s := ⟨_, rfl⟩
  rw [hsp] at hs1 hs2
  have hrl : (Tr.root (ents rs)).length = 32 := Tr.root_length _
  obtain ⟨u0, hu0, _⟩ := info_parts info_u8t
  have heq : ∀ V, (binOp .eql 34 (.agg (bvs (Tr.root (ents rs))).toArray) (.agg (bvs (Tr.root (ents rs))).toArray)).run Tryd.prog V = .ok (.bool true) V := fun V => by
    rw [run_eql_bytes (P := Tryd.prog) V 34 5 32 Tryd.underlying34 Tryd.underlying5 hu0 (by kernel_rfl) (by kernel_rfl) _ _ hrl hrl]
    simp
  obtain ⟨R, hRR⟩ : ∃ R, (bvs (Tr.root (ents rs))).toArray = R := ⟨_, rfl⟩
  rw [hRR] at hr1 hr2 heq
  obtain ⟨es, hes⟩ : ∃ es, ents rs = es := ⟨_, rfl⟩
  rw [hes] at hp2 htx hr2
  obtain ⟨n, hn⟩ : ∃ n, rs.length = n := ⟨_, rfl⟩
  rw [hn] at hp1 hp2 htx hr1 hr2 HFEW h20 hc ⊢
  obtain ⟨m, hm⟩ : ∃ m, ps.length = m := ⟨_, rfl⟩
  have hsm := fun A B ca cb V hA hB => same3_eq A B ca cb ps V hA hB hpl
  rw [hm] at hp1 hp2 hsm
  have HP1 := Lib.hid hp1
  have HP2 := Lib.hid hp2
  have HTX := Lib.hid htx
  have HR1 := Lib.hid hr1
  have HR2 := Lib.hid hr2
  have HS1 := Lib.hid hs1
  have HS2 := Lib.hid hs2
  have HEQ := Lib.hid heq
  have HSM := Lib.hid hsm
  have HALL := Lib.hid hall
  have e1 : ((er == er) = true) := by simp
  have e2 : (((sp : Int) == (sp : Int)) = true) := by simp
  clear hp1 hp2 htx hr1 hr2 hs1 hs2 heq hsm hall hn hm hes hRR hrl hu0 hsp hT hR h60 hpl
  go_enter Tryd.func3, Tryd.ntmps3
  go_wp2_with fail
  refine HAW.out.mono ?_
  rintro ex w1 ⟨rfl, k1⟩
  go_wp2_with fail
  refine (HFEW.out w1 k1).mono ?_
  rintro ex w2 ⟨rfl, rfl⟩
  clear HAW HFEW
  go_wp2_with fail
  refine (HTX.out w2 k1).mono ?_
  rintro ex w3 ⟨v, rfl, ho3, k3⟩
  obtain ⟨A3, c3, rfl⟩ := own_slice ho3
  obtain ⟨_, cc1, cc2⟩ := own_cap ho3
  have S3 := Lib.hid (StrsAt.of_own ho3)
  have K3 := Lib.hid (k1.trans k3)
  clear HTX k1 k3 ho3
  go_wp2_with fail
  refine (HP1.out w3 K3.out).mono ?_
  rintro ex w4 ⟨v, rfl, ho4, k4⟩
  obtain ⟨A4, c4, rfl⟩ := own_slice ho4
  have P4 := Lib.hid (PathAt.of_own ho4 HALL.out rfl)
  have K4 := Lib.hid (K3.out.trans k4)
  have S4 := Lib.hid (S3.out.keeps k4 (fun _ _ => id))
  clear HP1 K3 k4 ho4 S3
  go_wp2_with fail
  refine (HP2.out w4 A3 c3 S4.out cc1 cc2).mono ?_
  rintro ex w5 ⟨v, rfl, ho5, k5⟩
  obtain ⟨A5, c5, rfl⟩ := own_slice ho5
  have P5 := Lib.hid (PathAt.of_own ho5 HALL.out rfl)
  have P45 := Lib.hid (P4.out.keeps k5 (fun _ _ => id))
  have K5 := Lib.hid (K4.out.trans k5)
  have S5 := Lib.hid (S4.out.keeps k5 (fun _ _ => id))
  clear HP2 K4 k5 ho5 S4 P4
  go_wp2_with fail
  refine (HR1.out w5 K5.out).mono ?_
  rintro ex w6 ⟨rfl, k6⟩
  have K6 := Lib.hid (K5.out.trans k6)
  have S6 := Lib.hid (S5.out.keeps k6 (fun _ _ => id))
  have Q6 := Lib.hid (P45.out.keeps k6 (fun _ _ => id))
  have Q6' := Lib.hid (P5.out.keeps k6 (fun _ _ => id))
  clear HR1 K5 k6 S5 P45 P5
  go_wp2_with fail
  refine (HR2.out w6 A3 c3 S6.out).mono ?_
  rintro ex w7 ⟨rfl, k7⟩
  have K7 := Lib.hid (K6.out.trans k7)
  have Q7 := Lib.hid (Q6.out.keeps k7 (fun _ _ => id))
  have Q7' := Lib.hid (Q6'.out.keeps k7 (fun _ _ => id))
  clear HR2 K6 k7 S6 Q6 Q6'
  go_wp2_with (refine wpList_eq_agg_w (by rfl) .eql 34 _ (.tmp 36) (.tmp 38) (by rfl) R R (by rfl) (by rfl) (by kernel_rfl) _ (HEQ.out _) ?_)
  refine (HSM.out A4 A5 c4 c5 w7 Q7.out Q7'.out).mono ?_
  rintro ex w8 ⟨rfl, k8⟩
  have K8 := Lib.hid (K7.out.trans k8)
  clear HSM K7 k8 Q7 Q7'
  go_wp2_with fail
  refine (HS1.out w8).mono ?_
  rintro ex w9 ⟨rfl, h9⟩
  obtain rfl : w8 = w9 := h9.symm
  go_wp2_with fail
  refine (HS2.out w8).mono ?_
  rintro ex w9 ⟨rfl, h9⟩
  obtain rfl : w8 = w9 := h9.symm
  go_wp2
  go_ret
  exact ⟨rfl, keeps_below3 K8.out⟩
set_option maxRecDepth 100000 in
set_option maxHeartbeats 1000000 in
theorem troots_out (A : Option Addr) (m c : Nat) (x y : Int) (W : World) (hT : Tabs W) (HFEW : Hid (∀ V, Keeps (fun _ => False) W V → Calls Tryd.prog 12 #[.slice A m c] V fun e w' => e = .returned (.bool false) ∧ w' = V)) :
    Calls Tryd.prog 3 #[.slice A m c, .int .i64 x, .int .u64 y] W fun e W' => e = .returned (.bool true) ∧ Below W.heap.size W W' := by
  have HAW := Lib.hid (awake3_any W hT)
  clear hT
  go_enter Tryd.func3, Tryd.ntmps3
  go_wp2_with fail
  refine HAW.out.mono ?_
  rintro e1 w1 ⟨rfl, k1⟩
  go_wp2_with fail
  refine (HFEW.out w1 k1).mono ?_
  rintro e2 w2 ⟨rfl, rfl⟩
  go_wp2
  go_ret
  exact ⟨rfl, keeps_below3 k1⟩
theorem troots_walk (A : Option Addr) (len c : Nat) (rs : List RowOf) (x y : Int) (W : World) (hT : Tabs W) (h0 : IsRows W A len c rs) (h1 : (Lit.int .i64 x).wf = true) (h2 : (Lit.int .u64 y).wf = true) :
    Calls Tryd.prog 3 #[.slice A len c, .int .i64 x, .int .u64 y] W fun e W' => e = .returned (.bool true) ∧ Below W.heap.size W W' := by
  obtain ⟨rfl, hc, hmax, hR⟩ := h0
  have b2 := bounds_u64 h2
  obtain ⟨y, rfl⟩ := Int.eq_ofNat_of_zero_le b2.1
  have hfew : ∀ V, Keeps (fun _ => False) W V → Calls Tryd.prog 12 #[.slice A rs.length c] V fun e w' => e = .returned (.bool (fewB rs)) ∧ w' = V := fun V hk => few_any A c rs V (hR.keeps hk (fun _ _ => id)) (by omega)
  cases hq : fewB rs with
  | false => rw [hq] at hfew; exact troots_out A _ c x y W hT (Lib.hid hfew)
  | true =>
    rw [hq] at hfew
    exact troots_in A c rs x y W hT hR (few_short hq).1 hc hmax (few_sixty hq) (by omega) (Lib.hid hfew)
end Go.Proofs.YtnnhbgaeohdojaaDoor
