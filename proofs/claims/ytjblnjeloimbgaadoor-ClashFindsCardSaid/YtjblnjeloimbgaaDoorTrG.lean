/-
  A path is checked (tree.Verify): what its closure makes.
-/
import Derived.Test.YtjblnjeloimbgaaDoorTrCa
import Derived.Laws.AppendOwn
namespace Go.Proofs.YtjblnjeloimbgaaDoor
open Go.RowKit Go.BigFrame
set_option linter.unusedVariables false

/-- The hashes ps lie behind one another from A on. -/
structure PathAt (w : World) (A : Option Addr) (ps : List (List UInt8)) : Prop where
  all : ∀ p ∈ ps, p.length = 32
  lie : ∀ i p, ps[i]? = some p → ∃ b o, A = some ⟨b, o, none⟩ ∧ w.rangeAt b (o + i * 32) (bvs p)
theorem PathAt.nil (w : World) (A : Option Addr) : PathAt w A [] := ⟨fun p hp => (by cases hp), fun i p h => (by simp at h)⟩
theorem PathAt.take {w : World} {A : Option Addr} {ps : List (List UInt8)} (h : PathAt w A ps) (k : Nat) : PathAt w A (ps.take k) := by
  refine ⟨fun p hp => h.all p (List.mem_of_mem_take hp), fun i p hp => ?_⟩
  rw [List.getElem?_take] at hp
  split at hp
  · exact h.lie i p hp
  · cases hp
theorem range_keeps {S : Nat → Prop} {w w' : World} {b o : Nat} {cs : List Value} (h : w.rangeAt b o cs) (hk : Keeps S w w') (hs : ∀ k, k < w.heap.size → ¬ S k) : w'.rangeAt b o cs := fun j v hv => by
  have hc := h j v hv
  have hl := World.block_lt_of_cell? w _ hc
  exact (hk.cell hl (hs _ hl)).trans hc
theorem PathAt.keeps {S : Nat → Prop} {w w' : World} {A : Option Addr} {ps : List (List UInt8)} (h : PathAt w A ps) (hk : Keeps S w w') (hs : ∀ k, k < w.heap.size → ¬ S k) : PathAt w' A ps := by
  refine ⟨h.all, fun i p hp => ?_⟩
  obtain ⟨b, o, e, hr⟩ := h.lie i p hp
  exact ⟨b, o, e, range_keeps hr hk hs⟩
def madeFn (Be Bm : Nat) : Value := .func (.func 24) #[] #[.pointer (some ⟨Be, 0, none⟩), .pointer (some ⟨Bm, 0, none⟩)]
/-- What the closure sees. -/
structure Sees (w : World) (Be Bm : Nat) (A : Option Addr) (c : Nat) (xs : List UInt8) : Prop where
  box : Row w Be 23 [.slice A xs.length c]
  src : Src w A (bvs xs)
  fn : Row w Bm 62 [madeFn Be Bm]
theorem Sees.later {w w' : World} {Be Bm : Nat} {A : Option Addr} {c : Nat} {xs : List UInt8} (h : Sees w Be Bm A c xs) (hk : Keeps (fun _ => False) w w') : Sees w' Be Bm A c xs :=
  ⟨h.box.keeps hk id, h.src.keeps hk (fun _ _ _ => id), h.fn.keeps hk id⟩
set_option maxRecDepth 100000 in
set_option maxHeartbeats 1000000 in
theorem made_one (Be Bm : Nat) (Ae : Option Addr) (ce : Nat) (xs : List UInt8) (hce : xs.length ≤ ce) (hce1 : ce ≤ 9223372036854775807) (hxs : xs.length ≤ 1000) (v : Value) (i : Int) (w : World) (hT : Tabs w) (hS : Sees w Be Bm Ae ce xs) :
    Calls Tryd.prog 24 #[.int .u64 1, .int .u64 i, v, .pointer (some ⟨Be, 0, none⟩), .pointer (some ⟨Bm, 0, none⟩)] w fun e w' => e = .returned (.agg (bvs (Tr.leaf xs)).toArray) ∧ Keeps (fun _ => False) w w' := by
  obtain ⟨Z, hZ⟩ : ∃ Z : Array Value, (bvs (List.replicate 32 0)).toArray = Z := ⟨_, rfl⟩
  have hz : ∀ w : World, (zeroValue 26).run Tryd.prog w = .ok (.agg Z) w := fun _ => by subst hZ; kernel_rfl
  have hzs : Z.size = 32 := by subst hZ; rfl
  clear hZ
  obtain ⟨W1, hW1⟩ : ∃ W, w.alloc (.cells Z 26) = W := ⟨_, rfl⟩
  have k1 : Keeps (fun _ => False) w W1 := by rw [← hW1]; exact (Keeps.refl _ _).alloc _
  have r1 : Row W1 w.heap.size 26 Z.toList := by rw [← hW1]; exact heap_alloc_new w _
  have s1 := hS.later k1
  have hcell1 : W1.cell? ⟨Be, 0, none⟩ = some (.slice Ae xs.length ce) := s1.box.cell 0
  have hleaf := leaf_any Ae ce xs W1 (hT.keeps k1 id id) s1.src hce hce1 (by omega)
  obtain ⟨R, hR⟩ : ∃ R, (bvs (Tr.leaf xs)).toArray = R := ⟨_, rfl⟩
  have hsz : (Tryd.prog.info? 26).map (·.size) = some R.size := by rw [← hR, List.size_toArray, bvs_length, Tr.leaf_length]; exact size_hash'
  have hzr : Z.size = R.size := by rw [← hR, hzs, List.size_toArray, bvs_length, Tr.leaf_length]
  have hone : R.all (·.oneCell') = true := by rw [← hR]; exact bvs_all _
  have hL : Calls Tryd.prog 22 #[.slice Ae xs.length ce] W1 fun e w' => e = .returned (.agg R) ∧ Keeps (fun _ => False) W1 w' := by rw [← hR]; exact hleaf
  rw [hR]
  have HL := Lib.hid hL
  have RR := Lib.hid r1
  have HSZ := Lib.hid hsz
  have HZR := Lib.hid hzr
  have HONE := Lib.hid hone
  clear hleaf hL r1 s1 hT hS hsz hzr hone hR hzs
  go_enter Tryd.func24, Tryd.ntmps24
  go_wp2_with fail
  refine HL.out.mono ?_
  rintro e w4 ⟨rfl, k4⟩
  have HO3 : Hid (w4.heap[w.heap.size]? = some (.cells Z 26 (0, 0))) := RR.out.keeps k4 id
  clear RR HL
  go_wp2_with (refine wpList_store_row rfl 26 _ _ rfl w.heap.size R rfl rfl 26 Z HO3.out HSZ.out HZR.out HONE.out ?_)
  refine bodyPost_ret (results_cell_row rfl _ _ w.heap.size 26 R (0, 0) _ rfl (setRow_heap _ _ _ _ _ _ HO3.out) Tryd.underlying26 rfl HSZ.out) rfl ?_
  exact ⟨rfl, (k1.trans k4).trans' (Keeps.setRow w.heap.size R) (fun i hi h => by omega)⟩
theorem take_pred (ps : List (List UInt8)) (m : Nat) (h : ps.length = m + 1) : ps.length - 1 = m := by omega
set_option maxRecDepth 100000 in
set_option maxHeartbeats 2000000 in
theorem made_any (Be Bm : Nat) (Ae : Option Addr) (ce : Nat) (xs : List UInt8) (hce : xs.length ≤ ce) (hce1 : ce ≤ 9223372036854775807) (hxs : xs.length ≤ 1000) : ∀ (f : Nat) (A : Option Addr) (c : Nat) (ps : List (List UInt8)) (n i : Nat) (w : World), Tabs w → PathAt w A ps → Sees w Be Bm Ae ce xs → i < n → n ≤ 18446744073709551615 → Tr.deep n ≤ f → ps.length = Tr.steps n i → ps.length ≤ c → c ≤ 9223372036854775807 →
    Calls Tryd.prog 24 #[.int .u64 (n : Int), .int .u64 (i : Int), .slice A ps.length c, .pointer (some ⟨Be, 0, none⟩), .pointer (some ⟨Bm, 0, none⟩)] w fun e w' => e = .returned (.agg (bvs (Tr.made n i (Tr.leaf xs) ps)).toArray) ∧ Keeps (fun _ => False) w w' := by
  intro f
  induction f with
  | zero =>
    intro A c ps n i w hT hP hS hi hn hf hl hc hmax
    have h2 : n < 2 := by
      rcases Nat.lt_or_ge n 2 with h | h
      · exact h
      · have := (Tr.deep_split h).2; omega
    obtain rfl : n = 1 := by omega
    rw [Tr.made_few _ _ _ h2]
    exact made_one Be Bm Ae ce xs hce hce1 hxs _ _ w hT hS
  | succ f ih =>
    intro A c ps n i w hT hP hS hi hn hf hl hc hmax
    rcases Nat.lt_or_ge n 2 with h2 | h2
    · obtain rfl : n = 1 := by omega
      rw [Tr.made_few _ _ _ h2]
      exact made_one Be Bm Ae ce xs hce hce1 hxs _ _ w hT hS
    have hmore := Tr.made_more i (Tr.leaf xs) ps h2 (by omega)
    have hst := Tr.steps_more i h2 (by omega)
    have a1 := Tr.split_pos h2
    have a2 := Tr.split_lt h2
    have d1 := Tr.deep_left h2
    have d2 := Tr.deep_right h2
    have hsp := fun W => split_any n W (by omega)
    obtain ⟨k, hk⟩ : ∃ k, Tr.split n = k := ⟨_, rfl⟩
    rw [hk] at hmore hst a1 a2 d1 d2 hsp
    rw [← hl] at hst
    have hpos : 0 < ps.length := by rw [hst]; split <;> omega
    obtain ⟨m, hm⟩ : ∃ m, ps.length = m + 1 := ⟨ps.length - 1, by omega⟩
    obtain ⟨p, hp⟩ : ∃ p, ps[m]? = some p := ⟨_, List.getElem?_eq_getElem (by omega)⟩
    have hpd : ps.getD (ps.length - 1) [] = p := by rw [List.getD_eq_getElem?_getD, take_pred ps m hm, hp]; rfl
    have hp32 : p.length = 32 := hP.all p (List.mem_of_getElem? hp)
    obtain ⟨b, o, rfl, hrg⟩ := hP.lie m p hp
    rw [hpd, take_pred ps m hm] at hmore
    have hqs := hP.take m
    obtain ⟨qs, hqq⟩ : ∃ qs, ps.take m = qs := ⟨_, rfl⟩
    have hql : qs.length = m := by rw [← hqq, List.length_take]; omega
    rw [hqq] at hmore hqs
    rw [hm] at hc hst ⊢
    obtain ⟨Z, hZ⟩ : ∃ Z : Array Value, (bvs (List.replicate 32 0)).toArray = Z := ⟨_, rfl⟩
    have hz : ∀ w : World, (zeroValue 26).run Tryd.prog w = .ok (.agg Z) w := fun _ => by subst hZ; kernel_rfl
    have hzs : Z.size = 32 := by subst hZ; rfl
    clear hZ
    obtain ⟨W1, hW1⟩ : ∃ W, w.alloc (.cells Z 26) = W := ⟨_, rfl⟩
    have k1 : Keeps (fun _ => False) w W1 := by rw [← hW1]; exact (Keeps.refl _ _).alloc _
    have r1 : Row W1 w.heap.size 26 Z.toList := by rw [← hW1]; exact heap_alloc_new w _
    have hv : ∀ V, Later W1 V → V.cell? ⟨Bm, 0, none⟩ = some (.func (.func 24) #[] #[.pointer (some ⟨Be, 0, none⟩), .pointer (some ⟨Bm, 0, none⟩)]) := fun V hV => by
      rw [(hS.later (k1.trans hV.out)).fn.cell]; rfl
    have hr : ∀ V, Later W1 V → V.rangeAt b (o + m * 32) (bvs p) := fun V hV => range_keeps hrg (k1.trans hV.out) (fun _ _ => id)
    have hpi : (Tryd.prog.info? 26).map (·.size) = some (bvs p).length := by rw [bvs_length, hp32]; exact size_hash'
    have hw1 : ∀ V, Later W1 V → Keeps (fun _ => False) w V := fun V hV => k1.trans hV.out
    have hnode : ∀ (x y : List UInt8), x.length = 32 → y.length = 32 → ∀ V, Later W1 V → Calls Tryd.prog 26 #[.agg (bvs x).toArray, .agg (bvs y).toArray] V fun e w' => e = .returned (.agg (bvs (Tr.node x y)).toArray) ∧ Later W1 w' := fun x y hx hy V hV =>
      (node_any x y V (hT.keeps (hw1 V hV) id id) hx hy).mono fun e w' hh => ⟨hh.1, ⟨hV.out.trans hh.2⟩⟩
    have hs1 : (m : Int) ≤ c := by omega
    have hs2 : (m : Int) + 1 ≤ c := by omega
    have hs3 : (m : Int) ≤ 9223372036854775806 := by omega
    have hs4 : ¬ (n : Int) = 1 := by omega
    have hn1 : ((n : Int) == 1) = false := by simpa using hs4
    by_cases hik : i < k
    · rw [if_pos hik] at hmore hst
      have hst' : m = Tr.steps k i := by omega
      have c1 : ∀ V, Later W1 V → Calls Tryd.prog 24 #[.int .u64 (k : Int), .int .u64 (i : Int), .slice (some ⟨b, o, none⟩) m c, .pointer (some ⟨Be, 0, none⟩), .pointer (some ⟨Bm, 0, none⟩)] V fun e w' => e = .returned (.agg (bvs (Tr.made k i (Tr.leaf xs) qs)).toArray) ∧ Later W1 w' := fun V hV => by
        have h := ih (some ⟨b, o, none⟩) c qs k i V (hT.keeps (hw1 V hV) id id) (hqs.keeps (hw1 V hV) (fun _ _ => id)) (hS.later (hw1 V hV)) hik (by omega) (by omega) (by rw [hql]; exact hst') (by omega) hmax
        rw [hql] at h
        exact h.mono fun e w' hh => ⟨hh.1, ⟨hV.out.trans hh.2⟩⟩
      have hL32 := Tr.made_length k i (Tr.leaf xs) qs (Tr.leaf_length xs)
      obtain ⟨L, hL⟩ : ∃ L, Tr.made k i (Tr.leaf xs) qs = L := ⟨_, rfl⟩
      rw [hL] at c1 hmore hL32
      have c2 := hnode L p hL32 hp32
      obtain ⟨R, hR⟩ : ∃ R, (bvs (Tr.node L p)).toArray = R := ⟨_, rfl⟩
      have hsz : (Tryd.prog.info? 26).map (·.size) = some R.size := by rw [← hR, List.size_toArray, bvs_length, Tr.node_length]; exact size_hash'
      have hzr : Z.size = R.size := by rw [← hR, hzs, List.size_toArray, bvs_length, Tr.node_length]
      have hone : R.all (·.oneCell') = true := by rw [← hR]; exact bvs_all _
      rw [hmore]
      rw [hR] at c2
      rw [hR]
      have C1 := Lib.hid c1
      have C2 := Lib.hid c2
      have HV := Lib.hid hv
      have HRG := Lib.hid hr
      have HPI := Lib.hid hpi
      have HSP := Lib.hid hsp
      have HSZ := Lib.hid hsz
      have HZR := Lib.hid hzr
      have HONE := Lib.hid hone
      have RR := Lib.hid r1
      have hik1 : (i : Int) < k := by omega
      clear c1 c2 hv hr hpi hsp hsz hzr hone r1 hR hL32 hL hnode hw1 hst hst' hmore ih hT hP hS hqs hrg hp hpd hp32 hqq hql hzs hm hl hpos d1 d2 hf hk hs4
      go_enter Tryd.func24, Tryd.ntmps24
      go_wp2_with (go_at_call 25; refine (HSP.out _).mono ?_; rintro e w' ⟨rfl, rfl⟩)
      refine wp_region_phase 12 (Later _) (by kernel_rfl) (by kernel_rfl) ⟨(Keeps.refl _ _).drew⟩ ?_
      simp only [List.take_succ_cons, List.take_zero, List.drop_succ_cons, List.drop_zero]
      refine class_cell (by rfl) 62 (.tmp 4) (by rfl) ⟨Bm, 0, none⟩ (by rfl) _ _ HV.out Tryd.underlying62 rfl ?_
      simp only [Act.put, List.setIfInBounds_toArray, List.set_cons_zero, List.set_cons_succ]
      go_big_quiet_step ((intro _; rfl))
      go_big_quiet_step ((intro _; rfl))
      go_big_quiet_step ((intro _; rfl))
      go_big_quiet_step ((intro _; rfl))
      go_big_quiet_step ((intro _; rfl))
      go_big_quiet_want
      go_big_quiet_op
      refine ⟨.agg (bvs L).toArray, fun V hV => C1.out V hV, ?_⟩
      go_big_quiet_on
      go_big_quiet_step ((intro _; rfl))
      go_big_quiet_step ((intro _; rfl))
      go_big_quiet_step ((intro _; rfl))
      refine class_mid (by rfl) 26 (.tmp 32) (by rfl) b (o + m * 32) (by rfl) (bvs p) _ HRG.out Tryd.underlying26 rfl HPI.out ?_
      simp only [Act.put, List.setIfInBounds_toArray, List.set_cons_zero, List.set_cons_succ]
      go_big_quiet_want
      go_big_quiet_op
      refine ⟨.agg R, fun V hV => C2.out V hV, ?_⟩
      go_big_quiet_on
      refine wpQuiet_nil ?_
      intro w6 k6
      have HO3 : Hid (w6.heap[w.heap.size]? = some (.cells Z 26 (0, 0))) := RR.out.keeps k6.out id
      go_wp2_with (refine wpList_store_row rfl 26 _ _ rfl w.heap.size R rfl rfl 26 Z HO3.out HSZ.out HZR.out HONE.out ?_)
      refine bodyPost_ret (results_cell_row rfl _ _ w.heap.size 26 R (0, 0) _ rfl (setRow_heap _ _ _ _ _ _ HO3.out) Tryd.underlying26 rfl HSZ.out) rfl ?_
      exact ⟨rfl, (k1.trans k6.out).trans' (Keeps.setRow w.heap.size R) (fun i hi h => by omega)⟩
    · rw [if_neg hik] at hmore hst
      have hst' : m = Tr.steps (n - k) (i - k) := by omega
      have c1 : ∀ V, Later W1 V → Calls Tryd.prog 24 #[.int .u64 ((n : Int) - (k : Int)), .int .u64 ((i : Int) - (k : Int)), .slice (some ⟨b, o, none⟩) m c, .pointer (some ⟨Be, 0, none⟩), .pointer (some ⟨Bm, 0, none⟩)] V fun e w' => e = .returned (.agg (bvs (Tr.made (n - k) (i - k) (Tr.leaf xs) qs)).toArray) ∧ Later W1 w' := fun V hV => by
        have h := ih (some ⟨b, o, none⟩) c qs (n - k) (i - k) V (hT.keeps (hw1 V hV) id id) (hqs.keeps (hw1 V hV) (fun _ _ => id)) (hS.later (hw1 V hV)) (by omega) (by omega) (by omega) (by rw [hql]; exact hst') (by omega) hmax
        rw [hql, show ((n - k : Nat) : Int) = (n : Int) - (k : Int) by omega, show ((i - k : Nat) : Int) = (i : Int) - (k : Int) by omega] at h
        exact h.mono fun e w' hh => ⟨hh.1, ⟨hV.out.trans hh.2⟩⟩
      have hL32 := Tr.made_length (n - k) (i - k) (Tr.leaf xs) qs (Tr.leaf_length xs)
      obtain ⟨L, hL⟩ : ∃ L, Tr.made (n - k) (i - k) (Tr.leaf xs) qs = L := ⟨_, rfl⟩
      rw [hL] at c1 hmore hL32
      have c2 := hnode p L hp32 hL32
      obtain ⟨R, hR⟩ : ∃ R, (bvs (Tr.node p L)).toArray = R := ⟨_, rfl⟩
      have hsz : (Tryd.prog.info? 26).map (·.size) = some R.size := by rw [← hR, List.size_toArray, bvs_length, Tr.node_length]; exact size_hash'
      have hzr : Z.size = R.size := by rw [← hR, hzs, List.size_toArray, bvs_length, Tr.node_length]
      have hone : R.all (·.oneCell') = true := by rw [← hR]; exact bvs_all _
      rw [hmore]
      rw [hR] at c2
      rw [hR]
      have C1 := Lib.hid c1
      have C2 := Lib.hid c2
      have HV := Lib.hid hv
      have HRG := Lib.hid hr
      have HPI := Lib.hid hpi
      have HSP := Lib.hid hsp
      have HSZ := Lib.hid hsz
      have HZR := Lib.hid hzr
      have HONE := Lib.hid hone
      have RR := Lib.hid r1
      have hik0 : (0 : Int) ≤ (i : Int) - (k : Int) := by omega
      have hik1 : (k : Int) ≤ i := by omega
      have hik2 : (i : Int) ≤ 18446744073709551615 := by omega
      have hnk0 : (0 : Int) ≤ (n : Int) - (k : Int) := by omega
      have hnk1 : (k : Int) ≤ n := by omega
      have hnk2 : (n : Int) ≤ 18446744073709551615 := by omega
      clear c1 c2 hv hr hpi hsp hsz hzr hone r1 hR hL32 hL hnode hw1 hst hst' hmore ih hT hP hS hqs hrg hp hpd hp32 hqq hql hzs hm hl hpos d1 d2 hf hk hs4
      go_enter Tryd.func24, Tryd.ntmps24
      go_wp2_with (go_at_call 25; refine (HSP.out _).mono ?_; rintro e w' ⟨rfl, rfl⟩)
      refine wp_region_phase 16 (Later _) (by kernel_rfl) (by kernel_rfl) ⟨(Keeps.refl _ _).drew⟩ ?_
      simp only [List.take_succ_cons, List.take_zero, List.drop_succ_cons, List.drop_zero]
      go_big_quiet_step ((intro _; rfl))
      go_big_quiet_step ((intro _; rfl))
      go_big_quiet_step ((intro _; rfl))
      refine class_mid (by rfl) 26 (.tmp 37) (by rfl) b (o + m * 32) (by rfl) (bvs p) _ HRG.out Tryd.underlying26 rfl HPI.out ?_
      simp only [Act.put, List.setIfInBounds_toArray, List.set_cons_zero, List.set_cons_succ]
      refine class_cell (by rfl) 62 (.tmp 4) (by rfl) ⟨Bm, 0, none⟩ (by rfl) _ _ HV.out Tryd.underlying62 rfl ?_
      simp only [Act.put, List.setIfInBounds_toArray, List.set_cons_zero, List.set_cons_succ]
      go_big_quiet_step ((intro _; rfl))
      go_big_quiet_step ((intro _; rfl))
      go_big_quiet_step ((intro _; rfl))
      go_big_quiet_step ((intro _; rfl))
      go_big_quiet_step ((intro _; rfl))
      go_big_quiet_step ((intro _; rfl))
      go_big_quiet_step ((intro _; rfl))
      go_big_quiet_step ((intro _; rfl))
      go_big_quiet_step ((intro _; rfl))
      go_big_quiet_want
      go_big_quiet_op
      refine ⟨.agg (bvs L).toArray, fun V hV => C1.out V hV, ?_⟩
      go_big_quiet_on
      go_big_quiet_want
      go_big_quiet_op
      refine ⟨.agg R, fun V hV => C2.out V hV, ?_⟩
      go_big_quiet_on
      refine wpQuiet_nil ?_
      intro w6 k6
      have HO3 : Hid (w6.heap[w.heap.size]? = some (.cells Z 26 (0, 0))) := RR.out.keeps k6.out id
      go_wp2_with (refine wpList_store_row rfl 26 _ _ rfl w.heap.size R rfl rfl 26 Z HO3.out HSZ.out HZR.out HONE.out ?_)
      refine bodyPost_ret (results_cell_row rfl _ _ w.heap.size 26 R (0, 0) _ rfl (setRow_heap _ _ _ _ _ _ HO3.out) Tryd.underlying26 rfl HSZ.out) rfl ?_
      exact ⟨rfl, (k1.trans k6.out).trans' (Keeps.setRow w.heap.size R) (fun i hi h => by omega)⟩
end Go.Proofs.YtjblnjeloimbgaaDoor
