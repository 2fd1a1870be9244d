/-
  The law TreePaths walked: each place's path is verified, and no other length is.
-/
import Derived.Test.YtfdhnlpialcklaaDoorTrL
namespace Go.Proofs.YtfdhnlpialcklaaDoor
open Go.RowKit Go.BigFrame
set_option linter.unusedVariables false

theorem steps_five : ∀ n : Fin 21, ∀ i : Fin 21, i.val < n.val → Tr.steps n.val i.val ≤ 5 := by decide +kernel
/-- 'append(x, y...)' of hashes onto a row of the call's own. -/
theorem run_append_hashes {P : Program} (w : World) (base : Nat) (t ty e : TypeId) (i : TypeInfo) (z : Value) (size bytes : Nat) (ht : P.underlying t = some (.slice e)) (hi : P.info? e = some i) (hz : i.zero = some z)
    (hsize : i.size = size) (hby : i.bytes = bytes) (hzs : z.cells.size = size) (hsz : 0 < size) (v : Value) (n : Nat) (xs : List Value) (hown : w.ownsRow base e size v n xs)
    (u : Value) (m : Nat) (news : List Value) (b2 : Nat) (hu : w.ownsRow b2 e size u m news) (h1 : ∀ u ∈ news, u.oneCell' = true) (h63 : n + m ≤ maxLen) (hbytes : (n + m) * bytes ≤ 140737488355328) (hbase : base ≤ w.heap.size) :
    ∃ v' w', (Builtin.append_ #[t, t] ty #[v, u]).run P w = .ok v' w' ∧ w'.ownsRow base e size v' (n + m) (xs ++ news) ∧ w.grownBy w' v.ownBlock := by
  rcases hu.2 with ⟨rfl, rfl⟩ | ⟨g, cap, cur, rfl, _⟩
  · have hn : news = [] := List.eq_nil_of_length_eq_zero (by rw [hu.1, Nat.zero_mul])
    subst hn
    refine ⟨v, w, ?_, by simpa using hown, ⟨rfl, rfl, rfl, Nat.le_refl _, fun _ _ _ => rfl⟩⟩
    rcases hown.2 with ⟨rfl, _⟩ | ⟨g, cap, cur, rfl, _, _, hnc, _⟩
    · simp [Builtin.append_, run_underlying ht, sizeOf, typeInfo, hi, Builtin.lenOf, Builtin.firstCells, loadCells, loadCellsFrom]
    · simp [Builtin.append_, run_underlying ht, sizeOf, typeInfo, hi, Builtin.lenOf, Builtin.firstCells, hnc, storeCells, loadCells, loadCellsFrom]
  · obtain ⟨v', w', hr, h2, h3, _⟩ := run_append_own (P := P) w base t ty e i z size bytes ht hi hz hsize hby hzs hsz v n xs hown ⟨g, 0, none⟩ m cap news hu.1 (fun j x hx => hu.cells (g := g) rfl j x hx) h1 h63 hbytes hbase
    exact ⟨v', w', hr, h2, h3⟩
theorem wpList_append_hashes {P : Program} {w : World} {ops : Array Oper} {rest : List Oper} {o : Oper} {a : Act} {Q : Exit → Act → World → Prop} (hgd : o.guard = none) (s x : Operand) (t : TypeId)
    (ho : o.op = .call { callee := .builtin .append, args := #[s, x], argTypes := #[t, t] })
    (base : Nat) (e : TypeId) (i : TypeInfo) (z : Value) (size bytes : Nat) (ht : P.underlying t = some (.slice e)) (hi : P.info? e = some i) (hz : i.zero = some z)
    (hsize : i.size = size) (hby : i.bytes = bytes) (hzs : z.cells.size = size) (hsz : 0 < size)
    (v : Value) (n : Nat) (xs : List Value) (hs : a.eval s = v) (hown : w.ownsRow base e size v n xs)
    (u : Value) (m : Nat) (news : List Value) (b2 : Nat) (hx : a.eval x = u) (hu : w.ownsRow b2 e size u m news) (h1 : ∀ u ∈ news, u.oneCell' = true)
    (h63 : n + m ≤ maxLen) (hbytes : (n + m) * bytes ≤ 140737488355328) (hbase : base ≤ w.heap.size)
    (h : ∀ v' w', w'.ownsRow base e size v' (n + m) (xs ++ news) → w.grownBy w' v.ownBlock → wpList P ops Q rest (a.put o.dst v') w') :
    wpList P ops Q (o :: rest) a w := by
  refine wpList_plain hgd fun _ hK => ?_
  obtain ⟨v', w', hr, h2, h3⟩ := run_append_hashes (P := P) w base t o.type e i z size bytes ht hi hz hsize hby hzs hsz v n xs hown u m news b2 hu h1 h63 hbytes hbase
  unfold Oper.wp execOp
  simp only [ho, resolve, invoke, builtin, Sem.run_bind, Sem.run_pure, Result.andThen_ok, List.map_toArray, List.map_cons, List.map_nil, hs, hx, hr]
  exact hK _ _ (h v' w' h2 h3)
theorem flat_one (ps : List (List UInt8)) : ∀ u ∈ flat ps, u.oneCell' = true := by
  intro u hu
  unfold flat at hu
  obtain ⟨p, _, h⟩ := List.mem_flatMap.1 hu
  exact bvs_one p u h
set_option maxRecDepth 100000 in
set_option maxHeartbeats 2000000 in
theorem paths_in (a : Addr) (c : Nat) (rs : List RowOf) (x : Int) (W : World) (hT : Tabs W) (hR : RowsAt W (some a) rs) (h1 : 1 ≤ rs.length) (h20 : rs.length ≤ 20) (hc : rs.length ≤ c) (hmax : c ≤ 9223372036854775807) (hlen : ∀ r ∈ rs, r.2.2.length ≤ 1000) (hx0 : 0 ≤ x) (hx1 : x ≤ 255)
    (HFEW : Hid (∀ V, Keeps (fun _ => False) W V → Calls Tryd.prog 21 #[.slice (some a) rs.length c] V fun e w' => e = .returned (.bool true) ∧ w' = V)) :
    Calls Tryd.prog 6 #[.slice (some a) rs.length c, .int .u8 x] W fun e W' => e = .returned (.bool true) ∧ Below W.heap.size W W' := by
  have HAW := Lib.hid (awake3_any W hT)
  obtain ⟨n, hn⟩ : ∃ n, rs.length = n := ⟨_, rfl⟩
  obtain ⟨i, hi⟩ : ∃ i : Nat, x % (n : Int) = i := Int.eq_ofNat_of_zero_le (Int.emod_nonneg _ (by omega))
  have hin : i < n := by have := Int.emod_lt_of_pos x (show (0 : Int) < n by omega); omega
  have ht : x.tmod (n : Int) = (i : Int) := by rw [Int.tmod_eq_emod_of_nonneg hx0, hi]
  have hst := Tr.path_steps (ents rs) i (by rw [ents_length]; omega) (by rw [ents_length]; omega)
  have hmd := Tr.path_made (ents rs) i (by rw [ents_length]; omega) (by rw [ents_length]; omega)
  rw [ents_length, hn] at hst hmd
  have hs5 : Tr.steps n i ≤ 5 := steps_five ⟨n, by omega⟩ ⟨i, by omega⟩ hin
  obtain ⟨r, hr⟩ : ∃ r, rs[i]? = some r := ⟨_, List.getElem?_eq_getElem (by omega)⟩
  have hgd : (ents rs).getD i [] = r.2.2 := by
    rw [List.getD_eq_getElem?_getD]
    unfold ents
    rw [List.getElem?_map, hr]
    rfl
  rw [hgd] at hmd
  obtain ⟨ad, e0, hcell⟩ := hR.cell i r hr
  injection e0 with e0
  subst e0
  have hrm := List.mem_of_getElem? hr
  have hsr := hR.src r hrm
  have hcp := hR.cap r hrm
  have hl1 := hlen r hrm
  obtain ⟨B, cB, xs⟩ := r
  simp only at hcell hsr hcp hl1 hmd
  have hcl : ∀ V, Keeps (fun _ => False) W V → V.cell? (a.add i) = some (.slice B xs.length cB) := fun V hk => (hk.cell (World.block_lt_of_cell? W _ hcell) id).trans hcell
  have hpath := fun V (hk : Keeps (fun _ => False) W V) => path_in a c rs i V (hT.keeps hk id id) (hR.keeps hk (fun _ _ => id)) (by omega) hc hmax hlen (by omega)
  have hroot := fun V (hk : Keeps (fun _ => False) W V) => root_any (some a) c rs V (hT.keeps hk id id) (hR.keeps hk (fun _ _ => id)) hc hmax hlen
  have hpall : ∀ p ∈ Tr.path (ents rs) i, p.length = 32 := fun p hp => Tr.path_all _ _ _ p hp
  have hrt32 := Tr.root_length (ents rs)
  obtain ⟨ps, hps⟩ : ∃ ps, Tr.path (ents rs) i = ps := ⟨_, rfl⟩
  obtain ⟨rt, hrt⟩ : ∃ rt, Tr.root (ents rs) = rt := ⟨_, rfl⟩
  obtain ⟨s, hs⟩ : ∃ s, Tr.steps n i = s := ⟨_, rfl⟩
  rw [hps] at hst hpath hmd hpall
  rw [hrt] at hroot hmd hrt32
  rw [hs] at hst hs5
  rw [hn] at hpath hroot HFEW hc ⊢
  have hver := fun (j : Nat) (A : Option Addr) (cp : Nat) (qs : List (List UInt8)) V (hk : Keeps (fun _ => False) W V) (hp : PathAt V A qs) (h1 : qs.length ≤ cp) (h2 : cp ≤ 9223372036854775807) => verify_any rt n j B A cB cp xs qs V (hT.keeps hk id id) hrt32 (hsr.keeps hk (fun _ _ _ => id)) hcp.1 hcp.2 hl1 hp h1 h2 (by omega)
  have v0 : Tr.verify rt n i xs ps = 0 := by
    unfold Tr.verify
    rw [if_neg (by omega), if_pos (by rw [hst, hs]), if_pos hmd]
  have v15 : Tr.verify rt n n xs ps = 15 := by
    unfold Tr.verify
    rw [if_pos (Nat.le_refl _)]
  have v20 : ∀ qs : List (List UInt8), qs.length ≠ s → Tr.verify rt n i xs qs = 20 := fun qs hq => by
    unfold Tr.verify
    rw [if_neg (by omega), if_neg (by rw [hs]; exact hq)]
  have hRs : (Tryd.prog.info? 24).map (·.size) = some (bvs rt).toArray.size := by rw [List.size_toArray, bvs_length, hrt32]; exact size_hash'
  have hRo : (bvs rt).toArray.all (·.oneCell') = true := bvs_all _
  obtain ⟨Z, hZ⟩ : ∃ Z : Array Value, (bvs (List.replicate 32 0)).toArray = Z := ⟨_, rfl⟩
  have hz : ∀ w : World, (zeroValue 24).run Tryd.prog w = .ok (.agg Z) w := fun _ => by subst hZ; kernel_rfl
  have hzr : Z.size = (bvs rt).toArray.size := by rw [← hZ, List.size_toArray, bvs_length, List.size_toArray, bvs_length, hrt32]; rfl
  have HBS := Lib.hid (build_hash rt hrt32)
  obtain ⟨R, hR'⟩ : ∃ R, (bvs rt).toArray = R := ⟨_, rfl⟩
  rw [hR'] at hRs hzr hroot hver hRo HBS
  have HPATH := Lib.hid hpath
  have HROOT := Lib.hid hroot
  have HVER := Lib.hid hver
  have HCL := Lib.hid hcl
  have HST := Lib.hid hst
  have HALL := Lib.hid hpall
  have HRT := Lib.hid hrt32
  have V0 := Lib.hid v0
  have V15 := Lib.hid v15
  have V20 := Lib.hid v20
  have HRS := Lib.hid hRs
  have HRO := Lib.hid hRo
  have HZR := Lib.hid hzr
  have HRA := Lib.hid hR'
  have hn20 : (n : Int) ≤ 20 := by omega
  have hn1 : (1 : Int) ≤ n := by omega
  have hin' : (i : Int) < n := by omega
  have hs5' : (s : Int) ≤ 5 := by omega
  have hs5b : decide ((5 : Int) < (s : Int)) = false := decide_eq_false (by omega)
  clear hZ hpath hroot hver hcl hst hpall hrt32 v0 v15 v20 hRs hRo hzr hR' hmd hgd hr hcell hrm hsr hcp hl1 hps hrt hR hT hlen hn hs hi h1 h20
  go_enter Tryd.func6, Tryd.ntmps6
  go_wp2_with fail
  refine HAW.out.mono ?_
  rintro e1 w1 ⟨rfl, k1⟩
  go_wp2_with fail
  refine (HFEW.out w1 k1).mono ?_
  rintro e2 w2 ⟨rfl, rfl⟩
  clear HAW HFEW
  go_wp2_with fail
  refine (HROOT.out w2 k1).mono ?_
  rintro e3 w3 ⟨rfl, k3⟩
  have K3 := Lib.hid (k1.trans k3)
  have HZ3 : Hid ((w3.alloc (.cells Z 24)).heap[w3.heap.size]? = some (.cells Z 24 (0, 0))) := heap_alloc_new w3 _
  clear HROOT k1 k3
  go_wp2_with (refine wpList_store_abs (by rfl) 24 (.tmp 8) (.tmp 31) (by rfl) w3.heap.size R (by rfl) (by rfl) 24 Z HZ3.out HRS.out HZR.out HRO.out ?_; intro w4 HH4 k4)
  have hk4 : Keeps (fun _ => False) w3 w4 := ((Keeps.refl _ w3).alloc _).trans' k4 (fun k hk e => by omega)
  have K4 := Lib.hid (K3.out.trans hk4)
  have hb4 : w4.heap[w3.heap.size]? = some (.cells R 24 (0, 0)) := HH4.out
  have HBX : Hid (∀ V, Keeps (fun _ => False) w4 V → V.heap[w3.heap.size]? = some (.cells R 24 (0, 0))) := fun V hk => (hk.block _ (Array.getElem?_eq_some_iff.1 hb4).1 id).trans hb4
  clear HZ3 HZR HRO K3 k4 hk4 hb4 HH4
  refine (HPATH.out w4 K4.out).mono ?_
  rintro e5 w5 ⟨v, rfl, ho5, k5⟩
  obtain ⟨A5, c5, hv5⟩ := own_slice ho5
  have P5 : Hid (PathAt w5 A5 ps) := PathAt.of_own ho5 HALL.out hv5
  rw [HST.out] at hv5
  subst hv5
  rw [HST.out] at ho5
  have hc5 : s ≤ c5 ∧ c5 ≤ 9223372036854775807 := by
    rcases ho5.2 with ⟨h, hs0⟩ | ⟨g, cap, cur, h, _, _, h1, h2, _⟩
    · injection h with _ _ h; omega
    · injection h with _ _ h; subst h; exact ⟨h1, h2⟩
  have HO5 := Lib.hid ho5
  have K45 := Lib.hid k5
  have K5 := Lib.hid (K4.out.trans k5)
  have B5 := Lib.hid k5.size
  have CC := Lib.hid hc5
  clear HPATH ho5 k5 hc5
  have ver0 : ∀ V, Keeps (fun _ => False) w5 V → Calls Tryd.prog 31 #[.agg R, .int .u64 (n : Int), .int .u64 (i : Int), .slice B xs.length cB, .slice A5 s c5] V fun e w' => e = .returned (.int .i64 0) ∧ Keeps (fun _ => False) V w' := fun V hk => by
    have h := HVER.out i A5 c5 ps V (K5.out.trans hk) (P5.out.keeps hk (fun _ _ => id)) (by rw [HST.out]; exact CC.out.1) CC.out.2
    rw [V0.out, HST.out] at h
    exact h
  have ver15 : ∀ V, Keeps (fun _ => False) w5 V → Calls Tryd.prog 31 #[.agg R, .int .u64 (n : Int), .int .u64 (n : Int), .slice B xs.length cB, .slice A5 s c5] V fun e w' => e = .returned (.int .i64 15) ∧ Keeps (fun _ => False) V w' := fun V hk => by
    have h := HVER.out n A5 c5 ps V (K5.out.trans hk) (P5.out.keeps hk (fun _ _ => id)) (by rw [HST.out]; exact CC.out.1) CC.out.2
    rw [V15.out, HST.out] at h
    exact h
  have VER0 := Lib.hid ver0
  have VER15 := Lib.hid ver15
  have LK5 : Hid (∀ V, Later w5 V → Keeps (fun _ => False) w5 V) := fun V h => h.out
  have LK4 : Hid (∀ V, Later w5 V → Keeps (fun _ => False) w4 V) := fun V h => K45.out.trans h.out
  have LKW : Hid (∀ V, Later w5 V → Keeps (fun _ => False) W V) := fun V h => K5.out.trans h.out
  clear ver0 ver15
  go_wp2_with fail
  refine wp_region_class (Later w5) (by kernel_rfl) (by kernel_rfl) ⟨(Keeps.refl _ _).drew⟩ ?_
  go_big_quiet_step ((intro _; rfl))
  go_big_quiet_step ((intro _; rfl))
  go_big_quiet_step ((intro _; rfl))
  go_big_quiet_step ((intro _; rfl))
  go_big_quiet_step ((intro _; rfl))
  go_big_quiet_step ((intro _; rfl))
  go_big_quiet_step ((intro _; rfl))
  go_big_quiet_step ((intro _; rfl))
  refine class_load (by rfl) 24 (.tmp 8) (by rfl) w3.heap.size (by rfl) 24 R (0, 0) _ (fun V hV => HBX.out V (LK4.out V hV)) Tryd.underlying24 rfl HRS.out ?_
  simp only [Act.put, List.setIfInBounds_toArray, List.set_cons_zero, List.set_cons_succ]
  go_big_quiet_step ((intro _; rfl))
  go_big_quiet_step ((intro _; rfl))
  go_big_quiet_step ((intro _; rfl))
  go_big_quiet_step ((intro _; rfl))
  go_big_quiet_step ((intro _; rfl))
  go_big_quiet_step ((intro _; rfl))
  refine class_cell (by rfl) 22 (.tmp 55) (by rfl) (a.add i) (by rfl) _ _ (fun V hV => HCL.out V (LKW.out V hV)) Tryd.underlying22 rfl ?_
  simp only [Act.put, List.setIfInBounds_toArray, List.set_cons_zero, List.set_cons_succ]
  go_big_quiet_step ((intro _; rfl))
  go_big_quiet_want
  go_big_quiet_op
  refine ⟨(.int .i64 0), fun V hV => (VER0.out V (LK5.out V hV)).mono fun e w' h => ⟨h.1, ⟨hV.out.trans h.2⟩⟩, ?_⟩
  go_big_quiet_on
  go_big_quiet_step ((intro _; rfl))
  go_big_quiet_step ((intro _; rfl))
  go_big_quiet_step ((intro _; rfl))
  refine class_load (by rfl) 24 (.tmp 8) (by rfl) w3.heap.size (by rfl) 24 R (0, 0) _ (fun V hV => HBX.out V (LK4.out V hV)) Tryd.underlying24 rfl HRS.out ?_
  simp only [Act.put, List.setIfInBounds_toArray, List.set_cons_zero, List.set_cons_succ]
  go_big_quiet_step ((intro _; rfl))
  go_big_quiet_step ((intro _; rfl))
  go_big_quiet_step ((intro _; rfl))
  go_big_quiet_step ((intro _; rfl))
  go_big_quiet_step ((intro _; rfl))
  refine class_cell (by rfl) 22 (.tmp 67) (by rfl) (a.add i) (by rfl) _ _ (fun V hV => HCL.out V (LKW.out V hV)) Tryd.underlying22 rfl ?_
  simp only [Act.put, List.setIfInBounds_toArray, List.set_cons_zero, List.set_cons_succ]
  go_big_quiet_step ((intro _; rfl))
  go_big_quiet_want
  go_big_quiet_op
  refine ⟨(.int .i64 15), fun V hV => (VER15.out V (LK5.out V hV)).mono fun e w' h => ⟨h.1, ⟨hV.out.trans h.2⟩⟩, ?_⟩
  go_big_quiet_on
  go_big_quiet_step ((intro _; rfl))
  go_big_quiet_step ((intro _; rfl))
  refine wpQuiet_nil ?_
  intro w6 k6
  have O6 : Hid (w6.ownsRow w4.heap.size 24 32 (.slice A5 s c5) s (flat ps)) := k6.out.owns HO5.out (fun _ _ => id)
  have K56 := Lib.hid k6.out
  clear VER0 VER15 HO5
  obtain ⟨j0, z0, hj0, hzz, hss, hbb, hzs⟩ := info_hash
  have b6 : W.heap.size ≤ w6.heap.size := (K5.out.trans K56.out).size
  have K46 := Lib.hid (K45.out.trans K56.out)
  go_wp2_with (first
    | (refine wpList_append_hashes (by rfl) (.tmp 73) (.tmp 74) 37 (by rfl) w6.heap.size 24 j0 z0 32 32 Tryd.underlying37 hj0 hzz hss hbb hzs (by decide) (.slice none 0 0) 0 [] (by rfl) (World.ownsRow_nil _ _ _ _) (.slice A5 s c5) s (flat ps) w4.heap.size (by rfl) O6.out (flat_one ps) (by unfold maxLen; omega) (by omega) (Nat.le_refl _) ?_; intro v7 w7 ho7 hg7; obtain ⟨A7, c7, rfl⟩ := own_slice ho7; rw [Nat.zero_add, List.nil_append] at ho7; rw [Nat.zero_add]; have hk7 : Hid (Keeps (fun _ => False) w6 w7) := Lib.hid ((Keeps.refl _ _).grown hg7 (fun k _ h => by cases h)); have HO7 := Lib.hid ho7; have hg7r := HBX.out w7 (K46.out.trans hk7.out); have B7 := hk7.out.size; clear ho7 hg7)
    | (refine wpList_load_row (by rfl) 24 (.tmp 8) (by rfl) w3.heap.size (by rfl) 24 R (0, 0) _ hg7r Tryd.underlying24 rfl HRS.out ?_)
    | (refine wpList_buildSlice_run (by rfl) 37 1 0 (.tmp 77) (by rfl) _ _ (by rfl) (HBS.out _) ?_)
    | (refine wpList_append_own _ (by rfl) (.tmp 76) (.tmp 78) 37 (by rfl) w6.heap.size 24 j0 z0 32 32 Tryd.underlying37 hj0 hzz hss hbb hzs (by decide) (.slice A7 s c7) s (flat ps) (by rfl) (Keeps.owns (S := fun _ => False) ((Keeps.refl _ _).alloc _) HO7.out (fun _ _ => id)) ⟨w7.heap.size, 0, none⟩ 1 1 (bvs rt) (by rfl) (by rw [bvs_length, HRT.out]) (World.news_of_block (by rw [← HRA.out]; exact heap_alloc_new w7 _)) (bvs_one _) (by unfold maxLen; omega) (by omega) (by simp; omega) ?_; intro v8 w8 ho8 hg8 _; have HO8 := Lib.hid ho8; have HG8 := Lib.hid hg8; clear ho8 hg8 hg7r))
  have hk8 : Keeps (fun k => w6.heap.size ≤ k) w6 w8 := by
    have h1 : Keeps (fun k => w6.heap.size ≤ k) w6 (w7.alloc (.cells R 24)) := ((hk7.out.mono (fun _ _ h => h.elim)).alloc _)
    refine h1.grown HG8.out (fun k hk hrow => ?_)
    obtain ⟨_, _, hb⟩ := own_block HO7.out k hrow
    omega
  obtain ⟨A8, c8, hv8⟩ := own_slice HO8.out
  subst hv8
  have hown8 : w8.ownsRow w6.heap.size 24 32 (.slice A8 (s + 1) c8) (s + 1) (flat (ps ++ [rt])) := by rw [flat_snoc]; exact HO8.out
  have hall8 : ∀ p ∈ ps ++ [rt], p.length = 32 := fun p hp => by
    rcases List.mem_append.1 hp with h | h
    · exact HALL.out p h
    · rw [List.mem_singleton] at h; subst h; exact HRT.out
  have P8 : Hid (PathAt w8 A8 (ps ++ [rt])) := PathAt.of_own hown8 hall8 rfl
  have hc8 : s + 1 ≤ c8 ∧ c8 ≤ 9223372036854775807 := by
    rcases hown8.2 with ⟨h, hs0⟩ | ⟨g, cap, cur, h, _, _, h1, h2, _⟩
    · omega
    · injection h with _ _ h; subst h; exact ⟨h1, h2⟩
  have s46 := K46.out.size
  have s56 := K56.out.size
  have KW8 : Hid (Keeps (fun _ => False) W w8) := (K5.out.trans K56.out).trans' hk8 (fun k hk h => by omega)
  have K48 : Hid (Keeps (fun _ => False) w4 w8) := K46.out.trans' hk8 (fun k hk h => by omega)
  have K58 : Hid (Keeps (fun _ => False) w5 w8) := K56.out.trans' hk8 (fun k hk h => by omega)
  have ver8 : ∀ V, Keeps (fun _ => False) w8 V → Calls Tryd.prog 31 #[.agg R, .int .u64 (n : Int), .int .u64 (i : Int), .slice B xs.length cB, .slice A8 (s + 1) c8] V fun e w' => e = .returned (.int .i64 20) ∧ Keeps (fun _ => False) V w' := fun V hk => by
    have hl : (ps ++ [rt]).length = s + 1 := by rw [List.length_append, HST.out]; rfl
    have h := HVER.out i A8 c8 (ps ++ [rt]) V (KW8.out.trans hk) (P8.out.keeps hk (fun _ _ => id)) (by rw [hl]; exact hc8.1) hc8.2
    rw [V20.out (ps ++ [rt]) (by rw [hl]; omega), hl] at h
    exact h
  have VER8 := Lib.hid ver8
  have MK8 : Hid (∀ V, Later w8 V → Keeps (fun _ => False) w8 V) := fun V h => h.out
  have MK4 : Hid (∀ V, Later w8 V → Keeps (fun _ => False) w4 V) := fun V h => K48.out.trans h.out
  have MKW : Hid (∀ V, Later w8 V → Keeps (fun _ => False) W V) := fun V h => KW8.out.trans h.out
  clear ver8 hk8 HO8 HG8 HO7 hown8 hall8 hc8 P8 O6
  go_wp2_with fail
  refine wp_region_class (Later w8) (by kernel_rfl) (by kernel_rfl) ⟨(Keeps.refl _ _).drew⟩ ?_
  refine class_load (by rfl) 24 (.tmp 8) (by rfl) w3.heap.size (by rfl) 24 R (0, 0) _ (fun V hV => HBX.out V (MK4.out V hV)) Tryd.underlying24 rfl HRS.out ?_
  simp only [Act.put, List.setIfInBounds_toArray, List.set_cons_zero, List.set_cons_succ]
  go_big_quiet_step ((intro _; rfl))
  go_big_quiet_step ((intro _; rfl))
  go_big_quiet_step ((intro _; rfl))
  go_big_quiet_step ((intro _; rfl))
  go_big_quiet_step ((intro _; rfl))
  go_big_quiet_step ((intro _; rfl))
  refine class_cell (by rfl) 22 (.tmp 86) (by rfl) (a.add i) (by rfl) _ _ (fun V hV => HCL.out V (MKW.out V hV)) Tryd.underlying22 rfl ?_
  simp only [Act.put, List.setIfInBounds_toArray, List.set_cons_zero, List.set_cons_succ]
  go_big_quiet_step ((intro _; rfl))
  go_big_quiet_want
  go_big_quiet_op
  refine ⟨(.int .i64 20), fun V hV => (VER8.out V (MK8.out V hV)).mono fun e w' h => ⟨h.1, ⟨hV.out.trans h.2⟩⟩, ?_⟩
  go_big_quiet_on
  go_big_quiet_step ((intro _; rfl))
  refine wpQuiet_nil ?_
  intro w9 k9
  have K9 := Lib.hid k9.out
  clear VER8 MK4 MKW MK8
  have NKW : Hid (∀ V, Later w9 V → Keeps (fun _ => False) W V) := fun V h => (KW8.out.trans K9.out).trans h.out
  have NK4 : Hid (∀ V, Later w9 V → Keeps (fun _ => False) w4 V) := fun V h => (K48.out.trans K9.out).trans h.out
  have NK5 : Hid (∀ V, Later w9 V → Keeps (fun _ => False) w5 V) := fun V h => (K58.out.trans K9.out).trans h.out
  rcases Nat.eq_zero_or_pos s with hs0 | hs0
  · subst hs0
    go_wp2_with fail
    refine wp_region_class (Later w9) (by kernel_rfl) (by kernel_rfl) ⟨(Keeps.refl _ _).drew⟩ ?_
    repeat (go_big_quiet_step ((intro _; rfl)))
    refine wpQuiet_nil ?_
    intro w10 k10
    go_wp2
    go_ret
    exact ⟨rfl, keeps_below3 (NKW.out w10 k10)⟩
  · obtain ⟨m, rfl⟩ : ∃ m, s = m + 1 := ⟨s - 1, by omega⟩
    have ver9 : ∀ V, Keeps (fun _ => False) w5 V → Calls Tryd.prog 31 #[.agg R, .int .u64 (n : Int), .int .u64 (i : Int), .slice B xs.length cB, .slice A5 m c5] V fun e w' => e = .returned (.int .i64 20) ∧ Keeps (fun _ => False) V w' := fun V hk => by
      have hl : (ps.take m).length = m := by rw [List.length_take, HST.out]; omega
      have h := HVER.out i A5 c5 (ps.take m) V (K5.out.trans hk) ((P5.out.take m).keeps hk (fun _ _ => id)) (by rw [hl]; have := CC.out.1; omega) CC.out.2
      rw [V20.out (ps.take m) (by rw [hl]; omega), hl] at h
      exact h
    have VER9 := Lib.hid ver9
    have hm0 : (((m : Int) + 1) == 0) = false := by rw [beq_eq_false_iff_ne]; omega
    have hm1 : (m : Int) ≤ c5 := by have := CC.out.1; omega
    clear ver9
    go_wp2_with fail
    refine wp_region_class (Later w9) (by kernel_rfl) (by kernel_rfl) ⟨(Keeps.refl _ _).drew⟩ ?_
    go_big_quiet_step ((intro _; rfl))
    go_big_quiet_step ((intro _; rfl))
    go_big_quiet_step ((intro _; rfl))
    go_big_quiet_step ((intro _; rfl))
    refine class_load (by rfl) 24 (.tmp 8) (by rfl) w3.heap.size (by rfl) 24 R (0, 0) _ (fun V hV => HBX.out V (NK4.out V hV)) Tryd.underlying24 rfl HRS.out ?_
    simp only [Act.put, List.setIfInBounds_toArray, List.set_cons_zero, List.set_cons_succ]
    go_big_quiet_step ((intro _; rfl))
    go_big_quiet_step ((intro _; rfl))
    go_big_quiet_step ((intro _; rfl))
    go_big_quiet_step ((intro _; rfl))
    go_big_quiet_step ((intro _; rfl))
    go_big_quiet_step ((intro _; rfl))
    refine class_cell (by rfl) 22 (.tmp 101) (by rfl) (a.add i) (by rfl) _ _ (fun V hV => HCL.out V (NKW.out V hV)) Tryd.underlying22 rfl ?_
    simp only [Act.put, List.setIfInBounds_toArray, List.set_cons_zero, List.set_cons_succ]
    go_big_quiet_step ((intro _; rfl))
    go_big_quiet_step ((intro _; rfl))
    go_big_quiet_step ((intro _; rfl))
    go_big_quiet_step ((intro _; rfl))
    go_big_quiet_step ((intro _; rfl))
    go_big_quiet_want
    go_big_quiet_op
    refine ⟨(.int .i64 20), fun V hV => (VER9.out V (NK5.out V hV)).mono fun e w' h => ⟨h.1, ⟨hV.out.trans h.2⟩⟩, ?_⟩
    go_big_quiet_on
    go_big_quiet_step ((intro _; rfl))
    go_big_quiet_step ((intro _; rfl))
    go_big_quiet_step ((intro _; rfl))
    refine wpQuiet_nil ?_
    intro w10 k10
    go_wp2
    go_ret
    exact ⟨rfl, keeps_below3 (NKW.out w10 k10)⟩
set_option maxRecDepth 100000 in
set_option maxHeartbeats 1000000 in
theorem paths_long (A : Option Addr) (c : Nat) (x : Int) (W : World) (m : Nat) (HAW : Hid (Calls Tryd.prog 20 #[] W fun e w' => e = .returned (.bool true) ∧ Keeps (fun _ => False) W w')) (HFEW : Hid (∀ V, Keeps (fun _ => False) W V → Calls Tryd.prog 21 #[.slice A m c] V fun e w' => e = .returned (.bool false) ∧ w' = V)) :
    Calls Tryd.prog 6 #[.slice A m c, .int .u8 x] W fun e W' => e = .returned (.bool true) ∧ Below W.heap.size W W' := by
  go_enter Tryd.func6, Tryd.ntmps6
  go_wp2_with fail
  refine HAW.out.mono ?_
  rintro e1 w1 ⟨rfl, k1⟩
  go_wp2_with fail
  refine (HFEW.out w1 k1).mono ?_
  rintro e2 w2 ⟨rfl, rfl⟩
  go_wp2
  go_ret
  exact ⟨rfl, keeps_below3 k1⟩
set_option maxRecDepth 100000 in
set_option maxHeartbeats 1000000 in
theorem paths_zero (A : Option Addr) (c : Nat) (x : Int) (W : World) (HAW : Hid (Calls Tryd.prog 20 #[] W fun e w' => e = .returned (.bool true) ∧ Keeps (fun _ => False) W w')) (HFEW : Hid (∀ V, Keeps (fun _ => False) W V → Calls Tryd.prog 21 #[.slice A 0 c] V fun e w' => e = .returned (.bool true) ∧ w' = V)) :
    Calls Tryd.prog 6 #[.slice A 0 c, .int .u8 x] W fun e W' => e = .returned (.bool true) ∧ Below W.heap.size W W' := by
  go_enter Tryd.func6, Tryd.ntmps6
  go_wp2_with fail
  refine HAW.out.mono ?_
  rintro e1 w1 ⟨rfl, k1⟩
  go_wp2_with fail
  refine (HFEW.out w1 k1).mono ?_
  rintro e2 w2 ⟨rfl, rfl⟩
  go_wp2
  go_ret
  exact ⟨rfl, keeps_below3 k1⟩
theorem paths_walk (A : Option Addr) (len c : Nat) (rs : List RowOf) (x : Int) (W : World) (hT : Tabs W) (h0 : IsRows W A len c rs) (h1 : (Lit.int .u8 x).wf = true) :
    Calls Tryd.prog 6 #[.slice A len c, .int .u8 x] W fun e W' => e = .returned (.bool true) ∧ Below W.heap.size W W' := by
  have bn := bounds_u8 h1
  obtain ⟨rfl, hc, hmax, hR⟩ := h0
  have HAW := Lib.hid (awake3_any W hT)
  have hfew : ∀ V, Keeps (fun _ => False) W V → Calls Tryd.prog 21 #[.slice A rs.length c] V fun e w' => e = .returned (.bool (fewB rs)) ∧ w' = V := fun V hk => few_any A c rs V (hR.keeps hk (fun _ _ => id)) (by omega)
  cases hq : fewB rs with
  | false => rw [hq] at hfew; exact paths_long A c _ W _ HAW (Lib.hid hfew)
  | true =>
    rw [hq] at hfew
    obtain ⟨h20, hlen⟩ := few_short hq
    rcases Nat.lt_or_ge rs.length 1 with h3 | h3
    · obtain rfl : rs = [] := List.eq_nil_of_length_eq_zero (by omega)
      exact paths_zero A c x W HAW (Lib.hid hfew)
    · obtain ⟨a, rfl, _⟩ := hR.cell 0 rs[0] (by simp)
      exact paths_in a c rs x W hT hR h3 h20 hc hmax hlen bn.1 bn.2 (Lib.hid hfew)
end Go.Proofs.YtfdhnlpialcklaaDoor
