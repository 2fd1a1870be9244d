/-
  The root of entries (tree.Root).
-/
import Derived.Test.YtnnhbgaeohdojaaDoorTrB
import Derived.Test.YtnnhbgaeohdojaaDoorShaN
import Derived.Test.YtnnhbgaeohdojaaDoorWalkR
import Derived.DataElems
namespace Go.Proofs.YtnnhbgaeohdojaaDoor
open Go.RowKit Go.BigFrame
set_option linter.unusedVariables false

/-- The entries of rows. -/
def ents (rs : List RowOf) : List (List UInt8) := rs.map fun r => r.2.2
theorem ents_length (rs : List RowOf) : (ents rs).length = rs.length := by simp [ents]
theorem RowsAt.take {w : World} {a : Option Addr} {rs : List RowOf} (h : RowsAt w a rs) (k : Nat) : RowsAt w a (rs.take k) := by
  refine ⟨fun i r hr => ?_, fun r hr => h.src r (List.mem_of_mem_take hr), fun r hr => h.cap r (List.mem_of_mem_take hr)⟩
  rw [List.getElem?_take] at hr
  split at hr
  · exact h.cell i r hr
  · cases hr
theorem RowsAt.drop {w : World} {a : Addr} {rs : List RowOf} (h : RowsAt w (some a) rs) (k : Nat) : RowsAt w (some (a.add k)) (rs.drop k) := by
  refine ⟨fun i r hr => ?_, fun r hr => h.src r (List.mem_of_mem_drop hr), fun r hr => h.cap r (List.mem_of_mem_drop hr)⟩
  rw [List.getElem?_drop] at hr
  obtain ⟨ad, e, hc⟩ := h.cell (k + i) r hr
  injection e with e
  subst e
  exact ⟨_, rfl, by rw [Addr.add_add]; exact hc⟩
/-- The closure that walks the parts, in its variable. -/
def partFn (B : Nat) : Value := .func (.func 46) #[] #[.pointer (some ⟨B, 0, none⟩)]
set_option maxRecDepth 100000 in
set_option maxHeartbeats 1000000 in
theorem part_any : ∀ (f : Nat) (a : Addr) (c : Nat) (rs : List RowOf) (B : Nat) (w : World), Tabs w → RowsAt w (some a) rs → rs.length ≤ f → 1 ≤ rs.length → rs.length ≤ c → c ≤ 9223372036854775807 → (∀ r ∈ rs, r.2.2.length ≤ 1000) → Row w B 35 [partFn B] →
    Calls Tryd.prog 46 #[.slice (some a) rs.length c, .pointer (some ⟨B, 0, none⟩)] w fun e w' => e = .returned (.agg (bvs (Tr.root (ents rs))).toArray) ∧ Keeps (fun _ => False) w w' := by
  intro f
  induction f with
  | zero => intro a c rs B w _ _ h0 h1; omega
  | succ f ih =>
    intro a c rs B w hT hR hf h1 hc hmax hlen hB
    obtain ⟨Z, hZ⟩ : ∃ Z : Array Value, (bvs (List.replicate 32 0)).toArray = Z := ⟨_, rfl⟩
    have hz : ∀ w : World, (zeroValue 34).run Tryd.prog w = .ok (.agg Z) w := fun _ => by subst hZ; kernel_rfl
    have hzs : Z.size = 32 := by subst hZ; rfl
    have HZS := Lib.hid hzs
    clear hZ hzs
    by_cases hone : rs.length = 1
    · obtain ⟨r, rfl⟩ : ∃ r, rs = [r] := by
        match rs, hone with
        | [r], _ => exact ⟨r, rfl⟩
      obtain ⟨A, cA, xs⟩ := r
      obtain ⟨ad, e, hcell⟩ := hR.cell 0 _ rfl
      injection e with e
      subst e
      have hsrc := hR.src _ (List.mem_singleton.2 rfl)
      have hcap := hR.cap _ (List.mem_singleton.2 rfl)
      have hx := hlen _ (List.mem_singleton.2 rfl)
      simp only at hcell hsrc hcap hx
      obtain ⟨W1, hW1⟩ : ∃ W, w.alloc (.cells Z 34) = W := ⟨_, rfl⟩
      have k1 : Keeps (fun _ => False) w W1 := by rw [← hW1]; exact (Keeps.refl _ _).alloc _
      have r1 : Row W1 w.heap.size 34 Z.toList := by rw [← hW1]; exact heap_alloc_new w _
      have hcell1 : W1.cell? a = some (.slice A xs.length cA) := by
        have := (k1.cell (World.block_lt_of_cell? w _ hcell) id).trans hcell
        simpa [Addr.add] using this
      have hleaf := leaf_any A cA xs W1 (hT.keeps k1 id id) (hsrc.keeps k1 (fun _ _ _ => id)) hcap.1 hcap.2 (by omega)
      have HL := Lib.hid hleaf
      have RR := Lib.hid r1
      have hroot : Tr.root (ents [(A, cA, xs)]) = Sh.sha (0 :: xs) := Tr.root_one xs
      rw [hroot]
      clear hleaf r1 hsrc hcap hx hT hR hroot ih hB hlen hcell
      go_enter Tryd.func46, Tryd.ntmps46
      go_wp2_with fail
      refine HL.out.mono ?_
      rintro e w4 ⟨rfl, k4⟩
      obtain ⟨R, hR⟩ : ∃ R, (bvs (Sh.sha (0 :: xs))).toArray = R := ⟨_, rfl⟩
      have hsz : (Tryd.prog.info? 34).map (·.size) = some R.size := by rw [← hR, List.size_toArray, bvs_length, Sh.sha_length]; exact size_hash'
      have hzr : Z.size = R.size := by rw [← hR]; exact HZS.out.trans (by rw [List.size_toArray, bvs_length, Sh.sha_length])
      have hone : R.all (·.oneCell') = true := by rw [← hR]; exact bvs_all _
      rw [hR]
      have HSZ := Lib.hid hsz
      have HZR := Lib.hid hzr
      have HONE := Lib.hid hone
      have HRR := Lib.hid hR
      have HO3 : Hid (w4.heap[w.heap.size]? = some (.cells Z 34 (0, 0))) := RR.out.keeps k4 id
      clear hsz hzr hone hR RR HL
      go_wp2_with (refine wpList_store_row rfl 34 _ _ rfl w.heap.size R rfl rfl 34 Z HO3.out HSZ.out HZR.out HONE.out ?_)
      refine bodyPost_ret (results_cell_row rfl _ _ w.heap.size 34 R (0, 0) _ rfl (setRow_heap _ _ _ _ _ _ HO3.out) Tryd.underlying34 rfl HSZ.out) rfl ?_
      exact ⟨by rw [HRR.out], (k1.trans k4).trans' (Keeps.setRow w.heap.size R) (fun i hi h => by omega)⟩
    · have h2 : 2 ≤ rs.length := by omega
      have hn := Tr.root_more (ents rs) (by rw [ents_length]; exact h2)
      have a1 := Tr.split_pos h2
      have a2 := Tr.split_lt h2
      rw [ents_length] at hn
      have hsp := fun W => split_any rs.length W (by omega)
      obtain ⟨k, hk⟩ : ∃ k, Tr.split rs.length = k := ⟨_, rfl⟩
      rw [hk] at hn a1 a2 hsp
      obtain ⟨W1, hW1⟩ : ∃ W, w.alloc (.cells Z 34) = W := ⟨_, rfl⟩
      have k1 : Keeps (fun _ => False) w W1 := by rw [← hW1]; exact (Keeps.refl _ _).alloc _
      have r1 : Row W1 w.heap.size 34 Z.toList := by rw [← hW1]; exact heap_alloc_new w _
      have e1 : (ents rs).take k = ents (rs.take k) := by simp [ents, List.map_take]
      have e2 : (ents rs).drop k = ents (rs.drop k) := by simp [ents, List.map_drop]
      rw [e1, e2] at hn
      have l1 : (rs.take k).length = k := by rw [List.length_take]; omega
      have l2 : (rs.drop k).length = rs.length - k := List.length_drop
      have c1 : ∀ V, Later W1 V → Calls Tryd.prog 46 #[.slice (some a) k c, .pointer (some ⟨B, 0, none⟩)] V fun e w' => e = .returned (.agg (bvs (Tr.root (ents (rs.take k)))).toArray) ∧ Later W1 w' := fun V hV => by
        have h := ih a c (rs.take k) B V ((hT.keeps k1 id id).keeps hV.out id id) ((hR.take k).keeps (k1.trans hV.out) (fun _ _ => id)) (by omega) (by omega) (by omega) hmax (fun r hr => hlen r (List.mem_of_mem_take hr)) (hB.keeps (k1.trans hV.out) id)
        rw [l1] at h
        exact h.mono fun e w' hh => ⟨hh.1, ⟨hV.out.trans hh.2⟩⟩
      have c2 : ∀ V, Later W1 V → Calls Tryd.prog 46 #[.slice (some (a.add k)) (rs.length - k) (c - k), .pointer (some ⟨B, 0, none⟩)] V fun e w' => e = .returned (.agg (bvs (Tr.root (ents (rs.drop k)))).toArray) ∧ Later W1 w' := fun V hV => by
        have h := ih (a.add k) (c - k) (rs.drop k) B V ((hT.keeps k1 id id).keeps hV.out id id) ((hR.drop k).keeps (k1.trans hV.out) (fun _ _ => id)) (by omega) (by omega) (by omega) (by omega) (fun r hr => hlen r (List.mem_of_mem_drop hr)) (hB.keeps (k1.trans hV.out) id)
        rw [l2] at h
        exact h.mono fun e w' hh => ⟨hh.1, ⟨hV.out.trans hh.2⟩⟩
      obtain ⟨L1, hL1⟩ : ∃ L, Tr.root (ents (rs.take k)) = L := ⟨_, rfl⟩
      obtain ⟨L2, hL2⟩ : ∃ L, Tr.root (ents (rs.drop k)) = L := ⟨_, rfl⟩
      have z1 : L1.length = 32 := by rw [← hL1]; exact Tr.root_length _
      have z2 : L2.length = 32 := by rw [← hL2]; exact Tr.root_length _
      rw [hL1] at c1 hn
      rw [hL2] at c2 hn
      have c3 : ∀ V, Later W1 V → Calls Tryd.prog 42 #[.agg (bvs L1).toArray, .agg (bvs L2).toArray] V fun e w' => e = .returned (.agg (bvs (Tr.node L1 L2)).toArray) ∧ Later W1 w' := fun V hV =>
        (node_any L1 L2 V ((hT.keeps k1 id id).keeps hV.out id id) z1 z2).mono fun e w' hh => ⟨hh.1, ⟨hV.out.trans hh.2⟩⟩
      have hv : ∀ V, Later W1 V → V.cell? ⟨B, 0, none⟩ = some (.func (.func 46) #[] #[.pointer (some ⟨B, 0, none⟩)]) := fun V hV => by
        have h : Row V B 35 [partFn B] := hB.keeps (k1.trans hV.out) id
        rw [h.cell]; rfl
      obtain ⟨R, hR'⟩ : ∃ R, (bvs (Tr.node L1 L2)).toArray = R := ⟨_, rfl⟩
      have hsz : (Tryd.prog.info? 34).map (·.size) = some R.size := by rw [← hR', List.size_toArray, bvs_length, Tr.node_length]; exact size_hash'
      have hzr : Z.size = R.size := by rw [← hR']; exact HZS.out.trans (by rw [List.size_toArray, bvs_length, Tr.node_length])
      have hone' : R.all (·.oneCell') = true := by rw [← hR']; exact bvs_all _
      rw [hn]
      rw [hR'] at c3
      rw [hR']
      obtain ⟨n, hnn⟩ : ∃ n, rs.length = n := ⟨_, rfl⟩
      rw [hnn] at c2 hsp h2 hc a2 hone ⊢
      have hs1 : (k : Int) ≤ n := by omega
      have hs2 : (k : Int) ≤ c := by omega
      have hs3 : (n : Int) ≤ c := by omega
      have hs4 : ¬ c = k := by omega
      have C1 := Lib.hid c1
      have C2 := Lib.hid c2
      have C3 := Lib.hid c3
      have HV := Lib.hid hv
      have HSP := Lib.hid hsp
      have HSZ := Lib.hid hsz
      have HZR := Lib.hid hzr
      have HONE := Lib.hid hone'
      have RR := Lib.hid r1
      clear c1 c2 c3 hv hsp hsz hzr hone' r1 hR' z1 z2 hL1 hL2 l1 l2 e1 e2 hn hk ih hT hR hB hlen hnn hf
      go_enter Tryd.func46, Tryd.ntmps46
      go_wp2_with (go_at_call 19; refine (HSP.out _).mono ?_; rintro e w' ⟨rfl, rfl⟩)
      refine wp_region_phase 11 (Later _) (by kernel_rfl) (by kernel_rfl) ⟨(Keeps.refl _ _).drew⟩ ?_
      simp only [List.take_succ_cons, List.take_zero, List.drop_succ_cons, List.drop_zero]
      refine class_cell (by rfl) 35 (.tmp 1) (by rfl) ⟨B, 0, none⟩ (by rfl) _ _ HV.out Tryd.underlying35 rfl ?_
      simp only [Act.put, List.setIfInBounds_toArray, List.set_cons_zero, List.set_cons_succ]
      go_big_quiet_step ((intro _; rfl))
      go_big_quiet_step ((intro _; rfl))
      go_big_quiet_step ((intro _; rfl))
      go_big_quiet_want
      go_big_quiet_op
      refine ⟨.agg (bvs L1).toArray, fun V hV => C1.out V hV, ?_⟩
      go_big_quiet_on
      refine class_cell (by rfl) 35 (.tmp 1) (by rfl) ⟨B, 0, none⟩ (by rfl) _ _ HV.out Tryd.underlying35 rfl ?_
      simp only [Act.put, List.setIfInBounds_toArray, List.set_cons_zero, List.set_cons_succ]
      go_big_quiet_step ((intro _; rfl))
      go_big_quiet_step ((intro _; rfl))
      go_big_quiet_step ((intro _; rfl))
      go_big_quiet_want
      go_big_quiet_op
      refine ⟨.agg (bvs L2).toArray, fun V hV => C2.out V hV, ?_⟩
      go_big_quiet_on
      go_big_quiet_want
      go_big_quiet_op
      refine ⟨.agg R, fun V hV => C3.out V hV, ?_⟩
      go_big_quiet_on
      refine wpQuiet_nil ?_
      intro w6 k6
      have HO3 : Hid (w6.heap[w.heap.size]? = some (.cells Z 34 (0, 0))) := RR.out.keeps k6.out id
      go_wp2_with (refine wpList_store_row rfl 34 _ _ rfl w.heap.size R rfl rfl 34 Z HO3.out HSZ.out HZR.out HONE.out ?_)
      refine bodyPost_ret (results_cell_row rfl _ _ w.heap.size 34 R (0, 0) _ rfl (setRow_heap _ _ _ _ _ _ HO3.out) Tryd.underlying34 rfl HSZ.out) rfl ?_
      exact ⟨rfl, (k1.trans k6.out).trans' (Keeps.setRow w.heap.size R) (fun i hi h => by omega)⟩
set_option maxRecDepth 100000 in
set_option maxHeartbeats 1000000 in
theorem root_none (A : Option Addr) (c : Nat) (w : World) (hT : Tabs w) :
    Calls Tryd.prog 16 #[.slice A 0 c] w fun e w' => e = .returned (.agg (bvs (Tr.root [])).toArray) ∧ Keeps (fun _ => False) w w' := by
  obtain ⟨Z, hZ⟩ : ∃ Z : Array Value, (bvs (List.replicate 32 0)).toArray = Z := ⟨_, rfl⟩
  have hz : ∀ w : World, (zeroValue 34).run Tryd.prog w = .ok (.agg Z) w := fun _ => by subst hZ; kernel_rfl
  have hzs : Z.size = 32 := by subst hZ; rfl
  clear hZ
  obtain ⟨W1, hW1⟩ : ∃ W, w.alloc (.cells Z 34) = W := ⟨_, rfl⟩
  have k1 : Keeps (fun _ => False) w W1 := by rw [← hW1]; exact (Keeps.refl _ _).alloc _
  have r1 : Row W1 w.heap.size 34 Z.toList := by rw [← hW1]; exact heap_alloc_new w _
  have hof := of_any none 0 [] W1 (hT.keeps k1 id id) (RowsAt.nil _ _) (by simp) (by simp [bytesOf])
  have e1 : bytesOf [] = [] := rfl
  rw [e1] at hof
  obtain ⟨R, hR⟩ : ∃ R, (bvs (Sh.sha [])).toArray = R := ⟨_, rfl⟩
  have hsz : (Tryd.prog.info? 34).map (·.size) = some R.size := by rw [← hR, List.size_toArray, bvs_length, Sh.sha_length]; exact size_hash'
  have hzr : Z.size = R.size := by rw [← hR, hzs, List.size_toArray, bvs_length, Sh.sha_length]
  have hone : R.all (·.oneCell') = true := by rw [← hR]; exact bvs_all _
  have hroot : Tr.root [] = Sh.sha [] := Tr.root_nil
  rw [hroot, hR]
  rw [hR] at hof
  have HOF : Hid (Calls Tryd.prog 40 #[.slice none 0 0] W1 fun e w' => e = .returned (.agg R) ∧ Keeps (fun _ => False) W1 w') := hof
  have HSZ := Lib.hid hsz
  have HZR := Lib.hid hzr
  have HONE := Lib.hid hone
  have RR := Lib.hid r1
  clear hof e1 hsz hzr hone hR hroot hT r1 hzs
  go_enter Tryd.func16, Tryd.ntmps16
  go_wp2_with fail
  refine HOF.out.mono ?_
  rintro e w4 ⟨rfl, k4⟩
  have HO3 : Hid (w4.heap[w.heap.size]? = some (.cells Z 34 (0, 0))) := RR.out.keeps k4 id
  clear RR HOF
  go_wp2_with (refine wpList_store_row rfl 34 _ _ rfl w.heap.size R rfl rfl 34 Z HO3.out HSZ.out HZR.out HONE.out ?_)
  refine bodyPost_ret (results_cell_row rfl _ _ w.heap.size 34 R (0, 0) _ rfl (setRow_heap _ _ _ _ _ _ HO3.out) Tryd.underlying34 rfl HSZ.out) rfl ?_
  exact ⟨rfl, (k1.trans k4).trans' (Keeps.setRow w.heap.size R) (fun i hi h => by omega)⟩
set_option maxRecDepth 100000 in
set_option maxHeartbeats 1000000 in
theorem root_some (a : Addr) (c : Nat) (rs : List RowOf) (w : World) (hT : Tabs w) (hR : RowsAt w (some a) rs) (h1 : 1 ≤ rs.length) (hc : rs.length ≤ c) (hmax : c ≤ 9223372036854775807) (hlen : ∀ r ∈ rs, r.2.2.length ≤ 1000) :
    Calls Tryd.prog 16 #[.slice (some a) rs.length c] w fun e w' => e = .returned (.agg (bvs (Tr.root (ents rs))).toArray) ∧ Keeps (fun _ => False) w w' := by
  obtain ⟨Z, hZ⟩ : ∃ Z : Array Value, (bvs (List.replicate 32 0)).toArray = Z := ⟨_, rfl⟩
  have hz : ∀ w : World, (zeroValue 34).run Tryd.prog w = .ok (.agg Z) w := fun _ => by subst hZ; kernel_rfl
  have hzs : Z.size = 32 := by subst hZ; rfl
  clear hZ
  obtain ⟨W1, hW1⟩ : ∃ W, w.alloc (.cells Z 34) = W := ⟨_, rfl⟩
  have k1 : Keeps (fun _ => False) w W1 := by rw [← hW1]; exact (Keeps.refl _ _).alloc _
  have r1 : Row W1 w.heap.size 34 Z.toList := by rw [← hW1]; exact heap_alloc_new w _
  obtain ⟨L, hL⟩ : ∃ L, Tr.root (ents rs) = L := ⟨_, rfl⟩
  have hLl : L.length = 32 := by rw [← hL]; exact Tr.root_length _
  obtain ⟨R, hRR⟩ : ∃ R, (bvs L).toArray = R := ⟨_, rfl⟩
  have hsz : (Tryd.prog.info? 34).map (·.size) = some R.size := by rw [← hRR, List.size_toArray, bvs_length, hLl]; exact size_hash'
  have hzr : Z.size = R.size := by rw [← hRR, hzs, List.size_toArray, bvs_length, hLl]
  have hone : R.all (·.oneCell') = true := by rw [← hRR]; exact bvs_all _
  have hb1 : w.heap.size < W1.heap.size := by rw [← hW1]; simp
  have hcall : ∀ V, Keeps (fun k => k = W1.heap.size) W1 V → Row V W1.heap.size 35 [partFn W1.heap.size] → Calls Tryd.prog 46 #[.slice (some a) rs.length c, .pointer (some ⟨W1.heap.size, 0, none⟩)] V fun e w' => e = .returned (.agg R) ∧ Keeps (fun _ => False) V w' := fun V hk hv => by
    have hkk : Keeps (fun k => k = W1.heap.size) w V := (k1.mono (fun _ _ h => h.elim)).trans hk
    have := part_any rs.length a c rs W1.heap.size V (hT.keeps hkk (by have := hT.lt; omega) (by have := hT.lt; omega)) (hR.keeps hkk (fun k hk => by omega)) (Nat.le_refl _) h1 hc hmax hlen hv
    rw [hL, hRR] at this
    exact this
  rw [hL, hRR]
  have HSZ := Lib.hid hsz
  have HZR := Lib.hid hzr
  have HONE := Lib.hid hone
  have RR := Lib.hid r1
  have HC := Lib.hid hcall
  obtain ⟨n, hn⟩ : ∃ n, rs.length = n := ⟨_, rfl⟩
  rw [hn] at HC h1 hc ⊢
  have h1' : (1 : Int) ≤ n := by omega
  obtain ⟨F, hF⟩ : ∃ F, F = partFn W1.heap.size := ⟨_, rfl⟩
  have hF2 : partFn W1.heap.size = .func (.func 46) #[] #[.pointer (some ⟨W1.heap.size, 0, none⟩)] := rfl
  obtain ⟨W2, hW2⟩ : ∃ W, W1.alloc (.cells #[.nilFunc] 35) = W := ⟨_, rfl⟩
  have r2 : Row W2 W1.heap.size 35 [.nilFunc] := by rw [← hW2]; exact heap_alloc_new W1 _
  have k2 : Keeps (fun k => k = W1.heap.size) W1 W2 := by rw [← hW2]; exact (Keeps.refl _ _).alloc _
  have hc2 : W2.cell? ⟨W1.heap.size, 0, none⟩ = some .nilFunc := r2.cell 0
  have hf2 : W2.frozen? ⟨W1.heap.size, 0, none⟩ = false := r2.frozen 0
  have r3 : Row (W2.setCell ⟨W1.heap.size, 0, none⟩ (.func (.func 46) #[] #[.pointer (some ⟨W1.heap.size, 0, none⟩)])) W1.heap.size 35 [partFn W1.heap.size] := r2.set 0 _
  have k3 : Keeps (fun k => k = W1.heap.size) W1 (W2.setCell ⟨W1.heap.size, 0, none⟩ (.func (.func 46) #[] #[.pointer (some ⟨W1.heap.size, 0, none⟩)])) := k2.setCell (fun _ => rfl) _
  have C := Lib.hid (HC.out _ k3 r3)
  have kk : Keeps (fun _ => False) w (W2.setCell ⟨W1.heap.size, 0, none⟩ (.func (.func 46) #[] #[.pointer (some ⟨W1.heap.size, 0, none⟩)])) := k1.trans' k3 (fun i hi h => by omega)
  have O3 : Hid ((W2.setCell ⟨W1.heap.size, 0, none⟩ (.func (.func 46) #[] #[.pointer (some ⟨W1.heap.size, 0, none⟩)])).heap[w.heap.size]? = some (.cells Z 34 (0, 0))) := RR.out.keeps k3 (by omega)
  have hc3 : (W2.setCell ⟨W1.heap.size, 0, none⟩ (.func (.func 46) #[] #[.pointer (some ⟨W1.heap.size, 0, none⟩)])).cell? ⟨W1.heap.size, 0, none⟩ = some (.func (.func 46) #[] #[.pointer (some ⟨W1.heap.size, 0, none⟩)]) := r3.cell 0
  have hst : (store ⟨W1.heap.size, 0, none⟩ (.func (.func 46) #[] #[.pointer (some ⟨W1.heap.size, 0, none⟩)])).run Tryd.prog W2 = .ok () (W2.setCell ⟨W1.heap.size, 0, none⟩ (.func (.func 46) #[] #[.pointer (some ⟨W1.heap.size, 0, none⟩)])) := by
    rw [run_store _ _ _ _ _ rfl, hc2]
    simp [hf2]
  have K3 := Lib.hid kk
  clear hc2 hf2
  clear hcall hsz hzr hone hRR hT r1 hzs hR hlen hL hLl hn HC r2 k2 r3 k3 kk k1 hF hF2 RR
  go_enter Tryd.func16, Tryd.ntmps16
  go_wp2_with fail
  refine C.out.mono ?_
  rintro e w4 ⟨rfl, k4⟩
  have HO3 : Hid (w4.heap[w.heap.size]? = some (.cells Z 34 (0, 0))) := (k4.block _ (Array.getElem?_eq_some_iff.1 O3.out).1 id).trans O3.out
  have K4 := Lib.hid (K3.out.trans k4)
  clear C hc3 O3 K3 k4
  go_wp2_with (refine wpList_store_row rfl 34 _ _ rfl w.heap.size R rfl rfl 34 Z HO3.out HSZ.out HZR.out HONE.out ?_)
  refine bodyPost_ret (results_cell_row rfl _ _ w.heap.size 34 R (0, 0) _ rfl (setRow_heap _ _ _ _ _ _ HO3.out) Tryd.underlying34 rfl HSZ.out) rfl ?_
  exact ⟨rfl, K4.out.trans' (Keeps.setRow w.heap.size R) (fun i hi h => by omega)⟩
theorem root_any (A : Option Addr) (c : Nat) (rs : List RowOf) (w : World) (hT : Tabs w) (hR : RowsAt w A rs) (hc : rs.length ≤ c) (hmax : c ≤ 9223372036854775807) (hlen : ∀ r ∈ rs, r.2.2.length ≤ 1000) :
    Calls Tryd.prog 16 #[.slice A rs.length c] w fun e w' => e = .returned (.agg (bvs (Tr.root (ents rs))).toArray) ∧ Keeps (fun _ => False) w w' := by
  cases rs with
  | nil => exact root_none A c w hT
  | cons r rs =>
    obtain ⟨a, rfl, _⟩ := hR.cell 0 r rfl
    exact root_some a c (r :: rs) w hT hR (by simp) hc hmax hlen
end Go.Proofs.YtnnhbgaeohdojaaDoor
