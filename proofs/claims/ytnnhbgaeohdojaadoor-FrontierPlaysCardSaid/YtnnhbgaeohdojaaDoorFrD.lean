/-
  Whole parts: their root (Root of package frontier), gathered from the back by the library's iterator. WRITTEN BY wip/gen/mkfrd.py.
-/
import Derived.Test.YtnnhbgaeohdojaaDoorFrC
import Derived.Test.YtnnhbgaeohdojaaDoorChE
import Derived.Test.YtnnhbgaeohdojaaDoorFrN
namespace Go.Proofs.YtnnhbgaeohdojaaDoor
open Go.RowKit Go.BigFrame
set_option linter.unusedVariables false
attribute [local go_sem] Oper.semAt_some

theorem own_top {w : World} {base size n : Nat} {e : TypeId} {v : Value} {xs : List Value} (h : w.ownsRow base e size v n xs) (hn : 0 < n) : ∃ g c, v = .slice (some ⟨g, 0, none⟩) n c := by
  rcases h.2 with ⟨_, h0⟩ | ⟨g, cap, cur, rfl, _⟩
  · omega
  · exact ⟨g, cap, rfl⟩
def itFold (r : List UInt8) (pre : List It) : List UInt8 := pre.foldl (fun h x => Tr.node x.2.1 h) r
theorem itFold_snoc (r : List UInt8) (pre : List It) (x : It) : itFold r (pre ++ [x]) = Tr.node x.2.1 (itFold r pre) := by simp [itFold]
theorem itFold_length (r : List UInt8) (hr : r.length = 32) : ∀ pre : List It, (itFold r pre).length = 32 := by
  intro pre
  unfold itFold
  induction pre generalizing r with
  | nil => exact hr
  | cons x pre ih => exact ih _ (Tr.node_length _ _)
theorem upto_map (qs : List HX) : (upto qs qs.length).map (fun x => x.2.1) = (qs.map (fun x => x.1)).reverse := by
  apply List.ext_getElem
  · simp [upto]
  · intro i h1 h2
    simp [upto] at h1
    simp [upto, item, List.getElem_reverse, List.getD, List.getElem?_eq_getElem (show qs.length - 1 - i < qs.length by omega)]
theorem itFold_all (r : List UInt8) (qs : List HX) : itFold r (upto qs qs.length) = Tr.peakRoot (qs.map (fun x => x.1) ++ [r]) := by
  unfold Tr.peakRoot itFold
  rw [List.reverse_append]
  show _ = (qs.map (fun x => x.1)).reverse.foldl (fun h p => Tr.node p h) r
  rw [← upto_map, List.foldl_map]
theorem kf_keeps {S : Nat → Prop} {B : Nat} {V V' : World} (h : Keeps S V V') (hs : ∀ k, B ≤ k → ¬ S k) : KeepsFrom B V V' := ⟨h.size, fun k o hB hk _ => (h.block k (Array.getElem?_eq_some_iff.1 hk).1 (hs k hB)).trans hk⟩
def withLen : (l : List (List UInt8)) → (∀ p ∈ l, p.length = 32) → List HX
  | [], _ => []
  | p :: l, h => ⟨p, h p (by simp)⟩ :: withLen l (fun q hq => h q (List.mem_cons_of_mem _ hq))
theorem withLen_map : ∀ (l : List (List UInt8)) (h : ∀ p ∈ l, p.length = 32), (withLen l h).map (fun x => x.1) = l
  | [], _ => rfl
  | p :: l, h => by simp [withLen, withLen_map l]
theorem sha_none (c : Nat) (w : World) (hT : Tabs w) : Calls Tryd.prog 40 #[.slice none 0 c] w fun e w' => e = .returned (.agg (bvs (Sh.sha [])).toArray) ∧ Keeps (fun _ => False) w w' :=
  of_any none c [] w hT ⟨fun i x h => (by simp at h), fun r hr => (by cases hr), fun r hr => (by cases hr)⟩ (by simp) (by simp [bytesOf])
theorem froot_first (p : Option Addr) (w : World) (hT : Tabs w) (hs : ∀ V, Keeps (fun _ => False) w V → Calls Tryd.prog 33 #[.pointer p] V fun e w' => e = .returned (.int .u64 0) ∧ w' = V) :
    Calls Tryd.prog 36 #[.pointer p] w fun e w' => e = .returned (.agg (bvs (Sh.sha [])).toArray) ∧ Keeps (fun _ => False) w w' := by
  obtain ⟨Z, hZ, hz, hzs⟩ := zero_hash
  have hof := fun V (hV : Keeps (fun _ => False) w V) => sha_none 0 V (hT.keeps hV id id)
  obtain ⟨s1, z1, o1⟩ := arr_hash (Sh.sha []) rfl
  obtain ⟨R, hR⟩ : ∃ R, (bvs (Sh.sha [])).toArray = R := ⟨_, rfl⟩
  rw [hR] at hof s1 z1 o1 ⊢
  obtain ⟨W1, hW1⟩ : ∃ V, w.alloc (.cells Z 34) = V := ⟨_, rfl⟩
  have k1 : Keeps (fun _ => False) w W1 := by rw [← hW1]; exact (Keeps.refl _ _).alloc _
  have r2 : W1.heap[w.heap.size]? = some (.cells Z 34 (0, 0)) := by rw [← hW1]; exact heap_alloc_new w _
  have HOF := Lib.hid (hof W1 k1)
  have HSZ := Lib.hid (hs W1 k1)
  have S1 := Lib.hid s1
  have ZZ := Lib.hid (hzs.trans z1.symm)
  have O1 := Lib.hid o1
  have K1 := Lib.hid k1
  have R2 := Lib.hid r2
  clear hof hs s1 z1 o1 k1 r2 hR hZ hzs hT
  go_enter Tryd.func36, Tryd.ntmps36
  go_wp2_with fail
  refine HSZ.out.mono ?_
  rintro e w2 ⟨rfl, h2⟩
  obtain rfl : W1 = w2 := h2.symm
  go_wp2_with fail
  refine HOF.out.mono ?_
  rintro e w3 ⟨rfl, k3⟩
  have R3 := Lib.hid ((k3.block _ (Array.getElem?_eq_some_iff.1 R2.out).1 id).trans R2.out)
  have K3 := Lib.hid (K1.out.trans k3)
  clear k3
  go_wp2_with (refine wpList_store_row rfl 34 _ _ rfl w.heap.size R rfl rfl 34 Z R3.out S1.out ZZ.out O1.out ?_)
  refine bodyPost_ret (results_cell_row rfl _ _ w.heap.size 34 R (0, 0) _ rfl (setRow_heap _ _ _ _ _ _ R3.out) Tryd.underlying34 rfl S1.out) rfl ?_
  exact ⟨rfl, K3.out.trans' (Keeps.setRow w.heap.size R) (fun i hi h => by omega)⟩
set_option maxRecDepth 100000 in
set_option maxHeartbeats 4000000 in
theorem froot_more (base g sz : Nat) (ps : List (List UInt8)) (w : World) (hT : Tabs w) (hF : Fro w base g sz ps) (hsz : sz ≠ 0) (hsz1 : sz ≤ 18446744073709551615) (hn1 : 1 ≤ ps.length) (hn : ps.length ≤ 1000) :
    Calls Tryd.prog 36 #[.pointer (some ⟨g, 0, none⟩)] w fun e w' => e = .returned (.agg (bvs (Tr.peakRoot ps)).toArray) ∧ Keeps (fun _ => False) w w' := by
  obtain ⟨Z, hZ, hz, hzs⟩ := zero_hash
  obtain ⟨v, hrow, hown⟩ := hF.var
  obtain ⟨q, hq⟩ : ∃ q, ps.length = q + 1 := ⟨ps.length - 1, by omega⟩
  obtain ⟨gp, c6, rfl⟩ := own_top hown (by omega)
  have hpath := PathAt.of_own' hown hF.all
  obtain ⟨_, hnc, hcm⟩ := own_cap hown
  obtain ⟨r, hr⟩ : ∃ r, ps[q]? = some r := ⟨_, List.getElem?_eq_getElem (by omega)⟩
  obtain ⟨b1, o1, eb, hrg⟩ := hpath.lie q r hr
  injection eb with eb
  injection eb with eb1 eb2 _
  subst eb1
  subst eb2
  rw [Nat.zero_add] at hrg
  have hr32 : r.length = 32 := hF.all r (List.mem_of_getElem? hr)
  obtain ⟨qs, hqs⟩ : ∃ qs : List HX, qs.map (fun x => x.1) = ps.take q := ⟨withLen (ps.take q) (fun p hp => hF.all p (List.mem_of_mem_take hp)), withLen_map _ _⟩
  have hql : qs.length = q := by
    have := congrArg List.length hqs
    rw [List.length_map, List.length_take] at this
    omega
  have hps : ps = qs.map (fun x => x.1) ++ [r] := by
    rw [hqs]
    have := List.take_add_one (l := ps) (i := q)
    rw [hr, List.take_of_length_le (by omega)] at this
    exact this
  have hfin : itFold r (upto qs q) = Tr.peakRoot ps := by rw [← hql, itFold_all, ← hps]
  have hpq := hpath.take q
  rw [← hqs] at hpq
  rw [hq] at hrow hnc
  obtain ⟨b0, hb0⟩ : ∃ b, w.heap.size = b := ⟨_, rfl⟩
  obtain ⟨W1, hW1⟩ : ∃ V, w.alloc (.cells Z 34) = V := ⟨_, rfl⟩
  have k1 : Keeps (fun _ => False) w W1 := by rw [← hW1]; exact (Keeps.refl _ _).alloc _
  have z1 : W1.heap.size = b0 + 1 := by rw [← hW1, World.size_alloc, hb0]
  have r1 : W1.heap[b0]? = some (.cells Z 34 (0, 0)) := by rw [← hW1, ← hb0]; exact heap_alloc_new w _
  obtain ⟨W2, hW2⟩ : ∃ V, W1.alloc (.cells Z 34) = V := ⟨_, rfl⟩
  have k2 : Keeps (fun _ => False) W1 W2 := by rw [← hW2]; exact (Keeps.refl _ _).alloc _
  have z2 : W2.heap.size = b0 + 2 := by rw [← hW2, World.size_alloc, z1]
  have r2 : W2.heap[b0 + 1]? = some (.cells Z 34 (0, 0)) := by rw [← hW2, ← z1]; exact heap_alloc_new W1 _
  obtain ⟨a1, a2, a3⟩ := arr_hash r hr32
  have hR1 : (Tryd.prog.info? 34).map (·.size) = some (bvs r).length := by rw [bvs_length, hr32]; exact size_hash'
  obtain ⟨R, hR⟩ : ∃ R, bvs r = R := ⟨_, rfl⟩
  rw [hR] at hrg a1 a2 a3 hR1
  obtain ⟨W3, hW3⟩ : ∃ V, W2.setRow (b0 + 1) R.toArray = V := ⟨_, rfl⟩
  have k3 : Keeps (fun k => k = b0 + 1) W2 W3 := by rw [← hW3]; exact Keeps.setRow _ _
  have z3 : W3.heap.size = b0 + 2 := by rw [← hW3]; simp [World.setRow, z2]
  have r3 : W3.heap[b0 + 1]? = some (.cells R.toArray 34 (0, 0)) := by rw [← hW3]; exact setRow_heap _ _ _ _ _ _ r2
  have k03 : Keeps (fun _ => False) w W3 := (k1.trans k2).trans' k3 (fun i hi h => by omega)
  have r13 : W3.heap[b0]? = some (.cells Z 34 (0, 0)) := (k3.block b0 (by omega) (by omega)).trans ((k2.block b0 (by omega) id).trans r1)
  obtain ⟨W4, hW4⟩ : ∃ V, W3.alloc (.cells #[.slice (some ⟨gp, 0, none⟩) q c6] 28) = V := ⟨_, rfl⟩
  have k4 : Keeps (fun _ => False) W3 W4 := by rw [← hW4]; exact (Keeps.refl _ _).alloc _
  have z4 : W4.heap.size = b0 + 3 := by rw [← hW4, World.size_alloc, z3]
  have r4 : W4.heap[b0 + 2]? = some (.cells #[.slice (some ⟨gp, 0, none⟩) q c6] 28 (0, 0)) := by rw [← hW4, ← z3]; exact heap_alloc_new W3 _
  have r34 := (k4.block (b0 + 1) (by omega) id).trans r3
  have r14 := (k4.block b0 (by omega) id).trans r13
  have k04 : Keeps (fun _ => False) w W4 := k03.trans k4
  have hseq := back_stops (3 - 1) (b0 + 2) (some ⟨gp, 0, none⟩) c6 qs (b0 + 3) (b0 + 1) W4 z4 (by omega) (by omega) (by omega) (by rw [cell_of_row W4 (b0 + 2) 0 _ _ _ r4, hql]; rfl) w hpq k04 (by omega) (by omega)
  have hsize := size_any base g sz ps W1 (hF.later k1)
  have hbw := backw_any (some ⟨gp, 0, none⟩) q c6 W3
  rw [hW4, z3] at hbw
  have hc1 : W1.cell? ⟨g, 1, none⟩ = some (.slice (some ⟨gp, 0, none⟩) (q + 1) c6) := (hrow.keeps k1 id).cell 1
  have hc3 : W3.cell? ⟨g, 1, none⟩ = some (.slice (some ⟨gp, 0, none⟩) (q + 1) c6) := (hrow.keeps k03 id).cell 1
  have hrg1 := range_keeps hrg k1 (fun _ _ => id)
  have hne : ((sz : Int) == 0) = false := by rw [beq_eq_false_iff_ne]; omega
  have hqc : (q : Int) ≤ c6 := by omega
  have hq2 : (q : Int) + 1 ≤ c6 := by omega
  have hqq : (q : Int) + 1 - 1 = (q : Int) := by omega
  have hq3 : (q : Int) ≤ 1000 := by omega
  have HSEQ := Lib.hid hseq
  have HSIZE := Lib.hid hsize
  have HBW := Lib.hid hbw
  have HRG := Lib.hid hrg1
  have A1 := Lib.hid a1
  have A2 := Lib.hid (hzs.trans a2.symm)
  have A3 := Lib.hid a3
  have HR1 := Lib.hid hR1
  have R2 := Lib.hid r2
  have R34 := Lib.hid r34
  have R14 := Lib.hid r14
  have K04 := Lib.hid k04
  have Z4 := Lib.hid z4
  have HFIN := Lib.hid hfin
  have HRR := Lib.hid hR
  have HR32 := Lib.hid hr32
  have HT := Lib.hid hT
  have HZS := Lib.hid hzs
  have HQL := Lib.hid hql
  have HB0 := Lib.hid hb0
  have Z13 := Lib.hid (And.intro z1 z3)
  clear hseq hsize hbw hrg1 a1 a2 a3 hR1 r2 r34 r14 k04 z4 hfin hR hr32 hT hzs hql hrow hown hF hpath hpq hrg hps hqs hr k1 k2 k3 k4 k03 r1 r3 r13 r4 z2 hZ hn hn1 hq
  refine callsIn_wide.1 (callsIn_of_wp_marks (n := 3) Tryd.func36 rfl trivial ((wpIn_wide (n := 3)).2 ?_) rfl)
  simp only [Tryd.ntmps36, List.size_toArray, List.length_cons, List.length_nil, Nat.reduceAdd, Nat.reduceSub, Array.replicate_succ, Array.replicate_zero, List.push_toArray, List.append_toArray, List.nil_append, List.cons_append]
  go_wp2_with fail
  refine HSIZE.out.mono ?_
  rintro e wx ⟨rfl, hx⟩
  obtain rfl : W1 = wx := hx.symm
  go_wp2_with (first
    | (refine wpList_load_mid_w (by rfl) 34 (.tmp 22) (by rfl) gp (q * 32) (by rfl) R _ HRG.out Tryd.underlying34 rfl HR1.out ?_)
    | (refine wpList_store_row rfl 34 _ _ rfl (b0 + 1) R.toArray rfl rfl 34 Z R2.out A1.out A2.out A3.out ?_))
  refine HBW.out.mono ?_
  rintro e wx ⟨rfl, hx⟩
  obtain rfl : W4 = wx := hx.symm
  go_wp2_with fail
  have hsz4 := Z4.out
  refine (wpIn_wide (n := 3)).1 ?_
  refine wpIn_rangeFunc_ownH (n := 3) rfl (by omega) (gf := 70) (lb := #[.pointer (some ⟨b0 + 2, 0, none⟩)]) rfl trivial (enters_of Tryd.func70 (by kernel_rfl) rfl) HSEQ.out (fun h k => Keeps.trans h k)
    (fun V l o o' hl h _ _ => kb_putObj V l o' (by omega)) (Below.refl _ _) (fun _ => rfl)
    (fun pre V => V.heap[b0 + 1]? = some (.cells (bvs (itFold r pre)).toArray 34 (0, 0)) ∧ KB (b0 + 3) (b0 + 1) W4 V)
    (fun _ _ _ => False)
    (fun s X Y row hs hg hr => ⟨(hg.block (b0 + 1) (Array.getElem?_eq_some_iff.1 hs.1).1 (fun e => by have := (hr _ e.symm).1; omega)).trans hs.1, kb_grown hs.2 hg (fun k e => by have := (hr k e).1; omega)⟩)
    (fun _ _ _ _ _ hs _ _ => hs)
    ⟨by rw [show itFold r [] = r from rfl, HRR.out]; exact R34.out, Keeps.refl _ _⟩
    (fun x a' V => ∃ Bx, b0 + 3 ≤ Bx ∧ V.heap[Bx]? = some (.cells (bvs x.2.1).toArray 34 (0, 0)) ∧ a' = { tmps := #[.pointer (some ⟨g, 0, none⟩), undef, .pointer (some ⟨b0, 0, none⟩), .int .i64 (q : Int), .pointer (some ⟨b0 + 1, 0, none⟩), undef, .pointer (some ⟨Bx, 0, none⟩), .pointer (some ⟨g, 0, none⟩), .int .u64 (sz : Int), .bool false, undef, .pointer (some ⟨g, 0, none⟩), .pointer (some ⟨g, 0, none⟩), .pointer (some ⟨g, 1, none⟩), .slice (some ⟨gp, 0, none⟩) (q + 1) c6, .int .i64 ((q : Int) + 1), .int .i64 (q : Int), .pointer (some ⟨g, 0, none⟩), .pointer (some ⟨g, 0, none⟩), .pointer (some ⟨g, 1, none⟩), .slice (some ⟨gp, 0, none⟩) (q + 1) c6, .int .i64 (q : Int), .pointer (some ⟨gp, q * 32, none⟩), .agg R.toArray, .pointer (some ⟨g, 0, none⟩), .pointer (some ⟨g, 0, none⟩), .pointer (some ⟨g, 1, none⟩), .slice (some ⟨gp, 0, none⟩) (q + 1) c6, .int .i64 (q : Int), .slice (some ⟨gp, 0, none⟩) q c6, .func (.func 70) #[] #[.pointer (some ⟨b0 + 2, 0, none⟩)], .int .i64 (x.1 : Int), .agg (bvs x.2.1).toArray, undef, undef, undef, undef], defers := [] })
    (fun x a' s X Y row hs hg hr => by
      obtain ⟨Bx, h1, h2, h3⟩ := hs
      refine ⟨Bx, h1, (hg.block Bx (Array.getElem?_eq_some_iff.1 h2).1 (fun e => ?_)).trans h2, h3⟩
      obtain ⟨_, o, ho, hc⟩ := hr _ e.symm
      rw [h2] at ho
      injection ho with ho
      rw [← ho] at hc
      cases hc) ?assign ?body ?done ?stop
  case assign =>
    intro l pre x V K hI hK
    obtain ⟨s1, z1, o1⟩ := arr_hash x.2.1 x.2.2
    have hlt := hI.2.size
    refine wpIn_region_lit (listIn_of_list (fun hh => by obtain ⟨_, _, hh⟩ := hh; exact hh) _ _ _ (fun o ho c => by rcases List.mem_cons.1 ho with rfl | ho; (intro hh; cases hh); rcases List.mem_cons.1 ho with rfl | ho; (intro hh; cases hh); cases ho) ?_)
    have S1 := Lib.hid s1
    have Z1 := Lib.hid (HZS.out.trans z1.symm)
    have O1 := Lib.hid o1
    have HK := Lib.hid hK
    have HI := Lib.hid hI
    clear s1 z1 o1 hK hI
    simp only [itEnc]
    go_wp2_with (refine wpList_store_row rfl 34 _ _ rfl V.heap.size (bvs x.2.1).toArray rfl rfl 34 Z (heap_alloc_new V _) S1.out Z1.out O1.out ?_)
    have hkk : Keeps (fun _ => False) V ((V.alloc (.cells Z 34)).setRow V.heap.size (bvs x.2.1).toArray) := ((Keeps.refl _ V).alloc _).trans' (Keeps.setRow _ _) (fun i hi h => by omega)
    exact HK.out _ _ (kf_keeps hkk (fun _ _ => id)) (hkk.mono (fun _ _ h => h.elim)) ⟨(hkk.block _ (Array.getElem?_eq_some_iff.1 HI.out.1).1 id).trans HI.out.1, Keeps.trans HI.out.2 (hkk.mono (fun _ _ h => h.elim))⟩
      ⟨V.heap.size, by omega, setRow_heap _ _ _ _ _ _ (heap_alloc_new V _), rfl⟩
  case body =>
    rintro l pre x a' V hl _ hI ⟨Bx, hB, hx, rfl⟩ _
    have hl1 := itFold_length r HR32.out pre
    have ht := HT.out.lt
    have hnode := node_any x.2.1 (itFold r pre) V (HT.out.keeps ((K04.out.mono (fun _ _ h => h.elim)).trans hI.2) (by have := HB0.out; omega) (by have := HB0.out; omega)) x.2.2 hl1
    have hnx : Sh.sha (1 :: (x.2.1 ++ itFold r pre)) = itFold r (pre ++ [x]) := by rw [itFold_snoc]; rfl
    rw [hnx] at hnode
    have hI1 := hI.1
    obtain ⟨sx, zx, ox⟩ := arr_hash x.2.1 x.2.2
    obtain ⟨sf, zf, of⟩ := arr_hash _ hl1
    obtain ⟨sn, zn, on⟩ := arr_hash _ (itFold_length r HR32.out (pre ++ [x]))
    obtain ⟨CX, hCX⟩ : ∃ L, (bvs x.2.1).toArray = L := ⟨_, rfl⟩
    obtain ⟨CF, hCF⟩ : ∃ L, (bvs (itFold r pre)).toArray = L := ⟨_, rfl⟩
    obtain ⟨CN, hCN⟩ : ∃ L, (bvs (itFold r (pre ++ [x]))).toArray = L := ⟨_, rfl⟩
    rw [hCX] at hx hnode sx
    rw [hCF] at hI1 hnode sf zf
    rw [hCN] at hnode sn zn on
    rw [hCX]
    have HCN := Lib.hid hCN
    have HX := Lib.hid hx
    have HI1 := Lib.hid hI1
    have HI2 := Lib.hid hI.2
    have SX := Lib.hid sx
    have SF := Lib.hid sf
    have SN := Lib.hid sn
    have ZN := Lib.hid (zf.trans zn.symm)
    have ON := Lib.hid on
    have HNODE := Lib.hid hnode
    clear hnode hnx hI1 hI sx zx ox sf zf of sn zn on hCX hCF hCN hx hl1
    refine wpIn_block (wpIn_region_lit (listIn_of_list (fun hh => by obtain ⟨_, _, hh⟩ := hh; exact hh) _ _ _ (fun o ho c => by
      rcases List.mem_cons.1 ho with rfl | ho; (intro hh; cases hh)
      rcases List.mem_cons.1 ho with rfl | ho; (intro hh; cases hh)
      rcases List.mem_cons.1 ho with rfl | ho; (intro hh; cases hh)
      rcases List.mem_cons.1 ho with rfl | ho; (intro hh; cases hh)
      cases ho) ?_))
    go_wp2_with (first
      | (refine wpList_load_row rfl 34 _ rfl Bx rfl 34 CX (0, 0) _ HX.out Tryd.underlying34 rfl SX.out ?_)
      | (refine wpList_load_row rfl 34 _ rfl (b0 + 1) rfl 34 CF (0, 0) _ HI1.out Tryd.underlying34 rfl SF.out ?_)
      | (go_at_call 42; refine HNODE.out.mono ?_; rintro e w6 ⟨rfl, k6⟩; have H6 := Lib.hid ((k6.block _ (Array.getElem?_eq_some_iff.1 HI1.out).1 id).trans HI1.out); have K6 := Lib.hid k6; clear k6)
      | (refine wpList_store_row rfl 34 _ _ rfl (b0 + 1) CN rfl rfl 34 CF H6.out SN.out ZN.out ON.out ?_))
    have hkk : Keeps (fun k => k = b0 + 1) V (w6.setRow (b0 + 1) CN) := (K6.out.mono (fun _ _ h => h.elim)).trans (Keeps.setRow _ _)
    exact ⟨kf_keeps hkk (fun k hk h => by omega), hkk.mono (fun _ _ h => .inl h), by rw [HCN.out]; exact setRow_heap _ _ _ _ _ _ H6.out, Keeps.trans HI2.out (hkk.mono (fun _ _ h => .inl h))⟩
  case done =>
    rintro D xs V hD rfl hI hK
    have hI1 := hI.1
    rw [HQL.out, HFIN.out] at hI1
    have hpl : (Tr.peakRoot ps).length = 32 := by rw [← HFIN.out]; exact itFold_length r HR32.out _
    obtain ⟨sf, zf, of⟩ := arr_hash _ hpl
    obtain ⟨CF, hCF⟩ : ∃ L, (bvs (Tr.peakRoot ps)).toArray = L := ⟨_, rfl⟩
    rw [hCF] at hI1 sf zf of
    have HCF := Lib.hid hCF
    have HI1 := Lib.hid hI1
    have SF := Lib.hid sf
    have ZF := Lib.hid (HZS.out.trans zf.symm)
    have OF := Lib.hid of
    have R0 := Lib.hid ((hI.2.block b0 (by omega) (by show ¬ (b0 = b0 + 1 ∨ b0 + 3 ≤ b0); omega)).trans R14.out)
    have KV : Hid (Keeps (fun _ => False) w V) := Lib.hid (K04.out.trans' hI.2 (fun i hi h => by have := HB0.out; omega))
    have HD := Lib.hid hK
    clear hI hI1 sf zf of hCF hpl hK
    go_wp2_with (first
      | (refine wpList_load_row rfl 34 _ rfl (b0 + 1) rfl 34 CF (0, 0) _ HI1.out Tryd.underlying34 rfl SF.out ?_)
      | (refine wpList_store_row rfl 34 _ _ rfl b0 CF rfl rfl 34 Z R0.out SF.out ZF.out OF.out ?_))
    have hD2 : (V.setRow b0 CF).heap[D]? = some (.deferred (some [])) := (setRow_other V b0 D CF (by omega)).trans HD.out
    refine ⟨by simp, .inl ⟨_, _, rfl, run_takeDeferred hD2, ?_⟩⟩
    have hk2 : Keeps (fun k => k = D) (V.setRow b0 CF) ((V.setRow b0 CF).putObj D (.deferred none)) := ⟨rfl, rfl, rfl, by simp [World.putObj], fun k hk hs => World.putObj_heap_other hs⟩
    have hr2 := (hk2.block b0 (by have := Z4.out; have := KV.out.size; have := (Array.getElem?_eq_some_iff.1 R0.out).1; simp [World.setRow]; omega) (by show ¬ b0 = D; omega)).trans (setRow_heap V b0 _ CF _ _ R0.out)
    refine ⟨_, results_cell_row rfl _ _ b0 34 CF (0, 0) _ rfl hr2 Tryd.underlying34 rfl SF.out, ?_⟩
    exact ⟨by rw [HCF.out], (KV.out.trans' (Keeps.setRow b0 CF) (fun i hi h => by have := HB0.out; omega)).trans' hk2 (fun i hi h => by have := HB0.out; omega)⟩
  case stop =>
    rintro D c pre V _ _ h _
    exact h.elim
theorem froot_any (base g sz : Nat) (ps : List (List UInt8)) (w : World) (hT : Tabs w) (hF : Fro w base g sz ps) (hsz1 : sz ≤ 18446744073709551615) (he : ps.length = On.ones 64 sz) :
    Calls Tryd.prog 36 #[.pointer (some ⟨g, 0, none⟩)] w fun e w' => e = .returned (.agg (bvs (Tr.peakRoot ps)).toArray) ∧ Keeps (fun _ => False) w w' := by
  by_cases h0 : sz = 0
  · subst h0
    have : ps = [] := List.eq_nil_of_length_eq_zero (by rw [he]; rfl)
    subst this
    exact froot_first _ w hT (fun V hV => size_any base g 0 [] V (hF.later hV))
  · have h1 : 1 ≤ ps.length := by
      rcases Nat.eq_zero_or_pos ps.length with h | h
      · exact absurd (Tr.ones_eq_zero 64 sz (by show sz < 18446744073709551616; omega) (by omega)) h0
      · exact h
    exact froot_more base g sz ps w hT hF h0 hsz1 h1 (by have := On.ones_le 64 sz; omega)
theorem froot_none (w : World) (hT : Tabs w) : Calls Tryd.prog 36 #[.pointer none] w fun e w' => e = .returned (.agg (bvs (Sh.sha [])).toArray) ∧ Keeps (fun _ => False) w w' :=
  froot_first none w hT (fun V _ => size_none V)
end Go.Proofs.YtnnhbgaeohdojaaDoor
