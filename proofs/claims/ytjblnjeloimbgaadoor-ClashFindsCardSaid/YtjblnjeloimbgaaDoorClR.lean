/-
  The rows of a path, whole; the root that a path makes (clash.Made); two rows that are different, of one hash (clash.Check); what two paths show (clash.Paths). WRITTEN BY wip/gen/mkclr.py.
-/
import Derived.Test.YtjblnjeloimbgaaDoorClQ
import Derived.Test.YtjblnjeloimbgaaDoorClH
namespace Go.Proofs.YtjblnjeloimbgaaDoor
namespace Cl
/-- The rows of a path, the root that it makes, an error. -/
def prow (k n i : Nat) (e : Bytes) (p : List Bytes) : List Bytes × Bytes × Int :=
  if n ≤ i then ([], List.replicate 32 0, 15) else if p.length = Tr.steps n i then (leafRow e :: rowsOf k (nar k (leafRow e)) (p.zip (Tr.lefts n i).reverse), rootOf k (nar k (leafRow e)) (p.zip (Tr.lefts n i).reverse), 0) else ([], List.replicate 32 0, 20)
theorem prow_length (k n i : Nat) (e : Bytes) (p : List Bytes) : (prow k n i e p).2.1.length = 32 := by
  unfold prow
  split
  · rfl
  · split
    · exact rootOf_length _ _ _ (nar_length _ _)
    · rfl
/-- What two paths show. -/
def paths (k n i : Nat) (a b : Bytes) (p q : List Bytes) : Option (Bytes × Bytes) :=
  if a = b then none else if (prow k n i a p).2.2 ≠ 0 then none else if (prow k n i b q).2.2 ≠ 0 ∨ (prow k n i a p).2.1 ≠ (prow k n i b q).2.1 then none else some (high (prow k n i a p).1 (prow k n i b q).1)
theorem prow_fine {k n i : Nat} {e : Bytes} {p : List Bytes} (h : (prow k n i e p).2.2 = 0) : i < n ∧ p.length = Tr.steps n i ∧ prow k n i e p = (leafRow e :: rowsOf k (nar k (leafRow e)) (p.zip (Tr.lefts n i).reverse), rootOf k (nar k (leafRow e)) (p.zip (Tr.lefts n i).reverse), 0) := by
  unfold prow at h ⊢
  split at h
  · cases h
  · rename_i h1
    split at h
    · rename_i h2
      exact ⟨by omega, h2, by rw [if_neg h1, if_pos h2]⟩
    · cases h
theorem zip_snd (p q : List Bytes) (L : List Bool) (hp : p.length = L.length) (hq : q.length = L.length) : (p.zip L).map (·.2) = (q.zip L).map (·.2) := by
  rw [List.map_snd_zip (by omega), List.map_snd_zip (by omega)]
theorem zip_fst (p : List Bytes) (L : List Bool) (h : ∀ x ∈ p, x.length = 32) : ∀ s ∈ p.zip L, s.1.length = 32 := fun _ hs => h _ (List.of_mem_zip hs).1
theorem paths_good {k n i : Nat} {a b : Bytes} {p q : List Bytes} {c : Bytes × Bytes} (hn : n ≤ 18446744073709551615) (hp : ∀ x ∈ p, x.length = 32) (hq : ∀ x ∈ q, x.length = 32) (h : paths k n i a b p q = some c) : Good k c := by
  unfold paths at h
  split at h
  · cases h
  · rename_i hab
    split at h
    · cases h
    · rename_i h1
      split at h
      · cases h
      · rename_i h2
        have h1 : (prow k n i a p).2.2 = 0 := Classical.not_not.1 h1
        have h3 : (prow k n i b q).2.2 = 0 := Classical.not_not.1 (fun e => h2 (.inl e))
        have h4 : (prow k n i a p).2.1 = (prow k n i b q).2.1 := Classical.not_not.1 (fun e => h2 (.inr e))
        obtain ⟨a1, a2, a3⟩ := prow_fine h1
        obtain ⟨b1, b2, b3⟩ := prow_fine h3
        rw [a3, b3] at h h4
        cases h
        have hl : (Tr.lefts n i).reverse.length = Tr.steps n i := by rw [List.length_reverse, Tr.lefts_length _ n i (Nat.le_refl _) (by omega)]
        exact high_path k a b _ _ (zip_snd p q _ (by omega) (by omega)) (zip_fst p _ hp) (zip_fst q _ hq) h4 hab
end Cl
open Go.RowKit Go.BigFrame
set_option linter.unusedVariables false

theorem results_ct {P : Program} {fn : Func} {p u : Tmp} {ty : TypeId} (h : fn.results = #[.cell p ty, .tmp u]) (tmps : Array Value) (w : World) (g : Nat) (t : TypeId) (cs : Array Value) (fr : Nat × Nat) (d : TypeDesc) (v : Value)
    (hp : tmps.getD p undef = .pointer (some ⟨g, 0, none⟩)) (hg : w.heap[g]? = some (.cells cs t fr)) (hu : P.underlying ty = some d) (hd : (match d with | .struct _ | .array _ _ => true | _ => false) = true) (hi : (P.info? ty).map (·.size) = some cs.size) (hv : tmps.getD u undef = v) :
    (results fn tmps).run P w = .ok (.tuple #[.agg cs, v]) w := by
  have hp' : tmps[p]?.getD undef = .pointer (some ⟨g, 0, none⟩) := by simpa using hp
  have hv' : tmps[u]?.getD undef = v := by simpa using hv
  simp [results, h, hp', hv', asAddr, run_loadVar_row w g t ty cs fr d hg hu hd hi]
theorem RowsOk.none (w : World) : RowsOk w none 0 [] := ⟨RowsAt.nil w _, Nat.le_refl _, by omega⟩
/-- A store into a block that holds no bytes. -/
theorem src_setRow {w : World} {g : Nat} {t : TypeId} {fr : Nat × Nat} {cs : Array Value} {A : Option Addr} {xs : List UInt8} (h : Src w A (bvs xs)) (hg : w.heap[g]? = some (.cells cs t fr)) (hc : ∀ (i : Nat) (v : Value), cs[i]? = some v → ∀ n, v ≠ .int .u8 n) (R : Array Value) : Src (w.setRow g R) A (bvs xs) := fun j u hu => by
  obtain ⟨a, e, hcell⟩ := h j u hu
  refine ⟨a, e, ?_⟩
  by_cases hb : (a.add j).block = g
  · exfalso
    have h2 : cs[(a.add j).off]? = some u := by
      have := hcell
      simp only [World.cell?, hb, hg] at this
      split at this
      · cases this
      · exact this
    rw [bvs_get] at hu
    cases hx : xs[j]? with
    | none => rw [hx] at hu; cases hu
    | some c => rw [hx] at hu; cases hu; exact hc _ _ h2 _ rfl
  · rw [← hcell]
    exact World.cell?_of_block (setRow_other _ _ _ _ hb)
/-- What pathRows answers. -/
theorem prow_any (wide : Int) (n i : Nat) (Ae : Option Addr) (ce : Nat) (xs : List UInt8) (A : Option Addr) (c : Nat) (ps : List (List UInt8)) (w : World) (hT : Tabs w) (hs : Src w Ae (bvs xs)) (hce : xs.length ≤ ce) (hce1 : ce ≤ 9223372036854775807) (hxs : xs.length ≤ 100) (hP : PathAt w A ps) (hn : n ≤ 18446744073709551615) (hc : ps.length ≤ c) (hmax : c ≤ 9223372036854775807) :
    Calls Tryd.prog 18 #[.int .i64 wide, .int .u64 (n : Int), .int .u64 (i : Int), .slice Ae xs.length ce, .slice A ps.length c] w fun e w' => ∃ A' c' rs, e = .returned (.tuple #[.slice A' rs.length c', .agg (bvs (Cl.prow (Cl.wid wide) n i xs ps).2.1).toArray, .int .i64 (Cl.prow (Cl.wid wide) n i xs ps).2.2]) ∧
      RowsOk w' A' c' rs ∧ ents rs = (Cl.prow (Cl.wid wide) n i xs ps).1 ∧ Keeps (fun _ => False) w w' := by
  unfold Cl.prow
  by_cases h1 : n ≤ i
  · rw [if_pos h1]
    refine (prow_out wide n i Ae A xs.length ce ps.length c w hT h1).mono ?_
    rintro e w' ⟨he, hk⟩
    exact ⟨.none, 0, [], he, RowsOk.none _, rfl, hk⟩
  · rw [if_neg h1]
    by_cases h2 : ps.length = Tr.steps n i
    · rw [if_pos h2]
      exact prow_in wide n i Ae ce xs A c ps w hT hs hce hce1 hxs hP (by omega) hn h2 hc hmax
    · rw [if_neg h2]
      refine (prow_len wide n i Ae A xs.length ce ps.length c w hT (by omega) hn h2).mono ?_
      rintro e w' ⟨he, hk⟩
      exact ⟨.none, 0, [], he, RowsOk.none _, rfl, hk⟩
set_option maxRecDepth 100000 in
set_option maxHeartbeats 1000000 in
theorem cmade_path (wide : Int) (n i : Nat) (Ae : Option Addr) (ce : Nat) (xs : List UInt8) (A : Option Addr) (c : Nat) (ps : List (List UInt8)) (w : World) (hT : Tabs w) (hs : Src w Ae (bvs xs)) (hce : xs.length ≤ ce) (hce1 : ce ≤ 9223372036854775807) (hxs : xs.length ≤ 100) (hP : PathAt w A ps) (hn : n ≤ 18446744073709551615) (hc : ps.length ≤ c) (hmax : c ≤ 9223372036854775807) :
    Calls Tryd.prog 13 #[.int .i64 wide, .int .u64 (n : Int), .int .u64 (i : Int), .slice Ae xs.length ce, .slice A ps.length c] w fun e w' => e = .returned (.tuple #[.agg (bvs (Cl.prow (Cl.wid wide) n i xs ps).2.1).toArray, .int .i64 (Cl.prow (Cl.wid wide) n i xs ps).2.2]) ∧ Keeps (fun _ => False) w w' := by
  obtain ⟨Z, hZ, hz, hzs⟩ := zero_hash
  obtain ⟨W1, hW1⟩ : ∃ V, w.alloc (.cells Z 26) = V := ⟨_, rfl⟩
  have k1 : Keeps (fun _ => False) w W1 := by rw [← hW1]; exact (Keeps.refl _ _).alloc _
  have r1 : W1.heap[w.heap.size]? = some (.cells Z 26 (0, 0)) := by rw [← hW1]; exact heap_alloc_new w _
  have hp := prow_any wide n i Ae ce xs A c ps W1 (hT.keeps k1 id id) (hs.keeps k1 (fun _ _ _ => id)) hce hce1 hxs (hP.keeps k1 (fun _ _ => id)) hn hc hmax
  obtain ⟨sn, zn, on⟩ := arr_hash _ (Cl.prow_length (Cl.wid wide) n i xs ps)
  obtain ⟨R, hR⟩ : ∃ R, (bvs (Cl.prow (Cl.wid wide) n i xs ps).2.1).toArray = R := ⟨_, rfl⟩
  obtain ⟨er, her⟩ : ∃ e, (Cl.prow (Cl.wid wide) n i xs ps).2.2 = e := ⟨_, rfl⟩
  rw [hR, her] at hp ⊢
  rw [hR] at sn zn on
  have HP := Lib.hid hp
  have SN := Lib.hid sn
  have ZN := Lib.hid (hzs.trans zn.symm)
  have ON := Lib.hid on
  have K1 := Lib.hid k1
  have R1 := Lib.hid r1
  clear hp sn zn on hR her k1 r1 hZ hzs hT hs hP
  go_enter Tryd.func13, Tryd.ntmps13
  go_wp2_with fail
  refine HP.out.mono ?_
  rintro e w2 ⟨A', c', rs, rfl, _, _, k2⟩
  obtain ⟨g, hg⟩ : ∃ g, w2.heap.size = g := ⟨_, rfl⟩
  obtain ⟨W3, hW3⟩ : ∃ V, w2.alloc (.cells Z 26) = V := ⟨_, rfl⟩
  obtain ⟨W4, hW4⟩ : ∃ V, W3.setRow g R = V := ⟨_, rfl⟩
  have k3 : Keeps (fun _ => False) w2 W3 := by rw [← hW3]; exact (Keeps.refl _ _).alloc _
  have r3 : W3.heap[g]? = some (.cells Z 26 (0, 0)) := by rw [← hW3, ← hg]; exact heap_alloc_new w2 _
  have r4 : W4.heap[g]? = some (.cells R 26 (0, 0)) := by rw [← hW4]; exact setRow_heap _ _ _ _ _ _ r3
  have k4 : Keeps (fun k => k = g) W3 W4 := by rw [← hW4]; exact Keeps.setRow _ _
  have k24 : Keeps (fun _ => False) w2 W4 := k3.trans' k4 (fun i hi e => by omega)
  have R3 := Lib.hid r3
  have R4 := Lib.hid r4
  have K4 := Lib.hid ((K1.out.trans k2).trans k24)
  have R14 := Lib.hid ((k24.block _ (Nat.lt_of_lt_of_le (Array.getElem?_eq_some_iff.1 R1.out).1 k2.size) id).trans ((k2.block _ (Array.getElem?_eq_some_iff.1 R1.out).1 id).trans R1.out))
  clear k2 k3 r3 r4 k4 k24 HP R1 K1
  go_wp2_with (first
    | (refine wpList_store_row rfl 26 _ _ rfl g R rfl rfl 26 Z R3.out SN.out ZN.out ON.out ?_; rw [hW4])
    | (refine wpList_load_row rfl 26 _ rfl g rfl 26 R (0, 0) _ R4.out Tryd.underlying26 rfl SN.out ?_)
    | (refine wpList_store_row rfl 26 _ _ rfl w.heap.size R rfl rfl 26 Z R14.out SN.out ZN.out ON.out ?_))
  refine bodyPost_ret (results_ct rfl _ _ w.heap.size 26 R (0, 0) _ (.int .i64 er) rfl (setRow_heap _ _ _ _ _ _ R14.out) Tryd.underlying26 rfl SN.out rfl) rfl ?_
  exact ⟨rfl, K4.out.trans' (Keeps.setRow _ _) (fun i hi h => by omega)⟩
set_option maxRecDepth 100000 in
set_option maxHeartbeats 4000000 in
theorem cpaths_any (wide : Int) (n i : Nat) (Aa Ab : Option Addr) (ca cb : Nat) (xs ys : List UInt8) (A B : Option Addr) (c d : Nat) (ps qs : List (List UInt8)) (w : World) (hT : Tabs w) (hsa : Src w Aa (bvs xs)) (hca : xs.length ≤ ca) (hca1 : ca ≤ 9223372036854775807) (hxs : xs.length ≤ 100) (hsb : Src w Ab (bvs ys)) (hcb : ys.length ≤ cb) (hcb1 : cb ≤ 9223372036854775807) (hys : ys.length ≤ 100)
    (hP : PathAt w A ps) (hQ : PathAt w B qs) (hn : n ≤ 18446744073709551615) (hc : ps.length ≤ c) (hmax : c ≤ 9223372036854775807) (hd : qs.length ≤ d) (hmax2 : d ≤ 9223372036854775807) :
    Calls Tryd.prog 8 #[.int .i64 wide, .int .u64 (n : Int), .int .u64 (i : Int), .slice Aa xs.length ca, .slice Ab ys.length cb, .slice A ps.length c, .slice B qs.length d] w fun e w' => ∃ r s : RowOf, e = .returned (.tuple #[.agg #[rowSl r, rowSl s], .bool (Cl.paths (Cl.wid wide) n i xs ys ps qs).isSome]) ∧
      (r.2.2, s.2.2) = (Cl.paths (Cl.wid wide) n i xs ys ps qs).getD ([], []) ∧ RowG w' r ∧ RowG w' s ∧ Keeps (fun _ => False) w w' := by
  obtain ⟨CZ, hCZ⟩ : ∃ C : Array Value, #[rowSl row0, rowSl row0] = C := ⟨_, rfl⟩
  have hz : ∀ w : World, (zeroValue 29).run Tryd.prog w = .ok (.agg CZ) w := fun _ => by subst hCZ; kernel_rfl
  have hbld : ∀ w : World, (Instr.build 29 #[]).run Tryd.prog w = .ok (.agg CZ) w := fun _ => by subst hCZ; kernel_rfl
  have SZ : Hid ((Tryd.prog.info? 29).map (·.size) = some CZ.size) := Lib.hid (by subst hCZ; show _ = some 2; kernel_rfl)
  have OZ : Hid (CZ.all (·.oneCell') = true) := Lib.hid (by subst hCZ; simp [rowSl, Value.oneCell'])
  have HCZ := Lib.hid hCZ
  obtain ⟨HZ, hHZ, hhz, hhzs⟩ := zero_hash
  obtain ⟨k, hk⟩ : ∃ k, Cl.wid wide = k := ⟨_, rfl⟩
  obtain ⟨W1, hW1⟩ : ∃ V, w.alloc (.cells CZ 29) = V := ⟨_, rfl⟩
  have KW : Hid (Keeps (fun _ => False) w W1) := Lib.hid (by rw [← hW1]; exact (Keeps.refl _ _).alloc _)
  have RW : Hid (W1.heap[w.heap.size]? = some (.cells CZ 29 (0, 0))) := Lib.hid (by rw [← hW1]; exact heap_alloc_new w _)
  have hp1 := prow_any wide n i Aa ca xs A c ps W1 (hT.keeps KW.out id id) (hsa.keeps KW.out (fun _ _ _ => id)) hca hca1 hxs (hP.keeps KW.out (fun _ _ => id)) hn hc hmax
  have hp2 := fun V (hV : Keeps (fun _ => False) w V) => prow_any wide n i Ab cb ys B d qs V (hT.keeps hV id id) (hsb.keeps hV (fun _ _ _ => id)) hcb hcb1 hys (hQ.keeps hV (fun _ _ => id)) hn hd hmax2
  have heq := equal_any Aa Ab ca cb xs ys W1 (hsa.keeps KW.out (fun _ _ _ => id)) (hsb.keeps KW.out (fun _ _ _ => id))
  rw [hk] at hp1 hp2 ⊢
  have hpl1 := Cl.prow_length k n i xs ps
  have hpl2 := Cl.prow_length k n i ys qs
  have hpu : Cl.paths k n i xs ys ps qs = if xs = ys then none else if (Cl.prow k n i xs ps).2.2 ≠ 0 then none else if (Cl.prow k n i ys qs).2.2 ≠ 0 ∨ (Cl.prow k n i xs ps).2.1 ≠ (Cl.prow k n i ys qs).2.1 then none else some (Cl.high (Cl.prow k n i xs ps).1 (Cl.prow k n i ys qs).1) := rfl
  have hlen : (Cl.prow k n i xs ps).2.2 = 0 → (Cl.prow k n i ys qs).2.2 = 0 → (Cl.prow k n i xs ps).1.length = (Cl.prow k n i ys qs).1.length ∧ (Cl.prow k n i xs ps).1.length ≤ 1000 := fun h1 h2 => by
    obtain ⟨a1, a2, a3⟩ := Cl.prow_fine h1
    obtain ⟨b1, b2, b3⟩ := Cl.prow_fine h2
    have hl : (Tr.lefts n i).reverse.length = Tr.steps n i := by rw [List.length_reverse, Tr.lefts_length _ n i (Nat.le_refl _) (by omega)]
    have := Tr.steps_le n i
    rw [a3, b3]
    show (Cl.rowsOf k _ _).length + 1 = (Cl.rowsOf k _ _).length + 1 ∧ (Cl.rowsOf k _ _).length + 1 ≤ 1000
    rw [Cl.rowsOf_length, Cl.rowsOf_length, List.length_zip, List.length_zip, hl, a2, b2]
    omega
  obtain ⟨P1, hP1⟩ : ∃ P, Cl.prow k n i xs ps = P := ⟨_, rfl⟩
  obtain ⟨P2, hP2⟩ : ∃ P, Cl.prow k n i ys qs = P := ⟨_, rfl⟩
  obtain ⟨pa, hpa⟩ : ∃ p, Cl.paths k n i xs ys ps qs = p := ⟨_, rfl⟩
  rw [hP1] at hp1 hpl1 hlen
  rw [hP2] at hp2 hpl2 hlen
  rw [hP1, hP2, hpa] at hpu
  rw [hpa]
  obtain ⟨rows1, root1, er1⟩ := P1
  obtain ⟨rows2, root2, er2⟩ := P2
  simp only at hp1 hp2 hpl1 hpl2 hlen hpu
  obtain ⟨s1, z1, o1⟩ := arr_hash root1 hpl1
  obtain ⟨s2, z2, o2⟩ := arr_hash root2 hpl2
  obtain ⟨u0, hu0, _⟩ := info_parts info_u8t
  have hne : ∀ V, (binOp .neq 26 (.agg (bvs root1).toArray) (.agg (bvs root2).toArray)).run Tryd.prog V = .ok (.bool (root1 != root2)) V := fun V => run_neq_bytes (P := Tryd.prog) V 26 5 32 Tryd.underlying26 Tryd.underlying5 hu0 (by kernel_rfl) (by kernel_rfl) root1 root2 hpl1 hpl2
  obtain ⟨R1, hR1⟩ : ∃ R, (bvs root1).toArray = R := ⟨_, rfl⟩
  obtain ⟨R2, hR2⟩ : ∃ R, (bvs root2).toArray = R := ⟨_, rfl⟩
  rw [hR1] at hp1 s1 z1 o1 hne
  rw [hR2] at hp2 s2 z2 o2 hne
  have HPU := Lib.hid hpu
  have HLEN := Lib.hid hlen
  have HP1 := Lib.hid hp1
  have HP2 := Lib.hid hp2
  have HNE := Lib.hid hne
  have HEQ := Lib.hid heq
  have S1 := Lib.hid s1
  have S2 := Lib.hid s2
  have Z1 := Lib.hid (hhzs.trans z1.symm)
  have Z2 := Lib.hid (hhzs.trans z2.symm)
  have O1 := Lib.hid o1
  have O2 := Lib.hid o2
  clear hpu hlen hp1 hp2 hne heq s1 s2 z1 z2 o1 o2 hR1 hR2 hpl1 hpl2 hP1 hP2 hpa hk hCZ hHZ hhzs hT hsa hsb hP hQ hu0
  go_enter Tryd.func8, Tryd.ntmps8
  go_wp2_with fail
  refine HEQ.out.mono ?_
  rintro e wx ⟨rfl, hx⟩
  obtain rfl : W1 = wx := hx.symm
  clear HEQ
  by_cases hxy : xs = ys
  · have hb : (xs == ys) = true := by rw [hxy]; exact beq_self_eq_true ys
    rw [hb]
    have HNONE : Hid (pa = none) := Lib.hid (by rw [HPU.out, if_pos hxy])
    clear HPU HLEN HP1 HP2 HNE hb hxy
    go_wp2_with (refine wpList_store_row rfl 29 _ _ rfl w.heap.size CZ rfl rfl 29 CZ RW.out SZ.out rfl OZ.out ?_)
    refine bodyPost_ret (results_ct rfl _ _ w.heap.size 29 CZ (0, 0) _ (.bool false) rfl (setRow_heap _ _ _ _ _ _ RW.out) Tryd.underlying29 rfl SZ.out rfl) rfl ?_
    exact ⟨row0, row0, by rw [HNONE.out, ← HCZ.out]; rfl, by rw [HNONE.out]; rfl, RowG.none _, RowG.none _, KW.out.trans' (Keeps.setRow _ _) (fun i hi h => by omega)⟩
  · have hb : (xs == ys) = false := by rw [beq_eq_false_iff_ne]; exact hxy
    rw [hb]
    have HPU2 : Hid (pa = if er1 ≠ 0 then none else if er2 ≠ 0 ∨ root1 ≠ root2 then none else some (Cl.high rows1 rows2)) := Lib.hid (by rw [HPU.out, if_neg hxy])
    clear HPU hb hxy
    go_wp2_with fail
    refine HP1.out.mono ?_
    rintro e w2 ⟨A1, c1, rs1, rfl, hro1, hen1, k2⟩
    obtain ⟨g1, hg1⟩ : ∃ g, w2.heap.size = g := ⟨_, rfl⟩
    obtain ⟨W3, hW3⟩ : ∃ V, w2.alloc (.cells HZ 26) = V := ⟨_, rfl⟩
    obtain ⟨W4, hW4⟩ : ∃ V, W3.setRow g1 R1 = V := ⟨_, rfl⟩
    have k3 : Keeps (fun _ => False) w2 W3 := by rw [← hW3]; exact (Keeps.refl _ _).alloc _
    have r3 : W3.heap[g1]? = some (.cells HZ 26 (0, 0)) := by rw [← hW3, ← hg1]; exact heap_alloc_new w2 _
    have r4 : W4.heap[g1]? = some (.cells R1 26 (0, 0)) := by rw [← hW4]; exact setRow_heap _ _ _ _ _ _ r3
    have k4 : Keeps (fun k => k = g1) W3 W4 := by rw [← hW4]; exact Keeps.setRow _ _
    have k24 : Keeps (fun _ => False) w2 W4 := k3.trans' k4 (fun i hi e => by omega)
    have R3 := Lib.hid r3
    have R4 := Lib.hid r4
    have RW4 := Lib.hid ((k24.block _ (Nat.lt_of_lt_of_le (Array.getElem?_eq_some_iff.1 RW.out).1 k2.size) id).trans ((k2.block _ (Array.getElem?_eq_some_iff.1 RW.out).1 id).trans RW.out))
    have KW4 := Lib.hid ((KW.out.trans k2).trans k24)
    have RO1 := Lib.hid (hro1.later k24)
    have EN1 := Lib.hid hen1
    clear RW KW k2 k3 r3 r4 k4 k24 hro1 hen1 HP1
    have RW := RW4
    have KW := KW4
    clear RW4 KW4
    by_cases he1 : er1 = 0
    · subst he1
      go_wp2_with (first
        | (refine wpList_store_row rfl 26 _ _ rfl g1 R1 rfl rfl 26 HZ R3.out S1.out Z1.out O1.out ?_; rw [hW4]))
      refine (HP2.out W4 KW.out).mono ?_
      rintro e w5 ⟨A2, c2, rs2, rfl, hro2, hen2, k5⟩
      obtain ⟨g2, hg2⟩ : ∃ g, w5.heap.size = g := ⟨_, rfl⟩
      obtain ⟨W6, hW6⟩ : ∃ V, w5.alloc (.cells HZ 26) = V := ⟨_, rfl⟩
      obtain ⟨W7, hW7⟩ : ∃ V, W6.setRow g2 R2 = V := ⟨_, rfl⟩
      have k6 : Keeps (fun _ => False) w5 W6 := by rw [← hW6]; exact (Keeps.refl _ _).alloc _
      have r6 : W6.heap[g2]? = some (.cells HZ 26 (0, 0)) := by rw [← hW6, ← hg2]; exact heap_alloc_new w5 _
      have r7 : W7.heap[g2]? = some (.cells R2 26 (0, 0)) := by rw [← hW7]; exact setRow_heap _ _ _ _ _ _ r6
      have k7 : Keeps (fun k => k = g2) W6 W7 := by rw [← hW7]; exact Keeps.setRow _ _
      have k57 : Keeps (fun _ => False) w5 W7 := k6.trans' k7 (fun i hi e => by omega)
      have k47 : Keeps (fun _ => False) W4 W7 := k5.trans k57
      have R6 := Lib.hid r6
      have R7 := Lib.hid r7
      have R47 := Lib.hid ((k47.block _ (Array.getElem?_eq_some_iff.1 R4.out).1 id).trans R4.out)
      have RW7 := Lib.hid ((k47.block _ (Array.getElem?_eq_some_iff.1 RW.out).1 id).trans RW.out)
      have KW7 := Lib.hid (KW.out.trans k47)
      have RO17 := Lib.hid (RO1.out.later k47)
      have RO2 := Lib.hid (hro2.later k57)
      have EN2 := Lib.hid hen2
      clear RW KW R4 RO1 k5 k6 r6 r7 k7 k57 k47 hro2 hen2 HP2
      have RW := RW7
      have KW := KW7
      have RO1 := RO17
      have R4 := R47
      clear RW7 KW7 RO17 R47
      by_cases he2 : er2 = 0
      · subst he2
        by_cases hroot : root1 = root2
        · have hnf : (root1 != root2) = false := by rw [hroot]; simp
          have hne := HNE.out W7
          rw [hnf] at hne
          have HNE2 := Lib.hid hne
          have hll := HLEN.out (by trivial) (by trivial)
          have hm1 : rs1.length = rows1.length := by rw [← EN1.out, ents_length]
          have hm2 : rs2.length = rs1.length := by rw [hm1, hll.1, ← EN2.out, ents_length]
          have HSOME : Hid (pa = some (Cl.high rows1 rows2)) := Lib.hid (by rw [HPU2.out, if_neg (by simp), if_neg (by simp [hroot])])
          have hhi := highest_any A1 A2 c1 c2 rs1 rs2 rs1.length W7 RO1.out.at_ RO2.out.at_ rfl hm2 (by omega)
          rw [EN1.out, EN2.out] at hhi
          have HHI := Lib.hid hhi
          rw [hm2]
          clear hne hll hhi hnf hroot HPU2 HLEN HNE hm1 hm2 RO1 RO2
          go_wp2_with (first
            | (refine wpList_store_row rfl 26 _ _ rfl g2 R2 rfl rfl 26 HZ R6.out S2.out Z2.out O2.out ?_; rw [hW7])
            | (refine wpList_load_row_w (by rfl) 26 (.tmp 17) (by rfl) g1 (by rfl) 26 R1 (0, 0) _ R4.out Tryd.underlying26 rfl S1.out ?_)
            | (refine wpList_load_row_w (by rfl) 26 (.tmp 20) (by rfl) g2 (by rfl) 26 R2 (0, 0) _ R7.out Tryd.underlying26 rfl S2.out ?_)
            | (refine wpList_eq_agg_w (by rfl) .neq 26 26 (.tmp 51) (.tmp 52) (by rfl) R1 R2 (by rfl) (by rfl) (by kernel_rfl) (.bool false) HNE2.out ?_))
          refine HHI.out.mono ?_
          rintro e w8 ⟨r, s, rfl, hrs, hgr, hgs, k8⟩
          obtain ⟨CX, hCX⟩ : ∃ C : Array Value, #[rowSl r, rowSl s] = C := ⟨_, rfl⟩
          have SX : Hid ((Tryd.prog.info? 29).map (·.size) = some CX.size) := Lib.hid (by subst hCX; show _ = some 2; kernel_rfl)
          have OX : Hid (CX.all (·.oneCell') = true) := Lib.hid (by subst hCX; simp [rowSl, Value.oneCell'])
          have ZX : Hid (CZ.size = CX.size) := Lib.hid (by rw [← HCZ.out, ← hCX]; rfl)
          have RW8 := Lib.hid ((k8.block _ (Array.getElem?_eq_some_iff.1 RW.out).1 id).trans RW.out)
          have KW8 := Lib.hid (KW.out.trans k8)
          have hcz : ∀ (i : Nat) (v : Value), CZ[i]? = some v → ∀ n, v ≠ .int .u8 n := fun i v hv n e => by
            rw [← HCZ.out] at hv
            match i, hv with
            | 0, hv => cases hv; cases e
            | 1, hv => cases hv; cases e
          have HRS := Lib.hid hrs
          have HGR := Lib.hid hgr
          have HGS := Lib.hid hgs
          have HCX := Lib.hid hCX
          rw [hCX]
          clear hrs hgr hgs k8 RW KW HHI hCX
          go_wp2_with (refine wpList_store_row rfl 29 _ _ rfl w.heap.size CX rfl rfl 29 CZ RW8.out SX.out ZX.out OX.out ?_)
          refine bodyPost_ret (results_ct rfl _ _ w.heap.size 29 CX (0, 0) _ (.bool true) rfl (setRow_heap _ _ _ _ _ _ RW8.out) Tryd.underlying29 rfl SX.out rfl) rfl ?_
          exact ⟨r, s, by rw [HSOME.out, HCX.out]; rfl, by rw [HSOME.out]; exact HRS.out, ⟨src_setRow HGR.out.src RW8.out hcz CX, HGR.out.cap⟩, ⟨src_setRow HGS.out.src RW8.out hcz CX, HGS.out.cap⟩, KW8.out.trans' (Keeps.setRow _ _) (fun i hi h => by omega)⟩
        · have hnf : (root1 != root2) = true := by rw [bne_iff_ne]; exact hroot
          have hne := HNE.out W7
          rw [hnf] at hne
          have HNE2 := Lib.hid hne
          have HNONE : Hid (pa = none) := Lib.hid (by rw [HPU2.out, if_neg (by simp), if_pos (.inr hroot)])
          clear hne hnf hroot HPU2 HLEN HNE
          go_wp2_with (first
            | (refine wpList_store_row rfl 26 _ _ rfl g2 R2 rfl rfl 26 HZ R6.out S2.out Z2.out O2.out ?_; rw [hW7])
            | (refine wpList_load_row_w (by rfl) 26 (.tmp 17) (by rfl) g1 (by rfl) 26 R1 (0, 0) _ R4.out Tryd.underlying26 rfl S1.out ?_)
            | (refine wpList_load_row_w (by rfl) 26 (.tmp 20) (by rfl) g2 (by rfl) 26 R2 (0, 0) _ R7.out Tryd.underlying26 rfl S2.out ?_)
            | (refine wpList_eq_agg_w (by rfl) .neq 26 26 (.tmp 51) (.tmp 52) (by rfl) R1 R2 (by rfl) (by rfl) (by kernel_rfl) (.bool true) HNE2.out ?_)
            | (refine wpList_store_row rfl 29 _ _ rfl w.heap.size CZ rfl rfl 29 CZ RW.out SZ.out rfl OZ.out ?_))
          refine bodyPost_ret (results_ct rfl _ _ w.heap.size 29 CZ (0, 0) _ (.bool false) rfl (setRow_heap _ _ _ _ _ _ RW.out) Tryd.underlying29 rfl SZ.out rfl) rfl ?_
          exact ⟨row0, row0, by rw [HNONE.out, ← HCZ.out]; rfl, by rw [HNONE.out]; rfl, RowG.none _, RowG.none _, KW.out.trans' (Keeps.setRow _ _) (fun i hi h => by omega)⟩
      · have hnb : (er2 != 0) = true := by rw [bne_iff_ne]; exact he2
        have HNONE : Hid (pa = none) := Lib.hid (by rw [HPU2.out, if_neg (by simp), if_pos (.inl he2)])
        clear HPU2 HLEN HNE
        go_wp2_with (first
          | (refine wpList_store_row rfl 26 _ _ rfl g2 R2 rfl rfl 26 HZ R6.out S2.out Z2.out O2.out ?_; rw [hW7])
          | (refine wpList_store_row rfl 29 _ _ rfl w.heap.size CZ rfl rfl 29 CZ RW.out SZ.out rfl OZ.out ?_))
        refine bodyPost_ret (results_ct rfl _ _ w.heap.size 29 CZ (0, 0) _ (.bool false) rfl (setRow_heap _ _ _ _ _ _ RW.out) Tryd.underlying29 rfl SZ.out rfl) rfl ?_
        exact ⟨row0, row0, by rw [HNONE.out, ← HCZ.out]; rfl, by rw [HNONE.out]; rfl, RowG.none _, RowG.none _, KW.out.trans' (Keeps.setRow _ _) (fun i hi h => by omega)⟩
    · have hnb : (er1 != 0) = true := by rw [bne_iff_ne]; exact he1
      have HNONE : Hid (pa = none) := Lib.hid (by rw [HPU2.out, if_pos he1])
      clear HPU2 HLEN HNE HP2
      go_wp2_with (first
        | (refine wpList_store_row rfl 26 _ _ rfl g1 R1 rfl rfl 26 HZ R3.out S1.out Z1.out O1.out ?_; rw [hW4])
        | (refine wpList_store_row rfl 29 _ _ rfl w.heap.size CZ rfl rfl 29 CZ RW.out SZ.out rfl OZ.out ?_))
      refine bodyPost_ret (results_ct rfl _ _ w.heap.size 29 CZ (0, 0) _ (.bool false) rfl (setRow_heap _ _ _ _ _ _ RW.out) Tryd.underlying29 rfl SZ.out rfl) rfl ?_
      exact ⟨row0, row0, by rw [HNONE.out, ← HCZ.out]; rfl, by rw [HNONE.out]; rfl, RowG.none _, RowG.none _, KW.out.trans' (Keeps.setRow _ _) (fun i hi h => by omega)⟩
end Go.Proofs.YtjblnjeloimbgaaDoor
