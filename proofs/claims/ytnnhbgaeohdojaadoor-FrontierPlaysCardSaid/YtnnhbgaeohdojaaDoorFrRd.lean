/-
  The document's own frontier (package assayerref05): an entry more. WRITTEN BY wip/gen/mkfrrd.py.
-/
import Derived.Test.YtnnhbgaeohdojaaDoorFrRc
namespace Go.Proofs.YtnnhbgaeohdojaaDoor
open Go.RowKit Go.BigFrame
set_option linter.unusedVariables false

theorem own_grown5 {w w' : World} {base size n : Nat} {e : TypeId} {v : Value} {xs : List Value} {row : Option Nat} (h : w.ownsRow base e size v n xs) (hg : w.grownBy w' row) (hr : ∀ k, v.ownBlock = some k → row ≠ some k) : w'.ownsRow base e size v n xs :=
  ((Keeps.refl (fun k => row = some k) w).grown hg (fun _ _ h => h)).owns h (fun k hk => hr k hk)
theorem rows_apart5 {w : World} {b1 b2 s1 s2 n1 n2 : Nat} {e1 e2 : TypeId} {v1 v2 : Value} {x1 x2 : List Value} (h1 : w.ownsRow b1 e1 s1 v1 n1 x1) (h2 : w.ownsRow b2 e2 s2 v2 n2 x2) (hne : e1 ≠ e2) (k : Nat) (hk : v1.ownBlock = some k) : v2.ownBlock ≠ some k := fun hk2 => by
  obtain ⟨c1, g1, _⟩ := own_block h1 k hk
  obtain ⟨c2, g2, _⟩ := own_block h2 k hk2
  rw [g1] at g2
  injection g2 with g2
  injection g2 with _ g2
  exact hne g2
theorem own_prefix5 {w : World} {base size n c k : Nat} {e : TypeId} {A : Option Addr} {xs : List Value} (h : w.ownsRow base e size (.slice A n c) n xs) (hk : k ≤ n) (hn : 0 < n) : w.ownsRow base e size (.slice A k c) k (xs.take (k * size)) := by
  have hm : k * size ≤ n * size := Nat.mul_le_mul_right _ hk
  refine ⟨by rw [List.length_take, h.1]; omega, ?_⟩
  rcases h.2 with ⟨_, h0⟩ | ⟨g, cap, cur, hv, hb, hg, hc, hmx, hs, ht⟩
  · omega
  · injection hv with h1 h2 h3
    subst h1
    subst h3
    refine .inr ⟨g, c, cur, rfl, hb, hg, by omega, hmx, hs, ?_⟩
    rw [← ht, List.take_take, Nat.min_eq_left hm]

theorem two_top5 {α : Type} (l : List α) (x y : α) (n : Nat) (h : l.length = n) : (l ++ [x] ++ [y])[n + 1]? = some y ∧ (l ++ [x] ++ [y])[n]? = some x := by
  subst h
  constructor <;> simp
theorem u64s_append (a b : List Nat) : u64s (a ++ b) = u64s a ++ u64s b := by unfold u64s; rw [List.map_append]
namespace Tr
theorem asc_odd (g k n : Nat) (h : n % 2 = 1) : asc (g + 1) k n = k :: asc g (2 * k) (n / 2) ∧ asc (g + 1) k (n + 1) = asc g (2 * k) (n / 2 + 1) := by
  constructor
  · rw [asc, if_pos h]
  · rw [asc, if_neg (by omega), show (n + 1) / 2 = n / 2 + 1 by omega]
theorem asc_even (g k n : Nat) (h : n % 2 = 0) : asc (g + 1) k (n + 1) = k :: asc (g + 1) k n := by
  rw [asc, if_pos (by omega), asc, if_neg (by omega), show (n + 1) / 2 = n / 2 by omega]
theorem asc_ge : ∀ (f k n t : Nat), t ∈ asc f k n → k ≤ t
  | 0, _, _, t, h => by simp [asc] at h
  | f + 1, k, n, t, h => by
    unfold asc at h
    split at h
    · rcases List.mem_cons.1 h with rfl | h
      · exact Nat.le_refl _
      · have := asc_ge f _ _ t h
        omega
    · have := asc_ge f _ _ t h
      omega
theorem asc_other (g k n t : Nat) (h : n % 2 = 0) (hk : 1 ≤ k) (ht : t ∈ asc (g + 1) k n) : t ≠ k := by
  rw [asc, if_neg (by omega)] at ht
  have := asc_ge _ _ _ _ ht
  omega
end Tr
/-- The two rows. -/
structure Stk5 (w0 : World) (ps : List (List UInt8)) (ns : List Nat) (hv sv : Value) (w : World) : Prop where
  hash : w.ownsRow w0.heap.size 34 32 hv ps.length (flat ps)
  size : w.ownsRow w0.heap.size 23 1 sv ns.length (u64s ns)
  keep : Keeps (fun _ => False) w0 w
theorem Stk5.later {w0 w w' : World} {ps : List (List UInt8)} {ns : List Nat} {hv sv : Value} (h : Stk5 w0 ps ns hv sv w) (hk : Keeps (fun _ => False) w w') : Stk5 w0 ps ns hv sv w' :=
  ⟨hk.owns h.hash (fun _ _ => id), hk.owns h.size (fun _ _ => id), h.keep.trans hk⟩
theorem keeps_row5 {w0 w w' : World} {e : TypeId} {size n : Nat} {v : Value} {xs : List Value} (h : w.ownsRow w0.heap.size e size v n xs) (hk : Keeps (fun _ => False) w0 w) (hg : w.grownBy w' v.ownBlock) : Keeps (fun _ => False) w0 w' :=
  hk.grown hg (fun k hk' hr => by
    obtain ⟨_, _, hb⟩ := own_block h k hr
    omega)
theorem Stk5.hashed {w0 w w' : World} {ps : List (List UInt8)} {ns : List Nat} {hv sv hv2 : Value} (h : Stk5 w0 ps ns hv sv w) (hb : hv2.ownBlock = hv.ownBlock) (hg : w.grownBy w' hv2.ownBlock) :
    w'.ownsRow w0.heap.size 23 1 sv ns.length (u64s ns) ∧ Keeps (fun _ => False) w0 w' := by
  rw [hb] at hg
  exact ⟨own_grown5 h.size hg (fun k hk => rows_apart5 h.size h.hash (by decide) k hk), keeps_row5 h.hash h.keep hg⟩
theorem Stk5.sized {w0 w w' : World} {ps : List (List UInt8)} {ns : List Nat} {hv sv sv2 sv' : Value} {n : Nat} {xs : List Value} (hh : w.ownsRow w0.heap.size 34 32 hv ps.length (flat ps)) (hs : w.ownsRow w0.heap.size 23 1 sv n xs) (hk : Keeps (fun _ => False) w0 w) (hb : sv2.ownBlock = sv.ownBlock)
    (hg : w.grownBy w' sv2.ownBlock) (ho : w'.ownsRow w0.heap.size 23 1 sv' ns.length (u64s ns)) : Stk5 w0 ps ns hv sv' w' := by
  rw [hb] at hg
  exact ⟨own_grown5 hh hg (fun k hk => rows_apart5 hh hs (by decide) k hk), ho, keeps_row5 hs hk hg⟩
/-- Append to nil of what is read from somewhere. -/
theorem wpList_append_from {P : Program} {w : World} {ops : Array Oper} {rest : List Oper} {o : Oper} {a : Act} {Q : Exit → Act → World → Prop} (hgd : o.guard = none) (s x : Operand) (t : TypeId)
    (ho : o.op = .call { callee := .builtin .append, args := #[s, x], argTypes := #[t, t] })
    (base : Nat) (e : TypeId) (i : TypeInfo) (z : Value) (size bytes : Nat) (ht : P.underlying t = some (.slice e)) (hi : P.info? e = some i) (hz : i.zero = some z)
    (hsize : i.size = size) (hby : i.bytes = bytes) (hzs : z.cells.size = size) (hsz : 0 < size)
    (hs : a.eval s = .slice none 0 0) (A : Option Addr) (m c : Nat) (news : List Value) (hx : a.eval x = .slice A m c) (hl : news.length = m * size) (hsrc : Src w A news) (h0 : A = none → m = 0) (h1 : ∀ u ∈ news, u.oneCell' = true)
    (h63 : m ≤ maxLen) (hbytes : m * bytes ≤ 140737488355328) (hbase : base ≤ w.heap.size)
    (h : ∀ v' w', w'.ownsRow base e size v' m news → w.grownBy w' none → wpList P ops Q rest (a.put o.dst v') w') :
    wpList P ops Q (o :: rest) a w := by
  have hown : w.ownsRow base e size (.slice none 0 0) 0 [] := World.ownsRow_nil _ _ _ _
  have hr : ∃ v' w', (Builtin.append_ #[t, t] o.type #[.slice none 0 0, .slice A m c]).run P w = .ok v' w' ∧ w'.ownsRow base e size v' m news ∧ w.grownBy w' none := by
    cases A with
    | none =>
      obtain rfl := h0 rfl
      have hn : news = [] := List.eq_nil_of_length_eq_zero (by rw [hl, Nat.zero_mul])
      subst hn
      exact ⟨.slice none 0 0, w, by simp [Builtin.append_, run_underlying ht, sizeOf, typeInfo, hi, Builtin.lenOf, Builtin.firstCells], hown, ⟨rfl, rfl, rfl, Nat.le_refl _, fun _ _ _ => rfl⟩⟩
    | some g =>
      obtain ⟨v', w', hr, h2, h3, _⟩ := run_append_own (P := P) w base t o.type e i z size bytes ht hi hz hsize hby hzs hsz (.slice none 0 0) 0 [] hown g m c news hl (fun j u hu => hsrc.at_ hu) h1 (by omega) (by rw [Nat.zero_add]; exact hbytes) hbase
      rw [Nat.zero_add, List.nil_append] at h2
      exact ⟨v', w', hr, h2, h3⟩
  refine wpList_plain hgd fun _ hK => ?_
  obtain ⟨v', w', hr, h2, h3⟩ := hr
  unfold Oper.wp execOp
  simp only [ho, resolve, invoke, builtin, Sem.run_bind, Sem.run_pure, Result.andThen_ok, List.map_toArray, List.map_cons, List.map_nil, hs, hx, hr]
  exact hK _ _ (h v' w' h2 h3)
set_option maxRecDepth 100000 in
set_option maxHeartbeats 1500000 in
theorem radd_in (n : Nat) (O : Option Addr) (oc b0 : Nat) (A : Option Addr) (c : Nat) (ps : List (List UInt8)) (xs : List UInt8) (w : World) (hO : w.ownsRow b0 23 1 (.slice O ps.length oc) ps.length (u64s (Tr.pts n))) (hP : PathAt w A ps) (hn : n < 18446744073709551615) (he : ps.length = On.ones 64 n) (hx : xs.length ≤ 399) :
    Calls Tryd.prog 38 #[.agg (fval n (.slice O ps.length oc) (.slice A ps.length c)).toArray, .string (strOf xs)] w fun e w' => ∃ O2 oc2 A2 c2, e = .returned (.tuple #[.agg (fval (n + 1) (.slice O2 (Tr.addP n ps (Tr.leaf xs)).length oc2) (.slice A2 (Tr.addP n ps (Tr.leaf xs)).length c2)).toArray, .int .i64 0]) ∧
      w'.ownsRow w.heap.size 23 1 (.slice O2 (Tr.addP n ps (Tr.leaf xs)).length oc2) (Tr.addP n ps (Tr.leaf xs)).length (u64s (Tr.pts (n + 1))) ∧ w'.ownsRow w.heap.size 34 32 (.slice A2 (Tr.addP n ps (Tr.leaf xs)).length c2) (Tr.addP n ps (Tr.leaf xs)).length (flat (Tr.addP n ps (Tr.leaf xs))) ∧ Keeps (fun _ => False) w w' := by
  obtain ⟨Z, hZ, hz, hzs⟩ := zero_hash
  obtain ⟨ih, zh, hih, hzh, hsh, hbh, hzsh⟩ := info_hash
  obtain ⟨i0, hi0, hz0, hs0, hbb0⟩ := info_parts (show (Tryd.prog.info? 23).map (fun i => (i.zero, i.size, i.bytes)) = some (some (.int .u64 0), 1, 8) by kernel_rfl)
  have HHH := Lib.hid (And.intro hih (And.intro hzh (And.intro hsh (And.intro hbh hzsh))))
  have HII := Lib.hid (And.intro hi0 (And.intro hz0 (And.intro hs0 hbb0)))
  have HAL : Hid (∀ V : World, (Instr.alloc 34 true (.tuple #[])).run Tryd.prog V = .ok (.pointer (some ⟨V.heap.size, 0, none⟩)) (V.alloc (.cells Z 34))) := fun V => by go_simp
  have hall := hP.all
  have hA0 : A = none → ps.length = 0 := fun e => by subst e; rw [hP.none_nil]; rfl
  have hlf : (Tr.leaf xs).length = 32 := Tr.leaf_length xs
  have hleaf := fun V => rleaf_any xs V hx
  rw [← Tr.leaf] at hleaf
  obtain ⟨R0, hR0⟩ : ∃ R, Tr.carry ps.reverse n (Tr.leaf xs) = R := ⟨_, rfl⟩
  have hres : Tr.addP n ps (Tr.leaf xs) = R0.reverse := by unfold Tr.addP; rw [hR0]
  rw [hres]
  obtain ⟨x0, hx0⟩ : ∃ x, Tr.leaf xs = x := ⟨_, rfl⟩
  rw [hx0] at hleaf hlf hR0
  have hbs := fun V => build_hash x0 hlf V
  have hone := bvs_one x0
  have hx32 : (bvs x0).length = 32 := by rw [bvs_length, hlf]
  have hsnoc : flat ps ++ bvs x0 = flat (ps ++ [x0]) := (flat_snoc _ _).symm
  have hfl := flat_length ps hall
  have hpsrc := hP.src
  have hptl := Tr.pts_length n
  rw [← he] at hptl
  obtain ⟨m, hm⟩ : ∃ m, ps.length = m := ⟨_, rfl⟩
  have hm64 : m ≤ 64 := by rw [← hm, he]; exact On.ones_le 64 n
  rw [hm] at hO hA0 hfl hptl ⊢
  obtain ⟨FV, hFV⟩ : ∃ FV, fval n (.slice O m oc) (.slice A m c) = FV := ⟨_, rfl⟩
  have hf0 : FV[0]? = some (.int .u64 (n : Int)) := by rw [← hFV]; rfl
  have hf1 : FV[1]? = some (.slice O m oc) := by rw [← hFV]; rfl
  have hf2 : FV[2]? = some (.slice A m c) := by rw [← hFV]; rfl
  rw [hFV]
  obtain ⟨W1, hW1⟩ : ∃ V, w.alloc (.cells FV.toArray 47) = V := ⟨_, rfl⟩
  obtain ⟨W2, hW2⟩ : ∃ V, W1.alloc (.cells #[.int .u64 0, .slice none 0 0, .slice none 0 0] 47) = V := ⟨_, rfl⟩
  obtain ⟨B1, hB1⟩ : ∃ q, w.heap.size = q := ⟨_, rfl⟩
  obtain ⟨B2, hB2⟩ : ∃ q, W1.heap.size = q := ⟨_, rfl⟩
  have k1 : Keeps (fun _ => False) w W1 := by rw [← hW1]; exact (Keeps.refl _ _).alloc _
  have k2 : Keeps (fun _ => False) W1 W2 := by rw [← hW2]; exact (Keeps.refl _ _).alloc _
  have k12 := k1.trans k2
  have r1 : Row W1 B1 47 FV := by rw [← hW1, ← hB1]; exact heap_alloc_new w _
  have r2 : W2.heap[B2]? = some (.cells (fval 0 (.slice none 0 0) (.slice none 0 0)).toArray 47 (0, 0)) := by rw [← hW2, ← hB2]; exact heap_alloc_new W1 _
  have hbox : ∀ V, Keeps (fun _ => False) W2 V → Row V B1 47 FV := fun V hV => (r1.keeps k2 id).keeps hV id
  have hc0 : W2.cell? ⟨B1, 0, none⟩ = some (.int .u64 (n : Int)) := ((hbox W2 (Keeps.refl _ _)).cell 0).trans hf0
  have hc1 : W2.cell? ⟨B1, 1, none⟩ = some (.slice O m oc) := ((hbox W2 (Keeps.refl _ _)).cell 1).trans hf1
  have hc2 : ∀ V, Keeps (fun _ => False) W2 V → V.cell? ⟨B1, 2, none⟩ = some (.slice A m c) := fun V hV => ((hbox V hV).cell 2).trans hf2
  have hcn : ∀ V, Keeps (fun _ => False) W2 V → V.cell? ⟨B1, 0, none⟩ = some (.int .u64 (n : Int)) := fun V hV => ((hbox V hV).cell 0).trans hf0
  have hbw : B1 ≤ W2.heap.size ∧ w.heap.size = B1 ∧ B1 ≤ B2 := ⟨by rw [← hB1]; exact k12.size, hB1, by rw [← hB1, ← hB2]; exact k1.size⟩
  have HBW := Lib.hid hbw
  have HC2 := Lib.hid hc2
  have HCN := Lib.hid hcn
  have R2 := Lib.hid r2
  have K12 := Lib.hid k12
  have HO := Lib.hid (k12.owns hO (fun _ _ => id))
  have HSRC := Lib.hid hpsrc
  have HFLL := Lib.hid hfl
  have HPTL := Lib.hid hptl
  have HLEAF := Lib.hid hleaf
  have HBS := Lib.hid hbs
  have HONE := Lib.hid hone
  have HX32 := Lib.hid hx32
  have HSN := Lib.hid hsnoc
  have HFO := Lib.hid (flat_one ps)
  have HALL := Lib.hid hall
  have HM := Lib.hid hm
  have HLF := Lib.hid hlf
  have HR0 := Lib.hid hR0
  have HZS := Lib.hid hzs
  have HA0 := Lib.hid hA0
  have HB2 := Lib.hid hB2
  have hnm : ((n : Int) == 18446744073709551615) = false := by simp; omega
  have hnd : decide ((n : Int) = 18446744073709551615) = false := by simp; omega
  clear k1 k2 k12 r1 r2 hbox hf0 hf1 hf2 hFV hO hpsrc hfl hptl hleaf hbs hone hx32 hsnoc hall hm hlf hR0 hzs hZ hA0 hP hres hx0 hih hzh hsh hbh hzsh hi0 hz0 hs0 hbb0 hbw hc2 hcn
  obtain ⟨bW, hbW⟩ : ∃ q, W2.heap.size = q := ⟨_, rfl⟩
  have HBS2 := Lib.hid hbW
  clear hbW
  go_enter Tryd.func38, Tryd.ntmps38
  have HBI1 : Hid (∀ V, (Instr.buildSlice 45 1 #[(0, .int .u64 1)]).run Tryd.prog V = .ok (.slice (some ⟨V.heap.size, 0, none⟩) 1 1) (V.alloc (.cells #[.int .u64 1] 23))) := Lib.hid (fun V => by kernel_rfl)
  go_wp2_with (first
    | (refine wpList_append_hashes (by rfl) (.tmp 14) (.tmp 16) 45 (by rfl) W2.heap.size 23 i0 (.int .u64 0) 1 8 Tryd.underlying45 HII.out.1 HII.out.2.1 HII.out.2.2.1 HII.out.2.2.2 rfl (by decide) (.slice none 0 0) 0 [] (by rfl) (World.ownsRow_nil _ _ _ _) (.slice O m oc) m (u64s (Tr.pts n)) b0 (by rfl) HO.out (u64s_one _) (by unfold maxLen; omega) (by omega) (Nat.le_refl _) ?_; intro v3 V3 ho3 hg3; rw [Nat.zero_add, List.nil_append] at ho3; have HO3 := Lib.hid ho3; have K3 : Hid (Keeps (fun _ => False) W2 V3) := Lib.hid ((Keeps.refl _ _).grown hg3 (fun k _ h => by cases h)); have hv3 := HC2.out V3 K3.out; obtain ⟨A3, c3, rfl⟩ := own_slice ho3; clear ho3 hg3)
    | (refine wpList_append_from (by rfl) (.tmp 18) (.tmp 20) 28 (by rfl) W2.heap.size 34 ih zh 32 32 Tryd.underlying28 HHH.out.1 HHH.out.2.1 HHH.out.2.2.1 HHH.out.2.2.2.1 HHH.out.2.2.2.2 (by decide) (by rfl) A m c (flat ps) (by rfl) HFLL.out (HSRC.out.keeps (K12.out.trans K3.out) (fun _ _ _ => id)) HA0.out HFO.out (by unfold maxLen; omega) (by omega) K3.out.size ?_; intro v4 V4 ho4 hg4; have K34 : Hid (Keeps (fun _ => False) V3 V4) := Lib.hid ((Keeps.refl _ _).grown hg4 (fun k _ h => by cases h)); have HO4 := Lib.hid ho4; have HO34 := Lib.hid (K34.out.owns HO3.out (fun _ _ => id)); obtain ⟨A4, c4, rfl⟩ := own_slice ho4; clear ho4 hg4 hv3)
    | (refine wpList_buildSlice_run (by rfl) 45 1 0 (.const (.int .u64 1)) (by rfl) _ _ (by rfl) (HBI1.out _) ?_)
    | (refine wpList_append_own _ (by rfl) (.tmp 22) (.tmp 23) 45 (by rfl) W2.heap.size 23 i0 (.int .u64 0) 1 8 Tryd.underlying45 HII.out.1 HII.out.2.1 HII.out.2.2.1 HII.out.2.2.2 rfl (by decide) (.slice A3 m c3) m (u64s (Tr.pts n)) (by rfl) (Keeps.owns (S := fun _ => False) ((Keeps.refl _ _).alloc _) HO34.out (fun _ _ => id)) ⟨V4.heap.size, 0, none⟩ 1 1 [.int .u64 1] (by rfl) (by rfl) (World.news_of_block (heap_alloc_new V4 _)) (by intro u hu; rw [List.mem_singleton] at hu; subst hu; rfl) (by unfold maxLen; omega) (by omega) (Nat.le_trans (K3.out.trans K34.out).size ((Keeps.refl (fun _ => False) V4).alloc (.cells #[.int .u64 1] 23)).size) ?_; intro v5 V5 ho5 hg5 _; have HO5 := Lib.hid ho5; have HG5 := Lib.hid hg5; obtain ⟨A5, c5, rfl⟩ := own_slice ho5; clear ho5 hg5))
  refine (HLEAF.out _).mono ?_
  rintro e V6 ⟨rfl, k6⟩
  have HBSX := Lib.hid (HBS.out V6)
  have HKA : Hid (Keeps (fun _ => False) V4 (V4.alloc (.cells #[.int .u64 1] 23))) := Lib.hid ((Keeps.refl _ _).alloc _)
  have hHa := HKA.out.owns HO4.out (fun _ _ => id)
  have hSa := HKA.out.owns HO34.out (fun _ _ => id)
  have hH5 := own_grown5 hHa HG5.out (fun k hk => rows_apart5 hHa hSa (by decide) k hk)
  have hk5 := keeps_row5 (w0 := W2) hSa ((K3.out.trans K34.out).trans HKA.out) HG5.out
  have HH6 := Lib.hid (k6.owns hH5 (fun _ _ => id))
  have HS6 := Lib.hid (k6.owns HO5.out (fun _ _ => id))
  have K6 := Lib.hid (hk5.trans k6)
  have KB : Hid (Keeps (fun _ => False) V6 (V6.alloc (.cells (bvs x0).toArray 34))) := Lib.hid ((Keeps.refl _ _).alloc _)
  clear hHa hSa hH5 hk5 k6 HKA HO34 HO3 HO4 HO5 HG5 K3 K34 hW1 hW2 hB1 hB2 hc0 hc1 HLEAF HSRC HO
  go_wp2_with (first
    | (refine wpList_buildSlice_run (by rfl) 28 1 0 (.tmp 27) (by rfl) _ _ (by rfl) HBSX.out ?_)
    | (refine wpList_append_own _ (by rfl) (.tmp 25) (.tmp 28) 28 (by rfl) W2.heap.size 34 ih zh 32 32 Tryd.underlying28 HHH.out.1 HHH.out.2.1 HHH.out.2.2.1 HHH.out.2.2.2.1 HHH.out.2.2.2.2 (by decide) (.slice A4 m c4) m (flat ps) (by rfl) (KB.out.owns HH6.out (fun _ _ => id)) ⟨V6.heap.size, 0, none⟩ 1 1 (bvs x0) (by rfl) HX32.out (World.news_of_block (heap_alloc_new V6 _)) HONE.out (by unfold maxLen; omega) (by omega) (Nat.le_trans K6.out.size KB.out.size) ?_; intro v8 V8 ho8 hg8 _; have HO8 := Lib.hid ho8; have HG8 := Lib.hid hg8; obtain ⟨A8, c8, rfl⟩ := own_slice ho8; clear ho8 hg8))
  have hHb := KB.out.owns HH6.out (fun _ _ => id)
  have hSb := KB.out.owns HS6.out (fun _ _ => id)
  have hS8 := own_grown5 hSb HG8.out (fun k hk => rows_apart5 hSb hHb (by decide) k hk)
  have hk8 := keeps_row5 (w0 := W2) hHb (K6.out.trans KB.out) HG8.out
  have HST8 : Hid (Stk5 W2 (ps.reverse.reverse ++ [x0]) ((Tr.asc 64 1 n).reverse ++ [1]) (.slice A8 (m + 1) c8) (.slice A5 (m + 1) c5) V8) := Lib.hid ⟨by
      rw [List.reverse_reverse, List.length_append, HM.out, ← HSN.out]; exact HO8.out, by
      rw [List.length_append, show (Tr.asc 64 1 n).reverse.length = m from HPTL.out, u64s_append]; exact hS8, hk8⟩
  clear hHb hSb hS8 hk8 HO8 HG8 HH6 HS6 KB K6 HBSX HBI1
  go_wp2_with fail
  go_loopw [6, 7, 8, 9] (fun nv lv kv bv wr => ∃ (s f kk left : Nat) (rs : List (List UInt8)) (x : List UInt8) (A6 A7 : Option Addr) (c6 c7 : Nat), nv = .slice A6 s c6 ∧ lv = .slice A7 s c7 ∧ kv = .int .i64 (s : Int) ∧ s ≤ 65 ∧
    Hid (s = rs.length + 1 ∧ rs.length = (Tr.asc f kk left).length ∧ kk = 2 ^ (64 - f) ∧ left + 1 < 2 ^ f ∧ f ≤ 64 ∧ Tr.carry rs left x = R0 ∧ Tr.asc f kk (left + 1) = Tr.asc 64 1 (n + 1) ∧ x.length = 32 ∧ ∀ p ∈ rs, p.length = 32) ∧
    Hid (Stk5 W2 (rs.reverse ++ [x]) ((Tr.asc f kk left).reverse ++ [kk]) (.slice A7 s c7) (.slice A6 s c6) wr)) (fun _ _ kv _ _ => (intOf kv).toNat)
  case atStart => exact ⟨m + 1, 64, 1, n, ps.reverse, x0, A5, A8, c5, c8, rfl, rfl, by go_num, by omega, Lib.hid ⟨by rw [List.length_reverse, HM.out], by rw [List.length_reverse, HM.out]; have := HPTL.out; unfold Tr.pts at this; rw [List.length_reverse] at this; exact this.symm, rfl, by omega, Nat.le_refl _, HR0.out, rfl, HLF.out, fun p hp => HALL.out p (List.mem_reverse.1 hp)⟩, HST8⟩
  case round =>
    clear HST8
    obtain ⟨s, f, kk, left, rs, x, A6, A7, c6, c7, rfl, rfl, rfl, hs65, HD, HK⟩ := hrel
    obtain ⟨g, rfl⟩ : ∃ g, f = g + 1 := ⟨f - 1, by
      rcases Nat.eq_zero_or_pos f with h | h
      · have := HD.out.2.2.2.1
        rw [h] at this
        simp at this
      · omega⟩
    have hkk1 : 1 ≤ kk := by rw [HD.out.2.2.1]; exact Nat.one_le_two_pow
    have hkk63 : kk ≤ 9223372036854775808 := by
      rw [HD.out.2.2.1]
      exact Nat.pow_le_pow_right (n := 2) (i := 64 - (g + 1)) (j := 63) (by omega) (by omega)
    by_cases hodd : left % 2 = 1
    · obtain ⟨h1, h2, h3, h4, h5, h6, h7, h8, h9⟩ := HD.out
      have ho := Tr.asc_odd g kk left hodd
      obtain ⟨T, hT⟩ : ∃ T, Tr.asc g (2 * kk) (left / 2) = T := ⟨_, rfl⟩
      rw [hT] at ho
      rw [ho.1, List.length_cons] at h2
      obtain ⟨r, rs', rfl⟩ : ∃ r rs', rs = r :: rs' := by
        cases rs with
        | nil => simp at h2
        | cons r rs' => exact ⟨r, rs', rfl⟩
      rw [List.length_cons] at h1 h2
      rw [Tr.carry_odd _ _ _ _ hodd] at h6
      rw [ho.2] at h7
      obtain ⟨q, hq⟩ : ∃ q, rs'.length = q := ⟨_, rfl⟩
      rw [hq] at h1 h2
      have hqT : T.length = q := by omega
      obtain ⟨p, hp⟩ : ∃ p, q + 1 = p := ⟨_, rfl⟩
      have hK := HK.out
      rw [ho.1, List.reverse_cons, List.reverse_cons] at hK
      have hls : (rs'.reverse ++ [r] ++ [x]).length = s := by simp; omega
      have hln : (T.reverse ++ [kk] ++ [kk]).length = s := by simp; omega
      obtain ⟨g7, e7⟩ : ∃ g, A7 = some ⟨g, 0, none⟩ := by
        obtain ⟨g, _, e⟩ := own_top hK.hash (by rw [hls]; omega)
        injection e with e
        exact ⟨g, e⟩
      obtain ⟨g6, e6⟩ : ∃ g, A6 = some ⟨g, 0, none⟩ := by
        obtain ⟨g, _, e⟩ := own_top hK.size (by rw [hln]; omega)
        injection e with e
        exact ⟨g, e⟩
      subst e7
      subst e6
      have hg62 : 2 * kk ≤ 9223372036854775808 := by
        have hg1 : 1 ≤ g := by
          rcases Nat.eq_zero_or_pos g with h | h
          · rw [h] at h4
            simp at h4
            omega
          · exact h
        rw [h3, ← Nat.pow_succ']
        exact Nat.pow_le_pow_right (n := 2) (i := 64 - (g + 1) + 1) (j := 63) (by omega) (by omega)
      have h4' : left / 2 + 1 < 2 ^ g := by
        rw [Nat.pow_succ] at h4
        omega
      have h3' : 2 * kk = 2 ^ (64 - g) := by
        rw [h3, ← Nat.pow_succ']
        congr 1
        omega
      have hnl : (Tr.node r x).length = 32 := Tr.node_length _ _
      have hr32 : r.length = 32 := h9 r (by simp)
      have HNEXT : Hid (T.length = q ∧ 2 * kk = 2 ^ (64 - g) ∧ left / 2 + 1 < 2 ^ g ∧ g ≤ 64 ∧ Tr.carry rs' (left / 2) (Tr.node r x) = R0 ∧ Tr.asc g (2 * kk) (left / 2 + 1) = Tr.asc 64 1 (n + 1) ∧ (Tr.node r x).length = 32 ∧ (∀ p ∈ rs', p.length = 32) ∧ Tr.asc g (2 * kk) (left / 2) = T ∧ rs'.length = q) := Lib.hid ⟨hqT, h3', h4', by omega, h6, h7, hnl, fun p hp => h9 p (List.mem_cons_of_mem _ hp), hT, hq⟩
      have htn := two_top5 T.reverse kk kk q (by rw [List.length_reverse]; exact hqT)
      have cp := hK.size.cells (g := g6) rfl (q + 1) (.int .u64 (kk : Int)) (by unfold u64s; rw [List.getElem?_map, htn.1]; rfl)
      have cq := hK.size.cells (g := g6) rfl q (.int .u64 (kk : Int)) (by unfold u64s; rw [List.getElem?_map, htn.2]; rfl)
      rw [add_plain, Nat.zero_add] at cp cq
      rw [hp] at cp
      have hs1' : (1 : Int) < s := by omega
      have hsp : (s : Int) - 1 = (p : Int) := by omega
      have hsq : (s : Int) - 2 = (q : Int) := by omega
      have hps : (p : Int) < s := by omega
      have hqs : (q : Int) < s := by omega
      have hcap6 := (own_cap hK.size).2.1
      have hcap7 := (own_cap hK.hash).2.1
      rw [hln] at hcap6
      rw [hls] at hcap7
      have hqc6 : (q : Int) ≤ c6 := by omega
      have hqc7 : (q : Int) ≤ c7 := by omega
      have hqs2 : q + 2 = s := by omega
      have heqk : ((kk : Int) == (kk : Int)) = true := by simp
      have HK6 := Lib.hid hK
      have HLS := Lib.hid (And.intro hls hln)
      have HP := Lib.hid hp
      have HALL2 : Hid (∀ p ∈ rs'.reverse ++ [r] ++ [x], p.length = 32) := Lib.hid (fun p hp => by
        simp only [List.mem_append, List.mem_reverse, List.mem_singleton] at hp
        rcases hp with (hp | hp) | hp
        · exact h9 p (List.mem_cons_of_mem _ hp)
        · rw [hp]; exact hr32
        · rw [hp]; exact h8)
      have h8' := h8
      clear HD HK h1 h2 h3 h4 h5 h6 h7 h8 h9 ho hT hK hls hln htn h3' h4' hqT hq hp hodd hcap6 hcap7
      go_wp2_with fail
      go_quiet (fail)
      obtain ⟨wq, hwq⟩ : ∃ V, wr.drewN nq = V := ⟨_, rfl⟩
      have HK7 : Hid (Stk5 W2 (rs'.reverse ++ [r] ++ [x]) (T.reverse ++ [kk] ++ [kk]) (.slice (some ⟨g7, 0, none⟩) s c7) (.slice (some ⟨g6, 0, none⟩) s c6) wq) := Lib.hid (by rw [← hwq]; exact HK6.out.later ((Keeps.refl _ _).drewN nq))
      rw [hwq]
      clear hwq cp cq HK6 heqk
      have hpath := PathAt.of_own' HK7.out.hash HALL2.out
      have htp := two_top5 rs'.reverse r x q (by rw [List.length_reverse]; exact HNEXT.out.2.2.2.2.2.2.2.2.2)
      rw [HP.out] at htp
      obtain ⟨b1, o1, eb, hrs⟩ := hpath.lie p _ htp.1
      injection eb with eb
      injection eb with eb1 eb2 _
      subst eb1
      subst eb2
      obtain ⟨b1, o1, eb, hrt⟩ := hpath.lie q _ htp.2
      injection eb with eb
      injection eb with eb1 eb2 _
      subst eb1
      subst eb2
      rw [Nat.zero_add] at hrs hrt
      have hnode := fun V => rnode_any r x V hr32 h8'
      rw [← Tr.node] at hnode
      have hbs := fun V => build_hash (Tr.node r x) hnl V
      have hflat : flat rs'.reverse ++ bvs (Tr.node r x) = flat (rs'.reverse ++ [Tr.node r x]) := (flat_snoc _ _).symm
      have hone := bvs_one (Tr.node r x)
      have hcl := bvs_length (Tr.node r x)
      rw [hnl] at hcl
      obtain ⟨x1, x2, x3⟩ := arr_hash (Tr.node r x) hnl
      have sS : (Tryd.prog.info? 34).map (·.size) = some (bvs x).length := by rw [bvs_length, h8']; exact size_hash'
      have sT : (Tryd.prog.info? 34).map (·.size) = some (bvs r).length := by rw [bvs_length, hr32]; exact size_hash'
      have sN : (Tryd.prog.info? 34).map (·.size) = some (bvs (Tr.node r x)).length := by rw [bvs_length, hnl]; exact size_hash'
      have hft : (flat (rs'.reverse ++ [r] ++ [x])).take (q * 32) = flat rs'.reverse := by
        have hl := flat_length rs'.reverse (fun p hp => HNEXT.out.2.2.2.2.2.2.2.1 p (List.mem_reverse.1 hp))
        rw [List.length_reverse, HNEXT.out.2.2.2.2.2.2.2.2.2] at hl
        rw [flat_snoc, flat_snoc, List.append_assoc, ← hl, List.take_left]
      have hst : (u64s (T.reverse ++ [kk] ++ [kk])).take (q * 1) = u64s T.reverse := by
        have hl : (u64s T.reverse).length = q := by rw [u64s_length, List.length_reverse]; exact HNEXT.out.1
        rw [u64s_append, u64s_append, List.append_assoc, Nat.mul_one, ← hl, List.take_left]
      obtain ⟨CS, hCS⟩ : ∃ L, bvs x = L := ⟨_, rfl⟩
      obtain ⟨CT, hCT⟩ : ∃ L, bvs r = L := ⟨_, rfl⟩
      obtain ⟨CN, hCN⟩ : ∃ L, bvs (Tr.node r x) = L := ⟨_, rfl⟩
      rw [hCS] at hrs hnode sS
      rw [hCT] at hrt hnode sT
      rw [hCN] at hnode hbs hflat hone hcl x1 x2 x3 sN
      have LS : Hid (∀ V, Later wq V → V.rangeAt g7 (p * 32) CS) := Lib.hid (fun V hV => range_keeps hrs hV.out (fun _ _ => id))
      have LT : Hid (∀ V, Later wq V → V.rangeAt g7 (q * 32) CT) := Lib.hid (fun V hV => range_keeps hrt hV.out (fun _ _ => id))
      have NODE : Hid (∀ V, Calls Tryd.prog 49 #[.agg CT.toArray, .agg CS.toArray] V fun e w' => e = .returned (.agg CN.toArray) ∧ Keeps (fun _ => False) V w') := Lib.hid hnode
      have HBS' := Lib.hid hbs
      have HFL := Lib.hid hflat
      have HONE' := Lib.hid hone
      have HCL := Lib.hid hcl
      have X1 := Lib.hid x1
      have X2 := Lib.hid (HZS.out.trans x2.symm)
      have X3 := Lib.hid x3
      have SS := Lib.hid sS
      have ST := Lib.hid sT
      have SN := Lib.hid sN
      have HFT := Lib.hid (And.intro hft hst)
      clear hrs hrt hnode hbs hflat hone hcl x1 x2 x3 sS sT sN hnl hCS hCT hCN hpath htp hr32 h8' hft hst HBS HONE
      go_wp2_with fail
      refine wp_region_stores 13 [11, 12] [0, 1, 2, 3, 4, 5, 6, 7, 8, 9, 10, 11, 12] (Later wq) (fun _ => True) (by kernel_rfl) (by kernel_rfl) (Lasts.later wq) (Lasts.true) (⟨(Keeps.refl _ _).drew⟩) (trivial) ?_
      refine T_quiet (get_op rfl) (by rfl) (by rfl) (by rfl) ?_
      intro K hK
      go_big_quiet_op
      first | go_big_quiet_on | go_big_quiet_call ((intro _; rfl))
      refine T_quiet (get_op rfl) (by rfl) (by rfl) (by rfl) ?_
      intro K hK
      go_big_quiet_op
      first | go_big_quiet_on | go_big_quiet_call ((intro _; rfl))
      refine T_quiet (get_op rfl) (by rfl) (by rfl) (by rfl) ?_
      intro K hK
      go_big_quiet_op
      first | go_big_quiet_on | go_big_quiet_call ((intro _; rfl))
      refine T_quiet (get_op rfl) (by rfl) (by rfl) (by rfl) ?_
      intro K hK
      go_big_quiet_op
      first | go_big_quiet_on | go_big_quiet_call ((intro _; rfl))
      refine T_load (get_op rfl) (by rfl) (by rfl) 34 (.tmp 52) (by rfl) g7 (q * 32) (by rfl) CT _ (fun V hV => LT.out V hV) Tryd.underlying34 rfl ST.out ?_
      simp only [Act.put, List.setIfInBounds_toArray, List.set_cons_zero, List.set_cons_succ]
      refine T_quiet (get_op rfl) (by rfl) (by rfl) (by rfl) ?_
      intro K hK
      go_big_quiet_op
      first | go_big_quiet_on | go_big_quiet_call ((intro _; rfl))
      refine T_quiet (get_op rfl) (by rfl) (by rfl) (by rfl) ?_
      intro K hK
      go_big_quiet_op
      first | go_big_quiet_on | go_big_quiet_call ((intro _; rfl))
      refine T_quiet (get_op rfl) (by rfl) (by rfl) (by rfl) ?_
      intro K hK
      go_big_quiet_op
      first | go_big_quiet_on | go_big_quiet_call ((intro _; rfl))
      refine T_quiet (get_op rfl) (by rfl) (by rfl) (by rfl) ?_
      intro K hK
      go_big_quiet_op
      first | go_big_quiet_on | go_big_quiet_call ((intro _; rfl))
      refine T_load (get_op rfl) (by rfl) (by rfl) 34 (.tmp 57) (by rfl) g7 (p * 32) (by rfl) CS _ (fun V hV => LS.out V hV) Tryd.underlying34 rfl SS.out ?_
      simp only [Act.put, List.setIfInBounds_toArray, List.set_cons_zero, List.set_cons_succ]
      refine T_call (get_op rfl) (by rfl) (by rfl) _ _ (.agg CN.toArray) (fun _ => by go_simp) (fun V hV => NODE.out V) ?_
      simp only [Act.put, List.setIfInBounds_toArray, List.set_cons_zero, List.set_cons_succ]
      refine T_alloc (get_op rfl) (by rfl) (by rfl) 34 Z (by rfl) HAL.out (Lasts.later wq) Lasts.true wq.heap.size (fun V hV => hV.out.size) ?_
      intro g14 hge
      simp only [Act.put, List.setIfInBounds_toArray, List.set_cons_zero, List.set_cons_succ]
      refine T_store (get_op rfl) (by rfl) (by rfl) 34 (.tmp 9) (.tmp 59) (by rfl) (by rfl) g14 (by rfl) CN.toArray Z (by rfl) 34 X1.out X2.out X3.out (fun V => V.heap[g14]? = some (.cells CN.toArray 34 (0, 0))) (Lasts.block _ _) (fun V hb hf => ⟨hf.2, ⟨hb.out.trans' (Keeps.setRow _ _) (fun i hi h => by omega)⟩, setRow_heap _ _ _ _ _ _ hf.2⟩) ?_
      refine T_nil ?_
      intro V6 h6 r6
      have HK8 := Lib.hid (HK7.out.later h6.out)
      have hh8 := HK8.out.hash
      rw [HLS.out.1] at hh8
      have hop := own_prefix5 hh8 (k := q) (by omega) (by omega)
      clear hh8
      rw [HFT.out.1] at hop
      have HOP := Lib.hid hop
      have R6 := Lib.hid r6
      have K6 : Hid (∀ V, Later V6 V → V.rangeAt g14 0 CN) := Lib.hid (fun V hV => rangeAt_row ((hV.out.block _ (Array.getElem?_eq_some_iff.1 r6).1 id).trans r6))
      clear hop h6 r6 hge LS LT HK7
      simp only [List.drop_succ_cons, List.drop_zero]
      go_wp2_with fail
      refine wp_region_stores 6 [5] [0, 1, 2, 3, 4, 5] (Later V6) (fun _ => True) (by kernel_rfl) (by kernel_rfl) (Lasts.later V6) (Lasts.true) (⟨(Keeps.refl _ _).drew⟩) (trivial) ?_
      refine T_quiet (get_op rfl) (by rfl) (by rfl) (by rfl) ?_
      intro K hK
      go_big_quiet_op
      first | go_big_quiet_on | go_big_quiet_call ((intro _; rfl))
      refine T_quiet (get_op rfl) (by rfl) (by rfl) (by rfl) ?_
      intro K hK
      go_big_quiet_op
      first | go_big_quiet_on | go_big_quiet_call ((intro _; rfl))
      refine T_quiet (get_op rfl) (by rfl) (by rfl) (by rfl) ?_
      intro K hK
      go_big_quiet_op
      first | go_big_quiet_on | go_big_quiet_call ((intro _; rfl))
      refine T_quiet (get_op rfl) (by rfl) (by rfl) (by rfl) ?_
      intro K hK
      go_big_quiet_op
      first | go_big_quiet_on | go_big_quiet_call ((intro _; rfl))
      refine T_load (get_op rfl) (by rfl) (by rfl) 34 (.tmp 9) (by rfl) g14 0 (by rfl) CN _ (fun V hV => K6.out V hV) Tryd.underlying34 rfl SN.out ?_
      simp only [Act.put, List.setIfInBounds_toArray, List.set_cons_zero, List.set_cons_succ]
      refine T_build (get_op rfl) (by rfl) (by rfl) 28 34 (.tmp 64) (.agg CN.toArray) CN.toArray (by rfl) (by rfl) HBS'.out (Lasts.later V6) Lasts.true V6.heap.size (fun V hV => hV.out.size) ?_
      intro g15 hge7
      simp only [Act.put, List.setIfInBounds_toArray, List.set_cons_zero, List.set_cons_succ]
      refine T_nil ?_
      intro V7 h7 r7
      have HK9 := Lib.hid (HK8.out.later h7.out)
      have HOP7 := Lib.hid (h7.out.owns HOP.out (fun _ _ => id))
      have hlt7 := HK9.out.keep.size
      have R7 := Lib.hid r7.2
      clear h7 r7 hge7 K6 R6 HOP HK8
      simp only [List.drop_succ_cons, List.drop_zero]
      go_wp2_with (refine wpList_append_own _ (by rfl) (.tmp 63) (.tmp 65) 28 (by rfl) W2.heap.size 34 ih zh 32 32 Tryd.underlying28 HHH.out.1 HHH.out.2.1 HHH.out.2.2.1 HHH.out.2.2.2.1 HHH.out.2.2.2.2 (by decide) (.slice (some ⟨g7, 0, none⟩) q c7) q (flat rs'.reverse) (by rfl) HOP7.out ⟨g15, 0, none⟩ 1 1 CN (by rfl) (by rw [HCL.out]) (World.news_of_block R7.out) HONE'.out (by unfold maxLen; omega) (by omega) hlt7 ?_; intro v8 w8 ho8 hg8 _; have HO8 := Lib.hid ho8; have HG8 := Lib.hid hg8; obtain ⟨A8, c8, rfl⟩ := own_slice ho8; clear ho8 hg8)
      have HSZ8 := Lib.hid (HK9.out.hashed (hv2 := .slice (some ⟨g7, 0, none⟩) q c7) rfl HG8.out)
      have htn := two_top5 T.reverse kk kk q (by rw [List.length_reverse]; exact HNEXT.out.1)
      have hcs8 := HSZ8.out.1.cells (g := g6) rfl (q + 1) (.int .u64 (kk : Int)) (by unfold u64s; rw [List.getElem?_map, htn.1]; rfl)
      rw [add_plain, Nat.zero_add, HP.out] at hcs8
      have hh8 := HSZ8.out.1
      rw [HLS.out.2] at hh8
      have hop := own_prefix5 hh8 (k := q) (by omega) (by omega)
      clear hh8 htn
      rw [HFT.out.2] at hop
      have HOP8 := Lib.hid hop
      have C8 : Hid (∀ V, Later w8 V → V.cell? ⟨g6, p, none⟩ = some (.int .u64 (kk : Int))) := Lib.hid (fun V hV => (hV.out.cell (World.block_lt_of_cell? w8 _ hcs8) id).trans hcs8)
      have hmul1 : (0 : Int) ≤ kk := by omega
      have hmul2 : 2 * (kk : Int) ≤ 9223372036854775808 := by omega
      have hmul3 : IntKind.u64.wrap (2 * (kk : Int)) = 2 * (kk : Int) := IntWalk.u64_in _ (by omega)
      clear hop hcs8 HK9 HOP7 R7 hlt7
      have hbi : ∀ V, (Instr.buildSlice 45 1 #[(0, .int .u64 (2 * (kk : Int)))]).run Tryd.prog V = .ok (.slice (some ⟨V.heap.size, 0, none⟩) 1 1) (V.alloc (.cells #[.int .u64 (2 * (kk : Int))] 23)) := fun V => by kernel_rfl
      have HBI := Lib.hid hbi
      clear hbi
      go_wp2_with fail
      refine wp_region_stores 11 [10] [0, 1, 2, 3, 4, 5, 6, 7, 8, 9, 10] (Later w8) (fun _ => True) (by kernel_rfl) (by kernel_rfl) (Lasts.later w8) (Lasts.true) (⟨(Keeps.refl _ _).drew⟩) (trivial) ?_
      refine T_quiet (get_op rfl) (by rfl) (by rfl) (by rfl) ?_
      intro K hK
      go_big_quiet_op
      first | go_big_quiet_on | go_big_quiet_call ((intro _; rfl))
      refine T_quiet (get_op rfl) (by rfl) (by rfl) (by rfl) ?_
      intro K hK
      go_big_quiet_op
      first | go_big_quiet_on | go_big_quiet_call ((intro _; rfl))
      refine T_quiet (get_op rfl) (by rfl) (by rfl) (by rfl) ?_
      intro K hK
      go_big_quiet_op
      first | go_big_quiet_on | go_big_quiet_call ((intro _; rfl))
      refine T_quiet (get_op rfl) (by rfl) (by rfl) (by rfl) ?_
      intro K hK
      go_big_quiet_op
      first | go_big_quiet_on | go_big_quiet_call ((intro _; rfl))
      refine T_quiet (get_op rfl) (by rfl) (by rfl) (by rfl) ?_
      intro K hK
      go_big_quiet_op
      first | go_big_quiet_on | go_big_quiet_call ((intro _; rfl))
      refine T_quiet (get_op rfl) (by rfl) (by rfl) (by rfl) ?_
      intro K hK
      go_big_quiet_op
      first | go_big_quiet_on | go_big_quiet_call ((intro _; rfl))
      refine T_quiet (get_op rfl) (by rfl) (by rfl) (by rfl) ?_
      intro K hK
      go_big_quiet_op
      first | go_big_quiet_on | go_big_quiet_call ((intro _; rfl))
      refine T_quiet (get_op rfl) (by rfl) (by rfl) (by rfl) ?_
      intro K hK
      go_big_quiet_op
      first | go_big_quiet_on | go_big_quiet_call ((intro _; rfl))
      refine T_cell (get_op rfl) (by rfl) (by rfl) 23 (.tmp 74) (by rfl) ⟨g6, p, none⟩ (by rfl) (.int .u64 (kk : Int)) _ (fun V hV => C8.out V hV) Tryd.underlying23 rfl ?_
      simp only [Act.put, List.setIfInBounds_toArray, List.set_cons_zero, List.set_cons_succ]
      refine T_value (get_op rfl) (by rfl) (by rfl) (.int .u64 (2 * (kk : Int))) (fun _ _ => by go_simp) ?_
      simp only [Act.put, List.setIfInBounds_toArray, List.set_cons_zero, List.set_cons_succ]
      refine T_build (get_op rfl) (by rfl) (by rfl) 45 23 (.tmp 76) (.int .u64 (2 * (kk : Int))) #[.int .u64 (2 * (kk : Int))] (by rfl) (by rfl) HBI.out (Lasts.later w8) Lasts.true w8.heap.size (fun V hV => hV.out.size) ?_
      intro g16 hge10
      simp only [Act.put, List.setIfInBounds_toArray, List.set_cons_zero, List.set_cons_succ]
      refine T_nil ?_
      intro V10 h10 r10
      have hlt10 := (HSZ8.out.2.trans h10.out).size
      have HOP10 := Lib.hid (h10.out.owns HOP8.out (fun _ _ => id))
      have HH10 := Lib.hid (h10.out.owns HO8.out (fun _ _ => id))
      have HK10 := Lib.hid (HSZ8.out.2.trans h10.out)
      have R10 := Lib.hid r10.2
      clear h10 r10 hge10 C8 HOP8 HSZ8
      simp only [List.drop_succ_cons, List.drop_zero]
      go_wp2_with (refine wpList_append_own _ (by rfl) (.tmp 70) (.tmp 77) 45 (by rfl) W2.heap.size 23 i0 (.int .u64 0) 1 8 Tryd.underlying45 HII.out.1 HII.out.2.1 HII.out.2.2.1 HII.out.2.2.2 rfl (by decide) (.slice (some ⟨g6, 0, none⟩) q c6) q (u64s T.reverse) (by rfl) HOP10.out ⟨g16, 0, none⟩ 1 1 [.int .u64 (2 * (kk : Int))] (by rfl) (by rfl) (World.news_of_block R10.out) (by intro u hu; rw [List.mem_singleton] at hu; subst hu; rfl) (by unfold maxLen; omega) (by omega) hlt10 ?_; intro v11 w11 ho11 hg11 _; have HO11 := Lib.hid ho11; have HG11 := Lib.hid hg11; obtain ⟨A11, c11, rfl⟩ := own_slice ho11; clear ho11 hg11)
      have HK11 : Hid (Stk5 W2 (rs'.reverse ++ [Tr.node r x]) (T.reverse ++ [2 * kk]) (.slice A8 (q + 1) c8) (.slice A11 (q + 1) c11) w11) := Lib.hid (by
        have hh := HH10.out
        rw [HFL.out] at hh
        have e1 : (rs'.reverse ++ [Tr.node r x]).length = q + 1 := by rw [List.length_append, List.length_reverse, HNEXT.out.2.2.2.2.2.2.2.2.2]; rfl
        have e2 : (T.reverse ++ [2 * kk]).length = q + 1 := by rw [List.length_append, List.length_reverse, HNEXT.out.1]; rfl
        have ho := HO11.out
        have e3 : u64s T.reverse ++ [.int .u64 (2 * (kk : Int))] = u64s (T.reverse ++ [2 * kk]) := by rw [u64s_append]; rfl
        rw [e3, ← e2] at ho
        rw [← e1] at hh
        exact Stk5.sized (sv2 := .slice (some ⟨g6, 0, none⟩) q c6) (by rw [e1] at hh ⊢; exact hh) HOP10.out HK10.out rfl HG11.out (by rw [e2] at ho ⊢; exact ho))
      clear HO11 HG11 HOP10 HK10 HH10 R10 HO8 HG8
      go_wp2_with fail
      go_roundw
      case rel => exact ⟨q + 1, g, 2 * kk, left / 2, rs', Tr.node r x, A11, A8, c11, c8, rfl, rfl, by go_num, by omega, Lib.hid ⟨by rw [HNEXT.out.2.2.2.2.2.2.2.2.2], by rw [HNEXT.out.2.2.2.2.2.2.2.2.1, HNEXT.out.1]; exact HNEXT.out.2.2.2.2.2.2.2.2.2, HNEXT.out.2.1, HNEXT.out.2.2.1, HNEXT.out.2.2.2.1, HNEXT.out.2.2.2.2.1, HNEXT.out.2.2.2.2.2.1, HNEXT.out.2.2.2.2.2.2.1, HNEXT.out.2.2.2.2.2.2.2.1⟩, by rw [HNEXT.out.2.2.2.2.2.2.2.2.1]; exact HK11⟩
      case measure => simp [intOf]; omega
    · have hend : ∀ V, Keeps (fun _ => False) wr V → Stk5 W2 R0.reverse (Tr.pts (n + 1)) (.slice A7 s c7) (.slice A6 s c6) V ∧ R0.reverse.length = s := fun V hV => by
        obtain ⟨h1, h2, h3, h4, h5, h6, h7, h8, h9⟩ := HD.out
        have he : left % 2 = 0 := by omega
        rw [Tr.carry_even _ _ _ he] at h6
        rw [Tr.asc_even _ _ _ he] at h7
        have e1 : Tr.pts (n + 1) = (Tr.asc (g + 1) kk left).reverse ++ [kk] := by unfold Tr.pts; rw [← h7, List.reverse_cons]
        have e2 : R0.reverse = rs.reverse ++ [x] := by rw [← h6, List.reverse_cons]
        rw [e1, e2]
        exact ⟨HK.out.later hV, by rw [List.length_append, List.length_reverse, h1]; rfl⟩
      have HEND := Lib.hid hend
      have hkw : ∀ V, Keeps (fun _ => False) wr V → Keeps (fun _ => False) W2 V := fun V hV => HK.out.keep.trans hV
      have HKW := Lib.hid hkw
      have HEV : Hid (left % 2 = 0) := Lib.hid (by omega)
      have hn1 : (n : Int) + 1 ≤ 18446744073709551615 := by omega
      clear hend hkw hodd
      by_cases hs1 : s = 1
      · have hs1' : ¬ (1 : Int) < s := by omega
        have hs1d : decide ((1 : Int) < s) = false := by rw [decide_eq_false_iff_not]; exact hs1'
        clear hs1
        go_wp2_with fail
        go_quiet (fail)
        obtain ⟨wz, hwz⟩ : ∃ V, wr.drewN nq = V := ⟨_, rfl⟩
        have hz : Later wr wz := by rw [← hwz]; exact ⟨(Keeps.refl _ _).drewN nq⟩
        rw [hwz]
        clear hwz
        have hz2 := HEND.out wz hz.out
        have kz := HKW.out wz hz.out
        have hcz := HCN.out wz kz
        have r2z : wz.heap[B2]? = some (.cells (fval 0 (.slice none 0 0) (.slice none 0 0)).toArray 47 (0, 0)) := (kz.block _ (Array.getElem?_eq_some_iff.1 R2.out).1 id).trans R2.out
        obtain ⟨w9, hw9⟩ : ∃ V, wz.setRow B2 (fval (n + 1) (.slice A6 s c6) (.slice A7 s c7)).toArray = V := ⟨_, rfl⟩
        have r9 : w9.heap[B2]? = some (.cells (fval (n + 1) (.slice A6 s c6) (.slice A7 s c7)).toArray 47 (0, 0)) := by rw [← hw9]; exact setRow_heap _ _ _ _ _ _ r2z
        have k9 : Keeps (fun k => k = B2) wz w9 := by rw [← hw9]; exact Keeps.setRow _ _
        have hS9 := k9.owns hz2.1.size (fun k e hk => own_apart hz2.1.size (show Row wz B2 47 (fval 0 (.slice none 0 0) (.slice none 0 0)) from r2z) (by decide) k e hk)
        have hH9 := k9.owns hz2.1.hash (fun k e hk => own_apart hz2.1.hash (show Row wz B2 47 (fval 0 (.slice none 0 0) (.slice none 0 0)) from r2z) (by decide) k e hk)
        have hpl9 : (Tr.pts (n + 1)).length = s := by
          obtain ⟨h1, h2, h3, h4, h5, h6, h7, h8, h9⟩ := HD.out
          unfold Tr.pts
          rw [List.length_reverse, ← h7, Tr.asc_even _ _ _ HEV.out, List.length_cons, ← h2]
          exact h1.symm
        rw [hpl9] at hS9
        have hHl := hz2.2
        rw [hHl] at hH9
        have KF := Lib.hid ((K12.out.trans kz).trans' k9 (fun i hi e => by have := HBW.out; omega))
        have HS9 := Lib.hid hS9
        have HH9 := Lib.hid hH9
        have R9 := Lib.hid r9
        have R2Z := Lib.hid r2z
        have HHL := Lib.hid hHl
        clear hz2 kz r2z r9 k9 hS9 hH9 hHl hpl9
        go_wp2_with (first
          | (refine wpList_store_row rfl 47 _ _ rfl B2 (fval (n + 1) (.slice A6 s c6) (.slice A7 s c7)).toArray rfl rfl 47 _ R2Z.out (fval_size _ _ _) rfl (fval_one _ _ _ _ _ _ _) ?_; rw [hw9]))
        refine bodyPost_ret (results_cell_tmp5 rfl _ _ B2 47 _ (0, 0) _ _ rfl R9.out Tryd.underlying47 rfl (fval_size _ _ _) rfl) rfl ?_
        exact ⟨A6, c6, A7, c7, by rw [HHL.out]; rfl, by rw [HHL.out]; exact own_base HS9.out (by have := HBW.out; omega), by rw [HHL.out]; exact own_base HH9.out (by have := HBW.out; omega), KF.out⟩
      · obtain ⟨q, hq⟩ : ∃ q, s = q + 2 := ⟨s - 2, by have := HD.out.1; omega⟩
        obtain ⟨tv, TT, hT⟩ : ∃ t T, Tr.asc (g + 1) kk left = t :: T := by
          cases h : Tr.asc (g + 1) kk left with
          | nil =>
            have h1 := HD.out.1
            have h2 := HD.out.2.1
            rw [h, List.length_nil] at h2
            omega
          | cons t T => exact ⟨t, T, rfl⟩
        have hqT : TT.length = q := by
          have h1 := HD.out.1
          have h2 := HD.out.2.1
          rw [hT, List.length_cons] at h2
          omega
        have hne := Tr.asc_other g kk left tv HEV.out hkk1 (by rw [hT]; simp)
        have hsz := HK.out.size
        rw [hT, List.reverse_cons] at hsz
        obtain ⟨g6, c6', e6⟩ := own_top hsz (by simp)
        injection e6 with e6 e61 e62
        subst e6
        subst e62
        have htp := two_top5 TT.reverse tv kk q (by rw [List.length_reverse]; exact hqT)
        have cp := hsz.cells (g := g6) rfl (q + 1) (.int .u64 (kk : Int)) (by unfold u64s; rw [List.getElem?_map, htp.1]; rfl)
        have cq := hsz.cells (g := g6) rfl q (.int .u64 (tv : Int)) (by unfold u64s; rw [List.getElem?_map, htp.2]; rfl)
        rw [add_plain, Nat.zero_add] at cp cq
        obtain ⟨p, hp⟩ : ∃ p, q + 1 = p := ⟨_, rfl⟩
        rw [hp] at cp
        have CP : Hid (∀ V, Later wr V → V.cell? ⟨g6, p, none⟩ = some (.int .u64 (kk : Int))) := Lib.hid (fun V hV => (hV.out.cell (World.block_lt_of_cell? wr _ cp) id).trans cp)
        have CQ : Hid (∀ V, Later wr V → V.cell? ⟨g6, q, none⟩ = some (.int .u64 (tv : Int))) := Lib.hid (fun V hV => (hV.out.cell (World.block_lt_of_cell? wr _ cq) id).trans cq)
        have hs1' : (1 : Int) < s := by omega
        have hsp : (s : Int) - 1 = (p : Int) := by omega
        have hsq : (s : Int) - 2 = (q : Int) := by omega
        have hps : (p : Int) < s := by omega
        have hqs : (q : Int) < s := by omega
        have hneq : ((kk : Int) == (tv : Int)) = false := by simp; omega
        have hned : decide ((kk : Int) = (tv : Int)) = false := by simp; omega
        clear hT hqT hne hsz e61 htp hp hq hs1 CP CQ
        go_wp2_with fail
        go_quiet (fail)
        obtain ⟨wz, hwz⟩ : ∃ V, wr.drewN nq = V := ⟨_, rfl⟩
        have hz : Later wr wz := by rw [← hwz]; exact ⟨(Keeps.refl _ _).drewN nq⟩
        rw [hwz]
        clear hwz
        have hz2 := HEND.out wz hz.out
        have kz := HKW.out wz hz.out
        have hcz := HCN.out wz kz
        have r2z : wz.heap[B2]? = some (.cells (fval 0 (.slice none 0 0) (.slice none 0 0)).toArray 47 (0, 0)) := (kz.block _ (Array.getElem?_eq_some_iff.1 R2.out).1 id).trans R2.out
        obtain ⟨w9, hw9⟩ : ∃ V, wz.setRow B2 (fval (n + 1) (.slice (some ⟨g6, 0, none⟩) s c6) (.slice A7 s c7)).toArray = V := ⟨_, rfl⟩
        have r9 : w9.heap[B2]? = some (.cells (fval (n + 1) (.slice (some ⟨g6, 0, none⟩) s c6) (.slice A7 s c7)).toArray 47 (0, 0)) := by rw [← hw9]; exact setRow_heap _ _ _ _ _ _ r2z
        have k9 : Keeps (fun k => k = B2) wz w9 := by rw [← hw9]; exact Keeps.setRow _ _
        have hS9 := k9.owns hz2.1.size (fun k e hk => own_apart hz2.1.size (show Row wz B2 47 (fval 0 (.slice none 0 0) (.slice none 0 0)) from r2z) (by decide) k e hk)
        have hH9 := k9.owns hz2.1.hash (fun k e hk => own_apart hz2.1.hash (show Row wz B2 47 (fval 0 (.slice none 0 0) (.slice none 0 0)) from r2z) (by decide) k e hk)
        have hpl9 : (Tr.pts (n + 1)).length = s := by
          obtain ⟨h1, h2, h3, h4, h5, h6, h7, h8, h9⟩ := HD.out
          unfold Tr.pts
          rw [List.length_reverse, ← h7, Tr.asc_even _ _ _ HEV.out, List.length_cons, ← h2]
          exact h1.symm
        rw [hpl9] at hS9
        have hHl := hz2.2
        rw [hHl] at hH9
        have KF := Lib.hid ((K12.out.trans kz).trans' k9 (fun i hi e => by have := HBW.out; omega))
        have HS9 := Lib.hid hS9
        have HH9 := Lib.hid hH9
        have R9 := Lib.hid r9
        have R2Z := Lib.hid r2z
        have HHL := Lib.hid hHl
        clear hz2 kz r2z r9 k9 hS9 hH9 hHl hpl9
        go_wp2_with (first
          | (refine wpList_store_row rfl 47 _ _ rfl B2 (fval (n + 1) (.slice (some ⟨g6, 0, none⟩) s c6) (.slice A7 s c7)).toArray rfl rfl 47 _ R2Z.out (fval_size _ _ _) rfl (fval_one _ _ _ _ _ _ _) ?_; rw [hw9]))
        refine bodyPost_ret (results_cell_tmp5 rfl _ _ B2 47 _ (0, 0) _ _ rfl R9.out Tryd.underlying47 rfl (fval_size _ _ _) rfl) rfl ?_
        exact ⟨some ⟨g6, 0, none⟩, c6, A7, c7, by rw [HHL.out]; rfl, by rw [HHL.out]; exact own_base HS9.out (by have := HBW.out; omega), by rw [HHL.out]; exact own_base HH9.out (by have := HBW.out; omega), KF.out⟩
end Go.Proofs.YtnnhbgaeohdojaaDoor
