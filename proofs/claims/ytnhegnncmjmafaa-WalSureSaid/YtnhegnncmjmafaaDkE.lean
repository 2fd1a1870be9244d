/-
  Disks: a block is written. WRITTEN BY wip/gen/mkdke.py.
-/
import Derived.Test.YtnhegnncmjmafaaDkD
import Derived.Laws.Tables
namespace Go.Proofs.Ytnhegnncmjmafaa
open Go.RowKit Go.BigFrame
set_option linter.unusedVariables false

section
variable {P : Program} {ops : Array Oper} {B : World → Prop} {ls : List Nat} {E : Act → World → Prop} {k : Nat} {o : Oper} {rest : List Nat} {a : Act} {F : World → Prop}
/-- A struct is built, by its run. -/
theorem T_made (h0 : ops[k]? = some o) (hw : Region.wanted o (yielded ops a.tmps) = true) (hk : ls.contains k = false) (t : TypeId) (parts : List (Nat × Operand)) (ho : o.op = .build t parts.toArray) (vs : List (Nat × Value)) (hx : parts.map (fun (i, x) => (i, a.eval x)) = vs)
    (v : Value) (hrun : ∀ w, (Instr.build t vs.toArray).run P w = .ok v w) (h : wpT P ops B ls E rest (a.put o.dst v) F) : wpT P ops B ls E (k :: rest) a F :=
  T_value h0 hw hk v (fun w _ => by unfold execOp; simp only [ho, List.map_toArray, hx, Sem.run_bind, Sem.run_pure, Result.andThen_ok, hrun]) h
/-- One thing is appended to a row of the call's own. -/
theorem T_append_own (h0 : ops[k]? = some o) (hw : Region.wanted o (yielded ops a.tmps) = true) (hk : ls.contains k = true) (t : TypeId) (s x : Operand) (ho : o.op = .call { callee := .builtin .append, args := #[s, x], argTypes := #[t, t] })
    (e : TypeId) (i : TypeInfo) (z : Value) (size bytes : Nat) (ht : P.underlying t = some (.slice e)) (hi : P.info? e = some i) (hz : i.zero = some z) (hsize : i.size = size) (hby : i.bytes = bytes) (hzs : z.cells.size = size) (hsz : 0 < size)
    (A : Option Addr) (n c : Nat) (xs : List Value) (hs : a.eval s = .slice A n c) (gb c2 : Nat) (hx : a.eval x = .slice (some ⟨gb, 0, none⟩) 1 c2) (news : List Value) (hl : news.length = size) (h1 : ∀ u ∈ news, u.oneCell' = true)
    (h63 : n + 1 ≤ maxLen) (hbytes : (n + 1) * bytes ≤ 140737488355328) (G : Option Addr → Nat → World → Prop) (hG : ∀ A' c', Lasts (G A' c'))
    (hown : ∀ w, B w → F w → w.ownsRow 0 e size (.slice A n c) n xs ∧ w.heap[gb]? = some (.cells news.toArray e (0, 0)))
    (hK : ∀ w w' A' c', B w → F w → w'.ownsRow 0 e size (.slice A' (n + 1) c') (n + 1) (xs ++ news) → w.grownBy w' (Value.slice A n c).ownBlock → ((Value.slice A' (n + 1) c').ownBlock = (Value.slice A n c).ownBlock ∨ (Value.slice A' (n + 1) c').ownBlock = some w.heap.size) → B w' ∧ G A' c' w')
    (h : ∀ A' c', wpT P ops B ls E rest (a.put o.dst (.slice A' (n + 1) c')) (G A' c')) : wpT P ops B ls E (k :: rest) a F := by
  refine T_loose h0 hw hk (fun v => ∃ A' c', v = .slice A' (n + 1) c') (fun v w => ∃ A' c', v = .slice A' (n + 1) c' ∧ G A' c' w) ⟨fun v w w' hq hk => ?_, fun w hb hf => ?_⟩ ?_
  · obtain ⟨A', c', hv, hg⟩ := hq
    exact ⟨A', c', hv, hG A' c' w w' hg hk⟩
  · obtain ⟨h2, h3⟩ := hown w hb hf
    obtain ⟨v', w', hr, h4, h5, _, h7⟩ := run_append_own_at (P := P) w 0 t o.type e i z size bytes ht hi hz hsize hby hzs hsz (.slice A n c) n xs h2 ⟨gb, 0, none⟩ 1 c2 news (by omega) (World.news_of_block h3) h1 h63 hbytes (Nat.zero_le _)
    unfold execOp
    simp only [ho, resolve, invoke, builtin, Sem.run_bind, Sem.run_pure, Result.andThen_ok, List.map_toArray, List.map_cons, List.map_nil, hs, hx, hr]
    obtain ⟨A', c', rfl⟩ := own_slice h4
    obtain ⟨h8, h9⟩ := hK w w' A' c' hb hf h4 h5 h7
    exact ⟨h8, ⟨A', c', rfl⟩, A', c', rfl, h9⟩
  · rintro v ⟨A', c', rfl⟩
    refine T_alloc.wpT_weak (fun w ⟨A2, c2, h1, h2⟩ => ?_) (h A' c')
    injection h1 with h3 h4 h5
    subst h3
    subst h5
    exact h2
end
theorem fold_shift (off : Nat) : ∀ (R : List Value) (k : Nat) (cs : Array Value), (R.zipIdx k).foldl (fun cs (p : Value × Nat) => cs.setIfInBounds (off + p.2) p.1) cs = (R.zipIdx (off + k)).foldl (fun cs (p : Value × Nat) => cs.setIfInBounds p.2 p.1) cs
  | [], k, cs => rfl
  | c :: R, k, cs => by
    rw [List.zipIdx_cons, List.zipIdx_cons, List.foldl_cons, List.foldl_cons, fold_shift off R (k + 1)]
    rfl
theorem built_write (parts : List (Nat × Value)) : Try.prog.built 80 parts = Instr.fill ([(0, 1), (1, 256)].toArray[·]?) ((Value.int .i64 0) :: List.replicate 256 (Value.int .u8 0)).toArray parts := by kernel_rfl
theorem build_write (i : Nat) (xs : List UInt8) (hx : xs.length = 256) (V : World) : (Instr.build 80 #[(0, .int .i64 (i : Int)), (1, .agg (bvs xs).toArray)]).run Try.prog V = .ok (.agg (wcells (i, xs)).toArray) V := by
  refine run_build V 80 _ _ ?_
  rw [built_write]
  obtain ⟨Z, hZ⟩ : ∃ Z, List.replicate 256 (Value.int .u8 0) = Z := ⟨_, rfl⟩
  have hZl : Z.length = 256 := by rw [← hZ, List.length_replicate]
  rw [hZ]
  obtain ⟨R, hR⟩ : ∃ R, bvs xs = R := ⟨_, rfl⟩
  have hRl : R.length = 256 := by rw [← hR, bvs_length, hx]
  unfold wcells
  rw [hR]
  have hc1 : (Value.int .i64 (i : Int)).cells = #[Value.int .i64 (i : Int)] := rfl
  have hc2 : (Value.agg R.toArray).cells = R.toArray := rfl
  have e1 : ¬ ((1 : Nat) ≠ 1) := by decide
  unfold Instr.fill
  simp only [hc1, List.getElem?_toArray, List.getElem?_cons_zero]
  rw [if_neg (by simp)]
  unfold Instr.fill
  simp only [hc2, List.getElem?_cons_succ, List.getElem?_cons_zero]
  rw [if_neg (by simp [hRl, hZl])]
  unfold Instr.fill
  congr 1
  have h0 : (#[Value.int .i64 (i : Int)].zipIdx.foldl (fun cs (x : Value × Nat) => match x with | (c, j) => cs.setIfInBounds (0 + j) c) (Value.int IntKind.i64 0 :: Z).toArray) = (Value.int .i64 (i : Int) :: Z).toArray := by simp
  rw [h0, ← Array.foldl_toList, Array.toList_zipIdx]
  have h2 := fold_shift 1 R 0 (Value.int .i64 (i : Int) :: Z).toArray
  have h3 := fold_fill R 1 (Value.int .i64 (i : Int) :: Z).toArray (by simp [hRl, hZl])
  rw [Nat.add_zero] at h2
  refine Eq.trans ?_ (h2.trans h3 |>.trans ?_)
  · rfl
  · simp
theorem info_write : (Try.prog.info? 80).map (fun i => (i.zero.map (·.cells.size), i.size, i.bytes)) = some (some 257, 257, 264) := by kernel_rfl
theorem info_wr : ∃ (ih : TypeInfo) (zh : Value), Try.prog.info? 80 = some ih ∧ ih.zero = some zh ∧ ih.size = 257 ∧ ih.bytes = 264 ∧ zh.cells.size = 257 := by
  have h := info_write
  obtain ⟨ih, hi, h⟩ := Option.map_eq_some_iff.1 h
  simp only [Prod.mk.injEq] at h
  obtain ⟨zh, hz, hc⟩ := Option.map_eq_some_iff.1 h.1
  exact ⟨ih, zh, hi, hz, h.2.1, h.2.2, hc⟩
theorem build_writes (R : Array Value) (hR : R.size = 257) (V : World) : (Instr.buildSlice 57 1 #[(0, .agg R)]).run Try.prog V = .ok (.slice (some ⟨V.heap.size, 0, none⟩) 1 1) (V.alloc (.cells R 80)) := by
  obtain ⟨ih, zh, hi, hz, hs, hb, hc⟩ := info_wr
  exact run_buildSlice_one V 57 80 Try.underlying57 hi R (by rw [hR, hs]) (by omega) (by omega) zh (by simp [zeroValue, typeInfo, hi, hz])
theorem write_none (w : World) (i : Int) (v : Value) : Calls Try.prog 37 #[.pointer none, .int .i64 i, v] w fun e w' => e = .returned (.int .i64 1) ∧ w' = w := by
  have hat := at_none w i
  have HAT := Lib.hid hat
  clear hat
  go_enter Try.func37, Try.ntmps37
  go_wp2_with fail
  refine HAT.out.mono ?_
  rintro e w1 ⟨rfl, h1⟩
  obtain rfl : w = w1 := h1.symm
  go_wp2
  go_ret
  exact ⟨rfl, rfl⟩
/-- A dead disk, or a block that there isn't. -/
theorem write_at (w : World) (F : Nat → Prop) (g : Nat) (s : Dk.St) (i : Int) (v : Value) (h : DskAt w F g s) (hne : Dk.atE s i ≠ 0) : Calls Try.prog 37 #[.pointer (some ⟨g, 0, none⟩), .int .i64 i, v] w fun e w' => e = .returned (.int .i64 (Dk.atE s i)) ∧ w' = w := by
  have hat := at_any w F g s i h
  obtain ⟨x, hx⟩ : ∃ x, Dk.atE s i = x := ⟨_, rfl⟩
  rw [hx] at hat hne ⊢
  have hb : (x != 0) = true := by simpa using hne
  have HAT := Lib.hid hat
  clear hat hx h
  go_enter Try.func37, Try.ntmps37
  go_wp2_with fail
  refine HAT.out.mono ?_
  rintro e w1 ⟨rfl, h1⟩
  obtain rfl : w = w1 := h1.symm
  go_wp2
  go_ret
  exact ⟨rfl, rfl⟩
/-- Bytes that are no block's. -/
theorem write_arg (w : World) (F : Nat → Prop) (g : Nat) (s : Dk.St) (i : Int) (A : Option Addr) (l c : Nat) (h : DskAt w F g s) (hne : Dk.atE s i = 0) (hl : l ≠ 256) : Calls Try.prog 37 #[.pointer (some ⟨g, 0, none⟩), .int .i64 i, .slice A l c] w fun e w' => e = .returned (.int .i64 1) ∧ w' = w := by
  have hat := at_any w F g s i h
  rw [hne] at hat
  have hb : ((l : Int) != 256) = true := by simp; omega
  have HAT := Lib.hid hat
  clear hat h hne
  go_enter Try.func37, Try.ntmps37
  go_wp2_with fail
  refine HAT.out.mono ?_
  rintro e w1 ⟨rfl, h1⟩
  obtain rfl : w = w1 := h1.symm
  go_wp2
  go_ret
  exact ⟨rfl, rfl⟩
/-- The call that fails. -/
theorem write_downM (w : World) (F : Nat → Prop) (g gb lb : Nat) (s : Dk.St) (i : Int) (A : Option Addr) (c : Nat) (h : DskM w F g s gb lb) (hne : Dk.atE s i = 0) (hg : Dk.goes s = false) : Calls Try.prog 37 #[.pointer (some ⟨g, 0, none⟩), .int .i64 i, .slice A 256 c] w fun e w' => e = .returned (.int .i64 30) ∧ DskM w' F g (Dk.cnt s) gb lb ∧ Keeps (fun k => k = g) w w' := by
  have hat := at_any w F g s i ⟨gb, lb, h⟩
  rw [hne] at hat
  have hco := count_anyM w F g gb lb s h
  have hce : Dk.cntE s = 30 := by unfold Dk.cntE; rw [hg]; rfl
  rw [hce] at hco
  have HAT := Lib.hid hat
  have HCO := Lib.hid hco
  clear hat h hne hco hg hce
  go_enter Try.func37, Try.ntmps37
  go_wp2_with fail
  refine HAT.out.mono ?_
  rintro e w1 ⟨rfl, h1⟩
  obtain rfl : w = w1 := h1.symm
  go_wp2_with fail
  refine HCO.out.mono ?_
  rintro e w1 ⟨rfl, hd, hk⟩
  go_wp2
  go_ret
  exact ⟨rfl, hd, hk⟩
/-- The call that fails. -/
theorem write_down (w : World) (F : Nat → Prop) (g : Nat) (s : Dk.St) (i : Int) (A : Option Addr) (c : Nat) (h : DskAt w F g s) (hne : Dk.atE s i = 0) (hg : Dk.goes s = false) : Calls Try.prog 37 #[.pointer (some ⟨g, 0, none⟩), .int .i64 i, .slice A 256 c] w fun e w' => e = .returned (.int .i64 30) ∧ DskAt w' F g (Dk.cnt s) ∧ Keeps (fun k => k = g) w w' := by
  obtain ⟨gb, lb, h⟩ := h
  refine (write_downM w F g gb lb s i A c h hne hg).mono ?_
  rintro e w' ⟨h1, h2, h3⟩
  exact ⟨h1, ⟨gb, lb, h2⟩, h3⟩
set_option maxRecDepth 100000 in
set_option maxHeartbeats 4000000 in
/-- A block is written. -/
theorem write_okM (w : World) (F : Nat → Prop) (g gb lb : Nat) (s : Dk.St) (h : DskM w F g s gb lb) (hF : ∀ k, w.heap.size ≤ k → F k) (i : Nat) (hi : i < s.n) (hd : s.dead = false) (hg : Dk.goes s = true) (X cx : Nat) (xs : List UInt8) (hxl : xs.length = 256) (hX : w.rangeAt X 0 (bvs xs)) (hXF : ¬ F X) (hn : s.loose.length ≤ 1000) :
    Calls Try.prog 37 #[.pointer (some ⟨g, 0, none⟩), .int .i64 (i : Int), .slice (some ⟨X, 0, none⟩) 256 cx] w fun e w' => e = .returned (.int .i64 0) ∧ DskM w' F g { Dk.cnt s with loose := s.loose ++ [(i, xs)] } gb lb ∧ Keeps F w w' := by
  have hat := at_any w F g s i ⟨gb, lb, h⟩
  have hne : Dk.atE s (i : Int) = 0 := by unfold Dk.atE; rw [hd, if_neg (by decide), if_neg (by omega)]
  rw [hne] at hat
  have hco := count_anyM w F g gb lb s h
  have hce : Dk.cntE s = 0 := by unfold Dk.cntE; rw [hg]; rfl
  rw [hce] at hco
  have hcl : (Dk.cnt s).loose = s.loose := Dk.cnt_loose s
  have hcg : (Dk.cnt s).good = s.good := Dk.cnt_good s
  obtain ⟨s1, hs1⟩ : ∃ s1, Dk.cnt s = s1 := ⟨_, rfl⟩
  rw [hs1] at hco hcl ⊢
  rw [← hcl] at hn ⊢
  have hsn : (Dk.cnt s).n = s.n := Dk.cnt_n s
  rw [hs1] at hsn
  obtain ⟨ih, zh, hih, hzh, hsh, hbh, hzsh⟩ := info_wr
  have HAT := Lib.hid hat
  have HCO := Lib.hid hco
  have HXX := Lib.hid hX
  have HF := Lib.hid hF
  have HXLEN := Lib.hid hxl
  clear hat h hne hco hg hce hcl hcg hs1 hX hF hd
  go_enter Try.func37, Try.ntmps37
  go_wp2_with fail
  refine HAT.out.mono ?_
  rintro e w1 ⟨rfl, h1⟩
  obtain rfl : w = w1 := h1.symm
  go_wp2_with fail
  refine HCO.out.mono ?_
  rintro e w1 ⟨rfl, hd1, hk1⟩
  obtain ⟨A, c, gf, lf, hD⟩ := hd1
  have hXg : X ≠ g := fun e => hXF (by rw [e]; exact hD.fg)
  have hXl : X ≠ lb := fun e => hXF (by rw [e]; exact hD.flb)
  have hXo : ∀ k, (Value.slice A s1.loose.length c).ownBlock = some k → X ≠ k := fun k hv e => hXF (by rw [e]; exact hD.fown k hv)
  have hX1 : w1.rangeAt X 0 (bvs xs) := fun j v hv => (hk1.cell (p := ⟨X, 0 + j, none⟩) (World.block_lt_of_cell? w _ (HXX.out j v hv)) hXg).trans (HXX.out j v hv)
  obtain ⟨n, hnn⟩ : ∃ n, s1.loose.length = n := ⟨_, rfl⟩
  obtain ⟨LS, hLS⟩ : ∃ L, flatW s1.loose = L := ⟨_, rfl⟩
  obtain ⟨XC, hXC⟩ : ∃ L, bvs xs = L := ⟨_, rfl⟩
  obtain ⟨NW, hNW⟩ : ∃ L, wcells (i, xs) = L := ⟨_, rfl⟩
  have hrow := hD.row
  have hown := hD.own
  rw [hnn] at hrow hown hXo hn
  rw [hLS] at hown
  rw [hXC] at hX1
  have hxcl : XC.length = 256 := by rw [← hXC, bvs_length, hxl]
  have hnwl : NW.length = 257 := by rw [← hNW]; exact wcells_length (i, xs) hxl
  have HC3 : Hid (∀ V, Later w1 V → V.cell? ⟨g, 3, none⟩ = some (.map (some lb))) := Lib.hid (fun V hV => (hrow.keeps hV.out id).cell 3)
  have HC2 : Hid (∀ V, Later w1 V → V.cell? ⟨g, 2, none⟩ = some (.slice A n c)) := Lib.hid (fun V hV => (hrow.keeps hV.out id).cell 2)
  have HBW : Hid (∀ V : World, (Instr.build 80 #[(0, .int .i64 (i : Int)), (1, .agg XC.toArray)]).run Try.prog V = .ok (.agg NW.toArray) V) := Lib.hid (fun V => by rw [← hXC, ← hNW]; exact build_write i xs hxl V)
  have HBS : Hid (∀ V : World, (Instr.buildSlice 57 1 #[(0, .agg NW.toArray)]).run Try.prog V = .ok (.slice (some ⟨V.heap.size, 0, none⟩) 1 1) (V.alloc (.cells NW.toArray 80))) := Lib.hid (build_writes NW.toArray (by rw [List.size_toArray, hnwl]))
  have HHH := Lib.hid (And.intro hih (And.intro hzh (And.intro hsh (And.intro hbh hzsh))))
  have HNWL := Lib.hid hnwl
  have HNW1 : Hid (∀ u ∈ NW, u.oneCell' = true) := Lib.hid (by rw [← hNW]; exact wcells_one _)
  have SX : Hid ((Try.prog.info? 78).map (·.size) = some XC.length) := Lib.hid (by rw [hxcl]; exact size_block)
  have HD := Lib.hid hD
  have HK1 := Lib.hid hk1
  have HROW := Lib.hid hrow
  have HOWN1 := Lib.hid hown
  have HX1 := Lib.hid hX1
  have HEQ := Lib.hid (And.intro hnn (And.intro hLS (And.intro hXC hNW)))
  have HXO := Lib.hid hXo
  clear hih hzh hsh hbh hzsh hD hk1 hrow hown hX1 hnn hLS hXC hNW hxcl hnwl hXo hxl HCO HAT HXX
  go_wp2_with fail
  refine wp_region_phase 10 (Later w1) (by kernel_rfl) (by kernel_rfl) (⟨(Keeps.refl _ _).drew⟩) ?_
  simp only [List.take_succ_cons, List.take_zero, List.drop_succ_cons, List.drop_zero]
  refine class_value (by rfl) (.pointer (some ⟨g, 0, none⟩)) (fun V hV => by go_simp) ?_
  simp only [Act.put, List.setIfInBounds_toArray, List.set_cons_zero, List.set_cons_succ]
  refine class_value (by rfl) (.pointer (some ⟨g, 0, none⟩)) (fun V hV => by go_simp) ?_
  simp only [Act.put, List.setIfInBounds_toArray, List.set_cons_zero, List.set_cons_succ]
  refine class_value (by rfl) (.pointer (some ⟨g, 3, none⟩)) (fun V hV => by go_simp) ?_
  simp only [Act.put, List.setIfInBounds_toArray, List.set_cons_zero, List.set_cons_succ]
  refine class_cell (by rfl) 56 (.tmp 25) (by rfl) ⟨g, 3, none⟩ (by rfl) (.map (some lb)) _ (fun V hV => HC3.out V hV) Try.underlying56 rfl ?_
  simp only [Act.put, List.setIfInBounds_toArray, List.set_cons_zero, List.set_cons_succ]
  refine class_value (by rfl) (.int .i64 (i : Int)) (fun V hV => by go_simp) ?_
  simp only [Act.put, List.setIfInBounds_toArray, List.set_cons_zero, List.set_cons_succ]
  refine class_value (by rfl) (.pointer (some ⟨g, 0, none⟩)) (fun V hV => by go_simp) ?_
  simp only [Act.put, List.setIfInBounds_toArray, List.set_cons_zero, List.set_cons_succ]
  refine class_value (by rfl) (.pointer (some ⟨g, 0, none⟩)) (fun V hV => by go_simp) ?_
  simp only [Act.put, List.setIfInBounds_toArray, List.set_cons_zero, List.set_cons_succ]
  refine class_value (by rfl) (.pointer (some ⟨g, 2, none⟩)) (fun V hV => by go_simp) ?_
  simp only [Act.put, List.setIfInBounds_toArray, List.set_cons_zero, List.set_cons_succ]
  refine class_cell (by rfl) 57 (.tmp 30) (by rfl) ⟨g, 2, none⟩ (by rfl) (.slice A n c) _ (fun V hV => HC2.out V hV) Try.underlying57 rfl ?_
  simp only [Act.put, List.setIfInBounds_toArray, List.set_cons_zero, List.set_cons_succ]
  refine class_value (by rfl) (.int .i64 (n : Int)) (fun V hV => by go_simp) ?_
  simp only [Act.put, List.setIfInBounds_toArray, List.set_cons_zero, List.set_cons_succ]
  refine wpQuiet_nil ?_
  intro V1 k1
  refine wpList_map_store (by rfl) (.tmp 26) (.tmp 27) (.tmp 32) 56 3 3 (by rfl) Try.underlying56 Try.underlying3 lb lf (i : Int) (.int .i64 (n : Int)) (by rfl) (by rfl) (by rfl) (HD.out.last.keeps k1.out id) ?_
  intro w2 m2 k2
  have D1 := HD.out.later k1.out
  have hlb := D1.lb_ne
  have HROW2 : Hid (Row w2 g 59 [.int .i64 (s1.n : Int), .map (some gb), .slice A n c, .map (some lb), .bool s1.fails, .int .i64 s1.after, .bool s1.dead]) := Lib.hid ((HROW.out.keeps k1.out id).keeps k2 hlb.symm)
  have HOWN : Hid (w2.ownsRow 0 80 257 (.slice A n c) n LS) := Lib.hid (k2.owns (k1.out.owns HOWN1.out (fun _ _ => id)) (fun k hv e => (D1.own_ne k (by rw [HEQ.out.1]; exact hv)).2.2 e))
  have HX2w : w2.rangeAt X 0 XC := fun j v hv => by
    have h1 := HX1.out j v hv
    have h2 := (k1.out.cell (p := ⟨X, 0 + j, none⟩) (World.block_lt_of_cell? w1 _ h1) id).trans h1
    exact (k2.cell (p := ⟨X, 0 + j, none⟩) (World.block_lt_of_cell? V1 _ h2) hXl).trans h2
  have hg2 : ∀ k, (Value.slice A n c).ownBlock = some k → k ≠ g := fun k hv => (HD.out.own_ne k (by rw [HEQ.out.1]; exact hv)).1
  have HD2 : Hid (∀ V, Keeps (fun k => (Value.slice A n c).ownBlock = some k) w2 V → V.cell? ⟨g, 2, none⟩ = some (.slice A n c)) := Lib.hid (fun V hV => (HROW2.out.keeps hV (fun e => hg2 g e rfl)).cell 2)
  have HX2 : Hid (∀ V, Keeps (fun k => (Value.slice A n c).ownBlock = some k) w2 V → V.rangeAt X 0 XC) := Lib.hid (fun V hV j v hv => (hV.cell (p := ⟨X, 0 + j, none⟩) (World.block_lt_of_cell? w2 _ (HX2w j v hv)) (fun e => HXO.out X e rfl)).trans (HX2w j v hv))
  have M2 := Lib.hid m2
  have K12 : Hid (Keeps (fun k => k = g ∨ k = lb) w w2) := Lib.hid (((HK1.out.mono (fun _ _ e => .inl e)).trans' k1.out (fun _ _ h => h.elim)).trans' k2 (fun _ _ e => .inr e))
  have HG2 := Lib.hid hg2
  have G2 : Hid (IMap w2 gb gf) := Lib.hid (D1.good.keeps k2 D1.ne)
  clear k1 k2 m2 D1 hlb HX2w hg2 HC2 HC3 HK1 HROW HOWN1 HX1
  go_wp2_with fail
  refine wp_region_stores 14 [10, 11] [0, 1, 2, 3, 4, 5, 6, 7, 8, 9, 10, 11, 12, 13] (fun V => Keeps (fun k => (Value.slice A n c).ownBlock = some k) w2 V) (fun V => V.ownsRow 0 80 257 (.slice A n c) n LS) (by kernel_rfl) (by kernel_rfl) (fun _ _ h k => h.trans' k (fun _ _ h => h.elim)) (fun _ _ h k => k.owns h (fun _ _ => id)) (((Keeps.refl _ _).drew)) (HOWN.out) ?_
  refine T_value (get_op rfl) (by rfl) (by rfl) (.pointer (some ⟨g, 0, none⟩)) (fun _ _ => by go_simp) ?_
  simp only [Act.put, List.setIfInBounds_toArray, List.set_cons_zero, List.set_cons_succ]
  refine T_value (get_op rfl) (by rfl) (by rfl) (.pointer (some ⟨g, 0, none⟩)) (fun _ _ => by go_simp) ?_
  simp only [Act.put, List.setIfInBounds_toArray, List.set_cons_zero, List.set_cons_succ]
  refine T_value (get_op rfl) (by rfl) (by rfl) (.pointer (some ⟨g, 0, none⟩)) (fun _ _ => by go_simp) ?_
  simp only [Act.put, List.setIfInBounds_toArray, List.set_cons_zero, List.set_cons_succ]
  refine T_value (get_op rfl) (by rfl) (by rfl) (.pointer (some ⟨g, 2, none⟩)) (fun _ _ => by go_simp) ?_
  simp only [Act.put, List.setIfInBounds_toArray, List.set_cons_zero, List.set_cons_succ]
  refine T_cell (get_op rfl) (by rfl) (by rfl) 57 (.tmp 36) (by rfl) ⟨g, 2, none⟩ (by rfl) (.slice A n c) _ (fun V hV => HD2.out V hV) Try.underlying57 rfl ?_
  simp only [Act.put, List.setIfInBounds_toArray, List.set_cons_zero, List.set_cons_succ]
  refine T_value (get_op rfl) (by rfl) (by rfl) (.int .i64 (i : Int)) (fun _ _ => by go_simp) ?_
  simp only [Act.put, List.setIfInBounds_toArray, List.set_cons_zero, List.set_cons_succ]
  refine T_value (get_op rfl) (by rfl) (by rfl) (.slice (some ⟨X, 0, none⟩) 256 cx) (fun _ _ => by go_simp) ?_
  simp only [Act.put, List.setIfInBounds_toArray, List.set_cons_zero, List.set_cons_succ]
  refine T_value (get_op rfl) (by rfl) (by rfl) (.pointer (some ⟨X, 0, none⟩)) (fun _ _ => exec_arr (P := Try.prog) (.tmp 39) 78 5 256 (by rfl) Try.underlying78 (some ⟨X, 0, none⟩) 256 cx (by rfl) (Nat.le_refl _)) ?_
  simp only [Act.put, List.setIfInBounds_toArray, List.set_cons_zero, List.set_cons_succ]
  refine T_load (get_op rfl) (by rfl) (by rfl) 78 (.tmp 40) (by rfl) X 0 (by rfl) XC _ (fun V hV => HX2.out V hV) Try.underlying78 rfl SX.out ?_
  simp only [Act.put, List.setIfInBounds_toArray, List.set_cons_zero, List.set_cons_succ]
  refine T_made (get_op rfl) (by rfl) (by rfl) 80 [(0, .tmp 38), (1, .tmp 41)] (by rfl) [(0, .int .i64 (i : Int)), (1, .agg XC.toArray)] (by rfl) (.agg NW.toArray) HBW.out ?_
  simp only [Act.put, List.setIfInBounds_toArray, List.set_cons_zero, List.set_cons_succ]
  refine T_build (get_op rfl) (by rfl) (by rfl) 57 80 (.tmp 42) (.agg NW.toArray) NW.toArray (by rfl) (by rfl) HBS.out (fun _ _ h k => h.trans' k (fun _ _ h => h.elim)) (fun _ _ h k => k.owns h (fun _ _ => id)) w2.heap.size (fun V hV => hV.size) ?_
  intro g43 hg43
  simp only [Act.put, List.setIfInBounds_toArray, List.set_cons_zero, List.set_cons_succ]
  refine T_append_own (get_op rfl) (by rfl) (by rfl) 57 (.tmp 37) (.tmp 43) (by rfl) 80 ih zh 257 264 Try.underlying57 HHH.out.1 HHH.out.2.1 HHH.out.2.2.1 HHH.out.2.2.2.1 HHH.out.2.2.2.2 (by decide) A n c LS (by rfl) g43 1 (by rfl) NW HNWL.out HNW1.out (by unfold maxLen; omega) (by omega) (fun A' c' V => V.ownsRow 0 80 257 (.slice A' (n + 1) c') (n + 1) (LS ++ NW) ∧ ((Value.slice A' (n + 1) c').ownBlock = (Value.slice A n c).ownBlock ∨ ∃ k, w2.heap.size ≤ k ∧ (Value.slice A' (n + 1) c').ownBlock = some k)) (fun A' c' _ _ h k => ⟨k.owns h.1 (fun _ _ => id), h.2⟩) (fun V hb hf => hf) (fun V V' A' c' hb hf ho hg hat => ⟨hb.grown hg (fun k _ h => h), ho, hat.imp id (fun h => ⟨_, hb.size, h⟩)⟩) ?_
  intro A' c'
  simp only [Act.put, List.setIfInBounds_toArray, List.set_cons_zero, List.set_cons_succ]
  refine T_value (get_op rfl) (by rfl) (by rfl) (.pointer (some ⟨g, 0, none⟩)) (fun _ _ => by go_simp) ?_
  simp only [Act.put, List.setIfInBounds_toArray, List.set_cons_zero, List.set_cons_succ]
  refine T_value (get_op rfl) (by rfl) (by rfl) (.pointer (some ⟨g, 2, none⟩)) (fun _ _ => by go_simp) ?_
  simp only [Act.put, List.setIfInBounds_toArray, List.set_cons_zero, List.set_cons_succ]
  refine T_nil ?_
  intro V5 k5 r5
  simp only [List.drop_succ_cons, List.drop_zero]
  have hrow5 := HROW2.out.keeps k5 (fun e => HG2.out g e rfl)
  have c5 : V5.cell? ⟨g, 2, none⟩ = some (.slice A n c) := hrow5.cell 2
  have f5 := hrow5.frozen 2
  have hgl : g < w2.heap.size := HROW2.out.lt
  have hne5 : ∀ k, (Value.slice A' (n + 1) c').ownBlock = some k → k ≠ g := fun k hv => by
    rcases r5.2 with h | ⟨k', h, h'⟩
    · exact HG2.out k (h.symm.trans hv)
    · rw [h'] at hv
      injection hv with hv
      omega
  have fin : DskM (V5.setCell ⟨g, 2, none⟩ (.slice A' (n + 1) c')) F g { s1 with loose := s1.loose ++ [(i, xs)] } gb lb ∧ Keeps F w (V5.setCell ⟨g, 2, none⟩ (.slice A' (n + 1) c')) := by
    obtain ⟨e1, e2, e3, e4⟩ := HEQ.out
    have D := HD.out
    have hk6 : Keeps (fun k => k = g) V5 (V5.setCell ⟨g, 2, none⟩ (.slice A' (n + 1) c')) := (Keeps.refl (fun k => k = g) V5).setCell (p := ⟨g, 2, none⟩) (fun _ => rfl) _
    have hlen : (s1.loose ++ [(i, xs)]).length = n + 1 := by rw [List.length_append, e1]; rfl
    have hfl : flatW (s1.loose ++ [(i, xs)]) = LS ++ NW := by rw [flatW_snoc, e2, e4]
    have hown5 := hk6.owns r5.1 (fun k hv e => hne5 k hv e)
    have hon : ∀ k, (Value.slice A n c).ownBlock = some k → k ≠ gb ∧ k ≠ lb ∧ F k := fun k hv => by
      have hv' : (Value.slice A s1.loose.length c).ownBlock = some k := by rw [e1]; exact hv
      exact ⟨(D.own_ne k hv').2.1, (D.own_ne k hv').2.2, D.fown k hv'⟩
    refine ⟨⟨A', c', gf, upd lf (i : Int) (some (.int .i64 (n : Int))), ?_, (G2.out.keeps k5 (fun e => (hon gb e).1 rfl)).keeps hk6 D.gb_ne, (M2.out.keeps k5 (fun e => (hon lb e).2.1 rfl)).keeps hk6 D.lb_ne, ?_, D.ne, D.fg, D.fgb, D.flb, ?_, D.gv, ?_, ⟨D.ok.lo, D.ok.hi, D.ok.good, ?_, D.ok.wf, D.ok.aft⟩⟩, ?_⟩
    · show Row _ g 59 [.int .i64 (s1.n : Int), .map (some gb), .slice A' (s1.loose ++ [(i, xs)]).length c', .map (some lb), .bool s1.fails, .int .i64 s1.after, .bool s1.dead]
      rw [hlen]
      exact hrow5.set 2 _
    · show World.ownsRow _ 0 80 257 (.slice A' (s1.loose ++ [(i, xs)]).length c') (s1.loose ++ [(i, xs)]).length (flatW (s1.loose ++ [(i, xs)]))
      rw [hlen, hfl]
      exact hown5
    · show ∀ k, (Value.slice A' (s1.loose ++ [(i, xs)]).length c').ownBlock = some k → F k
      rw [hlen]
      intro k hv
      rcases r5.2 with h | ⟨k', h, h'⟩
      · exact (hon k (h.symm.trans hv)).2.2
      · rw [h'] at hv
        injection hv with hv
        exact HF.out k (by have := K12.out.size; omega)
    · intro j
      show (upd lf (i : Int) _ (j : Int) = none ∧ ∀ g, Dk.over g (s1.loose ++ [(i, xs)]) j = g j) ∨ ∃ (k : Nat) (p : Nat × List UInt8), upd lf (i : Int) _ (j : Int) = some (.int .i64 (k : Int)) ∧ (s1.loose ++ [(i, xs)])[k]? = some p ∧ ∀ g, p.2 = Dk.over g (s1.loose ++ [(i, xs)]) j
      by_cases hj : j = i
      · subst hj
        exact .inr ⟨n, (j, xs), upd_same _ _ _, by rw [List.getElem?_append_right (by omega), e1, Nat.sub_self]; rfl, fun g => by rw [Dk.over_snoc, Dk.put_same]⟩
      · have hji : (j : Int) ≠ (i : Int) := by omega
        rcases D.lv j with ⟨h1, h2⟩ | ⟨k, p, h1, h2, h3⟩
        · exact .inl ⟨(upd_other _ _ hji).trans h1, fun g => by rw [Dk.over_snoc, Dk.put_other _ _ hj]; exact h2 g⟩
        · exact .inr ⟨k, p, (upd_other _ _ hji).trans h1, by rw [List.getElem?_append_left (List.getElem?_eq_some_iff.1 h2).1]; exact h2, fun g => by rw [Dk.over_snoc, Dk.put_other _ _ hj]; exact h3 g⟩
    · intro p hp
      rcases List.mem_append.1 hp with hp | hp
      · exact D.ok.loose p hp
      · rw [List.mem_singleton] at hp
        subst hp
        exact ⟨by show i < s1.n; omega, HXLEN.out⟩
    · refine Keeps.trans' (T := fun k => k = g) (Keeps.trans' (T := fun k => (Value.slice A n c).ownBlock = some k) (K12.out.mono (fun k _ e => by rcases e with rfl | rfl; exact D.fg; exact D.flb)) k5 (fun k _ e => (hon k e).2.2)) hk6 (fun k _ e => by subst e; exact D.fg)
  have FIN := Lib.hid fin
  clear fin hrow5 hne5 r5 k5
  go_wp2_with fail
  go_ret
  exact ⟨rfl, FIN.out.1, FIN.out.2⟩
/-- A block is written. -/
theorem write_ok (w : World) (F : Nat → Prop) (g : Nat) (s : Dk.St) (h : DskAt w F g s) (hF : ∀ k, w.heap.size ≤ k → F k) (i : Nat) (hi : i < s.n) (hd : s.dead = false) (hg : Dk.goes s = true) (X cx : Nat) (xs : List UInt8) (hxl : xs.length = 256) (hX : w.rangeAt X 0 (bvs xs)) (hXF : ¬ F X) (hn : s.loose.length ≤ 1000) :
    Calls Try.prog 37 #[.pointer (some ⟨g, 0, none⟩), .int .i64 (i : Int), .slice (some ⟨X, 0, none⟩) 256 cx] w fun e w' => e = .returned (.int .i64 0) ∧ DskAt w' F g { Dk.cnt s with loose := s.loose ++ [(i, xs)] } ∧ Keeps F w w' := by
  obtain ⟨gb, lb, h⟩ := h
  refine (write_okM w F g gb lb s h hF i hi hd hg X cx xs hxl hX hXF hn).mono ?_
  rintro e w' ⟨h1, h2, h3⟩
  exact ⟨h1, ⟨gb, lb, h2⟩, h3⟩
end Go.Proofs.Ytnhegnncmjmafaa
