/-
  The document's own table (package assayerref13): its value; one set.
-/
import Derived.Test.YtdihkbkcefjeoaaScW
import Derived.Laws.OwnMore
import Derived.Deep.MidRow
namespace Go.Proofs.Ytdihkbkcefjeoaa
open Go.RowKit Go.BigFrame
set_option linter.unusedVariables false
set_option linter.unusedSimpArgs false

theorem wpList_append_copy13 {P : Program} {w : World} {ops : Array Oper} {rest : List Oper} {o : Oper} {a : Act} {Q : Exit → Act → World → Prop} (hgd : o.guard = none) (s x : Operand) (t : TypeId)
    (ho : o.op = .call { callee := .builtin .append, args := #[s, x], argTypes := #[t, t] })
    (base : Nat) (e : TypeId) (i : TypeInfo) (z : Value) (size bytes : Nat) (ht : P.underlying t = some (.slice e)) (hi : P.info? e = some i) (hz : i.zero = some z)
    (hsize : i.size = size) (hby : i.bytes = bytes) (hzs : z.cells.size = size) (hsz : 0 < size)
    (hs : a.eval s = .slice none 0 0) (A : Option Addr) (m c : Nat) (news : List Value) (hx : a.eval x = .slice A m c) (hl : news.length = m * size) (hsrc : Src w A news) (h0 : A = none → m = 0) (h1 : ∀ u ∈ news, u.oneCell' = true)
    (h63 : m ≤ maxLen) (hbytes : m * bytes ≤ 140737488355328) (hbase : base ≤ w.heap.size)
    (h : ∀ v' w', w'.ownsRow base e size v' m news → w.grownBy w' none → wpList P ops Q rest (a.put o.dst v') w') :
    wpList P ops Q (o :: rest) a w := by
  have hown : w.ownsRow base e size (.slice none 0 0) 0 [] := World.ownsRow_nil _ _ _ _
  have hr : ∃ v' w', (Builtin.append_ #[t, t] o.type #[.slice none 0 0, .slice A m c]).run P w = .ok v' w' ∧ w'.ownsRow base e size v' m news ∧ w.grownBy w' none := by
    cases A with
    | none =>
      obtain rfl := h0 rfl
      have hn : news = [] := List.eq_nil_of_length_eq_zero (by rw [hl, Nat.zero_mul])
      subst hn
      exact ⟨.slice none 0 0, w, by simp [Builtin.append_, run_underlying ht, sizeOf, typeInfo, hi, Builtin.lenOf, Builtin.firstCells], hown, ⟨rfl, rfl, rfl, Nat.le_refl _, fun _ _ _ => rfl⟩⟩
    | some g =>
      obtain ⟨v', w', hr, h2, h3, _⟩ := run_append_own (P := P) w base t o.type e i z size bytes ht hi hz hsize hby hzs hsz (.slice none 0 0) 0 [] hown g m c news hl (fun j u hu => hsrc.at_ hu) h1 (by omega) (by rw [Nat.zero_add]; exact hbytes) hbase
      rw [Nat.zero_add, List.nil_append] at h2
      exact ⟨v', w', hr, h2, h3⟩
  refine wpList_plain hgd fun _ hK => ?_
  obtain ⟨v', w', hr, h2, h3⟩ := hr
  unfold Oper.wp execOp
  simp only [ho, resolve, invoke, builtin, Sem.run_bind, Sem.run_pure, Result.andThen_ok, List.map_toArray, List.map_cons, List.map_nil, hs, hx, hr]
  exact hK _ _ (h v' w' h2 h3)
theorem own_some13 {w : World} {base size n c : Nat} {e : TypeId} {A : Option Addr} {xs : List Value} (h : w.ownsRow base e size (.slice A n c) n xs) (h0 : 0 < n) : ∃ g, A = some ⟨g, 0, none⟩ := by
  rcases h.2 with ⟨_, h⟩ | ⟨g, _, _, h, _⟩
  · omega
  · injection h with h
    exact ⟨g, h⟩
theorem own_none13 {w : World} {base size n c : Nat} {e : TypeId} {A : Option Addr} {xs : List Value} (h : w.ownsRow base e size (.slice A n c) n xs) (h0 : A = none) : n = 0 := by
  rcases h.2 with ⟨_, h⟩ | ⟨g, _, _, h, _⟩
  · exact h
  · injection h with h
    rw [h0] at h
    cases h
theorem Src.of_own2 {w : World} {base size n cap : Nat} {e : TypeId} {A : Option Addr} {xs : List Value} (h : w.ownsRow base e size (.slice A n cap) n xs) : Src w A xs := by
  rcases h.2 with ⟨h1, h2⟩ | ⟨g, cap', cur, h1, _⟩
  · have hx : xs = [] := List.eq_nil_of_length_eq_zero (by rw [h.1, h2, Nat.zero_mul])
    subst hx
    exact Src.nil _ _
  · injection h1 with h1
    subst h1
    exact fun j u hu => ⟨_, rfl, h.cells (g := g) rfl j u hu⟩
def pcs (p : Int × Int) : List Value := [.int .i64 p.1, .int .i64 p.2]
def pcells (ps : List (Int × Int)) : List Value := ps.flatMap pcs
theorem pcells_cons (p : Int × Int) (ps : List (Int × Int)) : pcells (p :: ps) = .int .i64 p.1 :: .int .i64 p.2 :: pcells ps := by
  unfold pcells
  rw [List.flatMap_cons]
  rfl
theorem pcells_length : ∀ ps : List (Int × Int), (pcells ps).length = ps.length * 2
  | [] => rfl
  | p :: ps => by rw [pcells_cons, List.length_cons, List.length_cons, pcells_length ps, List.length_cons]; omega
theorem pcells_one : ∀ ps : List (Int × Int), ∀ u ∈ pcells ps, u.oneCell' = true
  | [], u, h => by cases h
  | p :: ps, u, h => by
    rw [pcells_cons] at h
    rcases List.mem_cons.1 h with rfl | h
    · rfl
    · rcases List.mem_cons.1 h with rfl | h
      · rfl
      · exact pcells_one ps u h
theorem pcells_get : ∀ (ps : List (Int × Int)) (i : Nat) (p : Int × Int), ps[i]? = some p → (pcells ps)[i * 2]? = some (.int .i64 p.1) ∧ (pcells ps)[i * 2 + 1]? = some (.int .i64 p.2)
  | [], i, p, h => by simp at h
  | q :: ps, 0, p, h => by
    obtain rfl : q = p := by simpa using h
    rw [pcells_cons]
    exact ⟨rfl, rfl⟩
  | q :: ps, i + 1, p, h => by
    have ih := pcells_get ps i p (by simpa using h)
    rw [pcells_cons, show (i + 1) * 2 = i * 2 + 1 + 1 by omega, List.getElem?_cons_succ, List.getElem?_cons_succ, show i * 2 + 1 + 1 + 1 = (i * 2 + 1) + 1 + 1 by omega, List.getElem?_cons_succ, List.getElem?_cons_succ]
    exact ih
theorem pcells_set : ∀ (ps : List (Int × Int)) (i : Nat) (p : Int × Int), ((pcells ps).set (i * 2) (.int .i64 p.1)).set (i * 2 + 1) (.int .i64 p.2) = pcells (ps.set i p)
  | [], i, p => rfl
  | q :: ps, 0, p => by
    rw [pcells_cons]
    show _ = pcells (p :: ps)
    rw [pcells_cons]
    rfl
  | q :: ps, i + 1, p => by
    have ih := pcells_set ps i p
    rw [pcells_cons, show (i + 1) * 2 = i * 2 + 2 by omega]
    show Value.int .i64 q.1 :: Value.int .i64 q.2 :: ((pcells ps).set (i * 2) _).set (i * 2 + 1) _ = pcells (q :: ps.set i p)
    rw [pcells_cons, ih]
/-- The cells of the document's table. -/
def tcs (L H : Int) (A : Option Addr) (n c : Nat) : Array Value := #[.int .i64 L, .int .i64 H, .slice A n c]
theorem tcs_one (L H : Int) (A : Option Addr) (n c : Nat) : (tcs L H A n c).all (·.oneCell') = true := by simp [tcs, Value.oneCell']
theorem size_T : (Try.prog.info? 30).map (·.size) = some 3 := by kernel_rfl
theorem size_P : (Try.prog.info? 42).map (·.size) = some 2 := by kernel_rfl
theorem zero_T (w : World) : (zeroValue 30).run Try.prog w = .ok (.agg (tcs 0 0 none 0 0)) w := by kernel_rfl
theorem zero_P (w : World) : (zeroValue 42).run Try.prog w = .ok (.agg (pc (0, 0))) w := by kernel_rfl
theorem build_P (a c : Int) (V : World) : (Instr.build 42 #[(0, .int .i64 a), (1, .int .i64 c)]).run Try.prog V = .ok (.agg (pc (a, c))) V := by kernel_rfl
theorem build_P_one (a : Int) (V : World) : (Instr.build 42 #[(0, .int .i64 a)]).run Try.prog V = .ok (.agg (pc (a, 0))) V := by kernel_rfl
theorem build_T_none (V : World) : (Instr.build 30 #[]).run Try.prog V = .ok (.agg (tcs 0 0 none 0 0)) V := by kernel_rfl
theorem build_T (L H : Int) (A : Option Addr) (n c : Nat) (V : World) : (Instr.build 30 #[(0, .int .i64 L), (1, .int .i64 H), (2, .slice A n c)]).run Try.prog V = .ok (.agg (tcs L H A n c)) V := by kernel_rfl
theorem info_P : (Try.prog.info? 42).map (fun i => (i.zero, i.size, i.bytes)) = some (some (.agg (pc (0, 0))), 2, 16) := by kernel_rfl
theorem info_Pn : ∃ (ih : TypeInfo), Try.prog.info? 42 = some ih ∧ ih.zero = some (.agg (pc (0, 0))) ∧ ih.size = 2 ∧ ih.bytes = 16 := by
  have h := info_P
  obtain ⟨ih, hi, h⟩ := Option.map_eq_some_iff.1 h
  simp only [Prod.mk.injEq] at h
  exact ⟨ih, hi, h.1, h.2.1, h.2.2⟩
set_option maxRecDepth 100000 in
set_option maxHeartbeats 2000000 in
/-- A table in which one is so. -/
theorem rput_any (L H : Int) (A : Option Addr) (n c : Nat) (ps : List (Int × Int)) (i : Nat) (p : Int × Int) (w : World) (hg : w.ownsRow 0 42 2 (.slice A n c) n (pcells ps)) (hi : i < n) (hn : n ≤ 64) :
    Calls Try.prog 23 #[.agg (tcs L H A n c), .int .i64 (i : Int), .agg (pc p)] w fun e w' => ∃ A' c', e = .returned (.agg (tcs L H A' n c')) ∧ w'.ownsRow w.heap.size 42 2 (.slice A' n c') n (pcells (ps.set i p)) ∧ Keeps (fun _ => False) w w' := by
  obtain ⟨i0, hi0, hz0, hs0, hb0⟩ := info_Pn
  have hgl : (pcells ps).length = n * 2 := hg.1
  have hpl : ps.length = n := by have := pcells_length ps; omega
  have HII := Lib.hid (And.intro hi0 (And.intro hz0 (And.intro hs0 hb0)))
  obtain ⟨ZT, hZT⟩ : ∃ Z, tcs 0 0 none 0 0 = Z := ⟨_, rfl⟩
  have hzt : ∀ V : World, (zeroValue 30).run Try.prog V = .ok (.agg ZT) V := fun V => by rw [← hZT]; exact zero_T V
  obtain ⟨TC, hTC⟩ : ∃ C, tcs L H A n c = C := ⟨_, rfl⟩
  obtain ⟨PC, hPC⟩ : ∃ C, pc p = C := ⟨_, rfl⟩
  have STC : Hid ((Try.prog.info? 30).map (·.size) = some TC.size) := Lib.hid (by rw [← hTC]; exact size_T)
  have SPC : Hid ((Try.prog.info? 42).map (·.size) = some PC.size) := Lib.hid (by rw [← hPC]; exact size_P)
  have OPC : Hid (PC.all (·.oneCell') = true) := Lib.hid (by rw [← hPC]; exact pc_one _)
  have NPC : Hid (PC.size = 2 ∧ PC.toList = pcs p) := Lib.hid (by rw [← hPC]; exact ⟨rfl, rfl⟩)
  have NZT : Hid (ZT.size = 3) := Lib.hid (by rw [← hZT]; rfl)
  obtain ⟨b3, hb3⟩ : ∃ x, w.heap.size = x := ⟨_, rfl⟩
  obtain ⟨W1, hW1⟩ : ∃ V, w.alloc (.cells TC 30) = V := ⟨_, rfl⟩
  obtain ⟨b5, hb5⟩ : ∃ x, W1.heap.size = x := ⟨_, rfl⟩
  obtain ⟨W2, hW2⟩ : ∃ V, W1.alloc (.cells PC 42) = V := ⟨_, rfl⟩
  obtain ⟨b6, hb6⟩ : ∃ x, W2.heap.size = x := ⟨_, rfl⟩
  obtain ⟨W3, hW3⟩ : ∃ V, W2.alloc (.cells ZT 30) = V := ⟨_, rfl⟩
  have k1 : Keeps (fun _ => False) w W1 := by rw [← hW1]; exact (Keeps.refl _ _).alloc _
  have k2 : Keeps (fun _ => False) W1 W2 := by rw [← hW2]; exact (Keeps.refl _ _).alloc _
  have k3 : Keeps (fun _ => False) W2 W3 := by rw [← hW3]; exact (Keeps.refl _ _).alloc _
  have r1 : Row W1 b3 30 [.int .i64 L, .int .i64 H, .slice A n c] := by rw [← hW1, ← hb3, ← hTC]; exact heap_alloc_new w _
  have r2 : W2.heap[b5]? = some (.cells PC 42 (0, 0)) := by rw [← hW2, ← hb5]; exact heap_alloc_new W1 _
  have r3 : W3.heap[b6]? = some (.cells ZT 30 (0, 0)) := by rw [← hW3, ← hb6]; exact heap_alloc_new W2 _
  have r13 := r1.keeps (k2.trans k3) id
  have r23 : W3.heap[b5]? = some (.cells PC 42 (0, 0)) := (k3.block b5 (Array.getElem?_eq_some_iff.1 r2).1 id).trans r2
  have c32 : W3.cell? ⟨b3, 2, none⟩ = some (.slice A n c) := r13.cell 2
  have hbb : b3 < b5 ∧ b5 < b6 ∧ b6 < W3.heap.size ∧ w.heap.size ≤ b3 := by
    have h1 := (Array.getElem?_eq_some_iff.1 r3).1
    have h2 : W1.heap.size = w.heap.size + 1 := by rw [← hW1]; simp
    have h3 : W2.heap.size = W1.heap.size + 1 := by rw [← hW2]; simp
    omega
  have HG3 := Lib.hid (((k1.trans k2).trans k3).owns hg (fun _ _ => id))
  have K3 := Lib.hid ((k1.trans k2).trans k3)
  have HGL := Lib.hid (And.intro hgl hpl)
  have R13 := Lib.hid r13
  have R23 := Lib.hid r23
  have R3 := Lib.hid r3
  have HBB := Lib.hid hbb
  have HPC := Lib.hid hPC
  have hii : (i : Int) < (n : Int) := by omega
  rw [hTC, hPC]
  clear hi0 hz0 hs0 hb0 hg hgl hpl hZT hTC k1 k2 k3 r1 r2 r3 r13 r23 hbb hPC
  go_enter Try.func23, Try.ntmps23
  go_wp2_with (at_builtin; refine wpList_append_copy13 (by rfl) _ _ 28 (by rfl) W3.heap.size 42 i0 (.agg (pc (0, 0))) 2 16 Try.underlying28 HII.out.1 HII.out.2.1 HII.out.2.2.1 HII.out.2.2.2 rfl (by decide) (by rfl) A n c (pcells ps) (by rfl) HGL.out.1 (Src.of_own2 HG3.out) (own_none13 HG3.out) (pcells_one _) (by unfold maxLen; omega) (by omega) (Nat.le_refl _) ?_)
  intro v4 w4 ho4 hg4
  obtain ⟨A4, c4, rfl⟩ := own_slice ho4
  obtain ⟨g4, rfl⟩ := own_some13 ho4 (by omega)
  have k4 : Keeps (fun _ => False) W3 w4 := (Keeps.refl _ _).grown hg4 (fun k _ h => by cases h)
  have hl4 := ho4.lt g4 rfl
  have R24 : Hid (w4.heap[b5]? = some (.cells PC 42 (0, 0))) := Lib.hid ((k4.block b5 (Array.getElem?_eq_some_iff.1 R23.out).1 id).trans R23.out)
  obtain ⟨w5, hw5⟩ : ∃ V, w4.setCells g4 (i * 2) PC.toList = V := ⟨_, rfl⟩
  have hst : w5.ownsRow W3.heap.size 42 2 (.slice (some ⟨g4, 0, none⟩) n c4) n (pcells (ps.set i p)) ∧ w4.grownBy w5 (some g4) := by
    have h1 := ho4.stored (i * 2) (.int .i64 p.1)
    have h2 := h1.1.stored (i * 2 + 1) (.int .i64 p.2)
    rw [pcells_set] at h2
    rw [← hw5, NPC.out.2]
    exact ⟨h2.1, h1.2.trans h2.2⟩
  have hth : w4.there g4 (i * 2) PC.size := fun j hj => by
    have hj2 : i * 2 + j < n * 2 := by have := NPC.out.1; omega
    rw [ho4.cellAt _ hj2]
    exact ⟨by rw [List.getElem?_eq_getElem (by have := HGL.out.1; omega)]; rfl, ho4.frozenAt _⟩
  have k5 : Keeps (fun k => k = g4) w4 w5 := (Keeps.refl (fun k => k = g4) w4).grown hst.2 (fun k _ h => by injection h with h; exact h.symm)
  have kk5 : Keeps (fun _ => False) W3 w5 := k4.trans' k5 (fun j hj e => by omega)
  have r5 := R13.out.keeps kk5 id
  have c52 : w5.cell? ⟨b3, 2, none⟩ = some (.slice A n c) := r5.cell 2
  have f52 := r5.frozen 2
  obtain ⟨w6, hw6⟩ : ∃ V, w5.setCell ⟨b3, 2, none⟩ (.slice (some ⟨g4, 0, none⟩) n c4) = V := ⟨_, rfl⟩
  have r6 : w6.heap[b3]? = some (.cells (tcs L H (some ⟨g4, 0, none⟩) n c4) 30 (0, 0)) := by rw [← hw6]; exact r5.set 2 _
  have k6 : Keeps (fun k => k = b3) w5 w6 := by rw [← hw6]; exact (Keeps.refl (fun k => k = b3) w5).setCell (p := ⟨b3, 2, none⟩) (fun _ => rfl) _
  obtain ⟨D, hD⟩ : ∃ D, tcs L H (some ⟨g4, 0, none⟩) n c4 = D := ⟨_, rfl⟩
  rw [hD] at r6
  have r36 : w6.heap[b6]? = some (.cells ZT 30 (0, 0)) := by
    have h5 := (kk5.block b6 (by have := HBB.out; omega) id).trans R3.out
    exact (k6.block b6 (Array.getElem?_eq_some_iff.1 h5).1 (fun e => by have := HBB.out; omega)).trans h5
  obtain ⟨w7, hw7⟩ : ∃ V, w6.setRow b6 D = V := ⟨_, rfl⟩
  have k7 : Keeps (fun k => k = b6) w6 w7 := by rw [← hw7]; exact Keeps.setRow _ _
  have R7 : Hid (w7.heap[b6]? = some (.cells D 30 (0, 0))) := Lib.hid (by rw [← hw7]; exact setRow_heap _ _ _ _ _ _ r36)
  have SD : Hid ((Try.prog.info? 30).map (·.size) = some D.size) := Lib.hid (by rw [← hD]; exact size_T)
  have ND : Hid (ZT.size = D.size) := Lib.hid (by rw [NZT.out, ← hD]; rfl)
  have OD : Hid (D.all (·.oneCell') = true) := Lib.hid (by rw [← hD]; exact tcs_one _ _ _ _ _)
  have FIN : Hid (w7.ownsRow w.heap.size 42 2 (.slice (some ⟨g4, 0, none⟩) n c4) n (pcells (ps.set i p)) ∧ Keeps (fun _ => False) w w7) := Lib.hid (by
    have hb := HBB.out
    refine ⟨own_base (k7.owns (k6.owns hst.1 (fun k hk e => ?_)) (fun k hk e => ?_)) (by have := K3.out.size; omega), ((K3.out.trans kk5).trans' k6 (fun j hj e => by omega)).trans' k7 (fun j hj e => by omega)⟩
    · have hk2 : g4 = k := by injection hk
      omega
    · have hk2 : g4 = k := by injection hk
      omega)
  have HTH := Lib.hid hth
  have R6 := Lib.hid r6
  have R36 := Lib.hid r36
  have HDD := Lib.hid hD
  clear ho4 hg4 k4 hl4 hst hth k5 kk5 r5 r6 r36 k6 k7 hD
  go_wp2_with (first
    | (refine wpList_load_row (by rfl) 42 _ (by rfl) b5 (by rfl) 42 PC (0, 0) _ R24.out Try.underlying42 rfl SPC.out ?_)
    | (refine wpList_store_mid (by rfl) 42 _ _ (by rfl) g4 (i * 2) PC (by rfl) (by rfl) HTH.out SPC.out OPC.out ?_; rw [hw5])
    | (refine wpList_load_row (by rfl) 30 _ (by rfl) b3 (by rfl) 30 D (0, 0) _ R6.out Try.underlying30 rfl SD.out ?_)
    | (refine wpList_store_row (by rfl) 30 _ _ (by rfl) b6 D (by rfl) (by rfl) 30 ZT R36.out SD.out ND.out OD.out ?_; rw [hw7]))
  refine bodyPost_ret (results_cell_row rfl _ _ b6 30 D (0, 0) _ rfl R7.out Try.underlying30 rfl SD.out) rfl ?_
  exact ⟨_, _, by rw [HDD.out], FIN.out.1, FIN.out.2⟩
end Go.Proofs.Ytdihkbkcefjeoaa
