/-
  The path to a place (tree.Path): its closure goes down, and gathers.
-/
import Derived.Test.YtnnhbgaeohdojaaDoorTrD
namespace Go.Proofs.YtnnhbgaeohdojaaDoor
open Go.RowKit Go.BigFrame
set_option linter.unusedVariables false

theorem info_hash : ∃ i z, Tryd.prog.info? 34 = some i ∧ i.zero = some z ∧ i.size = 32 ∧ i.bytes = 32 ∧ z.cells.size = 32 := by
  have h : (Tryd.prog.info? 34).map (fun i => (i.zero.map (·.cells.size), i.size, i.bytes)) = some (some 32, 32, 32) := by kernel_rfl
  cases hi : Tryd.prog.info? 34 with
  | none => rw [hi] at h; cases h
  | some i =>
    rw [hi] at h
    simp only [Option.map_some, Option.some.injEq, Prod.mk.injEq] at h
    obtain ⟨h1, h2, h3⟩ := h
    cases hz : i.zero with
    | none => rw [hz] at h1; cases h1
    | some z => rw [hz] at h1; simp only [Option.map_some, Option.some.injEq] at h1; exact ⟨i, z, rfl, hz, h2, h3, h1⟩
/-- A slice of one hash is made. -/
theorem build_hash (L : List UInt8) (hL : L.length = 32) (W : World) : (Instr.buildSlice 28 1 #[(0, .agg (bvs L).toArray)]).run Tryd.prog W = .ok (.slice (some ⟨W.heap.size, 0, none⟩) 1 1) (W.alloc (.cells (bvs L).toArray 34)) := by
  obtain ⟨i, z, hi, hz, hs, _, _⟩ := info_hash
  have hzv : (zeroValue 34).run Tryd.prog W = .ok (.agg (bvs (List.replicate 32 0)).toArray) W := by kernel_rfl
  exact run_buildSlice_one W _ _ Tryd.underlying28 hi _ (by rw [List.size_toArray, bvs_length, hL, hs]) (by omega) (by omega) _ hzv
theorem fill_hash (L : List UInt8) (hL : L.length = 32) : (bvs L).zipIdx.foldl (fun (cs : Array Value) (x : Value × Nat) => cs.setIfInBounds x.snd x.fst) #[.int .u8 0, .int .u8 0, .int .u8 0, .int .u8 0, .int .u8 0, .int .u8 0, .int .u8 0, .int .u8 0, .int .u8 0, .int .u8 0, .int .u8 0, .int .u8 0, .int .u8 0, .int .u8 0, .int .u8 0, .int .u8 0, .int .u8 0, .int .u8 0, .int .u8 0, .int .u8 0, .int .u8 0, .int .u8 0, .int .u8 0, .int .u8 0, .int .u8 0, .int .u8 0, .int .u8 0, .int .u8 0, .int .u8 0, .int .u8 0, .int .u8 0, .int .u8 0] = (bvs L).toArray := by
  have := fold_fill (bvs L) 0 #[.int .u8 0, .int .u8 0, .int .u8 0, .int .u8 0, .int .u8 0, .int .u8 0, .int .u8 0, .int .u8 0, .int .u8 0, .int .u8 0, .int .u8 0, .int .u8 0, .int .u8 0, .int .u8 0, .int .u8 0, .int .u8 0, .int .u8 0, .int .u8 0, .int .u8 0, .int .u8 0, .int .u8 0, .int .u8 0, .int .u8 0, .int .u8 0, .int .u8 0, .int .u8 0, .int .u8 0, .int .u8 0, .int .u8 0, .int .u8 0, .int .u8 0, .int .u8 0] (by rw [bvs_length, hL]; rfl)
  rw [this, List.take_zero, List.nil_append]
/-- Behind the recursion a root is appended, and stored. -/
theorem DownSt.push {w0 w V w' : World} {Bd Bp : Nat} {ps : List (List UInt8)} {v v' : Value} {L : List UInt8} (h : DownSt w0 Bd Bp ps w) (hv : Row w Bp 28 [v]) (hk : Keeps (fun _ => False) w V) (hL : L.length = 32)
    (ho : w'.ownsRow w0.heap.size 34 32 v' (ps.length + 1) (flat ps ++ bvs L)) (hg : V.grownBy w' v.ownBlock) (hown : w.ownsRow w0.heap.size 34 32 v ps.length (flat ps)) :
    Row w' Bp 28 [v] ∧ DownSt w0 Bd Bp (ps ++ [L]) (w'.setCell ⟨Bp, 0, none⟩ v') := by
  have hlt := h.keep.size
  have hVB : Row V Bp 28 [v] := hv.keeps hk id
  have hVD : Row V Bd 67 [downFn Bd Bp] := h.fn.keeps hk id
  have hVo : V.ownsRow w0.heap.size 34 32 v ps.length (flat ps) := hk.owns hown (fun _ _ => id)
  have hgk : Keeps (fun k => v.ownBlock = some k) V w' := (Keeps.refl _ _).grown hg (fun _ _ h => h)
  have n1 : ¬ v.ownBlock = some Bp := fun e => own_apart hVo hVB (by decide) Bp e rfl
  have n2 : ¬ v.ownBlock = some Bd := fun e => own_apart hVo hVD (by decide) Bd e rfl
  have hwB : Row w' Bp 28 [v] := hVB.keeps hgk n1
  have hwD : Row w' Bd 67 [downFn Bd Bp] := hVD.keeps hgk n2
  refine ⟨hwB, ?_, h.lo, hwD.set_other (by exact h.lo.2.2) _, ?_, v', hwB.set 0 _, ?_⟩
  · have k1 : Keeps (fun k => w0.heap.size ≤ k) w0 V := h.keep.trans' hk (fun _ _ h => h.elim)
    have k2 : Keeps (fun k => w0.heap.size ≤ k) w0 w' := k1.trans' hgk (fun k hk hh => by
      obtain ⟨_, _, hb⟩ := own_block hVo k hh
      exact hb)
    exact k2.setCell (fun _ => h.lo.2.1) _
  · intro p hp
    rcases List.mem_append.1 hp with hp | hp
    · exact h.len p hp
    · rw [List.mem_singleton] at hp; subst hp; exact hL
  · rw [flat_snoc, List.length_append, List.length_singleton]
    have k3 : Keeps (fun k => k = Bp) w' (w'.setCell ⟨Bp, 0, none⟩ v') := Keeps.setCell (p := ⟨Bp, 0, none⟩) (Keeps.refl (fun k => k = Bp) w') (fun _ => rfl) v'
    exact k3.owns ho (fun k e hkB => own_apart ho hwB (by decide) k e hkB)
theorem own_slice {w : World} {base size n : Nat} {e : TypeId} {v : Value} {xs : List Value} (h : w.ownsRow base e size v n xs) : ∃ A c, v = .slice A n c := by
  rcases h.2 with ⟨rfl, rfl⟩ | ⟨g, cap, cur, rfl, _⟩
  · exact ⟨_, _, rfl⟩
  · exact ⟨_, _, rfl⟩
/-- A slice is built, by its run. -/
theorem wpList_buildSlice_run {P : Program} {ops : Array Oper} {rest : List Oper} {o : Oper} {a : Act} {w w' : World} {Q : Exit → Act → World → Prop} (hgd : o.guard = none) (t : TypeId) (n m : Nat) (x : Operand) (ho : o.op = .buildSlice t n #[(m, x)])
    (u v : Value) (hx : a.eval x = u) (hrun : (Instr.buildSlice t n #[(m, u)]).run P w = .ok v w') (h : wpList P ops Q rest (a.put o.dst v) w') : wpList P ops Q (o :: rest) a w := by
  refine wpList_plain hgd fun _ hK => ?_
  unfold Oper.wp execOp
  simp only [ho, Sem.run_bind, Sem.run_pure, Result.andThen_ok, List.map_toArray, List.map_cons, List.map_nil, hx, hrun]
  exact hK _ _ h
set_option maxRecDepth 100000 in
set_option maxHeartbeats 2000000 in
theorem down_any (w0 : World) (Bd Bp : Nat) (hT : Tabs w0) : ∀ (f : Nat) (a : Addr) (c : Nat) (rs : List RowOf) (i : Nat) (w : World) (ps : List (List UInt8)), RowsAt w0 (some a) rs → rs.length ≤ f → i < rs.length → rs.length ≤ c → c ≤ 9223372036854775807 → (∀ r ∈ rs, r.2.2.length ≤ 1000) → ps.length + rs.length ≤ 1000 → DownSt w0 Bd Bp ps w →
    Calls Tryd.prog 45 #[.slice (some a) rs.length c, .int .u64 (i : Int), .pointer (some ⟨Bd, 0, none⟩), .pointer (some ⟨Bp, 0, none⟩)] w fun e w' => e = .returned (.tuple #[]) ∧ DownSt w0 Bd Bp (ps ++ Tr.path (ents rs) i) w' := by
  intro f
  induction f with
  | zero => intro a c rs i w ps _ h0 h1; omega
  | succ f ih =>
    intro a c rs i w ps hR hf hi hc hmax hlen hps hD
    by_cases hone : rs.length = 1
    · rw [Tr.path_few _ _ (by rw [ents_length]; omega), List.append_nil]
      rw [hone]
      clear ih hR hf hi hc hlen hps
      have HD := Lib.hid hD
      clear hD
      go_enter Tryd.func45, Tryd.ntmps45
      go_wp2
      refine bodyPost_ret (results_none rfl _ _ _) rfl ?_
      exact ⟨rfl, HD.out⟩
    · have h2 : 2 ≤ rs.length := by omega
      have hn := Tr.path_more (ents rs) i (by rw [ents_length]; exact h2)
      have a1 := Tr.split_pos h2
      have a2 := Tr.split_lt h2
      rw [ents_length] at hn
      have hsp := fun W => split_any rs.length W (by omega)
      obtain ⟨k, hk⟩ : ∃ k, Tr.split rs.length = k := ⟨_, rfl⟩
      rw [hk] at hn a1 a2 hsp
      have e1 : (ents rs).take k = ents (rs.take k) := by simp [ents, List.map_take]
      have e2 : (ents rs).drop k = ents (rs.drop k) := by simp [ents, List.map_drop]
      rw [e1, e2] at hn
      have l1 : (rs.take k).length = k := by rw [List.length_take]; omega
      have l2 : (rs.drop k).length = rs.length - k := List.length_drop
      have HSP := Lib.hid hsp
      have fnAt : ∀ V, Later w V → V.cell? ⟨Bd, 0, none⟩ = some (.func (.func 45) #[] #[.pointer (some ⟨Bd, 0, none⟩), .pointer (some ⟨Bp, 0, none⟩)]) := fun V hV => by
        rw [(hD.later hV.out).fn.cell]; rfl
      have FN := Lib.hid fnAt
      obtain ⟨ih0, hih0, hz0, hs0, hb0⟩ := info_parts (show (Tryd.prog.info? 28).map (fun i => (i.zero, i.size, i.bytes)) = some (some (.slice none 0 0), 1, 24) by kernel_rfl)
      obtain ⟨n, hnn⟩ : ∃ n, rs.length = n := ⟨_, rfl⟩
      rw [hnn] at l2 hf hi hc hone h2 a2 HSP hps ⊢
      have hs1 : (k : Int) ≤ n := by omega
      have hs2 : (k : Int) ≤ c := by omega
      have hs3 : (n : Int) ≤ c := by omega
      have hs4 : ¬ c = k := by omega
      by_cases hik : i < k
      · rw [if_pos hik] at hn
        have hp1 := path_few (ents (rs.take k)) i (by rw [ents_length, l1]; exact hik)
        rw [ents_length, l1] at hp1
        have c1 : ∀ V, Later w V → Calls Tryd.prog 45 #[.slice (some a) k c, .int .u64 (i : Int), .pointer (some ⟨Bd, 0, none⟩), .pointer (some ⟨Bp, 0, none⟩)] V fun e w' => e = .returned (.tuple #[]) ∧ DownSt w0 Bd Bp (ps ++ Tr.path (ents (rs.take k)) i) w' := fun V hV => by
          have h := ih a c (rs.take k) i V ps (hR.take k) (by omega) (by omega) (by omega) hmax (fun r hr => hlen r (List.mem_of_mem_take hr)) (by omega) (hD.later hV.out)
          rw [l1] at h
          exact h
        obtain ⟨qs, hqs⟩ : ∃ qs, ps ++ Tr.path (ents (rs.take k)) i = qs := ⟨_, rfl⟩
        have hql : qs.length ≤ 1000 := by rw [← hqs, List.length_append]; omega
        rw [hqs] at c1
        have c2 : ∀ U V, Keeps (fun k => w0.heap.size ≤ k) w0 U → Later U V → Calls Tryd.prog 16 #[.slice (some (a.add k)) (n - k) (c - k)] V fun e w' => e = .returned (.agg (bvs (Tr.root (ents (rs.drop k)))).toArray) ∧ Later U w' := fun U V hU hV => by
          have hkk : Keeps (fun k => w0.heap.size ≤ k) w0 V := hU.trans' hV.out (fun _ _ h => h.elim)
          have hlt := hT.lt
          have h := root_any (some (a.add k)) (c - k) (rs.drop k) V (hT.keeps hkk (by omega) (by omega)) ((hR.drop k).keeps hkk (fun k hk => by omega)) (by omega) (by omega) (fun r hr => hlen r (List.mem_of_mem_drop hr))
          rw [l2] at h
          exact h.mono fun e w' hh => ⟨hh.1, ⟨hV.out.trans hh.2⟩⟩
        obtain ⟨L, hL⟩ : ∃ L, Tr.root (ents (rs.drop k)) = L := ⟨_, rfl⟩
        have hL32 : L.length = 32 := by rw [← hL]; exact Tr.root_length _
        rw [hL] at c2 hn
        have hfin : ps ++ Tr.path (ents rs) i = qs ++ [L] := by rw [hn, ← List.append_assoc, hqs]
        rw [hfin]
        have hbs := build_hash L hL32
        have C1 := Lib.hid c1
        have C2 := Lib.hid c2
        have HBS := Lib.hid hbs
        have HL := Lib.hid hL32
        clear c1 c2 hbs hL32 hL hfin hqs hp1 hn e1 e2 l1 l2 ih hT hR hlen hk fnAt hD hf hps hi hnn
        go_enter Tryd.func45, Tryd.ntmps45
        go_wp2_with (go_at_call 19; refine (HSP.out _).mono ?_; rintro e w' ⟨rfl, rfl⟩)
        refine wp_region_phase 5 (Later w') (by kernel_rfl) (by kernel_rfl) ⟨(Keeps.refl _ _).drew⟩ ?_
        simp only [List.take_succ_cons, List.take_zero, List.drop_succ_cons, List.drop_zero]
        refine class_cell (by rfl) 67 (.tmp 2) (by rfl) ⟨Bd, 0, none⟩ (by rfl) _ _ FN.out Tryd.underlying67 rfl ?_
        simp only [Act.put, List.setIfInBounds_toArray, List.set_cons_zero, List.set_cons_succ]
        go_big_quiet_step ((intro _; rfl))
        go_big_quiet_step ((intro _; rfl))
        go_big_quiet_step ((intro _; rfl))
        go_big_quiet_step ((intro _; rfl))
        refine wpQuiet_nil ?_
        intro w6 k6
        go_wp2_with (go_at_call 45; refine (C1.out _ k6).mono ?_; rintro e w7 ⟨rfl, hd7⟩)
        obtain ⟨v, hv, hown⟩ := hd7.var
        have va : ∀ V, Later w7 V → V.cell? ⟨Bp, 0, none⟩ = some v := fun V hV => (hv.keeps hV.out id).cell 0
        have VA := Lib.hid va
        have C3 := Lib.hid (fun V (hV : Later w7 V) => C2.out w7 V hd7.keep hV)
        clear va C2 C1 FN
        obtain ⟨i0, z0, hi0, hzz, hss, hbb, hzs⟩ := info_hash
        have hlt := hd7.keep.size
        have HD7 := Lib.hid hd7
        have HV7 := Lib.hid hv
        have HO7 := Lib.hid hown
        have hc7 : w7.drew.cell? ⟨Bp, 0, none⟩ = some v := VA.out _ ⟨(Keeps.refl _ _).drew⟩
        have hbl : (bvs L).length = 32 := by rw [bvs_length, HL.out]
        have hfold := fill_hash L HL.out
        clear hd7 hv hown
        go_region_law (first
          | (go_simp; go_at_call 16; with_reducible refine (C3.out _ ⟨(Keeps.refl _ _).drew⟩).mono ?_; rintro e w8 ⟨rfl, k8⟩; have hc8 : w8.cell? ⟨Bp, 0, none⟩ = some v := VA.out _ k8; have hc88 : (w8.alloc (.cells (bvs L).toArray 34)).cell? ⟨Bp, 0, none⟩ = some v := VA.out _ ⟨k8.out.alloc _⟩; have hlt8 := k8.out.size; have K8 := Lib.hid (k8.out.alloc (.cells (bvs L).toArray 34)); clear k8)
          | (refine step_append_lies _ (by rfl) (.tmp 23) (.tmp 28) 28 (by rfl) w0.heap.size 34 i0 z0 32 32 Tryd.underlying28 hi0 hzz hss hbb hzs (by decide) v qs.length (flat qs) (by rfl) (K8.out.owns HO7.out (fun _ _ => id)) ⟨w8.heap.size, 0, none⟩ 1 1 (bvs L) (by rfl) (by rw [bvs_length, HL.out]) (World.news_of_block (heap_alloc_new w8 _)) (bvs_one _) (by decide) (by unfold maxLen; omega) (by omega) (by simp; omega) (w8.heap.size + 1) (by simp) ?_; intro g9 c9 w9 ho9 hg9 _ _; have hp := HD7.out.push HV7.out K8.out HL.out ho9 hg9 HO7.out; have hc9 : w9.cell? ⟨Bp, 0, none⟩ = some v := hp.1.cell 0; have hf9 : w9.frozen? ⟨Bp, 0, none⟩ = false := hp.1.frozen 0; have HP := Lib.hid hp.2; clear hp ho9 hg9))
        all_goals go_wp2
        all_goals go_end0
        all_goals exact ⟨rfl, HP.out⟩
      · rw [if_neg hik] at hn
        have hik0 : (0 : Int) ≤ (i : Int) - (k : Int) := by omega
        have hik1 : (k : Int) ≤ i := by omega
        have hik2 : (i : Int) ≤ 18446744073709551615 := by omega
        have hp1 := path_few (ents (rs.drop k)) (i - k) (by rw [ents_length, l2]; omega)
        rw [ents_length, l2] at hp1
        have c1 : ∀ V, Later w V → Calls Tryd.prog 45 #[.slice (some (a.add k)) (n - k) (c - k), .int .u64 ((i : Int) - (k : Int)), .pointer (some ⟨Bd, 0, none⟩), .pointer (some ⟨Bp, 0, none⟩)] V fun e w' => e = .returned (.tuple #[]) ∧ DownSt w0 Bd Bp (ps ++ Tr.path (ents (rs.drop k)) (i - k)) w' := fun V hV => by
          have h := ih (a.add k) (c - k) (rs.drop k) (i - k) V ps (hR.drop k) (by omega) (by omega) (by omega) (by omega) (fun r hr => hlen r (List.mem_of_mem_drop hr)) (by omega) (hD.later hV.out)
          rw [l2, show ((i - k : Nat) : Int) = (i : Int) - (k : Int) by omega] at h
          exact h
        obtain ⟨qs, hqs⟩ : ∃ qs, ps ++ Tr.path (ents (rs.drop k)) (i - k) = qs := ⟨_, rfl⟩
        have hql : qs.length ≤ 1000 := by rw [← hqs, List.length_append]; omega
        rw [hqs] at c1
        have c2 : ∀ U V, Keeps (fun k => w0.heap.size ≤ k) w0 U → Later U V → Calls Tryd.prog 16 #[.slice (some a) k c] V fun e w' => e = .returned (.agg (bvs (Tr.root (ents (rs.take k)))).toArray) ∧ Later U w' := fun U V hU hV => by
          have hkk : Keeps (fun k => w0.heap.size ≤ k) w0 V := hU.trans' hV.out (fun _ _ h => h.elim)
          have hlt := hT.lt
          have h := root_any (some a) c (rs.take k) V (hT.keeps hkk (by omega) (by omega)) ((hR.take k).keeps hkk (fun k hk => by omega)) (by omega) hmax (fun r hr => hlen r (List.mem_of_mem_take hr))
          rw [l1] at h
          exact h.mono fun e w' hh => ⟨hh.1, ⟨hV.out.trans hh.2⟩⟩
        obtain ⟨L, hL⟩ : ∃ L, Tr.root (ents (rs.take k)) = L := ⟨_, rfl⟩
        have hL32 : L.length = 32 := by rw [← hL]; exact Tr.root_length _
        rw [hL] at c2 hn
        have hfin : ps ++ Tr.path (ents rs) i = qs ++ [L] := by rw [hn, ← List.append_assoc, hqs]
        rw [hfin]
        have hbs := build_hash L hL32
        have C1 := Lib.hid c1
        have C2 := Lib.hid c2
        have HBS := Lib.hid hbs
        have HL := Lib.hid hL32
        clear c1 c2 hbs hL32 hL hfin hqs hp1 hn e1 e2 l1 l2 ih hT hR hlen hk fnAt hD hf hps hi hnn
        go_enter Tryd.func45, Tryd.ntmps45
        go_wp2_with (go_at_call 19; refine (HSP.out _).mono ?_; rintro e w' ⟨rfl, rfl⟩)
        refine wp_region_phase 7 (Later w') (by kernel_rfl) (by kernel_rfl) ⟨(Keeps.refl _ _).drew⟩ ?_
        simp only [List.take_succ_cons, List.take_zero, List.drop_succ_cons, List.drop_zero]
        refine class_cell (by rfl) 67 (.tmp 2) (by rfl) ⟨Bd, 0, none⟩ (by rfl) _ _ FN.out Tryd.underlying67 rfl ?_
        simp only [Act.put, List.setIfInBounds_toArray, List.set_cons_zero, List.set_cons_succ]
        go_big_quiet_step ((intro _; rfl))
        go_big_quiet_step ((intro _; rfl))
        go_big_quiet_step ((intro _; rfl))
        go_big_quiet_step ((intro _; rfl))
        go_big_quiet_step ((intro _; rfl))
        go_big_quiet_step ((intro _; rfl))
        refine wpQuiet_nil ?_
        intro w6 k6
        go_wp2_with (go_at_call 45; with_reducible refine (C1.out _ k6).mono ?_; rintro e w7 ⟨rfl, hd7⟩)
        obtain ⟨v, hv, hown⟩ := hd7.var
        have va : ∀ V, Later w7 V → V.cell? ⟨Bp, 0, none⟩ = some v := fun V hV => (hv.keeps hV.out id).cell 0
        have VA := Lib.hid va
        have C3 := Lib.hid (fun V (hV : Later w7 V) => C2.out w7 V hd7.keep hV)
        clear va C2 C1 FN
        obtain ⟨i0, z0, hi0, hzz, hss, hbb, hzs⟩ := info_hash
        have hlt := hd7.keep.size
        have HD7 := Lib.hid hd7
        have HV7 := Lib.hid hv
        have HO7 := Lib.hid hown
        have hc7 : w7.drew.cell? ⟨Bp, 0, none⟩ = some v := VA.out _ ⟨(Keeps.refl _ _).drew⟩
        have hbl : (bvs L).length = 32 := by rw [bvs_length, HL.out]
        have hfold := fill_hash L HL.out
        clear hd7 hv hown
        go_region_law (first
          | (go_simp; go_at_call 16; with_reducible refine (C3.out _ ⟨(Keeps.refl _ _).drew⟩).mono ?_; rintro e w8 ⟨rfl, k8⟩; have hc8 : w8.cell? ⟨Bp, 0, none⟩ = some v := VA.out _ k8; have hc88 : (w8.alloc (.cells (bvs L).toArray 34)).cell? ⟨Bp, 0, none⟩ = some v := VA.out _ ⟨k8.out.alloc _⟩; have hlt8 := k8.out.size; have K8 := Lib.hid (k8.out.alloc (.cells (bvs L).toArray 34)); clear k8)
          | (refine step_append_lies _ (by rfl) (.tmp 38) (.tmp 43) 28 (by rfl) w0.heap.size 34 i0 z0 32 32 Tryd.underlying28 hi0 hzz hss hbb hzs (by decide) v qs.length (flat qs) (by rfl) (K8.out.owns HO7.out (fun _ _ => id)) ⟨w8.heap.size, 0, none⟩ 1 1 (bvs L) (by rfl) (by rw [bvs_length, HL.out]) (World.news_of_block (heap_alloc_new w8 _)) (bvs_one _) (by decide) (by unfold maxLen; omega) (by omega) (by simp; omega) (w8.heap.size + 1) (by simp) ?_; intro g9 c9 w9 ho9 hg9 _ _; have hp := HD7.out.push HV7.out K8.out HL.out ho9 hg9 HO7.out; have hc9 : w9.cell? ⟨Bp, 0, none⟩ = some v := hp.1.cell 0; have hf9 : w9.frozen? ⟨Bp, 0, none⟩ = false := hp.1.frozen 0; have HP := Lib.hid hp.2; clear hp ho9 hg9))
        all_goals go_wp2
        all_goals go_end0
        all_goals exact ⟨rfl, HP.out⟩
end Go.Proofs.YtnnhbgaeohdojaaDoor
