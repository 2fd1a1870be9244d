/-
  The document's own answers for trees (assayerref03): where entries are parted; what a path makes. WRITTEN BY wip/gen/mkrf.py.
-/
import Derived.Test.YtfokemminjikpaaDoorSoP
import Derived.Test.YtfokemminjikpaaDoorRfM
import Derived.Test.YtfokemminjikpaaDoorTrG
import Derived.Test.YtfokemminjikpaaDoorShaT
import Derived.Laws.AppendOwn
namespace Go.Proofs.YtfokemminjikpaaDoor
open Go.RowKit Go.BigFrame
set_option linter.unusedVariables false

set_option maxHeartbeats 1000000 in
theorem rsplit_any (n : Nat) (w : World) (h1 : n ≤ 18446744073709551615) :
    Calls Tryd.prog 31 #[.int .u64 (n : Int)] w fun e w' => e = .returned (.int .u64 (Tr.split n : Int)) ∧ w' = w := by
  by_cases h : n < 2
  · have e := Tr.split_few h
    rw [e]
    have h' : (n : Int) < 2 := by omega
    go_enter Tryd.func31, Tryd.ntmps31
    go_wp2_with fail
    go_ret
    exact ⟨rfl, rfl⟩
  · have h' : ¬ (n : Int) < 2 := by omega
    go_enter Tryd.func31, Tryd.ntmps31
    go_wp2_with fail
    go_loopw [3] (fun kv wr => ∃ k : Nat, kv = .int .u64 (k : Int) ∧ 1 ≤ k ∧ k < n ∧ Hid (∃ j, k = 2 ^ j) ∧ wr = w) (fun kv _ => n - (intOf kv).toNat)
    case atStart => exact ⟨1, rfl, by omega, by omega, Lib.hid ⟨0, rfl⟩, rfl⟩
    case round =>
      obtain ⟨k, rfl, hk1, hkn, hp, rfl⟩ := hrel
      by_cases hlt : 2 * k < n
      · have hlt' : (k : Int) < (n : Int) - (k : Int) := by omega
        go_wp2
        go_roundw
        case rel => exact ⟨k * 2, by go_num, by omega, by omega, Lib.hid (by obtain ⟨j, hj⟩ := hp.out; exact ⟨j + 1, by rw [hj, Nat.pow_succ]⟩), by first | rfl | trivial⟩
        case measure => simp [intOf]; omega
      · have hlt' : (n : Int) - (k : Int) ≤ (k : Int) := by omega
        have hs : Tr.split n = k := by
          obtain ⟨j, hj⟩ := hp.out
          exact Tr.split_unique (by omega) hj hkn (by omega)
        have HS := Lib.hid hs
        clear hs hp
        go_wp2
        go_ret
        exact ⟨congrArg (fun s : Nat => Ending.returned (Value.int .u64 (s : Int))) HS.out.symm, rfl⟩
theorem results_cell_bool {P : Program} {fn : Func} {p u : Tmp} {ty : TypeId} (h : fn.results = #[.cell p ty, .tmp u]) (tmps : Array Value) (w : World) (g : Nat) (t : TypeId) (cs : Array Value) (fr : Nat × Nat) (d : TypeDesc)
    (hp : tmps.getD p undef = .pointer (some ⟨g, 0, none⟩)) (hg : w.heap[g]? = some (.cells cs t fr))
    (hu : P.underlying ty = some d) (hd : (match d with | .struct _ | .array _ _ => true | _ => false) = true) (hi : (P.info? ty).map (·.size) = some cs.size) :
    (results fn tmps).run P w = .ok (.tuple #[.agg cs, tmps.getD u undef]) w := by
  have hp' : tmps[p]?.getD undef = .pointer (some ⟨g, 0, none⟩) := by simpa using hp
  simp [results, h, hp', asAddr, run_loadVar_row w g t ty cs fr d hg hu hd hi]
/-- A struct is built of no part, by its run. -/
theorem wpList_build_none {P : Program} {ops : Array Oper} {rest : List Oper} {o : Oper} {a : Act} {w : World} {Q : Exit → Act → World → Prop} (hw : Region.wanted o (yielded ops a.tmps) = true) (t : TypeId) (ho : o.op = .build t #[])
    (v : Value) (hrun : (Instr.build t #[]).run P w = .ok v w) (h : wpList P ops Q rest (a.put o.dst v) w) : wpList P ops Q (o :: rest) a w := by
  refine wpList_wanted hw fun K hK => ?_
  unfold Oper.wp execOp
  simp only [ho, List.map_toArray, List.map_nil, Sem.run_bind, Sem.run_pure, Result.andThen_ok, hrun]
  exact hK _ _ h
/-- What Made answers. -/
def rmade (n i : Nat) (h : List UInt8) (ps : List (List UInt8)) : List UInt8 := if ps.length = Tr.steps n i then Tr.made n i h ps else List.replicate 32 0
theorem rmade_length (n i : Nat) (h : List UInt8) (ps : List (List UInt8)) (hh : h.length = 32) : (rmade n i h ps).length = 32 := by
  unfold rmade
  split
  · exact Tr.made_length n i h ps hh
  · rfl
set_option maxRecDepth 100000 in
set_option maxHeartbeats 4000000 in
theorem rmade_any (h : List UInt8) (hh : h.length = 32) (n i : Nat) (A : Option Addr) (c : Nat) (ps : List (List UInt8)) (w : World) (hi : i < n) (hn : n ≤ 18446744073709551615) (hP : PathAt w A ps) (hlp : ps.length ≤ 100) :
    Calls Tryd.prog 32 #[.int .u64 (n : Int), .int .u64 (i : Int), .agg (bvs h).toArray, .slice A ps.length c] w fun e w' => e = .returned (.tuple #[.agg (bvs (rmade n i h ps)).toArray, .bool (decide (ps.length = Tr.steps n i))]) ∧ Keeps (fun _ => False) w w' := by
  obtain ⟨Z, hZ⟩ : ∃ Z : Array Value, (bvs (List.replicate 32 0)).toArray = Z := ⟨_, rfl⟩
  have hz : ∀ w : World, (zeroValue 24).run Tryd.prog w = .ok (.agg Z) w := fun _ => by subst hZ; kernel_rfl
  have hzs : Z.size = 32 := by subst hZ; rfl
  obtain ⟨X, hX⟩ : ∃ X : Array Value, (bvs h).toArray = X := ⟨_, rfl⟩
  rw [hX]
  obtain ⟨W1, hW1⟩ : ∃ W, w.alloc (.cells X 24) = W := ⟨_, rfl⟩
  obtain ⟨W2, hW2⟩ : ∃ W, W1.alloc (.cells Z 24) = W := ⟨_, rfl⟩
  have k1 : Keeps (fun _ => False) w W1 := by rw [← hW1]; exact (Keeps.refl _ _).alloc _
  have k2 : Keeps (fun _ => False) W1 W2 := by rw [← hW2]; exact (Keeps.refl _ _).alloc _
  have q1 : w.heap.size < W1.heap.size := by rw [← hW1]; simp
  have q2 : W1.heap.size < W2.heap.size := by rw [← hW2]; simp
  have r6 : W2.heap[w.heap.size]? = some (.cells X 24 (0, 0)) := (k2.block _ q1 id).trans (by rw [← hW1]; exact heap_alloc_new w _)
  have r8 : W2.heap[W1.heap.size]? = some (.cells Z 24 (0, 0)) := by rw [← hW2]; exact heap_alloc_new W1 _
  have k0 := k1.trans k2
  obtain ⟨b6, hb6⟩ : ∃ b, w.heap.size = b := ⟨_, rfl⟩
  obtain ⟨b8, hb8⟩ : ∃ b, W1.heap.size = b := ⟨_, rfl⟩
  obtain ⟨base, hbase⟩ : ∃ b, W2.heap.size = b := ⟨_, rfl⟩
  have hLs := Tr.lefts_length 64 n i (Tr.deep_le (by omega)) (by omega)
  have hup := fun (hl : ps.length = Tr.steps n i) => Tr.made_up 64 n i h ps (Tr.deep_le (by omega)) (by omega) hl
  have hS64 := Tr.steps_le n i
  obtain ⟨Ls, hLL⟩ : ∃ L, Tr.lefts n i = L := ⟨_, rfl⟩
  obtain ⟨S, hS⟩ : ∃ S, Tr.steps n i = S := ⟨_, rfl⟩
  rw [hLL, hS] at hLs
  rw [hLL, hS] at hup
  rw [hS] at hS64
  have hrm : rmade n i h ps = if ps.length = S then Tr.upTo h ps Ls ps.length else List.replicate 32 0 := by
    unfold rmade
    rw [hS]
    split
    · rename_i e
      rw [hup e, Tr.upTo_all h ps Ls (e.trans hLs.symm)]
    · rfl
  rw [hrm, hS]
  have hst0 : ([] : List Bool) ++ Tr.lefts n i = Ls := by rw [hLL]; rfl
  obtain ⟨P, hP'⟩ : ∃ P, ps.length = P := ⟨_, rfl⟩
  rw [hP'] at hlp ⊢
  obtain ⟨RR, hRR⟩ : ∃ R, (bvs (if P = S then Tr.upTo h ps Ls P else List.replicate 32 0)).toArray = R := ⟨_, rfl⟩
  obtain ⟨qb, hqb⟩ : ∃ q, decide (P = S) = q := ⟨_, rfl⟩
  rw [hRR, hqb]
  have HRR := Lib.hid hRR
  have HQB := Lib.hid hqb
  clear hRR hqb
  obtain ⟨i0, hi0, hz0, hs0, hb0⟩ := info_parts (show (Tryd.prog.info? 4).map (fun i => (i.zero, i.size, i.bytes)) = some (some (.bool false), 1, 1) by kernel_rfl)
  rw [hb6] at r6
  rw [hb8] at r8
  have R6 := Lib.hid r6
  have R8 := Lib.hid r8
  have K0 := Lib.hid k0
  have HLS := Lib.hid hLs
  have HPP := Lib.hid hP
  have HPL := Lib.hid hP'
  have HX := Lib.hid hX
  have HZ := Lib.hid hZ
  have HH := Lib.hid hh
  have HB68 := Lib.hid (show b6 < b8 ∧ b8 < base ∧ w.heap.size = b6 ∧ W2.heap.size = base by omega)
  clear hLL hS hup hrm r6 r8 k0 k1 k2 hLs hP hP' hX hZ hh
  go_enter Tryd.func32, Tryd.ntmps32
  go_wp2_with fail
  go_loopw [0, 1, 10] (fun mv jv lv wr => ∃ (m j : Nat) (ls : List Bool) (A1 : Option Addr) (c1 : Nat), mv = .int .u64 (m : Int) ∧ jv = .int .u64 (j : Int) ∧ lv = .slice A1 ls.length c1 ∧ j < m ∧ m ≤ 18446744073709551615 ∧ Hid (ls ++ Tr.lefts m j = Ls) ∧ Hid (wr.ownsRow base 4 1 (.slice A1 ls.length c1) ls.length (ls.map Value.bool)) ∧ Hid (Keeps (fun k => base ≤ k) W2 wr)) (fun mv _ _ _ => (intOf mv).toNat)
  case atStart => exact ⟨n, i, [], none, 0, rfl, rfl, rfl, hi, hn, Lib.hid hst0, Lib.hid (World.ownsRow_nil _ _ _ _), Lib.hid (Keeps.refl _ _)⟩
  case round =>
    clear hi hn hst0
    obtain ⟨m, j, ls, A1, c1, rfl, rfl, rfl, hjm, hm, hst, HO, HK⟩ := hrel
    obtain ⟨l, hl⟩ : ∃ l, ls.length = l := ⟨_, rfl⟩
    have HLN := Lib.hid hl
    rw [hl] at HO ⊢
    have hl64 : l ≤ 64 := by
      have := congrArg List.length hst.out
      rw [List.length_append, HLS.out, hl] at this
      omega
    clear hl
    by_cases h2 : 2 ≤ m
    · have a := Tr.split_pos h2
      have b := Tr.split_lt h2
      have hst' := hst.out
      rw [Tr.lefts_more j h2 (by omega)] at hst'
      have hsp := fun V => rsplit_any m V hm
      obtain ⟨k, hk⟩ : ∃ k, Tr.split m = k := ⟨_, rfl⟩
      rw [hk] at a b hst' hsp
      have HSP := Lib.hid hsp
      have hm2 : (1 : Int) < m := by omega
      have hl70 : (l : Int) < 70 := by omega
      clear hsp hk hst
      by_cases hjk : j < k
      · rw [if_pos hjk, decide_eq_true hjk, ← List.singleton_append] at hst'
        have HST := Lib.hid hst'
        have hjk' : (j : Int) < k := by omega
        clear hst'
        go_wp2_with (first
          | (go_at_call 31; refine (HSP.out _).mono ?_; rintro e w' ⟨rfl, rfl⟩)
          | (refine wpList_append_own _ (by rfl) (.tmp 22) (.tmp 26) 79 (by rfl) base 4 i0 (.bool false) 1 1 Tryd.underlying79 hi0 hz0 hs0 hb0 rfl (by decide) (.slice A1 l c1) l (ls.map Value.bool) (by rfl) (Keeps.owns (S := fun _ => False) ((Keeps.refl _ _).alloc _) HO.out (fun _ _ => id)) ⟨w'.heap.size, 0, none⟩ 1 1 [.bool true] (by rfl) (by rfl) (World.news_of_block (heap_alloc_new w' _)) (by intro u hu; rw [List.mem_singleton] at hu; subst hu; rfl) (by unfold maxLen; omega) (by omega) (by have := HK.out.size; simp; omega) ?_; intro v3 w3 ho3 hg3 _; have HO3 := Lib.hid ho3; have HG3 := Lib.hid hg3; obtain ⟨A3, c3, rfl⟩ := own_slice ho3; clear ho3 hg3))
        go_roundw
        case rel =>
          refine ⟨k, j, ls ++ [true], A3, c3, by go_num, by go_num, by rw [List.length_append, List.length_singleton, HLN.out], by omega, by omega, Lib.hid (by rw [List.append_assoc]; exact HST.out), Lib.hid ?_, Lib.hid ?_⟩
          · rw [List.map_append, List.length_append, List.length_singleton, HLN.out]
            exact HO3.out
          · exact (HK.out.alloc _).grown HG3.out (fun k hk hr => by
              obtain ⟨_, _, hb⟩ := own_block HO.out k hr
              exact hb)
        case measure => simp [intOf]; omega
      · rw [if_neg hjk, decide_eq_false hjk, ← List.singleton_append] at hst'
        have HST := Lib.hid hst'
        have hjk' : ¬ (j : Int) < k := by omega
        clear hst'
        go_wp2_with (first
          | (go_at_call 31; refine (HSP.out _).mono ?_; rintro e w' ⟨rfl, rfl⟩)
          | (refine wpList_append_own _ (by rfl) (.tmp 22) (.tmp 26) 79 (by rfl) base 4 i0 (.bool false) 1 1 Tryd.underlying79 hi0 hz0 hs0 hb0 rfl (by decide) (.slice A1 l c1) l (ls.map Value.bool) (by rfl) (Keeps.owns (S := fun _ => False) ((Keeps.refl _ _).alloc _) HO.out (fun _ _ => id)) ⟨w'.heap.size, 0, none⟩ 1 1 [.bool false] (by rfl) (by rfl) (World.news_of_block (heap_alloc_new w' _)) (by intro u hu; rw [List.mem_singleton] at hu; subst hu; rfl) (by unfold maxLen; omega) (by omega) (by have := HK.out.size; simp; omega) ?_; intro v3 w3 ho3 hg3 _; have HO3 := Lib.hid ho3; have HG3 := Lib.hid hg3; obtain ⟨A3, c3, rfl⟩ := own_slice ho3; clear ho3 hg3))
        go_roundw
        case rel =>
          refine ⟨m - k, j - k, ls ++ [false], A3, c3, by go_num, by go_num, by rw [List.length_append, List.length_singleton, HLN.out], by omega, by omega, Lib.hid (by rw [List.append_assoc]; exact HST.out), Lib.hid ?_, Lib.hid ?_⟩
          · rw [List.map_append, List.length_append, List.length_singleton, HLN.out]
            exact HO3.out
          · exact (HK.out.alloc _).grown HG3.out (fun k hk hr => by
              obtain ⟨_, _, hb⟩ := own_block HO.out k hr
              exact hb)
        case measure => simp [intOf]; omega
    · have hst' := hst.out
      rw [Tr.lefts_few j (by omega), List.append_nil] at hst'
      subst hst'
      obtain rfl : l = S := HLN.out.symm.trans HLS.out
      have hm2 : ¬ (1 : Int) < m := by omega
      obtain ⟨W9, hW9⟩ : ∃ V, wr = V := ⟨_, rfl⟩
      rw [hW9] at HO HK ⊢
      have r69 := (HK.out.block b6 (Array.getElem?_eq_some_iff.1 R6.out).1 (by have := HB68.out; omega)).trans R6.out
      have r89 := (HK.out.block b8 (Array.getElem?_eq_some_iff.1 R8.out).1 (by have := HB68.out; omega)).trans R8.out
      have KW9 := Lib.hid (K0.out.trans' HK.out (fun k hk h => by have := HB68.out; have := K0.out.size; omega))
      have R69 := Lib.hid r69
      have R89 := Lib.hid r89
      clear hW9 hst HK r69 r89 hjm hm
      by_cases hPS : P = l
      · subst hPS
        have hne : ((P : Int) != (P : Int)) = false := by simp
        have hq1 := HQB.out
        rw [decide_eq_true rfl] at hq1
        subst hq1
        go_wp2_with fail
        go_loopw [12] (fun tv wr => ∃ t : Nat, t ≤ P ∧ tv = .int .i64 (t : Int) ∧ Hid (wr.heap[b6]? = some (.cells (bvs (Tr.upTo h ps ls t)).toArray 24 (0, 0))) ∧ Hid (Keeps (fun k => k = b6) W9 wr)) (fun tv _ => P - (intOf tv).toNat)
        case atStart => exact ⟨0, by omega, rfl, by rw [Tr.upTo_zero, HX.out]; exact R69, Lib.hid (Keeps.refl _ _)⟩
        case round =>
          obtain ⟨t, ht, rfl, HB, HK2⟩ := hrel
          by_cases htl : t < P
          · obtain ⟨p, hp⟩ : ∃ p, ps[t]? = some p := ⟨_, List.getElem?_eq_getElem (by rw [HPL.out]; exact htl)⟩
            have hp32 : p.length = 32 := HPP.out.all p (List.mem_of_getElem? hp)
            obtain ⟨pb, po, e1, hr1⟩ := HPP.out.lie t p hp
            subst e1
            obtain ⟨b, hb⟩ : ∃ b, ls[P - 1 - t]? = some b := ⟨_, List.getElem?_eq_getElem (by rw [HLN.out]; omega)⟩
            have hstep := Tr.upTo_succ h ps ls t p b hp (by rw [HLN.out]; exact hb) (by rw [HLN.out]; exact htl)
            have hlu := Tr.upTo_length h ps ls t HH.out
            obtain ⟨gl, cl, hA1, hcl⟩ : ∃ gl cl, A1 = some ⟨gl, 0, none⟩ ∧ W9.cell? ⟨gl, P - 1 - t, none⟩ = some (.bool b) ∧ base ≤ gl := by
              rcases HO.out.2 with ⟨h1, h2⟩ | ⟨g, cap, cur, h1, h2, _⟩
              · omega
              · injection h1 with h1
                subst h1
                have h3 := HO.out.cells (g := g) rfl (P - 1 - t) (.bool b) (by rw [List.getElem?_map, hb]; rfl)
                rw [add_plain, Nat.zero_add] at h3
                exact ⟨g, cap, rfl, h3, h2⟩
            subst hA1
            obtain ⟨q, hq⟩ : ∃ q : Nat, P - 1 - t = q := ⟨_, rfl⟩
            have hqi : (P : Int) - 1 - (t : Int) = (q : Int) := by omega
            have hq0 : (q : Int) < P := by omega
            rw [hq] at hcl
            have hcell : wr.cell? ⟨gl, q, none⟩ = some (.bool b) := (HK2.out.cell (World.block_lt_of_cell? W9 _ hcl.1) (by show ¬ gl = b6; have := HB68.out; omega)).trans hcl.1
            have kww : ∀ V, Later wr V → Keeps (fun k => b6 ≤ k) w V := fun V hV => ((KW9.out.mono (fun _ _ h => h.elim)).trans (HK2.out.mono (fun k _ e => by omega))).trans (hV.out.mono (fun _ _ h => h.elim))
            have gp : ∀ V, Later wr V → V.rangeAt pb (po + t * 32) (bvs p) := fun V hV => range_keeps hr1 (kww V hV) (fun k hk h => by have := HB68.out; omega)
            have g6 : ∀ V, Later wr V → V.heap[b6]? = some (.cells (bvs (Tr.upTo h ps ls t)).toArray 24 (0, 0)) := fun V hV => (hV.out.block _ (Array.getElem?_eq_some_iff.1 HB.out).1 id).trans HB.out
            have hnode : ∀ x y : List UInt8, x.length = 32 → y.length = 32 → ∀ V, Later wr V → Calls Tryd.prog 19 #[.agg (bvs x).toArray, .agg (bvs y).toArray] V fun e w' => e = .returned (.agg (bvs (Tr.node x y)).toArray) ∧ Later wr w' := fun x y hx hy V hV =>
              (rnode_any x y V hx hy).mono fun e w' hh => ⟨hh.1, ⟨hV.out.trans hh.2⟩⟩
            have hnl := hnode _ _ hlu hp32
            have hnr := hnode _ _ hp32 hlu
            have hpi : (Tryd.prog.info? 24).map (·.size) = some (bvs p).length := by rw [bvs_length, hp32]; exact size_hash'
            have su : (Tryd.prog.info? 24).map (·.size) = some (bvs (Tr.upTo h ps ls t)).toArray.size := by rw [List.size_toArray, bvs_length, hlu]; exact size_hash'
            have hu1 : (Tr.upTo h ps ls (t + 1)).length = 32 := Tr.upTo_length h ps ls (t + 1) HH.out
            have s1 : (Tryd.prog.info? 24).map (·.size) = some (bvs (Tr.upTo h ps ls (t + 1))).toArray.size := by rw [List.size_toArray, bvs_length, hu1]; exact size_hash'
            have z1 : (bvs (Tr.upTo h ps ls t)).toArray.size = (bvs (Tr.upTo h ps ls (t + 1))).toArray.size := by rw [List.size_toArray, bvs_length, hlu, List.size_toArray, bvs_length, hu1]
            have o1 : (bvs (Tr.upTo h ps ls (t + 1))).toArray.all (·.oneCell') = true := bvs_all _
            obtain ⟨O, hO⟩ : ∃ O, bvs p = O := ⟨_, rfl⟩
            obtain ⟨U0, hU0⟩ : ∃ O, (bvs (Tr.upTo h ps ls t)).toArray = O := ⟨_, rfl⟩
            obtain ⟨U1, hU1⟩ : ∃ O, (bvs (Tr.upTo h ps ls (t + 1))).toArray = O := ⟨_, rfl⟩
            rw [hU0] at g6 su z1
            rw [hU1] at s1 z1 o1
            rw [hO] at gp hpi
            have G6 := Lib.hid g6
            have GP := Lib.hid gp
            have SU := Lib.hid su
            have S1 := Lib.hid s1
            have Z1 := Lib.hid z1
            have O1 := Lib.hid o1
            have HPI := Lib.hid hpi
            have HU1 := Lib.hid hU1
            have hPt : (t : Int) < P := by omega
            cases b with
            | true =>
              rw [if_pos rfl] at hstep
              rw [hU0, hO, ← hstep, hU1] at hnl
              have CN := Lib.hid hnl
              clear hnl hnr hnode g6 gp su s1 z1 o1 hpi hstep hlu hu1 hU0 hU1 hO hr1 hp32 hp hb hq kww hcl HB ht
              go_wp2_with fail
              refine wp_region_phase 6 (Later wr) (by kernel_rfl) (by kernel_rfl) ⟨(Keeps.refl _ _).drew⟩ ?_
              simp only [List.take_succ_cons, List.take_zero, List.drop_succ_cons, List.drop_zero]
              refine class_load (by rfl) 24 (.tmp 6) (by rfl) b6 (by rfl) 24 U0 (0, 0) _ G6.out Tryd.underlying24 rfl SU.out ?_
              simp only [Act.put, List.setIfInBounds_toArray, List.set_cons_zero, List.set_cons_succ]
              go_big_quiet_step ((intro _; rfl))
              go_big_quiet_step ((intro _; rfl))
              go_big_quiet_step ((intro _; rfl))
              refine class_mid (by rfl) 24 (.tmp 61) (by rfl) pb (po + t * 32) (by rfl) (O) _ GP.out Tryd.underlying24 rfl HPI.out ?_
              simp only [Act.put, List.setIfInBounds_toArray, List.set_cons_zero, List.set_cons_succ]
              go_big_quiet_want
              go_big_quiet_op
              refine ⟨(.agg U1), fun V hV => CN.out V hV, ?_⟩
              go_big_quiet_on
              refine wpQuiet_nil ?_
              intro w6 k6
              have H6 := Lib.hid (G6.out w6 k6)
              have KN := Lib.hid ((HK2.out.trans (k6.out.mono (fun _ _ h => h.elim))).trans (Keeps.setRow b6 U1))
              have HN := Lib.hid (setRow_heap _ _ _ _ _ _ H6.out : (w6.setRow b6 U1).heap[b6]? = some (.cells U1 24 (0, 0)))
              go_wp2_with (refine wpList_store_row rfl 24 _ _ rfl b6 U1 rfl rfl 24 U0 H6.out S1.out Z1.out O1.out ?_)
              go_roundw
              case rel => exact ⟨t + 1, by omega, by go_num, by rw [HU1.out]; exact HN, KN⟩
              case measure => simp [intOf]; omega
            | false =>
              rw [if_neg (by decide)] at hstep
              rw [hU0, hO, ← hstep, hU1] at hnr
              have CN := Lib.hid hnr
              clear hnl hnr hnode g6 gp su s1 z1 o1 hpi hstep hlu hu1 hU0 hU1 hO hr1 hp32 hp hb hq kww hcl HB ht
              go_wp2_with fail
              refine wp_region_phase 6 (Later wr) (by kernel_rfl) (by kernel_rfl) ⟨(Keeps.refl _ _).drew⟩ ?_
              simp only [List.take_succ_cons, List.take_zero, List.drop_succ_cons, List.drop_zero]
              go_big_quiet_step ((intro _; rfl))
              go_big_quiet_step ((intro _; rfl))
              go_big_quiet_step ((intro _; rfl))
              refine class_mid (by rfl) 24 (.tmp 66) (by rfl) pb (po + t * 32) (by rfl) (O) _ GP.out Tryd.underlying24 rfl HPI.out ?_
              simp only [Act.put, List.setIfInBounds_toArray, List.set_cons_zero, List.set_cons_succ]
              refine class_load (by rfl) 24 (.tmp 6) (by rfl) b6 (by rfl) 24 U0 (0, 0) _ G6.out Tryd.underlying24 rfl SU.out ?_
              simp only [Act.put, List.setIfInBounds_toArray, List.set_cons_zero, List.set_cons_succ]
              go_big_quiet_want
              go_big_quiet_op
              refine ⟨(.agg U1), fun V hV => CN.out V hV, ?_⟩
              go_big_quiet_on
              refine wpQuiet_nil ?_
              intro w6 k6
              have H6 := Lib.hid (G6.out w6 k6)
              have KN := Lib.hid ((HK2.out.trans (k6.out.mono (fun _ _ h => h.elim))).trans (Keeps.setRow b6 U1))
              have HN := Lib.hid (setRow_heap _ _ _ _ _ _ H6.out : (w6.setRow b6 U1).heap[b6]? = some (.cells U1 24 (0, 0)))
              go_wp2_with (refine wpList_store_row rfl 24 _ _ rfl b6 U1 rfl rfl 24 U0 H6.out S1.out Z1.out O1.out ?_)
              go_roundw
              case rel => exact ⟨t + 1, by omega, by go_num, by rw [HU1.out]; exact HN, KN⟩
              case measure => simp [intOf]; omega
          · obtain rfl : t = P := by omega
            have hlu := Tr.upTo_length h ps ls t HH.out
            have r8r := (HK2.out.block b8 (Array.getElem?_eq_some_iff.1 R89.out).1 (by have := HB68.out; omega)).trans R89.out
            have s1 : (Tryd.prog.info? 24).map (·.size) = some (bvs (Tr.upTo h ps ls t)).toArray.size := by rw [List.size_toArray, bvs_length, hlu]; exact size_hash'
            have z1 : Z.size = (bvs (Tr.upTo h ps ls t)).toArray.size := hzs.trans (by rw [List.size_toArray, bvs_length, hlu])
            have o1 : (bvs (Tr.upTo h ps ls t)).toArray.all (·.oneCell') = true := bvs_all _
            have hb := HB.out
            obtain ⟨U0, hU0⟩ : ∃ O, (bvs (Tr.upTo h ps ls t)).toArray = O := ⟨_, rfl⟩
            have hr1 := HRR.out
            rw [if_pos (by trivial), hU0] at hr1
            rw [hU0] at s1 z1 o1 hb
            have HR1 := Lib.hid hr1
            have S1 := Lib.hid s1
            have Z1 := Lib.hid z1
            have O1 := Lib.hid o1
            have HBB := Lib.hid hb
            have R8R := Lib.hid r8r
            have KF := Lib.hid ((KW9.out.trans' HK2.out (fun k hk e => by have := HB68.out; omega)).trans' (Keeps.setRow b8 U0) (fun k hk e => by have := HB68.out; omega))
            have HE := Lib.hid (setRow_heap _ _ _ _ _ _ r8r : (wr.setRow b8 U0).heap[b8]? = some (.cells U0 24 (0, 0)))
            clear s1 z1 o1 hb r8r hU0 hlu HB ht htl hr1
            go_wp2_with (first
              | (refine wpList_load_row rfl 24 (.tmp 6) rfl b6 rfl 24 U0 (0, 0) _ HBB.out Tryd.underlying24 rfl S1.out ?_)
              | (refine wpList_store_row rfl 24 _ _ rfl b8 U0 rfl rfl 24 Z R8R.out S1.out Z1.out O1.out ?_))
            refine bodyPost_ret (results_cell_bool rfl _ _ b8 24 U0 (0, 0) _ rfl HE.out Tryd.underlying24 rfl S1.out) rfl ?_
            exact ⟨congrArg (fun R => Ending.returned (Value.tuple #[.agg R, .bool true])) HR1.out, KF.out⟩
      · have hne : ((P : Int) != (l : Int)) = true := by rw [bne_iff_ne]; omega
        have hq1 := HQB.out
        rw [decide_eq_false hPS] at hq1
        subst hq1
        have hr1 := HRR.out
        rw [if_neg hPS, HZ.out] at hr1
        subst hr1
        have sz : (Tryd.prog.info? 24).map (·.size) = some Z.size := by rw [hzs]; exact size_hash'
        have oz : Z.all (·.oneCell') = true := by rw [← HZ.out]; exact bvs_all _
        have HE := Lib.hid (setRow_heap _ _ _ _ _ _ R89.out : (W9.setRow b8 Z).heap[b8]? = some (.cells Z 24 (0, 0)))
        have KF := Lib.hid (KW9.out.trans' (Keeps.setRow b8 Z) (fun k hk e => by have := HB68.out; omega))
        have hbz : ∀ V : World, (Instr.build 24 #[]).run Tryd.prog V = .ok (.agg Z) V := fun V => by rw [← HZ.out]; kernel_rfl
        have HBZ := Lib.hid hbz
        have SZ := Lib.hid sz
        have OZ := Lib.hid oz
        clear sz oz hbz
        go_wp2_with (first
          | (refine wpList_build_none (by rfl) 24 (by rfl) (.agg Z) (HBZ.out _) ?_)
          | (refine wpList_store_row rfl 24 _ _ rfl b8 Z rfl rfl 24 Z R89.out SZ.out rfl OZ.out ?_))
        refine bodyPost_ret (results_cell_bool rfl _ _ b8 24 Z (0, 0) _ rfl HE.out Tryd.underlying24 rfl SZ.out) rfl ?_
        exact ⟨rfl, KF.out⟩
end Go.Proofs.YtfokemminjikpaaDoor
