/-
  The rows of a proof that a tree goes on, whole; the two roots that it makes (clash.Chained); what two proofs show (clash.Chains). WRITTEN BY wip/gen/mkclf.py.
-/
import Derived.Test.YtjblnjeloimbgaaDoorClE
import Derived.Test.YtjblnjeloimbgaaDoorClR
namespace Go.Proofs.YtjblnjeloimbgaaDoor
namespace Cl
/-- The steps of a proof that a tree goes on. -/
def zc (m n : Nat) (p : List Bytes) : List (Bytes × Bool) := (Tr.rest p (Tr.stp m n true).2).zip (Tr.stp m n true).1.reverse
def bc (m n : Nat) (o : Bytes) (p : List Bytes) : Bytes := Tr.begun o p (Tr.stp m n true).2
/-- The rows of a proof, the two roots that it makes, an error. -/
def crow (k m n : Nat) (o : Bytes) (p : List Bytes) : List Bytes × Bytes × Bytes × Int :=
  if m < 1 ∨ n < m then ([], List.replicate 32 0, List.replicate 32 0, 15) else if p.length = Tr.lng m n true then (rowsOf k (bc m n o p) (zc m n p), oldOf k (bc m n o p) (zc m n p), rootOf k (bc m n o p) (zc m n p), 0) else ([], List.replicate 32 0, List.replicate 32 0, 20)
theorem crow_fine {k m n : Nat} {o : Bytes} {p : List Bytes} (h : (crow k m n o p).2.2.2 = 0) : 1 ≤ m ∧ m ≤ n ∧ p.length = Tr.lng m n true ∧ crow k m n o p = (rowsOf k (bc m n o p) (zc m n p), oldOf k (bc m n o p) (zc m n p), rootOf k (bc m n o p) (zc m n p), 0) := by
  unfold crow at h ⊢
  split at h
  · cases h
  · rename_i h1
    split at h
    · rename_i h2
      exact ⟨by omega, by omega, h2, by rw [if_neg h1, if_pos h2]⟩
    · cases h
theorem bc_length {m n : Nat} {o : Bytes} {p : List Bytes} (ho : o.length = 32) (hp : ∀ x ∈ p, x.length = 32) (h1 : 1 ≤ m) (h2 : m ≤ n) (hn : n ≤ 18446744073709551615) (hl : p.length = Tr.lng m n true) : (bc m n o p).length = 32 := by
  unfold bc Tr.begun
  split
  · exact ho
  · rename_i h
    have := (Tr.stp_length 64 m n true (Tr.deep_le (by omega)) h1 h2 (by omega)).2
    rw [if_neg h] at this
    cases p with
    | nil => simp at hl; omega
    | cons x p => exact hp x (by simp)
theorem crow_length (k m n : Nat) (o : Bytes) (p : List Bytes) (ho : o.length = 32) (hp : ∀ x ∈ p, x.length = 32) (hn : n ≤ 18446744073709551615) : (crow k m n o p).2.1.length = 32 ∧ (crow k m n o p).2.2.1.length = 32 := by
  unfold crow
  split
  · exact ⟨rfl, rfl⟩
  · split
    · have := bc_length (m := m) (n := n) ho hp (by omega) (by omega) hn (by assumption)
      exact ⟨oldOf_length _ _ _ this, rootOf_length _ _ _ this⟩
    · exact ⟨rfl, rfl⟩
theorem rest_length {m n : Nat} {p : List Bytes} (h1 : 1 ≤ m) (h2 : m ≤ n) (hn : n ≤ 18446744073709551615) (hl : p.length = Tr.lng m n true) : (Tr.rest p (Tr.stp m n true).2).length = (Tr.stp m n true).1.length ∧ (Tr.stp m n true).1.length ≤ 64 := by
  have h := Tr.stp_length 64 m n true (Tr.deep_le (by omega)) h1 h2 (by omega)
  refine ⟨?_, h.1⟩
  rw [h.2] at hl
  unfold Tr.rest
  split
  · rename_i hq; rw [if_pos hq] at hl; omega
  · rename_i hq; rw [if_neg hq] at hl; rw [List.length_drop]; omega
/-- What two proofs show, from two old roots of one size. -/
def chains (k m n : Nat) (a b : Bytes) (p q : List Bytes) : Option (Bytes × Bytes) :=
  if a = b then none else if (crow k m n a p).2.2.2 ≠ 0 ∨ (crow k m n a p).2.1 ≠ a then none else if ((crow k m n b q).2.2.2 ≠ 0 ∨ (crow k m n b q).2.1 ≠ b) ∨ (crow k m n a p).2.2.1 ≠ (crow k m n b q).2.2.1 then none else some (high (crow k m n a p).1 (crow k m n b q).1)
theorem crow_rows {k m n : Nat} {a : Bytes} {p : List Bytes} (hn : n ≤ 18446744073709551615) (h : (crow k m n a p).2.2.2 = 0) : (crow k m n a p).1.length = (Tr.stp m n true).1.length ∧ (Tr.stp m n true).1.length ≤ 64 := by
  obtain ⟨a1, a2, a3, a4⟩ := crow_fine h
  have := rest_length a1 a2 hn a3
  rw [a4]
  refine ⟨?_, this.2⟩
  show (rowsOf k _ _).length = _
  rw [rowsOf_length, zc, List.length_zip, List.length_reverse, this.1]
  omega
theorem chains_good {k m n : Nat} {a b : Bytes} {p q : List Bytes} {c : Bytes × Bytes} (hn : n ≤ 18446744073709551615) (ha : a.length = 32) (hb : b.length = 32) (hp : ∀ x ∈ p, x.length = 32) (hq : ∀ x ∈ q, x.length = 32) (h : chains k m n a b p q = some c) : Good k c := by
  unfold chains at h
  split at h
  · cases h
  · rename_i hab
    split at h
    · cases h
    · rename_i h1
      split at h
      · cases h
      · rename_i h2
        have e1 : (crow k m n a p).2.2.2 = 0 := Classical.not_not.1 (fun e => h1 (.inl e))
        have e2 : (crow k m n a p).2.1 = a := Classical.not_not.1 (fun e => h1 (.inr e))
        have e3 : (crow k m n b q).2.2.2 = 0 := Classical.not_not.1 (fun e => h2 (.inl (.inl e)))
        have e4 : (crow k m n b q).2.1 = b := Classical.not_not.1 (fun e => h2 (.inl (.inr e)))
        have e5 : (crow k m n a p).2.2.1 = (crow k m n b q).2.2.1 := Classical.not_not.1 (fun e => h2 (.inr e))
        obtain ⟨a1, a2, a3, a4⟩ := crow_fine e1
        obtain ⟨b1, b2, b3, b4⟩ := crow_fine e3
        rw [a4] at h e2 e5
        rw [b4] at h e4 e5
        cases h
        have la := rest_length a1 a2 hn a3
        have lb := rest_length b1 b2 hn b3
        refine high_chain k _ _ _ _ ?_ ?_ ?_ (bc_length ha hp a1 a2 hn a3) (bc_length hb hq b1 b2 hn b3) e5 (fun e => hab (by rw [← e2, ← e4]; exact e))
        · exact zip_snd _ _ _ (by rw [List.length_reverse]; exact la.1) (by rw [List.length_reverse]; exact lb.1)
        · exact zip_fst _ _ (fun x hx => hp x (by unfold Tr.rest at hx; split at hx; exact hx; exact List.mem_of_mem_drop hx))
        · exact zip_fst _ _ (fun x hx => hq x (by unfold Tr.rest at hx; split at hx; exact hx; exact List.mem_of_mem_drop hx))
end Cl
open Go.RowKit Go.BigFrame
set_option linter.unusedVariables false

theorem results_cct {P : Program} {fn : Func} {p q u : Tmp} {ty ty2 : TypeId} (h : fn.results = #[.cell p ty, .cell q ty2, .tmp u]) (tmps : Array Value) (w : World) (g : Nat) (t : TypeId) (cs : Array Value) (fr : Nat × Nat) (d : TypeDesc) (g2 : Nat) (t2 : TypeId) (cs2 : Array Value) (fr2 : Nat × Nat) (d2 : TypeDesc) (v : Value)
    (hp : tmps.getD p undef = .pointer (some ⟨g, 0, none⟩)) (hg : w.heap[g]? = some (.cells cs t fr))
    (hu : P.underlying ty = some d) (hd : (match d with | .struct _ | .array _ _ => true | _ => false) = true) (hi : (P.info? ty).map (·.size) = some cs.size)
    (hq : tmps.getD q undef = .pointer (some ⟨g2, 0, none⟩)) (hg2 : w.heap[g2]? = some (.cells cs2 t2 fr2))
    (hu2 : P.underlying ty2 = some d2) (hd2 : (match d2 with | .struct _ | .array _ _ => true | _ => false) = true) (hi2 : (P.info? ty2).map (·.size) = some cs2.size) (hv : tmps.getD u undef = v) :
    (results fn tmps).run P w = .ok (.tuple #[.agg cs, .agg cs2, v]) w := by
  have hp' : tmps[p]?.getD undef = .pointer (some ⟨g, 0, none⟩) := by simpa using hp
  have hq' : tmps[q]?.getD undef = .pointer (some ⟨g2, 0, none⟩) := by simpa using hq
  have hv' : tmps[u]?.getD undef = v := by simpa using hv
  simp [results, h, hp', hq', hv', asAddr, run_loadVar_row w g t ty cs fr d hg hu hd hi, run_loadVar_row w g2 t2 ty2 cs2 fr2 d2 hg2 hu2 hd2 hi2]
theorem RowsF.none (w : World) : RowsF w none 0 [] := fun _ V _ _ => RowsOk.none V
theorem RowsF.later {w w' : World} {A : Option Addr} {c : Nat} {rs : List RowOf} (h : RowsF w A c rs) (hk : Keeps (fun _ => False) w w') : RowsF w' A c rs := fun S V hV hs => h S V ((hk.mono (fun _ _ e => e.elim) : Keeps S w w').trans hV) (fun k cs t fr hc ht => hs k cs t fr ((hk.block k (Array.getElem?_eq_some_iff.1 hc).1 id).trans hc) ht)
theorem ckey_length (s : Nat) (r : List UInt8) (h : r.length = 32) : (keyCells s r).length = 33 := by unfold keyCells; rw [List.length_cons, bvs_length, h]
theorem ckey_one (s : Nat) (r : List UInt8) : (keyCells s r).toArray.all (·.oneCell') = true := by
  rw [Array.all_eq_true_iff_forall_mem]
  intro v hv
  have hv : v ∈ keyCells s r := by simpa using hv
  unfold keyCells at hv
  rcases List.mem_cons.1 hv with h | h
  · rw [h]; rfl
  · exact bvs_one r v h
theorem ckey_size : (Tryd.prog.info? 35).map (·.size) = some 33 := by kernel_rfl
set_option maxRecDepth 100000 in
/-- What chainRows answers. -/
theorem crow_any (wide : Int) (m n : Nat) (o : List UInt8) (A : Option Addr) (c : Nat) (ps : List (List UInt8)) (w : World) (hT : Tabs w) (ho : o.length = 32) (hP : PathAt w A ps) (hm : m ≤ 18446744073709551615) (hn : n ≤ 18446744073709551615) (hc : ps.length ≤ c) (hmax : c ≤ 9223372036854775807) :
    Calls Tryd.prog 20 #[.int .i64 wide, .agg (keyCells m o).toArray, .int .u64 (n : Int), .slice A ps.length c] w fun e w' => ∃ A' c' rs, e = .returned (.tuple #[.slice A' rs.length c', .agg (bvs (Cl.crow (Cl.wid wide) m n o ps).2.1).toArray, .agg (bvs (Cl.crow (Cl.wid wide) m n o ps).2.2.1).toArray, .int .i64 (Cl.crow (Cl.wid wide) m n o ps).2.2.2]) ∧
      RowsF w' A' c' rs ∧ ents rs = (Cl.crow (Cl.wid wide) m n o ps).1 ∧ Keeps (fun _ => False) w w' := by
  unfold Cl.crow
  by_cases h1 : m < 1 ∨ n < m
  · rw [if_pos h1]
    rcases Nat.lt_or_ge m 1 with h2 | h2
    · refine (crow_low wide m n o A ps.length c w h2).mono ?_
      rintro e w' ⟨he, hk⟩
      exact ⟨.none, 0, [], he, RowsF.none _, rfl, hk⟩
    · refine (crow_high wide m n o A ps.length c w h2 (by omega) hm).mono ?_
      rintro e w' ⟨he, hk⟩
      exact ⟨.none, 0, [], he, RowsF.none _, rfl, hk⟩
  · rw [if_neg h1]
    by_cases h2 : ps.length = Tr.lng m n true
    · rw [if_pos h2]
      unfold Cl.bc Cl.zc
      by_cases hq : (Tr.stp m n true).2 = true
      · exact crow_whole wide m n o A c ps w hT ho hP (by omega) (by omega) hn h2 hc hmax hq
      · exact crow_part wide m n o A c ps w hT ho hP (by omega) (by omega) hn h2 hc hmax (by simpa using hq)
    · rw [if_neg h2]
      refine (crow_len wide m n o A ps.length c w (by omega) (by omega) hn h2).mono ?_
      rintro e w' ⟨he, hk⟩
      exact ⟨.none, 0, [], he, RowsF.none _, rfl, hk⟩
set_option maxRecDepth 100000 in
set_option maxHeartbeats 2000000 in
theorem chained_any (wide : Int) (m n : Nat) (o : List UInt8) (A : Option Addr) (c : Nat) (ps : List (List UInt8)) (w : World) (hT : Tabs w) (ho : o.length = 32) (hP : PathAt w A ps) (hm : m ≤ 18446744073709551615) (hn : n ≤ 18446744073709551615) (hc : ps.length ≤ c) (hmax : c ≤ 9223372036854775807) :
    Calls Tryd.prog 15 #[.int .i64 wide, .agg (keyCells m o).toArray, .int .u64 (n : Int), .slice A ps.length c] w fun e w' => e = .returned (.tuple #[.agg (bvs (Cl.crow (Cl.wid wide) m n o ps).2.1).toArray, .agg (bvs (Cl.crow (Cl.wid wide) m n o ps).2.2.1).toArray, .int .i64 (Cl.crow (Cl.wid wide) m n o ps).2.2.2]) ∧ Keeps (fun _ => False) w w' := by
  obtain ⟨Z, hZ, hz, hzs⟩ := zero_hash
  obtain ⟨KO, hKO⟩ : ∃ K, (keyCells m o).toArray = K := ⟨_, rfl⟩
  obtain ⟨bk, hbk⟩ : ∃ q, w.heap.size = q := ⟨_, rfl⟩
  obtain ⟨W1, hW1⟩ : ∃ V, w.alloc (.cells KO 35) = V := ⟨_, rfl⟩
  obtain ⟨W2, hW2⟩ : ∃ V, W1.alloc (.cells Z 26) = V := ⟨_, rfl⟩
  obtain ⟨W3, hW3⟩ : ∃ V, W2.alloc (.cells Z 26) = V := ⟨_, rfl⟩
  obtain ⟨g8, hg8⟩ : ∃ q, W1.heap.size = q := ⟨_, rfl⟩
  obtain ⟨g9, hg9⟩ : ∃ q, W2.heap.size = q := ⟨_, rfl⟩
  have k1 : Keeps (fun _ => False) w W1 := by rw [← hW1]; exact (Keeps.refl _ _).alloc _
  have k2 : Keeps (fun _ => False) W1 W2 := by rw [← hW2]; exact (Keeps.refl _ _).alloc _
  have k3 : Keeps (fun _ => False) W2 W3 := by rw [← hW3]; exact (Keeps.refl _ _).alloc _
  have z1 : g8 = bk + 1 := by rw [← hg8, ← hW1, World.size_alloc, hbk]
  have z2 : g9 = bk + 2 := by rw [← hg9, ← hW2, World.size_alloc, hg8, z1]
  have z3 : W3.heap.size = bk + 3 := by rw [← hW3, World.size_alloc, hg9, z2]
  have r1 : W3.heap[bk]? = some (.cells KO 35 (0, 0)) := (k3.block _ (by omega) id).trans ((k2.block _ (by omega) id).trans (by rw [← hW1, ← hbk]; exact heap_alloc_new w _))
  have r8 : W3.heap[g8]? = some (.cells Z 26 (0, 0)) := (k3.block _ (by omega) id).trans (by rw [← hW2, ← hg8]; exact heap_alloc_new W1 _)
  have r9 : W3.heap[g9]? = some (.cells Z 26 (0, 0)) := by rw [← hW3, ← hg9]; exact heap_alloc_new W2 _
  have k03 : Keeps (fun _ => False) w W3 := (k1.trans k2).trans k3
  have hp := crow_any wide m n o A c ps W3 (hT.keeps k03 id id) ho (hP.keeps k03 (fun _ _ => id)) hm hn hc hmax
  obtain ⟨l1, l2⟩ := Cl.crow_length (Cl.wid wide) m n o ps ho hP.all hn
  obtain ⟨s1, y1, o1⟩ := arr_hash _ l1
  obtain ⟨s2, y2, o2⟩ := arr_hash _ l2
  have SK : Hid ((Tryd.prog.info? 35).map (·.size) = some KO.size) := Lib.hid (by rw [← hKO, List.size_toArray, ckey_length m o ho]; exact ckey_size)
  obtain ⟨RF, hRF⟩ : ∃ R, bvs (Cl.crow (Cl.wid wide) m n o ps).2.1 = R := ⟨_, rfl⟩
  obtain ⟨RS, hRS⟩ : ∃ R, bvs (Cl.crow (Cl.wid wide) m n o ps).2.2.1 = R := ⟨_, rfl⟩
  obtain ⟨er, her⟩ : ∃ e, (Cl.crow (Cl.wid wide) m n o ps).2.2.2 = e := ⟨_, rfl⟩
  rw [hRF, hRS, her, hKO] at hp
  rw [hRF, hRS, her, hKO]
  have SRF : Hid ((Tryd.prog.info? 26).map (·.size) = some RF.length) := Lib.hid (by rw [← hRF, bvs_length, l1]; exact size_hash')
  have SRS : Hid ((Tryd.prog.info? 26).map (·.size) = some RS.length) := Lib.hid (by rw [← hRS, bvs_length, l2]; exact size_hash')
  rw [hRF] at s1 y1 o1
  rw [hRS] at s2 y2 o2
  have HP := Lib.hid hp
  have SF2 := Lib.hid s1
  have ZF := Lib.hid (hzs.trans y1.symm)
  have OF := Lib.hid o1
  have SS2 := Lib.hid s2
  have ZS := Lib.hid (hzs.trans y2.symm)
  have OS := Lib.hid o2
  have K3 := Lib.hid k03
  have R1 := Lib.hid r1
  have R8 := Lib.hid r8
  have R9 := Lib.hid r9
  have G89 : Hid (g8 ≠ g9) := Lib.hid (by omega)
  have HZ12 := Lib.hid (And.intro z1 (And.intro z2 (And.intro hbk z3)))
  clear hp l1 l2 s1 y1 o1 s2 y2 o2 hRF hRS her hKO k1 k2 k3 k03 r1 r8 r9 z1 z2 z3 hZ hzs hT hP ho
  go_enter Tryd.func15, Tryd.ntmps15
  go_wp2_with (refine wpList_load_row rfl 35 _ rfl bk rfl 35 KO (0, 0) _ R1.out Tryd.underlying35 rfl SK.out ?_)
  refine HP.out.mono ?_
  rintro e w2 ⟨A', c', rs, rfl, _, _, k2⟩
  obtain ⟨g12, hg12⟩ : ∃ q, w2.heap.size = q := ⟨_, rfl⟩
  obtain ⟨W4, hW4⟩ : ∃ V, w2.alloc (.cells Z 26) = V := ⟨_, rfl⟩
  obtain ⟨g13, hg13⟩ : ∃ q, W4.heap.size = q := ⟨_, rfl⟩
  obtain ⟨W5, hW5⟩ : ∃ V, W4.alloc (.cells Z 26) = V := ⟨_, rfl⟩
  obtain ⟨W6, hW6⟩ : ∃ V, W5.setRow g12 RF.toArray = V := ⟨_, rfl⟩
  obtain ⟨wr, hW7⟩ : ∃ V, W6.setRow g13 RS.toArray = V := ⟨_, rfl⟩
  have k4 : Keeps (fun _ => False) w2 W4 := by rw [← hW4]; exact (Keeps.refl _ _).alloc _
  have k5 : Keeps (fun _ => False) W4 W5 := by rw [← hW5]; exact (Keeps.refl _ _).alloc _
  have z4 : g13 = g12 + 1 := by rw [← hg13, ← hW4, World.size_alloc, hg12]
  have q12 : W5.heap[g12]? = some (.cells Z 26 (0, 0)) := (k5.block _ (by omega) id).trans (by rw [← hW4, ← hg12]; exact heap_alloc_new w2 _)
  have q13 : W5.heap[g13]? = some (.cells Z 26 (0, 0)) := by rw [← hW5, ← hg13]; exact heap_alloc_new W4 _
  have k6 : Keeps (fun k => k = g12) W5 W6 := by rw [← hW6]; exact Keeps.setRow _ _
  have k7 : Keeps (fun k => k = g13) W6 wr := by rw [← hW7]; exact Keeps.setRow _ _
  have q613 : W6.heap[g13]? = some (.cells Z 26 (0, 0)) := (k6.block _ (Array.getElem?_eq_some_iff.1 q13).1 (by omega)).trans q13
  have q612 : W6.heap[g12]? = some (.cells RF.toArray 26 (0, 0)) := by rw [← hW6]; exact setRow_heap _ _ _ _ _ _ q12
  have q712 : wr.heap[g12]? = some (.cells RF.toArray 26 (0, 0)) := (k7.block _ (Array.getElem?_eq_some_iff.1 q612).1 (by omega)).trans q612
  have q713 : wr.heap[g13]? = some (.cells RS.toArray 26 (0, 0)) := by rw [← hW7]; exact setRow_heap _ _ _ _ _ _ q613
  have k27 : Keeps (fun _ => False) w2 wr := ((k4.trans k5).trans' k6 (fun i hi e => by omega)).trans' k7 (fun i hi e => by omega)
  have k37 := k2.trans k27
  have hz12 := HZ12.out
  have hsz : bk + 3 ≤ g12 := by have := k2.size; omega
  have Q12 := Lib.hid q12
  have Q613 := Lib.hid q613
  have RZ8 : Hid (wr.drew.heap[g8]? = some (.cells Z 26 (0, 0))) := Lib.hid ((k37.block g8 (by omega) id).trans R8.out)
  have RZ9 : Hid (wr.drew.heap[g9]? = some (.cells Z 26 (0, 0))) := Lib.hid ((k37.block g9 (by omega) id).trans R9.out)
  have HRF : Hid (∀ V, Keeps (fun k => k = g8 ∨ k = g9) wr V → V.rangeAt g12 0 RF) := Lib.hid (fun V hV => rangeAt_row ((hV.block _ (Array.getElem?_eq_some_iff.1 q712).1 (by omega)).trans q712))
  have HRS : Hid (∀ V, Keeps (fun k => k = g8 ∨ k = g9) wr V → V.rangeAt g13 0 RS) := Lib.hid (fun V hV => rangeAt_row ((hV.block _ (Array.getElem?_eq_some_iff.1 q713).1 (by omega)).trans q713))
  have KF := Lib.hid (K3.out.trans k37)
  clear k2 k4 k5 z4 q12 q13 k6 k7 q613 q612 q712 q713 k27 k37 hz12 hsz
  go_wp2_with (first
    | (refine wpList_store_row rfl 26 _ _ rfl g12 RF.toArray rfl rfl 26 Z Q12.out SF2.out ZF.out OF.out ?_; rw [hW6])
    | (refine wpList_store_row rfl 26 _ _ rfl g13 RS.toArray rfl rfl 26 Z Q613.out SS2.out ZS.out OS.out ?_; rw [hW7]))
  refine wp_region_stores 6 [3, 4] [0, 1, 2, 3, 4, 5] (fun V => Keeps (fun k => k = g8 ∨ k = g9) wr V) (fun V => V.heap[g8]? = some (.cells Z 26 (0, 0)) ∧ V.heap[g9]? = some (.cells Z 26 (0, 0))) (by kernel_rfl) (by kernel_rfl) (fun _ _ h k => h.trans' k (fun _ _ h => h.elim)) ((Lasts.block _ _).and (Lasts.block _ _)) (((Keeps.refl _ _).drew)) (⟨RZ8.out, RZ9.out⟩) ?_
  refine T_load (get_op rfl) (by rfl) (by rfl) 26 (.tmp 12) (by rfl) g12 0 (by rfl) RF _ (fun V hV => HRF.out V hV) Tryd.underlying26 rfl SRF.out ?_
  simp only [Act.put, List.setIfInBounds_toArray, List.set_cons_zero, List.set_cons_succ]
  refine T_load (get_op rfl) (by rfl) (by rfl) 26 (.tmp 13) (by rfl) g13 0 (by rfl) RS _ (fun V hV => HRS.out V hV) Tryd.underlying26 rfl SRS.out ?_
  simp only [Act.put, List.setIfInBounds_toArray, List.set_cons_zero, List.set_cons_succ]
  refine T_value (get_op rfl) (by rfl) (by rfl) (.int .i64 er) (fun _ _ => by go_simp) ?_
  simp only [Act.put, List.setIfInBounds_toArray, List.set_cons_zero, List.set_cons_succ]
  refine T_store (get_op rfl) (by rfl) (by rfl) 26 (.tmp 8) (.tmp 25) (by rfl) (by rfl) g8 (by rfl) RF.toArray Z (by rfl) 26 SF2.out ZF.out OF.out (fun V => V.heap[g8]? = some (.cells RF.toArray 26 (0, 0)) ∧ V.heap[g9]? = some (.cells Z 26 (0, 0))) ((Lasts.block _ _).and (Lasts.block _ _)) (fun V hb hf => ⟨hf.1, hb.trans ((Keeps.setRow _ _).mono (fun _ _ e => .inl e)), setRow_heap _ _ _ _ _ _ hf.1, (setRow_other _ _ _ _ (by have := G89.out; omega)).trans hf.2⟩) ?_
  refine T_store (get_op rfl) (by rfl) (by rfl) 26 (.tmp 9) (.tmp 26) (by rfl) (by rfl) g9 (by rfl) RS.toArray Z (by rfl) 26 SS2.out ZS.out OS.out (fun V => V.heap[g8]? = some (.cells RF.toArray 26 (0, 0)) ∧ V.heap[g9]? = some (.cells RS.toArray 26 (0, 0))) ((Lasts.block _ _).and (Lasts.block _ _)) (fun V hb hf => ⟨hf.2, hb.trans ((Keeps.setRow _ _).mono (fun _ _ e => .inr e)), (setRow_other _ _ _ _ (by have := G89.out; omega)).trans hf.1, setRow_heap _ _ _ _ _ _ hf.2⟩) ?_
  refine T_quiet (get_op rfl) (by rfl) (by rfl) (by rfl) ?_
  intro K hK
  go_big_quiet_op
  first | go_big_quiet_on | go_big_quiet_call ((intro _; rfl))
  refine T_nil ?_
  intro V9 h9 f9
  simp only [List.drop_succ_cons, List.drop_nil]
  go_wp2_with fail
  refine bodyPost_ret (results_cct rfl _ _ g8 26 RF.toArray (0, 0) _ g9 26 RS.toArray (0, 0) _ (.int .i64 er) rfl f9.1 Tryd.underlying26 rfl SF2.out rfl f9.2 Tryd.underlying26 rfl SS2.out rfl) rfl ?_
  exact ⟨rfl, KF.out.trans' h9 (fun i hi e => by have := HZ12.out; omega)⟩
set_option maxRecDepth 100000 in
set_option maxHeartbeats 4000000 in
theorem chains_any (wide : Int) (m n : Nat) (o1 o2 : List UInt8) (A B : Option Addr) (c d : Nat) (ps qs : List (List UInt8)) (w : World) (hT : Tabs w) (ho1 : o1.length = 32) (ho2 : o2.length = 32) (hP : PathAt w A ps) (hQ : PathAt w B qs) (hm : m ≤ 18446744073709551615) (hn : n ≤ 18446744073709551615) (hc : ps.length ≤ c) (hmax : c ≤ 9223372036854775807) (hd : qs.length ≤ d) (hmax2 : d ≤ 9223372036854775807) :
    Calls Tryd.prog 9 #[.int .i64 wide, .agg (keyCells m o1).toArray, .agg (keyCells m o2).toArray, .int .u64 (n : Int), .slice A ps.length c, .slice B qs.length d] w fun e w' => ∃ r s : RowOf, e = .returned (.tuple #[.agg #[rowSl r, rowSl s], .bool (Cl.chains (Cl.wid wide) m n o1 o2 ps qs).isSome]) ∧
      (r.2.2, s.2.2) = (Cl.chains (Cl.wid wide) m n o1 o2 ps qs).getD ([], []) ∧ RowG w' r ∧ RowG w' s ∧ Keeps (fun _ => False) w w' := by
  obtain ⟨CZ, hCZ⟩ : ∃ C : Array Value, #[rowSl row0, rowSl row0] = C := ⟨_, rfl⟩
  have hz : ∀ w : World, (zeroValue 29).run Tryd.prog w = .ok (.agg CZ) w := fun _ => by subst hCZ; kernel_rfl
  have hbld : ∀ w : World, (Instr.build 29 #[]).run Tryd.prog w = .ok (.agg CZ) w := fun _ => by subst hCZ; kernel_rfl
  have SZ : Hid ((Tryd.prog.info? 29).map (·.size) = some CZ.size) := Lib.hid (by subst hCZ; show _ = some 2; kernel_rfl)
  have OZ : Hid (CZ.all (·.oneCell') = true) := Lib.hid (by subst hCZ; simp [rowSl, Value.oneCell'])
  have HCZ := Lib.hid hCZ
  obtain ⟨HZ, hHZ, hhz, hhzs⟩ := zero_hash
  obtain ⟨k, hk⟩ : ∃ k, Cl.wid wide = k := ⟨_, rfl⟩
  obtain ⟨KA, hKA⟩ : ∃ K, (keyCells m o1).toArray = K := ⟨_, rfl⟩
  obtain ⟨KB, hKB⟩ : ∃ K, (keyCells m o2).toArray = K := ⟨_, rfl⟩
  obtain ⟨b1, hb1⟩ : ∃ q, w.heap.size = q := ⟨_, rfl⟩
  obtain ⟨W1, hW1⟩ : ∃ V, w.alloc (.cells KA 35) = V := ⟨_, rfl⟩
  obtain ⟨b2, hb2⟩ : ∃ q, W1.heap.size = q := ⟨_, rfl⟩
  obtain ⟨W2, hW2⟩ : ∃ V, W1.alloc (.cells KB 35) = V := ⟨_, rfl⟩
  obtain ⟨bc, hbc⟩ : ∃ q, W2.heap.size = q := ⟨_, rfl⟩
  obtain ⟨W3, hW3⟩ : ∃ V, W2.alloc (.cells CZ 29) = V := ⟨_, rfl⟩
  have k1 : Keeps (fun _ => False) w W1 := by rw [← hW1]; exact (Keeps.refl _ _).alloc _
  have k2 : Keeps (fun _ => False) W1 W2 := by rw [← hW2]; exact (Keeps.refl _ _).alloc _
  have k3 : Keeps (fun _ => False) W2 W3 := by rw [← hW3]; exact (Keeps.refl _ _).alloc _
  have z1 : b2 = b1 + 1 := by rw [← hb2, ← hW1, World.size_alloc, hb1]
  have z2 : bc = b1 + 2 := by rw [← hbc, ← hW2, World.size_alloc, hb2, z1]
  have z3 : W3.heap.size = b1 + 3 := by rw [← hW3, World.size_alloc, hbc, z2]
  have r1 : Row W3 b1 35 (keyCells m o1) := ((by show W1.heap[b1]? = _; rw [← hW1, hKA, ← hb1]; exact heap_alloc_new w _ : Row W1 b1 35 (keyCells m o1)).keeps k2 id).keeps k3 id
  have r2 : Row W3 b2 35 (keyCells m o2) := ((by show W2.heap[b2]? = _; rw [← hW2, hKB, ← hb2]; exact heap_alloc_new W1 _ : Row W2 b2 35 (keyCells m o2)).keeps k3 id)
  have r3 : W3.heap[bc]? = some (.cells CZ 29 (0, 0)) := by rw [← hW3, ← hbc]; exact heap_alloc_new W2 _
  have k03 : Keeps (fun _ => False) w W3 := (k1.trans k2).trans k3
  obtain ⟨RA, hRA⟩ : ∃ R, bvs o1 = R := ⟨_, rfl⟩
  obtain ⟨RB, hRB⟩ : ∃ R, bvs o2 = R := ⟨_, rfl⟩
  have HKA : Hid (∀ V, Keeps (fun k => bc < k) W3 V → V.heap[b1]? = some (.cells KA 35 (0, 0)) ∧ V.rangeAt b1 1 RA) := Lib.hid (fun V hV => by
    have h := r1.keeps hV (by omega)
    have h2 : V.heap[b1]? = _ := h
    rw [hKA] at h2
    exact ⟨h2, by rw [← hRA]; exact (key_row h).2⟩)
  have HKB : Hid (∀ V, Keeps (fun k => bc < k) W3 V → V.heap[b2]? = some (.cells KB 35 (0, 0)) ∧ V.rangeAt b2 1 RB) := Lib.hid (fun V hV => by
    have h := r2.keeps hV (by omega)
    have h2 : V.heap[b2]? = _ := h
    rw [hKB] at h2
    exact ⟨h2, by rw [← hRB]; exact (key_row h).2⟩)
  have HW : Hid (∀ V, Keeps (fun k => bc < k) W3 V → V.heap[bc]? = some (.cells CZ 29 (0, 0))) := Lib.hid (fun V hV => (hV.block bc (by omega) (by omega)).trans r3)
  have c1 := (key_row r1).1
  have c2 := (key_row r2).1
  have SKA : Hid ((Tryd.prog.info? 35).map (·.size) = some KA.size) := Lib.hid (by rw [← hKA, List.size_toArray, ckey_length m o1 ho1]; exact ckey_size)
  have SKB : Hid ((Tryd.prog.info? 35).map (·.size) = some KB.size) := Lib.hid (by rw [← hKB, List.size_toArray, ckey_length m o2 ho2]; exact ckey_size)
  have SRA : Hid ((Tryd.prog.info? 26).map (·.size) = some RA.length) := Lib.hid (by rw [← hRA, bvs_length, ho1]; exact size_hash')
  have SRB : Hid ((Tryd.prog.info? 26).map (·.size) = some RB.length) := Lib.hid (by rw [← hRB, bvs_length, ho2]; exact size_hash')
  have hp1 := crow_any wide m n o1 A c ps W3 (hT.keeps k03 id id) ho1 (hP.keeps k03 (fun _ _ => id)) hm hn hc hmax
  have hp2 := fun V (hV : Keeps (fun _ => False) w V) => crow_any wide m n o2 B d qs V (hT.keeps hV id id) ho2 (hQ.keeps hV (fun _ _ => id)) hm hn hd hmax2
  rw [hk] at hp1 hp2 ⊢
  obtain ⟨l1, l2⟩ := Cl.crow_length k m n o1 ps ho1 hP.all hn
  obtain ⟨l3, l4⟩ := Cl.crow_length k m n o2 qs ho2 hQ.all hn
  have hpu : Cl.chains k m n o1 o2 ps qs = if o1 = o2 then none else if (Cl.crow k m n o1 ps).2.2.2 ≠ 0 ∨ (Cl.crow k m n o1 ps).2.1 ≠ o1 then none else if ((Cl.crow k m n o2 qs).2.2.2 ≠ 0 ∨ (Cl.crow k m n o2 qs).2.1 ≠ o2) ∨ (Cl.crow k m n o1 ps).2.2.1 ≠ (Cl.crow k m n o2 qs).2.2.1 then none else some (Cl.high (Cl.crow k m n o1 ps).1 (Cl.crow k m n o2 qs).1) := rfl
  have hlen : (Cl.crow k m n o1 ps).2.2.2 = 0 → (Cl.crow k m n o2 qs).2.2.2 = 0 → (Cl.crow k m n o1 ps).1.length = (Cl.crow k m n o2 qs).1.length ∧ (Cl.crow k m n o1 ps).1.length ≤ 1000 := fun h1 h2 => by
    have a := Cl.crow_rows hn h1
    have b := Cl.crow_rows hn h2
    omega
  obtain ⟨P1, hP1⟩ : ∃ P, Cl.crow k m n o1 ps = P := ⟨_, rfl⟩
  obtain ⟨P2, hP2⟩ : ∃ P, Cl.crow k m n o2 qs = P := ⟨_, rfl⟩
  obtain ⟨pa, hpa⟩ : ∃ p, Cl.chains k m n o1 o2 ps qs = p := ⟨_, rfl⟩
  rw [hP1] at hp1 l1 l2 hlen
  rw [hP2] at hp2 l3 l4 hlen
  rw [hP1, hP2, hpa] at hpu
  rw [hpa]
  obtain ⟨rows1, f1, root1, er1⟩ := P1
  obtain ⟨rows2, f2, root2, er2⟩ := P2
  simp only at hp1 hp2 l1 l2 l3 l4 hlen hpu
  obtain ⟨s1, y1, i1⟩ := arr_hash f1 l1
  obtain ⟨s2, y2, i2⟩ := arr_hash root1 l2
  obtain ⟨s3, y3, i3⟩ := arr_hash f2 l3
  obtain ⟨s4, y4, i4⟩ := arr_hash root2 l4
  obtain ⟨u0, hu0, _⟩ := info_parts info_u8t
  have hne : ∀ (x y : List UInt8), x.length = 32 → y.length = 32 → ∀ V, (binOp .neq 26 (.agg (bvs x).toArray) (.agg (bvs y).toArray)).run Tryd.prog V = .ok (.bool (x != y)) V := fun x y hx hy V => run_neq_bytes (P := Tryd.prog) V 26 5 32 Tryd.underlying26 Tryd.underlying5 hu0 (by kernel_rfl) (by kernel_rfl) x y hx hy
  have heq : ∀ V, (binOp .eql 26 (.agg (bvs o1).toArray) (.agg (bvs o2).toArray)).run Tryd.prog V = .ok (.bool (o1 == o2)) V := fun V => run_eql_bytes (P := Tryd.prog) V 26 5 32 Tryd.underlying26 Tryd.underlying5 hu0 (by kernel_rfl) (by kernel_rfl) o1 o2 ho1 ho2
  have ne1 := hne f1 o1 l1 ho1
  have ne2 := hne f2 o2 l3 ho2
  have ne3 := hne root1 root2 l2 l4
  rw [hRA] at ne1 heq
  rw [hRB] at ne2 heq
  obtain ⟨R1, hR1⟩ : ∃ R, bvs f1 = R := ⟨_, rfl⟩
  obtain ⟨R2, hR2⟩ : ∃ R, bvs root1 = R := ⟨_, rfl⟩
  obtain ⟨R3, hR3⟩ : ∃ R, bvs f2 = R := ⟨_, rfl⟩
  obtain ⟨R4, hR4⟩ : ∃ R, bvs root2 = R := ⟨_, rfl⟩
  rw [hKA, hR1, hR2] at hp1
  rw [hKB, hR3, hR4] at hp2
  rw [hR1] at s1 y1 i1 ne1
  rw [hR2] at s2 y2 i2 ne3
  rw [hR3] at s3 y3 i3 ne2
  rw [hR4] at s4 y4 i4 ne3
  rw [hKA, hKB]
  have HPU := Lib.hid hpu
  have HLEN := Lib.hid hlen
  have HP1 := Lib.hid hp1
  have HP2 := Lib.hid hp2
  have HEQ := Lib.hid heq
  have NE1 := Lib.hid ne1
  have NE2 := Lib.hid ne2
  have NE3 := Lib.hid ne3
  have S1 := Lib.hid s1
  have S2 := Lib.hid s2
  have S3 := Lib.hid s3
  have S4 := Lib.hid s4
  have Z1 := Lib.hid (hhzs.trans y1.symm)
  have Z2 := Lib.hid (hhzs.trans y2.symm)
  have Z13 := Lib.hid (y1.trans y3.symm)
  have Z4 := Lib.hid (hhzs.trans y4.symm)
  have O1 := Lib.hid i1
  have O2 := Lib.hid i2
  have O3 := Lib.hid i3
  have O4 := Lib.hid i4
  have K3 := Lib.hid k03
  have HZ3 := Lib.hid (And.intro z1 (And.intro z2 (And.intro hb1 z3)))
  clear hpu hlen hp1 hp2 hne heq ne1 ne2 ne3 s1 s2 s3 s4 y1 y2 y3 y4 i1 i2 i3 i4 hR1 hR2 hR3 hR4 hRA hRB hKA hKB l1 l2 l3 l4 hP1 hP2 hpa hk hCZ hHZ hhzs hT hP hQ hu0 k1 k2 k3 k03 r1 r2 r3 z1 z2 z3
  go_enter Tryd.func9, Tryd.ntmps9
  by_cases hxy : o1 = o2
  · have hb : (o1 == o2) = true := by rw [hxy]; exact beq_self_eq_true o2
    have HEQ2 : Hid ((binOp .eql 26 (.agg RA.toArray) (.agg RB.toArray)).run Tryd.prog W3 = .ok (.bool true) W3) := Lib.hid (by rw [HEQ.out, hb])
    have HNONE : Hid (pa = none) := Lib.hid (by rw [HPU.out, if_pos hxy])
    clear HPU HLEN HP1 HP2 NE1 NE2 NE3 hb hxy HEQ
    go_wp2_with (first
      | (refine wpList_load_mid_w (by rfl) 26 (.tmp 26) (by rfl) b1 1 (by rfl) RA _ (HKA.out W3 (Keeps.refl _ _)).2 Tryd.underlying26 rfl SRA.out ?_)
      | (refine wpList_load_mid_w (by rfl) 26 (.tmp 28) (by rfl) b2 1 (by rfl) RB _ (HKB.out W3 (Keeps.refl _ _)).2 Tryd.underlying26 rfl SRB.out ?_)
      | (refine wpList_eq_agg_w (by rfl) .eql 26 26 (.tmp 27) (.tmp 29) (by rfl) RA.toArray RB.toArray (by rfl) (by rfl) (by kernel_rfl) (.bool true) HEQ2.out ?_)
      | (refine wpList_store_row rfl 29 _ _ rfl bc CZ rfl rfl 29 CZ (HW.out W3 (Keeps.refl _ _)) SZ.out rfl OZ.out ?_))
    refine bodyPost_ret (results_ct rfl _ _ bc 29 CZ (0, 0) _ (.bool false) rfl (setRow_heap _ _ _ _ _ _ (HW.out W3 (Keeps.refl _ _))) Tryd.underlying29 rfl SZ.out rfl) rfl ?_
    exact ⟨row0, row0, by rw [HNONE.out, ← HCZ.out]; rfl, by rw [HNONE.out]; rfl, RowG.none _, RowG.none _, K3.out.trans' (Keeps.setRow _ _) (fun i hi h => by have := HZ3.out; omega)⟩
  · have hb : (o1 == o2) = false := by rw [beq_eq_false_iff_ne]; exact hxy
    have HEQ2 : Hid ((binOp .eql 26 (.agg RA.toArray) (.agg RB.toArray)).run Tryd.prog W3 = .ok (.bool false) W3) := Lib.hid (by rw [HEQ.out, hb])
    have HPU2 : Hid (pa = if er1 ≠ 0 ∨ f1 ≠ o1 then none else if (er2 ≠ 0 ∨ f2 ≠ o2) ∨ root1 ≠ root2 then none else some (Cl.high rows1 rows2)) := Lib.hid (by rw [HPU.out, if_neg hxy])
    clear HPU hb hxy HEQ
    go_wp2_with (first
      | (refine wpList_load_mid_w (by rfl) 26 (.tmp 26) (by rfl) b1 1 (by rfl) RA _ (HKA.out W3 (Keeps.refl _ _)).2 Tryd.underlying26 rfl SRA.out ?_)
      | (refine wpList_load_mid_w (by rfl) 26 (.tmp 28) (by rfl) b2 1 (by rfl) RB _ (HKB.out W3 (Keeps.refl _ _)).2 Tryd.underlying26 rfl SRB.out ?_)
      | (refine wpList_eq_agg_w (by rfl) .eql 26 26 (.tmp 27) (.tmp 29) (by rfl) RA.toArray RB.toArray (by rfl) (by rfl) (by kernel_rfl) (.bool false) HEQ2.out ?_)
      | (refine wpList_load_row rfl 35 _ rfl b1 rfl 35 KA (0, 0) _ (HKA.out W3 (Keeps.refl _ _)).1 Tryd.underlying35 rfl SKA.out ?_))
    refine HP1.out.mono ?_
    rintro e w4 ⟨A1, c1', rs1, rfl, hro1, hen1, k4⟩
    obtain ⟨g15, hg15⟩ : ∃ g, w4.heap.size = g := ⟨_, rfl⟩
    obtain ⟨W5, hW5⟩ : ∃ V, w4.alloc (.cells HZ 26) = V := ⟨_, rfl⟩
    obtain ⟨g16, hg16⟩ : ∃ g, W5.heap.size = g := ⟨_, rfl⟩
    obtain ⟨W6, hW6⟩ : ∃ V, W5.alloc (.cells HZ 26) = V := ⟨_, rfl⟩
    obtain ⟨W7, hW7⟩ : ∃ V, W6.setRow g15 R1.toArray = V := ⟨_, rfl⟩
    obtain ⟨W8, hW8⟩ : ∃ V, W7.setRow g16 R2.toArray = V := ⟨_, rfl⟩
    have k5 : Keeps (fun _ => False) w4 W5 := by rw [← hW5]; exact (Keeps.refl _ _).alloc _
    have k6 : Keeps (fun _ => False) W5 W6 := by rw [← hW6]; exact (Keeps.refl _ _).alloc _
    have z5 : g16 = g15 + 1 := by rw [← hg16, ← hW5, World.size_alloc, hg15]
    have q15 : W6.heap[g15]? = some (.cells HZ 26 (0, 0)) := (k6.block _ (by omega) id).trans (by rw [← hW5, ← hg15]; exact heap_alloc_new w4 _)
    have q16 : W6.heap[g16]? = some (.cells HZ 26 (0, 0)) := by rw [← hW6, ← hg16]; exact heap_alloc_new W5 _
    have k7 : Keeps (fun k => k = g15) W6 W7 := by rw [← hW7]; exact Keeps.setRow _ _
    have k8 : Keeps (fun k => k = g16) W7 W8 := by rw [← hW8]; exact Keeps.setRow _ _
    have q716 : W7.heap[g16]? = some (.cells HZ 26 (0, 0)) := (k7.block _ (Array.getElem?_eq_some_iff.1 q16).1 (by omega)).trans q16
    have q715 : W7.heap[g15]? = some (.cells R1.toArray 26 (0, 0)) := by rw [← hW7]; exact setRow_heap _ _ _ _ _ _ q15
    have q815 : W8.heap[g15]? = some (.cells R1.toArray 26 (0, 0)) := (k8.block _ (Array.getElem?_eq_some_iff.1 q715).1 (by omega)).trans q715
    have q816 : W8.heap[g16]? = some (.cells R2.toArray 26 (0, 0)) := by rw [← hW8]; exact setRow_heap _ _ _ _ _ _ q716
    have k48 : Keeps (fun _ => False) w4 W8 := ((k5.trans k6).trans' k7 (fun i hi e => by omega)).trans' k8 (fun i hi e => by omega)
    have hsz : bc < g15 := by have := k4.size; have := HZ3.out; omega
    have k38 := k4.trans k48
    have Q15 := Lib.hid q15
    have Q716 := Lib.hid q716
    have Q815 := Lib.hid q815
    have Q816 := Lib.hid q816
    have K48 := Lib.hid k48
    have K38 : Hid (Keeps (fun k => bc < k) W3 W8) := Lib.hid (k38.mono (fun _ _ e => e.elim))
    have KW8 := Lib.hid (K3.out.trans k38)
    have RO1 := Lib.hid hro1
    have EN1 := Lib.hid hen1
    have HG := Lib.hid (And.intro hsz (And.intro hg15 z5))
    clear k4 k5 k6 z5 q15 q16 k7 k8 q716 q715 q815 q816 k48 hsz k38 hro1 hen1 HP1
    by_cases he1 : er1 = 0
    · subst he1
      by_cases hf1 : f1 = o1
      · have NE1b : Hid ((binOp .neq 26 (.agg R1.toArray) (.agg RA.toArray)).run Tryd.prog W8 = .ok (.bool false) W8) := Lib.hid (by rw [NE1.out, hf1]; simp)
        have HPU3 : Hid (pa = if (er2 ≠ 0 ∨ f2 ≠ o2) ∨ root1 ≠ root2 then none else some (Cl.high rows1 rows2)) := Lib.hid (by rw [HPU2.out, if_neg (by simp [hf1])])
        clear HPU2 NE1 hf1
        go_wp2_with (first
          | (refine wpList_store_row rfl 26 _ _ rfl g15 R1.toArray rfl rfl 26 HZ Q15.out S1.out Z1.out O1.out ?_; rw [hW7])
          | (refine wpList_store_row rfl 26 _ _ rfl g16 R2.toArray rfl rfl 26 HZ Q716.out S2.out Z2.out O2.out ?_; rw [hW8])
          | (refine wpList_load_row_w (by rfl) 26 (.tmp 15) (by rfl) g15 (by rfl) 26 R1.toArray (0, 0) _ Q815.out Tryd.underlying26 rfl S1.out ?_)
          | (refine wpList_load_mid_w (by rfl) 26 (.tmp 47) (by rfl) b1 1 (by rfl) RA _ (HKA.out W8 K38.out).2 Tryd.underlying26 rfl SRA.out ?_)
          | (refine wpList_eq_agg_w (by rfl) .neq 26 26 (.tmp 46) (.tmp 48) (by rfl) R1.toArray RA.toArray (by rfl) (by rfl) (by kernel_rfl) (.bool false) NE1b.out ?_)
          | (refine wpList_load_row rfl 35 _ rfl b2 rfl 35 KB (0, 0) _ (HKB.out W8 K38.out).1 Tryd.underlying35 rfl SKB.out ?_))
        refine (HP2.out W8 KW8.out).mono ?_
        rintro e w9 ⟨A2, c2', rs2, rfl, hro2, hen2, k9⟩
        obtain ⟨g19, hg19⟩ : ∃ g, w9.heap.size = g := ⟨_, rfl⟩
        obtain ⟨X1, hX1⟩ : ∃ V, w9.alloc (.cells HZ 26) = V := ⟨_, rfl⟩
        obtain ⟨X2, hX2⟩ : ∃ V, X1.setRow g15 R3.toArray = V := ⟨_, rfl⟩
        obtain ⟨X3, hX3⟩ : ∃ V, X2.setRow g19 R4.toArray = V := ⟨_, rfl⟩
        have j1 : Keeps (fun _ => False) w9 X1 := by rw [← hX1]; exact (Keeps.refl _ _).alloc _
        have j2 : Keeps (fun k => k = g15) X1 X2 := by rw [← hX2]; exact Keeps.setRow _ _
        have j3 : Keeps (fun k => k = g19) X2 X3 := by rw [← hX3]; exact Keeps.setRow _ _
        have hg := HG.out
        have hl16 : g16 < W8.heap.size := (Array.getElem?_eq_some_iff.1 Q816.out).1
        have hlt : g16 < g19 := by have := k9.size; omega
        have p19 : X1.heap[g19]? = some (.cells HZ 26 (0, 0)) := by rw [← hX1, ← hg19]; exact heap_alloc_new w9 _
        have p15 : X1.heap[g15]? = some (.cells R1.toArray 26 (0, 0)) := ((k9.trans j1).block _ (by omega) id).trans Q815.out
        have p15' : w9.heap[g15]? = some (.cells R1.toArray 26 (0, 0)) := (k9.block _ (by omega) id).trans Q815.out
        have p16 : X1.heap[g16]? = some (.cells R2.toArray 26 (0, 0)) := ((k9.trans j1).block _ hl16 id).trans Q816.out
        have p219 : X2.heap[g19]? = some (.cells HZ 26 (0, 0)) := (j2.block _ (Array.getElem?_eq_some_iff.1 p19).1 (by omega)).trans p19
        have p215 : X2.heap[g15]? = some (.cells R3.toArray 26 (0, 0)) := by rw [← hX2]; exact setRow_heap _ _ _ _ _ _ p15
        have p216 : X2.heap[g16]? = some (.cells R2.toArray 26 (0, 0)) := (j2.block _ (Array.getElem?_eq_some_iff.1 p16).1 (by omega)).trans p16
        have p315 : X3.heap[g15]? = some (.cells R3.toArray 26 (0, 0)) := (j3.block _ (Array.getElem?_eq_some_iff.1 p215).1 (by omega)).trans p215
        have p316 : X3.heap[g16]? = some (.cells R2.toArray 26 (0, 0)) := (j3.block _ (Array.getElem?_eq_some_iff.1 p216).1 (by omega)).trans p216
        have p319 : X3.heap[g19]? = some (.cells R4.toArray 26 (0, 0)) := by rw [← hX3]; exact setRow_heap _ _ _ _ _ _ p219
        have k93 : Keeps (fun k => k = g15) w9 X3 := (((j1.mono (fun _ _ e => e.elim)).trans j2 : Keeps (fun k => k = g15) w9 X2).trans' j3 (fun i hi e => by omega))
        have P15 := Lib.hid p15
        have P219 := Lib.hid p219
        have P315 := Lib.hid p315
        have P316 := Lib.hid p316
        have P319 := Lib.hid p319
        have KX3 : Hid (Keeps (fun k => bc < k) W3 X3) := Lib.hid ((K38.out.trans (k9.mono (fun _ _ e => e.elim))).trans (k93.mono (fun i _ e => by omega)))
        have KX : Hid (Keeps (fun _ => False) w X3) := Lib.hid ((KW8.out.trans k9).trans' k93 (fun i hi e => by have := HZ3.out; omega))
        have RO1X : Hid (RowsOk X3 A1 c1' rs1) := Lib.hid (RO1.out.ok.later ((K48.out.trans k9).trans' k93 (fun i hi e => by omega)))
        have RO2X : Hid (RowsOk X3 A2 c2' rs2) := Lib.hid (hro2 _ _ k93 (fun k cs t fr hc ht e => by
          subst e
          rw [p15'] at hc
          injection hc with hc
          injection hc with _ hc
          subst hc
          rcases ht with h | h <;> exact absurd h (by decide)))
        have EN2 := Lib.hid hen2
        clear k9 j1 j2 j3 hg hl16 hlt p19 p15 p15' p16 p219 p215 p216 p315 p316 p319 k93 hro2 hen2 HP2 RO1 KW8 K38 K48 Q15 Q716 Q815 Q816 NE1b
        by_cases he2 : er2 = 0
        · subst he2
          by_cases hf2 : f2 = o2
          · have NE2b : Hid ((binOp .neq 26 (.agg R3.toArray) (.agg RB.toArray)).run Tryd.prog X3 = .ok (.bool false) X3) := Lib.hid (by rw [NE2.out, hf2]; simp)
            by_cases hroot : root1 = root2
            · have NE3b : Hid ((binOp .neq 26 (.agg R2.toArray) (.agg R4.toArray)).run Tryd.prog X3 = .ok (.bool false) X3) := Lib.hid (by rw [NE3.out, hroot]; simp)
              have HSOME : Hid (pa = some (Cl.high rows1 rows2)) := Lib.hid (by rw [HPU3.out, if_neg (by simp [hf2, hroot])])
              have hll := HLEN.out (by trivial) (by trivial)
              have hm1 : rs1.length = rows1.length := by rw [← EN1.out, ents_length]
              have hm2 : rs2.length = rs1.length := by rw [hm1, hll.1, ← EN2.out, ents_length]
              have hhi := highest_any A1 A2 c1' c2' rs1 rs2 rs1.length X3 RO1X.out.at_ RO2X.out.at_ rfl hm2 (by omega)
              rw [EN1.out, EN2.out] at hhi
              have HHI := Lib.hid hhi
              rw [hm2]
              clear hll hhi HPU3 HLEN NE2 NE3 hm1 hm2 RO1X RO2X hf2 hroot
              go_wp2_with (first
                | (refine wpList_store_row rfl 26 _ _ rfl g15 R3.toArray rfl rfl 26 R1.toArray P15.out S3.out Z13.out O3.out ?_; rw [hX2])
                | (refine wpList_store_row rfl 26 _ _ rfl g19 R4.toArray rfl rfl 26 HZ P219.out S4.out Z4.out O4.out ?_; rw [hX3])
                | (refine wpList_load_row_w (by rfl) 26 (.tmp 15) (by rfl) g15 (by rfl) 26 R3.toArray (0, 0) _ P315.out Tryd.underlying26 rfl S3.out ?_)
                | (refine wpList_load_mid_w (by rfl) 26 (.tmp 66) (by rfl) b2 1 (by rfl) RB _ (HKB.out X3 KX3.out).2 Tryd.underlying26 rfl SRB.out ?_)
                | (refine wpList_eq_agg_w (by rfl) .neq 26 26 (.tmp 65) (.tmp 67) (by rfl) R3.toArray RB.toArray (by rfl) (by rfl) (by kernel_rfl) (.bool false) NE2b.out ?_)
                | (refine wpList_load_row_w (by rfl) 26 (.tmp 16) (by rfl) g16 (by rfl) 26 R2.toArray (0, 0) _ P316.out Tryd.underlying26 rfl S2.out ?_)
                | (refine wpList_load_row_w (by rfl) 26 (.tmp 19) (by rfl) g19 (by rfl) 26 R4.toArray (0, 0) _ P319.out Tryd.underlying26 rfl S4.out ?_)
                | (refine wpList_eq_agg_w (by rfl) .neq 26 26 (.tmp 71) (.tmp 72) (by rfl) R2.toArray R4.toArray (by rfl) (by rfl) (by kernel_rfl) (.bool false) NE3b.out ?_))
              refine HHI.out.mono ?_
              rintro e wf ⟨r, s, rfl, hrs, hgr, hgs, kf⟩
              obtain ⟨CX, hCX⟩ : ∃ C : Array Value, #[rowSl r, rowSl s] = C := ⟨_, rfl⟩
              have SX : Hid ((Tryd.prog.info? 29).map (·.size) = some CX.size) := Lib.hid (by subst hCX; show _ = some 2; kernel_rfl)
              have OX : Hid (CX.all (·.oneCell') = true) := Lib.hid (by subst hCX; simp [rowSl, Value.oneCell'])
              have ZX : Hid (CZ.size = CX.size) := Lib.hid (by rw [← HCZ.out, ← hCX]; rfl)
              have RWf := Lib.hid ((kf.block _ (Array.getElem?_eq_some_iff.1 (HW.out X3 KX3.out)).1 id).trans (HW.out X3 KX3.out))
              have KWf := Lib.hid (KX.out.trans kf)
              have hcz : ∀ (i : Nat) (v : Value), CZ[i]? = some v → ∀ n, v ≠ .int .u8 n := fun i v hv n e => by
                rw [← HCZ.out] at hv
                match i, hv with
                | 0, hv => cases hv; cases e
                | 1, hv => cases hv; cases e
              have HRS := Lib.hid hrs
              have HGR := Lib.hid hgr
              have HGS := Lib.hid hgs
              have HCX := Lib.hid hCX
              rw [hCX]
              clear hrs hgr hgs kf KX HHI hCX
              go_wp2_with (refine wpList_store_row rfl 29 _ _ rfl bc CX rfl rfl 29 CZ RWf.out SX.out ZX.out OX.out ?_)
              refine bodyPost_ret (results_ct rfl _ _ bc 29 CX (0, 0) _ (.bool true) rfl (setRow_heap _ _ _ _ _ _ RWf.out) Tryd.underlying29 rfl SX.out rfl) rfl ?_
              exact ⟨r, s, by rw [HSOME.out, HCX.out]; rfl, by rw [HSOME.out]; exact HRS.out, ⟨src_setRow HGR.out.src RWf.out hcz CX, HGR.out.cap⟩, ⟨src_setRow HGS.out.src RWf.out hcz CX, HGS.out.cap⟩, KWf.out.trans' (Keeps.setRow _ _) (fun i hi h => by have := HZ3.out; omega)⟩
            · have NE3b : Hid ((binOp .neq 26 (.agg R2.toArray) (.agg R4.toArray)).run Tryd.prog X3 = .ok (.bool true) X3) := Lib.hid (by rw [NE3.out, bne_iff_ne.2 hroot])
              have HNONE : Hid (pa = none) := Lib.hid (by rw [HPU3.out, if_pos (.inr hroot)])
              clear HPU3 HLEN NE2 NE3 RO1X RO2X hf2 hroot
              go_wp2_with (first
                | (refine wpList_store_row rfl 26 _ _ rfl g15 R3.toArray rfl rfl 26 R1.toArray P15.out S3.out Z13.out O3.out ?_; rw [hX2])
                | (refine wpList_store_row rfl 26 _ _ rfl g19 R4.toArray rfl rfl 26 HZ P219.out S4.out Z4.out O4.out ?_; rw [hX3])
                | (refine wpList_load_row_w (by rfl) 26 (.tmp 15) (by rfl) g15 (by rfl) 26 R3.toArray (0, 0) _ P315.out Tryd.underlying26 rfl S3.out ?_)
                | (refine wpList_load_mid_w (by rfl) 26 (.tmp 66) (by rfl) b2 1 (by rfl) RB _ (HKB.out X3 KX3.out).2 Tryd.underlying26 rfl SRB.out ?_)
                | (refine wpList_eq_agg_w (by rfl) .neq 26 26 (.tmp 65) (.tmp 67) (by rfl) R3.toArray RB.toArray (by rfl) (by rfl) (by kernel_rfl) (.bool false) NE2b.out ?_)
                | (refine wpList_load_row_w (by rfl) 26 (.tmp 16) (by rfl) g16 (by rfl) 26 R2.toArray (0, 0) _ P316.out Tryd.underlying26 rfl S2.out ?_)
                | (refine wpList_load_row_w (by rfl) 26 (.tmp 19) (by rfl) g19 (by rfl) 26 R4.toArray (0, 0) _ P319.out Tryd.underlying26 rfl S4.out ?_)
                | (refine wpList_eq_agg_w (by rfl) .neq 26 26 (.tmp 71) (.tmp 72) (by rfl) R2.toArray R4.toArray (by rfl) (by rfl) (by kernel_rfl) (.bool true) NE3b.out ?_)
                | (refine wpList_store_row rfl 29 _ _ rfl bc CZ rfl rfl 29 CZ (HW.out X3 KX3.out) SZ.out rfl OZ.out ?_))
              refine bodyPost_ret (results_ct rfl _ _ bc 29 CZ (0, 0) _ (.bool false) rfl (setRow_heap _ _ _ _ _ _ (HW.out X3 KX3.out)) Tryd.underlying29 rfl SZ.out rfl) rfl ?_
              exact ⟨row0, row0, by rw [HNONE.out, ← HCZ.out]; rfl, by rw [HNONE.out]; rfl, RowG.none _, RowG.none _, KX.out.trans' (Keeps.setRow _ _) (fun i hi h => by have := HZ3.out; omega)⟩
          · have NE2b : Hid ((binOp .neq 26 (.agg R3.toArray) (.agg RB.toArray)).run Tryd.prog X3 = .ok (.bool true) X3) := Lib.hid (by rw [NE2.out, bne_iff_ne.2 hf2])
            have HNONE : Hid (pa = none) := Lib.hid (by rw [HPU3.out, if_pos (.inl (.inr hf2))])
            clear HPU3 HLEN NE2 NE3 RO1X RO2X hf2
            go_wp2_with (first
              | (refine wpList_store_row rfl 26 _ _ rfl g15 R3.toArray rfl rfl 26 R1.toArray P15.out S3.out Z13.out O3.out ?_; rw [hX2])
              | (refine wpList_store_row rfl 26 _ _ rfl g19 R4.toArray rfl rfl 26 HZ P219.out S4.out Z4.out O4.out ?_; rw [hX3])
              | (refine wpList_load_row_w (by rfl) 26 (.tmp 15) (by rfl) g15 (by rfl) 26 R3.toArray (0, 0) _ P315.out Tryd.underlying26 rfl S3.out ?_)
              | (refine wpList_load_mid_w (by rfl) 26 (.tmp 66) (by rfl) b2 1 (by rfl) RB _ (HKB.out X3 KX3.out).2 Tryd.underlying26 rfl SRB.out ?_)
              | (refine wpList_eq_agg_w (by rfl) .neq 26 26 (.tmp 65) (.tmp 67) (by rfl) R3.toArray RB.toArray (by rfl) (by rfl) (by kernel_rfl) (.bool true) NE2b.out ?_)
              | (refine wpList_store_row rfl 29 _ _ rfl bc CZ rfl rfl 29 CZ (HW.out X3 KX3.out) SZ.out rfl OZ.out ?_))
            refine bodyPost_ret (results_ct rfl _ _ bc 29 CZ (0, 0) _ (.bool false) rfl (setRow_heap _ _ _ _ _ _ (HW.out X3 KX3.out)) Tryd.underlying29 rfl SZ.out rfl) rfl ?_
            exact ⟨row0, row0, by rw [HNONE.out, ← HCZ.out]; rfl, by rw [HNONE.out]; rfl, RowG.none _, RowG.none _, KX.out.trans' (Keeps.setRow _ _) (fun i hi h => by have := HZ3.out; omega)⟩
        · have hnb : (er2 != 0) = true := by rw [bne_iff_ne]; exact he2
          have HNONE : Hid (pa = none) := Lib.hid (by rw [HPU3.out, if_pos (.inl (.inl he2))])
          clear HPU3 HLEN NE2 NE3 RO1X RO2X
          go_wp2_with (first
            | (refine wpList_store_row rfl 26 _ _ rfl g15 R3.toArray rfl rfl 26 R1.toArray P15.out S3.out Z13.out O3.out ?_; rw [hX2])
            | (refine wpList_store_row rfl 26 _ _ rfl g19 R4.toArray rfl rfl 26 HZ P219.out S4.out Z4.out O4.out ?_; rw [hX3])
            | (refine wpList_store_row rfl 29 _ _ rfl bc CZ rfl rfl 29 CZ (HW.out X3 KX3.out) SZ.out rfl OZ.out ?_))
          refine bodyPost_ret (results_ct rfl _ _ bc 29 CZ (0, 0) _ (.bool false) rfl (setRow_heap _ _ _ _ _ _ (HW.out X3 KX3.out)) Tryd.underlying29 rfl SZ.out rfl) rfl ?_
          exact ⟨row0, row0, by rw [HNONE.out, ← HCZ.out]; rfl, by rw [HNONE.out]; rfl, RowG.none _, RowG.none _, KX.out.trans' (Keeps.setRow _ _) (fun i hi h => by have := HZ3.out; omega)⟩
      · have NE1b : Hid ((binOp .neq 26 (.agg R1.toArray) (.agg RA.toArray)).run Tryd.prog W8 = .ok (.bool true) W8) := Lib.hid (by rw [NE1.out, bne_iff_ne.2 hf1])
        have HNONE : Hid (pa = none) := Lib.hid (by rw [HPU2.out, if_pos (.inr hf1)])
        clear HPU2 HLEN NE1 NE2 NE3 HP2 hf1
        go_wp2_with (first
          | (refine wpList_store_row rfl 26 _ _ rfl g15 R1.toArray rfl rfl 26 HZ Q15.out S1.out Z1.out O1.out ?_; rw [hW7])
          | (refine wpList_store_row rfl 26 _ _ rfl g16 R2.toArray rfl rfl 26 HZ Q716.out S2.out Z2.out O2.out ?_; rw [hW8])
          | (refine wpList_load_row_w (by rfl) 26 (.tmp 15) (by rfl) g15 (by rfl) 26 R1.toArray (0, 0) _ Q815.out Tryd.underlying26 rfl S1.out ?_)
          | (refine wpList_load_mid_w (by rfl) 26 (.tmp 47) (by rfl) b1 1 (by rfl) RA _ (HKA.out W8 K38.out).2 Tryd.underlying26 rfl SRA.out ?_)
          | (refine wpList_eq_agg_w (by rfl) .neq 26 26 (.tmp 46) (.tmp 48) (by rfl) R1.toArray RA.toArray (by rfl) (by rfl) (by kernel_rfl) (.bool true) NE1b.out ?_)
          | (refine wpList_store_row rfl 29 _ _ rfl bc CZ rfl rfl 29 CZ (HW.out W8 K38.out) SZ.out rfl OZ.out ?_))
        refine bodyPost_ret (results_ct rfl _ _ bc 29 CZ (0, 0) _ (.bool false) rfl (setRow_heap _ _ _ _ _ _ (HW.out W8 K38.out)) Tryd.underlying29 rfl SZ.out rfl) rfl ?_
        exact ⟨row0, row0, by rw [HNONE.out, ← HCZ.out]; rfl, by rw [HNONE.out]; rfl, RowG.none _, RowG.none _, KW8.out.trans' (Keeps.setRow _ _) (fun i hi h => by have := HZ3.out; omega)⟩
    · have hnb : (er1 != 0) = true := by rw [bne_iff_ne]; exact he1
      have HNONE : Hid (pa = none) := Lib.hid (by rw [HPU2.out, if_pos (.inl he1)])
      clear HPU2 HLEN NE1 NE2 NE3 HP2
      go_wp2_with (first
        | (refine wpList_store_row rfl 26 _ _ rfl g15 R1.toArray rfl rfl 26 HZ Q15.out S1.out Z1.out O1.out ?_; rw [hW7])
        | (refine wpList_store_row rfl 26 _ _ rfl g16 R2.toArray rfl rfl 26 HZ Q716.out S2.out Z2.out O2.out ?_; rw [hW8])
        | (refine wpList_store_row rfl 29 _ _ rfl bc CZ rfl rfl 29 CZ (HW.out W8 K38.out) SZ.out rfl OZ.out ?_))
      refine bodyPost_ret (results_ct rfl _ _ bc 29 CZ (0, 0) _ (.bool false) rfl (setRow_heap _ _ _ _ _ _ (HW.out W8 K38.out)) Tryd.underlying29 rfl SZ.out rfl) rfl ?_
      exact ⟨row0, row0, by rw [HNONE.out, ← HCZ.out]; rfl, by rw [HNONE.out]; rfl, RowG.none _, RowG.none _, KW8.out.trans' (Keeps.setRow _ _) (fun i hi h => by have := HZ3.out; omega)⟩
end Go.Proofs.YtjblnjeloimbgaaDoor
