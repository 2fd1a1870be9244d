/-
  The landed gossip in memory; gossip.within, New, Seen.
-/
import Derived.Test.YtmhbfchhooggjaaGoC
import Derived.Test.YtmhbfchhooggjaaSetH
import Derived.Test.YtmhbfchhooggjaaDkA
import Derived.Test.YtmhbfchhooggjaaDiC
import Derived.Test.YtmhbfchhooggjaaWalkE
namespace Go.Proofs.Ytmhbfchhooggjaa
open Go.RowKit Go.BigFrame
set_option linter.unusedVariables false
set_option linter.unusedSimpArgs false

/-- Its own five cells. -/
def gocs (t : Gp.G) (d m : Nat) : List Value := [.int .i64 (t.me : Int), .int .i64 (t.many : Int), .int .i64 (t.fan : Int), .pointer (some ⟨d, 0, none⟩), .map (some m)]
structure GsT (w : World) (F : Nat → Prop) (g d m : Nat) (t : Gp.G) : Prop where
  row : Row w g 58 (gocs t d m)
  dice : DiceAt w d t.s
  map : SMap bvs (fun h => h.length = 32) w m t.told
  ne : d ≠ g
  own : ∀ k, F k ↔ (k = g ∨ k = d ∨ k = m)
  ok : t.Ok
def GsAt (w : World) (F : Nat → Prop) (g : Nat) (t : Gp.G) : Prop := ∃ d m, GsT w F g d m t
theorem SMap.apart {α : Type} {enc : α → List Value} {ok : α → Prop} {w : World} {b g : Nat} {l : List α} {t : TypeId} {xs : List Value} (h : SMap enc ok w b l) (hr : Row w g t xs) : b ≠ g := by
  rintro rfl
  obtain ⟨es, clock, h1, _⟩ := h
  unfold Row at hr
  rw [hr] at h1
  cases h1
section
variable {w w' : World} {F : Nat → Prop} {g d m : Nat} {t : Gp.G}
theorem GsT.mg (h : GsT w F g d m t) : m ≠ g := h.map.apart h.row
theorem GsT.md (h : GsT w F g d m t) : m ≠ d := h.map.apart h.dice
theorem GsT.keeps {S : Nat → Prop} (h : GsT w F g d m t) (hk : Keeps S w w') (hs : ∀ k, S k → ¬ F k) : GsT w' F g d m t :=
  ⟨h.row.keeps hk (fun e => hs g e ((h.own g).2 (.inl rfl))), Row.keeps h.dice hk (fun e => hs d e ((h.own d).2 (.inr (.inl rfl)))), h.map.keeps hk (fun e => hs m e ((h.own m).2 (.inr (.inr rfl)))), h.ne, h.own, h.ok⟩
theorem GsT.later (h : GsT w F g d m t) (hk : Keeps (fun _ => False) w w') : GsT w' F g d m t := h.keeps hk (fun _ h => h.elim)
theorem GsT.lt (h : GsT w F g d m t) : ∀ k, F k → k < w.heap.size := fun k hk => by
  rcases (h.own k).1 hk with rfl | rfl | rfl
  · exact h.row.lt
  · exact Row.lt h.dice
  · exact h.map.lt
theorem GsT.me (h : GsT w F g d m t) : w.cell? ⟨g, 0, none⟩ = some (.int .i64 (t.me : Int)) := h.row.cell 0
theorem GsT.many (h : GsT w F g d m t) : w.cell? ⟨g, 1, none⟩ = some (.int .i64 (t.many : Int)) := h.row.cell 1
theorem GsT.fan (h : GsT w F g d m t) : w.cell? ⟨g, 2, none⟩ = some (.int .i64 (t.fan : Int)) := h.row.cell 2
theorem GsT.die (h : GsT w F g d m t) : w.cell? ⟨g, 3, none⟩ = some (.pointer (some ⟨d, 0, none⟩)) := h.row.cell 3
theorem GsT.told (h : GsT w F g d m t) : w.cell? ⟨g, 4, none⟩ = some (.map (some m)) := h.row.cell 4
end
theorem gwithin_any (n lo hi : Int) (w : World) : Calls Try.prog 17 #[.int .i64 n, .int .i64 lo, .int .i64 hi] w fun e w' => e = .returned (.bool (decide (lo ≤ n ∧ n ≤ hi))) ∧ w' = w := by
  by_cases h1 : lo ≤ n
  · have hd : decide (n ≥ lo) = true := decide_eq_true h1
    have he : decide (lo ≤ n ∧ n ≤ hi) = decide (n ≤ hi) := by simp [h1]
    rw [he]
    go_enter Try.func17, Try.ntmps17
    go_wp2
    go_ret
    exact ⟨rfl, rfl⟩
  · have hd : decide (n ≥ lo) = false := decide_eq_false h1
    have he : decide (lo ≤ n ∧ n ≤ hi) = false := by simp [h1]
    rw [he]
    go_enter Try.func17, Try.ntmps17
    go_wp2
    go_ret
    exact ⟨rfl, rfl⟩
theorem gnew_off (w : World) (me many fan : Int) (s : BitVec 64) (h : ¬ Gp.In me many fan) :
    Calls Try.prog 8 #[.int .i64 me, .int .i64 many, .int .i64 fan, .int .u64 (di s)] w fun e w' => e = .returned (.tuple #[.pointer none, .int .i64 1]) ∧ Keeps (fun _ => False) w w' := by
  have h1 := fun V => gwithin_any many 1 64 V
  have h2 := fun V => gwithin_any me 0 (many - 1) V
  have h3 := fun V => gwithin_any fan 1 many V
  by_cases c1 : 1 ≤ many ∧ many ≤ 64
  · by_cases c2 : 0 ≤ me ∧ me ≤ many - 1
    · have c3 : ¬ (1 ≤ fan ∧ fan ≤ many) := fun c3 => h ⟨c1, ⟨c2.1, by omega⟩, c3⟩
      rw [decide_eq_true c1] at h1
      rw [decide_eq_true c2] at h2
      rw [decide_eq_false c3] at h3
      have H1 := Lib.hid h1
      have H2 := Lib.hid h2
      have H3 := Lib.hid h3
      clear h h1 h2 h3 c2 c3
      go_enter Try.func8, Try.ntmps8
      go_wp2_with fail
      refine (H1.out _).mono ?_
      rintro e w1 ⟨rfl, e1⟩
      obtain rfl : w = w1 := e1.symm
      go_wp2_with fail
      refine (H2.out _).mono ?_
      rintro e w1 ⟨rfl, e1⟩
      obtain rfl : w = w1 := e1.symm
      go_wp2_with fail
      refine (H3.out _).mono ?_
      rintro e w1 ⟨rfl, e1⟩
      obtain rfl : w = w1 := e1.symm
      go_wp2
      go_ret2
      exact ⟨rfl, Keeps.refl _ _⟩
    · rw [decide_eq_true c1] at h1
      rw [decide_eq_false c2] at h2
      have H1 := Lib.hid h1
      have H2 := Lib.hid h2
      clear h h1 h2 h3 c2
      go_enter Try.func8, Try.ntmps8
      go_wp2_with fail
      refine (H1.out _).mono ?_
      rintro e w1 ⟨rfl, e1⟩
      obtain rfl : w = w1 := e1.symm
      go_wp2_with fail
      refine (H2.out _).mono ?_
      rintro e w1 ⟨rfl, e1⟩
      obtain rfl : w = w1 := e1.symm
      go_wp2
      go_ret2
      exact ⟨rfl, Keeps.refl _ _⟩
  · rw [decide_eq_false c1] at h1
    have H1 := Lib.hid h1
    clear h h1 h2 h3 c1
    go_enter Try.func8, Try.ntmps8
    go_wp2_with fail
    refine (H1.out _).mono ?_
    rintro e w1 ⟨rfl, e1⟩
    obtain rfl : w = w1 := e1.symm
    go_wp2
    go_ret2
    exact ⟨rfl, Keeps.refl _ _⟩
set_option maxRecDepth 100000 in
set_option maxHeartbeats 1000000 in
theorem gnew_on (w : World) (me many fan : Nat) (s : BitVec 64) (h : Gp.In me many fan) :
    Calls Try.prog 8 #[.int .i64 (me : Int), .int .i64 (many : Int), .int .i64 (fan : Int), .int .u64 (di s)] w fun e w' => ∃ g F, e = .returned (.tuple #[.pointer (some ⟨g, 0, none⟩), .int .i64 0]) ∧ GsAt w' F g ⟨me, many, fan, s, []⟩ ∧ (∀ b, F b → w.heap.size ≤ b) ∧ Keeps (fun _ => False) w w' := by
  have h1 := fun V => gwithin_any (many : Int) 1 64 V
  have h2 := fun V => gwithin_any (me : Int) 0 ((many : Int) - 1) V
  have h3 := fun V => gwithin_any (fan : Int) 1 (many : Int) V
  have c1 := h.1
  rw [decide_eq_true h.1] at h1
  rw [decide_eq_true (show (0 : Int) ≤ me ∧ (me : Int) ≤ (many : Int) - 1 by have := h.2.1; omega)] at h2
  rw [decide_eq_true h.2.2] at h3
  have H1 := Lib.hid h1
  have H2 := Lib.hid h2
  have H3 := Lib.hid h3
  have HD := Lib.hid (dnew_any w s)
  have HH := Lib.hid h
  have hmm := @run_makeMap Try.prog
  clear h h1 h2 h3
  go_enter Try.func8, Try.ntmps8
  go_wp2_with fail
  refine (H1.out _).mono ?_
  rintro e w1 ⟨rfl, e1⟩
  obtain rfl : w = w1 := e1.symm
  go_wp2_with fail
  refine (H2.out _).mono ?_
  rintro e w1 ⟨rfl, e1⟩
  obtain rfl : w = w1 := e1.symm
  go_wp2_with fail
  refine (H3.out _).mono ?_
  rintro e w1 ⟨rfl, e1⟩
  obtain rfl : w = w1 := e1.symm
  go_wp2_with fail
  refine HD.out.mono ?_
  rintro e w1 ⟨d, rfl, hd0, hd1, hk⟩
  obtain ⟨m, hm⟩ : ∃ x, w1.heap.size = x := ⟨_, rfl⟩
  obtain ⟨W2, hW2⟩ : ∃ V, w1.alloc (.map #[] 0) = V := ⟨_, rfl⟩
  obtain ⟨g, hg⟩ : ∃ x, W2.heap.size = x := ⟨_, rfl⟩
  obtain ⟨W3, hW3⟩ : ∃ V, W2.alloc (.cells #[.int .i64 (me : Int), .int .i64 (many : Int), .int .i64 (fan : Int), .pointer (some ⟨d, 0, none⟩), .map (some m)] 58) = V := ⟨_, rfl⟩
  have FIN : Hid (GsAt W3 (fun k => k = g ∨ k = d ∨ k = m) g ⟨me, many, fan, s, []⟩ ∧ (∀ b, (b = g ∨ b = d ∨ b = m) → w.heap.size ≤ b) ∧ Keeps (fun _ => False) w W3) := Lib.hid (by
    have k2 : Keeps (fun _ => False) w1 W2 := by rw [← hW2]; exact (Keeps.refl _ _).alloc _
    have k3 : Keeps (fun _ => False) W2 W3 := by rw [← hW3]; exact (Keeps.refl _ _).alloc _
    have m2 : SMap bvs (fun h => h.length = 32) W2 m [] := by rw [← hW2, ← hm]; exact SMap.made _ _ w1
    have hdl := Row.lt hd1
    have hs2 := k2.size
    have hs1 := hk.size
    refine ⟨⟨d, m, ⟨?_, Row.keeps hd1 (k2.trans k3) id, m2.keeps k3 id, by omega, fun k => Iff.rfl, HH.out, fun x hx => by cases hx⟩⟩, fun b hb => ?_, (hk.trans k2).trans k3⟩
    · rw [← hW3, ← hg]; exact heap_alloc_new W2 _
    · rcases hb with rfl | rfl | rfl <;> omega)
  clear hd0 hd1 hk
  go_wp2
  go_ret2
  exact ⟨g, _, rfl, FIN.out⟩
theorem alloc_S (V : World) : (Instr.alloc 63 true (.tuple #[])).run Try.prog V = .ok (.pointer (some ⟨V.heap.size, 0, none⟩)) (V.alloc (.cells #[] 63)) := by
  have h := zero_S V
  go_simp
theorem exec_slook {P : Program} {o : Oper} {a : Act} (m x : Operand) (t : TypeId) (ok : Bool) (hop : o.op = Op.lookup t m x ok) (w : World) (mv xv u : Value) (hm : a.eval m = mv) (hx : a.eval x = xv) (hrun : (Instr.lookup t mv xv ok).run P w = .ok u w) : (execOp a.eval o).run P w = .ok (.value u) w := by
  simp [execOp, hop, hm, hx, hrun, Result.andThen]
theorem gseen_none (w : World) (qk : List UInt8) (hi : qk.length = 32) : Calls Try.prog 15 #[.pointer none, .agg (bvs qk).toArray] w fun e w' => e = .returned (.bool false) ∧ Keeps (fun _ => False) w w' := by
  obtain ⟨KX, hKX⟩ : ∃ K, (bvs qk).toArray = K := ⟨_, rfl⟩
  rw [hKX]
  have HF : Hid (Keeps (fun _ => False) w (w.alloc (.cells KX 36))) := Lib.hid ((Keeps.refl _ _).alloc _)
  clear hKX hi
  go_enter Try.func15, Try.ntmps15
  go_wp2
  go_ret
  exact ⟨rfl, HF.out⟩
set_option maxRecDepth 100000 in
set_option maxHeartbeats 1000000 in
theorem gseen_any {w : World} {F : Nat → Prop} {g d m : Nat} {t : Gp.G} (qk : List UInt8) (h : GsT w F g d m t) (hi : qk.length = 32) :
    Calls Try.prog 15 #[.pointer (some ⟨g, 0, none⟩), .agg (bvs qk).toArray] w fun e w' => e = .returned (.bool (decide (qk ∈ t.told))) ∧ Keeps (fun _ => False) w w' := by
  obtain ⟨bk, hbk⟩ : ∃ x, w.heap.size = x := ⟨_, rfl⟩
  obtain ⟨W1, hW1⟩ : ∃ V, w.alloc (.cells (bvs qk).toArray 36) = V := ⟨_, rfl⟩
  have k1 : Keeps (fun _ => False) w W1 := by rw [← hW1]; exact (Keeps.refl _ _).alloc _
  have r1 : Row W1 bk 36 (bvs qk) := by rw [← hW1, ← hbk]; exact heap_alloc_new w _
  have h1 := h.later k1
  have HM0 : Hid (∀ V, Later W1 V → V.cell? ⟨g, 4, none⟩ = some (.map (some m))) := Lib.hid (fun V hV => (h1.later hV.out).told)
  obtain ⟨r, hr⟩ : ∃ r, decide (qk ∈ t.told) = r := ⟨_, rfl⟩
  have hlk : ∀ V, Later W1 V → (Instr.lookup 56 (.map (some m)) (.agg (bvs qk).toArray) true).run Try.prog V = .ok (.tuple #[.agg #[], .bool r]) V := fun V hV => by
    have h2 := (h1.later hV.out).map.look hashes_T qk hi
    have e2 : ∀ (i : Decidable (qk ∈ t.told)), @decide _ i = r := fun i => by rw [← hr]; exact decide_eq_decide.2 Iff.rfl
    rw [e2] at h2
    exact h2
  obtain ⟨KL, hKL⟩ : ∃ K, bvs qk = K := ⟨_, rfl⟩
  have HSX : Hid ((Try.prog.info? 36).map (·.size) = some KL.length) := Lib.hid (by rw [← hKL, bvs_length, hi]; exact info_h)
  have HKX : Hid (∀ V, Later W1 V → V.rangeAt bk 0 KL) := Lib.hid (fun V hV j v hv => by rw [← hKL] at hv; rw [(Row.keeps r1 hV.out id).cell, Nat.zero_add]; exact hv)
  rw [hKL] at hlk hW1 ⊢
  have HLKR := Lib.hid hlk
  have K1 := Lib.hid k1
  have hcell := h.told
  rw [hr]
  clear hi h k1 r1 h1 hKL hlk hr
  go_enter Try.func15, Try.ntmps15
  go_wp2_with fail
  refine wp_region_stores 12 [9, 10] [0, 1, 2, 3, 4, 5, 6, 7, 8, 9, 10, 11] (Later W1) (fun _ => True) (by kernel_rfl) (by kernel_rfl) (Lasts.later W1) (Lasts.true) (⟨(Keeps.refl _ _).drew⟩) (trivial) ?_
  refine T_value (get_op rfl) (by rfl) (by rfl) (.pointer (some ⟨g, 0, none⟩)) (fun _ _ => by go_simp) ?_
  simp only [Act.put, List.setIfInBounds_toArray, List.set_cons_zero, List.set_cons_succ]
  refine T_value (get_op rfl) (by rfl) (by rfl) (.pointer (some ⟨g, 0, none⟩)) (fun _ _ => by go_simp) ?_
  simp only [Act.put, List.setIfInBounds_toArray, List.set_cons_zero, List.set_cons_succ]
  refine T_value (get_op rfl) (by rfl) (by rfl) (.pointer (some ⟨g, 4, none⟩)) (fun _ _ => by go_simp) ?_
  simp only [Act.put, List.setIfInBounds_toArray, List.set_cons_zero, List.set_cons_succ]
  refine T_cell (get_op rfl) (by rfl) (by rfl) 56 (.tmp 12) (by rfl) ⟨g, 4, none⟩ (by rfl) (.map (some m)) _ (fun V hV => HM0.out V hV) Try.underlying56 rfl ?_
  simp only [Act.put, List.setIfInBounds_toArray, List.set_cons_zero, List.set_cons_succ]
  refine T_load (get_op rfl) (by rfl) (by rfl) 36 (.tmp 3) (by rfl) bk 0 (by rfl) KL _ (fun V hV => HKX.out V hV) Try.underlying36 rfl HSX.out ?_
  simp only [Act.put, List.setIfInBounds_toArray, List.set_cons_zero, List.set_cons_succ]
  refine T_value (get_op rfl) (by rfl) (by rfl) (.tuple #[.agg #[], .bool r]) (fun V hV => exec_slook _ _ _ true (by rfl) _ _ _ _ (by rfl) (by rfl) (HLKR.out V hV)) ?_
  simp only [Act.put, List.setIfInBounds_toArray, List.set_cons_zero, List.set_cons_succ]
  refine T_value (get_op rfl) (by rfl) (by rfl) (.tuple #[.agg #[], .bool r]) (fun _ _ => by go_simp) ?_
  simp only [Act.put, List.setIfInBounds_toArray, List.set_cons_zero, List.set_cons_succ]
  refine T_value (get_op rfl) (by rfl) (by rfl) (.agg #[]) (fun _ _ => by go_simp) ?_
  simp only [Act.put, List.setIfInBounds_toArray, List.set_cons_zero, List.set_cons_succ]
  refine T_value (get_op rfl) (by rfl) (by rfl) (.bool r) (fun _ _ => by go_simp) ?_
  simp only [Act.put, List.setIfInBounds_toArray, List.set_cons_zero, List.set_cons_succ]
  refine T_alloc (get_op rfl) (by rfl) (by rfl) 63 #[] (by rfl) (fun V => alloc_S V) (Lasts.later W1) Lasts.true W1.heap.size (fun V hV => hV.out.size) ?_
  intro Y hY
  simp only [Act.put, List.setIfInBounds_toArray, List.set_cons_zero, List.set_cons_succ]
  refine T_store (get_op rfl) (by rfl) (by rfl) 63 _ _ (by rfl) (by rfl) Y (by rfl) #[] #[] (by rfl) 63 info_S rfl (by simp) (fun _ => True) Lasts.true (fun V hV hf => ⟨hf.2, ⟨hV.out.trans' (Keeps.setRow Y #[]) (fun i hi e => by omega)⟩, trivial⟩) ?_
  refine T_value (get_op rfl) (by rfl) (by rfl) (.bool r) (fun _ _ => by go_simp) ?_
  simp only [Act.put, List.setIfInBounds_toArray, List.set_cons_zero, List.set_cons_succ]
  refine T_nil ?_
  intro V hV _
  have HV := Lib.hid hV
  simp only [List.drop_succ_cons, List.drop_zero]
  go_wp2
  go_ret
  exact ⟨rfl, K1.out.trans HV.out.out⟩
end Go.Proofs.Ytmhbfchhooggjaa
