/-
  How long one waits behind a time.
-/
import Derived.Test.YthnpgiagajfaiaaFcU
namespace Go.Proofs.Ythnpgiagajfaiaa
open Go.RowKit Go.BigFrame
set_option linter.unusedVariables false
set_option linter.unusedSimpArgs false

set_option maxRecDepth 100000 in
theorem wait_any (w : World) (g b : Nat) (t : Ft.Tb) (tries : Nat) (h : Row w g 65 [.map (some b), .int .i64 (t.base : Int), .int .i64 (t.most : Int), .int .i64 (t.budget : Int)]) (hin : Ft.Tb.In t) (htr : tries ≤ 20) :
    Calls Try.prog 24 #[.pointer (some ⟨g, 0, none⟩), .int .i64 (tries : Int)] w fun e w' => e = .returned (.int .i64 (Ft.wait t.base t.most tries : Int)) ∧ Keeps (fun _ => False) w w' := by
  have HC1 : Hid (∀ V, Later w V → V.cell? ⟨g, 1, none⟩ = some (.int .i64 (t.base : Int))) := Lib.hid (fun V hV => (Row.keeps h hV.out id).cell 1)
  have HC2 : Hid (∀ V, Later w V → V.cell? ⟨g, 2, none⟩ = some (.int .i64 (t.most : Int))) := Lib.hid (fun V hV => (Row.keeps h hV.out id).cell 2)
  obtain ⟨B, hB⟩ : ∃ x : Int, (t.base : Int) = x := ⟨_, rfl⟩
  obtain ⟨M, hM⟩ : ∃ x : Int, (t.most : Int) = x := ⟨_, rfl⟩
  obtain ⟨n, hn⟩ : ∃ x : Int, (tries : Int) = x := ⟨_, rfl⟩
  obtain ⟨Y, hY⟩ : ∃ x : Int, B * 2 ^ tries = x := ⟨_, rfl⟩
  obtain ⟨Z, hZ⟩ : ∃ x : Int, (Ft.wait t.base t.most tries : Int) = x := ⟨_, rfl⟩
  have hyN : t.base * 2 ^ tries ≤ 104857600 := by
    have h1 : 2 ^ tries ≤ 2 ^ 20 := Nat.pow_le_pow_right (by decide) htr
    have h2 := hin.1.2
    calc t.base * 2 ^ tries ≤ 100 * 2 ^ 20 := Nat.mul_le_mul h2 h1
      _ = 104857600 := by decide
  have hYN : Y = ((t.base * 2 ^ tries : Nat) : Int) := by rw [← hY, ← hB]; simp
  have HYW : Hid (IntKind.i64.wrap (B * 2 ^ min n.toNat 64) = Y) := Lib.hid (by
    rw [← hn, Int.toNat_natCast, Nat.min_eq_left (by omega), hY, hYN]
    generalize t.base * 2 ^ tries = y at hyN
    simp [IntKind.wrap, IntKind.bits, IntKind.signed]
    omega)
  have HZW : Hid (min Y M = Z) := Lib.hid (by
    rw [← hZ, ← hM, hYN]
    unfold Ft.wait
    generalize t.base * 2 ^ tries = y
    omega)
  rw [hB] at HC1
  rw [hM] at HC2
  rw [hn, hZ]
  have hn0 : 0 ≤ n := by omega
  have hn1 : ¬ n < 0 := by omega
  clear h hin hyN hYN hB hM hn hY hZ htr
  go_enter Try.func24, Try.ntmps24
  go_wp2_with fail
  refine wp_region_class (Later w) (by kernel_rfl) (by kernel_rfl) (⟨(Keeps.refl _ _).drew⟩) ?_
  refine class_value (by rfl) (.pointer (some ⟨g, 0, none⟩)) (fun V hV => by go_simp) ?_
  simp only [Act.put, List.setIfInBounds_toArray, List.set_cons_zero, List.set_cons_succ]
  refine class_value (by rfl) (.pointer (some ⟨g, 0, none⟩)) (fun V hV => by go_simp) ?_
  simp only [Act.put, List.setIfInBounds_toArray, List.set_cons_zero, List.set_cons_succ]
  refine class_value (by rfl) (.pointer (some ⟨g, 1, none⟩)) (fun V hV => by go_simp) ?_
  simp only [Act.put, List.setIfInBounds_toArray, List.set_cons_zero, List.set_cons_succ]
  refine class_cell (by rfl) 3 (.tmp 7) (by rfl) ⟨g, 1, none⟩ (by rfl) (.int .i64 B) _ (fun V hV => HC1.out V hV) Try.underlying3 rfl ?_
  simp only [Act.put, List.setIfInBounds_toArray, List.set_cons_zero, List.set_cons_succ]
  refine class_value (by rfl) (.int .i64 n) (fun V hV => by go_simp) ?_
  simp only [Act.put, List.setIfInBounds_toArray, List.set_cons_zero, List.set_cons_succ]
  refine class_value (by rfl) (.int .i64 Y) (fun V hV => by go_simp; exact HYW.out) ?_
  simp only [Act.put, List.setIfInBounds_toArray, List.set_cons_zero, List.set_cons_succ]
  refine class_value (by rfl) (.pointer (some ⟨g, 0, none⟩)) (fun V hV => by go_simp) ?_
  simp only [Act.put, List.setIfInBounds_toArray, List.set_cons_zero, List.set_cons_succ]
  refine class_value (by rfl) (.pointer (some ⟨g, 0, none⟩)) (fun V hV => by go_simp) ?_
  simp only [Act.put, List.setIfInBounds_toArray, List.set_cons_zero, List.set_cons_succ]
  refine class_value (by rfl) (.pointer (some ⟨g, 2, none⟩)) (fun V hV => by go_simp) ?_
  simp only [Act.put, List.setIfInBounds_toArray, List.set_cons_zero, List.set_cons_succ]
  refine class_cell (by rfl) 3 (.tmp 13) (by rfl) ⟨g, 2, none⟩ (by rfl) (.int .i64 M) _ (fun V hV => HC2.out V hV) Try.underlying3 rfl ?_
  simp only [Act.put, List.setIfInBounds_toArray, List.set_cons_zero, List.set_cons_succ]
  refine class_value (by rfl) (.int .i64 Z) (fun V hV => by go_simp; exact HZW.out) ?_
  simp only [Act.put, List.setIfInBounds_toArray, List.set_cons_zero, List.set_cons_succ]
  refine class_value (by rfl) (.int .i64 Z) (fun V hV => by go_simp) ?_
  simp only [Act.put, List.setIfInBounds_toArray, List.set_cons_zero, List.set_cons_succ]
  refine wpQuiet_nil ?_
  intro V hV
  have HV := Lib.hid hV
  clear hV
  go_wp2
  go_ret
  exact ⟨rfl, HV.out.out⟩
/-- In the midst of a tick: what has been done, what is left; who was told. -/
structure Tki (W : World) (F : Nat → Prop) (g b d B : Nat) (t : Ft.Tb) (T : Ft.Tk) (rest : List Ft.Q) (vl va vo : Value) : Prop where
  row : Row W g 65 [.map (some b), .int .i64 (t.base : Int), .int .i64 (t.most : Int), .int .i64 (t.budget : Int)]
  map : WMap W b (T.l ++ rest)
  dice : DiceAt W d T.s
  lst : ∃ B0, W.ownsRow B0 41 66 vl t.l.length (wfl (Ft.keys t.l)) ∧ (∀ k, vl.ownBlock = some k → k < B ∧ k ≠ b ∧ k ≠ d)
  ra : W.ownsRow B 41 66 va T.asks.length (wfl (Ft.keys T.asks))
  ro : W.ownsRow B 41 66 vo T.lost.length (wfl (Ft.keys T.lost))
  ap : ∀ k, va.ownBlock = some k → vo.ownBlock ≠ some k
  low : B ≤ W.heap.size ∧ g < B ∧ b < B ∧ d < B ∧ g ≠ b ∧ g ≠ d ∧ b ≠ d
section
variable {W V V' : World} {F : Nat → Prop} {g b d B : Nat} {t : Ft.Tb} {T : Ft.Tk} {rest : List Ft.Q} {vl va vo : Value}
theorem own_lt18 {w : World} {base size n : Nat} {e : TypeId} {v : Value} {xs : List Value} (h : w.ownsRow base e size v n xs) {b : Nat} (hb : v.ownBlock = some b) : base ≤ b ∧ b < w.heap.size := by
  obtain ⟨_, hg, h2⟩ := own_block h b hb
  exact ⟨h2, (Array.getElem?_eq_some_iff.1 hg).1⟩
theorem Tki.keeps {S : Nat → Prop} (h : Tki W F g b d B t T rest vl va vo) (k : Keeps S W V) (hs : ∀ j, S j → j ≠ g ∧ j ≠ b ∧ j ≠ d ∧ vl.ownBlock ≠ some j ∧ va.ownBlock ≠ some j ∧ vo.ownBlock ≠ some j) : Tki V F g b d B t T rest vl va vo := by
  obtain ⟨B0, hl1, hl2⟩ := h.lst
  exact ⟨h.row.keeps k (fun e => (hs g e).1 rfl), h.map.keeps k (fun e => (hs b e).2.1 rfl), Row.keeps h.dice k (fun e => (hs d e).2.2.1 rfl), ⟨B0, k.owns hl1 (fun j hj e => (hs j e).2.2.2.1 hj), hl2⟩,
    k.owns h.ra (fun j hj e => (hs j e).2.2.2.2.1 hj), k.owns h.ro (fun j hj e => (hs j e).2.2.2.2.2 hj), h.ap, ⟨Nat.le_trans h.low.1 k.size, h.low.2⟩⟩
theorem Tki.later (h : Tki W F g b d B t T rest vl va vo) (k : Keeps (fun _ => False) W V) : Tki V F g b d B t T rest vl va vo := h.keeps k (fun _ e => e.elim)
/-- Behind a block that is new. -/
theorem Tki.new {Y : Nat} (h : Tki W F g b d B t T rest vl va vo) (hY : W.heap.size ≤ Y) : Y ≠ g ∧ Y ≠ b ∧ Y ≠ d ∧ vl.ownBlock ≠ some Y ∧ va.ownBlock ≠ some Y ∧ vo.ownBlock ≠ some Y := by
  obtain ⟨B0, hl1, hl2⟩ := h.lst
  have := h.low
  refine ⟨by omega, by omega, by omega, fun e => ?_, fun e => ?_, fun e => ?_⟩
  · have := (hl2 Y e).1; omega
  · have := (own_lt18 h.ra e).2; omega
  · have := (own_lt18 h.ro e).2; omega
theorem Tki.put {T' : Ft.Tk} {rest' : List Ft.Q} (h : Tki W F g b d B t T rest vl va vo) (k : Keeps (fun j => j = b) W V) (m : WMap V b (T'.l ++ rest')) (hs : T'.s = T.s) (ha : T'.asks = T.asks) (ho : T'.lost = T.lost) : Tki V F g b d B t T' rest' vl va vo := by
  obtain ⟨B0, hl1, hl2⟩ := h.lst
  have hl := h.low
  refine ⟨h.row.keeps k (fun e => by omega), m, by rw [hs]; exact Row.keeps h.dice k (fun e => by omega), ⟨B0, k.owns hl1 (fun j hj e => (hl2 j hj).2.1 e), hl2⟩, ?_, ?_, h.ap, ⟨Nat.le_trans hl.1 k.size, hl.2⟩⟩
  · rw [ha]; exact k.owns h.ra (fun j hj e => by have := (own_lt18 h.ra hj).1; omega)
  · rw [ho]; exact k.owns h.ro (fun j hj e => by have := (own_lt18 h.ro hj).1; omega)
theorem Tki.draw {s' : BitVec 64} (h : Tki W F g b d B t T rest vl va vo) (k : Keeps (fun j => j = d) W V) (hd : DiceAt V d s') : Tki V F g b d B t { T with s := s' } rest vl va vo := by
  obtain ⟨B0, hl1, hl2⟩ := h.lst
  have hl := h.low
  exact ⟨h.row.keeps k (fun e => by omega), h.map.keeps k (fun e => by omega), hd, ⟨B0, k.owns hl1 (fun j hj e => (hl2 j hj).2.2 e), hl2⟩,
    k.owns h.ra (fun j hj e => by have := (own_lt18 h.ra hj).1; omega), k.owns h.ro (fun j hj e => by have := (own_lt18 h.ro hj).1; omega), h.ap, ⟨Nat.le_trans hl.1 k.size, hl.2⟩⟩
theorem Tki.pushA {q : Ft.Q} {va' : Value} (h : Tki W F g b d B t T rest vl va vo) (ho : V.ownsRow B 41 66 va' (T.asks.length + 1) (wfl (Ft.keys T.asks) ++ wcs q.key)) (hg : W.grownBy V va.ownBlock) (hob : va'.ownBlock = va.ownBlock ∨ va'.ownBlock = some W.heap.size) :
    Tki V F g b d B t { T with asks := T.asks ++ [q] } rest vl va' vo := by
  obtain ⟨B0, hl1, hl2⟩ := h.lst
  have hl := h.low
  have k : Keeps (fun j => va.ownBlock = some j) W V := (Keeps.refl _ _).grown hg (fun _ _ h => h)
  have hlo : ∀ j, va.ownBlock = some j → B ≤ j := fun j hj => (own_lt18 h.ra hj).1
  refine ⟨h.row.keeps k (fun e => by have := hlo _ e; omega), h.map.keeps k (fun e => by have := hlo _ e; omega), Row.keeps h.dice k (fun e => by have := hlo _ e; omega), ⟨B0, k.owns hl1 (fun j hj e => by have := hlo _ e; have := (hl2 j hj).1; omega), hl2⟩, ?_, k.owns h.ro (fun j hj e => h.ap j e hj), fun j hj => ?_, ⟨Nat.le_trans hl.1 k.size, hl.2⟩⟩
  · show V.ownsRow B _ 66 va' (T.asks ++ [q]).length (wfl (Ft.keys (T.asks ++ [q])))
    rw [List.length_append, show Ft.keys (T.asks ++ [q]) = Ft.keys T.asks ++ [q.key] by simp [Ft.keys], ← wfl_snoc]
    exact ho
  · rcases hob with e | e
    · rw [e] at hj; exact h.ap j hj
    · rw [e] at hj
      injection hj with hj
      exact (h.new (Y := j) (by omega)).2.2.2.2.2
theorem Tki.pushO {q : Ft.Q} {vo' : Value} (h : Tki W F g b d B t T rest vl va vo) (ho : V.ownsRow B 41 66 vo' (T.lost.length + 1) (wfl (Ft.keys T.lost) ++ wcs q.key)) (hg : W.grownBy V vo.ownBlock) (hob : vo'.ownBlock = vo.ownBlock ∨ vo'.ownBlock = some W.heap.size) :
    Tki V F g b d B t { T with lost := T.lost ++ [q] } rest vl va vo' := by
  obtain ⟨B0, hl1, hl2⟩ := h.lst
  have hl := h.low
  have k : Keeps (fun j => vo.ownBlock = some j) W V := (Keeps.refl _ _).grown hg (fun _ _ h => h)
  have hlo : ∀ j, vo.ownBlock = some j → B ≤ j := fun j hj => (own_lt18 h.ro hj).1
  refine ⟨h.row.keeps k (fun e => by have := hlo _ e; omega), h.map.keeps k (fun e => by have := hlo _ e; omega), Row.keeps h.dice k (fun e => by have := hlo _ e; omega), ⟨B0, k.owns hl1 (fun j hj e => by have := hlo _ e; have := (hl2 j hj).1; omega), hl2⟩, k.owns h.ra (fun j hj e => h.ap j hj e), ?_, fun j hj e => ?_, ⟨Nat.le_trans hl.1 k.size, hl.2⟩⟩
  · show V.ownsRow B _ 66 vo' (T.lost ++ [q]).length (wfl (Ft.keys (T.lost ++ [q])))
    rw [List.length_append, show Ft.keys (T.lost ++ [q]) = Ft.keys T.lost ++ [q.key] by simp [Ft.keys], ← wfl_snoc]
    exact ho
  · rcases hob with e2 | e2
    · rw [e2] at e; exact h.ap j hj e
    · rw [e2] at e
      injection e with e
      exact (h.new (Y := j) (by omega)).2.2.2.2.1 hj
end
theorem done_mid {A C : List Ft.Q} {q : Ft.Q} (h : Dis (A ++ q :: C)) : Ft.done (A ++ q :: C) q.key = A ++ C := by
  obtain ⟨h1, h2, h3⟩ := List.pairwise_append.1 h
  obtain ⟨h4, h5⟩ := List.pairwise_cons.1 h2
  have e1 : Ft.done A q.key = A := done_none (fun y hy => h3 y hy q (by simp))
  have e2 : Ft.done C q.key = C := done_none (fun y hy => (h4 y hy).symm)
  unfold Ft.done at *
  rw [List.filter_append, List.filter_cons, if_neg (by simp), e1, e2]
theorem WMap.dis {w : World} {b : Nat} {l : List Ft.Q} (h : WMap w b l) : Dis l := by
  obtain ⟨_, _, h⟩ := h
  exact h.dis
theorem WMap.okq {w : World} {b : Nat} {l : List Ft.Q} (h : WMap w b l) : ∀ q ∈ l, Ft.Q.Ok q := by
  obtain ⟨_, _, h⟩ := h
  exact h.ok
end Go.Proofs.Ythnpgiagajfaiaa
