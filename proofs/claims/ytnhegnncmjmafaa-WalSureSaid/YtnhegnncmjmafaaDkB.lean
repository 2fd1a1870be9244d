/-
  A disk in memory; what tells its errors; what counts a call.
-/
import Derived.Test.YtnhegnncmjmafaaDkA
import Derived.Test.YtnhegnncmjmafaaDkM
import Derived.Test.YtnhegnncmjmafaaOwnB
import Derived.Test.YtnhegnncmjmafaaRows
import Derived.WalkSpells
namespace Go.Proofs.Ytnhegnncmjmafaa
open Go.RowKit Go.BigFrame
set_option linter.unusedVariables false

/-- A block as a value. -/
def arrv (b : List UInt8) : Value := .agg (bvs b).toArray
def wcells (p : Nat × List UInt8) : List Value := .int .i64 (p.1 : Int) :: bvs p.2
def flatW (l : List (Nat × List UInt8)) : List Value := l.flatMap wcells
theorem wcells_length (p : Nat × List UInt8) (h : p.2.length = 256) : (wcells p).length = 257 := by unfold wcells; rw [List.length_cons, bvs_length, h]
theorem wcells_one (p : Nat × List UInt8) : ∀ u ∈ wcells p, u.oneCell' = true := by
  intro u hu
  rcases List.mem_cons.1 hu with rfl | hu
  · rfl
  · exact bvs_one _ u hu
theorem flatW_snoc (l : List (Nat × List UInt8)) (p : Nat × List UInt8) : flatW (l ++ [p]) = flatW l ++ wcells p := by
  unfold flatW; rw [List.flatMap_append]; simp
theorem flatW_length (l : List (Nat × List UInt8)) (h : ∀ p ∈ l, p.2.length = 256) : (flatW l).length = l.length * 257 := by
  unfold flatW
  induction l with
  | nil => rfl
  | cons p l ih =>
    rw [List.flatMap_cons, List.length_append, ih (fun q hq => h q (List.mem_cons_of_mem _ hq)), wcells_length p (h p (by simp)), List.length_cons]
    omega
theorem flatW_one (l : List (Nat × List UInt8)) : ∀ u ∈ flatW l, u.oneCell' = true := by
  intro u hu
  unfold flatW at hu
  obtain ⟨p, _, h⟩ := List.mem_flatMap.1 hu
  exact wcells_one p u h
theorem flatW_get : ∀ (l : List (Nat × List UInt8)) (k : Nat) (p : Nat × List UInt8) (j : Nat) (u : Value), (∀ p ∈ l, p.2.length = 256) → l[k]? = some p → (wcells p)[j]? = some u → (flatW l)[k * 257 + j]? = some u
  | [], k, p, j, u, _, h, _ => by simp at h
  | q :: l, k, p, j, u, hl, h, hu => by
    have hq : (wcells q).length = 257 := wcells_length q (hl q (by simp))
    have hf : flatW (q :: l) = wcells q ++ flatW l := by unfold flatW; rw [List.flatMap_cons]
    rw [hf]
    cases k with
    | zero =>
      cases h
      have := (List.getElem?_eq_some_iff.1 hu).1
      rw [List.getElem?_append_left (by omega), Nat.zero_mul, Nat.zero_add]
      exact hu
    | succ k =>
      rw [List.getElem?_append_right (by omega), hq, show (k + 1) * 257 + j - 257 = k * 257 + j by omega]
      exact flatW_get l k p j u (fun q hq => hl q (List.mem_cons_of_mem _ hq)) h hu

/-- A disk lies at g, all of it in the blocks of F. -/
structure Dsk (w : World) (F : Nat → Prop) (g : Nat) (s : Dk.St) (gb lb : Nat) (A : Option Addr) (c : Nat) (gf lf : Int → Option Value) : Prop where
  row : Row w g 59 [.int .i64 (s.n : Int), .map (some gb), .slice A s.loose.length c, .map (some lb), .bool s.fails, .int .i64 s.after, .bool s.dead]
  good : IMap w gb gf
  last : IMap w lb lf
  own : w.ownsRow 0 80 257 (.slice A s.loose.length c) s.loose.length (flatW s.loose)
  ne : gb ≠ lb
  fg : F g
  fgb : F gb
  flb : F lb
  fown : ∀ k, (Value.slice A s.loose.length c).ownBlock = some k → F k
  gv : ∀ i : Nat, (gf i).getD (arrv Dk.nought) = arrv (s.good i)
  lv : ∀ i : Nat, (lf i = none ∧ ∀ g, Dk.over g s.loose i = g i) ∨ ∃ (k : Nat) (p : Nat × List UInt8), lf i = some (.int .i64 (k : Int)) ∧ s.loose[k]? = some p ∧ ∀ g, p.2 = Dk.over g s.loose i
  ok : Dk.Ok s
section
variable {w w' : World} {F : Nat → Prop} {g : Nat} {s : Dk.St} {gb lb : Nat} {A : Option Addr} {c : Nat} {gf lf : Int → Option Value}
theorem Dsk.gb_ne (h : Dsk w F g s gb lb A c gf lf) : gb ≠ g := h.good.apart h.row
theorem Dsk.lb_ne (h : Dsk w F g s gb lb A c gf lf) : lb ≠ g := h.last.apart h.row
theorem Dsk.own_ne (h : Dsk w F g s gb lb A c gf lf) : ∀ k, (Value.slice A s.loose.length c).ownBlock = some k → k ≠ g ∧ k ≠ gb ∧ k ≠ lb := by
  intro k hk
  obtain ⟨cur, hc, _⟩ := own_block h.own k hk
  refine ⟨?_, (h.good.apart hc).symm, (h.last.apart hc).symm⟩
  rintro rfl
  have hr := h.row
  unfold Row at hr
  rw [hc] at hr
  simp at hr
theorem Dsk.keeps {S : Nat → Prop} (h : Dsk w F g s gb lb A c gf lf) (hk : Keeps S w w') (hs : ∀ k, k < w.heap.size → F k → ¬ S k) : Dsk w' F g s gb lb A c gf lf :=
  ⟨h.row.keeps hk (hs g h.row.lt h.fg), h.good.keeps hk (hs gb h.good.lt h.fgb), h.last.keeps hk (hs lb h.last.lt h.flb), hk.owns h.own (fun k hv => hs k (h.own.lt k hv).2 (h.fown k hv)), h.ne, h.fg, h.fgb, h.flb, h.fown, h.gv, h.lv, h.ok⟩
theorem Dsk.later (h : Dsk w F g s gb lb A c gf lf) (hk : Keeps (fun _ => False) w w') : Dsk w' F g s gb lb A c gf lf := h.keeps hk (fun _ _ _ => id)
theorem Dsk.mono {G : Nat → Prop} (h : Dsk w F g s gb lb A c gf lf) (hs : ∀ k, k < w.heap.size → F k → G k) : Dsk w G g s gb lb A c gf lf :=
  ⟨h.row, h.good, h.last, h.own, h.ne, hs g h.row.lt h.fg, hs gb h.good.lt h.fgb, hs lb h.last.lt h.flb, fun k hv => hs k (h.own.lt k hv).2 (h.fown k hv), h.gv, h.lv, h.ok⟩
/-- A plain cell of the disk is stored to. -/
theorem Dsk.cell {s' : Dk.St} (h : Dsk w F g s gb lb A c gf lf) (j : Nat) (u : Value) (hr : Row (w.setCell ⟨g, j, none⟩ u) g 59 [.int .i64 (s'.n : Int), .map (some gb), .slice A s'.loose.length c, .map (some lb), .bool s'.fails, .int .i64 s'.after, .bool s'.dead])
    (hl : s'.loose = s.loose) (hg : s'.good = s.good) (ho : Dk.Ok s') : Dsk (w.setCell ⟨g, j, none⟩ u) F g s' gb lb A c gf lf ∧ Keeps (fun k => k = g) w (w.setCell ⟨g, j, none⟩ u) := by
  have hk : Keeps (fun k => k = g) w (w.setCell ⟨g, j, none⟩ u) := (Keeps.refl (fun k => k = g) w).setCell (p := ⟨g, j, none⟩) (fun _ => rfl) u
  refine ⟨⟨hr, h.good.keeps hk h.gb_ne, h.last.keeps hk h.lb_ne, ?_, h.ne, h.fg, h.fgb, h.flb, ?_, by rw [hg]; exact h.gv, by rw [hl]; exact h.lv, ho⟩, hk⟩
  · rw [hl]; exact hk.owns h.own (fun k hv => (h.own_ne k hv).1)
  · rw [hl]; exact h.fown
/-- A disk lies at g. -/
def DskAt (w : World) (F : Nat → Prop) (g : Nat) (s : Dk.St) : Prop := ∃ gb lb A c gf lf, Dsk w F g s gb lb A c gf lf
/-- The same, with its two maps. -/
def DskM (w : World) (F : Nat → Prop) (g : Nat) (s : Dk.St) (gb lb : Nat) : Prop := ∃ A c gf lf, Dsk w F g s gb lb A c gf lf
theorem DskAt.lt (h : DskAt w F g s) : g < w.heap.size := by obtain ⟨_, _, _, _, _, _, h⟩ := h; exact h.row.lt
theorem DskAt.ok (h : DskAt w F g s) : Dk.Ok s := by obtain ⟨_, _, _, _, _, _, h⟩ := h; exact h.ok
theorem DskAt.keeps {S : Nat → Prop} (h : DskAt w F g s) (hk : Keeps S w w') (hs : ∀ k, k < w.heap.size → F k → ¬ S k) : DskAt w' F g s := by
  obtain ⟨_, _, _, _, _, _, h⟩ := h; exact ⟨_, _, _, _, _, _, h.keeps hk hs⟩
theorem DskAt.later (h : DskAt w F g s) (hk : Keeps (fun _ => False) w w') : DskAt w' F g s := h.keeps hk (fun _ _ _ => id)
theorem DskAt.mono {G : Nat → Prop} (h : DskAt w F g s) (hs : ∀ k, k < w.heap.size → F k → G k) : DskAt w G g s := by
  obtain ⟨_, _, _, _, _, _, h⟩ := h; exact ⟨_, _, _, _, _, _, h.mono hs⟩
end

theorem up_any (w : World) (F : Nat → Prop) (g : Nat) (s : Dk.St) (h : DskAt w F g s) :
    Calls Try.prog 61 #[.pointer (some ⟨g, 0, none⟩)] w fun e w' => e = .returned (.int .i64 (Dk.upE s)) ∧ w' = w := by
  obtain ⟨gb, lb, A, c, gf, lf, h⟩ := h
  have c6 : w.cell? ⟨g, 6, none⟩ = some (.bool s.dead) := h.row.cell 6
  unfold Dk.upE
  cases hd : s.dead
  all_goals
    rw [hd] at c6
    clear h
    go_enter Try.func61, Try.ntmps61
    go_wp2
    go_ret
    exact ⟨rfl, rfl⟩
theorem up_none (w : World) : Calls Try.prog 61 #[.pointer none] w fun e w' => e = .returned (.int .i64 1) ∧ w' = w := by
  go_enter Try.func61, Try.ntmps61
  go_wp2
  go_ret
  exact ⟨rfl, rfl⟩
theorem at_any (w : World) (F : Nat → Prop) (g : Nat) (s : Dk.St) (i : Int) (h : DskAt w F g s) :
    Calls Try.prog 63 #[.pointer (some ⟨g, 0, none⟩), .int .i64 i] w fun e w' => e = .returned (.int .i64 (Dk.atE s i)) ∧ w' = w := by
  have hup := up_any w F g s h
  obtain ⟨gb, lb, A, c, gf, lf, h⟩ := h
  have c0 : w.cell? ⟨g, 0, none⟩ = some (.int .i64 (s.n : Int)) := h.row.cell 0
  unfold Dk.upE at hup
  cases hd : s.dead with
  | true =>
    rw [hd] at hup
    have HUP := Lib.hid hup
    clear h hup
    go_enter Try.func63, Try.ntmps63
    go_wp2_with fail
    refine HUP.out.mono ?_
    rintro e w1 ⟨rfl, h1⟩
    obtain rfl : w = w1 := h1.symm
    go_wp2
    go_ret
    exact ⟨by unfold Dk.atE; rw [hd]; rfl, rfl⟩
  | false =>
    rw [hd] at hup
    have HUP := Lib.hid hup
    clear h hup
    by_cases hlo : i < 0
    · go_enter Try.func63, Try.ntmps63
      go_wp2_with fail
      refine HUP.out.mono ?_
      rintro e w1 ⟨rfl, h1⟩
      obtain rfl : w = w1 := h1.symm
      go_wp2
      go_ret
      exact ⟨by unfold Dk.atE; rw [hd, if_neg (by decide), if_pos (Or.inl hlo)]; rfl, rfl⟩
    · by_cases hhi : (s.n : Int) ≤ i
      · go_enter Try.func63, Try.ntmps63
        go_wp2_with fail
        refine HUP.out.mono ?_
        rintro e w1 ⟨rfl, h1⟩
        obtain rfl : w = w1 := h1.symm
        go_wp2
        go_ret
        exact ⟨by unfold Dk.atE; rw [hd, if_neg (by decide), if_pos (Or.inr hhi)]; rfl, rfl⟩
      · go_enter Try.func63, Try.ntmps63
        go_wp2_with fail
        refine HUP.out.mono ?_
        rintro e w1 ⟨rfl, h1⟩
        obtain rfl : w = w1 := h1.symm
        go_wp2
        go_ret
        exact ⟨by unfold Dk.atE; rw [hd, if_neg (by decide), if_neg (fun h => by rcases h with h | h <;> omega)]; rfl, rfl⟩
theorem at_none (w : World) (i : Int) : Calls Try.prog 63 #[.pointer none, .int .i64 i] w fun e w' => e = .returned (.int .i64 1) ∧ w' = w := by
  have hup := up_none w
  have HUP := Lib.hid hup
  clear hup
  go_enter Try.func63, Try.ntmps63
  go_wp2_with fail
  refine HUP.out.mono ?_
  rintro e w1 ⟨rfl, h1⟩
  obtain rfl : w = w1 := h1.symm
  go_wp2
  go_ret
  exact ⟨rfl, rfl⟩
/-- A call that counts. -/
theorem count_anyM (w : World) (F : Nat → Prop) (g gb lb : Nat) (s : Dk.St) (h : DskM w F g s gb lb) :
    Calls Try.prog 62 #[.pointer (some ⟨g, 0, none⟩)] w fun e w' => e = .returned (.int .i64 (Dk.cntE s)) ∧ DskM w' F g (Dk.cnt s) gb lb ∧ Keeps (fun k => k = g) w w' := by
  obtain ⟨A, c, gf, lf, h⟩ := h
  have c4 : w.cell? ⟨g, 4, none⟩ = some (.bool s.fails) := h.row.cell 4
  have c5 : w.cell? ⟨g, 5, none⟩ = some (.int .i64 s.after) := h.row.cell 5
  have c6 : w.cell? ⟨g, 6, none⟩ = some (.bool s.dead) := h.row.cell 6
  have f5 := h.row.frozen 5
  have f6 := h.row.frozen 6
  have hwf := h.ok.wf
  cases hf : s.fails with
  | false =>
    rw [hf] at c4
    have fin : DskM w F g (Dk.cnt s) gb lb := by unfold Dk.cnt; rw [hf]; exact ⟨_, _, _, _, h⟩
    have FIN := Lib.hid fin
    clear h fin
    go_enter Try.func62, Try.ntmps62
    go_wp2
    go_ret
    exact ⟨by unfold Dk.cntE Dk.goes; rw [hf]; rfl, FIN.out, Keeps.refl _ _⟩
  | true =>
    rw [hf] at c4
    have hpos := h.ok.aft hf
    by_cases h0 : s.after = 0
    · have fin : DskM (w.setCell ⟨g, 6, none⟩ (.bool true)) F g (Dk.cnt s) gb lb ∧ Keeps (fun k => k = g) w (w.setCell ⟨g, 6, none⟩ (.bool true)) := by
        have e : Dk.cnt s = { s with dead := true } := by unfold Dk.cnt; rw [if_pos hf, if_pos h0]
        obtain ⟨h1, h2⟩ := h.cell (s' := { s with dead := true }) 6 (.bool true) (h.row.set 6 _) rfl rfl ⟨h.ok.lo, h.ok.hi, h.ok.good, h.ok.loose, h.ok.wf, h.ok.aft⟩
        exact ⟨by rw [e]; exact ⟨_, _, _, _, h1⟩, h2⟩
      have FIN := Lib.hid fin
      rw [h0] at c5
      clear h fin hwf
      go_enter Try.func62, Try.ntmps62
      go_wp2
      go_ret
      exact ⟨by unfold Dk.cntE Dk.goes; rw [hf, h0]; rfl, FIN.out.1, FIN.out.2⟩
    · have fin : DskM (w.setCell ⟨g, 5, none⟩ (.int .i64 (s.after - 1))) F g (Dk.cnt s) gb lb ∧ Keeps (fun k => k = g) w (w.setCell ⟨g, 5, none⟩ (.int .i64 (s.after - 1))) := by
        have e : Dk.cnt s = { s with after := s.after - 1 } := by unfold Dk.cnt; rw [if_pos hf, if_neg h0]
        obtain ⟨h1, h2⟩ := h.cell (s' := { s with after := s.after - 1 }) 5 (.int .i64 (s.after - 1)) (h.row.set 5 _) rfl rfl ⟨h.ok.lo, h.ok.hi, h.ok.good, h.ok.loose, (by omega : -9223372036854775808 ≤ s.after - 1 ∧ s.after - 1 ≤ 9223372036854775807), fun _ => (by omega : 0 ≤ s.after - 1)⟩
        exact ⟨by rw [e]; exact ⟨_, _, _, _, h1⟩, h2⟩
      have FIN := Lib.hid fin
      obtain ⟨x, hx⟩ : ∃ x, s.after = x := ⟨_, rfl⟩
      have hg : Dk.goes s = true := by unfold Dk.goes; rw [hf]; simp [h0]
      rw [hx] at c5 h0 hwf hpos FIN
      have hw1 : IntKind.i64.wrap (x - 1) = x - 1 := IntWalk.i64_in _ (by omega)
      clear h fin hx
      go_enter Try.func62, Try.ntmps62
      go_wp2
      go_ret
      exact ⟨by unfold Dk.cntE; rw [hg]; rfl, FIN.out.1, FIN.out.2⟩
theorem count_any (w : World) (F : Nat → Prop) (g : Nat) (s : Dk.St) (h : DskAt w F g s) :
    Calls Try.prog 62 #[.pointer (some ⟨g, 0, none⟩)] w fun e w' => e = .returned (.int .i64 (Dk.cntE s)) ∧ DskAt w' F g (Dk.cnt s) ∧ Keeps (fun k => k = g) w w' := by
  obtain ⟨gb, lb, h⟩ := h
  refine (count_anyM w F g gb lb s h).mono ?_
  rintro e w' ⟨h1, h2, h3⟩
  exact ⟨h1, ⟨gb, lb, h2⟩, h3⟩
theorem len_any (w : World) (F : Nat → Prop) (g : Nat) (s : Dk.St) (h : DskAt w F g s) : Calls Try.prog 24 #[.pointer (some ⟨g, 0, none⟩)] w fun e w' => e = .returned (.int .i64 (s.n : Int)) ∧ w' = w := by
  obtain ⟨gb, lb, A, c, gf, lf, h⟩ := h
  have c0 : w.cell? ⟨g, 0, none⟩ = some (.int .i64 (s.n : Int)) := h.row.cell 0
  clear h
  go_enter Try.func24, Try.ntmps24
  go_wp2
  go_ret
  exact ⟨rfl, rfl⟩
theorem len_none (w : World) : Calls Try.prog 24 #[.pointer none] w fun e w' => e = .returned (.int .i64 0) ∧ w' = w := by
  go_enter Try.func24, Try.ntmps24
  go_wp2
  go_ret
  exact ⟨rfl, rfl⟩
theorem dead_any (w : World) (F : Nat → Prop) (g : Nat) (s : Dk.St) (h : DskAt w F g s) : Calls Try.prog 25 #[.pointer (some ⟨g, 0, none⟩)] w fun e w' => e = .returned (.bool s.dead) ∧ w' = w := by
  obtain ⟨gb, lb, A, c, gf, lf, h⟩ := h
  have c6 : w.cell? ⟨g, 6, none⟩ = some (.bool s.dead) := h.row.cell 6
  clear h
  go_enter Try.func25, Try.ntmps25
  go_wp2
  go_ret
  exact ⟨rfl, rfl⟩
theorem dead_none (w : World) : Calls Try.prog 25 #[.pointer none] w fun e w' => e = .returned (.bool false) ∧ w' = w := by
  go_enter Try.func25, Try.ntmps25
  go_wp2
  go_ret
  exact ⟨rfl, rfl⟩
/-- Behind so many more a call fails; below 0 none. -/
theorem fail_any (w : World) (F : Nat → Prop) (g : Nat) (s : Dk.St) (n : Int) (h : DskAt w F g s) (hn : -9223372036854775808 ≤ n ∧ n ≤ 9223372036854775807) :
    Calls Try.prog 13 #[.pointer (some ⟨g, 0, none⟩), .int .i64 n] w fun e w' => e = .returned (.tuple #[]) ∧ DskAt w' F g { s with fails := decide (0 ≤ n), after := n } ∧ Keeps (fun k => k = g) w w' := by
  obtain ⟨gb, lb, A, c, gf, lf, h⟩ := h
  have c4 : w.cell? ⟨g, 4, none⟩ = some (.bool s.fails) := h.row.cell 4
  have c5 : w.cell? ⟨g, 5, none⟩ = some (.int .i64 s.after) := h.row.cell 5
  have f4 := h.row.frozen 4
  have f5 := h.row.frozen 5
  have fin : DskAt ((w.setCell ⟨g, 4, none⟩ (.bool (decide (0 ≤ n)))).setCell ⟨g, 5, none⟩ (.int .i64 n)) F g { s with fails := decide (0 ≤ n), after := n } ∧ Keeps (fun k => k = g) w ((w.setCell ⟨g, 4, none⟩ (.bool (decide (0 ≤ n)))).setCell ⟨g, 5, none⟩ (.int .i64 n)) := by
    have hk : Keeps (fun k => k = g) w ((w.setCell ⟨g, 4, none⟩ (.bool (decide (0 ≤ n)))).setCell ⟨g, 5, none⟩ (.int .i64 n)) := ((Keeps.refl (fun k => k = g) w).setCell (p := ⟨g, 4, none⟩) (fun _ => rfl) _).setCell (p := ⟨g, 5, none⟩) (fun _ => rfl) _
    have hr := (h.row.set 4 (.bool (decide (0 ≤ n)))).set 5 (.int .i64 n)
    exact ⟨⟨gb, lb, A, c, gf, lf, hr, h.good.keeps hk h.gb_ne, h.last.keeps hk h.lb_ne, hk.owns h.own (fun k hv => (h.own_ne k hv).1), h.ne, h.fg, h.fgb, h.flb, h.fown, h.gv, h.lv, ⟨h.ok.lo, h.ok.hi, h.ok.good, h.ok.loose, hn, fun hh => of_decide_eq_true hh⟩⟩, hk⟩
  have FIN := Lib.hid fin
  have hge : decide (n ≥ 0) = decide (0 ≤ n) := rfl
  clear h fin
  go_enter Try.func13, Try.ntmps13
  go_wp2
  go_end0
  exact ⟨rfl, FIN.out.1, FIN.out.2⟩
theorem fail_none (w : World) (n : Int) : Calls Try.prog 13 #[.pointer none, .int .i64 n] w fun e w' => e = .returned (.tuple #[]) ∧ w' = w := by
  go_enter Try.func13, Try.ntmps13
  go_wp2
  refine bodyPost_ret (results_none rfl _ _ _) rfl ?_
  exact ⟨rfl, rfl⟩
end Go.Proofs.Ytnhegnncmjmafaa
