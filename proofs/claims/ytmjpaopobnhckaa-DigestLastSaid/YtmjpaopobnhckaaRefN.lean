/-
  The document's own reader: numbers (assayerref01.ReadNum).
-/
import Derived.Test.YtmjpaopobnhckaaRfR
import Derived.IntWalk
namespace Go.Proofs.Ytmjpaopobnhckaa
open Go.RowKit
set_option linter.unusedVariables false

theorem size_R : (Try.prog.info? 76).map (·.size) = some 2 := by kernel_rfl

theorem results_cell_tmp {P : Program} {fn : Func} {p u : Tmp} {ty : TypeId} (h : fn.results = #[.cell p ty, .tmp u]) (tmps : Array Value) (w : World) (g : Nat) (t : TypeId) (cs : Array Value) (fr : Nat × Nat) (d : TypeDesc)
    (hp : tmps.getD p undef = .pointer (some ⟨g, 0, none⟩)) (hg : w.heap[g]? = some (.cells cs t fr))
    (hu : P.underlying ty = some d) (hd : (match d with | .struct _ | .array _ _ => true | _ => false) = true) (hi : (P.info? ty).map (·.size) = some cs.size) :
    (results fn tmps).run P w = .ok (.tuple #[.agg cs, tmps.getD u undef]) w := by
  have hp' : tmps[p]?.getD undef = .pointer (some ⟨g, 0, none⟩) := by simpa using hp
  simp [results, h, hp', asAddr, run_loadVar_row w g t ty cs fr d hg hu hd hi]

/-- A reader in a block of its own. -/
def Rec (w : World) (g : Nat) (s : RS) : Prop := w.heap[g]? = some (.cells #[.string (strOf s.1), .int .i64 s.2] 76 (0, 0))
section
variable {w w' : World} {g : Nat} {l : List UInt8} {e : Int}
theorem Rec.c0 (h : Rec w g (l, e)) : w.cell? ⟨g, 0, none⟩ = some (.string (strOf l)) := cell0 h 0
theorem Rec.c1 (h : Rec w g (l, e)) : w.cell? ⟨g, 1, none⟩ = some (.int .i64 e) := cell0 h 1
theorem Rec.f0 (h : Rec w g (l, e)) : w.frozen? ⟨g, 0, none⟩ = false := frozen0 h 0
theorem Rec.f1 (h : Rec w g (l, e)) : w.frozen? ⟨g, 1, none⟩ = false := frozen0 h 1
theorem Rec.lt {s : RS} (h : Rec w g s) : g < w.heap.size := (Array.getElem?_eq_some_iff.1 h).1
theorem Rec.put {s : RS} (h : Rec w g s) (s' : RS) : Rec ((w.setCell ⟨g, 0, none⟩ (.string (strOf s'.1))).setCell ⟨g, 1, none⟩ (.int .i64 s'.2)) g s' := by
  have := set0 (set0 h 0 (.string (strOf s'.1))) 1 (.int .i64 s'.2)
  exact this
theorem put_keeps (w : World) (g : Nat) (a b : Value) : Keeps (fun k => k = g) w ((w.setCell ⟨g, 0, none⟩ a).setCell ⟨g, 1, none⟩ b) :=
  ((Keeps.refl (fun k => k = g) w).setCell (p := ⟨g, 0, none⟩) (fun _ => rfl) a).setCell (p := ⟨g, 1, none⟩) (fun _ => rfl) b
theorem Rec.keeps {S : Nat → Prop} {s : RS} (h : Rec w g s) (hk : Keeps S w w') (hs : ¬ S g) : Rec w' g s := (hk.block g h.lt hs).trans h
theorem Rec.below {B : Nat} {s : RS} (h : Rec w g s) (hk : Below B w w') (hs : g < B) : Rec w' g s := (hk.block g hs).trans h
end

theorem be_step (l : List UInt8) (c : UInt8) (h : l.length ≤ 7) : IntKind.u64.wrap (IntKind.u64.wrap (be l * 256) + IntKind.u64.wrap (c.toNat : Int)) = be (l ++ [c]) := by
  have h0 := be_nonneg l
  have h1 : be l < 72057594037927936 := be_lt l 7 h
  have hc : (c.toNat : Int) < 256 := by have := c.toNat_lt; omega
  rw [IntWalk.u64_in (be l * 256) (by omega), IntWalk.u64_in (c.toNat : Int) (by omega), IntWalk.u64_in _ (by omega), be_snoc]

theorem rnum_raw (n : Int) (s : RS) (hn : s.2 ≠ 0 ∨ (1 ≤ n ∧ n ≤ 8)) : rnum n s = ((rraw n s).1, be (rraw n s).2) := by
  by_cases h : 1 ≤ n ∧ n ≤ 8
  · unfold rnum rraw
    rw [if_pos (by simp; omega), if_neg (by omega)]
  · have hs : s.2 ≠ 0 := hn.resolve_right h
    unfold rnum rraw failS tk
    rw [if_neg (by simp; omega)]
    simp [hs, be]
theorem rraw_len (n : Int) (s : RS) (hn : s.2 ≠ 0 ∨ (1 ≤ n ∧ n ≤ 8)) : (rraw n s).2.length ≤ 8 := by
  unfold rraw tk
  split
  · simp
  · split
    · rename_i h0
      have := hn.resolve_left (fun h => h h0)
      split
      · simp
      · simp; omega
    · simp

set_option maxHeartbeats 1000000 in
theorem refReadNum_bad (n : Int) (l : List UInt8) (w : World) (hl : l.length ≤ 100000000) (hn : ¬ (1 ≤ n ∧ n ≤ 8)) :
    Calls Try.prog 40 #[RV (l, 0), .int .i64 n] w (Said2 (RV (rnum n (l, 0)).1) (.int .u64 (rnum n (l, 0)).2) w) := by
  have fin : rnum n (l, 0) = ((l, 1), 0) := by unfold rnum; rw [if_neg (by simp; omega)]; rfl
  rw [fin, RV_mk, RV_mk]
  clear fin
  by_cases h1 : n < 1
  · clear hn
    go_enter Try.func40, Try.ntmps40
    go_wp2
    go_returns
    exact ⟨rfl, by go_grown⟩
  · have h8 : 8 < n := by omega
    clear hn
    go_enter Try.func40, Try.ntmps40
    go_wp2
    go_returns
    exact ⟨rfl, by go_grown⟩

/-- From the call of Raw on. -/
theorem refReadNum_err (n : Int) (l : List UInt8) (e : Int) (w : World) (hl : l.length ≤ 100000000) (hn : e ≠ 0 ∨ (1 ≤ n ∧ n ≤ 8)) :
    Calls Try.prog 40 #[RV (l, e), .int .i64 n] w (Said2 (RV (rnum n (l, e)).1) (.int .u64 (rnum n (l, e)).2) w) := by
  have fin := rnum_raw n (l, e) hn
  have hlen := rraw_len n (l, e) hn
  rw [fin, RV_mk l e]
  clear fin
  have HR := fun (w : World) => refRaw_any n (l, e) w hl
  generalize rraw n (l, e) = p at *
  obtain ⟨⟨l1, e1⟩, u⟩ := p
  have hlen' : u.length ≤ 8 := hlen
  have hsz : (strOf u).size = u.length := rfl
  clear hl hlen
  have HQ : Hid (∀ w, Calls Try.prog 41 #[.agg #[.string (strOf l), .int .i64 e], .int .i64 n] w (Said2 (.agg #[.string (strOf l1), .int .i64 e1]) (.string (strOf u)) w)) := HR
  clear HR
  show Calls Try.prog 40 #[.agg #[.string (strOf l), .int .i64 e], .int .i64 n] w (Said2 (.agg #[.string (strOf l1), .int .i64 e1]) (.int .u64 (be u)) w)
  have main : ∀ (he : (e == 0) = false ∨ ((e == 0) = true ∧ 1 ≤ n ∧ n ≤ 8)), Calls Try.prog 40 #[.agg #[.string (strOf l), .int .i64 e], .int .i64 n] w (Said2 (.agg #[.string (strOf l1), .int .i64 e1]) (.int .u64 (be u)) w) := by
    intro he
    clear hn
    rcases he with he | ⟨he, hn1, hn8⟩
    all_goals
      go_enter Try.func40, Try.ntmps40
      go_wp2_with fail
      refine (HQ.out _).mono ?_
      rintro e2 w1 ⟨rfl, hb⟩
      have y0 : Rec w1 w.heap.size (l, e) := (hb.block _ (by simp; omega)).trans (heap_alloc2_old w _ _)
      have y1 : Rec w1 (w.heap.size + 1) ([], 0) := (hb.block _ (by simp)).trans (heap_alloc2_new w _ _)
      have kb : Below w.heap.size w w1 := Below.trans (by go_grown) (hb.mono (by simp; omega))
      have p0 := y0.put (l1, e1)
      have p1 := y1.keeps (put_keeps w1 w.heap.size (.string (strOf l1)) (.int .i64 e1)) (by omega)
      have kp : Below w.heap.size w ((w1.setCell ⟨w.heap.size, 0, none⟩ (.string (strOf l1))).setCell ⟨w.heap.size, 1, none⟩ (.int .i64 e1)) := kb.trans ((put_keeps _ _ _ _).below kb.size (fun k hk e => by omega))
      have c0 := y0.c0
      have c1 := y0.c1
      have f0 := y0.f0
      have f1 := y0.f1
      have P0 := Lib.hid p0
      have P1 := Lib.hid p1
      have KP := Lib.hid kp
      clear hb y0 y1 kb p0 p1 kp
      go_wp2_with fail
      clear c0 c1 f0 f1
      obtain ⟨w2, hw2⟩ : ∃ w2, (w1.setCell ⟨w.heap.size, 0, none⟩ (.string (strOf l1))).setCell ⟨w.heap.size, 1, none⟩ (.int .i64 e1) = w2 := ⟨_, rfl⟩
      rw [hw2] at P0 P1 KP ⊢
      clear hw2
      go_loop [7, 8] (fun x i => ∃ k : Nat, k ≤ u.length ∧ i = .int .i64 k ∧ x = .int .u64 (be (u.take k))) (fun _ i => u.length - (intOf i).toNat)
      case atStart => exact ⟨0, Nat.zero_le _, rfl, rfl⟩
      case round =>
        obtain ⟨k, hk, rfl, rfl⟩ := hrel
        by_cases hlt : k < u.length
        · have ho := be_step (u.take k) u[k] (by rw [List.length_take]; omega)
          rw [← List.take_succ_eq_append_getElem hlt] at ho
          have HO := Lib.hid ho
          clear ho
          go_wp2
          go_round
          case rel => exact ⟨k + 1, by omega, by go_num, congrArg (Value.int .u64) HO.out⟩
          case measure => simp [intOf]; omega
        · have c0 := P0.out.c0
          have c1 := P0.out.c1
          have d0 := P1.out.c0
          have d1 := P1.out.c1
          have f0 := P1.out.f0
          have f1 := P1.out.f1
          go_wp2
          obtain rfl : k = u.length := by omega
          refine bodyPost_ret (results_cell_tmp rfl _ _ (w.heap.size + 1) 76 _ (0, 0) _ rfl (P1.out.put (l1, e1)) Try.underlying76 rfl size_R) rfl ?_
          exact ⟨by rw [List.take_of_length_le (Nat.le_refl _)]; rfl, KP.out.trans ((put_keeps _ _ _ _).below KP.out.size (fun k hk e => by omega))⟩
  rcases hn with h | ⟨h1, h8⟩
  · exact main (.inl (by simpa using h))
  · by_cases h0 : e = 0
    · exact main (.inr ⟨by simpa using h0, h1, h8⟩)
    · exact main (.inl (by simpa using h0))
theorem refReadNum_any (n : Int) (s : RS) (w : World) (hl : s.1.length ≤ 100000000) :
    Calls Try.prog 40 #[RV s, .int .i64 n] w (Said2 (RV (rnum n s).1) (.int .u64 (rnum n s).2) w) := by
  obtain ⟨l, e⟩ := s
  by_cases he : e = 0
  · by_cases hn : 1 ≤ n ∧ n ≤ 8
    · exact refReadNum_err n l e w hl (.inr hn)
    · subst he
      exact refReadNum_bad n l w hl hn
  · exact refReadNum_err n l e w hl (.inl he)
end Go.Proofs.Ytmjpaopobnhckaa
