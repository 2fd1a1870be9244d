/-
  The document's own reader: bytes with their number (assayerref01.ReadBytes), the end (End).
-/
import Derived.Test.YtgbdedkbkagndaaRefN
namespace Go.Proofs.Ytgbdedkbkagndaa
open Go.RowKit
set_option linter.unusedVariables false

theorem rnum2_bad (s : RS) (h : (rnum 2 s).1.2 ≠ 0) : (rnum 2 s).2 = 0 := by
  have e : rnum 2 s = ((tk 2 s).1, be (tk 2 s).2) := rfl
  rw [e] at h ⊢
  have : (tk 2 s).2 = [] := by
    revert h
    unfold tk
    split
    · split
      · simp
      · simp
    · simp
  rw [this]
  rfl
theorem rfbytes_bad (m : Int) (s : RS) (h : (rnum 2 s).1.2 ≠ 0) : rbytes m s = ((rnum 2 s).1, []) := by
  unfold rbytes
  rw [rnum2_bad s h]
  split
  · unfold failS; rw [if_neg h]
  · unfold rraw tk
    rw [if_neg (by omega), if_neg h]
theorem rfbytes_big (m : Int) (s : RS) (h : (rnum 2 s).1.2 = 0) (hm : m < (rnum 2 s).2) : rbytes m s = (((rnum 2 s).1.1, 13), []) := by
  unfold rbytes
  rw [if_pos hm]
  unfold failS
  rw [if_pos h]
theorem rfbytes_ok (m : Int) (s : RS) (hm : (rnum 2 s).2 ≤ m) : rbytes m s = rraw (rnum 2 s).2 (rnum 2 s).1 := by
  unfold rbytes
  rw [if_neg (by omega)]

theorem Rec.err {w : World} {g : Nat} {l : List UInt8} {e : Int} (h : Rec w g (l, e)) (e' : Int) : Rec (w.setCell ⟨g, 1, none⟩ (.int .i64 e')) g (l, e') := by
  have := set0 h 1 (.int .i64 e')
  exact this
theorem err_keeps (w : World) (g : Nat) (b : Value) : Keeps (fun k => k = g) w (w.setCell ⟨g, 1, none⟩ b) := (Keeps.refl (fun k => k = g) w).setCell (p := ⟨g, 1, none⟩) (fun _ => rfl) b

set_option maxHeartbeats 1000000 in
theorem refReadBytes_any (m : Int) (s : RS) (w : World) (hl : s.1.length ≤ 100000000) (hm0 : -1000 ≤ m) (hm : m ≤ 1000) :
    Calls Try.prog 24 #[RV s, .int .i64 m] w (Said2 (RV (rbytes m s).1) (.string (strOf (rbytes m s).2)) w) := by
  have HN := fun (w : World) => refReadNum_any 2 s w hl
  have hx := rnum2_bd s
  have hll := rnum_left 2 s
  have q1 := rfbytes_bad m s
  have q2 := rfbytes_big m s
  have q3 := rfbytes_ok m s
  generalize rnum 2 s = p at *
  obtain ⟨⟨l1, e1⟩, x⟩ := p
  obtain ⟨l, e⟩ := s
  have hl1 : l1.length ≤ 100000000 := Nat.le_trans hll hl
  have hx0 : 0 ≤ x := hx.1
  have hx1 : x < 65536 := hx.2
  have HQ : Hid (∀ w, Calls Try.prog 20 #[.agg #[.string (strOf l), .int .i64 e], .int .i64 2] w (Said2 (.agg #[.string (strOf l1), .int .i64 e1]) (.int .u64 x) w)) := HN
  clear HN hx hll hl
  obtain ⟨⟨⟨l2, e2⟩, u⟩, hq⟩ : ∃ q, rbytes m (l, e) = q := ⟨_, rfl⟩
  rw [hq] at q1 q2 q3
  rw [hq]
  clear hq
  show Calls Try.prog 24 #[.agg #[.string (strOf l), .int .i64 e], .int .i64 m] w (Said2 (.agg #[.string (strOf l2), .int .i64 e2]) (.string (strOf u)) w)
  by_cases he : e1 = 0
  · subst he
    have hq2 := q2 rfl
    clear q1 q2
    by_cases hmx : m < x
    · have hq := hq2 hmx
      simp only [Prod.mk.injEq] at hq
      obtain ⟨⟨rfl, rfl⟩, rfl⟩ := hq
      clear hq2 q3
      have hc : m < 0 ∨ 0 ≤ m := by omega
      rcases hc with hc | hc
      all_goals
        go_enter Try.func24, Try.ntmps24
        go_wp2_with fail
        refine (HQ.out _).mono ?_
        rintro e3 w1 ⟨rfl, hb⟩
        have y0 : Rec w1 w.heap.size (l, e) := (hb.block _ (by simp; omega)).trans (heap_alloc2_old w _ _)
        have y1 : Rec w1 (w.heap.size + 1) ([], 0) := (hb.block _ (by simp)).trans (heap_alloc2_new w _ _)
        have kb : Below w.heap.size w w1 := Below.trans (by go_grown) (hb.mono (by simp; omega))
        have p0 := y0.put (l2, 0)
        have p1 := y1.keeps (put_keeps w1 w.heap.size (.string (strOf l2)) (.int .i64 0)) (by omega)
        have kp := kb.trans ((put_keeps w1 w.heap.size (.string (strOf l2)) (.int .i64 0)).below kb.size (fun k hk e => by omega))
        have r0 := p0.err 13
        have r1 := p1.keeps (err_keeps _ w.heap.size (.int .i64 13)) (by omega)
        have kr := kp.trans ((err_keeps ((w1.setCell ⟨w.heap.size, 0, none⟩ (.string (strOf l2))).setCell ⟨w.heap.size, 1, none⟩ (.int .i64 0)) w.heap.size (.int .i64 13)).below kp.size (fun k hk e => by omega))
        have c0 := y0.c0
        have c1 := y0.c1
        have f0 := y0.f0
        have f1 := y0.f1
        have c2 := p0.c1
        have f2 := p0.f1
        have c3 := r0.c0
        have c4 := r0.c1
        have d0 := r1.c0
        have d1 := r1.c1
        have g0 := r1.f0
        have g1 := r1.f1
        have R1 := Lib.hid r1
        have KR := Lib.hid kr
        clear hb y0 y1 kb p0 p1 kp r0 r1 kr
        go_wp2
        refine bodyPost_ret (results_cell_tmp rfl _ _ (w.heap.size + 1) 40 _ (0, 0) _ rfl (R1.out.put (l2, 13)) Try.underlying40 rfl size_R) rfl ?_
        exact ⟨rfl, KR.out.trans ((put_keeps _ _ _ _).below KR.out.size (fun k hk e => by omega))⟩
    · have hq := q3 (by omega)
      clear hq2 q3
      have HR := fun (w : World) => refRaw_any x (l1, 0) w hl1
      rw [← hq] at HR
      have HR2 : Hid (∀ w, Calls Try.prog 22 #[.agg #[.string (strOf l1), .int .i64 0], .int .i64 x] w (Said2 (.agg #[.string (strOf l2), .int .i64 e2]) (.string (strOf u)) w)) := HR
      have hm0' : 0 ≤ m := by omega
      have hxm : x ≤ m := by omega
      clear HR hq hm0 hmx
      go_enter Try.func24, Try.ntmps24
      go_wp2_with fail
      refine (HQ.out _).mono ?_
      rintro e3 w1 ⟨rfl, hb⟩
      have y0 : Rec w1 w.heap.size (l, e) := (hb.block _ (by simp; omega)).trans (heap_alloc2_old w _ _)
      have y1 : Rec w1 (w.heap.size + 1) ([], 0) := (hb.block _ (by simp)).trans (heap_alloc2_new w _ _)
      have kb : Below w.heap.size w w1 := Below.trans (by go_grown) (hb.mono (by simp; omega))
      have p0 := y0.put (l1, 0)
      have p1 := y1.keeps (put_keeps w1 w.heap.size (.string (strOf l1)) (.int .i64 0)) (by omega)
      have kp := kb.trans ((put_keeps w1 w.heap.size (.string (strOf l1)) (.int .i64 0)).below kb.size (fun k hk e => by omega))
      have c0 := y0.c0
      have c1 := y0.c1
      have f0 := y0.f0
      have f1 := y0.f1
      have c2 := p0.c0
      have c3 := p0.c1
      have P1 := Lib.hid p1
      have KP := Lib.hid kp
      clear hb y0 y1 kb p0 p1 kp
      go_wp2_with fail
      refine (HR2.out _).mono ?_
      rintro e3 w2 ⟨rfl, hb⟩
      have y1 : Rec w2 (w.heap.size + 1) ([], 0) := P1.out.below hb P1.out.lt
      have kb : Below w.heap.size w w2 := KP.out.trans (hb.mono KP.out.size)
      clear c0 c1 f0 f1 c2 c3 hb
      have c0 := y1.c0
      have c1 := y1.c1
      have f0 := y1.f0
      have f1 := y1.f1
      have Y1 := Lib.hid y1
      have KB := Lib.hid kb
      clear y1 kb
      go_wp2
      refine bodyPost_ret (results_cell_tmp rfl _ _ (w.heap.size + 1) 40 _ (0, 0) _ rfl (Y1.out.put (l2, e2)) Try.underlying40 rfl size_R) rfl ?_
      exact ⟨rfl, KB.out.trans ((put_keeps _ _ _ _).below KB.out.size (fun k hk e => by omega))⟩
  · have hq := q1 he
    simp only [Prod.mk.injEq] at hq
    obtain ⟨⟨rfl, rfl⟩, rfl⟩ := hq
    have hb : (e2 != 0) = true := by simpa using he
    clear q1 q2 q3 he
    go_enter Try.func24, Try.ntmps24
    go_wp2_with fail
    refine (HQ.out _).mono ?_
    rintro e3 w1 ⟨rfl, hb⟩
    have y0 : Rec w1 w.heap.size (l, e) := (hb.block _ (by simp; omega)).trans (heap_alloc2_old w _ _)
    have y1 : Rec w1 (w.heap.size + 1) ([], 0) := (hb.block _ (by simp)).trans (heap_alloc2_new w _ _)
    have kb : Below w.heap.size w w1 := Below.trans (by go_grown) (hb.mono (by simp; omega))
    have p0 := y0.put (l2, e2)
    have p1 := y1.keeps (put_keeps w1 w.heap.size (.string (strOf l2)) (.int .i64 e2)) (by omega)
    have kp := kb.trans ((put_keeps w1 w.heap.size (.string (strOf l2)) (.int .i64 e2)).below kb.size (fun k hk e => by omega))
    have c0 := y0.c0
    have c1 := y0.c1
    have f0 := y0.f0
    have f1 := y0.f1
    have c2 := p0.c0
    have c3 := p0.c1
    have d0 := p1.c0
    have d1 := p1.c1
    have g0 := p1.f0
    have g1 := p1.f1
    have P1 := Lib.hid p1
    have KP := Lib.hid kp
    clear hb y0 y1 kb p0 p1 kp
    go_wp2
    refine bodyPost_ret (results_cell_tmp rfl _ _ (w.heap.size + 1) 40 _ (0, 0) _ rfl (P1.out.put (l2, e2)) Try.underlying40 rfl size_R) rfl ?_
    exact ⟨rfl, KP.out.trans ((put_keeps _ _ _ _).below KP.out.size (fun k hk e => by omega))⟩

theorem refEnd_any (s : RS) (w : World) :
    Calls Try.prog 28 #[RV s] w fun e w' => e = .returned (.int .i64 (rend s)) ∧ Below w.heap.size w w' := by
  obtain ⟨l, e⟩ := s
  rw [RV_mk]
  by_cases he : e = 0
  · subst he
    cases l with
    | nil =>
      have fin : rend ([], 0) = 0 := rfl
      rw [fin]
      clear fin
      have hne : (strOf []).toList.isEmpty = true := by simp [strOf, ByteArray.toList_mk]
      go_enter Try.func28, Try.ntmps28
      go_wp2
      go_ret
      exact ⟨rfl, by go_grown⟩
    | cons c l =>
      have fin : rend (c :: l, 0) = 12 := by simp [rend]
      rw [fin]
      clear fin
      have hne : (strOf (c :: l)).toList.isEmpty = false := by simp [strOf, ByteArray.toList_mk]
      go_enter Try.func28, Try.ntmps28
      go_wp2
      go_ret
      exact ⟨rfl, by go_grown⟩
  · have fin : rend (l, e) = e := by simp [rend, he]
    rw [fin]
    have hb : (e == 0) = false := by simpa using he
    clear fin he
    go_enter Try.func28, Try.ntmps28
    go_wp2
    go_ret
    exact ⟨rfl, by go_grown⟩
end Go.Proofs.Ytgbdedkbkagndaa
