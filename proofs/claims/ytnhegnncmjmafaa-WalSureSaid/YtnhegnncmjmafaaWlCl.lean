/-
  A log is made sure of (wal's Sync).
  A log is compacted (wal's Compact).
  A record is appended (wal's Append): where there is room.
  A log's records; a log is opened on a disk that is good; a crash.
-/
import Derived.Test.YtnhegnncmjmafaaWlCa
import Derived.Test.YtnhegnncmjmafaaDkE
import Derived.Test.YtnhegnncmjmafaaWlPl
import Derived.Test.YtnhegnncmjmafaaDkG
import Derived.Test.YtnhegnncmjmafaaEqB
namespace Go.Proofs.Ytnhegnncmjmafaa
open Go.RowKit Go.BigFrame
set_option linter.unusedVariables false

section
variable {P : Program} {ops : Array Oper} {B : World → Prop} {ls : List Nat} {E : Act → World → Prop} {k : Nat} {o : Oper} {rest : List Nat} {a : Act} {F : World → Prop}
/-- A slice of several things is built. -/
theorem T_buildN (h0 : ops[k]? = some o) (hw : Region.wanted o (yielded ops a.tmps) = true) (hk : ls.contains k = true) (t e : TypeId) (n : Nat) (parts : List (Nat × Operand)) (ho : o.op = .buildSlice t n parts.toArray) (vs : List (Nat × Value)) (hx : parts.map (fun (i, x) => (i, a.eval x)) = vs) (C : List Value)
    (hrun : ∀ w, (Instr.buildSlice t n vs.toArray).run P w = .ok (.slice (some ⟨w.heap.size, 0, none⟩) n n) (w.alloc (.cells C.toArray e))) (hB : Lasts B) (hF : Lasts F) (n0 : Nat) (hn : ∀ w, B w → n0 ≤ w.heap.size)
    (h : ∀ g, n0 ≤ g → wpT P ops B ls E rest (a.put o.dst (.slice (some ⟨g, 0, none⟩) n n)) (fun w => F w ∧ Row w g e C)) : wpT P ops B ls E (k :: rest) a F := by
  refine T_loose h0 hw hk (fun v => ∃ g, n0 ≤ g ∧ v = .slice (some ⟨g, 0, none⟩) n n) (fun v w => F w ∧ ∀ g, v = .slice (some ⟨g, 0, none⟩) n n → Row w g e C) ⟨fun v => ?_, fun w hb hf => ?_⟩ ?_
  · exact hF.and (fun w w' hq hk g hv => (hq g hv).keeps hk id)
  · unfold execOp
    simp only [ho, Sem.run_bind, Sem.run_pure, Result.andThen_ok, List.map_toArray, hx, hrun]
    refine ⟨hB _ _ hb ((Keeps.refl _ _).alloc _), ⟨_, hn w hb, rfl⟩, hF _ _ hf ((Keeps.refl _ _).alloc _), fun g hv => ?_⟩
    injection hv with hv
    injection hv with hv
    injection hv with hv
    subst hv
    exact heap_alloc_new w _
  · rintro v ⟨g, hg, rfl⟩
    exact T_alloc.wpT_weak (fun w hh => ⟨hh.1, hh.2 g rfl⟩) (h g hg)
end
theorem run_mf (fn : Fn) (first cap : Array Value) (w : World) : (Instr.makeFunc fn first cap).run Try.prog w = .ok (.func fn first cap) w := rfl
theorem build_f4 (f1 f2 f3 f4 : FuncId) (b1 a1 b2 a2 b3 a3 b4 a4 : Array Value) (V : World) : (Instr.buildSlice 95 4 [(0, .func (.func f1) b1 a1), (1, .func (.func f2) b2 a2), (2, .func (.func f3) b3 a3), (3, .func (.func f4) b4 a4)].toArray).run Try.prog V = .ok (.slice (some ⟨V.heap.size, 0, none⟩) 4 4) (V.alloc (.cells [.func (.func f1) b1 a1, .func (.func f2) b2 a2, .func (.func f3) b3 a3, .func (.func f4) b4 a4].toArray 39)) := by kernel_rfl
set_option maxRecDepth 100000 in
set_option maxHeartbeats 4000000 in
/-- An error stays; nothing is to be done. -/
theorem wsync_not (w : World) (F : Nat → Prop) (p g : Nat) (l : Wl.St) (s : Dk.St) (h : Wal w F p g l s) (hx : l.err ≠ 0 ∨ (l.err = 0 ∧ l.sure = l.rows.length)) :
    Calls Try.prog 15 #[.pointer (some ⟨p, 0, none⟩)] w fun e w' => e = .returned (.int .i64 l.err) ∧ Wal w' F p g l s ∧ Keeps F w w' := by
  obtain ⟨b0, hb0⟩ : ∃ b, w.heap.size = b := ⟨_, rfl⟩
  obtain ⟨W1, hW1⟩ : ∃ V, w.alloc (.cells #[.pointer (some ⟨p, 0, none⟩)] 29) = V := ⟨_, rfl⟩
  have k1 : Keeps (fun _ => False) w W1 := by rw [← hW1]; exact (Keeps.refl _ _).alloc _
  have r1 : Row W1 b0 29 [.pointer (some ⟨p, 0, none⟩)] := by rw [← hW1, ← hb0]; exact heap_alloc_new w _
  have c1 : W1.cell? ⟨b0, 0, none⟩ = some (.pointer (some ⟨p, 0, none⟩)) := r1.cell 0
  have her := werr_any W1 F p g l (h.log.later k1)
  obtain ⟨A, c, hlog⟩ := (h.log.later k1)
  obtain ⟨er, he⟩ : ∃ e, l.err = e := ⟨_, rfl⟩
  obtain ⟨su, hsu⟩ : ∃ n, l.sure = n := ⟨_, rfl⟩
  obtain ⟨ro, hro⟩ : ∃ n, l.rows.length = n := ⟨_, rfl⟩
  rw [he] at her hx ⊢
  rw [hsu, hro] at hx
  have HER := Lib.hid her
  have FIN := Lib.hid (fun w' (k : Keeps (fun _ => False) w w') => wl_still h k)
  have HK1 := Lib.hid k1
  have HBX : Hid (∀ V, Later W1 V → V.cell? ⟨b0, 0, none⟩ = some (.pointer (some ⟨p, 0, none⟩))) := Lib.hid (fun V hV => (r1.keeps hV.out id).cell 0)
  have HP6 : Hid (∀ V, Later W1 V → V.cell? ⟨p, 6, none⟩ = some (.int .i64 (su : Int))) := Lib.hid (fun V hV => by rw [← hsu]; exact (hlog.row.keeps hV.out id).cell 6)
  have HP5 : Hid (∀ V, Later W1 V → V.cell? ⟨p, 5, none⟩ = some (.int .i64 (ro : Int))) := Lib.hid (fun V hV => by rw [← hro]; exact (hlog.row.keeps hV.out id).cell 5)
  clear her h k1 r1 he hsu hro hlog
  rcases hx with hne | ⟨rfl, rfl⟩
  · have hb : (er != 0) = true := by simpa using hne
    go_enter Try.func15, Try.ntmps15
    go_wp2_with fail
    refine HER.out.mono ?_
    rintro e wx ⟨rfl, hx⟩
    obtain rfl : W1 = wx := hx.symm
    go_wp2
    go_ret
    exact ⟨rfl, FIN.out _ HK1.out⟩
  · go_enter Try.func15, Try.ntmps15
    go_wp2_with fail
    refine HER.out.mono ?_
    rintro e wx ⟨rfl, hx⟩
    obtain rfl : W1 = wx := hx.symm
    go_wp2_with fail
    refine wp_region_class (Later W1) (by kernel_rfl) (by kernel_rfl) (⟨(Keeps.refl _ _).drew⟩) ?_
    refine class_cell (by rfl) 29 (.tmp 1) (by rfl) ⟨b0, 0, none⟩ (by rfl) (.pointer (some ⟨p, 0, none⟩)) _ (fun V hV => HBX.out V hV) Try.underlying29 rfl ?_
    simp only [Act.put, List.setIfInBounds_toArray, List.set_cons_zero, List.set_cons_succ]
    refine class_value (by rfl) (.pointer (some ⟨p, 0, none⟩)) (fun V hV => by go_simp) ?_
    simp only [Act.put, List.setIfInBounds_toArray, List.set_cons_zero, List.set_cons_succ]
    refine class_value (by rfl) (.pointer (some ⟨p, 6, none⟩)) (fun V hV => by go_simp) ?_
    simp only [Act.put, List.setIfInBounds_toArray, List.set_cons_zero, List.set_cons_succ]
    refine class_cell (by rfl) 3 (.tmp 12) (by rfl) ⟨p, 6, none⟩ (by rfl) (.int .i64 (su : Int)) _ (fun V hV => HP6.out V hV) Try.underlying3 rfl ?_
    simp only [Act.put, List.setIfInBounds_toArray, List.set_cons_zero, List.set_cons_succ]
    refine class_cell (by rfl) 29 (.tmp 1) (by rfl) ⟨b0, 0, none⟩ (by rfl) (.pointer (some ⟨p, 0, none⟩)) _ (fun V hV => HBX.out V hV) Try.underlying29 rfl ?_
    simp only [Act.put, List.setIfInBounds_toArray, List.set_cons_zero, List.set_cons_succ]
    refine class_value (by rfl) (.pointer (some ⟨p, 0, none⟩)) (fun V hV => by go_simp) ?_
    simp only [Act.put, List.setIfInBounds_toArray, List.set_cons_zero, List.set_cons_succ]
    refine class_value (by rfl) (.pointer (some ⟨p, 5, none⟩)) (fun V hV => by go_simp) ?_
    simp only [Act.put, List.setIfInBounds_toArray, List.set_cons_zero, List.set_cons_succ]
    refine class_cell (by rfl) 3 (.tmp 16) (by rfl) ⟨p, 5, none⟩ (by rfl) (.int .i64 (su : Int)) _ (fun V hV => HP5.out V hV) Try.underlying3 rfl ?_
    simp only [Act.put, List.setIfInBounds_toArray, List.set_cons_zero, List.set_cons_succ]
    refine class_value (by rfl) (.bool true) (fun V hV => by go_simp) ?_
    simp only [Act.put, List.setIfInBounds_toArray, List.set_cons_zero, List.set_cons_succ]
    refine wpQuiet_nil ?_
    intro V hV
    go_wp2
    go_ret
    exact ⟨rfl, FIN.out _ (HK1.out.trans hV.out)⟩
set_option maxRecDepth 100000 in
set_option maxHeartbeats 8000000 in
theorem wsync_goes (w : World) (F FD : Nat → Prop) (p g : Nat) (l : Wl.St) (s : Dk.St) (A : Option Addr) (c : Nat) (h : WalX w F FD p g l s A c) (he : l.err = 0) (hne : l.sure ≠ l.rows.length) (hl : s.loose.length ≤ 990) (ht : l.turn + 1 < 4611686018427387904) :
    Calls Try.prog 15 #[.pointer (some ⟨p, 0, none⟩)] w fun e w' => e = .returned (.int .i64 (Wl.sy l s).1) ∧ Wal w' F p g (Wl.sy l s).2.1 (Wl.sy l s).2.2 ∧ Keeps F w w' := by
  obtain ⟨b0, hb0⟩ : ∃ b, w.heap.size = b := ⟨_, rfl⟩
  obtain ⟨W1, hW1⟩ : ∃ V, w.alloc (.cells #[.pointer (some ⟨p, 0, none⟩)] 29) = V := ⟨_, rfl⟩
  have k1 : Keeps (fun _ => False) w W1 := by rw [← hW1]; exact (Keeps.refl _ _).alloc _
  have r1 : Row W1 b0 29 [.pointer (some ⟨p, 0, none⟩)] := by rw [← hW1, ← hb0]; exact heap_alloc_new w _
  have c1 : W1.cell? ⟨b0, 0, none⟩ = some (.pointer (some ⟨p, 0, none⟩)) := r1.cell 0
  have hlog := h.log.later k1
  have her := werr_any W1 _ p g l ⟨A, c, hlog⟩
  rw [he] at her
  obtain ⟨su, hsu⟩ : ∃ n, l.sure = n := ⟨_, rfl⟩
  obtain ⟨ro, hro⟩ : ∃ n, l.rows.length = n := ⟨_, rfl⟩
  obtain ⟨t, htt⟩ : ∃ n, l.turn = n := ⟨_, rfl⟩
  obtain ⟨t1, ht1⟩ : ∃ n, t + 1 = n := ⟨_, rfl⟩
  obtain ⟨ar, har⟩ : ∃ n, l.area = n := ⟨_, rfl⟩
  obtain ⟨nh, hnh⟩ : ∃ n, (Wl.hv l).length = n := ⟨_, rfl⟩
  have et : IntKind.u64.wrap ((t : Int) + 1) = (t1 : Int) := by rw [IntWalk.u64_in _ (by omega)]; omega
  have ht' := ht
  rw [htt] at ht'
  have HER := Lib.hid her
  have HK1 := Lib.hid k1
  have HX := Lib.hid h
  have HQ := Lib.hid (And.intro he (And.intro hne (And.intro hl (And.intro ht (And.intro htt (And.intro ht1 (And.intro har (And.intro hnh hb0))))))))
  have HR1 := Lib.hid r1
  have HBX : Hid (∀ V, Later W1 V → V.cell? ⟨b0, 0, none⟩ = some (.pointer (some ⟨p, 0, none⟩))) := Lib.hid (fun V hV => (r1.keeps hV.out id).cell 0)
  have HP0 : Hid (∀ V, Later W1 V → V.cell? ⟨p, 0, none⟩ = some (.pointer (some ⟨g, 0, none⟩))) := Lib.hid (fun V hV => (hlog.row.keeps hV.out id).cell 0)
  have HP2 : Hid (∀ V, Later W1 V → V.cell? ⟨p, 2, none⟩ = some (.int .u64 (t : Int))) := Lib.hid (fun V hV => by rw [← htt]; exact (hlog.row.keeps hV.out id).cell 2)
  have HP3 : Hid (∀ V, Later W1 V → V.cell? ⟨p, 3, none⟩ = some (.int .i64 (ar : Int))) := Lib.hid (fun V hV => by rw [← har]; exact (hlog.row.keeps hV.out id).cell 3)
  have HP4 : Hid (∀ V, Later W1 V → V.cell? ⟨p, 4, none⟩ = some (.slice A nh c)) := Lib.hid (fun V hV => by rw [← hnh]; exact (hlog.row.keeps hV.out id).cell 4)
  have HP6 : Hid (∀ V, Later W1 V → V.cell? ⟨p, 6, none⟩ = some (.int .i64 (su : Int))) := Lib.hid (fun V hV => by rw [← hsu]; exact (hlog.row.keeps hV.out id).cell 6)
  have HP5 : Hid (∀ V, Later W1 V → V.cell? ⟨p, 5, none⟩ = some (.int .i64 (ro : Int))) := Lib.hid (fun V hV => by rw [← hro]; exact (hlog.row.keeps hV.out id).cell 5)
  have HAS : Hid (∀ W : World, (Instr.alloc 64 true (.tuple #[])).run Try.prog W = .ok (.pointer (some ⟨W.heap.size, 0, none⟩)) (W.alloc (.cells (scells 0 0 0).toArray 64))) := Lib.hid (fun W => by kernel_rfl)
  have HDEC : Hid ((su : Int) ≠ (ro : Int)) := Lib.hid (by rw [hsu, hro] at hne; omega)
  clear her h k1 r1 he hne hl ht htt har hnh hsu hro hlog ht1 ht'
  go_enter Try.func15, Try.ntmps15
  go_wp2_with fail
  refine HER.out.mono ?_
  rintro e wx ⟨rfl, hx⟩
  obtain rfl : W1 = wx := hx.symm
  go_wp2_with fail
  refine wp_region_class (Later W1) (by kernel_rfl) (by kernel_rfl) (⟨(Keeps.refl _ _).drew⟩) ?_
  refine class_cell (by rfl) 29 (.tmp 1) (by rfl) ⟨b0, 0, none⟩ (by rfl) (.pointer (some ⟨p, 0, none⟩)) _ (fun V hV => HBX.out V hV) Try.underlying29 rfl ?_
  simp only [Act.put, List.setIfInBounds_toArray, List.set_cons_zero, List.set_cons_succ]
  refine class_value (by rfl) (.pointer (some ⟨p, 0, none⟩)) (fun V hV => by go_simp) ?_
  simp only [Act.put, List.setIfInBounds_toArray, List.set_cons_zero, List.set_cons_succ]
  refine class_value (by rfl) (.pointer (some ⟨p, 6, none⟩)) (fun V hV => by go_simp) ?_
  simp only [Act.put, List.setIfInBounds_toArray, List.set_cons_zero, List.set_cons_succ]
  refine class_cell (by rfl) 3 (.tmp 12) (by rfl) ⟨p, 6, none⟩ (by rfl) (.int .i64 (su : Int)) _ (fun V hV => HP6.out V hV) Try.underlying3 rfl ?_
  simp only [Act.put, List.setIfInBounds_toArray, List.set_cons_zero, List.set_cons_succ]
  refine class_cell (by rfl) 29 (.tmp 1) (by rfl) ⟨b0, 0, none⟩ (by rfl) (.pointer (some ⟨p, 0, none⟩)) _ (fun V hV => HBX.out V hV) Try.underlying29 rfl ?_
  simp only [Act.put, List.setIfInBounds_toArray, List.set_cons_zero, List.set_cons_succ]
  refine class_value (by rfl) (.pointer (some ⟨p, 0, none⟩)) (fun V hV => by go_simp) ?_
  simp only [Act.put, List.setIfInBounds_toArray, List.set_cons_zero, List.set_cons_succ]
  refine class_value (by rfl) (.pointer (some ⟨p, 5, none⟩)) (fun V hV => by go_simp) ?_
  simp only [Act.put, List.setIfInBounds_toArray, List.set_cons_zero, List.set_cons_succ]
  refine class_cell (by rfl) 3 (.tmp 16) (by rfl) ⟨p, 5, none⟩ (by rfl) (.int .i64 (ro : Int)) _ (fun V hV => HP5.out V hV) Try.underlying3 rfl ?_
  simp only [Act.put, List.setIfInBounds_toArray, List.set_cons_zero, List.set_cons_succ]
  refine class_value (by rfl) (.bool false) (fun V hV => by have hd := HDEC.out; go_simp) ?_
  simp only [Act.put, List.setIfInBounds_toArray, List.set_cons_zero, List.set_cons_succ]
  refine wpQuiet_nil ?_
  intro V4 hV4
  obtain ⟨W4, hW4⟩ : ∃ W, V4 = W := ⟨_, rfl⟩
  rw [hW4] at hV4 ⊢
  have HV4 := Lib.hid hV4
  clear c1 hV4 HDEC
  go_wp2_with fail
  refine wp_region_stores 17 [15, 16] [0, 1, 2, 3, 4, 5, 6, 7, 8, 9, 10, 11, 12, 13, 14, 15, 16] (Later W1) (fun _ => True) (by kernel_rfl) (by kernel_rfl) (Lasts.later _) (Lasts.true) (⟨HV4.out.out.drew⟩) (trivial) ?_
  refine T_cell (get_op rfl) (by rfl) (by rfl) 29 (.tmp 1) (by rfl) ⟨b0, 0, none⟩ (by rfl) (.pointer (some ⟨p, 0, none⟩)) _ (fun V hV => HBX.out V hV) Try.underlying29 rfl ?_
  simp only [Act.put, List.setIfInBounds_toArray, List.set_cons_zero, List.set_cons_succ]
  refine T_value (get_op rfl) (by rfl) (by rfl) (.pointer (some ⟨p, 0, none⟩)) (fun _ _ => by go_simp) ?_
  simp only [Act.put, List.setIfInBounds_toArray, List.set_cons_zero, List.set_cons_succ]
  refine T_value (get_op rfl) (by rfl) (by rfl) (.pointer (some ⟨p, 2, none⟩)) (fun _ _ => by go_simp) ?_
  simp only [Act.put, List.setIfInBounds_toArray, List.set_cons_zero, List.set_cons_succ]
  refine T_cell (get_op rfl) (by rfl) (by rfl) 60 (.tmp 21) (by rfl) ⟨p, 2, none⟩ (by rfl) (.int .u64 (t : Int)) _ (fun V hV => HP2.out V hV) Try.underlying60 rfl ?_
  simp only [Act.put, List.setIfInBounds_toArray, List.set_cons_zero, List.set_cons_succ]
  refine T_value (get_op rfl) (by rfl) (by rfl) (.int .u64 (t1 : Int)) (fun _ _ => by go_simp) ?_
  simp only [Act.put, List.setIfInBounds_toArray, List.set_cons_zero, List.set_cons_succ]
  refine T_cell (get_op rfl) (by rfl) (by rfl) 29 (.tmp 1) (by rfl) ⟨b0, 0, none⟩ (by rfl) (.pointer (some ⟨p, 0, none⟩)) _ (fun V hV => HBX.out V hV) Try.underlying29 rfl ?_
  simp only [Act.put, List.setIfInBounds_toArray, List.set_cons_zero, List.set_cons_succ]
  refine T_value (get_op rfl) (by rfl) (by rfl) (.pointer (some ⟨p, 0, none⟩)) (fun _ _ => by go_simp) ?_
  simp only [Act.put, List.setIfInBounds_toArray, List.set_cons_zero, List.set_cons_succ]
  refine T_value (get_op rfl) (by rfl) (by rfl) (.pointer (some ⟨p, 3, none⟩)) (fun _ _ => by go_simp) ?_
  simp only [Act.put, List.setIfInBounds_toArray, List.set_cons_zero, List.set_cons_succ]
  refine T_cell (get_op rfl) (by rfl) (by rfl) 3 (.tmp 26) (by rfl) ⟨p, 3, none⟩ (by rfl) (.int .i64 (ar : Int)) _ (fun V hV => HP3.out V hV) Try.underlying3 rfl ?_
  simp only [Act.put, List.setIfInBounds_toArray, List.set_cons_zero, List.set_cons_succ]
  refine T_cell (get_op rfl) (by rfl) (by rfl) 29 (.tmp 1) (by rfl) ⟨b0, 0, none⟩ (by rfl) (.pointer (some ⟨p, 0, none⟩)) _ (fun V hV => HBX.out V hV) Try.underlying29 rfl ?_
  simp only [Act.put, List.setIfInBounds_toArray, List.set_cons_zero, List.set_cons_succ]
  refine T_value (get_op rfl) (by rfl) (by rfl) (.pointer (some ⟨p, 0, none⟩)) (fun _ _ => by go_simp) ?_
  simp only [Act.put, List.setIfInBounds_toArray, List.set_cons_zero, List.set_cons_succ]
  refine T_value (get_op rfl) (by rfl) (by rfl) (.pointer (some ⟨p, 4, none⟩)) (fun _ _ => by go_simp) ?_
  simp only [Act.put, List.setIfInBounds_toArray, List.set_cons_zero, List.set_cons_succ]
  refine T_cell (get_op rfl) (by rfl) (by rfl) 33 (.tmp 30) (by rfl) ⟨p, 4, none⟩ (by rfl) (.slice A nh c) _ (fun V hV => HP4.out V hV) Try.underlying33 rfl ?_
  simp only [Act.put, List.setIfInBounds_toArray, List.set_cons_zero, List.set_cons_succ]
  refine T_value (get_op rfl) (by rfl) (by rfl) (.int .i64 (nh : Int)) (fun _ _ => by go_simp) ?_
  simp only [Act.put, List.setIfInBounds_toArray, List.set_cons_zero, List.set_cons_succ]
  refine T_made (get_op rfl) (by rfl) (by rfl) 64 [(0, .tmp 23), (1, .tmp 27), (2, .tmp 32)] (by rfl) [(0, .int .u64 (t1 : Int)), (1, .int .i64 (ar : Int)), (2, .int .i64 (nh : Int))] (by rfl) (.agg (scells t1 ar nh).toArray) (fun V => build_super _ _ _ V) ?_
  simp only [Act.put, List.setIfInBounds_toArray, List.set_cons_zero, List.set_cons_succ]
  refine T_alloc (get_op rfl) (by rfl) (by rfl) 64 (scells 0 0 0).toArray (by rfl) HAS.out (Lasts.later _) Lasts.true W1.heap.size (fun V hV => hV.out.size) ?_
  intro g4 hg4
  simp only [Act.put, List.setIfInBounds_toArray, List.set_cons_zero, List.set_cons_succ]
  refine T_store (get_op rfl) (by rfl) (by rfl) 64 (.tmp 4) (.tmp 33) (by rfl) (by rfl) g4 (by rfl) (scells t1 ar nh).toArray (scells 0 0 0).toArray (by rfl) 64 size_super rfl (scells_all t1 ar nh) (fun V => Row V g4 64 (scells t1 ar nh)) (Lasts.block _ _) (fun V hb hf => ⟨hf.2, ⟨hb.out.trans' (Keeps.setRow _ _) (fun i hi e => by omega)⟩, setRow_heap _ _ _ _ _ _ hf.2⟩) ?_
  refine T_nil ?_
  intro V6 k6 f6
  obtain ⟨W6, hW6⟩ : ∃ W, V6 = W := ⟨_, rfl⟩
  rw [hW6] at k6 f6 ⊢
  have HK6 := Lib.hid k6.out
  have HR6 := Lib.hid f6
  clear k6 f6
  simp only [List.drop_succ_cons, List.drop_zero]
  go_wp2_with fail
  refine wp_region_stores 14 [13] [0, 1, 2, 3, 4, 5, 6, 7, 8, 9, 10, 11, 12, 13] (Later W1) (fun V => Row V g4 64 (scells t1 ar nh)) (by kernel_rfl) (by kernel_rfl) (Lasts.later _) (Lasts.block _ _) (⟨HK6.out.drew⟩) (HR6.out) ?_
  refine T_cell (get_op rfl) (by rfl) (by rfl) 29 (.tmp 1) (by rfl) ⟨b0, 0, none⟩ (by rfl) (.pointer (some ⟨p, 0, none⟩)) _ (fun V hV => HBX.out V hV) Try.underlying29 rfl ?_
  simp only [Act.put, List.setIfInBounds_toArray, List.set_cons_zero, List.set_cons_succ]
  refine T_cell (get_op rfl) (by rfl) (by rfl) 29 (.tmp 1) (by rfl) ⟨b0, 0, none⟩ (by rfl) (.pointer (some ⟨p, 0, none⟩)) _ (fun V hV => HBX.out V hV) Try.underlying29 rfl ?_
  simp only [Act.put, List.setIfInBounds_toArray, List.set_cons_zero, List.set_cons_succ]
  refine T_value (get_op rfl) (by rfl) (by rfl) (.pointer (some ⟨p, 0, none⟩)) (fun _ _ => by go_simp) ?_
  simp only [Act.put, List.setIfInBounds_toArray, List.set_cons_zero, List.set_cons_succ]
  refine T_value (get_op rfl) (by rfl) (by rfl) (.pointer (some ⟨p, 0, none⟩)) (fun _ _ => by go_simp) ?_
  simp only [Act.put, List.setIfInBounds_toArray, List.set_cons_zero, List.set_cons_succ]
  refine T_cell (get_op rfl) (by rfl) (by rfl) 25 (.tmp 37) (by rfl) ⟨p, 0, none⟩ (by rfl) (.pointer (some ⟨g, 0, none⟩)) _ (fun V hV => HP0.out V hV) Try.underlying25 rfl ?_
  simp only [Act.put, List.setIfInBounds_toArray, List.set_cons_zero, List.set_cons_succ]
  refine T_value (get_op rfl) (by rfl) (by rfl) (.func (.func 35) #[(.pointer (some ⟨g, 0, none⟩))] #[]) (fun _ _ => by have hmf := @run_mf; go_simp) ?_
  simp only [Act.put, List.setIfInBounds_toArray, List.set_cons_zero, List.set_cons_succ]
  refine T_value (get_op rfl) (by rfl) (by rfl) (.func (.func 36) #[] #[(.pointer (some ⟨b0, 0, none⟩)), (.pointer (some ⟨g4, 0, none⟩))]) (fun _ _ => by have hmf := @run_mf; go_simp) ?_
  simp only [Act.put, List.setIfInBounds_toArray, List.set_cons_zero, List.set_cons_succ]
  refine T_cell (get_op rfl) (by rfl) (by rfl) 29 (.tmp 1) (by rfl) ⟨b0, 0, none⟩ (by rfl) (.pointer (some ⟨p, 0, none⟩)) _ (fun V hV => HBX.out V hV) Try.underlying29 rfl ?_
  simp only [Act.put, List.setIfInBounds_toArray, List.set_cons_zero, List.set_cons_succ]
  refine T_value (get_op rfl) (by rfl) (by rfl) (.pointer (some ⟨p, 0, none⟩)) (fun _ _ => by go_simp) ?_
  simp only [Act.put, List.setIfInBounds_toArray, List.set_cons_zero, List.set_cons_succ]
  refine T_value (get_op rfl) (by rfl) (by rfl) (.pointer (some ⟨p, 0, none⟩)) (fun _ _ => by go_simp) ?_
  simp only [Act.put, List.setIfInBounds_toArray, List.set_cons_zero, List.set_cons_succ]
  refine T_cell (get_op rfl) (by rfl) (by rfl) 25 (.tmp 43) (by rfl) ⟨p, 0, none⟩ (by rfl) (.pointer (some ⟨g, 0, none⟩)) _ (fun V hV => HP0.out V hV) Try.underlying25 rfl ?_
  simp only [Act.put, List.setIfInBounds_toArray, List.set_cons_zero, List.set_cons_succ]
  refine T_value (get_op rfl) (by rfl) (by rfl) (.func (.func 35) #[(.pointer (some ⟨g, 0, none⟩))] #[]) (fun _ _ => by have hmf := @run_mf; go_simp) ?_
  simp only [Act.put, List.setIfInBounds_toArray, List.set_cons_zero, List.set_cons_succ]
  refine T_value (get_op rfl) (by rfl) (by rfl) (.func (.func 40) #[] #[(.pointer (some ⟨g4, 0, none⟩)), (.pointer (some ⟨b0, 0, none⟩))]) (fun _ _ => by have hmf := @run_mf; go_simp) ?_
  simp only [Act.put, List.setIfInBounds_toArray, List.set_cons_zero, List.set_cons_succ]
  refine T_buildN (get_op rfl) (by rfl) (by rfl) 95 39 4 [(0, .tmp 39), (1, .tmp 40), (2, .tmp 45), (3, .tmp 46)] (by rfl) [(0, (.func (.func 35) #[(.pointer (some ⟨g, 0, none⟩))] #[])), (1, (.func (.func 36) #[] #[(.pointer (some ⟨b0, 0, none⟩)), (.pointer (some ⟨g4, 0, none⟩))])), (2, (.func (.func 35) #[(.pointer (some ⟨g, 0, none⟩))] #[])), (3, (.func (.func 40) #[] #[(.pointer (some ⟨g4, 0, none⟩)), (.pointer (some ⟨b0, 0, none⟩))]))] (by rfl) [(.func (.func 35) #[(.pointer (some ⟨g, 0, none⟩))] #[]), (.func (.func 36) #[] #[(.pointer (some ⟨b0, 0, none⟩)), (.pointer (some ⟨g4, 0, none⟩))]), (.func (.func 35) #[(.pointer (some ⟨g, 0, none⟩))] #[]), (.func (.func 40) #[] #[(.pointer (some ⟨g4, 0, none⟩)), (.pointer (some ⟨b0, 0, none⟩))])] (fun V => build_f4 _ _ _ _ _ _ _ _ _ _ _ _ V) (Lasts.later _) (Lasts.block _ _) W1.heap.size (fun V hV => hV.out.size) ?_
  intro X hX
  simp only [Act.put, List.setIfInBounds_toArray, List.set_cons_zero, List.set_cons_succ]
  refine T_nil ?_
  intro V9 k9 f9
  have HEND : Hid (Calls Try.prog 31 #[.pointer (some ⟨p, 0, none⟩), .slice (some ⟨X, 0, none⟩) 4 4] V9 fun e w' => e = .returned (.int .i64 (Wl.sy l s).1) ∧ Wal w' F p g (Wl.sy l s).2.1 (Wl.sy l s).2.2 ∧ Keeps F w w') := Lib.hid (by
    obtain ⟨q1, q2, q3, q4, q5, q6, q7, q8, q9⟩ := HQ.out
    have s1 := HK1.out.size
    have s2 := HR1.out.lt
    refine sy_steps w V9 F FD p g l s A c HX.out q1 q2 q3 q4 (HK1.out.trans k9.out) b0 g4 X (by omega) (by omega) (by omega) (HR1.out.keeps k9.out id) ?_ f9.2
    rw [q5, q6, q7, q8]
    exact f9.1)
  clear k9 f9
  simp only [List.drop_succ_cons, List.drop_zero]
  go_wp2_with fail
  refine HEND.out.mono ?_
  rintro e w' ⟨rfl, h1, h2⟩
  have HZ := Lib.hid (And.intro h1 h2)
  clear h1 h2
  go_wp2_with fail
  go_ret
  exact ⟨rfl, HZ.out.1, HZ.out.2⟩
theorem wsync_any (w : World) (F : Nat → Prop) (p g : Nat) (l : Wl.St) (s : Dk.St) (h : Wal w F p g l s) (hl : s.loose.length ≤ 990) (ht : l.turn + 1 < 4611686018427387904) :
    Calls Try.prog 15 #[.pointer (some ⟨p, 0, none⟩)] w fun e w' => e = .returned (.int .i64 (Wl.sy l s).1) ∧ Wal w' F p g (Wl.sy l s).2.1 (Wl.sy l s).2.2 ∧ Keeps F w w' := by
  by_cases he : l.err = 0
  · by_cases hs : l.sure = l.rows.length
    · have e : Wl.sy l s = (l.err, l, s) := by unfold Wl.sy; rw [if_neg (by simpa using he), if_pos hs, he]
      rw [e]
      exact wsync_not w F p g l s h (.inr ⟨he, hs⟩)
    · obtain ⟨FD, A, c, hx⟩ := h
      exact wsync_goes w F FD p g l s A c hx he hs hl ht
  · have e : Wl.sy l s = (l.err, l, s) := by unfold Wl.sy; rw [if_pos (by simpa using he)]
    rw [e]
    exact wsync_not w F p g l s h (.inl he)
end Go.Proofs.Ytnhegnncmjmafaa
namespace Go.Proofs.Ytnhegnncmjmafaa
open Go.RowKit Go.BigFrame
set_option linter.unusedVariables false

theorem build_f5 (f1 f2 f3 f4 f5 : FuncId) (b1 a1 b2 a2 b3 a3 b4 a4 b5 a5 : Array Value) (V : World) : (Instr.buildSlice 95 5 [(0, .func (.func f1) b1 a1), (1, .func (.func f2) b2 a2), (2, .func (.func f3) b3 a3), (3, .func (.func f4) b4 a4), (4, .func (.func f5) b5 a5)].toArray).run Try.prog V = .ok (.slice (some ⟨V.heap.size, 0, none⟩) 5 5) (V.alloc (.cells [.func (.func f1) b1 a1, .func (.func f2) b2 a2, .func (.func f3) b3 a3, .func (.func f4) b4 a4, .func (.func f5) b5 a5].toArray 39)) := by kernel_rfl
theorem frames_take (rs : List RowOf) (i : Nat) (r : RowOf) (h : rs[i]? = some r) : (Wl.frames (bsOf (rs.take (i + 1)))).length = (Wl.frames (bsOf (rs.take i))).length + (8 + r.2.2.length) := by
  have hi := (List.getElem?_eq_some_iff.1 h).1
  rw [List.take_succ_eq_append_getElem hi, (List.getElem?_eq_some_iff.1 h).2]
  unfold bsOf
  rw [List.map_append, Wl.frames_append, List.length_append]
  show _ + (Wl.frames [r.2.2]).length = _
  rw [Wl.frames_one, Wl.frame_length]
set_option maxRecDepth 100000 in
set_option maxHeartbeats 8000000 in
theorem wcompact_any (w : World) (F : Nat → Prop) (p g : Nat) (l : Wl.St) (s : Dk.St) (h : Wal w F p g l s) (Ar : Option Addr) (cr : Nat) (rs : List RowOf) (hR : RowsAt w Ar rs) (hN : rs.length ≤ 100000) (hl : s.loose.length + l.k ≤ 900) (ht : l.turn + 1 < 4611686018427387904) :
    Calls Try.prog 17 #[.pointer (some ⟨p, 0, none⟩), .slice Ar rs.length cr] w fun e w' => e = .returned (.int .i64 (Wl.cp l s (bsOf rs)).1) ∧ Wal w' F p g (Wl.cp l s (bsOf rs)).2.1 (Wl.cp l s (bsOf rs)).2.2 ∧ Keeps F w w' := by
  obtain ⟨FD, A, c, hx⟩ := h
  obtain ⟨N, hNN⟩ : ∃ N, rs.length = N := ⟨_, rfl⟩
  obtain ⟨b0, hb0⟩ : ∃ b, w.heap.size = b := ⟨_, rfl⟩
  obtain ⟨W1, hW1⟩ : ∃ V, w.alloc (.cells #[.pointer (some ⟨p, 0, none⟩)] 29) = V := ⟨_, rfl⟩
  obtain ⟨b1, hb1⟩ : ∃ b, W1.heap.size = b := ⟨_, rfl⟩
  obtain ⟨W2, hW2⟩ : ∃ V, W1.alloc (.cells #[.slice Ar N cr] 23) = V := ⟨_, rfl⟩
  have k1 : Keeps (fun _ => False) w W1 := by rw [← hW1]; exact (Keeps.refl _ _).alloc _
  have k2 : Keeps (fun _ => False) W1 W2 := by rw [← hW2]; exact (Keeps.refl _ _).alloc _
  have k12 := k1.trans k2
  have r0 : Row W2 b0 29 [.pointer (some ⟨p, 0, none⟩)] := Row.keeps (by rw [← hW1, ← hb0]; exact heap_alloc_new w _) k2 id
  have r1 : Row W2 b1 23 [.slice Ar N cr] := by rw [← hW2, ← hb1]; exact heap_alloc_new W1 _
  have hlog := hx.log.later k12
  have her := fun V (hV : Later W2 V) => werr_any V _ p g l ⟨A, c, hlog.later hV.out⟩
  obtain ⟨er, he⟩ : ∃ e, l.err = e := ⟨_, rfl⟩
  rw [he] at her
  have HER := Lib.hid her
  have HST : Hid (∀ x V, Later W2 V → Wl.cp l s (bsOf rs) = (x, l, s) → (Value.int IntKind.i64 x = .int .i64 (Wl.cp l s (bsOf rs)).1 ∧ Wal V F p g (Wl.cp l s (bsOf rs)).2.1 (Wl.cp l s (bsOf rs)).2.2 ∧ Keeps F w V)) := Lib.hid (fun x V hV e => by rw [e]; exact ⟨rfl, wl_still ⟨FD, A, c, hx⟩ (k12.trans hV.out)⟩)
  have c0 : W2.cell? ⟨b0, 0, none⟩ = some (.pointer (some ⟨p, 0, none⟩)) := r0.cell 0
  have c1 : W2.cell? ⟨b1, 0, none⟩ = some (.slice Ar N cr) := r1.cell 0
  by_cases hne : er = 0
  · subst hne
    obtain ⟨t, htt⟩ : ∃ n, l.turn = n := ⟨_, rfl⟩
    obtain ⟨t1, ht1⟩ : ∃ n, t + 1 = n := ⟨_, rfl⟩
    obtain ⟨ar, har⟩ : ∃ n, l.area = n := ⟨_, rfl⟩
    obtain ⟨ar1, har1⟩ : ∃ n, 1 - ar = n := ⟨_, rfl⟩
    obtain ⟨kk, hkk⟩ : ∃ n, 256 * l.k = n := ⟨_, rfl⟩
    have hok := hx.log.ok
    have hk2 := hok.k2
    have ha2 := hok.area
    have ht' := ht
    rw [htt] at ht'
    have et : IntKind.u64.wrap ((t : Int) + 1) = (t1 : Int) := by rw [IntWalk.u64_in _ (by omega)]; omega
    have ea : IntKind.i64.wrap (1 - (ar : Int)) = (ar1 : Int) := by rw [IntWalk.i64_in _ (by omega)]; omega
    have HBX : Hid (∀ V, Later W2 V → V.cell? ⟨b0, 0, none⟩ = some (.pointer (some ⟨p, 0, none⟩))) := Lib.hid (fun V hV => (r0.keeps hV.out id).cell 0)
    have HB1 : Hid (∀ V, Later W2 V → V.cell? ⟨b1, 0, none⟩ = some (.slice Ar N cr)) := Lib.hid (fun V hV => (r1.keeps hV.out id).cell 0)
    have HP0 : Hid (∀ V, Later W2 V → V.cell? ⟨p, 0, none⟩ = some (.pointer (some ⟨g, 0, none⟩))) := Lib.hid (fun V hV => (hlog.row.keeps hV.out id).cell 0)
    have HP2 : Hid (∀ V, Later W2 V → V.cell? ⟨p, 2, none⟩ = some (.int .u64 (t : Int))) := Lib.hid (fun V hV => by rw [← htt]; exact (hlog.row.keeps hV.out id).cell 2)
    have HP3 : Hid (∀ V, Later W2 V → V.cell? ⟨p, 3, none⟩ = some (.int .i64 (ar : Int))) := Lib.hid (fun V hV => by rw [← har]; exact (hlog.row.keeps hV.out id).cell 3)
    have HRC : Hid (∀ V i r, Later W2 V → rs[i]? = some r → ∃ ad, Ar = some ad ∧ V.cell? (ad.add i) = some (.slice r.1 r.2.2.length r.2.1)) := Lib.hid (fun V i r hV hr => (hR.keeps (k12.trans hV.out) (fun _ _ => id)).cell i r hr)
    have HRM : Hid (∀ V, Later W2 V → Calls Try.prog 41 #[.pointer (some ⟨p, 0, none⟩)] V fun e w' => e = .returned (.int .i64 (kk : Int)) ∧ w' = V) := Lib.hid (fun V hV => by rw [← hkk]; exact wroom_any V p _ l.k _ (hlog.row.keeps hV.out id) hk2)
    have HFRM : Hid (∀ V n, Later W2 V → (Wl.frames (bsOf rs)).length = n → n ≤ 90000000 → Calls Try.prog 30 #[.slice Ar N cr] V (Cloned (Wl.frames (bsOf rs)) V)) := Lib.hid (fun V n hV hn hle => by rw [← hNN]; exact framed_any Ar cr rs V (hR.keeps (k12.trans hV.out) (fun _ _ => id)) (by rw [hn]; exact hle))
    have HAS : Hid (∀ W : World, (Instr.alloc 64 true (.tuple #[])).run Try.prog W = .ok (.pointer (some ⟨W.heap.size, 0, none⟩)) (W.alloc (.cells (scells 0 0 0).toArray 64))) := Lib.hid (fun W => by kernel_rfl)
    have H0 := Lib.hid (And.intro r0 (And.intro r1 (And.intro k12 (And.intro hb0 hb1))))
    have HQ := Lib.hid (And.intro he (And.intro hl (And.intro ht (And.intro htt (And.intro ht1 (And.intro har (And.intro har1 hkk)))))))
    have HX := Lib.hid hx
    have HN := Lib.hid hNN
    have HE2 := Lib.hid (HER.out W2 ⟨Keeps.refl _ _⟩)
    rw [hNN] at hN ⊢
    clear her k1 k2 k12 r0 r1 hlog hx hR hNN he hl ht ht1 har har1 hkk ht' htt
    go_enter Try.func17, Try.ntmps17
    go_wp2_with fail
    refine HE2.out.mono ?_
    rintro e wx ⟨rfl, hx⟩
    obtain rfl : W2 = wx := hx.symm
    clear HE2 HER
    go_wp2_with fail
    go_loopw [6, 8, 18] (fun sz _ iv ww => ∃ (i z : Nat), i ≤ N ∧ z ≤ 16392 * i ∧ iv = .int .i64 (i : Int) ∧ sz = .int .i64 (z : Int) ∧ Hid ((Wl.frames (bsOf (rs.take i))).length = z) ∧ Hid (∀ r ∈ rs.take i, r.2.2.length ≤ 16384) ∧ Hid (Later W2 ww)) (fun _ _ iv _ => N - (intOf iv).toNat)
    case atStart => exact ⟨0, 0, by omega, by omega, rfl, rfl, Lib.hid (by simp [bsOf, Wl.frames]), Lib.hid (by simp), Lib.hid ⟨Keeps.refl _ _⟩⟩
    case round =>
      obtain ⟨i, z, hi, hz, rfl, rfl, HZ, HSM, HV⟩ := hrel
      by_cases hlt : i < N
      · have hii : (i : Int) < (N : Int) := by omega
        obtain ⟨r, hr⟩ : ∃ r, rs[i]? = some r := ⟨_, List.getElem?_eq_getElem (by rw [HN.out]; exact hlt)⟩
        obtain ⟨ad, rfl, hc⟩ := HRC.out wr i r HV.out hr
        have hfr := frames_take rs i r hr
        have htk : rs.take (i + 1) = rs.take i ++ [r] := by rw [List.take_succ_eq_append_getElem (by rw [HN.out]; exact hlt), (List.getElem?_eq_some_iff.1 hr).2]
        obtain ⟨A8, c8, xs⟩ := r
        simp only at hc hfr
        obtain ⟨m, hm⟩ : ∃ m, xs.length = m := ⟨_, rfl⟩
        rw [hm] at hc hfr
        rw [HZ.out] at hfr
        by_cases hbig : 16384 < m
        · have hbi : (16384 : Int) < (m : Int) := by omega
          have HFIN := Lib.hid (HST.out 13 wr HV.out (by
            unfold Wl.cp
            rw [if_neg (by rw [HQ.out.1]; exact fun h => h rfl), if_pos ⟨xs, List.mem_map.2 ⟨_, List.mem_of_getElem? hr, rfl⟩, by omega⟩]))
          clear hfr htk hr
          go_wp2_with fail
          go_ret
          exact ⟨congrArg _ HFIN.out.1, HFIN.out.2⟩
        · have hbi : ¬ (16384 : Int) < (m : Int) := by omega
          have hfs := wsize_any wr A8 m c8 (by omega)
          obtain ⟨q, hq⟩ : ∃ q, 8 + m = q := ⟨_, rfl⟩
          rw [hq] at hfs hfr
          have eq1 : IntKind.i64.wrap ((z : Int) + (q : Int)) = ((z + q : Nat) : Int) := by rw [IntWalk.i64_in _ (by omega)]; omega
          have HFS := Lib.hid hfs
          have HNX := Lib.hid (And.intro hfr (show ∀ r ∈ rs.take (i + 1), r.2.2.length ≤ 16384 from fun r hr => by
            rw [htk] at hr
            rcases List.mem_append.1 hr with h | h
            · exact HSM.out r h
            · rw [List.mem_singleton.1 h]; show xs.length ≤ _; omega))
          clear hfr htk hr hfs
          go_wp2_with fail
          refine HFS.out.mono ?_
          rintro e w2 ⟨rfl, hx⟩
          obtain rfl : wr = w2 := hx.symm
          go_wp2_with fail
          go_roundw
          case rel => exact ⟨i + 1, z + q, by omega, by omega, by go_num, rfl, Lib.hid HNX.out.1, Lib.hid HNX.out.2, HV⟩
          case measure => simp [intOf]; omega
      · have hii : ¬ (i : Int) < (N : Int) := by omega
        obtain rfl : i = N := by omega
        have cb0 := HBX.out wr HV.out
        have hrm := HRM.out wr HV.out
        have hz0 : (Wl.frames (bsOf rs)).length = z := by have h := HZ.out; rw [← HN.out, List.take_length] at h; exact h
        have hsm : ∀ r ∈ rs, r.2.2.length ≤ 16384 := by have h := HSM.out; rw [← HN.out, List.take_length] at h; exact h
        have hnb : ¬ ∃ r ∈ bsOf rs, 16384 < r.length := fun ⟨r, h1, h2⟩ => by
          obtain ⟨q, h3, h4⟩ := List.mem_map.1 h1
          have := hsm q h3
          rw [h4] at this
          omega
        by_cases hfull : kk < z
        · have hbi : (kk : Int) < (z : Int) := by omega
          have HFIN := Lib.hid (HST.out 31 wr HV.out (by
            unfold Wl.cp
            rw [if_neg (by rw [HQ.out.1]; exact fun h => h rfl), if_neg hnb, if_pos (by rw [HQ.out.2.2.2.2.2.2.2, hz0]; exact hfull)]))
          have HRM2 := Lib.hid hrm
          clear hrm hz0 hsm hnb
          go_wp2_with fail
          refine HRM2.out.mono ?_
          rintro e w2 ⟨rfl, hx⟩
          obtain rfl : wr = w2 := hx.symm
          go_wp2_with fail
          go_ret
          exact ⟨congrArg _ HFIN.out.1, HFIN.out.2⟩
        · have hbi : ¬ (kk : Int) < (z : Int) := by omega
          have hfrm := HFRM.out wr z HV.out hz0 (by have := HQ.out.2.2.2.2.2.2.2; omega)
          have HRM2 := Lib.hid hrm
          have HF2 := Lib.hid hfrm
          have HZ0 := Lib.hid (And.intro hz0 hsm)
          have cb1 := HB1.out wr HV.out
          clear hrm hz0 hsm hnb hfrm
          go_wp2_with fail
          refine HRM2.out.mono ?_
          rintro e w2 ⟨rfl, hx⟩
          obtain rfl : wr = w2 := hx.symm
          go_wp2_with fail
          refine HF2.out.mono ?_
          rintro e w3 ⟨Ah, ch, rfl, o3, k3⟩
          rw [HZ0.out.1] at o3 ⊢
          obtain ⟨b9, hb9⟩ : ∃ b, w3.heap.size = b := ⟨_, rfl⟩
          obtain ⟨W14, hW14⟩ : ∃ W, w3.alloc (.cells #[.slice Ah z ch] 33) = W := ⟨_, rfl⟩
          have k14 : Keeps (fun _ => False) w3 W14 := by rw [← hW14]; exact (Keeps.refl _ _).alloc _
          have r14 : Row W14 b9 33 [.slice Ah z ch] := by rw [← hW14, ← hb9]; exact heap_alloc_new w3 _
          have k214 := HV.out.out.trans (k3.trans k14)
          have o14 := k14.owns o3 (fun _ _ => id)
          have HL14 : Hid (∀ V, Later W14 V → Later W2 V) := Lib.hid (fun V hV => ⟨k214.trans hV.out⟩)
          have H14 := Lib.hid (And.intro r14 (And.intro k214 (And.intro o14 (And.intro hb9 (k3.size)))))
          clear k14 r14 k214 o14 o3 k3 HRM2 HF2 HRM HFRM cb0 cb1
          go_wp2_with fail
          refine wp_region_stores 14 [12, 13] [0, 1, 2, 3, 4, 5, 6, 7, 8, 9, 10, 11, 12, 13] (Later W14) (fun _ => True) (by kernel_rfl) (by kernel_rfl) (Lasts.later _) (Lasts.true) (⟨(Keeps.refl _ _).drew⟩) (trivial) ?_
          refine T_cell (get_op rfl) (by rfl) (by rfl) 29 (.tmp 2) (by rfl) ⟨b0, 0, none⟩ (by rfl) (.pointer (some ⟨p, 0, none⟩)) _ (fun V hV => HBX.out V (HL14.out V hV)) Try.underlying29 rfl ?_
          simp only [Act.put, List.setIfInBounds_toArray, List.set_cons_zero, List.set_cons_succ]
          refine T_value (get_op rfl) (by rfl) (by rfl) (.pointer (some ⟨p, 0, none⟩)) (fun _ _ => by go_simp) ?_
          simp only [Act.put, List.setIfInBounds_toArray, List.set_cons_zero, List.set_cons_succ]
          refine T_value (get_op rfl) (by rfl) (by rfl) (.pointer (some ⟨p, 2, none⟩)) (fun _ _ => by go_simp) ?_
          simp only [Act.put, List.setIfInBounds_toArray, List.set_cons_zero, List.set_cons_succ]
          refine T_cell (get_op rfl) (by rfl) (by rfl) 60 (.tmp 38) (by rfl) ⟨p, 2, none⟩ (by rfl) (.int .u64 (t : Int)) _ (fun V hV => HP2.out V (HL14.out V hV)) Try.underlying60 rfl ?_
          simp only [Act.put, List.setIfInBounds_toArray, List.set_cons_zero, List.set_cons_succ]
          refine T_value (get_op rfl) (by rfl) (by rfl) (.int .u64 (t1 : Int)) (fun _ _ => by go_simp) ?_
          simp only [Act.put, List.setIfInBounds_toArray, List.set_cons_zero, List.set_cons_succ]
          refine T_cell (get_op rfl) (by rfl) (by rfl) 29 (.tmp 2) (by rfl) ⟨b0, 0, none⟩ (by rfl) (.pointer (some ⟨p, 0, none⟩)) _ (fun V hV => HBX.out V (HL14.out V hV)) Try.underlying29 rfl ?_
          simp only [Act.put, List.setIfInBounds_toArray, List.set_cons_zero, List.set_cons_succ]
          refine T_value (get_op rfl) (by rfl) (by rfl) (.pointer (some ⟨p, 0, none⟩)) (fun _ _ => by go_simp) ?_
          simp only [Act.put, List.setIfInBounds_toArray, List.set_cons_zero, List.set_cons_succ]
          refine T_value (get_op rfl) (by rfl) (by rfl) (.pointer (some ⟨p, 3, none⟩)) (fun _ _ => by go_simp) ?_
          simp only [Act.put, List.setIfInBounds_toArray, List.set_cons_zero, List.set_cons_succ]
          refine T_cell (get_op rfl) (by rfl) (by rfl) 3 (.tmp 43) (by rfl) ⟨p, 3, none⟩ (by rfl) (.int .i64 (ar : Int)) _ (fun V hV => HP3.out V (HL14.out V hV)) Try.underlying3 rfl ?_
          simp only [Act.put, List.setIfInBounds_toArray, List.set_cons_zero, List.set_cons_succ]
          refine T_value (get_op rfl) (by rfl) (by rfl) (.int .i64 (ar1 : Int)) (fun _ _ => by go_simp) ?_
          simp only [Act.put, List.setIfInBounds_toArray, List.set_cons_zero, List.set_cons_succ]
          refine T_value (get_op rfl) (by rfl) (by rfl) (.int .i64 (z : Int)) (fun _ _ => by go_simp) ?_
          simp only [Act.put, List.setIfInBounds_toArray, List.set_cons_zero, List.set_cons_succ]
          refine T_made (get_op rfl) (by rfl) (by rfl) 64 [(0, .tmp 40), (1, .tmp 45), (2, .tmp 46)] (by rfl) [(0, .int .u64 (t1 : Int)), (1, .int .i64 (ar1 : Int)), (2, .int .i64 (z : Int))] (by rfl) (.agg (scells t1 ar1 z).toArray) (fun V => build_super _ _ _ V) ?_
          simp only [Act.put, List.setIfInBounds_toArray, List.set_cons_zero, List.set_cons_succ]
          refine T_alloc (get_op rfl) (by rfl) (by rfl) 64 (scells 0 0 0).toArray (by rfl) HAS.out (Lasts.later _) Lasts.true W14.heap.size (fun V hV => hV.out.size) ?_
          intro g4 hg4
          simp only [Act.put, List.setIfInBounds_toArray, List.set_cons_zero, List.set_cons_succ]
          refine T_store (get_op rfl) (by rfl) (by rfl) 64 (.tmp 10) (.tmp 47) (by rfl) (by rfl) g4 (by rfl) (scells t1 ar1 z).toArray (scells 0 0 0).toArray (by rfl) 64 size_super rfl (scells_all t1 ar1 z) (fun V => Row V g4 64 (scells t1 ar1 z)) (Lasts.block _ _) (fun V hb hf => ⟨hf.2, ⟨hb.out.trans' (Keeps.setRow _ _) (fun i hi e => by omega)⟩, setRow_heap _ _ _ _ _ _ hf.2⟩) ?_
          refine T_nil ?_
          intro V15 k15 f15
          obtain ⟨W15, hW15⟩ : ∃ W, V15 = W := ⟨_, rfl⟩
          rw [hW15] at k15 f15 ⊢
          have HK15 := Lib.hid k15.out
          have HR15 := Lib.hid f15
          clear k15 f15
          simp only [List.drop_succ_cons, List.drop_zero]
          go_wp2_with fail
          refine wp_region_stores 15 [14] [0, 1, 2, 3, 4, 5, 6, 7, 8, 9, 10, 11, 12, 13, 14] (Later W14) (fun V => Row V g4 64 (scells t1 ar1 z)) (by kernel_rfl) (by kernel_rfl) (Lasts.later _) (Lasts.block _ _) (⟨HK15.out.drew⟩) (HR15.out) ?_
          refine T_cell (get_op rfl) (by rfl) (by rfl) 29 (.tmp 2) (by rfl) ⟨b0, 0, none⟩ (by rfl) (.pointer (some ⟨p, 0, none⟩)) _ (fun V hV => HBX.out V (HL14.out V hV)) Try.underlying29 rfl ?_
          simp only [Act.put, List.setIfInBounds_toArray, List.set_cons_zero, List.set_cons_succ]
          refine T_value (get_op rfl) (by rfl) (by rfl) (.func (.func 42) #[] #[(.pointer (some ⟨b0, 0, none⟩)), (.pointer (some ⟨g4, 0, none⟩)), (.pointer (some ⟨b9, 0, none⟩))]) (fun _ _ => by have hmf := @run_mf; go_simp) ?_
          simp only [Act.put, List.setIfInBounds_toArray, List.set_cons_zero, List.set_cons_succ]
          refine T_cell (get_op rfl) (by rfl) (by rfl) 29 (.tmp 2) (by rfl) ⟨b0, 0, none⟩ (by rfl) (.pointer (some ⟨p, 0, none⟩)) _ (fun V hV => HBX.out V (HL14.out V hV)) Try.underlying29 rfl ?_
          simp only [Act.put, List.setIfInBounds_toArray, List.set_cons_zero, List.set_cons_succ]
          refine T_value (get_op rfl) (by rfl) (by rfl) (.pointer (some ⟨p, 0, none⟩)) (fun _ _ => by go_simp) ?_
          simp only [Act.put, List.setIfInBounds_toArray, List.set_cons_zero, List.set_cons_succ]
          refine T_value (get_op rfl) (by rfl) (by rfl) (.pointer (some ⟨p, 0, none⟩)) (fun _ _ => by go_simp) ?_
          simp only [Act.put, List.setIfInBounds_toArray, List.set_cons_zero, List.set_cons_succ]
          refine T_cell (get_op rfl) (by rfl) (by rfl) 25 (.tmp 52) (by rfl) ⟨p, 0, none⟩ (by rfl) (.pointer (some ⟨g, 0, none⟩)) _ (fun V hV => HP0.out V (HL14.out V hV)) Try.underlying25 rfl ?_
          simp only [Act.put, List.setIfInBounds_toArray, List.set_cons_zero, List.set_cons_succ]
          refine T_value (get_op rfl) (by rfl) (by rfl) (.func (.func 35) #[(.pointer (some ⟨g, 0, none⟩))] #[]) (fun _ _ => by have hmf := @run_mf; go_simp) ?_
          simp only [Act.put, List.setIfInBounds_toArray, List.set_cons_zero, List.set_cons_succ]
          refine T_value (get_op rfl) (by rfl) (by rfl) (.func (.func 43) #[] #[(.pointer (some ⟨b0, 0, none⟩)), (.pointer (some ⟨g4, 0, none⟩))]) (fun _ _ => by have hmf := @run_mf; go_simp) ?_
          simp only [Act.put, List.setIfInBounds_toArray, List.set_cons_zero, List.set_cons_succ]
          refine T_cell (get_op rfl) (by rfl) (by rfl) 29 (.tmp 2) (by rfl) ⟨b0, 0, none⟩ (by rfl) (.pointer (some ⟨p, 0, none⟩)) _ (fun V hV => HBX.out V (HL14.out V hV)) Try.underlying29 rfl ?_
          simp only [Act.put, List.setIfInBounds_toArray, List.set_cons_zero, List.set_cons_succ]
          refine T_value (get_op rfl) (by rfl) (by rfl) (.pointer (some ⟨p, 0, none⟩)) (fun _ _ => by go_simp) ?_
          simp only [Act.put, List.setIfInBounds_toArray, List.set_cons_zero, List.set_cons_succ]
          refine T_value (get_op rfl) (by rfl) (by rfl) (.pointer (some ⟨p, 0, none⟩)) (fun _ _ => by go_simp) ?_
          simp only [Act.put, List.setIfInBounds_toArray, List.set_cons_zero, List.set_cons_succ]
          refine T_cell (get_op rfl) (by rfl) (by rfl) 25 (.tmp 58) (by rfl) ⟨p, 0, none⟩ (by rfl) (.pointer (some ⟨g, 0, none⟩)) _ (fun V hV => HP0.out V (HL14.out V hV)) Try.underlying25 rfl ?_
          simp only [Act.put, List.setIfInBounds_toArray, List.set_cons_zero, List.set_cons_succ]
          refine T_value (get_op rfl) (by rfl) (by rfl) (.func (.func 35) #[(.pointer (some ⟨g, 0, none⟩))] #[]) (fun _ _ => by have hmf := @run_mf; go_simp) ?_
          simp only [Act.put, List.setIfInBounds_toArray, List.set_cons_zero, List.set_cons_succ]
          refine T_value (get_op rfl) (by rfl) (by rfl) (.func (.func 44) #[] #[(.pointer (some ⟨g4, 0, none⟩)), (.pointer (some ⟨b9, 0, none⟩)), (.pointer (some ⟨b0, 0, none⟩)), (.pointer (some ⟨b1, 0, none⟩))]) (fun _ _ => by have hmf := @run_mf; go_simp) ?_
          simp only [Act.put, List.setIfInBounds_toArray, List.set_cons_zero, List.set_cons_succ]
          refine T_buildN (get_op rfl) (by rfl) (by rfl) 95 39 5 [(0, .tmp 49), (1, .tmp 54), (2, .tmp 55), (3, .tmp 60), (4, .tmp 61)] (by rfl) [(0, (.func (.func 42) #[] #[(.pointer (some ⟨b0, 0, none⟩)), (.pointer (some ⟨g4, 0, none⟩)), (.pointer (some ⟨b9, 0, none⟩))])), (1, (.func (.func 35) #[(.pointer (some ⟨g, 0, none⟩))] #[])), (2, (.func (.func 43) #[] #[(.pointer (some ⟨b0, 0, none⟩)), (.pointer (some ⟨g4, 0, none⟩))])), (3, (.func (.func 35) #[(.pointer (some ⟨g, 0, none⟩))] #[])), (4, (.func (.func 44) #[] #[(.pointer (some ⟨g4, 0, none⟩)), (.pointer (some ⟨b9, 0, none⟩)), (.pointer (some ⟨b0, 0, none⟩)), (.pointer (some ⟨b1, 0, none⟩))]))] (by rfl) [(.func (.func 42) #[] #[(.pointer (some ⟨b0, 0, none⟩)), (.pointer (some ⟨g4, 0, none⟩)), (.pointer (some ⟨b9, 0, none⟩))]), (.func (.func 35) #[(.pointer (some ⟨g, 0, none⟩))] #[]), (.func (.func 43) #[] #[(.pointer (some ⟨b0, 0, none⟩)), (.pointer (some ⟨g4, 0, none⟩))]), (.func (.func 35) #[(.pointer (some ⟨g, 0, none⟩))] #[]), (.func (.func 44) #[] #[(.pointer (some ⟨g4, 0, none⟩)), (.pointer (some ⟨b9, 0, none⟩)), (.pointer (some ⟨b0, 0, none⟩)), (.pointer (some ⟨b1, 0, none⟩))])] (fun V => build_f5 _ _ _ _ _ _ _ _ _ _ _ _ _ _ _ V) (Lasts.later _) (Lasts.block _ _) W14.heap.size (fun V hV => hV.out.size) ?_
          intro X hX
          simp only [Act.put, List.setIfInBounds_toArray, List.set_cons_zero, List.set_cons_succ]
          refine T_nil ?_
          intro V9 k9 f9
          have HEND : Hid (Calls Try.prog 31 #[.pointer (some ⟨p, 0, none⟩), .slice (some ⟨X, 0, none⟩) 5 5] V9 fun e w' => e = .returned (.int .i64 (Wl.cp l s (bsOf rs)).1) ∧ Wal w' F p g (Wl.cp l s (bsOf rs)).2.1 (Wl.cp l s (bsOf rs)).2.2 ∧ Keeps F w w') := Lib.hid (by
            obtain ⟨q1, q2, q3, q4, q5, q6, q7, q8⟩ := HQ.out
            obtain ⟨a1, a2, a3, a4, a5⟩ := H0.out
            obtain ⟨d1, d2, d3, d4, d5⟩ := H14.out
            have e1 := a1.lt
            have e2 := a2.lt
            have e3 := d1.lt
            have e4 := a3.size
            have e5 := HV.out.out.size
            have k29 := d2.trans k9.out
            have hw1 : w.heap.size ≤ b1 := by
              rw [← a5, ← hW1]; exact ((Keeps.refl (fun _ => False) w).alloc _).size
            have hnch : Wl.nch (Wl.frames (bsOf rs)) ≤ l.k := by unfold Wl.nch; rw [HZ0.out.1]; omega
            have hrs : ∀ r ∈ bsOf rs, r.length ≤ 16384 := fun r h1 => by
              obtain ⟨q, h3, h4⟩ := List.mem_map.1 h1
              rw [← h4]; exact HZ0.out.2 q h3
            have hlen : (bsOf rs).length = rs.length := by unfold bsOf; rw [List.length_map]
            refine cp_steps w V9 F FD p g l s A c HX.out q1 (bsOf rs) hrs z HZ0.out.1 (by omega) (by omega) q3 (a3.trans k29) Ah Ar ch cr b0 g4 b9 b1 X (by omega) (by omega) (by omega) hw1 (by omega) (own_base (k9.out.owns d3 (fun _ _ => id)) (by omega)) (a1.keeps k29 id) ?_ (d1.keeps k9.out id) ?_ f9.2
            · rw [q4, q5, q6, q7]
              exact f9.1
            · rw [hlen, HN.out]
              exact a2.keeps k29 id)
          clear k9 f9
          simp only [List.drop_succ_cons, List.drop_zero]
          go_wp2_with fail
          refine HEND.out.mono ?_
          rintro e w' ⟨rfl, h1, h2⟩
          have HZZ := Lib.hid (And.intro h1 h2)
          clear h1 h2
          go_wp2_with fail
          go_ret
          exact ⟨rfl, HZZ.out.1, HZZ.out.2⟩
  · have hb : (er != 0) = true := by simpa using hne
    have H := Lib.hid (HST.out er W2 ⟨Keeps.refl _ _⟩ (by unfold Wl.cp; rw [if_pos (by rw [he]; exact hne), he]))
    have HE2 := Lib.hid (HER.out W2 ⟨Keeps.refl _ _⟩)
    rw [hNN]
    clear her k1 k2 k12 r0 r1 hlog hx hR hNN he hl ht hN
    go_enter Try.func17, Try.ntmps17
    go_wp2_with fail
    refine HE2.out.mono ?_
    rintro e wx ⟨rfl, hx⟩
    obtain rfl : W2 = wx := hx.symm
    go_wp2
    go_ret
    exact ⟨congrArg _ H.out.1, H.out.2⟩
end Go.Proofs.Ytnhegnncmjmafaa
namespace Go.Proofs.Ytnhegnncmjmafaa
open Go.RowKit Go.BigFrame
set_option linter.unusedVariables false


theorem build_f2 (f1 f2 : FuncId) (a1 a2 : Array Value) (V : World) : (Instr.buildSlice 95 2 #[(0, .func (.func f1) #[] a1), (1, .func (.func f2) #[] a2)]).run Try.prog V = .ok (.slice (some ⟨V.heap.size, 0, none⟩) 2 2) (V.alloc (.cells #[.func (.func f1) #[] a1, .func (.func f2) #[] a2] 39)) := by kernel_rfl
set_option maxRecDepth 100000 in
set_option maxHeartbeats 8000000 in
theorem append_goes (w : World) (F FD : Nat → Prop) (p g : Nat) (l : Wl.St) (s : Dk.St) (A : Option Addr) (c : Nat) (h : WalX w F FD p g l s A c) (Ab : Option Addr) (cb : Nat) (bs : List UInt8) (hsb : Src w Ab (bvs bs)) (hcb : bs.length ≤ cb ∧ cb ≤ 9223372036854775807) (he : l.err = 0) (hnb : bs.length ≤ 16384) (hfree : (Wl.hv l).length + (8 + bs.length) ≤ 256 * l.k) (hl : s.loose.length ≤ 900) :
    Calls Try.prog 14 #[.pointer (some ⟨p, 0, none⟩), .slice Ab bs.length cb] w fun e w' => e = .returned (.int .i64 (Wl.ap l s bs).1) ∧ Wal w' F p g (Wl.ap l s bs).2.1 (Wl.ap l s bs).2.2 ∧ Keeps F w w' := by
  obtain ⟨nb, hnb'⟩ : ∃ n, bs.length = n := ⟨_, rfl⟩
  obtain ⟨nh, hnh⟩ : ∃ n, (Wl.hv l).length = n := ⟨_, rfl⟩
  obtain ⟨b0, hb0⟩ : ∃ b, w.heap.size = b := ⟨_, rfl⟩
  obtain ⟨W1, hW1⟩ : ∃ V, w.alloc (.cells #[.pointer (some ⟨p, 0, none⟩)] 29) = V := ⟨_, rfl⟩
  have k1 : Keeps (fun _ => False) w W1 := by rw [← hW1]; exact (Keeps.refl _ _).alloc _
  have r1 : Row W1 b0 29 [.pointer (some ⟨p, 0, none⟩)] := by rw [← hW1, ← hb0]; exact heap_alloc_new w _
  have c1 : W1.cell? ⟨b0, 0, none⟩ = some (.pointer (some ⟨p, 0, none⟩)) := r1.cell 0
  have hlog := h.log.later k1
  have her := werr_any W1 _ p g l ⟨A, c, hlog⟩
  rw [he] at her
  obtain ⟨fr, hfr⟩ : ∃ x, 256 * l.k - (Wl.hv l).length = x := ⟨_, rfl⟩
  obtain ⟨z, hz⟩ : ∃ z, 8 + nb = z := ⟨_, rfl⟩
  have HFR : Hid (∀ V, Later W1 V → Calls Try.prog 22 #[.pointer (some ⟨p, 0, none⟩)] V fun e w' => e = .returned (.int .i64 (fr : Int)) ∧ Later W1 w') := Lib.hid (fun V hV => by
    have h2 := wfree_any V _ p g l ⟨A, c, hlog.later hV.out⟩
    rw [hfr] at h2
    exact h2.mono (fun e w' hh => ⟨hh.1, ⟨hV.out.trans hh.2⟩⟩))
  have HSZ : Hid (∀ V, Later W1 V → Calls Try.prog 29 #[.slice Ab nb cb] V fun e w' => e = .returned (.int .i64 (z : Int)) ∧ Later W1 w') := Lib.hid (fun V hV => by
    have h2 := wsize_any V Ab nb cb (by omega)
    rw [hz] at h2
    exact h2.mono (fun e w' hh => ⟨hh.1, by rw [hh.2]; exact hV⟩))
  have HBX : Hid (∀ V, Later W1 V → V.cell? ⟨b0, 0, none⟩ = some (.pointer (some ⟨p, 0, none⟩))) := Lib.hid (fun V hV => (r1.keeps hV.out id).cell 0)
  have hfit := h.log.ok.fit
  have hroom := h.log.ok.room
  have HDEC : Hid (z ≤ fr) := Lib.hid (by omega)
  obtain ⟨XS, hXS⟩ : ∃ L, bvs (Wl.hv l) = L := ⟨_, rfl⟩
  obtain ⟨NW, hNW⟩ : ∃ L, bvs (Wl.frame bs) = L := ⟨_, rfl⟩
  obtain ⟨ob, hob⟩ : ∃ o, (Value.slice A nh c).ownBlock = o := ⟨_, rfl⟩
  have HER := Lib.hid her
  have HX := Lib.hid h
  have HK1 := Lib.hid k1
  have HR1 := Lib.hid r1
  have HS := Lib.hid hsb
  have HCB := Lib.hid hcb
  have HLOG := Lib.hid hlog
  have HQ := Lib.hid (And.intro hnb' (And.intro hnh (And.intro hXS (And.intro hNW (And.intro hz hb0)))))
  have HOB := Lib.hid hob
  have HLL := Lib.hid hl
  have HE := Lib.hid he
  have HFREE := Lib.hid hfree
  obtain ⟨i0, hi, hz0, hz1, hz2⟩ := info_parts info_u8
  have HI := Lib.hid (And.intro hi (And.intro hz0 (And.intro hz1 hz2)))
  rw [hnb'] at hnb ⊢
  rw [hnh] at hfit hroom
  clear her h k1 r1 hsb hcb hlog hob hfr hl he hfree hi hz0 hz1 hz2
  go_enter Try.func14, Try.ntmps14
  go_wp2_with fail
  refine HER.out.mono ?_
  rintro e wx ⟨rfl, hx⟩
  obtain rfl : W1 = wx := hx.symm
  go_wp2_with fail
  refine wp_region_class (Later W1) (by kernel_rfl) (by kernel_rfl) (⟨(Keeps.refl _ _).drew⟩) ?_
  refine class_value (by rfl) (.slice Ab nb cb) (fun V hV => by go_simp) ?_
  simp only [Act.put, List.setIfInBounds_toArray, List.set_cons_zero, List.set_cons_succ]
  refine class_callW (by rfl) _ _ (.int .i64 (z : Int)) (fun _ => by go_simp) (fun V hV => HSZ.out V hV) ?_
  simp only [Act.put, List.setIfInBounds_toArray, List.set_cons_zero, List.set_cons_succ]
  refine class_cell (by rfl) 29 (.tmp 2) (by rfl) ⟨b0, 0, none⟩ (by rfl) (.pointer (some ⟨p, 0, none⟩)) _ (fun V hV => HBX.out V hV) Try.underlying29 rfl ?_
  simp only [Act.put, List.setIfInBounds_toArray, List.set_cons_zero, List.set_cons_succ]
  refine class_callW (by rfl) _ _ (.int .i64 (fr : Int)) (fun _ => by go_simp) (fun V hV => HFR.out V hV) ?_
  simp only [Act.put, List.setIfInBounds_toArray, List.set_cons_zero, List.set_cons_succ]
  refine class_value (by rfl) (.bool false) (fun V hV => by have hd := HDEC.out; go_simp) ?_
  simp only [Act.put, List.setIfInBounds_toArray, List.set_cons_zero, List.set_cons_succ]
  refine wpQuiet_nil ?_
  intro V0 hV0
  obtain ⟨W2, hW2⟩ : ∃ W, V0 = W := ⟨_, rfl⟩
  rw [hW2] at hV0 ⊢
  clear HFR HSZ HBX HDEC HER c1
  have HV0 := Lib.hid hV0.out
  clear hV0
  have hlog2 := HLOG.out.later HV0.out
  have hobl : ∀ k, ob = some k → k < b0 ∧ k ≠ p := fun k hk => by
    have h1 := HX.out.log.own
    have hl1 := HX.out.log.row
    have ho := HOB.out
    rw [HQ.out.2.1] at h1
    rw [hk] at ho
    have h2 := h1.lt k ho
    have := HQ.out.2.2.2.2.2
    refine ⟨by omega, fun e => own_apart h1 hl1 (by decide) k ho e⟩
  have HOBLT : ∀ k, ob = some k → k < W1.heap.size := fun k hk => by have := (hobl k hk).1; have := HR1.out.lt; omega
  have HB0 : Hid (∀ V, Keeps (fun k => ob = some k) W1 V → V.cell? ⟨b0, 0, none⟩ = some (.pointer (some ⟨p, 0, none⟩))) := Lib.hid (fun V hV => (HR1.out.keeps hV (fun e => by have := (hobl _ e).1; omega)).cell 0)
  have HPR : Hid (∀ V, Keeps (fun k => ob = some k) W1 V → Row V p 62 (lcells g l A c)) := Lib.hid (fun V hV => HLOG.out.row.keeps hV (fun e => (hobl _ e).2 rfl))
  have HP4 : Hid (∀ V, Keeps (fun k => ob = some k) W1 V → V.cell? ⟨p, 4, none⟩ = some (.slice A nh c)) := Lib.hid (fun V hV => by rw [← HQ.out.2.1]; exact (HPR.out V hV).cell 4)
  have HF0 : Hid (W2.ownsRow 0 5 1 (.slice A nh c) nh XS ∧ Src W2 Ab (bvs bs)) := Lib.hid ⟨by have h1 := hlog2.own; rw [HQ.out.2.1, HQ.out.2.2.1] at h1; exact h1, HS.out.keeps (HK1.out.trans HV0.out) (fun _ _ _ => id)⟩
  have HBS : Hid (∀ W : World, (Instr.buildSlice 23 1 #[(0, .slice Ab nb cb)]).run Try.prog W = .ok (.slice (some ⟨W.heap.size, 0, none⟩) 1 1) (W.alloc (.cells #[.slice Ab nb cb] 33))) := Lib.hid (fun W => by go_simp)
  have HAL : Hid (∀ W : World, (Instr.alloc 33 true (.tuple #[])).run Try.prog W = .ok (.pointer (some ⟨W.heap.size, 0, none⟩)) (W.alloc (.cells #[.slice none 0 0] 33))) := Lib.hid (fun W => by go_simp)
  have HNW : Hid (NW.length = z ∧ ∀ u ∈ NW, u.oneCell' = true) := Lib.hid (by
    rw [← HQ.out.2.2.2.1]
    exact ⟨by rw [bvs_length, Wl.frame_length, HQ.out.1, HQ.out.2.2.2.2.1], bvs_one _⟩)
  have HFRM : Hid (∀ V g5, V.heap[g5]? = some (.cells #[.slice Ab nb cb] 33 (0, 0)) → Src V Ab (bvs bs) → Calls Try.prog 30 #[.slice (some ⟨g5, 0, none⟩) 1 1] V fun e w' => ∃ x : Option Addr × Nat, e = .returned (.slice x.1 z x.2) ∧ Keeps (fun _ => False) V w' ∧ Src w' x.1 NW) := Lib.hid (fun V g5 h5 hs => by
    have hz2 : (Wl.frames (bsOf [(Ab, cb, bs)])).length = z := by rw [← HQ.out.2.2.2.2.1, ← HQ.out.1]; show (Wl.frames [bs]).length = _; rw [Wl.frames_one, Wl.frame_length]
    have hfr2 : bvs (Wl.frames (bsOf [(Ab, cb, bs)])) = NW := by rw [← HQ.out.2.2.2.1]; show bvs (Wl.frames [bs]) = _; rw [Wl.frames_one]
    have h := framed_any (some ⟨g5, 0, none⟩) 1 [(Ab, cb, bs)] V (rowsAt_one (by rw [add_plain, cell_of_row V g5 _ _ _ _ h5]; show some (Value.slice Ab nb cb) = _; rw [← HQ.out.1]) hs HCB.out) (by rw [hz2]; omega)
    refine h.mono ?_
    rintro e w' ⟨A', c', h1, h2, h3⟩
    rw [hz2, hfr2] at h2
    rw [hz2] at h1
    exact ⟨(A', c'), h1, h3, Src.of_own h2⟩)
  have HS9 : Hid (∀ V g8 (A7 : Option Addr) c7, Keeps (fun k => ob = some k) W1 V → W1.heap.size ≤ g8 → (V.ownsRow 0 5 1 (.slice A nh c) nh XS ∧ V.ownsRow 0 5 1 (.slice A7 (nh + z) c7) (nh + z) (XS ++ NW) ∧ ((Value.slice A7 (nh + z) c7).ownBlock = ob ∨ ∃ k, W1.heap.size ≤ k ∧ (Value.slice A7 (nh + z) c7).ownBlock = some k)) → V.heap[g8]? = some (.cells #[.slice none 0 0] 33 (0, 0)) →
      (∃ old, V.cell? ⟨g8, 0, none⟩ = some old) ∧ V.frozen? ⟨g8, 0, none⟩ = false ∧ Keeps (fun k => ob = some k) W1 (V.setCell ⟨g8, 0, none⟩ (.slice A7 (nh + z) c7)) ∧ (((V.setCell ⟨g8, 0, none⟩ (.slice A7 (nh + z) c7)).ownsRow 0 5 1 (.slice A nh c) nh XS ∧ (V.setCell ⟨g8, 0, none⟩ (.slice A7 (nh + z) c7)).ownsRow 0 5 1 (.slice A7 (nh + z) c7) (nh + z) (XS ++ NW) ∧ ((Value.slice A7 (nh + z) c7).ownBlock = ob ∨ ∃ k, W1.heap.size ≤ k ∧ (Value.slice A7 (nh + z) c7).ownBlock = some k)) ∧ Row (V.setCell ⟨g8, 0, none⟩ (.slice A7 (nh + z) c7)) g8 33 [.slice A7 (nh + z) c7])) := Lib.hid (fun V g8 A7 c7 hb hg8 hf h8 => by
    have hr : Row V g8 33 [.slice none 0 0] := h8
    have ks : Keeps (fun k => k = g8) V (V.setCell ⟨g8, 0, none⟩ (.slice A7 (nh + z) c7)) := (Keeps.refl (fun k => k = g8) V).setCell (p := ⟨g8, 0, none⟩) (fun _ => rfl) _
    have ap : ∀ {b n : Nat} {v : Value} {xs : List Value}, V.ownsRow b 5 1 v n xs → ∀ k, v.ownBlock = some k → ¬ k = g8 := fun h k hk => own_apart h hr (by decide) k hk
    exact ⟨⟨_, hr.cell 0⟩, hr.frozen 0, hb.trans' ks (fun i hi e => by omega), ⟨ks.owns hf.1 (ap hf.1), ks.owns hf.2.1 (ap hf.2.1), hf.2.2⟩, hr.set 0 _⟩)
  clear hlog2
  go_wp2_with fail
  refine wp_region_anywhere [5, 6, 7, 8, 9] [0, 1, 2, 3, 4] 8 [5, 6, 7] [9] (fun V => Keeps (fun k => ob = some k) W1 V) (fun V => (V.ownsRow 0 5 1 (.slice A nh c) nh XS ∧ Src V Ab (bvs bs))) (by kernel_rfl) (by kernel_rfl) (fun _ _ h k => h.trans' k (fun _ _ h => h.elim)) (Lasts.and (fun _ _ h k => k.owns h (fun _ _ => id)) (fun _ _ h k => h.keeps k (fun _ _ _ => id))) ((HV0.out.mono (fun _ _ h => h.elim)).drew) (HF0.out) ?_
  refine T_cell (get_op rfl) (by rfl) (by rfl) 29 (.tmp 2) (by rfl) ⟨b0, 0, none⟩ (by rfl) (.pointer (some ⟨p, 0, none⟩)) _ (fun V hV => HB0.out V hV) Try.underlying29 rfl ?_
  simp only [Act.put, List.setIfInBounds_toArray, List.set_cons_zero, List.set_cons_succ]
  refine T_value (get_op rfl) (by rfl) (by rfl) (.pointer (some ⟨p, 0, none⟩)) (fun _ _ => by go_simp) ?_
  simp only [Act.put, List.setIfInBounds_toArray, List.set_cons_zero, List.set_cons_succ]
  refine T_value (get_op rfl) (by rfl) (by rfl) (.pointer (some ⟨p, 4, none⟩)) (fun _ _ => by go_simp) ?_
  simp only [Act.put, List.setIfInBounds_toArray, List.set_cons_zero, List.set_cons_succ]
  refine T_cell (get_op rfl) (by rfl) (by rfl) 33 (.tmp 23) (by rfl) ⟨p, 4, none⟩ (by rfl) (.slice A nh c) _ (fun V hV => HP4.out V hV) Try.underlying33 rfl ?_
  simp only [Act.put, List.setIfInBounds_toArray, List.set_cons_zero, List.set_cons_succ]
  refine T_value (get_op rfl) (by rfl) (by rfl) (.slice Ab nb cb) (fun _ _ => by go_simp) ?_
  simp only [Act.put, List.setIfInBounds_toArray, List.set_cons_zero, List.set_cons_succ]
  refine T_nil ?_
  intro _ _ _
  refine ⟨?o1, ?o2⟩
  case o1 =>
    refine K_build (get_op rfl) (by rfl) (by rfl) 23 33 (.tmp 25) (.slice Ab nb cb) #[.slice Ab nb cb] (by rfl) (by rfl) HBS.out (fun _ _ h k => h.trans' k (fun _ _ h => h.elim)) (Lasts.and (fun _ _ h k => k.owns h (fun _ _ => id)) (fun _ _ h k => h.keeps k (fun _ _ _ => id))) W1.heap.size (fun V hV => hV.size) ?_
    intro g5 hg5
    simp only [Act.put, List.setIfInBounds_toArray, List.set_cons_zero, List.set_cons_succ]
    refine ⟨?o3, ?o4⟩
    case o3 =>
      refine K_enterR (get_op rfl) (by rfl) (by rfl) _ _ (fun x6 : Option Addr × Nat => .slice x6.1 z x6.2) (fun x y h => by cases x; cases y; simp at h; simp [h]) (fun _ => by go_simp) (fun x6 V => (V.ownsRow 0 5 1 (.slice A nh c) nh XS ∧ Src V x6.1 NW)) (fun x6 => Lasts.and (fun _ _ h k => k.owns h (fun _ _ => id)) (fun _ _ h k => h.keeps k (fun _ _ _ => id))) (fun V hb hf => (HFRM.out V g5 hf.2 (hf.1).2).mono (fun e w' ⟨x, h1, h2, h3⟩ => ⟨x, h1, hb.trans' h2 (fun _ _ h => h.elim), ⟨h2.owns (hf.1).1 (fun _ _ => id), h3⟩⟩)) ?_
      intro x6
      simp only [Act.put, List.setIfInBounds_toArray, List.set_cons_zero, List.set_cons_succ]
      refine ⟨?o5, ?o6⟩
      case o5 =>
        refine forkT_last ?_
        refine T_append_src (get_op rfl) (by rfl) (by rfl) 33 (.tmp 24) (.tmp 27) (by rfl) 5 i0 (.int .u8 0) 1 Try.underlying33 HI.out.1 HI.out.2.1 HI.out.2.2.1 HI.out.2.2.2 rfl A nh c XS (by rfl) x6.1 z x6.2 (by rfl) NW HNW.out.1 HNW.out.2 (by unfold maxLen; omega) (by omega) (fun q7 V => (V.ownsRow 0 5 1 (.slice A nh c) nh XS ∧ V.ownsRow 0 5 1 (.slice q7.1 (nh + z) q7.2) (nh + z) (XS ++ NW) ∧ ((Value.slice q7.1 (nh + z) q7.2).ownBlock = ob ∨ ∃ k, W1.heap.size ≤ k ∧ (Value.slice q7.1 (nh + z) q7.2).ownBlock = some k))) (fun q7 => (Lasts.and (fun _ _ h k => k.owns h (fun _ _ => id)) (Lasts.and (fun _ _ h k => k.owns h (fun _ _ => id)) (fun _ _ h k => h)))) (fun V hb hf => hf) (fun V V' A' c' hb hf ho hn hg hat => ⟨hb.grown hg (fun k _ e => by rw [HOB.out] at e; exact e), ⟨ho, hn, (by rw [← HOB.out]; exact hat : _ ∨ _).imp id (fun h => ⟨_, hb.size, h⟩)⟩⟩) ?_
        intro q7
        simp only [Act.put, List.setIfInBounds_toArray, List.set_cons_zero, List.set_cons_succ]
        refine T_alloc (get_op rfl) (by rfl) (by rfl) 33 #[.slice none 0 0] (by rfl) HAL.out (fun _ _ h k => h.trans' k (fun _ _ h => h.elim)) (Lasts.and (fun _ _ h k => k.owns h (fun _ _ => id)) (Lasts.and (fun _ _ h k => k.owns h (fun _ _ => id)) (fun _ _ h k => h))) W1.heap.size (fun V hV => hV.size) ?_
        intro g8 hg8
        simp only [Act.put, List.setIfInBounds_toArray, List.set_cons_zero, List.set_cons_succ]
        refine T_cell_store (get_op rfl) (by rfl) (by rfl) 33 (.tmp 6) (.tmp 28) (by rfl) (by rfl) ⟨g8, 0, none⟩ (by rfl) (.slice q7.1 (nh + z) q7.2) (by rfl) rfl rfl (by kernel_rfl) (fun V => (V.ownsRow 0 5 1 (.slice A nh c) nh XS ∧ V.ownsRow 0 5 1 (.slice q7.1 (nh + z) q7.2) (nh + z) (XS ++ NW) ∧ ((Value.slice q7.1 (nh + z) q7.2).ownBlock = ob ∨ ∃ k, W1.heap.size ≤ k ∧ (Value.slice q7.1 (nh + z) q7.2).ownBlock = some k)) ∧ Row V g8 33 [.slice q7.1 (nh + z) q7.2]) (Lasts.and (Lasts.and (fun _ _ h k => k.owns h (fun _ _ => id)) (Lasts.and (fun _ _ h k => k.owns h (fun _ _ => id)) (fun _ _ h k => h))) (Lasts.block _ _)) (fun V hb hf => HS9.out V g8 q7.1 q7.2 hb hg8 hf.1 hf.2) ?_
        refine T_nil ?_
        intro V9 k9 f9
        obtain ⟨ff, hff⟩ : ∃ f, nh / 256 = f := ⟨_, rfl⟩
        have e4 : (nh : Int).tdiv 256 = (ff : Int) := by rw [← hff]; rfl
        have c0 := HB0.out V9 k9
        have c4 := HP4.out V9 k9
        obtain ⟨Bf, hBf⟩ : ∃ b, V9.heap.size = b := ⟨_, rfl⟩
        obtain ⟨V10, hV10⟩ : ∃ V, V9.alloc (.cells #[.int .i64 (ff : Int)] 3) = V := ⟨_, rfl⟩
        obtain ⟨X, hX⟩ : ∃ b, V10.heap.size = b := ⟨_, rfl⟩
        obtain ⟨V11, hV11⟩ : ∃ V, V10.alloc (.cells #[.func (.func 32) #[] #[.pointer (some ⟨b0, 0, none⟩), .pointer (some ⟨Bf, 0, none⟩), .pointer (some ⟨g8, 0, none⟩)], .func (.func 34) #[] #[.pointer (some ⟨g8, 0, none⟩), .pointer (some ⟨b0, 0, none⟩)]] 39) = V := ⟨_, rfl⟩
        have k10 : Keeps (fun _ => False) V9 V10 := by rw [← hV10]; exact (Keeps.refl _ _).alloc _
        have k11 : Keeps (fun _ => False) V10 V11 := by rw [← hV11]; exact (Keeps.refl _ _).alloc _
        have c10 := HB0.out V10 (k9.trans' k10 (fun _ _ h => h.elim))
        have hbs := build_f2 32 34 #[.pointer (some ⟨b0, 0, none⟩), .pointer (some ⟨Bf, 0, none⟩), .pointer (some ⟨g8, 0, none⟩)] #[.pointer (some ⟨g8, 0, none⟩), .pointer (some ⟨b0, 0, none⟩)] V10
        rw [hX, hV11] at hbs
        have hmf : ∀ fn first cap w, (Instr.makeFunc fn first cap).run Try.prog w = .ok (.func fn first cap) w := fun _ _ _ _ => rfl
        have HEND : Hid (Calls Try.prog 31 #[.pointer (some ⟨p, 0, none⟩), .slice (some ⟨X, 0, none⟩) 2 2] V11 fun e w' => e = .returned (.int .i64 (Wl.ap l s bs).1) ∧ Wal w' F p g (Wl.ap l s bs).2.1 (Wl.ap l s bs).2.2 ∧ Keeps F w w') := Lib.hid (by
          have kw := (HK1.out.mono (T := fun k => ob = some k) (fun _ _ h => h.elim)).trans (k9.trans' ((k10.trans k11)) (fun _ _ h => h.elim))
          have kv := k10.trans k11
          have s1 := HK1.out.size
          have s9 := k9.size
          have s10 := k10.size
          have s11 := k11.size
          have l0 := HR1.out.lt
          have ob0 := HOB.out
          obtain ⟨q1, q2, q3, q4, q5, q6⟩ := HQ.out
          obtain ⟨⟨f1, f2, f3⟩, f4⟩ := f9
          refine ap_steps w V11 F FD p g l s A c HX.out bs HE.out (by omega) HLL.out ?_ q7.1 q7.2 (nh + z) (by omega) (by have := HFREE.out; omega) ?_ ?_ ?_ b0 Bf g8 X (by omega) (by omega) (by omega) (by omega) ?_ ?_ ?_ ?_
          · rw [q2, ob0]; exact kw
          · rw [q2, q3]; exact kv.owns f1 (fun _ _ => id)
          · rw [q3, q4]; exact kv.owns f2 (fun _ _ => id)
          · rw [q2, ob0]; exact f3.imp id (fun ⟨k, h1, h2⟩ => ⟨k, by omega, h2⟩)
          · exact (HR1.out.keeps k9 (fun e => by have := HOBLT _ e; have := (hobl _ e).1; omega)).keeps kv id
          · rw [q2, hff]
            have h : Row V10 Bf 3 [.int .i64 (ff : Int)] := by rw [← hV10, ← hBf]; exact heap_alloc_new V9 _
            exact h.keeps k11 id
          · exact f4.keeps kv id
          · rw [← hV11, ← hX]; exact heap_alloc_new V10 _)
        clear k9 f9 k10 k11
        go_wp2_with fail
        refine HEND.out.mono ?_
        rintro e w' ⟨rfl, h1, h2⟩
        have HZ := Lib.hid (And.intro h1 h2)
        clear h1 h2
        go_wp2_with fail
        go_ret
        exact ⟨rfl, HZ.out.1, HZ.out.2⟩
      case o6 =>
        refine T_alloc (get_op rfl) (by rfl) (by rfl) 33 #[.slice none 0 0] (by rfl) HAL.out (fun _ _ h k => h.trans' k (fun _ _ h => h.elim)) (Lasts.and (fun _ _ h k => k.owns h (fun _ _ => id)) (fun _ _ h k => h.keeps k (fun _ _ _ => id))) W1.heap.size (fun V hV => hV.size) ?_
        intro g8 hg8
        simp only [Act.put, List.setIfInBounds_toArray, List.set_cons_zero, List.set_cons_succ]
        refine T_append_src (get_op rfl) (by rfl) (by rfl) 33 (.tmp 24) (.tmp 27) (by rfl) 5 i0 (.int .u8 0) 1 Try.underlying33 HI.out.1 HI.out.2.1 HI.out.2.2.1 HI.out.2.2.2 rfl A nh c XS (by rfl) x6.1 z x6.2 (by rfl) NW HNW.out.1 HNW.out.2 (by unfold maxLen; omega) (by omega) (fun q7 V => (V.ownsRow 0 5 1 (.slice A nh c) nh XS ∧ V.ownsRow 0 5 1 (.slice q7.1 (nh + z) q7.2) (nh + z) (XS ++ NW) ∧ ((Value.slice q7.1 (nh + z) q7.2).ownBlock = ob ∨ ∃ k, W1.heap.size ≤ k ∧ (Value.slice q7.1 (nh + z) q7.2).ownBlock = some k)) ∧ V.heap[g8]? = some (.cells #[.slice none 0 0] 33 (0, 0))) (fun q7 => Lasts.and (Lasts.and (fun _ _ h k => k.owns h (fun _ _ => id)) (Lasts.and (fun _ _ h k => k.owns h (fun _ _ => id)) (fun _ _ h k => h))) (Lasts.block _ _)) (fun V hb hf => hf.1) (fun V V' A' c' hb hf ho hn hg hat => ⟨hb.grown hg (fun k _ e => by rw [HOB.out] at e; exact e), ⟨⟨ho, hn, (by rw [← HOB.out]; exact hat : _ ∨ _).imp id (fun h => ⟨_, hb.size, h⟩)⟩, (hg.block g8 (Array.getElem?_eq_some_iff.1 hf.2).1 (fun e => by have := HOBLT g8 (HOB.out.symm.trans e.symm); omega)).trans hf.2⟩⟩) ?_
        intro q7
        simp only [Act.put, List.setIfInBounds_toArray, List.set_cons_zero, List.set_cons_succ]
        refine T_cell_store (get_op rfl) (by rfl) (by rfl) 33 (.tmp 6) (.tmp 28) (by rfl) (by rfl) ⟨g8, 0, none⟩ (by rfl) (.slice q7.1 (nh + z) q7.2) (by rfl) rfl rfl (by kernel_rfl) (fun V => (V.ownsRow 0 5 1 (.slice A nh c) nh XS ∧ V.ownsRow 0 5 1 (.slice q7.1 (nh + z) q7.2) (nh + z) (XS ++ NW) ∧ ((Value.slice q7.1 (nh + z) q7.2).ownBlock = ob ∨ ∃ k, W1.heap.size ≤ k ∧ (Value.slice q7.1 (nh + z) q7.2).ownBlock = some k)) ∧ Row V g8 33 [.slice q7.1 (nh + z) q7.2]) (Lasts.and (Lasts.and (fun _ _ h k => k.owns h (fun _ _ => id)) (Lasts.and (fun _ _ h k => k.owns h (fun _ _ => id)) (fun _ _ h k => h))) (Lasts.block _ _)) (fun V hb hf => HS9.out V g8 q7.1 q7.2 hb hg8 hf.1 hf.2) ?_
        refine T_nil ?_
        intro V9 k9 f9
        obtain ⟨ff, hff⟩ : ∃ f, nh / 256 = f := ⟨_, rfl⟩
        have e4 : (nh : Int).tdiv 256 = (ff : Int) := by rw [← hff]; rfl
        have c0 := HB0.out V9 k9
        have c4 := HP4.out V9 k9
        obtain ⟨Bf, hBf⟩ : ∃ b, V9.heap.size = b := ⟨_, rfl⟩
        obtain ⟨V10, hV10⟩ : ∃ V, V9.alloc (.cells #[.int .i64 (ff : Int)] 3) = V := ⟨_, rfl⟩
        obtain ⟨X, hX⟩ : ∃ b, V10.heap.size = b := ⟨_, rfl⟩
        obtain ⟨V11, hV11⟩ : ∃ V, V10.alloc (.cells #[.func (.func 32) #[] #[.pointer (some ⟨b0, 0, none⟩), .pointer (some ⟨Bf, 0, none⟩), .pointer (some ⟨g8, 0, none⟩)], .func (.func 34) #[] #[.pointer (some ⟨g8, 0, none⟩), .pointer (some ⟨b0, 0, none⟩)]] 39) = V := ⟨_, rfl⟩
        have k10 : Keeps (fun _ => False) V9 V10 := by rw [← hV10]; exact (Keeps.refl _ _).alloc _
        have k11 : Keeps (fun _ => False) V10 V11 := by rw [← hV11]; exact (Keeps.refl _ _).alloc _
        have c10 := HB0.out V10 (k9.trans' k10 (fun _ _ h => h.elim))
        have hbs := build_f2 32 34 #[.pointer (some ⟨b0, 0, none⟩), .pointer (some ⟨Bf, 0, none⟩), .pointer (some ⟨g8, 0, none⟩)] #[.pointer (some ⟨g8, 0, none⟩), .pointer (some ⟨b0, 0, none⟩)] V10
        rw [hX, hV11] at hbs
        have hmf : ∀ fn first cap w, (Instr.makeFunc fn first cap).run Try.prog w = .ok (.func fn first cap) w := fun _ _ _ _ => rfl
        have HEND : Hid (Calls Try.prog 31 #[.pointer (some ⟨p, 0, none⟩), .slice (some ⟨X, 0, none⟩) 2 2] V11 fun e w' => e = .returned (.int .i64 (Wl.ap l s bs).1) ∧ Wal w' F p g (Wl.ap l s bs).2.1 (Wl.ap l s bs).2.2 ∧ Keeps F w w') := Lib.hid (by
          have kw := (HK1.out.mono (T := fun k => ob = some k) (fun _ _ h => h.elim)).trans (k9.trans' ((k10.trans k11)) (fun _ _ h => h.elim))
          have kv := k10.trans k11
          have s1 := HK1.out.size
          have s9 := k9.size
          have s10 := k10.size
          have s11 := k11.size
          have l0 := HR1.out.lt
          have ob0 := HOB.out
          obtain ⟨q1, q2, q3, q4, q5, q6⟩ := HQ.out
          obtain ⟨⟨f1, f2, f3⟩, f4⟩ := f9
          refine ap_steps w V11 F FD p g l s A c HX.out bs HE.out (by omega) HLL.out ?_ q7.1 q7.2 (nh + z) (by omega) (by have := HFREE.out; omega) ?_ ?_ ?_ b0 Bf g8 X (by omega) (by omega) (by omega) (by omega) ?_ ?_ ?_ ?_
          · rw [q2, ob0]; exact kw
          · rw [q2, q3]; exact kv.owns f1 (fun _ _ => id)
          · rw [q3, q4]; exact kv.owns f2 (fun _ _ => id)
          · rw [q2, ob0]; exact f3.imp id (fun ⟨k, h1, h2⟩ => ⟨k, by omega, h2⟩)
          · exact (HR1.out.keeps k9 (fun e => by have := HOBLT _ e; have := (hobl _ e).1; omega)).keeps kv id
          · rw [q2, hff]
            have h : Row V10 Bf 3 [.int .i64 (ff : Int)] := by rw [← hV10, ← hBf]; exact heap_alloc_new V9 _
            exact h.keeps k11 id
          · exact f4.keeps kv id
          · rw [← hV11, ← hX]; exact heap_alloc_new V10 _)
        clear k9 f9 k10 k11
        go_wp2_with fail
        refine HEND.out.mono ?_
        rintro e w' ⟨rfl, h1, h2⟩
        have HZ := Lib.hid (And.intro h1 h2)
        clear h1 h2
        go_wp2_with fail
        go_ret
        exact ⟨rfl, HZ.out.1, HZ.out.2⟩
    case o4 =>
      refine T_alloc (get_op rfl) (by rfl) (by rfl) 33 #[.slice none 0 0] (by rfl) HAL.out (fun _ _ h k => h.trans' k (fun _ _ h => h.elim)) (Lasts.and (Lasts.and (fun _ _ h k => k.owns h (fun _ _ => id)) (fun _ _ h k => h.keeps k (fun _ _ _ => id))) (Lasts.block _ _)) W1.heap.size (fun V hV => hV.size) ?_
      intro g8 hg8
      simp only [Act.put, List.setIfInBounds_toArray, List.set_cons_zero, List.set_cons_succ]
      refine T_enterR (get_op rfl) (by rfl) (by rfl) _ _ (fun x6 : Option Addr × Nat => .slice x6.1 z x6.2) (fun x y h => by cases x; cases y; simp at h; simp [h]) (fun _ => by go_simp) (fun x6 V => (V.ownsRow 0 5 1 (.slice A nh c) nh XS ∧ Src V x6.1 NW) ∧ V.heap[g8]? = some (.cells #[.slice none 0 0] 33 (0, 0))) (fun x6 => Lasts.and (Lasts.and (fun _ _ h k => k.owns h (fun _ _ => id)) (fun _ _ h k => h.keeps k (fun _ _ _ => id))) (Lasts.block _ _)) (fun V hb hf => (HFRM.out V g5 hf.1.2 (hf.1.1).2).mono (fun e w' ⟨x, h1, h2, h3⟩ => ⟨x, h1, hb.trans' h2 (fun _ _ h => h.elim), ⟨⟨h2.owns (hf.1.1).1 (fun _ _ => id), h3⟩, Lasts.block _ _ _ _ hf.2 h2⟩⟩)) ?_
      intro x6
      simp only [Act.put, List.setIfInBounds_toArray, List.set_cons_zero, List.set_cons_succ]
      refine T_append_src (get_op rfl) (by rfl) (by rfl) 33 (.tmp 24) (.tmp 27) (by rfl) 5 i0 (.int .u8 0) 1 Try.underlying33 HI.out.1 HI.out.2.1 HI.out.2.2.1 HI.out.2.2.2 rfl A nh c XS (by rfl) x6.1 z x6.2 (by rfl) NW HNW.out.1 HNW.out.2 (by unfold maxLen; omega) (by omega) (fun q7 V => (V.ownsRow 0 5 1 (.slice A nh c) nh XS ∧ V.ownsRow 0 5 1 (.slice q7.1 (nh + z) q7.2) (nh + z) (XS ++ NW) ∧ ((Value.slice q7.1 (nh + z) q7.2).ownBlock = ob ∨ ∃ k, W1.heap.size ≤ k ∧ (Value.slice q7.1 (nh + z) q7.2).ownBlock = some k)) ∧ V.heap[g8]? = some (.cells #[.slice none 0 0] 33 (0, 0))) (fun q7 => Lasts.and (Lasts.and (fun _ _ h k => k.owns h (fun _ _ => id)) (Lasts.and (fun _ _ h k => k.owns h (fun _ _ => id)) (fun _ _ h k => h))) (Lasts.block _ _)) (fun V hb hf => hf.1) (fun V V' A' c' hb hf ho hn hg hat => ⟨hb.grown hg (fun k _ e => by rw [HOB.out] at e; exact e), ⟨⟨ho, hn, (by rw [← HOB.out]; exact hat : _ ∨ _).imp id (fun h => ⟨_, hb.size, h⟩)⟩, (hg.block g8 (Array.getElem?_eq_some_iff.1 hf.2).1 (fun e => by have := HOBLT g8 (HOB.out.symm.trans e.symm); omega)).trans hf.2⟩⟩) ?_
      intro q7
      simp only [Act.put, List.setIfInBounds_toArray, List.set_cons_zero, List.set_cons_succ]
      refine T_cell_store (get_op rfl) (by rfl) (by rfl) 33 (.tmp 6) (.tmp 28) (by rfl) (by rfl) ⟨g8, 0, none⟩ (by rfl) (.slice q7.1 (nh + z) q7.2) (by rfl) rfl rfl (by kernel_rfl) (fun V => (V.ownsRow 0 5 1 (.slice A nh c) nh XS ∧ V.ownsRow 0 5 1 (.slice q7.1 (nh + z) q7.2) (nh + z) (XS ++ NW) ∧ ((Value.slice q7.1 (nh + z) q7.2).ownBlock = ob ∨ ∃ k, W1.heap.size ≤ k ∧ (Value.slice q7.1 (nh + z) q7.2).ownBlock = some k)) ∧ Row V g8 33 [.slice q7.1 (nh + z) q7.2]) (Lasts.and (Lasts.and (fun _ _ h k => k.owns h (fun _ _ => id)) (Lasts.and (fun _ _ h k => k.owns h (fun _ _ => id)) (fun _ _ h k => h))) (Lasts.block _ _)) (fun V hb hf => HS9.out V g8 q7.1 q7.2 hb hg8 hf.1 hf.2) ?_
      refine T_nil ?_
      intro V9 k9 f9
      obtain ⟨ff, hff⟩ : ∃ f, nh / 256 = f := ⟨_, rfl⟩
      have e4 : (nh : Int).tdiv 256 = (ff : Int) := by rw [← hff]; rfl
      have c0 := HB0.out V9 k9
      have c4 := HP4.out V9 k9
      obtain ⟨Bf, hBf⟩ : ∃ b, V9.heap.size = b := ⟨_, rfl⟩
      obtain ⟨V10, hV10⟩ : ∃ V, V9.alloc (.cells #[.int .i64 (ff : Int)] 3) = V := ⟨_, rfl⟩
      obtain ⟨X, hX⟩ : ∃ b, V10.heap.size = b := ⟨_, rfl⟩
      obtain ⟨V11, hV11⟩ : ∃ V, V10.alloc (.cells #[.func (.func 32) #[] #[.pointer (some ⟨b0, 0, none⟩), .pointer (some ⟨Bf, 0, none⟩), .pointer (some ⟨g8, 0, none⟩)], .func (.func 34) #[] #[.pointer (some ⟨g8, 0, none⟩), .pointer (some ⟨b0, 0, none⟩)]] 39) = V := ⟨_, rfl⟩
      have k10 : Keeps (fun _ => False) V9 V10 := by rw [← hV10]; exact (Keeps.refl _ _).alloc _
      have k11 : Keeps (fun _ => False) V10 V11 := by rw [← hV11]; exact (Keeps.refl _ _).alloc _
      have c10 := HB0.out V10 (k9.trans' k10 (fun _ _ h => h.elim))
      have hbs := build_f2 32 34 #[.pointer (some ⟨b0, 0, none⟩), .pointer (some ⟨Bf, 0, none⟩), .pointer (some ⟨g8, 0, none⟩)] #[.pointer (some ⟨g8, 0, none⟩), .pointer (some ⟨b0, 0, none⟩)] V10
      rw [hX, hV11] at hbs
      have hmf : ∀ fn first cap w, (Instr.makeFunc fn first cap).run Try.prog w = .ok (.func fn first cap) w := fun _ _ _ _ => rfl
      have HEND : Hid (Calls Try.prog 31 #[.pointer (some ⟨p, 0, none⟩), .slice (some ⟨X, 0, none⟩) 2 2] V11 fun e w' => e = .returned (.int .i64 (Wl.ap l s bs).1) ∧ Wal w' F p g (Wl.ap l s bs).2.1 (Wl.ap l s bs).2.2 ∧ Keeps F w w') := Lib.hid (by
        have kw := (HK1.out.mono (T := fun k => ob = some k) (fun _ _ h => h.elim)).trans (k9.trans' ((k10.trans k11)) (fun _ _ h => h.elim))
        have kv := k10.trans k11
        have s1 := HK1.out.size
        have s9 := k9.size
        have s10 := k10.size
        have s11 := k11.size
        have l0 := HR1.out.lt
        have ob0 := HOB.out
        obtain ⟨q1, q2, q3, q4, q5, q6⟩ := HQ.out
        obtain ⟨⟨f1, f2, f3⟩, f4⟩ := f9
        refine ap_steps w V11 F FD p g l s A c HX.out bs HE.out (by omega) HLL.out ?_ q7.1 q7.2 (nh + z) (by omega) (by have := HFREE.out; omega) ?_ ?_ ?_ b0 Bf g8 X (by omega) (by omega) (by omega) (by omega) ?_ ?_ ?_ ?_
        · rw [q2, ob0]; exact kw
        · rw [q2, q3]; exact kv.owns f1 (fun _ _ => id)
        · rw [q3, q4]; exact kv.owns f2 (fun _ _ => id)
        · rw [q2, ob0]; exact f3.imp id (fun ⟨k, h1, h2⟩ => ⟨k, by omega, h2⟩)
        · exact (HR1.out.keeps k9 (fun e => by have := HOBLT _ e; have := (hobl _ e).1; omega)).keeps kv id
        · rw [q2, hff]
          have h : Row V10 Bf 3 [.int .i64 (ff : Int)] := by rw [← hV10, ← hBf]; exact heap_alloc_new V9 _
          exact h.keeps k11 id
        · exact f4.keeps kv id
        · rw [← hV11, ← hX]; exact heap_alloc_new V10 _)
      clear k9 f9 k10 k11
      go_wp2_with fail
      refine HEND.out.mono ?_
      rintro e w' ⟨rfl, h1, h2⟩
      have HZ := Lib.hid (And.intro h1 h2)
      clear h1 h2
      go_wp2_with fail
      go_ret
      exact ⟨rfl, HZ.out.1, HZ.out.2⟩
  case o2 =>
    refine T_alloc (get_op rfl) (by rfl) (by rfl) 33 #[.slice none 0 0] (by rfl) HAL.out (fun _ _ h k => h.trans' k (fun _ _ h => h.elim)) (Lasts.and (fun _ _ h k => k.owns h (fun _ _ => id)) (fun _ _ h k => h.keeps k (fun _ _ _ => id))) W1.heap.size (fun V hV => hV.size) ?_
    intro g8 hg8
    simp only [Act.put, List.setIfInBounds_toArray, List.set_cons_zero, List.set_cons_succ]
    refine T_build (get_op rfl) (by rfl) (by rfl) 23 33 (.tmp 25) (.slice Ab nb cb) #[.slice Ab nb cb] (by rfl) (by rfl) HBS.out (fun _ _ h k => h.trans' k (fun _ _ h => h.elim)) (Lasts.and (Lasts.and (fun _ _ h k => k.owns h (fun _ _ => id)) (fun _ _ h k => h.keeps k (fun _ _ _ => id))) (Lasts.block _ _)) W1.heap.size (fun V hV => hV.size) ?_
    intro g5 hg5
    simp only [Act.put, List.setIfInBounds_toArray, List.set_cons_zero, List.set_cons_succ]
    refine T_enterR (get_op rfl) (by rfl) (by rfl) _ _ (fun x6 : Option Addr × Nat => .slice x6.1 z x6.2) (fun x y h => by cases x; cases y; simp at h; simp [h]) (fun _ => by go_simp) (fun x6 V => (V.ownsRow 0 5 1 (.slice A nh c) nh XS ∧ Src V x6.1 NW) ∧ V.heap[g8]? = some (.cells #[.slice none 0 0] 33 (0, 0))) (fun x6 => Lasts.and (Lasts.and (fun _ _ h k => k.owns h (fun _ _ => id)) (fun _ _ h k => h.keeps k (fun _ _ _ => id))) (Lasts.block _ _)) (fun V hb hf => (HFRM.out V g5 hf.2 (hf.1.1).2).mono (fun e w' ⟨x, h1, h2, h3⟩ => ⟨x, h1, hb.trans' h2 (fun _ _ h => h.elim), ⟨⟨h2.owns (hf.1.1).1 (fun _ _ => id), h3⟩, Lasts.block _ _ _ _ hf.1.2 h2⟩⟩)) ?_
    intro x6
    simp only [Act.put, List.setIfInBounds_toArray, List.set_cons_zero, List.set_cons_succ]
    refine T_append_src (get_op rfl) (by rfl) (by rfl) 33 (.tmp 24) (.tmp 27) (by rfl) 5 i0 (.int .u8 0) 1 Try.underlying33 HI.out.1 HI.out.2.1 HI.out.2.2.1 HI.out.2.2.2 rfl A nh c XS (by rfl) x6.1 z x6.2 (by rfl) NW HNW.out.1 HNW.out.2 (by unfold maxLen; omega) (by omega) (fun q7 V => (V.ownsRow 0 5 1 (.slice A nh c) nh XS ∧ V.ownsRow 0 5 1 (.slice q7.1 (nh + z) q7.2) (nh + z) (XS ++ NW) ∧ ((Value.slice q7.1 (nh + z) q7.2).ownBlock = ob ∨ ∃ k, W1.heap.size ≤ k ∧ (Value.slice q7.1 (nh + z) q7.2).ownBlock = some k)) ∧ V.heap[g8]? = some (.cells #[.slice none 0 0] 33 (0, 0))) (fun q7 => Lasts.and (Lasts.and (fun _ _ h k => k.owns h (fun _ _ => id)) (Lasts.and (fun _ _ h k => k.owns h (fun _ _ => id)) (fun _ _ h k => h))) (Lasts.block _ _)) (fun V hb hf => hf.1) (fun V V' A' c' hb hf ho hn hg hat => ⟨hb.grown hg (fun k _ e => by rw [HOB.out] at e; exact e), ⟨⟨ho, hn, (by rw [← HOB.out]; exact hat : _ ∨ _).imp id (fun h => ⟨_, hb.size, h⟩)⟩, (hg.block g8 (Array.getElem?_eq_some_iff.1 hf.2).1 (fun e => by have := HOBLT g8 (HOB.out.symm.trans e.symm); omega)).trans hf.2⟩⟩) ?_
    intro q7
    simp only [Act.put, List.setIfInBounds_toArray, List.set_cons_zero, List.set_cons_succ]
    refine T_cell_store (get_op rfl) (by rfl) (by rfl) 33 (.tmp 6) (.tmp 28) (by rfl) (by rfl) ⟨g8, 0, none⟩ (by rfl) (.slice q7.1 (nh + z) q7.2) (by rfl) rfl rfl (by kernel_rfl) (fun V => (V.ownsRow 0 5 1 (.slice A nh c) nh XS ∧ V.ownsRow 0 5 1 (.slice q7.1 (nh + z) q7.2) (nh + z) (XS ++ NW) ∧ ((Value.slice q7.1 (nh + z) q7.2).ownBlock = ob ∨ ∃ k, W1.heap.size ≤ k ∧ (Value.slice q7.1 (nh + z) q7.2).ownBlock = some k)) ∧ Row V g8 33 [.slice q7.1 (nh + z) q7.2]) (Lasts.and (Lasts.and (fun _ _ h k => k.owns h (fun _ _ => id)) (Lasts.and (fun _ _ h k => k.owns h (fun _ _ => id)) (fun _ _ h k => h))) (Lasts.block _ _)) (fun V hb hf => HS9.out V g8 q7.1 q7.2 hb hg8 hf.1 hf.2) ?_
    refine T_nil ?_
    intro V9 k9 f9
    obtain ⟨ff, hff⟩ : ∃ f, nh / 256 = f := ⟨_, rfl⟩
    have e4 : (nh : Int).tdiv 256 = (ff : Int) := by rw [← hff]; rfl
    have c0 := HB0.out V9 k9
    have c4 := HP4.out V9 k9
    obtain ⟨Bf, hBf⟩ : ∃ b, V9.heap.size = b := ⟨_, rfl⟩
    obtain ⟨V10, hV10⟩ : ∃ V, V9.alloc (.cells #[.int .i64 (ff : Int)] 3) = V := ⟨_, rfl⟩
    obtain ⟨X, hX⟩ : ∃ b, V10.heap.size = b := ⟨_, rfl⟩
    obtain ⟨V11, hV11⟩ : ∃ V, V10.alloc (.cells #[.func (.func 32) #[] #[.pointer (some ⟨b0, 0, none⟩), .pointer (some ⟨Bf, 0, none⟩), .pointer (some ⟨g8, 0, none⟩)], .func (.func 34) #[] #[.pointer (some ⟨g8, 0, none⟩), .pointer (some ⟨b0, 0, none⟩)]] 39) = V := ⟨_, rfl⟩
    have k10 : Keeps (fun _ => False) V9 V10 := by rw [← hV10]; exact (Keeps.refl _ _).alloc _
    have k11 : Keeps (fun _ => False) V10 V11 := by rw [← hV11]; exact (Keeps.refl _ _).alloc _
    have c10 := HB0.out V10 (k9.trans' k10 (fun _ _ h => h.elim))
    have hbs := build_f2 32 34 #[.pointer (some ⟨b0, 0, none⟩), .pointer (some ⟨Bf, 0, none⟩), .pointer (some ⟨g8, 0, none⟩)] #[.pointer (some ⟨g8, 0, none⟩), .pointer (some ⟨b0, 0, none⟩)] V10
    rw [hX, hV11] at hbs
    have hmf : ∀ fn first cap w, (Instr.makeFunc fn first cap).run Try.prog w = .ok (.func fn first cap) w := fun _ _ _ _ => rfl
    have HEND : Hid (Calls Try.prog 31 #[.pointer (some ⟨p, 0, none⟩), .slice (some ⟨X, 0, none⟩) 2 2] V11 fun e w' => e = .returned (.int .i64 (Wl.ap l s bs).1) ∧ Wal w' F p g (Wl.ap l s bs).2.1 (Wl.ap l s bs).2.2 ∧ Keeps F w w') := Lib.hid (by
      have kw := (HK1.out.mono (T := fun k => ob = some k) (fun _ _ h => h.elim)).trans (k9.trans' ((k10.trans k11)) (fun _ _ h => h.elim))
      have kv := k10.trans k11
      have s1 := HK1.out.size
      have s9 := k9.size
      have s10 := k10.size
      have s11 := k11.size
      have l0 := HR1.out.lt
      have ob0 := HOB.out
      obtain ⟨q1, q2, q3, q4, q5, q6⟩ := HQ.out
      obtain ⟨⟨f1, f2, f3⟩, f4⟩ := f9
      refine ap_steps w V11 F FD p g l s A c HX.out bs HE.out (by omega) HLL.out ?_ q7.1 q7.2 (nh + z) (by omega) (by have := HFREE.out; omega) ?_ ?_ ?_ b0 Bf g8 X (by omega) (by omega) (by omega) (by omega) ?_ ?_ ?_ ?_
      · rw [q2, ob0]; exact kw
      · rw [q2, q3]; exact kv.owns f1 (fun _ _ => id)
      · rw [q3, q4]; exact kv.owns f2 (fun _ _ => id)
      · rw [q2, ob0]; exact f3.imp id (fun ⟨k, h1, h2⟩ => ⟨k, by omega, h2⟩)
      · exact (HR1.out.keeps k9 (fun e => by have := HOBLT _ e; have := (hobl _ e).1; omega)).keeps kv id
      · rw [q2, hff]
        have h : Row V10 Bf 3 [.int .i64 (ff : Int)] := by rw [← hV10, ← hBf]; exact heap_alloc_new V9 _
        exact h.keeps k11 id
      · exact f4.keeps kv id
      · rw [← hV11, ← hX]; exact heap_alloc_new V10 _)
    clear k9 f9 k10 k11
    go_wp2_with fail
    refine HEND.out.mono ?_
    rintro e w' ⟨rfl, h1, h2⟩
    have HZ := Lib.hid (And.intro h1 h2)
    clear h1 h2
    go_wp2_with fail
    go_ret
    exact ⟨rfl, HZ.out.1, HZ.out.2⟩
theorem append_any (w : World) (F : Nat → Prop) (p g : Nat) (l : Wl.St) (s : Dk.St) (h : Wal w F p g l s) (Ab : Option Addr) (cb : Nat) (bs : List UInt8) (hsb : Src w Ab (bvs bs)) (hcb : bs.length ≤ cb ∧ cb ≤ 9223372036854775807) (hl : s.loose.length ≤ 900) :
    Calls Try.prog 14 #[.pointer (some ⟨p, 0, none⟩), .slice Ab bs.length cb] w fun e w' => e = .returned (.int .i64 (Wl.ap l s bs).1) ∧ Wal w' F p g (Wl.ap l s bs).2.1 (Wl.ap l s bs).2.2 ∧ Keeps F w w' := by
  by_cases he : l.err = 0
  · by_cases hb : 16384 < bs.length
    · have e : Wl.ap l s bs = (13, l, s) := by unfold Wl.ap; rw [if_neg (by simpa using he), if_pos hb]
      rw [e]
      exact append_not w F p g l s h Ab bs.length cb (by omega) 13 (.inr ⟨he, hb, rfl⟩)
    · by_cases hf : 256 * l.k < (Wl.hv l).length + (8 + bs.length)
      · have e : Wl.ap l s bs = (31, l, s) := by unfold Wl.ap; rw [if_neg (by simpa using he), if_neg hb, if_pos hf]
        rw [e]
        exact append_full w F p g l s h Ab bs.length cb he (by omega) hf
      · obtain ⟨FD, A, c, hx⟩ := h
        exact append_goes w F FD p g l s A c hx Ab cb bs hsb hcb he (by omega) (by omega) hl
  · have e : Wl.ap l s bs = (l.err, l, s) := by unfold Wl.ap; rw [if_pos (by simpa using he)]
    rw [e]
    exact append_not w F p g l s h Ab bs.length cb (by omega) l.err (.inl ⟨he, rfl⟩)
end Go.Proofs.Ytnhegnncmjmafaa
namespace Go.Proofs.Ytnhegnncmjmafaa
open Go.RowKit Go.BigFrame
set_option linter.unusedVariables false

set_option maxHeartbeats 1000000 in
theorem wrecords_any (w : World) (F : Nat → Prop) (p g : Nat) (l : Wl.St) (h : LogAt w F p g l) :
    Calls Try.prog 20 #[.pointer (some ⟨p, 0, none⟩)] w fun e w' => ∃ A c rs, e = .returned (.slice A l.rows.length c) ∧ bsOf rs = l.rows ∧ RowsOwn w' w.heap.size A c rs ∧ Keeps (fun _ => False) w w' := by
  obtain ⟨A, c, h⟩ := h
  have c4 : w.cell? ⟨p, 4, none⟩ = some (.slice A (Wl.hv l).length c) := h.row.cell 4
  have hun := unframed_any A c l.rows w (Src.of_own h.own) (by have := h.ok.room; unfold Wl.hv at this; omega) h.ok.rows
  obtain ⟨n, hn⟩ : ∃ n, (Wl.hv l).length = n := ⟨_, rfl⟩
  have hn' : (Wl.frames l.rows).length = n := hn
  obtain ⟨m, hm⟩ : ∃ m, l.rows.length = m := ⟨_, rfl⟩
  rw [hn'] at hun
  rw [hm] at hun ⊢
  rw [hn] at c4
  have HUN := Lib.hid hun
  clear h hun hn hn' hm
  go_enter Try.func20, Try.ntmps20
  go_wp2_with fail
  refine HUN.out.mono ?_
  rintro e w' ⟨A', c', rs, rfl, h1, h2, h3⟩
  have HZ := Lib.hid (And.intro h1 (And.intro h2 h3))
  clear h1 h2 h3
  go_wp2_with fail
  go_ret
  exact ⟨A', c', rs, rfl, HZ.out.1, HZ.out.2.1, HZ.out.2.2⟩
theorem open_gd (w : World) (F : Nat → Prop) (g : Nat) (s : Dk.St) (hD : DskAt w F g s) (hF : ∀ k, w.heap.size ≤ k → F k) (l : Wl.St) (hG : Wl.Gd l s) (hk : l.k = (s.n - 2) / 2) (h4 : 4 ≤ s.n) (hr : ∀ r ∈ l.rows, r.length ≤ 16384) (hs : l.sure = l.rows.length) :
    Calls Try.prog 11 #[.pointer (some ⟨g, 0, none⟩)] w fun e w' => ∃ p, e = .returned (.tuple #[.pointer (some ⟨p, 0, none⟩), .int .i64 0]) ∧ w.heap.size ≤ p ∧ Wal w' F p g l s ∧ Keeps (fun _ => False) w w' := by
  obtain ⟨k, t, a, rows, su, er⟩ := l
  simp only at hk hr hs
  have he : er = 0 := hG.err
  subst he
  subst hs
  have hd : Wl.Dur k t a (Wl.frames (rows.take rows.length)) s := hG.dur
  rw [List.take_length] at hd
  exact open_any w F g s hD hF k hk h4 hG.dead t a rows hd.turn hr hd.tops hd.ars
theorem wal_crash (w : World) (F : Nat → Prop) (p g : Nat) (l : Wl.St) (s : Dk.St) (h : Wal w F p g l s) (hn : s.loose.length ≤ 1000) (Af : Option Addr) (cf : Nat) (f : List UInt8) (hS : Src w Af (bvs f)) (hSF : ∀ a, Af = some a → 0 < f.length → ¬ F a.block) (hfl : f.length ≤ 9223372036854775807) :
    Calls Try.prog 18 #[.pointer (some ⟨g, 0, none⟩), .slice Af f.length cf] w fun e w' => e = .returned (.tuple #[]) ∧ Wal w' F p g l (Dk.cr s f) ∧ Keeps F w w' := by
  obtain ⟨FD, A, c, h⟩ := h
  refine (crash_any w FD g s h.dsk h.clo hn Af cf f hS (fun a ha h0 hf => hSF a ha h0 (h.sub _ hf)) hfl).mono ?_
  rintro e w' ⟨h1, h2, h3⟩
  exact ⟨h1, ⟨FD, A, c, h.call h2 h3⟩, h3.mono (fun k _ hf => h.sub k hf)⟩
set_option maxHeartbeats 1000000 in
theorem wsure_at (w : World) (F : Nat → Prop) (p g : Nat) (l : Wl.St) (h : LogAt w F p g l) : Calls Try.prog 21 #[.pointer (some ⟨p, 0, none⟩)] w fun e w' => e = .returned (.int .i64 (l.sure : Int)) ∧ w' = w := wsure_any w F p g l h
end Go.Proofs.Ytnhegnncmjmafaa
