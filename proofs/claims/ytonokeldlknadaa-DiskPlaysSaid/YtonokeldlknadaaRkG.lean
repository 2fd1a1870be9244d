/-
  Disks: a disk held against the document's. WRITTEN BY wip/gen/mkrkg.py.
-/
import Derived.Test.YtonokeldlknadaaRkF
import Derived.Test.YtonokeldlknadaaDkI
namespace Go.Proofs.Ytonokeldlknadaa
open Go.RowKit Go.BigFrame
set_option linter.unusedVariables false

section
variable {P : Program} {ops : Array Oper} {C : World → Prop} {Q : Act → Prop} {rest : List Oper} {o : Oper} {a : Act}
theorem class_callW (hw : Region.wanted o (yielded ops a.tmps) = true) (f : FuncId) (args : Array Value) (v : Value) (hrun : ∀ w, (execOp a.eval o).run P w = .ok (.enter f args) w) (hc : ∀ w, C w → Calls P f args w (fun e w' => e = .returned v ∧ C w'))
    (h : wpQuiet P ops C Q rest (a.put o.dst v)) : wpQuiet P ops C Q (o :: rest) a := by
  refine BigFrame.wpQuiet_want hw fun K hK => ⟨v, fun w hw' => ?_, hK _ h⟩
  unfold Oper.quietAt
  rw [hrun w]
  exact ⟨rfl, hc w hw'⟩
end
def Dk.rdS (s : Dk.St) (q : Int) : ByteArray := if Dk.atE s q = 0 then strOf (Dk.rd s q.toNat) else ByteArray.empty
theorem conv_none (V : World) : (convert 34 9 (.slice none 0 0)).run Try.prog V = .ok (.string ByteArray.empty) V := by
  have h := run_string_src (P := Try.prog) V 34 9 5 Try.underlying34 Try.underlying5 Try.underlying9 none [] 0 (Src.of_own (World.ownsRow_nil _ _ _ _ : V.ownsRow 0 5 1 (.slice none 0 0) 0 []))
  exact h
theorem read_alike (w : World) (F : Nat → Prop) (g : Nat) (s : Dk.St) (h : DskAt w F g s) (q : Int) :
    Calls Try.prog 22 #[.pointer (some ⟨g, 0, none⟩), .int .i64 q] w fun e w' => ∃ v, e = .returned (.tuple #[v, .int .i64 (Dk.atE s q)]) ∧ Keeps (fun _ => False) w w' ∧ ∀ V, Keeps (fun _ => False) w' V → (convert 34 9 v).run Try.prog V = .ok (.string (Dk.rdS s q)) V := by
  by_cases h0 : Dk.atE s q = 0
  · obtain ⟨hd, hq, hl, hqe⟩ := Dk.atE_zero h0
    have hr := read_ok w F g s h q.toNat hl hd
    rw [← hqe] at hr
    refine hr.mono ?_
    rintro e w' ⟨rfl, hrow, hk⟩
    refine ⟨_, by rw [h0], hk, fun V hV => ?_⟩
    have hlen : (Dk.rd s q.toNat).length = 256 := Dk.over_length _ _ h.ok.good (fun p hp => (h.ok.loose p hp).2) _
    have h2 := run_string_src (P := Try.prog) V 34 9 5 Try.underlying34 Try.underlying5 Try.underlying9 (some ⟨w.heap.size, 0, none⟩) (Dk.rd s q.toNat) 256 (hrow.keeps hV id).src
    rw [hlen] at h2
    unfold Dk.rdS
    rw [if_pos h0]
    exact h2
  · refine (read_at w F g s q h h0).mono ?_
    rintro e w' ⟨rfl, rfl⟩
    refine ⟨_, rfl, Keeps.refl _ _, fun V hV => ?_⟩
    unfold Dk.rdS
    rw [if_neg h0]
    exact conv_none V
theorem rread_alike (A : Option Addr) (c : Nat) (A2 : Option Addr) (c2 : Nat) (f : Int) (s : Dk.St) (hn : s.n ≤ 1000) (hm : s.loose.length ≤ 1000) (w : World) (hg : w.ownsRow 0 9 1 (.slice A s.n c) s.n (svals (gl s.n s.good))) (hl : w.ownsRow 0 67 2 (.slice A2 s.loose.length c2) s.loose.length (lcells s.loose)) (q : Int) :
    Calls Try.prog 33 #[.agg (rrow A s.n c A2 s.loose.length c2 f s.dead).toArray, .int .i64 q] w fun e w' => e = .returned (.tuple #[.string (Dk.rdS s q), .int .i64 (Dk.atE s q)]) ∧ Keeps (fun _ => False) w w' := by
  unfold Dk.rdS
  by_cases h0 : Dk.atE s q = 0
  · obtain ⟨hd, hq, hlt, hqe⟩ := Dk.atE_zero h0
    have hr := rread_in A s.n c A2 s.loose.length c2 f q.toNat (gl s.n s.good) s.loose s.good w hg hl hlt (gl_get _ _ _ hlt) (by omega) hm
    rw [← hqe] at hr
    rw [if_pos h0, h0, hd]
    exact hr
  · rw [if_neg h0]
    cases hd : s.dead with
    | true =>
      have e : Dk.atE s q = 30 := by unfold Dk.atE; rw [hd, if_pos rfl]
      rw [e]
      exact rread_dead A s.n c A2 s.loose.length c2 f q w
    | false =>
      have hr : q < 0 ∨ (s.n : Int) ≤ q := by
        by_cases hh : q < 0 ∨ (s.n : Int) ≤ q
        · exact hh
        · exfalso; apply h0; unfold Dk.atE; rw [hd, if_neg (by decide), if_neg hh]
      have e : Dk.atE s q = 15 := by unfold Dk.atE; rw [hd, if_neg (by decide), if_pos hr]
      rw [e]
      exact rread_range A s.n c A2 s.loose.length c2 f q hr w
set_option maxRecDepth 100000 in
set_option maxHeartbeats 4000000 in
theorem alike_any (A : Option Addr) (c : Nat) (A2 : Option Addr) (c2 : Nat) (f : Int) (s : Dk.St) (hn : s.n ≤ 1000) (hm : s.loose.length ≤ 1000) (F : Nat → Prop) (g : Nat) (w : World) (h : DskAt w F g s) (hg : w.ownsRow 0 9 1 (.slice A s.n c) s.n (svals (gl s.n s.good))) (hl : w.ownsRow 0 67 2 (.slice A2 s.loose.length c2) s.loose.length (lcells s.loose)) :
    Calls Try.prog 21 #[.pointer (some ⟨g, 0, none⟩), .agg (rrow A s.n c A2 s.loose.length c2 f s.dead).toArray] w fun e w' => e = .returned (.bool true) ∧ Keeps (fun _ => False) w w' := by
  obtain ⟨RA, hRA⟩ : ∃ R, (rrow A s.n c A2 s.loose.length c2 f s.dead).toArray = R := ⟨_, rfl⟩
  have RAN : Hid (RA.size = 4) := Lib.hid (by rw [← hRA]; rfl)
  have RAS : Hid ((Try.prog.info? 31).map (·.size) = some RA.size) := Lib.hid (by rw [RAN.out]; exact size_D)
  have RAO : Hid (RA.all (·.oneCell') = true) := Lib.hid (by rw [← hRA]; exact rrow_one _ _ _ _ _ _ _ _)
  obtain ⟨b1, hb1⟩ : ∃ x, w.heap.size = x := ⟨_, rfl⟩
  obtain ⟨W1, hW1⟩ : ∃ V, w.alloc (.cells RA 31) = V := ⟨_, rfl⟩
  have k1 : Keeps (fun _ => False) w W1 := by rw [← hW1]; exact (Keeps.refl _ _).alloc _
  have r1 : Row W1 b1 31 (rrow A s.n c A2 s.loose.length c2 f s.dead) := by show _ = some (Obj.cells (_ : List Value).toArray _ _); rw [hRA, ← hW1, ← hb1]; exact heap_alloc_new w _
  have HRD : Hid (∀ (q : Int) V, Later W1 V → Calls Try.prog 22 #[.pointer (some ⟨g, 0, none⟩), .int .i64 q] V fun e w' => ∃ v, e = .returned (.tuple #[v, .int .i64 (Dk.atE s q)]) ∧ Keeps (fun _ => False) V w' ∧ ∀ V, Keeps (fun _ => False) w' V → (convert 34 9 v).run Try.prog V = .ok (.string (Dk.rdS s q)) V) := Lib.hid (fun q V hV => read_alike V F g s (h.later (k1.trans hV.out)) q)
  have HRR : Hid (∀ (q : Int) V, Later W1 V → Calls Try.prog 33 #[.agg RA, .int .i64 q] V fun e w' => e = .returned (.tuple #[.string (Dk.rdS s q), .int .i64 (Dk.atE s q)]) ∧ Keeps (fun _ => False) V w') := Lib.hid (fun q V hV => by rw [← hRA]; exact rread_alike A c A2 c2 f s hn hm V ((k1.trans hV.out).owns hg (fun _ _ => id)) ((k1.trans hV.out).owns hl (fun _ _ => id)) q)
  have HLEN : Hid (∀ V, Later W1 V → Calls Try.prog 23 #[.pointer (some ⟨g, 0, none⟩)] V fun e w' => e = .returned (.int .i64 (s.n : Int)) ∧ Later W1 w') := Lib.hid (fun V hV => (len_any V F g s (h.later (k1.trans hV.out))).mono fun e w' h => ⟨h.1, by rw [h.2]; exact hV⟩)
  have HDED : Hid (∀ V, Later W1 V → Calls Try.prog 25 #[.pointer (some ⟨g, 0, none⟩)] V fun e w' => e = .returned (.bool s.dead) ∧ Later W1 w') := Lib.hid (fun V hV => (dead_any V F g s (h.later (k1.trans hV.out))).mono fun e w' h => ⟨h.1, by rw [h.2]; exact hV⟩)
  have HLOO : Hid (∀ V, Later W1 V → Calls Try.prog 24 #[.pointer (some ⟨g, 0, none⟩)] V fun e w' => e = .returned (.int .i64 (s.loose.length : Int)) ∧ Later W1 w') := Lib.hid (fun V hV => (loose_any V F g s (h.later (k1.trans hV.out))).mono fun e w' h => ⟨h.1, by rw [h.2]; exact hV⟩)
  rw [hRA]
  obtain ⟨n, hnn⟩ : ∃ x, s.n = x := ⟨_, rfl⟩
  obtain ⟨m, hmm⟩ : ∃ x, s.loose.length = x := ⟨_, rfl⟩
  obtain ⟨dd, hdd⟩ : ∃ x, s.dead = x := ⟨_, rfl⟩
  rw [hnn, hmm, hdd] at r1
  rw [hnn] at HLEN hn
  rw [hmm] at HLOO
  rw [hdd] at HDED
  rw [hnn, hmm, hdd] at hRA
  have HROW := Lib.hid r1
  have K1 := Lib.hid k1
  have HEQ := Lib.hid hRA
  clear r1 k1 h hg hl hnn hmm hdd hm hRA
  go_enter Try.func21, Try.ntmps21
  go_wp2_with fail
  refine wp_region_class (Later W1) (by kernel_rfl) (by kernel_rfl) (⟨(Keeps.refl _ _).drew⟩) ?_
  refine class_value (by rfl) (.pointer (some ⟨g, 0, none⟩)) (fun V hV => by go_simp) ?_
  simp only [Act.put, List.setIfInBounds_toArray, List.set_cons_zero, List.set_cons_succ]
  refine class_callW (by rfl) _ _ (.int .i64 (n : Int)) (fun _ => by go_simp) (fun V hV => HLEN.out V hV) ?_
  simp only [Act.put, List.setIfInBounds_toArray, List.set_cons_zero, List.set_cons_succ]
  refine class_value (by rfl) (.pointer (some ⟨b1, 0, none⟩)) (fun V hV => by go_simp) ?_
  simp only [Act.put, List.setIfInBounds_toArray, List.set_cons_zero, List.set_cons_succ]
  refine class_cell (by rfl) 28 (.tmp 12) (by rfl) ⟨b1, 0, none⟩ (by rfl) (.slice A n c) _ (fun V hV => (HROW.out.keeps hV.out id).cell 0) Try.underlying28 rfl ?_
  simp only [Act.put, List.setIfInBounds_toArray, List.set_cons_zero, List.set_cons_succ]
  refine class_value (by rfl) (.int .i64 (n : Int)) (fun V hV => by go_simp) ?_
  simp only [Act.put, List.setIfInBounds_toArray, List.set_cons_zero, List.set_cons_succ]
  refine class_value (by rfl) (.bool false) (fun V hV => by go_simp) ?_
  simp only [Act.put, List.setIfInBounds_toArray, List.set_cons_zero, List.set_cons_succ]
  refine class_value (by rfl) (.bool false) (fun V hV => by go_simp) ?_
  simp only [Act.put, List.setIfInBounds_toArray, List.set_cons_zero, List.set_cons_succ]
  refine class_value (by rfl) (.pointer (some ⟨g, 0, none⟩)) (fun V hV => by go_simp) ?_
  simp only [Act.put, List.setIfInBounds_toArray, List.set_cons_zero, List.set_cons_succ]
  refine class_callW (by rfl) _ _ (.bool dd) (fun _ => by go_simp) (fun V hV => HDED.out V hV) ?_
  simp only [Act.put, List.setIfInBounds_toArray, List.set_cons_zero, List.set_cons_succ]
  refine class_value (by rfl) (.pointer (some ⟨b1, 3, none⟩)) (fun V hV => by go_simp) ?_
  simp only [Act.put, List.setIfInBounds_toArray, List.set_cons_zero, List.set_cons_succ]
  refine class_cell (by rfl) 4 (.tmp 19) (by rfl) ⟨b1, 3, none⟩ (by rfl) (.bool dd) _ (fun V hV => (HROW.out.keeps hV.out id).cell 3) Try.underlying4 rfl ?_
  simp only [Act.put, List.setIfInBounds_toArray, List.set_cons_zero, List.set_cons_succ]
  refine class_value (by rfl) (.bool false) (fun V hV => by go_simp) ?_
  simp only [Act.put, List.setIfInBounds_toArray, List.set_cons_zero, List.set_cons_succ]
  refine class_value (by rfl) (.bool false) (fun V hV => by go_simp) ?_
  simp only [Act.put, List.setIfInBounds_toArray, List.set_cons_zero, List.set_cons_succ]
  refine class_value (by rfl) (.bool false) (fun V hV => by go_simp) ?_
  simp only [Act.put, List.setIfInBounds_toArray, List.set_cons_zero, List.set_cons_succ]
  refine class_value (by rfl) (.pointer (some ⟨g, 0, none⟩)) (fun V hV => by go_simp) ?_
  simp only [Act.put, List.setIfInBounds_toArray, List.set_cons_zero, List.set_cons_succ]
  refine class_callW (by rfl) _ _ (.int .i64 (m : Int)) (fun _ => by go_simp) (fun V hV => HLOO.out V hV) ?_
  simp only [Act.put, List.setIfInBounds_toArray, List.set_cons_zero, List.set_cons_succ]
  refine class_value (by rfl) (.pointer (some ⟨b1, 1, none⟩)) (fun V hV => by go_simp) ?_
  simp only [Act.put, List.setIfInBounds_toArray, List.set_cons_zero, List.set_cons_succ]
  refine class_cell (by rfl) 29 (.tmp 26) (by rfl) ⟨b1, 1, none⟩ (by rfl) (.slice A2 m c2) _ (fun V hV => (HROW.out.keeps hV.out id).cell 1) Try.underlying29 rfl ?_
  simp only [Act.put, List.setIfInBounds_toArray, List.set_cons_zero, List.set_cons_succ]
  refine class_value (by rfl) (.int .i64 (m : Int)) (fun V hV => by go_simp) ?_
  simp only [Act.put, List.setIfInBounds_toArray, List.set_cons_zero, List.set_cons_succ]
  refine class_value (by rfl) (.bool false) (fun V hV => by go_simp) ?_
  simp only [Act.put, List.setIfInBounds_toArray, List.set_cons_zero, List.set_cons_succ]
  refine class_value (by rfl) (.bool false) (fun V hV => by go_simp) ?_
  simp only [Act.put, List.setIfInBounds_toArray, List.set_cons_zero, List.set_cons_succ]
  refine wpQuiet_nil ?_
  intro V1 k1
  have HK1 := Lib.hid k1
  clear k1
  go_wp2_with fail
  go_loopw [5] (fun iv wr => ∃ q : Int, -1 ≤ q ∧ q ≤ (n : Int) + 1 ∧ iv = .int .i64 q ∧ Hid (Later W1 wr)) (fun iv _ => ((n : Int) + 1 - intOf iv).toNat)
  case atStart => exact ⟨-1, by omega, by omega, rfl, HK1⟩
  case round =>
    clear HK1
    obtain ⟨q, hq1, hq2, rfl, HLW⟩ := hrel
    have hc0 : wr.cell? ⟨b1, 0, none⟩ = some (.slice A n c) := (HROW.out.keeps HLW.out.out id).cell 0
    by_cases hqn : q ≤ (n : Int)
    · obtain ⟨E, hE⟩ : ∃ x, Dk.atE s q = x := ⟨_, rfl⟩
      obtain ⟨S, hS⟩ : ∃ x, Dk.rdS s q = x := ⟨_, rfl⟩
      have hrd := HRD.out q wr HLW.out
      rw [hE, hS] at hrd
      have HRD1 := Lib.hid hrd
      have HES := Lib.hid (And.intro hE hS)
      clear hrd hE hS
      go_wp2_with fail
      refine HRD1.out.mono ?_
      rintro e w2 ⟨vb, rfl, k2, hcv⟩
      have HL2 : Hid (Later W1 w2) := Lib.hid ⟨HLW.out.out.trans k2⟩
      have HCV := Lib.hid hcv
      have R2 : Hid (w2.heap[b1]? = some (.cells RA 31 (0, 0))) := Lib.hid (by rw [← HEQ.out]; exact HROW.out.keeps HL2.out.out id)
      have hrr := HRR.out q w2 HL2.out
      rw [HES.out.1, HES.out.2] at hrr
      have HRR1 := Lib.hid hrr
      clear hrr k2 hcv HRD1 hc0
      go_wp2_with (first
        | (refine wpList_load_row (by rfl) 31 (.tmp 3) (by rfl) b1 (by rfl) 31 RA (0, 0) _ R2.out Try.underlying31 rfl RAS.out ?_))
      refine HRR1.out.mono ?_
      rintro e w3 ⟨rfl, k3⟩
      have hc3 := HCV.out w3 k3
      have HL3 : Hid (Later W1 w3) := Lib.hid ⟨HL2.out.out.trans k3⟩
      clear k3 HCV R2 HRR1 HL2 HLW
      go_wp2_with fail
      go_roundw
      case rel => exact ⟨q + 1, by omega, by omega, by go_num, HL3⟩
      case measure => simp [intOf]; omega
    · go_wp2
      go_ret
      exact ⟨rfl, K1.out.trans HLW.out.out⟩
end Go.Proofs.Ytonokeldlknadaa
