/-
  The document's own frontier (package assayerref05): From, of whole parts.
-/
import Derived.Test.YtnnhbgaeohdojaaDoorFrRa
namespace Go.Proofs.YtnnhbgaeohdojaaDoor
open Go.RowKit Go.BigFrame
set_option linter.unusedVariables false

theorem results_cell_tmp5 {P : Program} {fn : Func} {p u : Tmp} {ty : TypeId} (h : fn.results = #[.cell p ty, .tmp u]) (tmps : Array Value) (w : World) (g : Nat) (t : TypeId) (cs : Array Value) (fr : Nat × Nat) (d : TypeDesc) (v : Value)
    (hp : tmps.getD p undef = .pointer (some ⟨g, 0, none⟩)) (hg : w.heap[g]? = some (.cells cs t fr))
    (hu : P.underlying ty = some d) (hd : (match d with | .struct _ | .array _ _ => true | _ => false) = true) (hi : (P.info? ty).map (·.size) = some cs.size) (hv : tmps.getD u undef = v) :
    (results fn tmps).run P w = .ok (.tuple #[.agg cs, v]) w := by
  have hp' : tmps[p]?.getD undef = .pointer (some ⟨g, 0, none⟩) := by simpa using hp
  have hv' : tmps[u]?.getD undef = v := by simpa using hv
  simp [results, h, hp', hv', asAddr, run_loadVar_row w g t ty cs fr d hg hu hd hi]
/-- What a frontier of the document's is, by value. -/
def fval (n : Nat) (o l : Value) : List Value := [.int .u64 (n : Int), o, l]
theorem fval_size (n : Nat) (o l : Value) : (Tryd.prog.info? 47).map (·.size) = some (fval n o l).toArray.size := by
  show _ = some 3
  kernel_rfl
theorem fval_one (n : Nat) (B A : Option Addr) (m cb l c : Nat) : (fval n (.slice B m cb) (.slice A l c)).toArray.all (·.oneCell') = true := by
  simp [fval, Value.oneCell']
set_option maxRecDepth 100000 in
set_option maxHeartbeats 1500000 in
theorem rfrom_in (n : Nat) (A : Option Addr) (m c : Nat) (w : World) (hn : n ≤ 18446744073709551615) (hm : m = On.ones 64 n) :
    Calls Tryd.prog 32 #[.int .u64 (n : Int), .slice A m c] w fun e w' => ∃ B cb, e = .returned (.tuple #[.agg (fval n (.slice B m cb) (.slice A m c)).toArray, .int .i64 0]) ∧ w'.ownsRow w.heap.size 23 1 (.slice B m cb) m (u64s (Tr.pts n)) ∧ Keeps (fun _ => False) w w' := by
  have hpa := fun V => rparts_any n V hn
  have hl := Tr.pts_length n
  rw [← hm] at hl
  rw [hl] at hpa
  have HPA := Lib.hid hpa
  have hne : ((m : Int) != (m : Int)) = false := by simp
  clear hpa hl hm
  go_enter Tryd.func32, Tryd.ntmps32
  go_wp2_with fail
  refine (HPA.out _).mono ?_
  rintro e w2 ⟨B, cb, rfl, ho, hk⟩
  have r1 := heap_alloc_new w (.cells (fval 0 (.slice none 0 0) (.slice none 0 0)).toArray 47)
  have k1 : Keeps (fun _ => False) w (w.alloc (.cells (fval 0 (.slice none 0 0) (.slice none 0 0)).toArray 47)) := (Keeps.refl _ _).alloc _
  have r2 : w2.heap[w.heap.size]? = some (.cells (fval 0 (.slice none 0 0) (.slice none 0 0)).toArray 47 (0, 0)) := (hk.block _ (Array.getElem?_eq_some_iff.1 r1).1 id).trans r1
  have k2 : Keeps (fun _ => False) w w2 := k1.trans hk
  have ho2 : w2.ownsRow w.heap.size 23 1 (.slice B m cb) m (u64s (Tr.pts n)) := own_base ho (by rw [World.size_alloc]; omega)
  obtain ⟨w3, hw3⟩ : ∃ V, w2.setRow w.heap.size (fval n (.slice B m cb) (.slice A m c)).toArray = V := ⟨_, rfl⟩
  have r3 : w3.heap[w.heap.size]? = some (.cells (fval n (.slice B m cb) (.slice A m c)).toArray 47 (0, 0)) := by rw [← hw3]; exact setRow_heap _ _ _ _ _ _ r2
  have ks : Keeps (fun k => k = w.heap.size) w2 w3 := by rw [← hw3]; exact Keeps.setRow _ _
  have K3 := Lib.hid (k2.trans' ks (fun k hk e => by omega))
  have HO3 := Lib.hid (ks.owns ho2 (fun k e hk => own_apart ho2 (show Row w2 w.heap.size 47 (fval 0 (.slice none 0 0) (.slice none 0 0)) from r2) (by decide) k e hk))
  have R2 := Lib.hid r2
  have R3 := Lib.hid r3
  clear ho hk r1 k1 r2 k2 ho2 r3 ks HPA
  go_wp2_with (first
    | (refine wpList_store_row rfl 47 _ _ rfl w.heap.size (fval n (.slice B m cb) (.slice A m c)).toArray rfl rfl 47 _ R2.out (fval_size _ _ _) rfl (fval_one _ _ _ _ _ _ _) ?_; rw [hw3]))
  refine bodyPost_ret (results_cell_tmp5 rfl _ _ w.heap.size 47 _ (0, 0) _ _ rfl R3.out Tryd.underlying47 rfl (fval_size _ _ _) rfl) rfl ?_
  exact ⟨B, cb, rfl, HO3.out, K3.out⟩
set_option maxRecDepth 100000 in
set_option maxHeartbeats 1500000 in
theorem rfrom_not (n : Nat) (A : Option Addr) (m c : Nat) (w : World) (hn : n ≤ 18446744073709551615) (hm : m ≠ On.ones 64 n) :
    Calls Tryd.prog 32 #[.int .u64 (n : Int), .slice A m c] w fun e w' => e = .returned (.tuple #[.agg (fval 0 (.slice none 0 0) (.slice none 0 0)).toArray, .int .i64 1]) ∧ Keeps (fun _ => False) w w' := by
  have hpa := fun V => rparts_any n V hn
  have hl := Tr.pts_length n
  obtain ⟨k, hk⟩ : ∃ k, (Tr.pts n).length = k := ⟨_, rfl⟩
  rw [hk] at hpa hl
  have HPA := Lib.hid hpa
  have hne : ((k : Int) != (m : Int)) = true := by simp; omega
  clear hpa hl hm hk
  go_enter Tryd.func32, Tryd.ntmps32
  go_wp2_with fail
  refine (HPA.out _).mono ?_
  rintro e w2 ⟨B, cb, rfl, ho, hk⟩
  have r1 := heap_alloc_new w (.cells (fval 0 (.slice none 0 0) (.slice none 0 0)).toArray 47)
  have k1 : Keeps (fun _ => False) w (w.alloc (.cells (fval 0 (.slice none 0 0) (.slice none 0 0)).toArray 47)) := (Keeps.refl _ _).alloc _
  have r2 : w2.heap[w.heap.size]? = some (.cells (fval 0 (.slice none 0 0) (.slice none 0 0)).toArray 47 (0, 0)) := (hk.block _ (Array.getElem?_eq_some_iff.1 r1).1 id).trans r1
  have k2 : Keeps (fun _ => False) w w2 := k1.trans hk
  obtain ⟨w3, hw3⟩ : ∃ V, w2.setRow w.heap.size (fval 0 (.slice none 0 0) (.slice none 0 0)).toArray = V := ⟨_, rfl⟩
  have r3 : w3.heap[w.heap.size]? = some (.cells (fval 0 (.slice none 0 0) (.slice none 0 0)).toArray 47 (0, 0)) := by rw [← hw3]; exact setRow_heap _ _ _ _ _ _ r2
  have ks : Keeps (fun k => k = w.heap.size) w2 w3 := by rw [← hw3]; exact Keeps.setRow _ _
  have K3 := Lib.hid (k2.trans' ks (fun k hk e => by omega))
  have R2 := Lib.hid r2
  have R3 := Lib.hid r3
  clear ho hk r1 k1 r2 k2 r3 ks HPA
  go_wp2_with (first
    | (refine wpList_store_row rfl 47 _ _ rfl w.heap.size (fval 0 (.slice none 0 0) (.slice none 0 0)).toArray rfl rfl 47 _ R2.out (fval_size _ _ _) rfl (fval_one _ _ _ _ _ _ _) ?_; rw [hw3]))
  refine bodyPost_ret (results_cell_tmp5 rfl _ _ w.heap.size 47 _ (0, 0) _ _ rfl R3.out Tryd.underlying47 rfl (fval_size _ _ _) rfl) rfl ?_
  exact ⟨rfl, K3.out⟩
end Go.Proofs.YtnnhbgaeohdojaaDoor
