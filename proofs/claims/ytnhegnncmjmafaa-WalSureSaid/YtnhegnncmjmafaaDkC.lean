/-
  Disks: a new one; what is loose is forgotten; a front of a write is laid. WRITTEN BY wip/gen/mkdkc.py.
-/
import Derived.Test.YtnhegnncmjmafaaDkB
import Derived.Test.YtnhegnncmjmafaaWalkE
import Derived.Laws.CopyOwn
namespace Go.Proofs.Ytnhegnncmjmafaa
open Go.RowKit Go.BigFrame
set_option linter.unusedVariables false

theorem arrv_nought : arrv Dk.nought = .agg (List.replicate 256 (Value.int .u8 0)).toArray := by
  unfold arrv Dk.nought bvs
  rw [List.map_replicate]
  rfl
theorem zero_block (w : World) : (zeroValue 78).run Try.prog w = .ok (arrv Dk.nought) w := by rw [arrv_nought]; kernel_rfl
theorem size_block : (Try.prog.info? 78).map (·.size) = some 256 := by kernel_rfl
theorem size_write : (Try.prog.info? 80).map (·.size) = some 257 := by kernel_rfl
theorem bvs_inj {a b : List UInt8} (h : bvs a = bvs b) : a = b := by
  unfold bvs at h
  refine List.map_inj_right (fun x y hxy => ?_) |>.1 h
  unfold bv at hxy
  injection hxy with _ h2
  exact UInt8.toNat_inj.1 (by omega)
theorem new_not (n : Int) (w : World) (h : n < 1 ∨ 65536 < n) : Calls Try.prog 10 #[.int .i64 n] w fun e w' => e = .returned (.tuple #[.pointer none, .int .i64 1]) ∧ w' = w := by
  by_cases h1 : n < 1
  · go_enter Try.func10, Try.ntmps10
    go_wp2
    go_ret2
    exact ⟨rfl, rfl⟩
  · have h2 : 65536 < n := by omega
    go_enter Try.func10, Try.ntmps10
    go_wp2
    go_ret2
    exact ⟨rfl, rfl⟩
theorem new_disk (n : Nat) (w : World) (h1 : 1 ≤ n) (h2 : n ≤ 65536) :
    Calls Try.prog 10 #[.int .i64 (n : Int)] w fun e w' => ∃ g, e = .returned (.tuple #[.pointer (some ⟨g, 0, none⟩), .int .i64 0]) ∧ w.heap.size ≤ g ∧ DskAt w' (fun k => w.heap.size ≤ k) g (Dk.fresh n) ∧ Keeps (fun _ => False) w w' := by
  have hmm := @run_makeMap Try.prog
  obtain ⟨W1, hW1⟩ : ∃ W, w.alloc (.map #[] 0) = W := ⟨_, rfl⟩
  obtain ⟨W2, hW2⟩ : ∃ W, W1.alloc (.map #[] 0) = W := ⟨_, rfl⟩
  obtain ⟨W3, hW3⟩ : ∃ W, W2.alloc (.cells #[.int .i64 (n : Int), .map (some w.heap.size), .slice none 0 0, .map (some W1.heap.size), .bool false, .int .i64 0, .bool false] 59) = W := ⟨_, rfl⟩
  have hs1 : W1.heap.size = w.heap.size + 1 := by rw [← hW1]; simp
  have hs2 : W2.heap.size = w.heap.size + 2 := by rw [← hW2]; simp [hs1]
  have k1 : Keeps (fun _ => False) w W1 := by rw [← hW1]; exact (Keeps.refl _ _).alloc _
  have k2 : Keeps (fun _ => False) W1 W2 := by rw [← hW2]; exact (Keeps.refl _ _).alloc _
  have k3 : Keeps (fun _ => False) W2 W3 := by rw [← hW3]; exact (Keeps.refl _ _).alloc _
  have m1 : IMap W3 w.heap.size (fun _ => none) := by
    have h : IMap W1 w.heap.size (fun _ => none) := by rw [← hW1]; exact IMap.made w
    exact (h.keeps k2 id).keeps k3 id
  have m2 : IMap W3 W1.heap.size (fun _ => none) := by
    have h : IMap W2 W1.heap.size (fun _ => none) := by rw [← hW2]; exact IMap.made W1
    exact h.keeps k3 id
  have hr : Row W3 W2.heap.size 59 [.int .i64 (n : Int), .map (some w.heap.size), .slice none 0 0, .map (some W1.heap.size), .bool false, .int .i64 0, .bool false] := by rw [← hW3]; exact heap_alloc_new W2 _
  have fin : DskAt W3 (fun k => w.heap.size ≤ k) W2.heap.size (Dk.fresh n) :=
    ⟨w.heap.size, W1.heap.size, none, 0, _, _, hr, m1, m2, World.ownsRow_nil _ _ _ _, by omega, (by omega : w.heap.size ≤ W2.heap.size), Nat.le_refl _, (by omega : w.heap.size ≤ W1.heap.size), fun k hk => (by cases hk), fun i => rfl, fun i => .inl ⟨rfl, fun g => rfl⟩,
      ⟨h1, h2, fun i => (List.length_replicate : (List.replicate 256 (0 : UInt8)).length = 256), fun p hp => (by cases hp), (by show (-9223372036854775808 : Int) ≤ 0 ∧ (0 : Int) ≤ 9223372036854775807; decide), fun h => (by cases h)⟩⟩
  have FIN := Lib.hid (And.intro fin ((k1.trans k2).trans k3))
  have hN1 : (1 : Int) ≤ n := by omega
  have hN2 : (n : Int) ≤ 65536 := by omega
  have HS := Lib.hid hs2
  clear fin m1 m2 hr k1 k2 k3 hs1 hs2
  go_enter Try.func10, Try.ntmps10
  go_wp2
  go_ret2
  exact ⟨_, rfl, by have := HS.out; omega, FIN.out.1, FIN.out.2⟩
/-- Nothing is loose any more. -/
theorem tighten_any (w : World) (F : Nat → Prop) (g : Nat) (s : Dk.St) (h : DskAt w F g s) (hF : ∀ k, w.heap.size ≤ k → F k) :
    Calls Try.prog 46 #[.pointer (some ⟨g, 0, none⟩)] w fun e w' => e = .returned (.tuple #[]) ∧ DskAt w' F g { s with loose := [] } ∧ Keeps (fun k => k = g) w w' := by
  obtain ⟨gb, lb, A, c, gf, lf, h⟩ := h
  have hmm := @run_makeMap Try.prog
  have hlt := h.row.lt
  obtain ⟨W1, hW1⟩ : ∃ W, w.alloc (.map #[] 0) = W := ⟨_, rfl⟩
  have k1 : Keeps (fun _ => False) w W1 := by rw [← hW1]; exact (Keeps.refl _ _).alloc _
  have hr1 := h.row.keeps k1 id
  have c2 : W1.cell? ⟨g, 2, none⟩ = some (.slice A s.loose.length c) := hr1.cell 2
  have c3 : W1.cell? ⟨g, 3, none⟩ = some (.map (some lb)) := hr1.cell 3
  have f2 := hr1.frozen 2
  have f3 := hr1.frozen 3
  have m1 : IMap W1 w.heap.size (fun _ => none) := by rw [← hW1]; exact IMap.made w
  have hne : w.heap.size ≠ g := by omega
  have fin : DskAt ((W1.setCell ⟨g, 2, none⟩ (.slice none 0 0)).setCell ⟨g, 3, none⟩ (.map (some w.heap.size))) F g { s with loose := [] } ∧ Keeps (fun k => k = g) w ((W1.setCell ⟨g, 2, none⟩ (.slice none 0 0)).setCell ⟨g, 3, none⟩ (.map (some w.heap.size))) := by
    have hk : Keeps (fun k => k = g) W1 ((W1.setCell ⟨g, 2, none⟩ (.slice none 0 0)).setCell ⟨g, 3, none⟩ (.map (some w.heap.size))) := ((Keeps.refl (fun k => k = g) W1).setCell (p := ⟨g, 2, none⟩) (fun _ => rfl) _).setCell (p := ⟨g, 3, none⟩) (fun _ => rfl) _
    have hr := (hr1.set 2 (.slice none 0 0)).set 3 (.map (some w.heap.size))
    exact ⟨⟨gb, w.heap.size, none, 0, gf, _, hr, (h.good.keeps k1 id).keeps hk h.gb_ne, m1.keeps hk hne, World.ownsRow_nil _ _ _ _, (by have := h.good.lt; omega), h.fg, h.fgb, hF _ (Nat.le_refl _), fun k hk => (by cases hk), h.gv, fun i => .inl ⟨rfl, fun g => rfl⟩,
      ⟨h.ok.lo, h.ok.hi, h.ok.good, fun p hp => (by cases hp), h.ok.wf, h.ok.aft⟩⟩, (k1.mono (fun _ _ h => h.elim)).trans' hk (fun i _ e => e)⟩
  have FIN := Lib.hid fin
  clear h fin m1 hr1 k1 hlt
  go_enter Try.func46, Try.ntmps46
  go_wp2
  go_end0
  exact ⟨rfl, FIN.out.1, FIN.out.2⟩
end Go.Proofs.Ytnhegnncmjmafaa
