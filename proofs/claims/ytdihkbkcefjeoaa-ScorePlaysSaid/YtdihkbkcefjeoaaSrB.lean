/-
  The document's own table: one is blamed, one is set.
-/
import Derived.Test.YtdihkbkcefjeoaaSrA
import Derived.Test.YtdihkbkcefjeoaaEq
namespace Go.Proofs.Ytdihkbkcefjeoaa
open Go.RowKit Go.BigFrame
set_option linter.unusedVariables false
set_option linter.unusedSimpArgs false

theorem cell_own2 {w : World} {base n c : Nat} {e : TypeId} {g : Nat} {ps : List (Int × Int)} (h : w.ownsRow base e 2 (.slice (some ⟨g, 0, none⟩) n c) n (pcells ps)) {i : Nat} {p : Int × Int} (hp : ps[i]? = some p) (hi : i < n) :
    w.cell? ⟨g, i * 2, none⟩ = some (.int .i64 p.1) ∧ w.cell? ⟨g, i * 2 + 1, none⟩ = some (.int .i64 p.2) := by
  obtain ⟨h1, h2⟩ := pcells_get ps i p hp
  exact ⟨(h.cellAt _ (by omega)).trans h1, (h.cellAt _ (by omega)).trans h2⟩
theorem range_own2 {w : World} {base n c : Nat} {e : TypeId} {g : Nat} {ps : List (Int × Int)} (h : w.ownsRow base e 2 (.slice (some ⟨g, 0, none⟩) n c) n (pcells ps)) {i : Nat} {p : Int × Int} (hp : ps[i]? = some p) (hi : i < n) : w.rangeAt g (i * 2) (pcs p) := by
  obtain ⟨h1, h2⟩ := cell_own2 h hp hi
  intro j v hv
  match j, hv with
  | 0, hv => obtain rfl : Value.int .i64 p.1 = v := by simpa [pcs] using hv
             exact h1
  | 1, hv => obtain rfl : Value.int .i64 p.2 = v := by simpa [pcs] using hv
             exact h2
  | j + 2, hv => simp [pcs] at hv
set_option maxRecDepth 100000 in
set_option maxHeartbeats 2000000 in
theorem rblame_low (L H : Int) (A : Option Addr) (n c : Nat) (ps : List (Int × Int)) (k m : Int) (w : World) (hg : w.ownsRow 0 42 2 (.slice A n c) n (pcells ps)) (h : k < 0) :
    Calls Try.prog 11 #[.agg (tcs L H A n c), .int .i64 k, .int .i64 m] w fun e w' => e = .returned (.tuple #[.agg (tcs L H A n c), .bool false]) ∧ Keeps (fun _ => False) w w' := by
  have d1 : decide (k < 0) = true := decide_eq_true h
  clear h
  obtain ⟨ZT, hZT⟩ : ∃ Z, tcs 0 0 none 0 0 = Z := ⟨_, rfl⟩
  have hzt : ∀ V : World, (zeroValue 30).run Try.prog V = .ok (.agg ZT) V := fun V => by rw [← hZT]; exact zero_T V
  obtain ⟨TC, hTC⟩ : ∃ C, tcs L H A n c = C := ⟨_, rfl⟩
  have STC : Hid ((Try.prog.info? 30).map (·.size) = some TC.size) := Lib.hid (by rw [← hTC]; exact size_T)
  have NZT : Hid (ZT.size = 3) := Lib.hid (by rw [← hZT]; rfl)
  have NTC : Hid (ZT.size = TC.size) := Lib.hid (by rw [← hZT, ← hTC]; rfl)
  have OTC : Hid (TC.all (·.oneCell') = true) := Lib.hid (by rw [← hTC]; exact tcs_one _ _ _ _ _)
  obtain ⟨b3, hb3⟩ : ∃ x, w.heap.size = x := ⟨_, rfl⟩
  obtain ⟨W1, hW1⟩ : ∃ V, w.alloc (.cells TC 30) = V := ⟨_, rfl⟩
  have k1 : Keeps (fun _ => False) w W1 := by rw [← hW1]; exact (Keeps.refl _ _).alloc _
  have r1 : Row W1 b3 30 [.int .i64 L, .int .i64 H, .slice A n c] := by rw [← hW1, ← hb3, ← hTC]; exact heap_alloc_new w _
  have k2 : Keeps (fun _ => False) W1 W1 := Keeps.refl _ _
  obtain ⟨b6, hb6⟩ : ∃ x, W1.heap.size = x := ⟨_, rfl⟩
  obtain ⟨W3, hW3⟩ : ∃ V, W1.alloc (.cells ZT 30) = V := ⟨_, rfl⟩
  have k3 : Keeps (fun _ => False) W1 W3 := by rw [← hW3]; exact (Keeps.refl _ _).alloc _
  have r13 := r1.keeps (k2.trans k3) id
  have r3 : W3.heap[b6]? = some (.cells ZT 30 (0, 0)) := by rw [← hW3, ← hb6]; exact heap_alloc_new W1 _
  have c30 : W3.cell? ⟨b3, 0, none⟩ = some (.int .i64 L) := r13.cell 0
  have c31 : W3.cell? ⟨b3, 1, none⟩ = some (.int .i64 H) := r13.cell 1
  have c32 : W3.cell? ⟨b3, 2, none⟩ = some (.slice A n c) := r13.cell 2
  have hbb : w.heap.size ≤ b3 ∧ b3 < b6 ∧ b6 < W3.heap.size := by
    have h1 := (Array.getElem?_eq_some_iff.1 r3).1
    have h2 := (r1.keeps k2 id).lt
    omega
  have K3 := Lib.hid ((k1.trans k2).trans k3)
  have HG3 := Lib.hid (((k1.trans k2).trans k3).owns hg (fun _ _ => id))
  have HG := Lib.hid hg
  have R13 : Hid (W3.heap[b3]? = some (.cells TC 30 (0, 0))) := Lib.hid (by rw [← hTC]; exact r13)
  have R3 := Lib.hid r3
  have HBB := Lib.hid hbb
  have HTC := Lib.hid hTC
  have hr30 : Row W3 b6 30 [.int .i64 0, .int .i64 0, .slice none 0 0] := by
    have h := r3
    rw [← hZT] at h
    exact h
  have c60 : W3.cell? ⟨b6, 0, none⟩ = some (.int .i64 0) := hr30.cell 0
  have c61 : W3.cell? ⟨b6, 1, none⟩ = some (.int .i64 0) := hr30.cell 1
  have c62 : W3.cell? ⟨b6, 2, none⟩ = some (.slice none 0 0) := hr30.cell 2
  have f60 := hr30.frozen 0
  have f61 := hr30.frozen 1
  have f62 := hr30.frozen 2
  obtain ⟨w7, hw7⟩ : ∃ V, ((W3.setCell ⟨b6, 0, none⟩ (.int .i64 L)).setCell ⟨b6, 1, none⟩ (.int .i64 H)).setCell ⟨b6, 2, none⟩ (.slice A n c) = V := ⟨_, rfl⟩
  have hr7 : Row w7 b6 30 [.int .i64 L, .int .i64 H, .slice A n c] := by
    rw [← hw7]
    exact ((hr30.set 0 (.int .i64 L)).set 1 (.int .i64 H)).set 2 (.slice A n c)
  have R7 : Hid (w7.heap[b6]? = some (.cells TC 30 (0, 0))) := Lib.hid (by rw [← hTC]; exact hr7)
  have K7 : Hid (Keeps (fun _ => False) w w7) := Lib.hid (K3.out.trans' (T := fun k => k = b6) (by rw [← hw7]; exact (((Keeps.refl (fun k => k = b6) W3).setCell (p := ⟨b6, 0, none⟩) (fun _ => rfl) _).setCell (p := ⟨b6, 1, none⟩) (fun _ => rfl) _).setCell (p := ⟨b6, 2, none⟩) (fun _ => rfl) _) (fun j hj e => by omega))
  have HG7 := Lib.hid (K7.out.owns hg (fun _ _ => id))
  rw [hTC]
  clear hg hZT hTC k1 k2 k3 r1 r13 r3 hbb hr30 hr7

  go_enter Try.func11, Try.ntmps11
  go_wp2
  refine bodyPost_ret (results_cell_tmp13 rfl _ _ b6 30 TC (0, 0) _ rfl (by first | exact R7.out | (rw [hw7]; exact R7.out)) Try.underlying30 rfl STC.out) rfl ?_
  exact ⟨rfl, by first | exact K7.out | (rw [hw7]; exact K7.out)⟩
set_option maxRecDepth 100000 in
set_option maxHeartbeats 2000000 in
theorem rblame_high (L H : Int) (A : Option Addr) (n c : Nat) (ps : List (Int × Int)) (k m : Int) (w : World) (hg : w.ownsRow 0 42 2 (.slice A n c) n (pcells ps)) (h : (n : Int) ≤ k) (h1 : 1 ≤ n) :
    Calls Try.prog 11 #[.agg (tcs L H A n c), .int .i64 k, .int .i64 m] w fun e w' => e = .returned (.tuple #[.agg (tcs L H A n c), .bool false]) ∧ Keeps (fun _ => False) w w' := by
  obtain ⟨g0, rfl⟩ := own_some13 hg (by omega)
  obtain ⟨k, rfl⟩ := Int.eq_ofNat_of_zero_le (show 0 ≤ k by omega)
  have d2 : (n : Int) ≤ (k : Int) := h
  have d3 : n ≤ k := by omega
  clear h
  obtain ⟨ZT, hZT⟩ : ∃ Z, tcs 0 0 none 0 0 = Z := ⟨_, rfl⟩
  have hzt : ∀ V : World, (zeroValue 30).run Try.prog V = .ok (.agg ZT) V := fun V => by rw [← hZT]; exact zero_T V
  obtain ⟨TC, hTC⟩ : ∃ C, tcs L H (some ⟨g0, 0, none⟩) n c = C := ⟨_, rfl⟩
  have STC : Hid ((Try.prog.info? 30).map (·.size) = some TC.size) := Lib.hid (by rw [← hTC]; exact size_T)
  have NZT : Hid (ZT.size = 3) := Lib.hid (by rw [← hZT]; rfl)
  have NTC : Hid (ZT.size = TC.size) := Lib.hid (by rw [← hZT, ← hTC]; rfl)
  have OTC : Hid (TC.all (·.oneCell') = true) := Lib.hid (by rw [← hTC]; exact tcs_one _ _ _ _ _)
  obtain ⟨b3, hb3⟩ : ∃ x, w.heap.size = x := ⟨_, rfl⟩
  obtain ⟨W1, hW1⟩ : ∃ V, w.alloc (.cells TC 30) = V := ⟨_, rfl⟩
  have k1 : Keeps (fun _ => False) w W1 := by rw [← hW1]; exact (Keeps.refl _ _).alloc _
  have r1 : Row W1 b3 30 [.int .i64 L, .int .i64 H, .slice (some ⟨g0, 0, none⟩) n c] := by rw [← hW1, ← hb3, ← hTC]; exact heap_alloc_new w _
  have k2 : Keeps (fun _ => False) W1 W1 := Keeps.refl _ _
  obtain ⟨b6, hb6⟩ : ∃ x, W1.heap.size = x := ⟨_, rfl⟩
  obtain ⟨W3, hW3⟩ : ∃ V, W1.alloc (.cells ZT 30) = V := ⟨_, rfl⟩
  have k3 : Keeps (fun _ => False) W1 W3 := by rw [← hW3]; exact (Keeps.refl _ _).alloc _
  have r13 := r1.keeps (k2.trans k3) id
  have r3 : W3.heap[b6]? = some (.cells ZT 30 (0, 0)) := by rw [← hW3, ← hb6]; exact heap_alloc_new W1 _
  have c30 : W3.cell? ⟨b3, 0, none⟩ = some (.int .i64 L) := r13.cell 0
  have c31 : W3.cell? ⟨b3, 1, none⟩ = some (.int .i64 H) := r13.cell 1
  have c32 : W3.cell? ⟨b3, 2, none⟩ = some (.slice (some ⟨g0, 0, none⟩) n c) := r13.cell 2
  have hbb : w.heap.size ≤ b3 ∧ b3 < b6 ∧ b6 < W3.heap.size := by
    have h1 := (Array.getElem?_eq_some_iff.1 r3).1
    have h2 := (r1.keeps k2 id).lt
    omega
  have K3 := Lib.hid ((k1.trans k2).trans k3)
  have HG3 := Lib.hid (((k1.trans k2).trans k3).owns hg (fun _ _ => id))
  have HG := Lib.hid hg
  have R13 : Hid (W3.heap[b3]? = some (.cells TC 30 (0, 0))) := Lib.hid (by rw [← hTC]; exact r13)
  have R3 := Lib.hid r3
  have HBB := Lib.hid hbb
  have HTC := Lib.hid hTC
  have hr30 : Row W3 b6 30 [.int .i64 0, .int .i64 0, .slice none 0 0] := by
    have h := r3
    rw [← hZT] at h
    exact h
  have c60 : W3.cell? ⟨b6, 0, none⟩ = some (.int .i64 0) := hr30.cell 0
  have c61 : W3.cell? ⟨b6, 1, none⟩ = some (.int .i64 0) := hr30.cell 1
  have c62 : W3.cell? ⟨b6, 2, none⟩ = some (.slice none 0 0) := hr30.cell 2
  have f60 := hr30.frozen 0
  have f61 := hr30.frozen 1
  have f62 := hr30.frozen 2
  obtain ⟨w7, hw7⟩ : ∃ V, ((W3.setCell ⟨b6, 0, none⟩ (.int .i64 L)).setCell ⟨b6, 1, none⟩ (.int .i64 H)).setCell ⟨b6, 2, none⟩ (.slice (some ⟨g0, 0, none⟩) n c) = V := ⟨_, rfl⟩
  have hr7 : Row w7 b6 30 [.int .i64 L, .int .i64 H, .slice (some ⟨g0, 0, none⟩) n c] := by
    rw [← hw7]
    exact ((hr30.set 0 (.int .i64 L)).set 1 (.int .i64 H)).set 2 (.slice (some ⟨g0, 0, none⟩) n c)
  have R7 : Hid (w7.heap[b6]? = some (.cells TC 30 (0, 0))) := Lib.hid (by rw [← hTC]; exact hr7)
  have K7 : Hid (Keeps (fun _ => False) w w7) := Lib.hid (K3.out.trans' (T := fun k => k = b6) (by rw [← hw7]; exact (((Keeps.refl (fun k => k = b6) W3).setCell (p := ⟨b6, 0, none⟩) (fun _ => rfl) _).setCell (p := ⟨b6, 1, none⟩) (fun _ => rfl) _).setCell (p := ⟨b6, 2, none⟩) (fun _ => rfl) _) (fun j hj e => by omega))
  have HG7 := Lib.hid (K7.out.owns hg (fun _ _ => id))
  rw [hTC]
  clear hg hZT hTC k1 k2 k3 r1 r13 r3 hbb hr30 hr7

  go_enter Try.func11, Try.ntmps11
  go_wp2
  refine bodyPost_ret (results_cell_tmp13 rfl _ _ b6 30 TC (0, 0) _ rfl (by first | exact R7.out | (rw [hw7]; exact R7.out)) Try.underlying30 rfl STC.out) rfl ?_
  exact ⟨rfl, by first | exact K7.out | (rw [hw7]; exact K7.out)⟩
set_option maxRecDepth 100000 in
set_option maxHeartbeats 2000000 in
theorem rblame_away (L H : Int) (A : Option Addr) (n c : Nat) (ps : List (Int × Int)) (k m : Int) (w : World) (hg : w.ownsRow 0 42 2 (.slice A n c) n (pcells ps)) (p : Int × Int) (h0 : 0 ≤ k) (h1 : k < (n : Int)) (hp : ps[k.toNat]? = some p) (hy : 0 < p.2) :
    Calls Try.prog 11 #[.agg (tcs L H A n c), .int .i64 k, .int .i64 m] w fun e w' => e = .returned (.tuple #[.agg (tcs L H A n c), .bool false]) ∧ Keeps (fun _ => False) w w' := by
  obtain ⟨g0, rfl⟩ := own_some13 hg (by omega)
  obtain ⟨k, rfl⟩ := Int.eq_ofNat_of_zero_le h0
  have hkn : k < n := by omega
  rw [Int.toNat_natCast] at hp
  obtain ⟨x, y⟩ := p
  dsimp only at hy
  have d3 : decide (y > 0) = true := decide_eq_true hy
  obtain ⟨ZT, hZT⟩ : ∃ Z, tcs 0 0 none 0 0 = Z := ⟨_, rfl⟩
  have hzt : ∀ V : World, (zeroValue 30).run Try.prog V = .ok (.agg ZT) V := fun V => by rw [← hZT]; exact zero_T V
  obtain ⟨TC, hTC⟩ : ∃ C, tcs L H (some ⟨g0, 0, none⟩) n c = C := ⟨_, rfl⟩
  have STC : Hid ((Try.prog.info? 30).map (·.size) = some TC.size) := Lib.hid (by rw [← hTC]; exact size_T)
  have NZT : Hid (ZT.size = 3) := Lib.hid (by rw [← hZT]; rfl)
  have NTC : Hid (ZT.size = TC.size) := Lib.hid (by rw [← hZT, ← hTC]; rfl)
  have OTC : Hid (TC.all (·.oneCell') = true) := Lib.hid (by rw [← hTC]; exact tcs_one _ _ _ _ _)
  obtain ⟨b3, hb3⟩ : ∃ x, w.heap.size = x := ⟨_, rfl⟩
  obtain ⟨W1, hW1⟩ : ∃ V, w.alloc (.cells TC 30) = V := ⟨_, rfl⟩
  have k1 : Keeps (fun _ => False) w W1 := by rw [← hW1]; exact (Keeps.refl _ _).alloc _
  have r1 : Row W1 b3 30 [.int .i64 L, .int .i64 H, .slice (some ⟨g0, 0, none⟩) n c] := by rw [← hW1, ← hb3, ← hTC]; exact heap_alloc_new w _
  have k2 : Keeps (fun _ => False) W1 W1 := Keeps.refl _ _
  obtain ⟨b6, hb6⟩ : ∃ x, W1.heap.size = x := ⟨_, rfl⟩
  obtain ⟨W3, hW3⟩ : ∃ V, W1.alloc (.cells ZT 30) = V := ⟨_, rfl⟩
  have k3 : Keeps (fun _ => False) W1 W3 := by rw [← hW3]; exact (Keeps.refl _ _).alloc _
  have r13 := r1.keeps (k2.trans k3) id
  have r3 : W3.heap[b6]? = some (.cells ZT 30 (0, 0)) := by rw [← hW3, ← hb6]; exact heap_alloc_new W1 _
  have c30 : W3.cell? ⟨b3, 0, none⟩ = some (.int .i64 L) := r13.cell 0
  have c31 : W3.cell? ⟨b3, 1, none⟩ = some (.int .i64 H) := r13.cell 1
  have c32 : W3.cell? ⟨b3, 2, none⟩ = some (.slice (some ⟨g0, 0, none⟩) n c) := r13.cell 2
  have hbb : w.heap.size ≤ b3 ∧ b3 < b6 ∧ b6 < W3.heap.size := by
    have h1 := (Array.getElem?_eq_some_iff.1 r3).1
    have h2 := (r1.keeps k2 id).lt
    omega
  have K3 := Lib.hid ((k1.trans k2).trans k3)
  have HG3 := Lib.hid (((k1.trans k2).trans k3).owns hg (fun _ _ => id))
  have HG := Lib.hid hg
  have R13 : Hid (W3.heap[b3]? = some (.cells TC 30 (0, 0))) := Lib.hid (by rw [← hTC]; exact r13)
  have R3 := Lib.hid r3
  have HBB := Lib.hid hbb
  have HTC := Lib.hid hTC
  have hr30 : Row W3 b6 30 [.int .i64 0, .int .i64 0, .slice none 0 0] := by
    have h := r3
    rw [← hZT] at h
    exact h
  have c60 : W3.cell? ⟨b6, 0, none⟩ = some (.int .i64 0) := hr30.cell 0
  have c61 : W3.cell? ⟨b6, 1, none⟩ = some (.int .i64 0) := hr30.cell 1
  have c62 : W3.cell? ⟨b6, 2, none⟩ = some (.slice none 0 0) := hr30.cell 2
  have f60 := hr30.frozen 0
  have f61 := hr30.frozen 1
  have f62 := hr30.frozen 2
  obtain ⟨w7, hw7⟩ : ∃ V, ((W3.setCell ⟨b6, 0, none⟩ (.int .i64 L)).setCell ⟨b6, 1, none⟩ (.int .i64 H)).setCell ⟨b6, 2, none⟩ (.slice (some ⟨g0, 0, none⟩) n c) = V := ⟨_, rfl⟩
  have hr7 : Row w7 b6 30 [.int .i64 L, .int .i64 H, .slice (some ⟨g0, 0, none⟩) n c] := by
    rw [← hw7]
    exact ((hr30.set 0 (.int .i64 L)).set 1 (.int .i64 H)).set 2 (.slice (some ⟨g0, 0, none⟩) n c)
  have R7 : Hid (w7.heap[b6]? = some (.cells TC 30 (0, 0))) := Lib.hid (by rw [← hTC]; exact hr7)
  have K7 : Hid (Keeps (fun _ => False) w w7) := Lib.hid (K3.out.trans' (T := fun k => k = b6) (by rw [← hw7]; exact (((Keeps.refl (fun k => k = b6) W3).setCell (p := ⟨b6, 0, none⟩) (fun _ => rfl) _).setCell (p := ⟨b6, 1, none⟩) (fun _ => rfl) _).setCell (p := ⟨b6, 2, none⟩) (fun _ => rfl) _) (fun j hj e => by omega))
  have HG7 := Lib.hid (K7.out.owns hg (fun _ _ => id))
  rw [hTC]
  clear hg hZT hTC k1 k2 k3 r1 r13 r3 hbb hr30 hr7
  obtain ⟨cx, cy⟩ := cell_own2 HG3.out hp hkn
  clear hp
  go_enter Try.func11, Try.ntmps11
  go_wp2
  refine bodyPost_ret (results_cell_tmp13 rfl _ _ b6 30 TC (0, 0) _ rfl (by first | exact R7.out | (rw [hw7]; exact R7.out)) Try.underlying30 rfl STC.out) rfl ?_
  exact ⟨rfl, by first | exact K7.out | (rw [hw7]; exact K7.out)⟩
set_option maxRecDepth 100000 in
set_option maxHeartbeats 2000000 in
theorem rblame_few (L H : Int) (A : Option Addr) (n c : Nat) (ps : List (Int × Int)) (k m : Int) (w : World) (hg : w.ownsRow 0 42 2 (.slice A n c) n (pcells ps)) (p : Int × Int) (h0 : 0 ≤ k) (h1 : k < (n : Int)) (hp : ps[k.toNat]? = some p) (hy : ¬ 0 < p.2) (hm : m < 1) :
    Calls Try.prog 11 #[.agg (tcs L H A n c), .int .i64 k, .int .i64 m] w fun e w' => e = .returned (.tuple #[.agg (tcs L H A n c), .bool false]) ∧ Keeps (fun _ => False) w w' := by
  obtain ⟨g0, rfl⟩ := own_some13 hg (by omega)
  obtain ⟨k, rfl⟩ := Int.eq_ofNat_of_zero_le h0
  have hkn : k < n := by omega
  rw [Int.toNat_natCast] at hp
  obtain ⟨x, y⟩ := p
  dsimp only at hy
  have d3 : decide (y > 0) = false := decide_eq_false hy
  have d4 : decide (m < 1) = true := decide_eq_true hm
  obtain ⟨ZT, hZT⟩ : ∃ Z, tcs 0 0 none 0 0 = Z := ⟨_, rfl⟩
  have hzt : ∀ V : World, (zeroValue 30).run Try.prog V = .ok (.agg ZT) V := fun V => by rw [← hZT]; exact zero_T V
  obtain ⟨TC, hTC⟩ : ∃ C, tcs L H (some ⟨g0, 0, none⟩) n c = C := ⟨_, rfl⟩
  have STC : Hid ((Try.prog.info? 30).map (·.size) = some TC.size) := Lib.hid (by rw [← hTC]; exact size_T)
  have NZT : Hid (ZT.size = 3) := Lib.hid (by rw [← hZT]; rfl)
  have NTC : Hid (ZT.size = TC.size) := Lib.hid (by rw [← hZT, ← hTC]; rfl)
  have OTC : Hid (TC.all (·.oneCell') = true) := Lib.hid (by rw [← hTC]; exact tcs_one _ _ _ _ _)
  obtain ⟨b3, hb3⟩ : ∃ x, w.heap.size = x := ⟨_, rfl⟩
  obtain ⟨W1, hW1⟩ : ∃ V, w.alloc (.cells TC 30) = V := ⟨_, rfl⟩
  have k1 : Keeps (fun _ => False) w W1 := by rw [← hW1]; exact (Keeps.refl _ _).alloc _
  have r1 : Row W1 b3 30 [.int .i64 L, .int .i64 H, .slice (some ⟨g0, 0, none⟩) n c] := by rw [← hW1, ← hb3, ← hTC]; exact heap_alloc_new w _
  have k2 : Keeps (fun _ => False) W1 W1 := Keeps.refl _ _
  obtain ⟨b6, hb6⟩ : ∃ x, W1.heap.size = x := ⟨_, rfl⟩
  obtain ⟨W3, hW3⟩ : ∃ V, W1.alloc (.cells ZT 30) = V := ⟨_, rfl⟩
  have k3 : Keeps (fun _ => False) W1 W3 := by rw [← hW3]; exact (Keeps.refl _ _).alloc _
  have r13 := r1.keeps (k2.trans k3) id
  have r3 : W3.heap[b6]? = some (.cells ZT 30 (0, 0)) := by rw [← hW3, ← hb6]; exact heap_alloc_new W1 _
  have c30 : W3.cell? ⟨b3, 0, none⟩ = some (.int .i64 L) := r13.cell 0
  have c31 : W3.cell? ⟨b3, 1, none⟩ = some (.int .i64 H) := r13.cell 1
  have c32 : W3.cell? ⟨b3, 2, none⟩ = some (.slice (some ⟨g0, 0, none⟩) n c) := r13.cell 2
  have hbb : w.heap.size ≤ b3 ∧ b3 < b6 ∧ b6 < W3.heap.size := by
    have h1 := (Array.getElem?_eq_some_iff.1 r3).1
    have h2 := (r1.keeps k2 id).lt
    omega
  have K3 := Lib.hid ((k1.trans k2).trans k3)
  have HG3 := Lib.hid (((k1.trans k2).trans k3).owns hg (fun _ _ => id))
  have HG := Lib.hid hg
  have R13 : Hid (W3.heap[b3]? = some (.cells TC 30 (0, 0))) := Lib.hid (by rw [← hTC]; exact r13)
  have R3 := Lib.hid r3
  have HBB := Lib.hid hbb
  have HTC := Lib.hid hTC
  have hr30 : Row W3 b6 30 [.int .i64 0, .int .i64 0, .slice none 0 0] := by
    have h := r3
    rw [← hZT] at h
    exact h
  have c60 : W3.cell? ⟨b6, 0, none⟩ = some (.int .i64 0) := hr30.cell 0
  have c61 : W3.cell? ⟨b6, 1, none⟩ = some (.int .i64 0) := hr30.cell 1
  have c62 : W3.cell? ⟨b6, 2, none⟩ = some (.slice none 0 0) := hr30.cell 2
  have f60 := hr30.frozen 0
  have f61 := hr30.frozen 1
  have f62 := hr30.frozen 2
  obtain ⟨w7, hw7⟩ : ∃ V, ((W3.setCell ⟨b6, 0, none⟩ (.int .i64 L)).setCell ⟨b6, 1, none⟩ (.int .i64 H)).setCell ⟨b6, 2, none⟩ (.slice (some ⟨g0, 0, none⟩) n c) = V := ⟨_, rfl⟩
  have hr7 : Row w7 b6 30 [.int .i64 L, .int .i64 H, .slice (some ⟨g0, 0, none⟩) n c] := by
    rw [← hw7]
    exact ((hr30.set 0 (.int .i64 L)).set 1 (.int .i64 H)).set 2 (.slice (some ⟨g0, 0, none⟩) n c)
  have R7 : Hid (w7.heap[b6]? = some (.cells TC 30 (0, 0))) := Lib.hid (by rw [← hTC]; exact hr7)
  have K7 : Hid (Keeps (fun _ => False) w w7) := Lib.hid (K3.out.trans' (T := fun k => k = b6) (by rw [← hw7]; exact (((Keeps.refl (fun k => k = b6) W3).setCell (p := ⟨b6, 0, none⟩) (fun _ => rfl) _).setCell (p := ⟨b6, 1, none⟩) (fun _ => rfl) _).setCell (p := ⟨b6, 2, none⟩) (fun _ => rfl) _) (fun j hj e => by omega))
  have HG7 := Lib.hid (K7.out.owns hg (fun _ _ => id))
  rw [hTC]
  clear hg hZT hTC k1 k2 k3 r1 r13 r3 hbb hr30 hr7
  obtain ⟨cx, cy⟩ := cell_own2 HG3.out hp hkn
  clear hp
  go_enter Try.func11, Try.ntmps11
  go_wp2
  refine bodyPost_ret (results_cell_tmp13 rfl _ _ b6 30 TC (0, 0) _ rfl (by first | exact R7.out | (rw [hw7]; exact R7.out)) Try.underlying30 rfl STC.out) rfl ?_
  exact ⟨rfl, by first | exact K7.out | (rw [hw7]; exact K7.out)⟩
set_option maxRecDepth 100000 in
set_option maxHeartbeats 2000000 in
theorem rblame_over (L H : Int) (A : Option Addr) (n c : Nat) (ps : List (Int × Int)) (k : Nat) (m x y : Int) (w : World) (hg : w.ownsRow 0 42 2 (.slice A n c) n (pcells ps)) (hkn : k < n) (hn : n ≤ 64) (hp : ps[k]? = some (x, y)) (hy : ¬ 0 < y) (hm : 1 ≤ m) (hx : 0 ≤ x ∧ x < L) (hL : 1 ≤ L ∧ L ≤ 1000) (h : 2000 < m) :
    Calls Try.prog 11 #[.agg (tcs L H A n c), .int .i64 (k : Int), .int .i64 m] w fun e w' => ∃ A' c', e = .returned (.tuple #[.agg (tcs L H A' n c'), .bool true]) ∧ w'.ownsRow w.heap.size 42 2 (.slice A' n c') n (pcells (ps.set k (L / 2, H))) ∧ Keeps (fun _ => False) w w' := by
  obtain ⟨g0, rfl⟩ := own_some13 hg (by omega)
  obtain ⟨L2, hL2⟩ : ∃ z, L / 2 = z := ⟨_, rfl⟩
  have hq1 : L.tdiv 2 = L2 := by rw [← hL2]; exact Int.tdiv_eq_ediv_of_nonneg (by omega)
  have hq2 : IntKind.i64.wrap L2 = L2 := IntWalk.i64_in _ (by omega)
  rw [hL2]
  obtain ⟨ZT, hZT⟩ : ∃ Z, tcs 0 0 none 0 0 = Z := ⟨_, rfl⟩
  have hzt : ∀ V : World, (zeroValue 30).run Try.prog V = .ok (.agg ZT) V := fun V => by rw [← hZT]; exact zero_T V
  obtain ⟨TC, hTC⟩ : ∃ C, tcs L H (some ⟨g0, 0, none⟩) n c = C := ⟨_, rfl⟩
  have STC : Hid ((Try.prog.info? 30).map (·.size) = some TC.size) := Lib.hid (by rw [← hTC]; exact size_T)
  have NZT : Hid (ZT.size = 3) := Lib.hid (by rw [← hZT]; rfl)
  have NTC : Hid (ZT.size = TC.size) := Lib.hid (by rw [← hZT, ← hTC]; rfl)
  have OTC : Hid (TC.all (·.oneCell') = true) := Lib.hid (by rw [← hTC]; exact tcs_one _ _ _ _ _)
  obtain ⟨b3, hb3⟩ : ∃ x, w.heap.size = x := ⟨_, rfl⟩
  obtain ⟨W1, hW1⟩ : ∃ V, w.alloc (.cells TC 30) = V := ⟨_, rfl⟩
  have k1 : Keeps (fun _ => False) w W1 := by rw [← hW1]; exact (Keeps.refl _ _).alloc _
  have r1 : Row W1 b3 30 [.int .i64 L, .int .i64 H, .slice (some ⟨g0, 0, none⟩) n c] := by rw [← hW1, ← hb3, ← hTC]; exact heap_alloc_new w _
  have k2 : Keeps (fun _ => False) W1 W1 := Keeps.refl _ _
  obtain ⟨b6, hb6⟩ : ∃ x, W1.heap.size = x := ⟨_, rfl⟩
  obtain ⟨W3, hW3⟩ : ∃ V, W1.alloc (.cells ZT 30) = V := ⟨_, rfl⟩
  have k3 : Keeps (fun _ => False) W1 W3 := by rw [← hW3]; exact (Keeps.refl _ _).alloc _
  have r13 := r1.keeps (k2.trans k3) id
  have r3 : W3.heap[b6]? = some (.cells ZT 30 (0, 0)) := by rw [← hW3, ← hb6]; exact heap_alloc_new W1 _
  have c30 : W3.cell? ⟨b3, 0, none⟩ = some (.int .i64 L) := r13.cell 0
  have c31 : W3.cell? ⟨b3, 1, none⟩ = some (.int .i64 H) := r13.cell 1
  have c32 : W3.cell? ⟨b3, 2, none⟩ = some (.slice (some ⟨g0, 0, none⟩) n c) := r13.cell 2
  have hbb : w.heap.size ≤ b3 ∧ b3 < b6 ∧ b6 < W3.heap.size := by
    have h1 := (Array.getElem?_eq_some_iff.1 r3).1
    have h2 := (r1.keeps k2 id).lt
    omega
  have K3 := Lib.hid ((k1.trans k2).trans k3)
  have HG3 := Lib.hid (((k1.trans k2).trans k3).owns hg (fun _ _ => id))
  have HG := Lib.hid hg
  have R13 : Hid (W3.heap[b3]? = some (.cells TC 30 (0, 0))) := Lib.hid (by rw [← hTC]; exact r13)
  have R3 := Lib.hid r3
  have HBB := Lib.hid hbb
  have HTC := Lib.hid hTC
  have hr30 : Row W3 b6 30 [.int .i64 0, .int .i64 0, .slice none 0 0] := by
    have h := r3
    rw [← hZT] at h
    exact h
  have c60 : W3.cell? ⟨b6, 0, none⟩ = some (.int .i64 0) := hr30.cell 0
  have c61 : W3.cell? ⟨b6, 1, none⟩ = some (.int .i64 0) := hr30.cell 1
  have c62 : W3.cell? ⟨b6, 2, none⟩ = some (.slice none 0 0) := hr30.cell 2
  have f60 := hr30.frozen 0
  have f61 := hr30.frozen 1
  have f62 := hr30.frozen 2
  obtain ⟨w7, hw7⟩ : ∃ V, ((W3.setCell ⟨b6, 0, none⟩ (.int .i64 L)).setCell ⟨b6, 1, none⟩ (.int .i64 H)).setCell ⟨b6, 2, none⟩ (.slice (some ⟨g0, 0, none⟩) n c) = V := ⟨_, rfl⟩
  have hr7 : Row w7 b6 30 [.int .i64 L, .int .i64 H, .slice (some ⟨g0, 0, none⟩) n c] := by
    rw [← hw7]
    exact ((hr30.set 0 (.int .i64 L)).set 1 (.int .i64 H)).set 2 (.slice (some ⟨g0, 0, none⟩) n c)
  have R7 : Hid (w7.heap[b6]? = some (.cells TC 30 (0, 0))) := Lib.hid (by rw [← hTC]; exact hr7)
  have K7 : Hid (Keeps (fun _ => False) w w7) := Lib.hid (K3.out.trans' (T := fun k => k = b6) (by rw [← hw7]; exact (((Keeps.refl (fun k => k = b6) W3).setCell (p := ⟨b6, 0, none⟩) (fun _ => rfl) _).setCell (p := ⟨b6, 1, none⟩) (fun _ => rfl) _).setCell (p := ⟨b6, 2, none⟩) (fun _ => rfl) _) (fun j hj e => by omega))
  have HG7 := Lib.hid (K7.out.owns hg (fun _ _ => id))
  have hTC2 := hTC
  rw [hTC]
  clear hg hZT hTC hTC2 k1 k2 k3 r1 r13 r3 hbb hr7
  obtain ⟨cx, cy⟩ := cell_own2 HG3.out hp hkn
  have hzp : ∀ V : World, (zeroValue 42).run Try.prog V = .ok (.agg #[.int .i64 0, .int .i64 0]) V := zero_P
  obtain ⟨b8, hb8⟩ : ∃ x, W3.heap.size = x := ⟨_, rfl⟩
  obtain ⟨W4, hW4⟩ : ∃ V, W3.alloc (.cells #[.int .i64 0, .int .i64 0] 42) = V := ⟨_, rfl⟩
  have k4 : Keeps (fun _ => False) W3 W4 := by rw [← hW4]; exact (Keeps.refl _ _).alloc _
  have r4 : Row W4 b8 42 [.int .i64 0, .int .i64 0] := by rw [← hW4, ← hb8]; exact heap_alloc_new W3 _
  have c80 : W4.cell? ⟨b8, 0, none⟩ = some (.int .i64 0) := r4.cell 0
  have c81 : W4.cell? ⟨b8, 1, none⟩ = some (.int .i64 0) := r4.cell 1
  have f80 := r4.frozen 0
  have f81 := r4.frozen 1
  obtain ⟨w5, hw5⟩ : ∃ V, (W4.setCell ⟨b8, 0, none⟩ (.int .i64 x)).setCell ⟨b8, 1, none⟩ (.int .i64 y) = V := ⟨_, rfl⟩
  have k45 : Keeps (fun j => j = b8) W4 w5 := by rw [← hw5]; exact ((Keeps.refl (fun k => k = b8) W4).setCell (p := ⟨b8, 0, none⟩) (fun _ => rfl) _).setCell (p := ⟨b8, 1, none⟩) (fun _ => rfl) _
  have k5 : Keeps (fun _ => False) W3 w5 := k4.trans' k45 (fun j hj e => by omega)
  have hrow5 : Row w5 b8 42 [.int .i64 x, .int .i64 y] := by rw [← hw5]; exact (r4.set 0 (.int .i64 x)).set 1 (.int .i64 y)
  have cq0 : w5.cell? ⟨b8, 0, none⟩ = some (.int .i64 x) := hrow5.cell 0
  have hrow3 : Row w5 b3 30 [.int .i64 L, .int .i64 H, .slice (some ⟨g0, 0, none⟩) n c] := by
    have h := (k5.block b3 (Array.getElem?_eq_some_iff.1 R13.out).1 id).trans R13.out
    rw [← HTC.out] at h
    exact h
  have c50 : w5.cell? ⟨b3, 0, none⟩ = some (.int .i64 L) := hrow3.cell 0
  have c51 : w5.cell? ⟨b3, 1, none⟩ = some (.int .i64 H) := hrow3.cell 1
  have c52 : w5.cell? ⟨b3, 2, none⟩ = some (.slice (some ⟨g0, 0, none⟩) n c) := hrow3.cell 2
  have R65 : Hid (Row w5 b6 30 [.int .i64 0, .int .i64 0, .slice none 0 0]) := Lib.hid (hr30.keeps k5 id)
  have K5 := Lib.hid (K3.out.trans k5)
  have hst : Calls Try.prog 23 #[.agg #[.int .i64 L, .int .i64 H, .slice (some ⟨g0, 0, none⟩) n c], .int .i64 (k : Int), .agg #[.int .i64 L2, .int .i64 H]] w5 (fun e w' => ∃ A' c', e = .returned (.agg #[.int .i64 L, .int .i64 H, .slice A' n c']) ∧ w'.ownsRow w5.heap.size 42 2 (.slice A' n c') n (pcells (ps.set k (L2, H))) ∧ Keeps (fun _ => False) w5 w') := rput_any L H (some ⟨g0, 0, none⟩) n c ps k (L2, H) w5 (k5.owns HG3.out (fun _ _ => id)) hkn hn
  have HST := Lib.hid hst
  have d1 : ¬ (k : Int) < 0 := by omega
  have d2 : (k : Int) < (n : Int) := by omega
  have d3 : decide (y > 0) = false := decide_eq_false hy
  have d4 : decide (m < 1) = false := decide_eq_false (by omega)
  have d5 : decide (m > 2000) = true := decide_eq_true h
  clear hp hy k4 r4 k45 k5 hrow5 hrow3 hst c60 c61 c62 f60 f61 f62 R7 K7 HG7 hw7 hr30
  clear h hL hL2 hx hm
  go_enter Try.func11, Try.ntmps11
  go_wp2_with fail
  refine (HST.out).mono ?_
  rintro e w8 ⟨A8, c8, rfl, ho8, k8⟩
  have hr8 : Row w8 b6 30 [.int .i64 0, .int .i64 0, .slice none 0 0] := R65.out.keeps k8 id
  have e60 : w8.cell? ⟨b6, 0, none⟩ = some (.int .i64 0) := hr8.cell 0
  have e61 : w8.cell? ⟨b6, 1, none⟩ = some (.int .i64 0) := hr8.cell 1
  have e62 : w8.cell? ⟨b6, 2, none⟩ = some (.slice none 0 0) := hr8.cell 2
  have g60 := hr8.frozen 0
  have g61 := hr8.frozen 1
  have g62 := hr8.frozen 2
  obtain ⟨w9, hw9⟩ : ∃ V, ((w8.setCell ⟨b6, 0, none⟩ (.int .i64 L)).setCell ⟨b6, 1, none⟩ (.int .i64 H)).setCell ⟨b6, 2, none⟩ (.slice A8 n c8) = V := ⟨_, rfl⟩
  have hr9 : Row w9 b6 30 [.int .i64 L, .int .i64 H, .slice A8 n c8] := by
    rw [← hw9]
    exact ((hr8.set 0 (.int .i64 L)).set 1 (.int .i64 H)).set 2 (.slice A8 n c8)
  have k9 : Keeps (fun j => j = b6) w8 w9 := by rw [← hw9]; exact (((Keeps.refl (fun k => k = b6) w8).setCell (p := ⟨b6, 0, none⟩) (fun _ => rfl) _).setCell (p := ⟨b6, 1, none⟩) (fun _ => rfl) _).setCell (p := ⟨b6, 2, none⟩) (fun _ => rfl) _
  have R9 : Hid (w9.heap[b6]? = some (.cells (tcs L H A8 n c8) 30 (0, 0))) := Lib.hid hr9
  have FIN : Hid (w9.ownsRow w.heap.size 42 2 (.slice A8 n c8) n (pcells (ps.set k (L2, H))) ∧ Keeps (fun _ => False) w w9) := Lib.hid (by
    have hb := HBB.out
    refine ⟨k9.owns (own_base ho8 K5.out.size) (fun j hj e => ?_), (K5.out.trans k8).trans' k9 (fun j hj e => by omega)⟩
    obtain ⟨_, _, hbj⟩ := own_block ho8 j hj
    have := R65.out.lt
    omega)
  clear ho8 k8 k9 hr8 hr9 c50 c51 c52 cq0
  go_wp2
  refine bodyPost_ret (results_cell_tmp13 rfl _ _ b6 30 (tcs L H A8 n c8) (0, 0) _ rfl (by first | exact R9.out | (rw [hw9]; exact R9.out)) Try.underlying30 rfl size_T) rfl ?_
  exact ⟨_, _, rfl, by first | exact FIN.out.1 | (rw [hw9]; exact FIN.out.1), by first | exact FIN.out.2 | (rw [hw9]; exact FIN.out.2)⟩
set_option maxRecDepth 100000 in
set_option maxHeartbeats 2000000 in
theorem rblame_hit (L H : Int) (A : Option Addr) (n c : Nat) (ps : List (Int × Int)) (k : Nat) (m x y : Int) (w : World) (hg : w.ownsRow 0 42 2 (.slice A n c) n (pcells ps)) (hkn : k < n) (hn : n ≤ 64) (hp : ps[k]? = some (x, y)) (hy : ¬ 0 < y) (hm : 1 ≤ m) (hx : 0 ≤ x ∧ x < L) (hL : 1 ≤ L ∧ L ≤ 1000) (h : m ≤ 2000) (h2 : L ≤ x + m) :
    Calls Try.prog 11 #[.agg (tcs L H A n c), .int .i64 (k : Int), .int .i64 m] w fun e w' => ∃ A' c', e = .returned (.tuple #[.agg (tcs L H A' n c'), .bool true]) ∧ w'.ownsRow w.heap.size 42 2 (.slice A' n c') n (pcells (ps.set k (L / 2, H))) ∧ Keeps (fun _ => False) w w' := by
  obtain ⟨g0, rfl⟩ := own_some13 hg (by omega)
  obtain ⟨L2, hL2⟩ : ∃ z, L / 2 = z := ⟨_, rfl⟩
  have hq1 : L.tdiv 2 = L2 := by rw [← hL2]; exact Int.tdiv_eq_ediv_of_nonneg (by omega)
  have hq2 : IntKind.i64.wrap L2 = L2 := IntWalk.i64_in _ (by omega)
  rw [hL2]
  obtain ⟨XM, hXM⟩ : ∃ z, x + m = z := ⟨_, rfl⟩
  have hw1 : IntKind.i64.wrap (x + m) = XM := by rw [← hXM]; exact IntWalk.i64_in _ (by omega)
  obtain ⟨ZT, hZT⟩ : ∃ Z, tcs 0 0 none 0 0 = Z := ⟨_, rfl⟩
  have hzt : ∀ V : World, (zeroValue 30).run Try.prog V = .ok (.agg ZT) V := fun V => by rw [← hZT]; exact zero_T V
  obtain ⟨TC, hTC⟩ : ∃ C, tcs L H (some ⟨g0, 0, none⟩) n c = C := ⟨_, rfl⟩
  have STC : Hid ((Try.prog.info? 30).map (·.size) = some TC.size) := Lib.hid (by rw [← hTC]; exact size_T)
  have NZT : Hid (ZT.size = 3) := Lib.hid (by rw [← hZT]; rfl)
  have NTC : Hid (ZT.size = TC.size) := Lib.hid (by rw [← hZT, ← hTC]; rfl)
  have OTC : Hid (TC.all (·.oneCell') = true) := Lib.hid (by rw [← hTC]; exact tcs_one _ _ _ _ _)
  obtain ⟨b3, hb3⟩ : ∃ x, w.heap.size = x := ⟨_, rfl⟩
  obtain ⟨W1, hW1⟩ : ∃ V, w.alloc (.cells TC 30) = V := ⟨_, rfl⟩
  have k1 : Keeps (fun _ => False) w W1 := by rw [← hW1]; exact (Keeps.refl _ _).alloc _
  have r1 : Row W1 b3 30 [.int .i64 L, .int .i64 H, .slice (some ⟨g0, 0, none⟩) n c] := by rw [← hW1, ← hb3, ← hTC]; exact heap_alloc_new w _
  have k2 : Keeps (fun _ => False) W1 W1 := Keeps.refl _ _
  obtain ⟨b6, hb6⟩ : ∃ x, W1.heap.size = x := ⟨_, rfl⟩
  obtain ⟨W3, hW3⟩ : ∃ V, W1.alloc (.cells ZT 30) = V := ⟨_, rfl⟩
  have k3 : Keeps (fun _ => False) W1 W3 := by rw [← hW3]; exact (Keeps.refl _ _).alloc _
  have r13 := r1.keeps (k2.trans k3) id
  have r3 : W3.heap[b6]? = some (.cells ZT 30 (0, 0)) := by rw [← hW3, ← hb6]; exact heap_alloc_new W1 _
  have c30 : W3.cell? ⟨b3, 0, none⟩ = some (.int .i64 L) := r13.cell 0
  have c31 : W3.cell? ⟨b3, 1, none⟩ = some (.int .i64 H) := r13.cell 1
  have c32 : W3.cell? ⟨b3, 2, none⟩ = some (.slice (some ⟨g0, 0, none⟩) n c) := r13.cell 2
  have hbb : w.heap.size ≤ b3 ∧ b3 < b6 ∧ b6 < W3.heap.size := by
    have h1 := (Array.getElem?_eq_some_iff.1 r3).1
    have h2 := (r1.keeps k2 id).lt
    omega
  have K3 := Lib.hid ((k1.trans k2).trans k3)
  have HG3 := Lib.hid (((k1.trans k2).trans k3).owns hg (fun _ _ => id))
  have HG := Lib.hid hg
  have R13 : Hid (W3.heap[b3]? = some (.cells TC 30 (0, 0))) := Lib.hid (by rw [← hTC]; exact r13)
  have R3 := Lib.hid r3
  have HBB := Lib.hid hbb
  have HTC := Lib.hid hTC
  have hr30 : Row W3 b6 30 [.int .i64 0, .int .i64 0, .slice none 0 0] := by
    have h := r3
    rw [← hZT] at h
    exact h
  have c60 : W3.cell? ⟨b6, 0, none⟩ = some (.int .i64 0) := hr30.cell 0
  have c61 : W3.cell? ⟨b6, 1, none⟩ = some (.int .i64 0) := hr30.cell 1
  have c62 : W3.cell? ⟨b6, 2, none⟩ = some (.slice none 0 0) := hr30.cell 2
  have f60 := hr30.frozen 0
  have f61 := hr30.frozen 1
  have f62 := hr30.frozen 2
  obtain ⟨w7, hw7⟩ : ∃ V, ((W3.setCell ⟨b6, 0, none⟩ (.int .i64 L)).setCell ⟨b6, 1, none⟩ (.int .i64 H)).setCell ⟨b6, 2, none⟩ (.slice (some ⟨g0, 0, none⟩) n c) = V := ⟨_, rfl⟩
  have hr7 : Row w7 b6 30 [.int .i64 L, .int .i64 H, .slice (some ⟨g0, 0, none⟩) n c] := by
    rw [← hw7]
    exact ((hr30.set 0 (.int .i64 L)).set 1 (.int .i64 H)).set 2 (.slice (some ⟨g0, 0, none⟩) n c)
  have R7 : Hid (w7.heap[b6]? = some (.cells TC 30 (0, 0))) := Lib.hid (by rw [← hTC]; exact hr7)
  have K7 : Hid (Keeps (fun _ => False) w w7) := Lib.hid (K3.out.trans' (T := fun k => k = b6) (by rw [← hw7]; exact (((Keeps.refl (fun k => k = b6) W3).setCell (p := ⟨b6, 0, none⟩) (fun _ => rfl) _).setCell (p := ⟨b6, 1, none⟩) (fun _ => rfl) _).setCell (p := ⟨b6, 2, none⟩) (fun _ => rfl) _) (fun j hj e => by omega))
  have HG7 := Lib.hid (K7.out.owns hg (fun _ _ => id))
  have hTC2 := hTC
  rw [hTC]
  clear hg hZT hTC hTC2 k1 k2 k3 r1 r13 r3 hbb hr7
  obtain ⟨cx, cy⟩ := cell_own2 HG3.out hp hkn
  have hzp : ∀ V : World, (zeroValue 42).run Try.prog V = .ok (.agg #[.int .i64 0, .int .i64 0]) V := zero_P
  obtain ⟨b8, hb8⟩ : ∃ x, W3.heap.size = x := ⟨_, rfl⟩
  obtain ⟨W4, hW4⟩ : ∃ V, W3.alloc (.cells #[.int .i64 0, .int .i64 0] 42) = V := ⟨_, rfl⟩
  have k4 : Keeps (fun _ => False) W3 W4 := by rw [← hW4]; exact (Keeps.refl _ _).alloc _
  have r4 : Row W4 b8 42 [.int .i64 0, .int .i64 0] := by rw [← hW4, ← hb8]; exact heap_alloc_new W3 _
  have c80 : W4.cell? ⟨b8, 0, none⟩ = some (.int .i64 0) := r4.cell 0
  have c81 : W4.cell? ⟨b8, 1, none⟩ = some (.int .i64 0) := r4.cell 1
  have f80 := r4.frozen 0
  have f81 := r4.frozen 1
  obtain ⟨w5, hw5⟩ : ∃ V, (W4.setCell ⟨b8, 0, none⟩ (.int .i64 x)).setCell ⟨b8, 1, none⟩ (.int .i64 y) = V := ⟨_, rfl⟩
  have k45 : Keeps (fun j => j = b8) W4 w5 := by rw [← hw5]; exact ((Keeps.refl (fun k => k = b8) W4).setCell (p := ⟨b8, 0, none⟩) (fun _ => rfl) _).setCell (p := ⟨b8, 1, none⟩) (fun _ => rfl) _
  have k5 : Keeps (fun _ => False) W3 w5 := k4.trans' k45 (fun j hj e => by omega)
  have hrow5 : Row w5 b8 42 [.int .i64 x, .int .i64 y] := by rw [← hw5]; exact (r4.set 0 (.int .i64 x)).set 1 (.int .i64 y)
  have cq0 : w5.cell? ⟨b8, 0, none⟩ = some (.int .i64 x) := hrow5.cell 0
  have hrow3 : Row w5 b3 30 [.int .i64 L, .int .i64 H, .slice (some ⟨g0, 0, none⟩) n c] := by
    have h := (k5.block b3 (Array.getElem?_eq_some_iff.1 R13.out).1 id).trans R13.out
    rw [← HTC.out] at h
    exact h
  have c50 : w5.cell? ⟨b3, 0, none⟩ = some (.int .i64 L) := hrow3.cell 0
  have c51 : w5.cell? ⟨b3, 1, none⟩ = some (.int .i64 H) := hrow3.cell 1
  have c52 : w5.cell? ⟨b3, 2, none⟩ = some (.slice (some ⟨g0, 0, none⟩) n c) := hrow3.cell 2
  have R65 : Hid (Row w5 b6 30 [.int .i64 0, .int .i64 0, .slice none 0 0]) := Lib.hid (hr30.keeps k5 id)
  have K5 := Lib.hid (K3.out.trans k5)
  have hst : Calls Try.prog 23 #[.agg #[.int .i64 L, .int .i64 H, .slice (some ⟨g0, 0, none⟩) n c], .int .i64 (k : Int), .agg #[.int .i64 L2, .int .i64 H]] w5 (fun e w' => ∃ A' c', e = .returned (.agg #[.int .i64 L, .int .i64 H, .slice A' n c']) ∧ w'.ownsRow w5.heap.size 42 2 (.slice A' n c') n (pcells (ps.set k (L2, H))) ∧ Keeps (fun _ => False) w5 w') := rput_any L H (some ⟨g0, 0, none⟩) n c ps k (L2, H) w5 (k5.owns HG3.out (fun _ _ => id)) hkn hn
  have HST := Lib.hid hst
  have d1 : ¬ (k : Int) < 0 := by omega
  have d2 : (k : Int) < (n : Int) := by omega
  have d3 : decide (y > 0) = false := decide_eq_false hy
  have d4 : decide (m < 1) = false := decide_eq_false (by omega)
  have d5 : decide (m > 2000) = false := decide_eq_false (by omega)
  have d6 : decide (XM ≥ L) = true := decide_eq_true (by omega)
  clear hp hy k4 r4 k45 k5 hrow5 hrow3 hst c60 c61 c62 f60 f61 f62 R7 K7 HG7 hw7 hr30
  clear h h2 hL hL2 hx hm hXM
  go_enter Try.func11, Try.ntmps11
  go_wp2_with fail
  refine (HST.out).mono ?_
  rintro e w8 ⟨A8, c8, rfl, ho8, k8⟩
  have hr8 : Row w8 b6 30 [.int .i64 0, .int .i64 0, .slice none 0 0] := R65.out.keeps k8 id
  have e60 : w8.cell? ⟨b6, 0, none⟩ = some (.int .i64 0) := hr8.cell 0
  have e61 : w8.cell? ⟨b6, 1, none⟩ = some (.int .i64 0) := hr8.cell 1
  have e62 : w8.cell? ⟨b6, 2, none⟩ = some (.slice none 0 0) := hr8.cell 2
  have g60 := hr8.frozen 0
  have g61 := hr8.frozen 1
  have g62 := hr8.frozen 2
  obtain ⟨w9, hw9⟩ : ∃ V, ((w8.setCell ⟨b6, 0, none⟩ (.int .i64 L)).setCell ⟨b6, 1, none⟩ (.int .i64 H)).setCell ⟨b6, 2, none⟩ (.slice A8 n c8) = V := ⟨_, rfl⟩
  have hr9 : Row w9 b6 30 [.int .i64 L, .int .i64 H, .slice A8 n c8] := by
    rw [← hw9]
    exact ((hr8.set 0 (.int .i64 L)).set 1 (.int .i64 H)).set 2 (.slice A8 n c8)
  have k9 : Keeps (fun j => j = b6) w8 w9 := by rw [← hw9]; exact (((Keeps.refl (fun k => k = b6) w8).setCell (p := ⟨b6, 0, none⟩) (fun _ => rfl) _).setCell (p := ⟨b6, 1, none⟩) (fun _ => rfl) _).setCell (p := ⟨b6, 2, none⟩) (fun _ => rfl) _
  have R9 : Hid (w9.heap[b6]? = some (.cells (tcs L H A8 n c8) 30 (0, 0))) := Lib.hid hr9
  have FIN : Hid (w9.ownsRow w.heap.size 42 2 (.slice A8 n c8) n (pcells (ps.set k (L2, H))) ∧ Keeps (fun _ => False) w w9) := Lib.hid (by
    have hb := HBB.out
    refine ⟨k9.owns (own_base ho8 K5.out.size) (fun j hj e => ?_), (K5.out.trans k8).trans' k9 (fun j hj e => by omega)⟩
    obtain ⟨_, _, hbj⟩ := own_block ho8 j hj
    have := R65.out.lt
    omega)
  clear ho8 k8 k9 hr8 hr9 c50 c51 c52 cq0
  go_wp2
  refine bodyPost_ret (results_cell_tmp13 rfl _ _ b6 30 (tcs L H A8 n c8) (0, 0) _ rfl (by first | exact R9.out | (rw [hw9]; exact R9.out)) Try.underlying30 rfl size_T) rfl ?_
  exact ⟨_, _, rfl, by first | exact FIN.out.1 | (rw [hw9]; exact FIN.out.1), by first | exact FIN.out.2 | (rw [hw9]; exact FIN.out.2)⟩
set_option maxRecDepth 100000 in
set_option maxHeartbeats 2000000 in
theorem rblame_more (L H : Int) (A : Option Addr) (n c : Nat) (ps : List (Int × Int)) (k : Nat) (m x y : Int) (w : World) (hg : w.ownsRow 0 42 2 (.slice A n c) n (pcells ps)) (hkn : k < n) (hn : n ≤ 64) (hp : ps[k]? = some (x, y)) (hy : ¬ 0 < y) (hm : 1 ≤ m) (hx : 0 ≤ x ∧ x < L) (hL : 1 ≤ L ∧ L ≤ 1000) (h2 : x + m < L) :
    Calls Try.prog 11 #[.agg (tcs L H A n c), .int .i64 (k : Int), .int .i64 m] w fun e w' => ∃ A' c', e = .returned (.tuple #[.agg (tcs L H A' n c'), .bool false]) ∧ w'.ownsRow w.heap.size 42 2 (.slice A' n c') n (pcells (ps.set k (x + m, 0))) ∧ Keeps (fun _ => False) w w' := by
  obtain ⟨g0, rfl⟩ := own_some13 hg (by omega)
  obtain ⟨XM, hXM⟩ : ∃ z, x + m = z := ⟨_, rfl⟩
  have hw1 : IntKind.i64.wrap (x + m) = XM := by rw [← hXM]; exact IntWalk.i64_in _ (by omega)
  have hw2 : IntKind.i64.wrap XM = XM := IntWalk.i64_in _ (by omega)
  rw [hXM]
  obtain ⟨ZT, hZT⟩ : ∃ Z, tcs 0 0 none 0 0 = Z := ⟨_, rfl⟩
  have hzt : ∀ V : World, (zeroValue 30).run Try.prog V = .ok (.agg ZT) V := fun V => by rw [← hZT]; exact zero_T V
  obtain ⟨TC, hTC⟩ : ∃ C, tcs L H (some ⟨g0, 0, none⟩) n c = C := ⟨_, rfl⟩
  have STC : Hid ((Try.prog.info? 30).map (·.size) = some TC.size) := Lib.hid (by rw [← hTC]; exact size_T)
  have NZT : Hid (ZT.size = 3) := Lib.hid (by rw [← hZT]; rfl)
  have NTC : Hid (ZT.size = TC.size) := Lib.hid (by rw [← hZT, ← hTC]; rfl)
  have OTC : Hid (TC.all (·.oneCell') = true) := Lib.hid (by rw [← hTC]; exact tcs_one _ _ _ _ _)
  obtain ⟨b3, hb3⟩ : ∃ x, w.heap.size = x := ⟨_, rfl⟩
  obtain ⟨W1, hW1⟩ : ∃ V, w.alloc (.cells TC 30) = V := ⟨_, rfl⟩
  have k1 : Keeps (fun _ => False) w W1 := by rw [← hW1]; exact (Keeps.refl _ _).alloc _
  have r1 : Row W1 b3 30 [.int .i64 L, .int .i64 H, .slice (some ⟨g0, 0, none⟩) n c] := by rw [← hW1, ← hb3, ← hTC]; exact heap_alloc_new w _
  have k2 : Keeps (fun _ => False) W1 W1 := Keeps.refl _ _
  obtain ⟨b6, hb6⟩ : ∃ x, W1.heap.size = x := ⟨_, rfl⟩
  obtain ⟨W3, hW3⟩ : ∃ V, W1.alloc (.cells ZT 30) = V := ⟨_, rfl⟩
  have k3 : Keeps (fun _ => False) W1 W3 := by rw [← hW3]; exact (Keeps.refl _ _).alloc _
  have r13 := r1.keeps (k2.trans k3) id
  have r3 : W3.heap[b6]? = some (.cells ZT 30 (0, 0)) := by rw [← hW3, ← hb6]; exact heap_alloc_new W1 _
  have c30 : W3.cell? ⟨b3, 0, none⟩ = some (.int .i64 L) := r13.cell 0
  have c31 : W3.cell? ⟨b3, 1, none⟩ = some (.int .i64 H) := r13.cell 1
  have c32 : W3.cell? ⟨b3, 2, none⟩ = some (.slice (some ⟨g0, 0, none⟩) n c) := r13.cell 2
  have hbb : w.heap.size ≤ b3 ∧ b3 < b6 ∧ b6 < W3.heap.size := by
    have h1 := (Array.getElem?_eq_some_iff.1 r3).1
    have h2 := (r1.keeps k2 id).lt
    omega
  have K3 := Lib.hid ((k1.trans k2).trans k3)
  have HG3 := Lib.hid (((k1.trans k2).trans k3).owns hg (fun _ _ => id))
  have HG := Lib.hid hg
  have R13 : Hid (W3.heap[b3]? = some (.cells TC 30 (0, 0))) := Lib.hid (by rw [← hTC]; exact r13)
  have R3 := Lib.hid r3
  have HBB := Lib.hid hbb
  have HTC := Lib.hid hTC
  have hr30 : Row W3 b6 30 [.int .i64 0, .int .i64 0, .slice none 0 0] := by
    have h := r3
    rw [← hZT] at h
    exact h
  have c60 : W3.cell? ⟨b6, 0, none⟩ = some (.int .i64 0) := hr30.cell 0
  have c61 : W3.cell? ⟨b6, 1, none⟩ = some (.int .i64 0) := hr30.cell 1
  have c62 : W3.cell? ⟨b6, 2, none⟩ = some (.slice none 0 0) := hr30.cell 2
  have f60 := hr30.frozen 0
  have f61 := hr30.frozen 1
  have f62 := hr30.frozen 2
  obtain ⟨w7, hw7⟩ : ∃ V, ((W3.setCell ⟨b6, 0, none⟩ (.int .i64 L)).setCell ⟨b6, 1, none⟩ (.int .i64 H)).setCell ⟨b6, 2, none⟩ (.slice (some ⟨g0, 0, none⟩) n c) = V := ⟨_, rfl⟩
  have hr7 : Row w7 b6 30 [.int .i64 L, .int .i64 H, .slice (some ⟨g0, 0, none⟩) n c] := by
    rw [← hw7]
    exact ((hr30.set 0 (.int .i64 L)).set 1 (.int .i64 H)).set 2 (.slice (some ⟨g0, 0, none⟩) n c)
  have R7 : Hid (w7.heap[b6]? = some (.cells TC 30 (0, 0))) := Lib.hid (by rw [← hTC]; exact hr7)
  have K7 : Hid (Keeps (fun _ => False) w w7) := Lib.hid (K3.out.trans' (T := fun k => k = b6) (by rw [← hw7]; exact (((Keeps.refl (fun k => k = b6) W3).setCell (p := ⟨b6, 0, none⟩) (fun _ => rfl) _).setCell (p := ⟨b6, 1, none⟩) (fun _ => rfl) _).setCell (p := ⟨b6, 2, none⟩) (fun _ => rfl) _) (fun j hj e => by omega))
  have HG7 := Lib.hid (K7.out.owns hg (fun _ _ => id))
  have hTC2 := hTC
  rw [hTC]
  clear hg hZT hTC hTC2 k1 k2 k3 r1 r13 r3 hbb hr7
  obtain ⟨cx, cy⟩ := cell_own2 HG3.out hp hkn
  have hzp : ∀ V : World, (zeroValue 42).run Try.prog V = .ok (.agg #[.int .i64 0, .int .i64 0]) V := zero_P
  obtain ⟨b8, hb8⟩ : ∃ x, W3.heap.size = x := ⟨_, rfl⟩
  obtain ⟨W4, hW4⟩ : ∃ V, W3.alloc (.cells #[.int .i64 0, .int .i64 0] 42) = V := ⟨_, rfl⟩
  have k4 : Keeps (fun _ => False) W3 W4 := by rw [← hW4]; exact (Keeps.refl _ _).alloc _
  have r4 : Row W4 b8 42 [.int .i64 0, .int .i64 0] := by rw [← hW4, ← hb8]; exact heap_alloc_new W3 _
  have c80 : W4.cell? ⟨b8, 0, none⟩ = some (.int .i64 0) := r4.cell 0
  have c81 : W4.cell? ⟨b8, 1, none⟩ = some (.int .i64 0) := r4.cell 1
  have f80 := r4.frozen 0
  have f81 := r4.frozen 1
  obtain ⟨w5, hw5⟩ : ∃ V, (W4.setCell ⟨b8, 0, none⟩ (.int .i64 x)).setCell ⟨b8, 1, none⟩ (.int .i64 y) = V := ⟨_, rfl⟩
  have k45 : Keeps (fun j => j = b8) W4 w5 := by rw [← hw5]; exact ((Keeps.refl (fun k => k = b8) W4).setCell (p := ⟨b8, 0, none⟩) (fun _ => rfl) _).setCell (p := ⟨b8, 1, none⟩) (fun _ => rfl) _
  have k5 : Keeps (fun _ => False) W3 w5 := k4.trans' k45 (fun j hj e => by omega)
  have hrow5 : Row w5 b8 42 [.int .i64 x, .int .i64 y] := by rw [← hw5]; exact (r4.set 0 (.int .i64 x)).set 1 (.int .i64 y)
  have cq0 : w5.cell? ⟨b8, 0, none⟩ = some (.int .i64 x) := hrow5.cell 0
  have hrow3 : Row w5 b3 30 [.int .i64 L, .int .i64 H, .slice (some ⟨g0, 0, none⟩) n c] := by
    have h := (k5.block b3 (Array.getElem?_eq_some_iff.1 R13.out).1 id).trans R13.out
    rw [← HTC.out] at h
    exact h
  have c50 : w5.cell? ⟨b3, 0, none⟩ = some (.int .i64 L) := hrow3.cell 0
  have c51 : w5.cell? ⟨b3, 1, none⟩ = some (.int .i64 H) := hrow3.cell 1
  have c52 : w5.cell? ⟨b3, 2, none⟩ = some (.slice (some ⟨g0, 0, none⟩) n c) := hrow3.cell 2
  have R65 : Hid (Row w5 b6 30 [.int .i64 0, .int .i64 0, .slice none 0 0]) := Lib.hid (hr30.keeps k5 id)
  have K5 := Lib.hid (K3.out.trans k5)
  have hst : Calls Try.prog 23 #[.agg #[.int .i64 L, .int .i64 H, .slice (some ⟨g0, 0, none⟩) n c], .int .i64 (k : Int), .agg #[.int .i64 XM, .int .i64 0]] w5 (fun e w' => ∃ A' c', e = .returned (.agg #[.int .i64 L, .int .i64 H, .slice A' n c']) ∧ w'.ownsRow w5.heap.size 42 2 (.slice A' n c') n (pcells (ps.set k (XM, 0))) ∧ Keeps (fun _ => False) w5 w') := rput_any L H (some ⟨g0, 0, none⟩) n c ps k (XM, 0) w5 (k5.owns HG3.out (fun _ _ => id)) hkn hn
  have HST := Lib.hid hst
  have d1 : ¬ (k : Int) < 0 := by omega
  have d2 : (k : Int) < (n : Int) := by omega
  have d3 : decide (y > 0) = false := decide_eq_false hy
  have d4 : decide (m < 1) = false := decide_eq_false (by omega)
  have d5 : decide (m > 2000) = false := decide_eq_false (by omega)
  have d6 : decide (XM ≥ L) = false := decide_eq_false (by omega)
  clear hp hy k4 r4 k45 k5 hrow5 hrow3 hst c60 c61 c62 f60 f61 f62 R7 K7 HG7 hw7 hr30
  clear h2 hL hx hm hXM
  go_enter Try.func11, Try.ntmps11
  go_wp2_with fail
  refine (HST.out).mono ?_
  rintro e w8 ⟨A8, c8, rfl, ho8, k8⟩
  have hr8 : Row w8 b6 30 [.int .i64 0, .int .i64 0, .slice none 0 0] := R65.out.keeps k8 id
  have e60 : w8.cell? ⟨b6, 0, none⟩ = some (.int .i64 0) := hr8.cell 0
  have e61 : w8.cell? ⟨b6, 1, none⟩ = some (.int .i64 0) := hr8.cell 1
  have e62 : w8.cell? ⟨b6, 2, none⟩ = some (.slice none 0 0) := hr8.cell 2
  have g60 := hr8.frozen 0
  have g61 := hr8.frozen 1
  have g62 := hr8.frozen 2
  obtain ⟨w9, hw9⟩ : ∃ V, ((w8.setCell ⟨b6, 0, none⟩ (.int .i64 L)).setCell ⟨b6, 1, none⟩ (.int .i64 H)).setCell ⟨b6, 2, none⟩ (.slice A8 n c8) = V := ⟨_, rfl⟩
  have hr9 : Row w9 b6 30 [.int .i64 L, .int .i64 H, .slice A8 n c8] := by
    rw [← hw9]
    exact ((hr8.set 0 (.int .i64 L)).set 1 (.int .i64 H)).set 2 (.slice A8 n c8)
  have k9 : Keeps (fun j => j = b6) w8 w9 := by rw [← hw9]; exact (((Keeps.refl (fun k => k = b6) w8).setCell (p := ⟨b6, 0, none⟩) (fun _ => rfl) _).setCell (p := ⟨b6, 1, none⟩) (fun _ => rfl) _).setCell (p := ⟨b6, 2, none⟩) (fun _ => rfl) _
  have R9 : Hid (w9.heap[b6]? = some (.cells (tcs L H A8 n c8) 30 (0, 0))) := Lib.hid hr9
  have FIN : Hid (w9.ownsRow w.heap.size 42 2 (.slice A8 n c8) n (pcells (ps.set k (XM, 0))) ∧ Keeps (fun _ => False) w w9) := Lib.hid (by
    have hb := HBB.out
    refine ⟨k9.owns (own_base ho8 K5.out.size) (fun j hj e => ?_), (K5.out.trans k8).trans' k9 (fun j hj e => by omega)⟩
    obtain ⟨_, _, hbj⟩ := own_block ho8 j hj
    have := R65.out.lt
    omega)
  clear ho8 k8 k9 hr8 hr9 c50 c51 c52 cq0
  go_wp2
  refine bodyPost_ret (results_cell_tmp13 rfl _ _ b6 30 (tcs L H A8 n c8) (0, 0) _ rfl (by first | exact R9.out | (rw [hw9]; exact R9.out)) Try.underlying30 rfl size_T) rfl ?_
  exact ⟨_, _, rfl, by first | exact FIN.out.1 | (rw [hw9]; exact FIN.out.1), by first | exact FIN.out.2 | (rw [hw9]; exact FIN.out.2)⟩
end Go.Proofs.Ytdihkbkcefjeoaa
