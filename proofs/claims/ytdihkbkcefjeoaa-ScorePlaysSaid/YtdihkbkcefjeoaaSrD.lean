/-
  The document's own table: whoever is set; a new one; are two rows the same?
-/
import Derived.Test.YtdihkbkcefjeoaaSrC
import Derived.Laws.MakeOwn
namespace Go.Proofs.Ytdihkbkcefjeoaa
open Go.RowKit Go.BigFrame
set_option linter.unusedVariables false
set_option linter.unusedSimpArgs false

theorem rset_any (A : Option Addr) (n c : Nat) (s : Sc.Tb) (k : Int) (q : Int × Int) (w : World) (ok : Sc.Ok s) (hn : s.ps.length = n) (hg : w.ownsRow 0 42 2 (.slice A n c) n (pcells s.ps)) :
    Calls Try.prog 13 #[.agg (tcs s.limit s.hold A n c), .int .i64 k, .agg (pc q)] w fun e w' => ∃ A' c', e = .returned (.tuple #[.agg (tcs s.limit s.hold A' n c'), .int .i64 (Sc.setE s k q)]) ∧ w'.ownsRow 0 42 2 (.slice A' n c') n (pcells (Sc.set s k q).ps) ∧ Keeps (fun _ => False) w w' := by
  have hn1 := ok.many
  rw [hn] at hn1
  obtain ⟨x, y⟩ := q
  cases hf : Sc.fits s k (x, y) with
  | true =>
    have hb : Sc.set s k (x, y) = Sc.put s k (x, y) := by unfold Sc.set; rw [if_pos hf]
    have he : Sc.setE s k (x, y) = 0 := by unfold Sc.setE; rw [if_pos hf]
    rw [hb, he]
    obtain ⟨hin, hx, hy⟩ := of_decide_eq_true hf
    obtain ⟨k, rfl⟩ := Int.eq_ofNat_of_zero_le hin.1
    dsimp only at hx hy
    refine (rset_on s.limit s.hold A n c s.ps k x y w hg (by omega) hn1.2 (by omega) hy).mono ?_
    rintro e w' ⟨A', c', h4, h5, h6⟩
    exact ⟨A', c', h4, own_base h5 (Nat.zero_le _), h6⟩
  | false =>
    have hb : Sc.set s k (x, y) = s := by unfold Sc.set; rw [if_neg (by rw [hf]; decide)]
    have he : Sc.setE s k (x, y) = 1 := by unfold Sc.setE; rw [if_neg (by rw [hf]; decide)]
    rw [hb, he]
    have hno : ¬ ((0 ≤ k ∧ k < (s.ps.length : Int)) ∧ (0 ≤ x ∧ x ≤ s.limit - 1) ∧ (0 ≤ y ∧ y ≤ s.hold)) := of_decide_eq_false hf
    have hfin : Calls Try.prog 13 #[.agg (tcs s.limit s.hold A n c), .int .i64 k, .agg #[.int .i64 x, .int .i64 y]] w (fun e w' => e = .returned (.tuple #[.agg (tcs s.limit s.hold A n c), .int .i64 1]) ∧ Keeps (fun _ => False) w w') := by
      by_cases h0 : k < 0
      · exact rset_low _ _ A n c s.ps k x y w hg hn1.1 h0
      · by_cases h1 : (n : Int) ≤ k
        · exact rset_high _ _ A n c s.ps k x y w hg hn1.1 h1
        · by_cases h2 : x < 0
          · exact rset_x0 _ _ A n c s.ps k x y w hg hn1.1 (by omega) (by omega) h2
          · by_cases h3 : s.limit ≤ x
            · exact rset_x1 _ _ A n c s.ps k x y w hg hn1.1 (by omega) (by omega) (by omega) h3
            · by_cases h4 : y < 0
              · exact rset_y0 _ _ A n c s.ps k x y w hg hn1.1 (by omega) (by omega) (by omega) h4
              · exact rset_y1 _ _ A n c s.ps k x y w hg hn1.1 (by omega) (by omega) (by omega) (by omega) (by omega)
    refine hfin.mono ?_
    rintro e w' ⟨h1, h2⟩
    exact ⟨A, c, h1, h2.owns hg (fun _ _ => id), h2⟩
theorem pcells_zero (n i : Nat) (h : i < n * 2) : (pcells (List.replicate n (0, 0)))[i]? = some (.int .i64 0) := by
  obtain ⟨j, hj⟩ : ∃ j, i / 2 = j := ⟨_, rfl⟩
  have hp : (List.replicate n ((0 : Int), (0 : Int)))[j]? = some (0, 0) := by rw [List.getElem?_replicate, if_pos (by omega)]
  obtain ⟨h1, h2⟩ := pcells_get _ j _ hp
  rcases (show i = j * 2 ∨ i = j * 2 + 1 by omega) with rfl | rfl
  · exact h1
  · exact h2
theorem made_pairs (n : Nat) : madeCells (pc (0, 0)) (n * 2) = (pcells (List.replicate n (0, 0))).toArray := by
  have hl : (pcells (List.replicate n ((0 : Int), (0 : Int)))).length = n * 2 := by rw [pcells_length, List.length_replicate]
  apply Array.ext
  · rw [size_madeCells, List.size_toArray, hl]
  · intro i h1 h2
    have hi : i < n * 2 := by rw [size_madeCells] at h1; exact h1
    have h3 := pcells_zero n i hi
    rw [List.getElem?_eq_getElem (by omega)] at h3
    injection h3 with h3
    have e : (pc (0, 0))[i % 2]! = Value.int .i64 0 := by
      rcases (show i % 2 = 0 ∨ i % 2 = 1 by omega) with h | h <;> rw [h] <;> rfl
    have e2 : (madeCells (pc (0, 0)) (n * 2))[i] = Value.int .i64 0 := by
      simp only [madeCells, Array.getElem_map, Array.getElem_range]
      exact e
    exact e2.trans h3.symm
theorem make_P (n : Nat) (hn : n ≤ 64) (V : World) : (Instr.makeSlice 28 (.int .i64 (n : Int)) (.int .i64 (n : Int))).run Try.prog V = .ok (.slice (some ⟨V.heap.size, 0, none⟩) n n) (V.alloc (.cells (pcells (List.replicate n (0, 0))).toArray 42)) := by
  obtain ⟨i0, hi, hz0, hz1, hz2⟩ := info_Pn
  rw [run_make (P := Try.prog) V 28 42 i0 (.agg (pc (0, 0))) Try.underlying28 hi hz0 .i64 .i64 (n : Int) (n : Int) (by omega) (by omega) (by rw [hz2]; omega) (by omega), hz1, Int.toNat_natCast]
  show Result.ok _ (V.alloc (.cells (madeCells (pc (0, 0)) (n * 2)) _)) = _
  rw [made_pairs]
set_option maxRecDepth 100000 in
set_option maxHeartbeats 2000000 in
theorem rnew_on (n : Nat) (L H : Int) (w : World) (c1 : 1 ≤ n ∧ n ≤ 64) (c2 : 1 ≤ L ∧ L ≤ 1000) (c3 : 1 ≤ H ∧ H ≤ 1000) :
    Calls Try.prog 9 #[.int .i64 (n : Int), .int .i64 L, .int .i64 H] w fun e w' => ∃ A c, e = .returned (.tuple #[.agg (tcs L H A n c), .int .i64 0]) ∧ w'.ownsRow w.heap.size 42 2 (.slice A n c) n (pcells (List.replicate n (0, 0))) ∧ Keeps (fun _ => False) w w' := by
  obtain ⟨b6, hb6⟩ : ∃ x, w.heap.size = x := ⟨_, rfl⟩
  have hzt : ∀ V : World, (zeroValue 30).run Try.prog V = .ok (.agg #[.int .i64 0, .int .i64 0, .slice none 0 0]) V := zero_T
  obtain ⟨W1, hW1⟩ : ∃ V, w.alloc (.cells #[.int .i64 0, .int .i64 0, .slice none 0 0] 30) = V := ⟨_, rfl⟩
  have k1 : Keeps (fun _ => False) w W1 := by rw [← hW1]; exact (Keeps.refl _ _).alloc _
  have r1 : Row W1 b6 30 [.int .i64 0, .int .i64 0, .slice none 0 0] := by rw [← hW1, ← hb6]; exact heap_alloc_new w _
  obtain ⟨b7, hb7⟩ : ∃ x, W1.heap.size = x := ⟨_, rfl⟩
  obtain ⟨CS, hCS⟩ : ∃ C, (pcells (List.replicate n ((0 : Int), (0 : Int)))).toArray = C := ⟨_, rfl⟩
  obtain ⟨W2, hW2⟩ : ∃ V, W1.alloc (.cells CS 42) = V := ⟨_, rfl⟩
  have hmk := make_P n c1.2 W1
  rw [hCS, hW2, hb7] at hmk
  have k2 : Keeps (fun _ => False) W1 W2 := by rw [← hW2]; exact (Keeps.refl _ _).alloc _
  have r2 : W2.heap[b7]? = some (.cells CS 42 (0, 0)) := by rw [← hW2, ← hb7]; exact heap_alloc_new W1 _
  have hown : W2.ownsRow w.heap.size 42 2 (.slice (some ⟨b7, 0, none⟩) n n) n (pcells (List.replicate n (0, 0))) := by
    refine own_fresh ?_ (by have := k1.size; omega) (by rw [pcells_length, List.length_replicate]) (by unfold maxLen; omega)
    rw [hCS]
    exact r2
  have hr2 := r1.keeps k2 id
  have c60 : W2.cell? ⟨b6, 0, none⟩ = some (.int .i64 0) := hr2.cell 0
  have c61 : W2.cell? ⟨b6, 1, none⟩ = some (.int .i64 0) := hr2.cell 1
  have c62 : W2.cell? ⟨b6, 2, none⟩ = some (.slice none 0 0) := hr2.cell 2
  have f60 := hr2.frozen 0
  have f61 := hr2.frozen 1
  have f62 := hr2.frozen 2
  obtain ⟨w9, hw9⟩ : ∃ V, ((W2.setCell ⟨b6, 0, none⟩ (.int .i64 L)).setCell ⟨b6, 1, none⟩ (.int .i64 H)).setCell ⟨b6, 2, none⟩ (.slice (some ⟨b7, 0, none⟩) n n) = V := ⟨_, rfl⟩
  have hr9 : Row w9 b6 30 [.int .i64 L, .int .i64 H, .slice (some ⟨b7, 0, none⟩) n n] := by
    rw [← hw9]
    exact ((hr2.set 0 (.int .i64 L)).set 1 (.int .i64 H)).set 2 _
  have k9 : Keeps (fun j => j = b6) W2 w9 := by rw [← hw9]; exact (((Keeps.refl (fun k => k = b6) W2).setCell (p := ⟨b6, 0, none⟩) (fun _ => rfl) _).setCell (p := ⟨b6, 1, none⟩) (fun _ => rfl) _).setCell (p := ⟨b6, 2, none⟩) (fun _ => rfl) _
  have R9 : Hid (w9.heap[b6]? = some (.cells (tcs L H (some ⟨b7, 0, none⟩) n n) 30 (0, 0))) := Lib.hid hr9
  have FIN : Hid (w9.ownsRow b6 42 2 (.slice (some ⟨b7, 0, none⟩) n n) n (pcells (List.replicate n (0, 0))) ∧ Keeps (fun _ => False) w w9) := Lib.hid (by
    refine ⟨k9.owns (by rw [← hb6]; exact hown) (fun j hj e => ?_), (k1.trans k2).trans' k9 (fun j hj e => by omega)⟩
    have hj2 : b7 = j := by injection hj
    have := r1.lt
    omega)
  have HBT : Hid (∀ V : World, (Instr.build 30 #[(0, .int .i64 L), (1, .int .i64 H), (2, .slice (some ⟨b7, 0, none⟩) n n)]).run Try.prog V = .ok (.agg #[.int .i64 L, .int .i64 H, .slice (some ⟨b7, 0, none⟩) n n]) V) := Lib.hid (fun V => build_T L H _ n n V)
  have d1 : ¬ (n : Int) < 1 := by omega
  have d2 : ¬ (64 : Int) < (n : Int) := by omega
  have d2b : n ≤ 64 := c1.2
  have d2c : 0 < n := by omega
  have d3 : decide (L < 1) = false := decide_eq_false (by omega)
  have d4 : decide (L > 1000) = false := decide_eq_false (by omega)
  have d5 : decide (H < 1) = false := decide_eq_false (by omega)
  have d6 : decide (H > 1000) = false := decide_eq_false (by omega)
  clear k1 k2 r1 r2 hown hr2 k9 hr9 hCS hW2 c1 c2 c3
  go_enter Try.func9, Try.ntmps9
  go_wp2_with (first
    | (refine wpList_made (by rfl) 30 [(0, .tmp 31), (1, .tmp 32), (2, .tmp 34)] (by rfl) [(0, .int .i64 L), (1, .int .i64 H), (2, .slice (some ⟨b7, 0, none⟩) n n)] (by rfl) (.agg #[.int .i64 L, .int .i64 H, .slice (some ⟨b7, 0, none⟩) n n]) HBT.out ?_))
  refine bodyPost_ret (results_cell_tmp13 rfl _ _ b6 30 (tcs L H (some ⟨b7, 0, none⟩) n n) (0, 0) _ rfl (by first | exact R9.out | (rw [hw9]; exact R9.out)) Try.underlying30 rfl size_T) rfl ?_
  exact ⟨_, _, rfl, by first | exact FIN.out.1 | (rw [hw9]; exact FIN.out.1), by first | exact FIN.out.2 | (rw [hw9]; exact FIN.out.2)⟩
set_option maxRecDepth 100000 in
set_option maxHeartbeats 2000000 in
theorem rnew_off0 (many L H : Int) (w : World)  (h : many < 1) :
    Calls Try.prog 9 #[.int .i64 many, .int .i64 L, .int .i64 H] w fun e w' => e = .returned (.tuple #[.agg (tcs 0 0 none 0 0), .int .i64 1]) ∧ Keeps (fun _ => False) w w' := by
  obtain ⟨b6, hb6⟩ : ∃ x, w.heap.size = x := ⟨_, rfl⟩
  have hzt : ∀ V : World, (zeroValue 30).run Try.prog V = .ok (.agg #[.int .i64 0, .int .i64 0, .slice none 0 0]) V := zero_T
  obtain ⟨W1, hW1⟩ : ∃ V, w.alloc (.cells #[.int .i64 0, .int .i64 0, .slice none 0 0] 30) = V := ⟨_, rfl⟩
  have k1 : Keeps (fun _ => False) w W1 := by rw [← hW1]; exact (Keeps.refl _ _).alloc _
  have hr2 : Row W1 b6 30 [.int .i64 0, .int .i64 0, .slice none 0 0] := by rw [← hW1, ← hb6]; exact heap_alloc_new w _
  have c60 : W1.cell? ⟨b6, 0, none⟩ = some (.int .i64 0) := hr2.cell 0
  have c61 : W1.cell? ⟨b6, 1, none⟩ = some (.int .i64 0) := hr2.cell 1
  have c62 : W1.cell? ⟨b6, 2, none⟩ = some (.slice none 0 0) := hr2.cell 2
  have f60 := hr2.frozen 0
  have f61 := hr2.frozen 1
  have f62 := hr2.frozen 2
  obtain ⟨w9, hw9⟩ : ∃ V, ((W1.setCell ⟨b6, 0, none⟩ (.int .i64 0)).setCell ⟨b6, 1, none⟩ (.int .i64 0)).setCell ⟨b6, 2, none⟩ (.slice none 0 0) = V := ⟨_, rfl⟩
  have R9 : Hid (w9.heap[b6]? = some (.cells (tcs 0 0 none 0 0) 30 (0, 0))) := Lib.hid (by
    rw [← hw9]
    exact ((hr2.set 0 (.int .i64 0)).set 1 (.int .i64 0)).set 2 (.slice none 0 0))
  have K9 : Hid (Keeps (fun _ => False) w w9) := Lib.hid (k1.trans' (T := fun j => j = b6) (by rw [← hw9]; exact (((Keeps.refl (fun k => k = b6) W1).setCell (p := ⟨b6, 0, none⟩) (fun _ => rfl) _).setCell (p := ⟨b6, 1, none⟩) (fun _ => rfl) _).setCell (p := ⟨b6, 2, none⟩) (fun _ => rfl) _) (fun j hj e => by omega))
  have d0 : decide (many < 1) = true := decide_eq_true (by omega)
  clear k1 hr2 h
  go_enter Try.func9, Try.ntmps9
  go_wp2
  refine bodyPost_ret (results_cell_tmp13 rfl _ _ b6 30 (tcs 0 0 none 0 0) (0, 0) _ rfl (by first | exact R9.out | (rw [hw9]; exact R9.out)) Try.underlying30 rfl size_T) rfl ?_
  exact ⟨rfl, by first | exact K9.out | (rw [hw9]; exact K9.out)⟩
set_option maxRecDepth 100000 in
set_option maxHeartbeats 2000000 in
theorem rnew_off1 (many L H : Int) (w : World) (h0 : ¬ many < 1) (h : many > 64) :
    Calls Try.prog 9 #[.int .i64 many, .int .i64 L, .int .i64 H] w fun e w' => e = .returned (.tuple #[.agg (tcs 0 0 none 0 0), .int .i64 1]) ∧ Keeps (fun _ => False) w w' := by
  obtain ⟨b6, hb6⟩ : ∃ x, w.heap.size = x := ⟨_, rfl⟩
  have hzt : ∀ V : World, (zeroValue 30).run Try.prog V = .ok (.agg #[.int .i64 0, .int .i64 0, .slice none 0 0]) V := zero_T
  obtain ⟨W1, hW1⟩ : ∃ V, w.alloc (.cells #[.int .i64 0, .int .i64 0, .slice none 0 0] 30) = V := ⟨_, rfl⟩
  have k1 : Keeps (fun _ => False) w W1 := by rw [← hW1]; exact (Keeps.refl _ _).alloc _
  have hr2 : Row W1 b6 30 [.int .i64 0, .int .i64 0, .slice none 0 0] := by rw [← hW1, ← hb6]; exact heap_alloc_new w _
  have c60 : W1.cell? ⟨b6, 0, none⟩ = some (.int .i64 0) := hr2.cell 0
  have c61 : W1.cell? ⟨b6, 1, none⟩ = some (.int .i64 0) := hr2.cell 1
  have c62 : W1.cell? ⟨b6, 2, none⟩ = some (.slice none 0 0) := hr2.cell 2
  have f60 := hr2.frozen 0
  have f61 := hr2.frozen 1
  have f62 := hr2.frozen 2
  obtain ⟨w9, hw9⟩ : ∃ V, ((W1.setCell ⟨b6, 0, none⟩ (.int .i64 0)).setCell ⟨b6, 1, none⟩ (.int .i64 0)).setCell ⟨b6, 2, none⟩ (.slice none 0 0) = V := ⟨_, rfl⟩
  have R9 : Hid (w9.heap[b6]? = some (.cells (tcs 0 0 none 0 0) 30 (0, 0))) := Lib.hid (by
    rw [← hw9]
    exact ((hr2.set 0 (.int .i64 0)).set 1 (.int .i64 0)).set 2 (.slice none 0 0))
  have K9 : Hid (Keeps (fun _ => False) w w9) := Lib.hid (k1.trans' (T := fun j => j = b6) (by rw [← hw9]; exact (((Keeps.refl (fun k => k = b6) W1).setCell (p := ⟨b6, 0, none⟩) (fun _ => rfl) _).setCell (p := ⟨b6, 1, none⟩) (fun _ => rfl) _).setCell (p := ⟨b6, 2, none⟩) (fun _ => rfl) _) (fun j hj e => by omega))
  have d0 : decide (many < 1) = false := decide_eq_false (by omega)
  have d1 : decide (many > 64) = true := decide_eq_true (by omega)
  clear k1 hr2 h
  go_enter Try.func9, Try.ntmps9
  go_wp2
  refine bodyPost_ret (results_cell_tmp13 rfl _ _ b6 30 (tcs 0 0 none 0 0) (0, 0) _ rfl (by first | exact R9.out | (rw [hw9]; exact R9.out)) Try.underlying30 rfl size_T) rfl ?_
  exact ⟨rfl, by first | exact K9.out | (rw [hw9]; exact K9.out)⟩
set_option maxRecDepth 100000 in
set_option maxHeartbeats 2000000 in
theorem rnew_off2 (many L H : Int) (w : World) (h0 : ¬ many < 1) (h1 : ¬ many > 64) (h : L < 1) :
    Calls Try.prog 9 #[.int .i64 many, .int .i64 L, .int .i64 H] w fun e w' => e = .returned (.tuple #[.agg (tcs 0 0 none 0 0), .int .i64 1]) ∧ Keeps (fun _ => False) w w' := by
  obtain ⟨b6, hb6⟩ : ∃ x, w.heap.size = x := ⟨_, rfl⟩
  have hzt : ∀ V : World, (zeroValue 30).run Try.prog V = .ok (.agg #[.int .i64 0, .int .i64 0, .slice none 0 0]) V := zero_T
  obtain ⟨W1, hW1⟩ : ∃ V, w.alloc (.cells #[.int .i64 0, .int .i64 0, .slice none 0 0] 30) = V := ⟨_, rfl⟩
  have k1 : Keeps (fun _ => False) w W1 := by rw [← hW1]; exact (Keeps.refl _ _).alloc _
  have hr2 : Row W1 b6 30 [.int .i64 0, .int .i64 0, .slice none 0 0] := by rw [← hW1, ← hb6]; exact heap_alloc_new w _
  have c60 : W1.cell? ⟨b6, 0, none⟩ = some (.int .i64 0) := hr2.cell 0
  have c61 : W1.cell? ⟨b6, 1, none⟩ = some (.int .i64 0) := hr2.cell 1
  have c62 : W1.cell? ⟨b6, 2, none⟩ = some (.slice none 0 0) := hr2.cell 2
  have f60 := hr2.frozen 0
  have f61 := hr2.frozen 1
  have f62 := hr2.frozen 2
  obtain ⟨w9, hw9⟩ : ∃ V, ((W1.setCell ⟨b6, 0, none⟩ (.int .i64 0)).setCell ⟨b6, 1, none⟩ (.int .i64 0)).setCell ⟨b6, 2, none⟩ (.slice none 0 0) = V := ⟨_, rfl⟩
  have R9 : Hid (w9.heap[b6]? = some (.cells (tcs 0 0 none 0 0) 30 (0, 0))) := Lib.hid (by
    rw [← hw9]
    exact ((hr2.set 0 (.int .i64 0)).set 1 (.int .i64 0)).set 2 (.slice none 0 0))
  have K9 : Hid (Keeps (fun _ => False) w w9) := Lib.hid (k1.trans' (T := fun j => j = b6) (by rw [← hw9]; exact (((Keeps.refl (fun k => k = b6) W1).setCell (p := ⟨b6, 0, none⟩) (fun _ => rfl) _).setCell (p := ⟨b6, 1, none⟩) (fun _ => rfl) _).setCell (p := ⟨b6, 2, none⟩) (fun _ => rfl) _) (fun j hj e => by omega))
  have d0 : decide (many < 1) = false := decide_eq_false (by omega)
  have d1 : decide (many > 64) = false := decide_eq_false (by omega)
  have d2 : decide (L < 1) = true := decide_eq_true (by omega)
  clear k1 hr2 h
  go_enter Try.func9, Try.ntmps9
  go_wp2
  refine bodyPost_ret (results_cell_tmp13 rfl _ _ b6 30 (tcs 0 0 none 0 0) (0, 0) _ rfl (by first | exact R9.out | (rw [hw9]; exact R9.out)) Try.underlying30 rfl size_T) rfl ?_
  exact ⟨rfl, by first | exact K9.out | (rw [hw9]; exact K9.out)⟩
set_option maxRecDepth 100000 in
set_option maxHeartbeats 2000000 in
theorem rnew_off3 (many L H : Int) (w : World) (h0 : ¬ many < 1) (h1 : ¬ many > 64) (h2 : ¬ L < 1) (h : L > 1000) :
    Calls Try.prog 9 #[.int .i64 many, .int .i64 L, .int .i64 H] w fun e w' => e = .returned (.tuple #[.agg (tcs 0 0 none 0 0), .int .i64 1]) ∧ Keeps (fun _ => False) w w' := by
  obtain ⟨b6, hb6⟩ : ∃ x, w.heap.size = x := ⟨_, rfl⟩
  have hzt : ∀ V : World, (zeroValue 30).run Try.prog V = .ok (.agg #[.int .i64 0, .int .i64 0, .slice none 0 0]) V := zero_T
  obtain ⟨W1, hW1⟩ : ∃ V, w.alloc (.cells #[.int .i64 0, .int .i64 0, .slice none 0 0] 30) = V := ⟨_, rfl⟩
  have k1 : Keeps (fun _ => False) w W1 := by rw [← hW1]; exact (Keeps.refl _ _).alloc _
  have hr2 : Row W1 b6 30 [.int .i64 0, .int .i64 0, .slice none 0 0] := by rw [← hW1, ← hb6]; exact heap_alloc_new w _
  have c60 : W1.cell? ⟨b6, 0, none⟩ = some (.int .i64 0) := hr2.cell 0
  have c61 : W1.cell? ⟨b6, 1, none⟩ = some (.int .i64 0) := hr2.cell 1
  have c62 : W1.cell? ⟨b6, 2, none⟩ = some (.slice none 0 0) := hr2.cell 2
  have f60 := hr2.frozen 0
  have f61 := hr2.frozen 1
  have f62 := hr2.frozen 2
  obtain ⟨w9, hw9⟩ : ∃ V, ((W1.setCell ⟨b6, 0, none⟩ (.int .i64 0)).setCell ⟨b6, 1, none⟩ (.int .i64 0)).setCell ⟨b6, 2, none⟩ (.slice none 0 0) = V := ⟨_, rfl⟩
  have R9 : Hid (w9.heap[b6]? = some (.cells (tcs 0 0 none 0 0) 30 (0, 0))) := Lib.hid (by
    rw [← hw9]
    exact ((hr2.set 0 (.int .i64 0)).set 1 (.int .i64 0)).set 2 (.slice none 0 0))
  have K9 : Hid (Keeps (fun _ => False) w w9) := Lib.hid (k1.trans' (T := fun j => j = b6) (by rw [← hw9]; exact (((Keeps.refl (fun k => k = b6) W1).setCell (p := ⟨b6, 0, none⟩) (fun _ => rfl) _).setCell (p := ⟨b6, 1, none⟩) (fun _ => rfl) _).setCell (p := ⟨b6, 2, none⟩) (fun _ => rfl) _) (fun j hj e => by omega))
  have d0 : decide (many < 1) = false := decide_eq_false (by omega)
  have d1 : decide (many > 64) = false := decide_eq_false (by omega)
  have d2 : decide (L < 1) = false := decide_eq_false (by omega)
  have d3 : decide (L > 1000) = true := decide_eq_true (by omega)
  clear k1 hr2 h
  go_enter Try.func9, Try.ntmps9
  go_wp2
  refine bodyPost_ret (results_cell_tmp13 rfl _ _ b6 30 (tcs 0 0 none 0 0) (0, 0) _ rfl (by first | exact R9.out | (rw [hw9]; exact R9.out)) Try.underlying30 rfl size_T) rfl ?_
  exact ⟨rfl, by first | exact K9.out | (rw [hw9]; exact K9.out)⟩
set_option maxRecDepth 100000 in
set_option maxHeartbeats 2000000 in
theorem rnew_off4 (many L H : Int) (w : World) (h0 : ¬ many < 1) (h1 : ¬ many > 64) (h2 : ¬ L < 1) (h3 : ¬ L > 1000) (h : H < 1) :
    Calls Try.prog 9 #[.int .i64 many, .int .i64 L, .int .i64 H] w fun e w' => e = .returned (.tuple #[.agg (tcs 0 0 none 0 0), .int .i64 1]) ∧ Keeps (fun _ => False) w w' := by
  obtain ⟨b6, hb6⟩ : ∃ x, w.heap.size = x := ⟨_, rfl⟩
  have hzt : ∀ V : World, (zeroValue 30).run Try.prog V = .ok (.agg #[.int .i64 0, .int .i64 0, .slice none 0 0]) V := zero_T
  obtain ⟨W1, hW1⟩ : ∃ V, w.alloc (.cells #[.int .i64 0, .int .i64 0, .slice none 0 0] 30) = V := ⟨_, rfl⟩
  have k1 : Keeps (fun _ => False) w W1 := by rw [← hW1]; exact (Keeps.refl _ _).alloc _
  have hr2 : Row W1 b6 30 [.int .i64 0, .int .i64 0, .slice none 0 0] := by rw [← hW1, ← hb6]; exact heap_alloc_new w _
  have c60 : W1.cell? ⟨b6, 0, none⟩ = some (.int .i64 0) := hr2.cell 0
  have c61 : W1.cell? ⟨b6, 1, none⟩ = some (.int .i64 0) := hr2.cell 1
  have c62 : W1.cell? ⟨b6, 2, none⟩ = some (.slice none 0 0) := hr2.cell 2
  have f60 := hr2.frozen 0
  have f61 := hr2.frozen 1
  have f62 := hr2.frozen 2
  obtain ⟨w9, hw9⟩ : ∃ V, ((W1.setCell ⟨b6, 0, none⟩ (.int .i64 0)).setCell ⟨b6, 1, none⟩ (.int .i64 0)).setCell ⟨b6, 2, none⟩ (.slice none 0 0) = V := ⟨_, rfl⟩
  have R9 : Hid (w9.heap[b6]? = some (.cells (tcs 0 0 none 0 0) 30 (0, 0))) := Lib.hid (by
    rw [← hw9]
    exact ((hr2.set 0 (.int .i64 0)).set 1 (.int .i64 0)).set 2 (.slice none 0 0))
  have K9 : Hid (Keeps (fun _ => False) w w9) := Lib.hid (k1.trans' (T := fun j => j = b6) (by rw [← hw9]; exact (((Keeps.refl (fun k => k = b6) W1).setCell (p := ⟨b6, 0, none⟩) (fun _ => rfl) _).setCell (p := ⟨b6, 1, none⟩) (fun _ => rfl) _).setCell (p := ⟨b6, 2, none⟩) (fun _ => rfl) _) (fun j hj e => by omega))
  have d0 : decide (many < 1) = false := decide_eq_false (by omega)
  have d1 : decide (many > 64) = false := decide_eq_false (by omega)
  have d2 : decide (L < 1) = false := decide_eq_false (by omega)
  have d3 : decide (L > 1000) = false := decide_eq_false (by omega)
  have d4 : decide (H < 1) = true := decide_eq_true (by omega)
  clear k1 hr2 h
  go_enter Try.func9, Try.ntmps9
  go_wp2
  refine bodyPost_ret (results_cell_tmp13 rfl _ _ b6 30 (tcs 0 0 none 0 0) (0, 0) _ rfl (by first | exact R9.out | (rw [hw9]; exact R9.out)) Try.underlying30 rfl size_T) rfl ?_
  exact ⟨rfl, by first | exact K9.out | (rw [hw9]; exact K9.out)⟩
set_option maxRecDepth 100000 in
set_option maxHeartbeats 2000000 in
theorem rnew_off5 (many L H : Int) (w : World) (h0 : ¬ many < 1) (h1 : ¬ many > 64) (h2 : ¬ L < 1) (h3 : ¬ L > 1000) (h4 : ¬ H < 1) (h : H > 1000) :
    Calls Try.prog 9 #[.int .i64 many, .int .i64 L, .int .i64 H] w fun e w' => e = .returned (.tuple #[.agg (tcs 0 0 none 0 0), .int .i64 1]) ∧ Keeps (fun _ => False) w w' := by
  obtain ⟨b6, hb6⟩ : ∃ x, w.heap.size = x := ⟨_, rfl⟩
  have hzt : ∀ V : World, (zeroValue 30).run Try.prog V = .ok (.agg #[.int .i64 0, .int .i64 0, .slice none 0 0]) V := zero_T
  obtain ⟨W1, hW1⟩ : ∃ V, w.alloc (.cells #[.int .i64 0, .int .i64 0, .slice none 0 0] 30) = V := ⟨_, rfl⟩
  have k1 : Keeps (fun _ => False) w W1 := by rw [← hW1]; exact (Keeps.refl _ _).alloc _
  have hr2 : Row W1 b6 30 [.int .i64 0, .int .i64 0, .slice none 0 0] := by rw [← hW1, ← hb6]; exact heap_alloc_new w _
  have c60 : W1.cell? ⟨b6, 0, none⟩ = some (.int .i64 0) := hr2.cell 0
  have c61 : W1.cell? ⟨b6, 1, none⟩ = some (.int .i64 0) := hr2.cell 1
  have c62 : W1.cell? ⟨b6, 2, none⟩ = some (.slice none 0 0) := hr2.cell 2
  have f60 := hr2.frozen 0
  have f61 := hr2.frozen 1
  have f62 := hr2.frozen 2
  obtain ⟨w9, hw9⟩ : ∃ V, ((W1.setCell ⟨b6, 0, none⟩ (.int .i64 0)).setCell ⟨b6, 1, none⟩ (.int .i64 0)).setCell ⟨b6, 2, none⟩ (.slice none 0 0) = V := ⟨_, rfl⟩
  have R9 : Hid (w9.heap[b6]? = some (.cells (tcs 0 0 none 0 0) 30 (0, 0))) := Lib.hid (by
    rw [← hw9]
    exact ((hr2.set 0 (.int .i64 0)).set 1 (.int .i64 0)).set 2 (.slice none 0 0))
  have K9 : Hid (Keeps (fun _ => False) w w9) := Lib.hid (k1.trans' (T := fun j => j = b6) (by rw [← hw9]; exact (((Keeps.refl (fun k => k = b6) W1).setCell (p := ⟨b6, 0, none⟩) (fun _ => rfl) _).setCell (p := ⟨b6, 1, none⟩) (fun _ => rfl) _).setCell (p := ⟨b6, 2, none⟩) (fun _ => rfl) _) (fun j hj e => by omega))
  have d0 : decide (many < 1) = false := decide_eq_false (by omega)
  have d1 : decide (many > 64) = false := decide_eq_false (by omega)
  have d2 : decide (L < 1) = false := decide_eq_false (by omega)
  have d3 : decide (L > 1000) = false := decide_eq_false (by omega)
  have d4 : decide (H < 1) = false := decide_eq_false (by omega)
  have d5 : decide (H > 1000) = true := decide_eq_true (by omega)
  clear k1 hr2 h
  go_enter Try.func9, Try.ntmps9
  go_wp2
  refine bodyPost_ret (results_cell_tmp13 rfl _ _ b6 30 (tcs 0 0 none 0 0) (0, 0) _ rfl (by first | exact R9.out | (rw [hw9]; exact R9.out)) Try.underlying30 rfl size_T) rfl ?_
  exact ⟨rfl, by first | exact K9.out | (rw [hw9]; exact K9.out)⟩
theorem rnew_off (many L H : Int) (w : World) (h : ¬ ((1 ≤ many ∧ many ≤ 64) ∧ (1 ≤ L ∧ L ≤ 1000) ∧ (1 ≤ H ∧ H ≤ 1000))) :
    Calls Try.prog 9 #[.int .i64 many, .int .i64 L, .int .i64 H] w fun e w' => e = .returned (.tuple #[.agg (tcs 0 0 none 0 0), .int .i64 1]) ∧ Keeps (fun _ => False) w w' := by
  by_cases h0 : many < 1
  · exact rnew_off0 many L H w h0
  · by_cases h1 : many > 64
    · exact rnew_off1 many L H w h0 h1
    · by_cases h2 : L < 1
      · exact rnew_off2 many L H w h0 h1 h2
      · by_cases h3 : L > 1000
        · exact rnew_off3 many L H w h0 h1 h2 h3
        · by_cases h4 : H < 1
          · exact rnew_off4 many L H w h0 h1 h2 h3 h4
          · exact rnew_off5 many L H w h0 h1 h2 h3 h4 (by omega)
end Go.Proofs.Ytdihkbkcefjeoaa
