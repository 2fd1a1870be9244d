/-
  A super is written (a step of Sync and of Compact).
  The first step of a Compact.
  The steps of an Append, one behind the other.
  The steps of a Sync and of a Compact, one behind the other.
  The steps of a Compact, one behind the other.
  A record is appended (wal's Append): where it is refused.
-/
import Derived.Test.YtnhegnncmjmafaaWlSt
namespace Go.Proofs.Ytnhegnncmjmafaa
open Go.RowKit Go.BigFrame
set_option linter.unusedVariables false

theorem rangeAt_later {w w' : World} {g : Nat} {cs : List Value} (h : w.rangeAt g 0 cs) (k : Keeps (fun _ => False) w w') : w'.rangeAt g 0 cs := fun j v hv => by
  have h1 := h j v hv
  exact (k.cell (World.block_lt_of_cell? _ _ h1) id).trans h1
/-- A block is written of bytes that lie anywhere but in the disk. -/
theorem write_range (w3 : World) (F : Nat → Prop) (g : Nat) (s : Dk.St) (X cx : Nat) (h : DskAt w3 (fun k => F k ∧ k ≠ X) g s) (hF : ∀ k, w3.heap.size ≤ k → F k) (xs : List UInt8) (hX : w3.rangeAt X 0 (bvs xs)) (hlt : X < w3.heap.size)
    (i : Int) (m : Nat) (hxl : xs.length = 256) (hn : s.loose.length ≤ 1000) :
    Calls Try.prog 37 #[.pointer (some ⟨g, 0, none⟩), .int .i64 i, .slice (some ⟨X, 0, none⟩) m cx] w3 fun e w' => e = .returned (.int .i64 (Dk.wrE s i m)) ∧ DskAt w' F g (Dk.wr s i m xs) ∧ Keeps F w3 w' := by
  obtain ⟨gb, lb, h⟩ := h
  have h : DskM w3 (fun k => F k ∧ k ≠ X) g s gb lb := h
  have hF' : ∀ k, w3.heap.size ≤ k → F k ∧ k ≠ X := fun k hk => ⟨hF k hk, by omega⟩
  have hg0 : F g := by obtain ⟨_, _, _, _, h⟩ := h; exact h.fg.1
  have h0 : DskM w3 F g s gb lb := h.mono (fun k _ hf => hf.1)
  by_cases hat : Dk.atE s i = 0
  · have hat' : ¬ Dk.atE s i ≠ 0 := fun h => h hat
    by_cases hm : m = 256
    · have hor : ¬ (Dk.atE s i ≠ 0 ∨ m ≠ 256) := fun h => h.elim (fun h => h hat) (fun h => h hm)
      have hm' : ¬ m ≠ 256 := fun h => h hm
      subst hm
      obtain ⟨hd, _, h2, h3⟩ := Dk.atE_zero hat
      cases hg : Dk.goes s with
      | true =>
        rw [h3]
        refine (write_okM w3 _ g gb lb s h hF' i.toNat h2 hd hg X cx xs hxl hX (fun hh => hh.2 rfl) hn).mono ?_
        rintro e w' ⟨h4, h5, h6⟩
        rw [← h3]
        exact ⟨by unfold Dk.wrE Dk.cntE; rw [if_neg hat', if_neg hm', if_pos hg]; exact h4, by unfold Dk.wr; rw [if_neg hor, if_pos hg]; exact (h5.mono (fun k _ hf => hf.1)).any, h6.mono (fun k _ hf => hf.1)⟩
      | false =>
        have hg' : ¬ Dk.goes s = true := by rw [hg]; decide
        refine (write_downM w3 F g gb lb s i (some ⟨X, 0, none⟩) cx h0 hat hg).mono ?_
        rintro e w' ⟨h4, h5, h6⟩
        exact ⟨by unfold Dk.wrE Dk.cntE; rw [if_neg hat', if_neg hm', if_neg hg']; exact h4, by unfold Dk.wr; rw [if_neg hor, if_neg hg']; exact h5.any, h6.mono (fun k _ e => by subst e; exact hg0)⟩
    · refine (write_arg w3 F g s i (some ⟨X, 0, none⟩) m cx ⟨gb, lb, h0⟩ hat hm).mono ?_
      rintro e w' ⟨h4, rfl⟩
      exact ⟨by unfold Dk.wrE; rw [if_neg hat', if_pos hm]; exact h4, by unfold Dk.wr; rw [if_pos (Or.inr hm)]; exact h0.any, Keeps.refl _ _⟩
  · refine (write_at w3 F g s i _ ⟨gb, lb, h0⟩ hat).mono ?_
    rintro e w' ⟨h4, rfl⟩
    exact ⟨by unfold Dk.wrE; rw [if_pos hat]; exact h4, by unfold Dk.wr; rw [if_pos (Or.inl hat)]; exact h0.any, Keeps.refl _ _⟩
set_option maxRecDepth 100000 in
set_option maxHeartbeats 4000000 in
theorem sy1_any (w : World) (FD : Nat → Prop) (p g t a n : Nat) (s : Dk.St) (cs : List Value) (Bl Bn : Nat) (hR : Row w p 62 (.pointer (some ⟨g, 0, none⟩) :: cs)) (hD : DskAt w FD g s) (hp : ¬ FD p) (hclo : ∀ k, w.heap.size ≤ k → FD k)
    (h1 : Row w Bl 29 [.pointer (some ⟨p, 0, none⟩)]) (h2 : Row w Bn 64 (scells t a n)) (hb1 : ¬ FD Bl) (hb2 : ¬ FD Bn) (ht : t < 18446744073709551616) (ha : a < 256) (hn : n ≤ 90000000) (hl : s.loose.length ≤ 1000) :
    Calls Try.prog 36 #[.pointer (some ⟨Bl, 0, none⟩), .pointer (some ⟨Bn, 0, none⟩)] w fun e w' => e = .returned (.int .i64 (Dk.wrE s ((t % 2 : Nat) : Int) 256)) ∧ DskAt w' FD g (Dk.wr s ((t % 2 : Nat) : Int) 256 (Wl.sup t a n)) ∧ Keeps FD w w' := by
  obtain ⟨er, her⟩ : ∃ x, Dk.wrE s ((t % 2 : Nat) : Int) 256 = x := ⟨_, rfl⟩
  obtain ⟨s', hs'⟩ : ∃ x, Dk.wr s ((t % 2 : Nat) : Int) 256 (Wl.sup t a n) = x := ⟨_, rfl⟩
  have HL : Hid (∀ V, Keeps FD w V → V.cell? ⟨Bl, 0, none⟩ = some (.pointer (some ⟨p, 0, none⟩))) := Lib.hid (fun V hV => (h1.keeps hV hb1).cell 0)
  have HP0 : Hid (∀ V, Keeps FD w V → V.cell? ⟨p, 0, none⟩ = some (.pointer (some ⟨g, 0, none⟩))) := Lib.hid (fun V hV => (hR.keeps hV hp).cell 0)
  have HN : Hid (∀ V, Keeps FD w V → V.rangeAt Bn 0 (scells t a n)) := Lib.hid (fun V hV => rangeAt_row (h2.keeps hV hb2))
  have HPL : Hid (∀ V, Keeps FD w V → DskAt V FD g s → Calls Try.prog 38 #[.agg (scells t a n).toArray] V fun e w' => e = .returned (.int .i64 ((t % 2 : Nat) : Int)) ∧ Keeps FD w w' ∧ DskAt w' FD g s) := Lib.hid (fun V hV hd => (place_any t a n V ht).mono (fun e w' h => ⟨h.1, hV.trans (h.2.mono (fun _ _ h => h.elim)), hd.later h.2⟩))
  have HBY : Hid (∀ V, Keeps FD w V → DskAt V FD g s → Calls Try.prog 39 #[.agg (scells t a n).toArray] V fun e w' => ∃ x : Nat × Nat, e = .returned (.slice (some ⟨x.1, 0, none⟩) 256 x.2) ∧ Keeps FD w w' ∧ (DskAt w' (fun k => FD k ∧ k ≠ x.1) g s ∧ w'.rangeAt x.1 0 (bvs (Wl.sup t a n)) ∧ x.1 < w'.heap.size)) := Lib.hid (fun V hV hd => (sbytes_any t a n V ht ha hn).mono (fun e w' ⟨A, c, h1, h2, h3⟩ => by
    rw [Wl.sup_length] at h1 h2
    rcases h2.2 with ⟨_, h⟩ | ⟨X, cap, cur, e1, e2, e3, e4, e5, e6, e7⟩
    · exact absurd h (by omega)
    injection e1 with e8 e9 e10
    subst e8
    subst e10
    refine ⟨(X, c), h1, hV.trans (h3.mono (fun _ _ h => h.elim)), (hd.without e2).later h3, ?_, (Array.getElem?_eq_some_iff.1 e3).1⟩
    intro j v hv
    rw [Nat.zero_add, cell_of_row w' X j cur _ _ e3]
    rw [← e7, List.getElem?_take] at hv
    split at hv
    · simpa using hv
    · cases hv))
  have HWR : Hid (∀ V (x : Nat × Nat), Keeps FD w V → (DskAt V (fun k => FD k ∧ k ≠ x.1) g s ∧ V.rangeAt x.1 0 (bvs (Wl.sup t a n)) ∧ x.1 < V.heap.size) → Calls Try.prog 37 #[.pointer (some ⟨g, 0, none⟩), .int .i64 ((t % 2 : Nat) : Int), .slice (some ⟨x.1, 0, none⟩) 256 x.2] V fun e w' => e = .returned (.int .i64 er) ∧ Keeps FD w w' ∧ DskAt w' FD g s') := Lib.hid (fun V x hV hd => by
    have h := write_range V FD g s x.1 x.2 hd.1 (fun k hk => hclo k (Nat.le_trans hV.size hk)) _ hd.2.1 hd.2.2 ((t % 2 : Nat) : Int) 256 (Wl.sup_length t a n) hl
    rw [her, hs'] at h
    exact h.mono (fun e w' h => ⟨h.1, hV.trans h.2.2, h.2.1⟩))
  have HD := Lib.hid hD
  rw [her, hs']
  clear hR hD h1 h2 her hs'
  go_enter Try.func36, Try.ntmps36
  go_wp2_with fail
  refine wp_region_stores 10 [5, 7, 8] [0, 1, 2, 3, 4, 6, 5, 7, 8, 9] (fun V => Keeps FD w V) (fun V => DskAt V FD g s) (by kernel_rfl) (by kernel_rfl) (fun _ _ h k => h.trans (k.mono (fun _ _ h => h.elim))) (fun _ _ h k => h.later k) ((Keeps.refl _ _).drew) (HD.out.later ((Keeps.refl _ _).drew)) ?_
  refine T_cell (get_op rfl) (by rfl) (by rfl) 29 (.tmp 0) (by rfl) ⟨Bl, 0, none⟩ (by rfl) (.pointer (some ⟨p, 0, none⟩)) _ (fun V hV => HL.out V hV) Try.underlying29 rfl ?_
  simp only [Act.put, List.setIfInBounds_toArray, List.set_cons_zero, List.set_cons_succ]
  refine T_value (get_op rfl) (by rfl) (by rfl) (.pointer (some ⟨p, 0, none⟩)) (fun _ _ => by go_simp) ?_
  simp only [Act.put, List.setIfInBounds_toArray, List.set_cons_zero, List.set_cons_succ]
  refine T_value (get_op rfl) (by rfl) (by rfl) (.pointer (some ⟨p, 0, none⟩)) (fun _ _ => by go_simp) ?_
  simp only [Act.put, List.setIfInBounds_toArray, List.set_cons_zero, List.set_cons_succ]
  refine T_cell (get_op rfl) (by rfl) (by rfl) 25 (.tmp 5) (by rfl) ⟨p, 0, none⟩ (by rfl) (.pointer (some ⟨g, 0, none⟩)) _ (fun V hV => HP0.out V hV) Try.underlying25 rfl ?_
  simp only [Act.put, List.setIfInBounds_toArray, List.set_cons_zero, List.set_cons_succ]
  refine T_load (get_op rfl) (by rfl) (by rfl) 64 (.tmp 1) (by rfl) Bn 0 (by rfl) (scells t a n) _ (fun V hV => HN.out V hV) Try.underlying64 rfl size_super ?_
  simp only [Act.put, List.setIfInBounds_toArray, List.set_cons_zero, List.set_cons_succ]
  refine T_load (get_op rfl) (by rfl) (by rfl) 64 (.tmp 1) (by rfl) Bn 0 (by rfl) (scells t a n) _ (fun V hV => HN.out V hV) Try.underlying64 rfl size_super ?_
  simp only [Act.put, List.setIfInBounds_toArray, List.set_cons_zero, List.set_cons_succ]
  refine T_enter (get_op rfl) (by rfl) (by rfl) _ _ (.int .i64 ((t % 2 : Nat) : Int)) (fun _ => by go_simp) (fun V => DskAt V FD g s) (fun _ _ h k => h.later k) (fun V hb hf => HPL.out V hb hf) ?_
  simp only [Act.put, List.setIfInBounds_toArray, List.set_cons_zero, List.set_cons_succ]
  refine T_enterR (get_op rfl) (by rfl) (by rfl) _ _ (fun x7 : Nat × Nat => .slice (some ⟨x7.1, 0, none⟩) 256 x7.2) (fun x y h => by cases x; cases y; simp at h; simp [h]) (fun _ => by go_simp) (fun x7 V => DskAt V (fun k => FD k ∧ k ≠ x7.1) g s ∧ V.rangeAt x7.1 0 (bvs (Wl.sup t a n)) ∧ x7.1 < V.heap.size) (fun x7 => Lasts.and (fun _ _ h k => h.later k) (Lasts.and (fun _ _ h k => rangeAt_later h k) (fun _ _ h k => Nat.lt_of_lt_of_le h k.size))) (fun V hb hf => HBY.out V hb hf) ?_
  intro x7
  simp only [Act.put, List.setIfInBounds_toArray, List.set_cons_zero, List.set_cons_succ]
  refine T_enter (get_op rfl) (by rfl) (by rfl) _ _ (.int .i64 er) (fun _ => by go_simp) (fun V => DskAt V FD g s') (fun _ _ h k => h.later k) (fun V hb hf => HWR.out V x7 hb hf) ?_
  simp only [Act.put, List.setIfInBounds_toArray, List.set_cons_zero, List.set_cons_succ]
  refine T_value (get_op rfl) (by rfl) (by rfl) (.int .i64 er) (fun _ _ => by go_simp) ?_
  simp only [Act.put, List.setIfInBounds_toArray, List.set_cons_zero, List.set_cons_succ]
  refine T_nil ?_
  intro V9 k9 f9
  simp only [List.drop_succ_cons, List.drop_zero]
  go_wp2_with fail
  go_ret
  exact ⟨rfl, f9, k9⟩
set_option maxRecDepth 100000 in
set_option maxHeartbeats 4000000 in
theorem cp2_any (w : World) (FD : Nat → Prop) (p g t a n : Nat) (s : Dk.St) (cs : List Value) (Bl Bn : Nat) (hR : Row w p 62 (.pointer (some ⟨g, 0, none⟩) :: cs)) (hD : DskAt w FD g s) (hp : ¬ FD p) (hclo : ∀ k, w.heap.size ≤ k → FD k)
    (h1 : Row w Bl 29 [.pointer (some ⟨p, 0, none⟩)]) (h2 : Row w Bn 64 (scells t a n)) (hb1 : ¬ FD Bl) (hb2 : ¬ FD Bn) (ht : t < 18446744073709551616) (ha : a < 256) (hn : n ≤ 90000000) (hl : s.loose.length ≤ 1000) :
    Calls Try.prog 43 #[.pointer (some ⟨Bl, 0, none⟩), .pointer (some ⟨Bn, 0, none⟩)] w fun e w' => e = .returned (.int .i64 (Dk.wrE s ((t % 2 : Nat) : Int) 256)) ∧ DskAt w' FD g (Dk.wr s ((t % 2 : Nat) : Int) 256 (Wl.sup t a n)) ∧ Keeps FD w w' := by
  obtain ⟨er, her⟩ : ∃ x, Dk.wrE s ((t % 2 : Nat) : Int) 256 = x := ⟨_, rfl⟩
  obtain ⟨s', hs'⟩ : ∃ x, Dk.wr s ((t % 2 : Nat) : Int) 256 (Wl.sup t a n) = x := ⟨_, rfl⟩
  have HL : Hid (∀ V, Keeps FD w V → V.cell? ⟨Bl, 0, none⟩ = some (.pointer (some ⟨p, 0, none⟩))) := Lib.hid (fun V hV => (h1.keeps hV hb1).cell 0)
  have HP0 : Hid (∀ V, Keeps FD w V → V.cell? ⟨p, 0, none⟩ = some (.pointer (some ⟨g, 0, none⟩))) := Lib.hid (fun V hV => (hR.keeps hV hp).cell 0)
  have HN : Hid (∀ V, Keeps FD w V → V.rangeAt Bn 0 (scells t a n)) := Lib.hid (fun V hV => rangeAt_row (h2.keeps hV hb2))
  have HPL : Hid (∀ V, Keeps FD w V → DskAt V FD g s → Calls Try.prog 38 #[.agg (scells t a n).toArray] V fun e w' => e = .returned (.int .i64 ((t % 2 : Nat) : Int)) ∧ Keeps FD w w' ∧ DskAt w' FD g s) := Lib.hid (fun V hV hd => (place_any t a n V ht).mono (fun e w' h => ⟨h.1, hV.trans (h.2.mono (fun _ _ h => h.elim)), hd.later h.2⟩))
  have HBY : Hid (∀ V, Keeps FD w V → DskAt V FD g s → Calls Try.prog 39 #[.agg (scells t a n).toArray] V fun e w' => ∃ x : Nat × Nat, e = .returned (.slice (some ⟨x.1, 0, none⟩) 256 x.2) ∧ Keeps FD w w' ∧ (DskAt w' (fun k => FD k ∧ k ≠ x.1) g s ∧ w'.rangeAt x.1 0 (bvs (Wl.sup t a n)) ∧ x.1 < w'.heap.size)) := Lib.hid (fun V hV hd => (sbytes_any t a n V ht ha hn).mono (fun e w' ⟨A, c, h1, h2, h3⟩ => by
    rw [Wl.sup_length] at h1 h2
    rcases h2.2 with ⟨_, h⟩ | ⟨X, cap, cur, e1, e2, e3, e4, e5, e6, e7⟩
    · exact absurd h (by omega)
    injection e1 with e8 e9 e10
    subst e8
    subst e10
    refine ⟨(X, c), h1, hV.trans (h3.mono (fun _ _ h => h.elim)), (hd.without e2).later h3, ?_, (Array.getElem?_eq_some_iff.1 e3).1⟩
    intro j v hv
    rw [Nat.zero_add, cell_of_row w' X j cur _ _ e3]
    rw [← e7, List.getElem?_take] at hv
    split at hv
    · simpa using hv
    · cases hv))
  have HWR : Hid (∀ V (x : Nat × Nat), Keeps FD w V → (DskAt V (fun k => FD k ∧ k ≠ x.1) g s ∧ V.rangeAt x.1 0 (bvs (Wl.sup t a n)) ∧ x.1 < V.heap.size) → Calls Try.prog 37 #[.pointer (some ⟨g, 0, none⟩), .int .i64 ((t % 2 : Nat) : Int), .slice (some ⟨x.1, 0, none⟩) 256 x.2] V fun e w' => e = .returned (.int .i64 er) ∧ Keeps FD w w' ∧ DskAt w' FD g s') := Lib.hid (fun V x hV hd => by
    have h := write_range V FD g s x.1 x.2 hd.1 (fun k hk => hclo k (Nat.le_trans hV.size hk)) _ hd.2.1 hd.2.2 ((t % 2 : Nat) : Int) 256 (Wl.sup_length t a n) hl
    rw [her, hs'] at h
    exact h.mono (fun e w' h => ⟨h.1, hV.trans h.2.2, h.2.1⟩))
  have HD := Lib.hid hD
  rw [her, hs']
  clear hR hD h1 h2 her hs'
  go_enter Try.func43, Try.ntmps43
  go_wp2_with fail
  refine wp_region_stores 10 [5, 7, 8] [0, 1, 2, 3, 4, 6, 5, 7, 8, 9] (fun V => Keeps FD w V) (fun V => DskAt V FD g s) (by kernel_rfl) (by kernel_rfl) (fun _ _ h k => h.trans (k.mono (fun _ _ h => h.elim))) (fun _ _ h k => h.later k) ((Keeps.refl _ _).drew) (HD.out.later ((Keeps.refl _ _).drew)) ?_
  refine T_cell (get_op rfl) (by rfl) (by rfl) 29 (.tmp 0) (by rfl) ⟨Bl, 0, none⟩ (by rfl) (.pointer (some ⟨p, 0, none⟩)) _ (fun V hV => HL.out V hV) Try.underlying29 rfl ?_
  simp only [Act.put, List.setIfInBounds_toArray, List.set_cons_zero, List.set_cons_succ]
  refine T_value (get_op rfl) (by rfl) (by rfl) (.pointer (some ⟨p, 0, none⟩)) (fun _ _ => by go_simp) ?_
  simp only [Act.put, List.setIfInBounds_toArray, List.set_cons_zero, List.set_cons_succ]
  refine T_value (get_op rfl) (by rfl) (by rfl) (.pointer (some ⟨p, 0, none⟩)) (fun _ _ => by go_simp) ?_
  simp only [Act.put, List.setIfInBounds_toArray, List.set_cons_zero, List.set_cons_succ]
  refine T_cell (get_op rfl) (by rfl) (by rfl) 25 (.tmp 5) (by rfl) ⟨p, 0, none⟩ (by rfl) (.pointer (some ⟨g, 0, none⟩)) _ (fun V hV => HP0.out V hV) Try.underlying25 rfl ?_
  simp only [Act.put, List.setIfInBounds_toArray, List.set_cons_zero, List.set_cons_succ]
  refine T_load (get_op rfl) (by rfl) (by rfl) 64 (.tmp 1) (by rfl) Bn 0 (by rfl) (scells t a n) _ (fun V hV => HN.out V hV) Try.underlying64 rfl size_super ?_
  simp only [Act.put, List.setIfInBounds_toArray, List.set_cons_zero, List.set_cons_succ]
  refine T_load (get_op rfl) (by rfl) (by rfl) 64 (.tmp 1) (by rfl) Bn 0 (by rfl) (scells t a n) _ (fun V hV => HN.out V hV) Try.underlying64 rfl size_super ?_
  simp only [Act.put, List.setIfInBounds_toArray, List.set_cons_zero, List.set_cons_succ]
  refine T_enter (get_op rfl) (by rfl) (by rfl) _ _ (.int .i64 ((t % 2 : Nat) : Int)) (fun _ => by go_simp) (fun V => DskAt V FD g s) (fun _ _ h k => h.later k) (fun V hb hf => HPL.out V hb hf) ?_
  simp only [Act.put, List.setIfInBounds_toArray, List.set_cons_zero, List.set_cons_succ]
  refine T_enterR (get_op rfl) (by rfl) (by rfl) _ _ (fun x7 : Nat × Nat => .slice (some ⟨x7.1, 0, none⟩) 256 x7.2) (fun x y h => by cases x; cases y; simp at h; simp [h]) (fun _ => by go_simp) (fun x7 V => DskAt V (fun k => FD k ∧ k ≠ x7.1) g s ∧ V.rangeAt x7.1 0 (bvs (Wl.sup t a n)) ∧ x7.1 < V.heap.size) (fun x7 => Lasts.and (fun _ _ h k => h.later k) (Lasts.and (fun _ _ h k => rangeAt_later h k) (fun _ _ h k => Nat.lt_of_lt_of_le h k.size))) (fun V hb hf => HBY.out V hb hf) ?_
  intro x7
  simp only [Act.put, List.setIfInBounds_toArray, List.set_cons_zero, List.set_cons_succ]
  refine T_enter (get_op rfl) (by rfl) (by rfl) _ _ (.int .i64 er) (fun _ => by go_simp) (fun V => DskAt V FD g s') (fun _ _ h k => h.later k) (fun V hb hf => HWR.out V x7 hb hf) ?_
  simp only [Act.put, List.setIfInBounds_toArray, List.set_cons_zero, List.set_cons_succ]
  refine T_value (get_op rfl) (by rfl) (by rfl) (.int .i64 er) (fun _ _ => by go_simp) ?_
  simp only [Act.put, List.setIfInBounds_toArray, List.set_cons_zero, List.set_cons_succ]
  refine T_nil ?_
  intro V9 k9 f9
  simp only [List.drop_succ_cons, List.drop_zero]
  go_wp2_with fail
  go_ret
  exact ⟨rfl, f9, k9⟩
end Go.Proofs.Ytnhegnncmjmafaa
namespace Go.Proofs.Ytnhegnncmjmafaa
open Go.RowKit Go.BigFrame
set_option linter.unusedVariables false

set_option maxRecDepth 100000 in
set_option maxHeartbeats 4000000 in
theorem cp1_any (w : World) (FD : Nat → Prop) (p g k area t n c tl : Nat) (s : Dk.St) (cs : List Value) (A : Option Addr) (b : List UInt8) (Bl Bn Bh : Nat) (hR : Row w p 62 (.pointer (some ⟨g, 0, none⟩) :: .int .i64 (k : Int) :: cs)) (hD : DskAt w FD g s) (hp : ¬ FD p) (hclo : ∀ k, w.heap.size ≤ k → FD k)
    (h1 : Row w Bl 29 [.pointer (some ⟨p, 0, none⟩)]) (h2 : Row w Bn 64 (scells t area tl)) (h3 : Row w Bh 33 [.slice A n c])
    (hs : Src w A (bvs b)) (hA : ∀ a, A = some a → ¬ FD a.block) (hn : b.length = n) (hk : k ≤ 32767) (ha : area < 2) (hb : n ≤ 8388608) (hbc : n ≤ c) (hc : c ≤ 9223372036854775807) (hl : s.loose.length + Wl.nch b ≤ 1000) :
    Calls Try.prog 42 #[.pointer (some ⟨Bl, 0, none⟩), .pointer (some ⟨Bn, 0, none⟩), .pointer (some ⟨Bh, 0, none⟩)] w fun e w' => e = .returned (.int .i64 (Wl.wst s (2 + area * k) b (Wl.nch b)).1) ∧ DskAt w' FD g (Wl.wst s (2 + area * k) b (Wl.nch b)).2 ∧ Keeps FD w w' := by
  have h := wwrite_any w FD p g k area 0 s cs A c b hR hD hp hclo hs hA hk ha (by omega) (by omega) (by omega) hc hl
  rw [hn, Nat.add_zero] at h
  obtain ⟨st, hst⟩ : ∃ x, Wl.wst s (2 + area * k) b (Wl.nch b) = x := ⟨_, rfl⟩
  rw [hst] at h ⊢
  have c1 : w.cell? ⟨Bl, 0, none⟩ = some (.pointer (some ⟨p, 0, none⟩)) := h1.cell 0
  have c2 : w.cell? ⟨Bn, 1, none⟩ = some (.int .i64 (area : Int)) := h2.cell 1
  have c3 : w.cell? ⟨Bh, 0, none⟩ = some (.slice A n c) := h3.cell 0
  have HW := Lib.hid h
  clear hR hD h1 h2 h3 hs hA hst h
  go_enter Try.func42, Try.ntmps42
  go_wp2_with fail
  refine HW.out.mono ?_
  rintro e w' ⟨rfl, h4, h5⟩
  have HZ := Lib.hid (And.intro h4 h5)
  clear h4 h5
  go_wp2_with fail
  go_ret
  exact ⟨rfl, HZ.out.1, HZ.out.2⟩
end Go.Proofs.Ytnhegnncmjmafaa
namespace Go.Proofs.Ytnhegnncmjmafaa
open Go.RowKit Go.BigFrame
set_option linter.unusedVariables false

theorem lcells_ok {g : Nat} {l : Wl.St} {A : Option Addr} {c : Nat} (he : l.err = 0) : lcells g { l with err := 0 } A c = lcells g l A c := by
  unfold lcells; rw [he]; rfl
set_option maxHeartbeats 1000000 in
theorem ap_steps (w W : World) (F FD : Nat → Prop) (p g : Nat) (l : Wl.St) (s : Dk.St) (A : Option Addr) (c : Nat) (hx : WalX w F FD p g l s A c) (bs : List UInt8) (he : l.err = 0) (hnb : bs.length ≤ 16384) (hl : s.loose.length ≤ 900)
    (hk : Keeps (fun k => (Value.slice A (Wl.hv l).length c).ownBlock = some k) w W) (Aq : Option Addr) (cq n : Nat) (hn : n = (Wl.hv l).length + (8 + bs.length)) (hfree : n ≤ 256 * l.k)
    (oA : W.ownsRow 0 5 1 (.slice A (Wl.hv l).length c) (Wl.hv l).length (bvs (Wl.hv l)))
    (oq : W.ownsRow 0 5 1 (.slice Aq n cq) n (bvs (Wl.hv l) ++ bvs (Wl.frame bs)))
    (hat : (Value.slice Aq n cq).ownBlock = (Value.slice A (Wl.hv l).length c).ownBlock ∨ ∃ k, w.heap.size ≤ k ∧ (Value.slice Aq n cq).ownBlock = some k)
    (Bl Bf Bh X : Nat) (hBl : w.heap.size ≤ Bl) (hBf : w.heap.size ≤ Bf) (hBh : w.heap.size ≤ Bh) (hX : w.heap.size ≤ X)
    (rl : Row W Bl 29 [.pointer (some ⟨p, 0, none⟩)]) (rf : Row W Bf 3 [.int .i64 (((Wl.hv l).length / 256 : Nat) : Int)]) (rh : Row W Bh 33 [.slice Aq n cq])
    (rx : Row W X 39 [.func (.func 32) #[] #[.pointer (some ⟨Bl, 0, none⟩), .pointer (some ⟨Bf, 0, none⟩), .pointer (some ⟨Bh, 0, none⟩)], .func (.func 34) #[] #[.pointer (some ⟨Bh, 0, none⟩), .pointer (some ⟨Bl, 0, none⟩)]]) :
    Calls Try.prog 31 #[.pointer (some ⟨p, 0, none⟩), .slice (some ⟨X, 0, none⟩) 2 2] W fun e w' => e = .returned (.int .i64 (Wl.ap l s bs).1) ∧ Wal w' F p g (Wl.ap l s bs).2.1 (Wl.ap l s bs).2.2 ∧ Keeps F w w' := by
  have hok := hx.log.ok
  have hfit := hok.fit
  have hk2 := hok.k2
  have hnn : n ≤ 8388352 := by omega
  obtain ⟨FX, hFX⟩ : ∃ f, cutW FD w.heap.size W.heap.size = f := ⟨_, rfl⟩
  have hsz := hk.size
  have new : ∀ B, w.heap.size ≤ B → B < W.heap.size → ¬ FX B := fun B h1 h2 hf => by rw [← hFX] at hf; rcases hf.2 with h | h <;> omega
  have hp : ¬ FX p := fun hf => hx.log.fp.2 (by rw [← hFX] at hf; exact hf.1)
  have clo : ∀ k, W.heap.size ≤ k → FX k := fun k hk => by rw [← hFX]; exact ⟨hx.clo k (by omega), .inr hk⟩
  have sub : ∀ k, FX k → F k := fun k hf => by rw [← hFX] at hf; exact hx.sub k hf.1
  have hoA : ∀ k, (Value.slice A (Wl.hv l).length c).ownBlock = some k → ¬ FX k ∧ F k := fun k hk => ⟨fun hf => (hx.log.fown k hk).2 (by rw [← hFX] at hf; exact hf.1), (hx.log.fown k hk).1⟩
  have hoq : ∀ k, (Value.slice Aq n cq).ownBlock = some k → ¬ FX k ∧ F k := fun k hk => by
    rcases hat with h | ⟨k', h1, h2⟩
    · rw [h] at hk; exact hoA k hk
    · rw [h2] at hk; injection hk with hk; subst hk
      exact ⟨new _ h1 (oq.lt _ h2).2, hx.sub _ (hx.clo _ h1)⟩
  have hpB : ∀ k, (Value.slice A (Wl.hv l).length c).ownBlock = some k → k ≠ p := fun k hk => own_apart hx.log.own hx.log.row (by decide) k hk
  have hRW : Row W p 62 (lcells g l A c) := hx.log.row.keeps hk (fun e => hpB p e rfl)
  have hplt := hx.log.row.lt
  have hDW : DskAt W FX g s := by
    rw [← hFX]
    exact (hx.dsk.mono (fun k h1 hf => ⟨hf, .inl h1⟩)).keeps hk (fun k h1 hf e => (hx.log.fown k e).2 hf.1)
  have hne : ∀ k, w.heap.size ≤ k → k < W.heap.size → ¬ (FX k ∨ k = p) := fun k h1 h2 h => h.elim (new k h1 h2) (fun e => by omega)
  obtain ⟨first, hfi⟩ : ∃ f, (Wl.hv l).length / 256 = f := ⟨_, rfl⟩
  rw [hfi] at rf
  obtain ⟨bb, hbb⟩ : ∃ b, Wl.hv l ++ Wl.frame bs = b := ⟨_, rfl⟩
  have hbl : bb.length = n := by rw [← hbb, List.length_append, Wl.frame_length, hn]
  have hbv : bvs (Wl.hv l) ++ bvs (Wl.frame bs) = bvs bb := by rw [← hbb]; unfold bvs; rw [List.map_append]
  rw [hbv] at oq
  obtain ⟨Aq', cq', hv, hnc, hcm, -⟩ := RowIn.of_own oq
  obtain ⟨ad, rfl⟩ : ∃ ad, Aq = some ad := by
    cases Aq with
    | some ad => exact ⟨ad, rfl⟩
    | none =>
      have h := (Src.of_own oq) 0 (bv (bb[0]'(by omega))) (by rw [bvs_get, List.getElem?_eq_getElem (by omega)]; rfl)
      obtain ⟨_, h, _⟩ := h
      exact absurd h (by simp)
  have hab : (Value.slice (some ad) n cq).ownBlock = some ad.block := by
    unfold Value.ownBlock; rfl
  injection hv with e1 e2 e3
  subst e3
  have hadF := (hoq ad.block hab).1
  have hadp : ad.block ≠ p := own_apart oq hRW (by decide) ad.block hab
  obtain ⟨r, hr⟩ : ∃ r, Wl.wst s (2 + l.area * l.k + first) (bb.drop (256 * first)) (Wl.nch (bb.drop (256 * first))) = r := ⟨_, rfl⟩
  have hap : Wl.ap l s bs = if r.1 ≠ 0 then (r.1, { l with err := r.1 }, r.2) else (0, { l with rows := l.rows ++ [bs] }, r.2) := by
    unfold Wl.ap
    rw [if_neg (by simpa using he), if_neg (by omega), if_neg (by omega)]
    simp only [hfi, hbb, hr]
  have hch : Wl.nch (bb.drop (256 * first)) ≤ 66 := by
    unfold Wl.nch
    rw [List.length_drop, hbl, hn]
    omega
  have hlc : lcells g { l with err := 0 } A c = lcells g l A c := lcells_ok he
  have hl2 : Wl.hv { l with rows := l.rows ++ [bs] } = bb := by rw [← hbb]; exact Wl.frames_snoc _ _
  have hc2 : lcells g { l with rows := l.rows ++ [bs] } (some ad) cq = [.pointer (some ⟨g, 0, none⟩), .int .i64 (l.k : Int), .int .u64 (l.turn : Int), .int .i64 (l.area : Int), .slice (some ad) n cq, .int .i64 ((l.rows.length : Int) + 1), .int .i64 (l.sure : Int), .int .i64 0] := by
    unfold lcells
    rw [hl2, hbl, he]
    simp
  have hlen2 : l.rows.length ≤ 1000000000 := by have := hok.many; omega
  refine (steps_any p X 2 2 _ rfl (by omega)
    (fun j V => Keeps (fun k => FX k ∨ k = p) W V ∧ ((j = 0 ∧ Row V p 62 (lcells g l A c) ∧ DskAt V FX g s) ∨ (j = 1 ∧ r.1 = 0 ∧ Row V p 62 (lcells g l A c) ∧ DskAt V FX g r.2) ∨ (j = 2 ∧ r.1 = 0 ∧ Row V p 62 (lcells g { l with rows := l.rows ++ [bs] } (some ad) cq) ∧ DskAt V FX g r.2)))
    (fun x V => Keeps (fun k => FX k ∨ k = p) W V ∧ x = r.1 ∧ Row V p 62 (lcells g { l with err := r.1 } A c) ∧ DskAt V FX g r.2)
    W ⟨Keeps.refl _ _, .inl ⟨rfl, hRW, hDW⟩⟩ (fun j V h => rx.keeps h.1 (hne X hX rx.lt)) ?hq ?hr ?hst).mono ?fin
  case hq =>
    rintro j V ⟨_, ⟨_, h, _⟩ | ⟨_, _, h, _⟩ | ⟨_, _, h, _⟩⟩
    · rw [h.cell, ← hlc]; rfl
    · rw [h.cell, ← hlc]; rfl
    · rw [h.cell, hc2]; rfl
  case hr =>
    rintro x V ⟨_, h1, h2, _⟩
    rw [h2.cell, h1]; rfl
  case hst =>
    intro j f hf
    rcases j with _ | _ | j
    · obtain rfl : _ = f := Option.some.inj hf
      refine ⟨_, _, _, rfl, fun args V => enters_of Try.func32 (by kernel_rfl) rfl args V, ?_⟩
      rintro V ⟨hK, ⟨_, h1, h2⟩ | ⟨h, _⟩ | ⟨h, _⟩⟩
      · have h := ap1_any V FX p g l.k l.area first n cq s _ _ ad bb Bl Bf Bh h1 h2 hp (fun k hk => clo k (Nat.le_trans hK.size hk)) (rl.keeps hK (hne Bl hBl rl.lt)) (rf.keeps hK (hne Bf hBf rf.lt)) (rh.keeps hK (hne Bh hBh rh.lt)) (new Bl hBl rl.lt) (new Bf hBf rf.lt) (new Bh hBh rh.lt)
          (Src.of_own (hK.owns oq (fun k hk h => h.elim (hoq k hk).1 (fun e => by rw [hab] at hk; injection hk with hk; exact hadp (hk.trans e))))) hbl hadF hok.k2 hok.area (by omega) (by omega) (by omega) hnc (by unfold maxLen at hcm; omega) (by omega)
        rw [hr] at h
        refine h.mono ?_
        rintro e V' ⟨rfl, hd, hk3⟩
        have hrow := h1.keeps hk3 hp
        have hKK : Keeps (fun k => FX k ∨ k = p) W (V'.setCell ⟨p, 7, none⟩ (.int .i64 r.1)) := (hK.trans (hk3.mono (fun _ _ h => .inl h))).trans ((Keeps.refl (fun k => FX k ∨ k = p) V').setCell (p := ⟨p, 7, none⟩) (fun _ => .inr rfl) _)
        have hdd : DskAt (V'.setCell ⟨p, 7, none⟩ (.int .i64 r.1)) FX g r.2 := hd.keeps ((Keeps.refl (fun k => k = p) V').setCell (p := ⟨p, 7, none⟩) (fun _ => rfl) _) (fun k _ hf e => hp (e ▸ hf))
        have hrr : Row (V'.setCell ⟨p, 7, none⟩ (.int .i64 r.1)) p 62 (lcells g { l with err := r.1 } A c) := hrow.set 7 _
        exact ⟨r.1, _, rfl, hrow.cell 7, hrow.frozen 7, fun h0 => ⟨hKK, .inr (.inl ⟨rfl, h0, by rw [← hlc]; rw [h0] at hrr ⊢; exact hrr, hdd⟩)⟩, fun h0 => ⟨hKK, rfl, hrr, hdd⟩⟩
      · exact absurd h (by omega)
      · exact absurd h (by omega)
    · obtain rfl : _ = f := Option.some.inj hf
      refine ⟨_, _, _, rfl, fun args V => enters_of Try.func34 (by kernel_rfl) rfl args V, ?_⟩
      rintro V ⟨hK, ⟨h, _⟩ | ⟨_, h0, h1, h2⟩ | ⟨h, _⟩⟩
      · exact absurd h (by omega)
      · refine (ap2_any V p l.rows.length n cq (some ad) _ _ _ _ _ _ _ Bl Bh h1 hlen2 (rl.keeps hK (hne Bl hBl rl.lt)) (rh.keeps hK (hne Bh hBh rh.lt)) (by omega) (by omega)).mono ?_
        rintro e V' ⟨rfl, hrow, hk3⟩
        have hKK : Keeps (fun k => FX k ∨ k = p) W (V'.setCell ⟨p, 7, none⟩ (.int .i64 0)) := (hK.trans (hk3.mono (fun _ _ h => .inr h))).trans ((Keeps.refl (fun k => FX k ∨ k = p) V').setCell (p := ⟨p, 7, none⟩) (fun _ => .inr rfl) _)
        have hdd : DskAt (V'.setCell ⟨p, 7, none⟩ (.int .i64 0)) FX g r.2 := h2.keeps (hk3.trans ((Keeps.refl (fun k => k = p) V').setCell (p := ⟨p, 7, none⟩) (fun _ => rfl) _)) (fun k _ hf e => hp (e ▸ hf))
        have hrr : Row (V'.setCell ⟨p, 7, none⟩ (.int .i64 0)) p 62 (lcells g { l with rows := l.rows ++ [bs] } (some ad) cq) := by rw [hc2]; exact hrow.set 7 _
        exact ⟨0, _, rfl, hrow.cell 7, hrow.frozen 7, fun _ => ⟨hKK, .inr (.inr ⟨rfl, h0, hrr, hdd⟩)⟩, fun h => absurd rfl h⟩
      · exact absurd h (by omega)
    · simp at hf
  case fin =>
    have fit2 : ∀ V, Keeps (fun k => FX k ∨ k = p) W V → Keeps F w V := fun V hK => by
      refine (hk.mono (fun k _ e => (hoA k e).2)).trans' hK (fun k _ h => h.elim (sub k) (fun e => e ▸ hx.log.fp.1))
    rintro e V ⟨x, rfl, hx0, hx1⟩
    by_cases h : x = 0
    · obtain ⟨hK, ⟨h', _⟩ | ⟨h', _⟩ | ⟨_, h0, h1, h2⟩⟩ := hx0 h
      · exact absurd h' (by omega)
      · exact absurd h' (by omega)
      rw [hap, if_neg (by simpa using h0)]
      refine ⟨by rw [h], ⟨FX, some ad, cq, ⟨h1, ?_, ⟨hx.log.fp.1, hp⟩, ?_, ⟨hok.k1, hok.k2, hok.turn, hok.area, ?_, ?_, ?_⟩⟩, h2, fun k hk => clo k (Nat.le_trans hK.size hk), sub⟩, fit2 V hK⟩
      · rw [hl2, hbl]; exact hK.owns oq (fun k hk h => h.elim (hoq k hk).1 (fun e => by rw [hab] at hk; injection hk with hk; exact hadp (hk.trans e)))
      · rw [hl2, hbl]; exact fun k hk => ⟨(hoq k hk).2, (hoq k hk).1⟩
      · intro r hr
        rcases List.mem_append.1 hr with h | h
        · exact hok.rows r h
        · rw [List.mem_singleton.1 h]; exact hnb
      · rw [hl2, hbl]; exact hfree
      · show l.sure ≤ (l.rows ++ [bs]).length
        have := hok.sure
        rw [List.length_append]; omega
    · obtain ⟨hK, h0, h1, h2⟩ := hx1 h
      rw [hap, if_pos (by rw [← h0]; exact h)]
      exact ⟨by rw [h0], ⟨FX, A, c, ⟨h1, hK.owns oA (fun k hk h => h.elim (hoA k hk).1 (hpB k hk)), ⟨hx.log.fp.1, hp⟩, fun k hk => ⟨(hoA k hk).2, (hoA k hk).1⟩, ⟨hok.k1, hok.k2, hok.turn, hok.area, hok.rows, hok.fit, hok.sure⟩⟩, h2, fun k hk => clo k (Nat.le_trans hK.size hk), sub⟩, fit2 V hK⟩
end Go.Proofs.Ytnhegnncmjmafaa
namespace Go.Proofs.Ytnhegnncmjmafaa
open Go.RowKit Go.BigFrame
set_option linter.unusedVariables false

/-- A step that reaches the disk alone. -/
theorem dsk_step {W V : World} {FX : Nat → Prop} {p g c : Nat} {l : Wl.St} {s' : Dk.St} {A : Option Addr} {id : FuncId} {args : Array Value} {x : Int}
    (hc : Calls Try.prog id args V fun e w' => e = .returned (.int .i64 x) ∧ DskAt w' FX g s' ∧ Keeps FX V w') (hrow : Row V p 62 (lcells g l A c)) (hp : ¬ FX p) (hK : Keeps (fun k => FX k ∨ k = p) W V) :
    Calls Try.prog id args V fun e w' => ∃ x' e0, e = .returned (.int .i64 x') ∧ w'.cell? ⟨p, 7, none⟩ = some (.int .i64 e0) ∧ w'.frozen? ⟨p, 7, none⟩ = false ∧ x' = x ∧ Keeps (fun k => FX k ∨ k = p) W (w'.setCell ⟨p, 7, none⟩ (.int .i64 x')) ∧ Row (w'.setCell ⟨p, 7, none⟩ (.int .i64 x')) p 62 (lcells g { l with err := x' } A c) ∧ DskAt (w'.setCell ⟨p, 7, none⟩ (.int .i64 x')) FX g s' := by
  refine hc.mono ?_
  rintro e V' ⟨rfl, hd, hk3⟩
  have h := hrow.keeps hk3 hp
  exact ⟨x, _, rfl, h.cell 7, h.frozen 7, rfl, (hK.trans (hk3.mono (fun _ _ h => .inl h))).trans ((Keeps.refl (fun k => FX k ∨ k = p) V').setCell (p := ⟨p, 7, none⟩) (fun _ => .inr rfl) _), h.set 7 _,
    hd.keeps ((Keeps.refl (fun k => k = p) V').setCell (p := ⟨p, 7, none⟩) (fun _ => rfl) _) (fun k _ hf e => hp (e ▸ hf))⟩
/-- The last step: the log's own cells. -/
theorem own_step {W V : World} {FX : Nat → Prop} {p g c : Nat} {l' : Wl.St} {s' : Dk.St} {A : Option Addr} {id : FuncId} {args : Array Value} (he : l'.err = 0)
    (hc : Calls Try.prog id args V fun e w' => e = .returned (.int .i64 0) ∧ Row w' p 62 (lcells g l' A c) ∧ Keeps (fun k => k = p) V w') (hd : DskAt V FX g s') (hp : ¬ FX p) (hK : Keeps (fun k => FX k ∨ k = p) W V) :
    Calls Try.prog id args V fun e w' => ∃ x' e0, e = .returned (.int .i64 x') ∧ w'.cell? ⟨p, 7, none⟩ = some (.int .i64 e0) ∧ w'.frozen? ⟨p, 7, none⟩ = false ∧ x' = 0 ∧ Keeps (fun k => FX k ∨ k = p) W (w'.setCell ⟨p, 7, none⟩ (.int .i64 x')) ∧ Row (w'.setCell ⟨p, 7, none⟩ (.int .i64 x')) p 62 (lcells g l' A c) ∧ DskAt (w'.setCell ⟨p, 7, none⟩ (.int .i64 x')) FX g s' := by
  refine hc.mono ?_
  rintro e V' ⟨rfl, h, hk3⟩
  have hr : Row (V'.setCell ⟨p, 7, none⟩ (.int .i64 0)) p 62 (lcells g { l' with err := 0 } A c) := h.set 7 _
  rw [lcells_ok he] at hr
  exact ⟨0, _, rfl, h.cell 7, h.frozen 7, rfl, (hK.trans (hk3.mono (fun _ _ h => .inr h))).trans ((Keeps.refl (fun k => FX k ∨ k = p) V').setCell (p := ⟨p, 7, none⟩) (fun _ => .inr rfl) _), hr,
    hd.keeps (hk3.trans ((Keeps.refl (fun k => k = p) V').setCell (p := ⟨p, 7, none⟩) (fun _ => rfl) _)) (fun k _ hf e => hp (e ▸ hf))⟩
namespace Wl
theorem stamp0 {l : St} {s : Dk.St} {a tail : Nat} (h : Dk.syE s ≠ 0) : stamp l s a tail = (Dk.syE s, Dk.sy s) := by unfold stamp; rw [if_pos h]
theorem stamp1 {l : St} {s : Dk.St} {a tail : Nat} (h : Dk.syE s = 0) (h1 : Dk.wrE (Dk.sy s) (((l.turn + 1) % 2 : Nat) : Int) 256 ≠ 0) : stamp l s a tail = (Dk.wrE (Dk.sy s) (((l.turn + 1) % 2 : Nat) : Int) 256, Dk.wr (Dk.sy s) (((l.turn + 1) % 2 : Nat) : Int) 256 (sup (l.turn + 1) a tail)) := by
  unfold stamp; rw [if_neg (fun hh => hh h)]; simp only []; rw [if_pos h1]
theorem stamp2 {l : St} {s : Dk.St} {a tail : Nat} (h : Dk.syE s = 0) (h1 : Dk.wrE (Dk.sy s) (((l.turn + 1) % 2 : Nat) : Int) 256 = 0) : stamp l s a tail = (Dk.syE (Dk.wr (Dk.sy s) (((l.turn + 1) % 2 : Nat) : Int) 256 (sup (l.turn + 1) a tail)), Dk.sy (Dk.wr (Dk.sy s) (((l.turn + 1) % 2 : Nat) : Int) 256 (sup (l.turn + 1) a tail))) := by
  unfold stamp; rw [if_neg (fun hh => hh h)]; simp only []; rw [if_neg (fun hh => hh h1)]
end Wl
set_option maxHeartbeats 1000000 in
theorem sy_steps (w W : World) (F FD : Nat → Prop) (p g : Nat) (l : Wl.St) (s : Dk.St) (A : Option Addr) (c : Nat) (hx : WalX w F FD p g l s A c) (he : l.err = 0) (hne : l.sure ≠ l.rows.length) (hl : s.loose.length ≤ 990) (ht : l.turn + 1 < 4611686018427387904)
    (hk : Keeps (fun _ => False) w W) (Bl Bn X : Nat) (hBl : w.heap.size ≤ Bl) (hBn : w.heap.size ≤ Bn) (hX : w.heap.size ≤ X)
    (rl : Row W Bl 29 [.pointer (some ⟨p, 0, none⟩)]) (rn : Row W Bn 64 (scells (l.turn + 1) l.area (Wl.hv l).length))
    (rx : Row W X 39 [.func (.func 35) #[.pointer (some ⟨g, 0, none⟩)] #[], .func (.func 36) #[] #[.pointer (some ⟨Bl, 0, none⟩), .pointer (some ⟨Bn, 0, none⟩)], .func (.func 35) #[.pointer (some ⟨g, 0, none⟩)] #[], .func (.func 40) #[] #[.pointer (some ⟨Bn, 0, none⟩), .pointer (some ⟨Bl, 0, none⟩)]]) :
    Calls Try.prog 31 #[.pointer (some ⟨p, 0, none⟩), .slice (some ⟨X, 0, none⟩) 4 4] W fun e w' => e = .returned (.int .i64 (Wl.sy l s).1) ∧ Wal w' F p g (Wl.sy l s).2.1 (Wl.sy l s).2.2 ∧ Keeps F w w' := by
  have hok := hx.log.ok
  have hroom := hok.room
  have harea := hok.area
  obtain ⟨FX, hFX⟩ : ∃ f, cutW FD w.heap.size W.heap.size = f := ⟨_, rfl⟩
  have hsz := hk.size
  have new : ∀ B, w.heap.size ≤ B → B < W.heap.size → ¬ FX B := fun B h1 h2 hf => by rw [← hFX] at hf; rcases hf.2 with h | h <;> omega
  have hp : ¬ FX p := fun hf => hx.log.fp.2 (by rw [← hFX] at hf; exact hf.1)
  have clo : ∀ k, W.heap.size ≤ k → FX k := fun k hk => by rw [← hFX]; exact ⟨hx.clo k (by omega), .inr hk⟩
  have sub : ∀ k, FX k → F k := fun k hf => by rw [← hFX] at hf; exact hx.sub k hf.1
  have hoA : ∀ k, (Value.slice A (Wl.hv l).length c).ownBlock = some k → ¬ FX k ∧ F k := fun k hk => ⟨fun hf => (hx.log.fown k hk).2 (by rw [← hFX] at hf; exact hf.1), (hx.log.fown k hk).1⟩
  have hpB : ∀ k, (Value.slice A (Wl.hv l).length c).ownBlock = some k → k ≠ p := fun k hk => own_apart hx.log.own hx.log.row (by decide) k hk
  have hRW : Row W p 62 (lcells g l A c) := hx.log.row.keeps hk id
  have hplt := hx.log.row.lt
  have hDW : DskAt W FX g s := by rw [← hFX]; exact (hx.dsk.mono (fun k h1 hf => ⟨hf, .inl h1⟩)).later hk
  have oA := hk.owns hx.log.own (fun _ _ => id)
  have hne2 : ∀ k, w.heap.size ≤ k → k < W.heap.size → ¬ (FX k ∨ k = p) := fun k h1 h2 h => h.elim (new k h1 h2) (fun e => by omega)
  have hlc : lcells g { l with err := 0 } A c = lcells g l A c := lcells_ok he
  obtain ⟨r, hr⟩ : ∃ r, Wl.stamp l s l.area (Wl.hv l).length = r := ⟨_, rfl⟩
  obtain ⟨s1, hs1⟩ : ∃ x, Dk.sy s = x := ⟨_, rfl⟩
  obtain ⟨s2, hs2⟩ : ∃ x, Dk.wr s1 (((l.turn + 1) % 2 : Nat) : Int) 256 (Wl.sup (l.turn + 1) l.area (Wl.hv l).length) = x := ⟨_, rfl⟩
  have l1 : s1.loose.length ≤ 990 := by have := Dk.sy_length s; rw [hs1] at this; omega
  have l2 : s2.loose.length ≤ 991 := by have := Dk.wr_length s1 (((l.turn + 1) % 2 : Nat) : Int) 256 (Wl.sup (l.turn + 1) l.area (Wl.hv l).length); rw [hs2] at this; omega
  have r0 : Dk.syE s ≠ 0 → r = (Dk.syE s, s1) := fun h => by rw [← hr, ← hs1]; exact Wl.stamp0 h
  have r1 : Dk.syE s = 0 → Dk.wrE s1 (((l.turn + 1) % 2 : Nat) : Int) 256 ≠ 0 → r = (Dk.wrE s1 (((l.turn + 1) % 2 : Nat) : Int) 256, s2) := fun h h1 => by rw [← hr, ← hs2, ← hs1]; rw [← hs1] at h1; exact Wl.stamp1 h h1
  have r2 : Dk.syE s = 0 → Dk.wrE s1 (((l.turn + 1) % 2 : Nat) : Int) 256 = 0 → r = (Dk.syE s2, Dk.sy s2) := fun h h1 => by rw [← hr, ← hs2, ← hs1]; rw [← hs1] at h1; exact Wl.stamp2 h h1
  have hsy : Wl.sy l s = if r.1 ≠ 0 then (r.1, { l with err := r.1 }, r.2) else (0, { l with turn := l.turn + 1, sure := l.rows.length }, r.2) := by
    unfold Wl.sy
    rw [if_neg (by simpa using he), if_neg hne]
    simp only [hr]
  have bad : ∀ V' x s', Row V' p 62 (lcells g { l with err := x } A c) → DskAt V' FX g s' → r = (x, s') → x = r.1 ∧ Row V' p 62 (lcells g { l with err := r.1 } A c) ∧ DskAt V' FX g r.2 := fun V' x s' h1 h2 e => by rw [e]; exact ⟨rfl, h1, h2⟩
  refine (steps_any p X 4 4 _ rfl (by omega)
    (fun j V => Keeps (fun k => FX k ∨ k = p) W V ∧ ((j < 4 ∧ Row V p 62 (lcells g l A c) ∧ ((j = 0 ∧ DskAt V FX g s) ∨ (j = 1 ∧ Dk.syE s = 0 ∧ DskAt V FX g s1) ∨ (j = 2 ∧ Dk.syE s = 0 ∧ Dk.wrE s1 (((l.turn + 1) % 2 : Nat) : Int) 256 = 0 ∧ DskAt V FX g s2) ∨ (j = 3 ∧ r.1 = 0 ∧ DskAt V FX g r.2))) ∨ (j = 4 ∧ r.1 = 0 ∧ Row V p 62 (lcells g { l with turn := l.turn + 1, sure := l.rows.length } A c) ∧ DskAt V FX g r.2)))
    (fun x V => Keeps (fun k => FX k ∨ k = p) W V ∧ x = r.1 ∧ Row V p 62 (lcells g { l with err := r.1 } A c) ∧ DskAt V FX g r.2)
    W ⟨Keeps.refl _ _, .inl ⟨by omega, hRW, .inl ⟨rfl, hDW⟩⟩⟩ (fun j V h => rx.keeps h.1 (hne2 X hX rx.lt)) ?hq ?hr ?hst).mono ?fin
  case hq =>
    rintro j V ⟨_, ⟨_, h, _⟩ | ⟨_, _, h, _⟩⟩
    · rw [h.cell, ← hlc]; rfl
    · rw [h.cell]
      show some (Value.int .i64 l.err) = _
      rw [he]
  case hr =>
    rintro x V ⟨_, h1, h2, _⟩
    rw [h2.cell, h1]; rfl
  case hst =>
    intro j f hf
    rcases j with _ | _ | _ | _ | j
    · obtain rfl : _ = f := Option.some.inj hf
      refine ⟨_, _, _, rfl, fun args V => enters_of Try.func35 (by kernel_rfl) rfl args V, ?_⟩
      rintro V ⟨hK, ⟨_, h1, ⟨_, h2⟩ | ⟨h, _⟩ | ⟨h, _⟩ | ⟨h, _⟩⟩ | ⟨h, _⟩⟩ <;> try exact absurd h (by omega)
      have hcall := sync_any V FX g s h2 (fun k hk => clo k (Nat.le_trans hK.size hk)) (by omega)
      rw [hs1] at hcall
      refine (dsk_step hcall h1 hp hK).mono ?_
      rintro e V' ⟨x, e0, h3, h4, h5, rfl, h6, h7, h8⟩
      refine ⟨_, e0, h3, h4, h5, fun h0 => ⟨h6, .inl ⟨by omega, ?_, .inr (.inl ⟨rfl, h0, h8⟩)⟩⟩, fun h0 => ⟨h6, bad _ _ _ h7 h8 (r0 h0)⟩⟩
      rw [h0] at h7 ⊢; rw [← hlc]; exact h7
    · obtain rfl : _ = f := Option.some.inj hf
      refine ⟨_, _, _, rfl, fun args V => enters_of Try.func36 (by kernel_rfl) rfl args V, ?_⟩
      rintro V ⟨hK, ⟨_, h1, ⟨h, _⟩ | ⟨_, hz, h2⟩ | ⟨h, _⟩ | ⟨h, _⟩⟩ | ⟨h, _⟩⟩ <;> try exact absurd h (by omega)
      have hcall := sy1_any V FX p g (l.turn + 1) l.area (Wl.hv l).length s1 _ Bl Bn h1 h2 hp (fun k hk => clo k (Nat.le_trans hK.size hk)) (rl.keeps hK (hne2 Bl hBl rl.lt)) (rn.keeps hK (hne2 Bn hBn rn.lt)) (new Bl hBl rl.lt) (new Bn hBn rn.lt) (by omega) (by omega) (by omega) (by omega)
      rw [hs2] at hcall
      refine (dsk_step hcall h1 hp hK).mono ?_
      rintro e V' ⟨x, e0, h3, h4, h5, rfl, h6, h7, h8⟩
      refine ⟨_, e0, h3, h4, h5, fun h0 => ⟨h6, .inl ⟨by omega, ?_, .inr (.inr (.inl ⟨rfl, hz, h0, h8⟩))⟩⟩, fun h0 => ⟨h6, bad _ _ _ h7 h8 (r1 hz h0)⟩⟩
      rw [h0] at h7 ⊢; rw [← hlc]; exact h7
    · obtain rfl : _ = f := Option.some.inj hf
      refine ⟨_, _, _, rfl, fun args V => enters_of Try.func35 (by kernel_rfl) rfl args V, ?_⟩
      rintro V ⟨hK, ⟨_, h1, ⟨h, _⟩ | ⟨h, _⟩ | ⟨_, hz, hz1, h2⟩ | ⟨h, _⟩⟩ | ⟨h, _⟩⟩ <;> try exact absurd h (by omega)
      have hcall := sync_any V FX g s2 h2 (fun k hk => clo k (Nat.le_trans hK.size hk)) (by omega)
      refine (dsk_step hcall h1 hp hK).mono ?_
      rintro e V' ⟨x, e0, h3, h4, h5, rfl, h6, h7, h8⟩
      refine ⟨_, e0, h3, h4, h5, fun h0 => ⟨h6, .inl ⟨by omega, ?_, .inr (.inr (.inr ⟨rfl, by rw [r2 hz hz1]; exact h0, by rw [r2 hz hz1]; exact h8⟩))⟩⟩, fun h0 => ⟨h6, bad _ _ _ h7 h8 (r2 hz hz1)⟩⟩
      rw [h0] at h7 ⊢; rw [← hlc]; exact h7
    · obtain rfl : _ = f := Option.some.inj hf
      refine ⟨_, _, _, rfl, fun args V => enters_of Try.func40 (by kernel_rfl) rfl args V, ?_⟩
      rintro V ⟨hK, ⟨_, h1, ⟨h, _⟩ | ⟨h, _⟩ | ⟨h, _⟩ | ⟨_, hz, h2⟩⟩ | ⟨h, _⟩⟩ <;> try exact absurd h (by omega)
      have hcall := sy2_any V p l.rows.length (l.turn + 1) _ _ _ _ _ _ _ _ Bl Bn h1 (rl.keeps hK (hne2 Bl hBl rl.lt)) (rn.keeps hK (hne2 Bn hBn rn.lt)) (by omega) (by omega)
      refine (own_step (l' := { l with turn := l.turn + 1, sure := l.rows.length }) he hcall h2 hp hK).mono ?_
      rintro e V' ⟨x, e0, h3, h4, h5, rfl, h6, h7, h8⟩
      exact ⟨_, e0, h3, h4, h5, fun h0 => ⟨h6, .inr ⟨rfl, hz, h7, h8⟩⟩, fun h0 => absurd rfl h0⟩
    · simp at hf
  case fin =>
    have fit2 : ∀ V, Keeps (fun k => FX k ∨ k = p) W V → Keeps F w V := fun V hK => by
      refine (hk.mono (fun k _ e => e.elim)).trans' hK (fun k _ h => h.elim (sub k) (fun e => e ▸ hx.log.fp.1))
    have ownV : ∀ V, Keeps (fun k => FX k ∨ k = p) W V → V.ownsRow 0 5 1 (.slice A (Wl.hv l).length c) (Wl.hv l).length (bvs (Wl.hv l)) := fun V hK => hK.owns oA (fun k hk h => h.elim (hoA k hk).1 (hpB k hk))
    rintro e V ⟨x, rfl, hx0, hx1⟩
    by_cases h : x = 0
    · obtain ⟨hK, ⟨h', _⟩ | ⟨_, h0, h1, h2⟩⟩ := hx0 h
      · exact absurd h' (by omega)
      rw [hsy, if_neg (by simpa using h0)]
      exact ⟨by rw [h], ⟨FX, A, c, ⟨h1, ownV V hK, ⟨hx.log.fp.1, hp⟩, fun k hk => ⟨(hoA k hk).2, (hoA k hk).1⟩, ⟨hok.k1, hok.k2, ht, hok.area, hok.rows, hok.fit, Nat.le_refl _⟩⟩, h2, fun k hk => clo k (Nat.le_trans hK.size hk), sub⟩, fit2 V hK⟩
    · obtain ⟨hK, h0, h1, h2⟩ := hx1 h
      rw [hsy, if_pos (by rw [← h0]; exact h)]
      exact ⟨by rw [h0], ⟨FX, A, c, ⟨h1, ownV V hK, ⟨hx.log.fp.1, hp⟩, fun k hk => ⟨(hoA k hk).2, (hoA k hk).1⟩, ⟨hok.k1, hok.k2, hok.turn, hok.area, hok.rows, hok.fit, hok.sure⟩⟩, h2, fun k hk => clo k (Nat.le_trans hK.size hk), sub⟩, fit2 V hK⟩
end Go.Proofs.Ytnhegnncmjmafaa
namespace Go.Proofs.Ytnhegnncmjmafaa
open Go.RowKit Go.BigFrame
set_option linter.unusedVariables false

set_option maxHeartbeats 2000000 in
theorem cp_steps (w W : World) (F FD : Nat → Prop) (p g : Nat) (l : Wl.St) (s : Dk.St) (A : Option Addr) (c : Nat) (hx : WalX w F FD p g l s A c) (he : l.err = 0) (rs : List Wl.Bs) (hrs : ∀ r ∈ rs, r.length ≤ 16384) (n : Nat) (hn : (Wl.frames rs).length = n) (hfit : n ≤ 256 * l.k) (hl : s.loose.length + Wl.nch (Wl.frames rs) ≤ 990) (ht : l.turn + 1 < 4611686018427387904)
    (hk : Keeps (fun _ => False) w W) (Ah Ar : Option Addr) (ch cr Bl Bn Bh Br X : Nat) (hBl : w.heap.size ≤ Bl) (hBn : w.heap.size ≤ Bn) (hBh : w.heap.size ≤ Bh) (hBr : w.heap.size ≤ Br) (hX : w.heap.size ≤ X)
    (oq : W.ownsRow w.heap.size 5 1 (.slice Ah n ch) n (bvs (Wl.frames rs)))
    (rl : Row W Bl 29 [.pointer (some ⟨p, 0, none⟩)]) (rn : Row W Bn 64 (scells (l.turn + 1) (1 - l.area) n)) (rh : Row W Bh 33 [.slice Ah n ch]) (rr : Row W Br 23 [.slice Ar rs.length cr])
    (rx : Row W X 39 [.func (.func 42) #[] #[.pointer (some ⟨Bl, 0, none⟩), .pointer (some ⟨Bn, 0, none⟩), .pointer (some ⟨Bh, 0, none⟩)], .func (.func 35) #[.pointer (some ⟨g, 0, none⟩)] #[], .func (.func 43) #[] #[.pointer (some ⟨Bl, 0, none⟩), .pointer (some ⟨Bn, 0, none⟩)], .func (.func 35) #[.pointer (some ⟨g, 0, none⟩)] #[], .func (.func 44) #[] #[.pointer (some ⟨Bn, 0, none⟩), .pointer (some ⟨Bh, 0, none⟩), .pointer (some ⟨Bl, 0, none⟩), .pointer (some ⟨Br, 0, none⟩)]]) :
    Calls Try.prog 31 #[.pointer (some ⟨p, 0, none⟩), .slice (some ⟨X, 0, none⟩) 5 5] W fun e w' => e = .returned (.int .i64 (Wl.cp l s rs).1) ∧ Wal w' F p g (Wl.cp l s rs).2.1 (Wl.cp l s rs).2.2 ∧ Keeps F w w' := by
  have hok := hx.log.ok
  have hroom := hok.room
  have harea := hok.area
  have hk2 := hok.k2
  obtain ⟨FX, hFX⟩ : ∃ f, cutW FD w.heap.size W.heap.size = f := ⟨_, rfl⟩
  have hsz := hk.size
  have new : ∀ B, w.heap.size ≤ B → B < W.heap.size → ¬ FX B := fun B h1 h2 hf => by rw [← hFX] at hf; rcases hf.2 with h | h <;> omega
  have hp : ¬ FX p := fun hf => hx.log.fp.2 (by rw [← hFX] at hf; exact hf.1)
  have clo : ∀ k, W.heap.size ≤ k → FX k := fun k hk => by rw [← hFX]; exact ⟨hx.clo k (by omega), .inr hk⟩
  have sub : ∀ k, FX k → F k := fun k hf => by rw [← hFX] at hf; exact hx.sub k hf.1
  have hoA : ∀ k, (Value.slice A (Wl.hv l).length c).ownBlock = some k → ¬ FX k ∧ F k := fun k hk => ⟨fun hf => (hx.log.fown k hk).2 (by rw [← hFX] at hf; exact hf.1), (hx.log.fown k hk).1⟩
  have hoq : ∀ k, (Value.slice Ah n ch).ownBlock = some k → ¬ FX k ∧ F k := fun k hk => ⟨new k (oq.lt k hk).1 (oq.lt k hk).2, hx.sub _ (hx.clo _ (oq.lt k hk).1)⟩
  have hpB : ∀ k, (Value.slice A (Wl.hv l).length c).ownBlock = some k → k ≠ p := fun k hk => own_apart hx.log.own hx.log.row (by decide) k hk
  have hplt := hx.log.row.lt
  have hpQ : ∀ k, (Value.slice Ah n ch).ownBlock = some k → k ≠ p := fun k hk e => by have := (oq.lt k hk).1; omega
  have hRW : Row W p 62 (lcells g l A c) := hx.log.row.keeps hk id
  have hDW : DskAt W FX g s := by rw [← hFX]; exact (hx.dsk.mono (fun k h1 hf => ⟨hf, .inl h1⟩)).later hk
  have oA := hk.owns hx.log.own (fun _ _ => id)
  have hne2 : ∀ k, w.heap.size ≤ k → k < W.heap.size → ¬ (FX k ∨ k = p) := fun k h1 h2 h => h.elim (new k h1 h2) (fun e => by omega)
  have hlc : lcells g { l with err := 0 } A c = lcells g l A c := lcells_ok he
  obtain ⟨_, _, hv, hnc, hcm, -⟩ := RowIn.of_own oq
  injection hv with e1 e2 e3
  subst e3
  have hAF : ∀ a, Ah = some a → ¬ FX a.block := fun a ha => (hoq a.block (by rw [ha]; rfl)).1
  obtain ⟨w0, hw0⟩ : ∃ r, Wl.wst s (2 + (1 - l.area) * l.k) (Wl.frames rs) (Wl.nch (Wl.frames rs)) = r := ⟨_, rfl⟩
  have l0 : w0.2.loose.length ≤ 990 := by have := Wl.wst_length s (2 + (1 - l.area) * l.k) (Wl.frames rs) (Wl.nch (Wl.frames rs)); rw [hw0] at this; omega
  obtain ⟨r, hr⟩ : ∃ r, Wl.stamp l w0.2 (1 - l.area) n = r := ⟨_, rfl⟩
  obtain ⟨s1, hs1⟩ : ∃ x, Dk.sy w0.2 = x := ⟨_, rfl⟩
  obtain ⟨s2, hs2⟩ : ∃ x, Dk.wr s1 (((l.turn + 1) % 2 : Nat) : Int) 256 (Wl.sup (l.turn + 1) (1 - l.area) n) = x := ⟨_, rfl⟩
  have l1 : s1.loose.length ≤ 990 := by have := Dk.sy_length w0.2; rw [hs1] at this; omega
  have l2 : s2.loose.length ≤ 991 := by have := Dk.wr_length s1 (((l.turn + 1) % 2 : Nat) : Int) 256 (Wl.sup (l.turn + 1) (1 - l.area) n); rw [hs2] at this; omega
  have r0 : Dk.syE w0.2 ≠ 0 → r = (Dk.syE w0.2, s1) := fun h => by rw [← hr, ← hs1]; exact Wl.stamp0 h
  have r1 : Dk.syE w0.2 = 0 → Dk.wrE s1 (((l.turn + 1) % 2 : Nat) : Int) 256 ≠ 0 → r = (Dk.wrE s1 (((l.turn + 1) % 2 : Nat) : Int) 256, s2) := fun h h1 => by rw [← hr, ← hs2, ← hs1]; rw [← hs1] at h1; exact Wl.stamp1 h h1
  have r2 : Dk.syE w0.2 = 0 → Dk.wrE s1 (((l.turn + 1) % 2 : Nat) : Int) 256 = 0 → r = (Dk.syE s2, Dk.sy s2) := fun h h1 => by rw [← hr, ← hs2, ← hs1]; rw [← hs1] at h1; exact Wl.stamp2 h h1
  obtain ⟨z, hz⟩ : ∃ z, (if w0.1 ≠ 0 then w0 else r) = z := ⟨_, rfl⟩
  have zw : w0.1 ≠ 0 → z = (w0.1, w0.2) := fun h => by rw [← hz, if_pos h]
  have zr : w0.1 = 0 → z = r := fun h => by rw [← hz, if_neg (fun hh => hh h)]
  have hbig : ¬ ∃ r ∈ rs, 16384 < r.length := fun ⟨r, h1, h2⟩ => by have := hrs r h1; omega
  have hcp : Wl.cp l s rs = if z.1 ≠ 0 then (z.1, { l with err := z.1 }, z.2) else (0, { l with turn := l.turn + 1, area := 1 - l.area, rows := rs, sure := rs.length }, z.2) := by
    unfold Wl.cp
    rw [if_neg (by simpa using he), if_neg hbig, if_neg (by omega)]
    simp only [hw0, hn, hr]
    by_cases h : w0.1 = 0
    · rw [if_neg (fun hh => hh h), zr h]
    · rw [if_pos h, zw h]
      simp only []
      rw [if_pos h]
  have bad : ∀ V' x s', Row V' p 62 (lcells g { l with err := x } A c) → DskAt V' FX g s' → z = (x, s') → x = z.1 ∧ Row V' p 62 (lcells g { l with err := z.1 } A c) ∧ DskAt V' FX g z.2 := fun V' x s' h1 h2 e => by rw [e]; exact ⟨rfl, h1, h2⟩
  have hlf : lcells g { l with turn := l.turn + 1, area := 1 - l.area, rows := rs, sure := rs.length } Ah ch = [.pointer (some ⟨g, 0, none⟩), .int .i64 (l.k : Int), .int .u64 ((l.turn + 1 : Nat) : Int), .int .i64 ((1 - l.area : Nat) : Int), .slice Ah n ch, .int .i64 (rs.length : Int), .int .i64 (rs.length : Int), .int .i64 l.err] := by
    unfold lcells
    rw [← hn]
    rfl
  refine (steps_any p X 5 5 _ rfl (by omega)
    (fun j V => Keeps (fun k => FX k ∨ k = p) W V ∧ ((j < 5 ∧ Row V p 62 (lcells g l A c) ∧ ((j = 0 ∧ DskAt V FX g s) ∨ (j = 1 ∧ w0.1 = 0 ∧ DskAt V FX g w0.2) ∨ (j = 2 ∧ w0.1 = 0 ∧ Dk.syE w0.2 = 0 ∧ DskAt V FX g s1) ∨ (j = 3 ∧ w0.1 = 0 ∧ Dk.syE w0.2 = 0 ∧ Dk.wrE s1 (((l.turn + 1) % 2 : Nat) : Int) 256 = 0 ∧ DskAt V FX g s2) ∨ (j = 4 ∧ z.1 = 0 ∧ DskAt V FX g z.2))) ∨ (j = 5 ∧ z.1 = 0 ∧ Row V p 62 (lcells g { l with turn := l.turn + 1, area := 1 - l.area, rows := rs, sure := rs.length } Ah ch) ∧ DskAt V FX g z.2)))
    (fun x V => Keeps (fun k => FX k ∨ k = p) W V ∧ x = z.1 ∧ Row V p 62 (lcells g { l with err := z.1 } A c) ∧ DskAt V FX g z.2)
    W ⟨Keeps.refl _ _, .inl ⟨by omega, hRW, .inl ⟨rfl, hDW⟩⟩⟩ (fun j V h => rx.keeps h.1 (hne2 X hX rx.lt)) ?hq ?hr ?hst).mono ?fin
  case hq =>
    rintro j V ⟨_, ⟨_, h, _⟩ | ⟨_, _, h, _⟩⟩
    · rw [h.cell, ← hlc]; rfl
    · rw [h.cell]
      show some (Value.int .i64 l.err) = _
      rw [he]
  case hr =>
    rintro x V ⟨_, h1, h2, _⟩
    rw [h2.cell, h1]; rfl
  case hst =>
    intro j f hf
    rcases j with _ | _ | _ | _ | _ | j
    · obtain rfl : _ = f := Option.some.inj hf
      refine ⟨_, _, _, rfl, fun args V => enters_of Try.func42 (by kernel_rfl) rfl args V, ?_⟩
      rintro V ⟨hK, ⟨_, h1, ⟨_, h2⟩ | ⟨h, _⟩ | ⟨h, _⟩ | ⟨h, _⟩ | ⟨h, _⟩⟩ | ⟨h, _⟩⟩ <;> try exact absurd h (by omega)
      have hcall := cp1_any V FX p g l.k (1 - l.area) (l.turn + 1) n ch n s _ Ah (Wl.frames rs) Bl Bn Bh h1 h2 hp (fun k hk => clo k (Nat.le_trans hK.size hk)) (rl.keeps hK (hne2 Bl hBl rl.lt)) (rn.keeps hK (hne2 Bn hBn rn.lt)) (rh.keeps hK (hne2 Bh hBh rh.lt))
        (Src.of_own (hK.owns oq (fun k hk h => h.elim (hoq k hk).1 (hpQ k hk)))) hAF hn hk2 (by omega) (by omega) hnc (by unfold maxLen at hcm; omega) (by omega)
      rw [hw0] at hcall
      refine (dsk_step hcall h1 hp hK).mono ?_
      rintro e V' ⟨x, e0, h3, h4, h5, rfl, h6, h7, h8⟩
      refine ⟨_, e0, h3, h4, h5, fun h0 => ⟨h6, .inl ⟨by omega, ?_, .inr (.inl ⟨rfl, h0, h8⟩)⟩⟩, fun h0 => ⟨h6, bad _ _ _ h7 h8 (zw h0)⟩⟩
      rw [h0] at h7 ⊢; rw [← hlc]; exact h7
    · obtain rfl : _ = f := Option.some.inj hf
      refine ⟨_, _, _, rfl, fun args V => enters_of Try.func35 (by kernel_rfl) rfl args V, ?_⟩
      rintro V ⟨hK, ⟨_, h1, ⟨h, _⟩ | ⟨_, hz0, h2⟩ | ⟨h, _⟩ | ⟨h, _⟩ | ⟨h, _⟩⟩ | ⟨h, _⟩⟩ <;> try exact absurd h (by omega)
      have hcall := sync_any V FX g w0.2 h2 (fun k hk => clo k (Nat.le_trans hK.size hk)) (by omega)
      rw [hs1] at hcall
      refine (dsk_step hcall h1 hp hK).mono ?_
      rintro e V' ⟨x, e0, h3, h4, h5, rfl, h6, h7, h8⟩
      refine ⟨_, e0, h3, h4, h5, fun h0 => ⟨h6, .inl ⟨by omega, ?_, .inr (.inr (.inl ⟨rfl, hz0, h0, h8⟩))⟩⟩, fun h0 => ⟨h6, bad _ _ _ h7 h8 ((zr hz0).trans (r0 h0))⟩⟩
      rw [h0] at h7 ⊢; rw [← hlc]; exact h7
    · obtain rfl : _ = f := Option.some.inj hf
      refine ⟨_, _, _, rfl, fun args V => enters_of Try.func43 (by kernel_rfl) rfl args V, ?_⟩
      rintro V ⟨hK, ⟨_, h1, ⟨h, _⟩ | ⟨h, _⟩ | ⟨_, hz0, hz1, h2⟩ | ⟨h, _⟩ | ⟨h, _⟩⟩ | ⟨h, _⟩⟩ <;> try exact absurd h (by omega)
      have hcall := cp2_any V FX p g (l.turn + 1) (1 - l.area) n s1 _ Bl Bn h1 h2 hp (fun k hk => clo k (Nat.le_trans hK.size hk)) (rl.keeps hK (hne2 Bl hBl rl.lt)) (rn.keeps hK (hne2 Bn hBn rn.lt)) (new Bl hBl rl.lt) (new Bn hBn rn.lt) (by omega) (by omega) (by omega) (by omega)
      rw [hs2] at hcall
      refine (dsk_step hcall h1 hp hK).mono ?_
      rintro e V' ⟨x, e0, h3, h4, h5, rfl, h6, h7, h8⟩
      refine ⟨_, e0, h3, h4, h5, fun h0 => ⟨h6, .inl ⟨by omega, ?_, .inr (.inr (.inr (.inl ⟨rfl, hz0, hz1, h0, h8⟩)))⟩⟩, fun h0 => ⟨h6, bad _ _ _ h7 h8 ((zr hz0).trans (r1 hz1 h0))⟩⟩
      rw [h0] at h7 ⊢; rw [← hlc]; exact h7
    · obtain rfl : _ = f := Option.some.inj hf
      refine ⟨_, _, _, rfl, fun args V => enters_of Try.func35 (by kernel_rfl) rfl args V, ?_⟩
      rintro V ⟨hK, ⟨_, h1, ⟨h, _⟩ | ⟨h, _⟩ | ⟨h, _⟩ | ⟨_, hz0, hz1, hz2, h2⟩ | ⟨h, _⟩⟩ | ⟨h, _⟩⟩ <;> try exact absurd h (by omega)
      have hcall := sync_any V FX g s2 h2 (fun k hk => clo k (Nat.le_trans hK.size hk)) (by omega)
      have hzz := (zr hz0).trans (r2 hz1 hz2)
      refine (dsk_step hcall h1 hp hK).mono ?_
      rintro e V' ⟨x, e0, h3, h4, h5, rfl, h6, h7, h8⟩
      refine ⟨_, e0, h3, h4, h5, fun h0 => ⟨h6, .inl ⟨by omega, ?_, .inr (.inr (.inr (.inr ⟨rfl, by rw [hzz]; exact h0, by rw [hzz]; exact h8⟩)))⟩⟩, fun h0 => ⟨h6, bad _ _ _ h7 h8 hzz⟩⟩
      rw [h0] at h7 ⊢; rw [← hlc]; exact h7
    · obtain rfl : _ = f := Option.some.inj hf
      refine ⟨_, _, _, rfl, fun args V => enters_of Try.func44 (by kernel_rfl) rfl args V, ?_⟩
      rintro V ⟨hK, ⟨_, h1, ⟨h, _⟩ | ⟨h, _⟩ | ⟨h, _⟩ | ⟨h, _⟩ | ⟨_, hz0, h2⟩⟩ | ⟨h, _⟩⟩ <;> try exact absurd h (by omega)
      have hcall := cp3_any V p rs.length (l.turn + 1) (1 - l.area) n ch cr Ah Ar _ _ _ _ _ _ _ _ _ Bl Bn Bh Br h1 (rl.keeps hK (hne2 Bl hBl rl.lt)) (rn.keeps hK (hne2 Bn hBn rn.lt)) (rh.keeps hK (hne2 Bh hBh rh.lt)) (rr.keeps hK (hne2 Br hBr rr.lt)) (by omega) (by omega) (by omega) (by omega)
      refine (own_step (l' := { l with turn := l.turn + 1, area := 1 - l.area, rows := rs, sure := rs.length }) (A := Ah) (c := ch) he (by rw [hlf]; exact hcall) h2 hp hK).mono ?_
      rintro e V' ⟨x, e0, h3, h4, h5, rfl, h6, h7, h8⟩
      exact ⟨_, e0, h3, h4, h5, fun h0 => ⟨h6, .inr ⟨rfl, hz0, h7, h8⟩⟩, fun h0 => absurd rfl h0⟩
    · simp at hf
  case fin =>
    have fit2 : ∀ V, Keeps (fun k => FX k ∨ k = p) W V → Keeps F w V := fun V hK => by
      refine (hk.mono (fun k _ e => e.elim)).trans' hK (fun k _ h => h.elim (sub k) (fun e => e ▸ hx.log.fp.1))
    rintro e V ⟨x, rfl, hx0, hx1⟩
    by_cases h : x = 0
    · obtain ⟨hK, ⟨h', _⟩ | ⟨_, h0, h1, h2⟩⟩ := hx0 h
      · exact absurd h' (by omega)
      rw [hcp, if_neg (by simpa using h0)]
      refine ⟨by rw [h], ⟨FX, Ah, ch, ⟨h1, ?_, ⟨hx.log.fp.1, hp⟩, ?_, ⟨hok.k1, hok.k2, ht, by show 1 - l.area < 2; omega, hrs, by show (Wl.frames rs).length ≤ 256 * l.k; omega, Nat.le_refl _⟩⟩, h2, fun k hk => clo k (Nat.le_trans hK.size hk), sub⟩, fit2 V hK⟩
      · show V.ownsRow 0 _ 1 (.slice Ah (Wl.frames rs).length ch) (Wl.frames rs).length (bvs (Wl.frames rs))
        rw [hn]
        exact own_base (hK.owns oq (fun k hk h => h.elim (hoq k hk).1 (hpQ k hk))) (Nat.zero_le _)
      · show ∀ k, (Value.slice Ah (Wl.frames rs).length ch).ownBlock = some k → _
        rw [hn]
        exact fun k hk => ⟨(hoq k hk).2, (hoq k hk).1⟩
    · obtain ⟨hK, h0, h1, h2⟩ := hx1 h
      rw [hcp, if_pos (by rw [← h0]; exact h)]
      exact ⟨by rw [h0], ⟨FX, A, c, ⟨h1, hK.owns oA (fun k hk h => h.elim (hoA k hk).1 (hpB k hk)), ⟨hx.log.fp.1, hp⟩, fun k hk => ⟨(hoA k hk).2, (hoA k hk).1⟩, ⟨hok.k1, hok.k2, hok.turn, hok.area, hok.rows, hok.fit, hok.sure⟩⟩, h2, fun k hk => clo k (Nat.le_trans hK.size hk), sub⟩, fit2 V hK⟩
end Go.Proofs.Ytnhegnncmjmafaa
namespace Go.Proofs.Ytnhegnncmjmafaa
open Go.RowKit Go.BigFrame
set_option linter.unusedVariables false

theorem wl_still {w w' : World} {F : Nat → Prop} {p g : Nat} {l : Wl.St} {s : Dk.St} (h : Wal w F p g l s) (hk : Keeps (fun _ => False) w w') : Wal w' F p g l s ∧ Keeps F w w' := ⟨h.still hk, hk.mono (fun _ _ h => h.elim)⟩
set_option maxHeartbeats 2000000 in
/-- An error stays; a record that is too big. -/
theorem append_not (w : World) (F : Nat → Prop) (p g : Nat) (l : Wl.St) (s : Dk.St) (h : Wal w F p g l s) (Ab : Option Addr) (nb cb : Nat) (hnb : nb ≤ 9223372036854775807) (x : Int) (hx : (l.err ≠ 0 ∧ x = l.err) ∨ (l.err = 0 ∧ 16384 < nb ∧ x = 13)) :
    Calls Try.prog 14 #[.pointer (some ⟨p, 0, none⟩), .slice Ab nb cb] w fun e w' => e = .returned (.int .i64 x) ∧ Wal w' F p g l s ∧ Keeps F w w' := by
  obtain ⟨b0, hb0⟩ : ∃ b, w.heap.size = b := ⟨_, rfl⟩
  obtain ⟨W1, hW1⟩ : ∃ V, w.alloc (.cells #[.pointer (some ⟨p, 0, none⟩)] 29) = V := ⟨_, rfl⟩
  have k1 : Keeps (fun _ => False) w W1 := by rw [← hW1]; exact (Keeps.refl _ _).alloc _
  have r1 : Row W1 b0 29 [.pointer (some ⟨p, 0, none⟩)] := by rw [← hW1, ← hb0]; exact heap_alloc_new w _
  have c1 : W1.cell? ⟨b0, 0, none⟩ = some (.pointer (some ⟨p, 0, none⟩)) := r1.cell 0
  have her := werr_any W1 F p g l (h.log.later k1)
  obtain ⟨er, he⟩ : ∃ e, l.err = e := ⟨_, rfl⟩
  rw [he] at her hx
  have HER := Lib.hid her
  have FIN := Lib.hid (wl_still h k1)
  clear her h k1 r1 he
  rcases hx with ⟨hne, rfl⟩ | ⟨rfl, hbig, rfl⟩
  · have hb : (x != 0) = true := by simpa using hne
    go_enter Try.func14, Try.ntmps14
    go_wp2_with fail
    refine HER.out.mono ?_
    rintro e wx ⟨rfl, hx⟩
    obtain rfl : W1 = wx := hx.symm
    go_wp2
    go_ret
    exact ⟨rfl, FIN.out.1, FIN.out.2⟩
  · have hb : (16384 : Int) < (nb : Int) := by omega
    go_enter Try.func14, Try.ntmps14
    go_wp2_with fail
    refine HER.out.mono ?_
    rintro e wx ⟨rfl, hx⟩
    obtain rfl : W1 = wx := hx.symm
    go_wp2
    go_ret
    exact ⟨rfl, FIN.out.1, FIN.out.2⟩
set_option maxRecDepth 100000 in
set_option maxHeartbeats 2000000 in
/-- There is no room. -/
theorem append_full (w : World) (F : Nat → Prop) (p g : Nat) (l : Wl.St) (s : Dk.St) (h : Wal w F p g l s) (Ab : Option Addr) (nb cb : Nat) (he : l.err = 0) (hnb : nb ≤ 16384) (hfull : 256 * l.k < (Wl.hv l).length + (8 + nb)) :
    Calls Try.prog 14 #[.pointer (some ⟨p, 0, none⟩), .slice Ab nb cb] w fun e w' => e = .returned (.int .i64 31) ∧ Wal w' F p g l s ∧ Keeps F w w' := by
  obtain ⟨b0, hb0⟩ : ∃ b, w.heap.size = b := ⟨_, rfl⟩
  obtain ⟨W1, hW1⟩ : ∃ V, w.alloc (.cells #[.pointer (some ⟨p, 0, none⟩)] 29) = V := ⟨_, rfl⟩
  have k1 : Keeps (fun _ => False) w W1 := by rw [← hW1]; exact (Keeps.refl _ _).alloc _
  have r1 : Row W1 b0 29 [.pointer (some ⟨p, 0, none⟩)] := by rw [← hW1, ← hb0]; exact heap_alloc_new w _
  have c1 : W1.cell? ⟨b0, 0, none⟩ = some (.pointer (some ⟨p, 0, none⟩)) := r1.cell 0
  obtain ⟨z, hz⟩ : ∃ z, 8 + nb = z := ⟨_, rfl⟩
  have her := werr_any W1 F p g l (h.log.later k1)
  rw [he] at her
  obtain ⟨fr, hfr⟩ : ∃ x, 256 * l.k - (Wl.hv l).length = x := ⟨_, rfl⟩
  have HFR : Hid (∀ V, Later W1 V → Calls Try.prog 22 #[.pointer (some ⟨p, 0, none⟩)] V fun e w' => e = .returned (.int .i64 (fr : Int)) ∧ Later W1 w') := Lib.hid (fun V hV => by
    have h2 := wfree_any V F p g l (h.log.later (k1.trans hV.out))
    rw [hfr] at h2
    exact h2.mono (fun e w' hh => ⟨hh.1, ⟨hV.out.trans hh.2⟩⟩))
  have HSZ : Hid (∀ V, Later W1 V → Calls Try.prog 29 #[.slice Ab nb cb] V fun e w' => e = .returned (.int .i64 (z : Int)) ∧ Later W1 w') := Lib.hid (fun V hV => by
    have h2 := wsize_any V Ab nb cb (by omega)
    rw [hz] at h2
    exact h2.mono (fun e w' hh => ⟨hh.1, by rw [hh.2]; exact hV⟩))
  have HBX : Hid (∀ V, Later W1 V → V.cell? ⟨b0, 0, none⟩ = some (.pointer (some ⟨p, 0, none⟩))) := Lib.hid (fun V hV => (r1.keeps hV.out id).cell 0)
  have hfit := h.ok.fit
  have HDEC : Hid ((fr : Int) < (z : Int)) := Lib.hid (by omega)
  have HER := Lib.hid her
  have HAL := Lib.hid h
  have HK1 := Lib.hid k1
  clear her h k1 r1 hfr hfull hfit he hz
  go_enter Try.func14, Try.ntmps14
  go_wp2_with fail
  refine HER.out.mono ?_
  rintro e wx ⟨rfl, hx⟩
  obtain rfl : W1 = wx := hx.symm
  go_wp2_with fail
  refine wp_region_class (Later W1) (by kernel_rfl) (by kernel_rfl) (⟨(Keeps.refl _ _).drew⟩) ?_
  refine class_value (by rfl) (.slice Ab nb cb) (fun V hV => by go_simp) ?_
  simp only [Act.put, List.setIfInBounds_toArray, List.set_cons_zero, List.set_cons_succ]
  refine class_callW (by rfl) _ _ (.int .i64 (z : Int)) (fun _ => by go_simp) (fun V hV => HSZ.out V hV) ?_
  simp only [Act.put, List.setIfInBounds_toArray, List.set_cons_zero, List.set_cons_succ]
  refine class_cell (by rfl) 29 (.tmp 2) (by rfl) ⟨b0, 0, none⟩ (by rfl) (.pointer (some ⟨p, 0, none⟩)) _ (fun V hV => HBX.out V hV) Try.underlying29 rfl ?_
  simp only [Act.put, List.setIfInBounds_toArray, List.set_cons_zero, List.set_cons_succ]
  refine class_callW (by rfl) _ _ (.int .i64 (fr : Int)) (fun _ => by go_simp) (fun V hV => HFR.out V hV) ?_
  simp only [Act.put, List.setIfInBounds_toArray, List.set_cons_zero, List.set_cons_succ]
  refine class_value (by rfl) (.bool true) (fun V hV => by have hd := HDEC.out; go_simp) ?_
  simp only [Act.put, List.setIfInBounds_toArray, List.set_cons_zero, List.set_cons_succ]
  refine wpQuiet_nil ?_
  intro V hV
  go_wp2
  go_ret
  exact ⟨rfl, (wl_still HAL.out (HK1.out.trans hV.out)).1, (wl_still HAL.out (HK1.out.trans hV.out)).2⟩
end Go.Proofs.Ytnhegnncmjmafaa
