/-
  The program's gossip beside the document's, in one world; two rows of numbers that are the same; an act's parts.
-/
import Derived.Test.YtmhbfchhooggjaaGoE
import Derived.Test.YtmhbfchhooggjaaOpenGo
import Derived.Deep.MidRow
namespace Go.Proofs.Ytmhbfchhooggjaa
open Go.RowKit Go.BigFrame Go.Deep
set_option linter.unusedVariables false
set_option linter.unusedSimpArgs false

/-- The program's stands as t at g, within F; the document's lies at b, as t2, with what it told on in a row of its own. -/
structure Pl (At : World → (Nat → Prop) → Nat → Gp.G → Prop) (W wr : World) (F : Nat → Prop) (g b : Nat) (t t2 : Gp.G) (A : Option Addr) (c : Nat) : Prop where
  at_ : At wr F g t
  box : Row wr b 31 (gcs t2 (.slice A t2.told.length c))
  told : Told wr W.heap.size A t2.told.length c t2.told
  ge : ∀ j, F j → W.heap.size ≤ j
  fb : ¬ F b
  ft : ∀ j, (Value.slice A t2.told.length c).ownBlock = some j → ¬ F j
  lo : W.heap.size ≤ b
  keeps : Keeps (fun _ => False) W wr
section
variable {At : World → (Nat → Prop) → Nat → Gp.G → Prop} {W wr w' : World} {F F' : Nat → Prop} {g b c c' : Nat} {t t' t2 : Gp.G} {A A' : Option Addr}
theorem Pl.later (C : Goss At) (h : Pl At W wr F g b t t2 A c) (q : Keeps (fun _ => False) wr w') : Pl At W w' F g b t t2 A c :=
  ⟨C.keeps h.at_ q (fun _ e => e.elim), h.box.keeps q id, q.owns h.told (fun _ _ => id), h.ge, h.fb, h.ft, h.lo, h.keeps.trans q⟩
theorem Pl.prog (C : Goss At) (h : Pl At W wr F g b t t2 A c) (q : Keeps F wr w') (ha : At w' F' g t') (hF : ∀ j, F' j → F j ∨ wr.heap.size ≤ j) : Pl At W w' F' g b t' t2 A c :=
  ⟨ha, h.box.keeps q h.fb, q.owns h.told (fun j hj e => h.ft j hj e), fun j hj => by rcases hF j hj with h1 | h1; exact h.ge j h1; exact Nat.le_trans h.keeps.size h1,
    fun e => by rcases hF _ e with h1 | h1; exact h.fb h1; have := h.box.lt; omega,
    fun j hj e => by
      rcases hF j e with h1 | h1
      · exact h.ft j hj h1
      · obtain ⟨cur, h2, _⟩ := own_block h.told j hj
        have := (Array.getElem?_eq_some_iff.1 h2).1
        omega,
    h.lo, h.keeps.trans' q (fun j hj e => by have := h.ge j e; omega)⟩
theorem own_block_addr {n n' c c' : Nat} {A : Option Addr} {j : Nat} (h : (Value.slice A n c).ownBlock = some j) : (Value.slice A n' c').ownBlock = some j := by
  cases A with
  | none => cases h
  | some a => exact h
theorem Pl.refd (C : Goss At) (h : Pl At W wr F g b t' t2 A c) (q : Keeps (fun j => j = b) wr w') (ho : Told w' W.heap.size A' t'.told.length c' t'.told) (hd : A' = A ∨ ∀ j, (Value.slice A' t'.told.length c').ownBlock = some j → wr.heap.size ≤ j)
    (hb : Row w' b 31 (gcs t' (.slice A' t'.told.length c'))) : Pl At W w' F g b t' t' A' c' :=
  ⟨C.keeps h.at_ q (fun j e hj => h.fb (by have e' : j = b := e; rw [← e']; exact hj)), hb, ho, h.ge, h.fb, fun j hj e => by
      rcases hd with h1 | h1
      · subst h1; exact h.ft j (own_block_addr hj) e
      · have h2 := h1 j hj
        have := C.lt h.at_ j e
        omega,
    h.lo, h.keeps.trans' q (fun j hj e => by have := h.lo; have e' : j = b := e; omega)⟩
end
theorem own_apart21 {w : World} {B n : Nat} {A : Option Addr} {l c : Nat} {xs : List Value} {b : Nat} {cs : List Value} (h : w.ownsRow B 36 32 (.slice A l c) n xs) (hr : Row w b 31 cs) : ∀ j, (Value.slice A l c).ownBlock = some j → j ≠ b := fun j hj e => by
  obtain ⟨cur, h1, _⟩ := own_block h j hj
  rw [e, show w.heap[b]? = _ from hr] at h1
  injection h1 with h1
  injection h1 with _ h1
  exact absurd h1 (by decide)
theorem and_one21 (k : Nat) (h : k < 256) : bits .and .u8 (k : Int) 1 = ((k % 2 : Nat) : Int) := by
  rw [show (1 : Int) = ((1 : Nat) : Int) from rfl, u8_and_nat _ _ h (by omega), Nat.and_one_is_mod]
theorem zero_act (V : World) : (zeroValue 38).run Try.prog V = .ok (.agg (ActOf.cells ⟨0, none, 0, [], List.replicate 32 0, 0⟩).toArray) V := by kernel_rfl
theorem size_act : (Try.prog.info? 38).map (·.size) = some 35 := by kernel_rfl
theorem ActOf.cells_length {x : ActOf} (h : x.id.length = 32) : x.cells.length = 35 := by unfold ActOf.cells; simp [bvs_length, h]
theorem ActOf.cells_one (x : ActOf) : ∀ u ∈ x.cells, u.oneCell' = true := by
  intro u hu
  unfold ActOf.cells at hu
  rcases List.mem_cons.1 hu with rfl | hu
  · rfl
  rcases List.mem_cons.1 hu with rfl | hu
  · rfl
  rcases List.mem_append.1 hu with hu | hu
  · exact bvs_one _ u hu
  · rw [List.mem_singleton] at hu; rw [hu]; rfl
/-- Where an act's parts lie. -/
theorem act_parts {w : World} {j : Nat} {x : ActOf} (hi : x.id.length = 32) (h : w.rangeAt j 0 x.cells) : w.cell? ⟨j, 0, none⟩ = some (.int .u8 x.k) ∧ w.cell? ⟨j, 1, none⟩ = some (.slice x.A x.l.length x.C) ∧ w.rangeAt j 2 (bvs x.id) ∧ w.cell? ⟨j, 34, none⟩ = some (.int .i64 x.f) := by
  refine ⟨h 0 _ rfl, h 1 _ rfl, fun i v hv => ?_, ?_⟩
  · have hi32 : i < 32 := by
      rcases Nat.lt_or_ge i 32 with h | h
      · exact h
      · rw [List.getElem?_eq_none (by rw [bvs_length]; omega)] at hv; cases hv
    have h2 := h (i + 2) v (by
      unfold ActOf.cells
      rw [List.getElem?_cons_succ, List.getElem?_cons_succ, List.getElem?_append_left (by rw [bvs_length]; omega)]
      exact hv)
    rw [show 0 + (i + 2) = 2 + i by omega] at h2
    exact h2
  · have h2 := h 34 (.int .i64 x.f) (by
      unfold ActOf.cells
      rw [List.getElem?_cons_succ, List.getElem?_cons_succ, List.getElem?_append_right (by rw [bvs_length]; omega), bvs_length, hi]
      rfl)
    exact h2
theorem range_row21 {w : World} {g : Nat} {t : TypeId} {xs : List Value} (h : Row w g t xs) : w.rangeAt g 0 xs := fun j v hv => by rw [Nat.zero_add, h.cell]; exact hv
set_option maxRecDepth 100000 in
set_option maxHeartbeats 2000000 in
theorem same21_eq (A B : Option Addr) (n c d : Nat) (l : List Int) (w : World) (hl : l.length = n) (h1 : Src w A (ivs l)) (h2 : Src w B (ivs l)) (hn : n ≤ 1000) :
    Calls Try.prog 12 #[.slice A n c, .slice B n d] w fun e w' => e = .returned (.bool true) ∧ Keeps (fun _ => False) w w' := by
  have H1 := Lib.hid h1
  have H2 := Lib.hid h2
  have HL := Lib.hid hl
  clear h1 h2 hl
  go_enter Try.func12, Try.ntmps12
  go_wp2
  go_loopw [5] (fun iv wr => ∃ (q : Nat), q ≤ n ∧ iv = .int .i64 (q : Int) ∧ Hid (Keeps (fun _ => False) w wr)) (fun iv _ => n - (intOf iv).toNat)
  case atStart => exact ⟨0, by omega, rfl, Lib.hid (Keeps.refl _ _)⟩
  case round =>
    obtain ⟨q, hq, rfl, K⟩ := hrel
    by_cases hlt : q < n
    · have hii : (q : Int) < (n : Int) := by omega
      obtain ⟨yv, hyv⟩ : ∃ yv, l[q]? = some yv := ⟨_, List.getElem?_eq_getElem (by have := HL.out; omega)⟩
      obtain ⟨a5, rfl, hc5⟩ := src_at21 (H1.out.keeps K.out (fun _ _ _ => id)) hyv
      obtain ⟨a6, rfl, hc6⟩ := src_at21 (H2.out.keeps K.out (fun _ _ _ => id)) hyv
      have HC5 : Hid (∀ V, Later wr V → V.cell? (a5.add q) = some (.int .i64 yv)) := Lib.hid (fun V hV => (hV.out.cell (World.block_lt_of_cell? _ _ hc5) id).trans hc5)
      have HC6 : Hid (∀ V, Later wr V → V.cell? (a6.add q) = some (.int .i64 yv)) := Lib.hid (fun V hV => (hV.out.cell (World.block_lt_of_cell? _ _ hc6) id).trans hc6)
      clear hyv hc5 hc6
      go_wp2_with fail
      refine wp_region_class (Later wr) (by kernel_rfl) (by kernel_rfl) (⟨(Keeps.refl _ _).drew⟩) ?_
      refine class_value (by rfl) (.slice (some a5) n c) (fun V hV => by go_simp) ?_
      simp only [Act.put, List.setIfInBounds_toArray, List.set_cons_zero, List.set_cons_succ]
      refine class_value (by rfl) (.int .i64 (q : Int)) (fun V hV => by go_simp) ?_
      simp only [Act.put, List.setIfInBounds_toArray, List.set_cons_zero, List.set_cons_succ]
      refine class_value (by rfl) (.pointer (some (a5.add q))) (fun V hV => by go_simp) ?_
      simp only [Act.put, List.setIfInBounds_toArray, List.set_cons_zero, List.set_cons_succ]
      refine class_cell (by rfl) 3 (.tmp 19) (by rfl) (a5.add q) (by rfl) (.int .i64 yv) _ (fun V hV => HC5.out V hV) Try.underlying3 rfl ?_
      simp only [Act.put, List.setIfInBounds_toArray, List.set_cons_zero, List.set_cons_succ]
      refine class_value (by rfl) (.slice (some a6) n d) (fun V hV => by go_simp) ?_
      simp only [Act.put, List.setIfInBounds_toArray, List.set_cons_zero, List.set_cons_succ]
      refine class_value (by rfl) (.int .i64 (q : Int)) (fun V hV => by go_simp) ?_
      simp only [Act.put, List.setIfInBounds_toArray, List.set_cons_zero, List.set_cons_succ]
      refine class_value (by rfl) (.pointer (some (a6.add q))) (fun V hV => by go_simp) ?_
      simp only [Act.put, List.setIfInBounds_toArray, List.set_cons_zero, List.set_cons_succ]
      refine class_cell (by rfl) 3 (.tmp 23) (by rfl) (a6.add q) (by rfl) (.int .i64 yv) _ (fun V hV => HC6.out V hV) Try.underlying3 rfl ?_
      simp only [Act.put, List.setIfInBounds_toArray, List.set_cons_zero, List.set_cons_succ]
      refine class_value (by rfl) (.bool false) (fun V hV => by go_simp) ?_
      simp only [Act.put, List.setIfInBounds_toArray, List.set_cons_zero, List.set_cons_succ]
      refine wpQuiet_nil ?_
      intro V6 k6
      have K6 := Lib.hid (K.out.trans k6.out)
      clear k6 HC5 HC6
      go_wp2
      go_roundw
      case rel => exact ⟨q + 1, by omega, by go_num, K6⟩
      case measure => simp [intOf]; omega
    · obtain rfl : q = n := by omega
      go_wp2
      go_ret
      exact ⟨rfl, K.out⟩
end Go.Proofs.Ytmhbfchhooggjaa
