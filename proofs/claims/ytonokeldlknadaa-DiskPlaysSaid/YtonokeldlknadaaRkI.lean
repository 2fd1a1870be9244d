/-
  A disk beside the document's, in one world.
-/
import Derived.Test.YtonokeldlknadaaRkH
namespace Go.Proofs.Ytonokeldlknadaa
open Go.RowKit Go.BigFrame
set_option linter.unusedVariables false

theorem RefV.row {w : World} {F : Nat → Prop} {v : Value} {s : Dk.St} (h : RefV w F v s) : ∃ R : Array Value, v = .agg R ∧ R.size = 4 ∧ R.all (·.oneCell') = true := by
  obtain ⟨A, c, A2, c2, rfl, _⟩ := h
  exact ⟨_, rfl, rfl, rrow_one _ _ _ _ _ _ _ _⟩
structure Both (W0 w : World) (F : Nat → Prop) (g b8 : Nat) (R : Array Value) (s sr : Dk.St) : Prop where
  dsk : DskAt w F g s
  ref : RefV w F (.agg R) sr
  clo : ∀ k, w.heap.size ≤ k → F k
  old : ∀ k, F k → W0.heap.size ≤ k
  out : ¬ F b8
  row : w.heap[b8]? = some (.cells R 31 (0, 0))
  kept : Keeps (fun _ => False) W0 w
section
variable {W0 w w' : World} {F : Nat → Prop} {g b8 : Nat} {R R' : Array Value} {s sr s' : Dk.St}
theorem Both.later (h : Both W0 w F g b8 R s sr) (hk : Keeps (fun _ => False) w w') : Both W0 w' (cut F w.heap.size w'.heap.size) g b8 R s sr :=
  ⟨(h.dsk.mono (fun k hk hf => ⟨hf, .inl hk⟩)).later hk, (h.ref.later hk).mono (fun k hk => hk.1), fun k hl => ⟨h.clo k (Nat.le_trans hk.size hl), .inr hl⟩, fun k hf => h.old k hf.1, fun hf => h.out hf.1,
    (hk.block b8 (Array.getElem?_eq_some_iff.1 h.row).1 id).trans h.row, h.kept.trans hk⟩
theorem Both.call (h : Both W0 w F g b8 R s sr) (hd : DskAt w' F g s') (hk : Keeps F w w') : Both W0 w' F g b8 R s' sr :=
  ⟨hd, h.ref.keeps hk, fun k hl => h.clo k (Nat.le_trans hk.size hl), h.old, h.out, (hk.block b8 (Array.getElem?_eq_some_iff.1 h.row).1 h.out).trans h.row, h.kept.trans' hk (fun i hi hf => by have := h.old i hf; omega)⟩
theorem Both.refd (h : Both W0 w F g b8 R s sr) (hb : W0.heap.size ≤ b8) (hk : Keeps (fun _ => False) w w') (hv : RefV w' (cut F w.heap.size w'.heap.size) (.agg R') s') :
    Both W0 (w'.setRow b8 R') (cut F w.heap.size w'.heap.size) g b8 R' s s' := by
  have h2 := h.later hk
  have ks : Keeps (fun k => k = b8) w' (w'.setRow b8 R') := Keeps.setRow _ _
  refine ⟨h2.dsk.keeps ks (fun k _ hf e => h2.out (by rw [← e]; exact hf)), ?_, fun k hl => h2.clo k (Nat.le_trans ks.size hl), h2.old, h2.out, setRow_heap _ _ _ _ _ _ h2.row, h2.kept.trans' ks (fun i hi e => by omega)⟩
  obtain ⟨A, c, A2, c2, h3, h4, h5, h6, h7⟩ := hv
  refine ⟨A, c, A2, c2, h3, ks.owns h4 (fun k hk e => ?_), ks.owns h5 (fun k hk e => ?_), h6, h7⟩
  · obtain ⟨cur, hc, _⟩ := own_block h4 k hk
    rw [e, h2.row] at hc
    simp at hc
  · obtain ⟨cur, hc, _⟩ := own_block h5 k hk
    rw [e, h2.row] at hc
    simp at hc
end
theorem Dk.wr_take (s : Dk.St) (i : Int) (m : Nat) (xs : List UInt8) (hx : xs.length = 256) (hm : m ≤ 256) : Dk.wr s i m xs = Dk.wr s i (xs.take m).length (xs.take m) ∧ Dk.wrE s i m = Dk.wrE s i (xs.take m).length := by
  have hl : (xs.take m).length = m := by rw [List.length_take]; omega
  rw [hl]
  refine ⟨?_, rfl⟩
  by_cases h : m = 256
  · subst h
    rw [List.take_of_length_le (by omega)]
  · unfold Dk.wr
    rw [if_pos (.inr h), if_pos (.inr h)]
theorem Dk.cr_length (s : Dk.St) (f : List UInt8) : (Dk.cr s f).loose.length = 0 := rfl
theorem take_row {w : World} {X m : Nat} {t : TypeId} {xs : List UInt8} (h : Row w X t (bvs xs)) : Src w (some ⟨X, 0, none⟩) (bvs (xs.take m)) := by
  intro j u hu
  have hs := h.src
  refine hs j u ?_
  rw [bvs_get] at hu ⊢
  rw [List.getElem?_take] at hu
  split at hu
  · exact hu
  · cases hu
theorem zero_Dl (V : World) : (zeroValue 31).run Try.prog V = .ok (.agg #[.slice none 0 0, .slice none 0 0, .int .i64 0, .bool false]) V := zero_D V
end Go.Proofs.Ytonokeldlknadaa
