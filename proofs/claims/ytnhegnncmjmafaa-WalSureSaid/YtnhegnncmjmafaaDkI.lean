/-
  Disks: each call as one function of the disk, whatever its state.
-/
import Derived.Test.YtnhegnncmjmafaaDkV
namespace Go.Proofs.Ytnhegnncmjmafaa
open Go.RowKit Go.BigFrame
set_option linter.unusedVariables false

namespace Dk
def wrE (s : St) (i : Int) (m : Nat) : Int := if atE s i ≠ 0 then atE s i else if m ≠ 256 then 1 else cntE s
def wr (s : St) (i : Int) (m : Nat) (b : Blk) : St := if atE s i ≠ 0 ∨ m ≠ 256 then s else if goes s = true then { cnt s with loose := s.loose ++ [(i.toNat, b)] } else cnt s
def syE (s : St) : Int := if s.dead = true then 30 else cntE s
def sy (s : St) : St := if s.dead = true then s else if goes s = true then { cnt s with good := over s.good s.loose, loose := [] } else cnt s
def cr (s : St) (f : List UInt8) : St := { s with good := crash s.good s.loose f, loose := [], fails := false, dead := false }
theorem atE_zero {s : St} {i : Int} (h : atE s i = 0) : s.dead = false ∧ 0 ≤ i ∧ i.toNat < s.n ∧ i = (i.toNat : Int) := by
  unfold atE at h
  cases hd : s.dead with
  | true => rw [hd, if_pos rfl] at h; cases h
  | false =>
    rw [hd, if_neg (by decide)] at h
    split at h
    · cases h
    · rename_i hh
      refine ⟨rfl, ?_, ?_, ?_⟩ <;> omega
theorem atE_in {s : St} {i : Nat} (hd : s.dead = false) (hi : i < s.n) : atE s (i : Int) = 0 := by
  unfold atE
  rw [hd, if_neg (by decide), if_neg (by omega)]
theorem wr_length (s : St) (i : Int) (m : Nat) (b : Blk) : (wr s i m b).loose.length ≤ s.loose.length + 1 := by
  unfold wr
  split
  · omega
  · split
    · show (s.loose ++ [(i.toNat, b)]).length ≤ _
      rw [List.length_append]; simp
    · rw [cnt_loose]; omega
theorem wr_n (s : St) (i : Int) (m : Nat) (b : Blk) : (wr s i m b).n = s.n := by
  unfold wr
  split
  · rfl
  · split
    · exact cnt_n s
    · exact cnt_n s
theorem sy_length (s : St) : (sy s).loose.length ≤ s.loose.length := by
  unfold sy
  split
  · omega
  · split
    · show ([] : List (Nat × Blk)).length ≤ _; simp
    · rw [cnt_loose]; omega
theorem sy_n (s : St) : (sy s).n = s.n := by
  unfold sy
  split
  · rfl
  · split
    · exact cnt_n s
    · exact cnt_n s
end Dk
theorem sync_any (w : World) (F : Nat → Prop) (g : Nat) (s : Dk.St) (h : DskAt w F g s) (hF : ∀ k, w.heap.size ≤ k → F k) (hn : s.loose.length ≤ 1000) :
    Calls Try.prog 35 #[.pointer (some ⟨g, 0, none⟩)] w fun e w' => e = .returned (.int .i64 (Dk.syE s)) ∧ DskAt w' F g (Dk.sy s) ∧ Keeps F w w' := by
  have hg0 : F g := by obtain ⟨_, _, _, _, _, _, h⟩ := h; exact h.fg
  cases hd : s.dead with
  | true =>
    refine (sync_dead w F g s h hd).mono ?_
    rintro e w' ⟨h1, rfl⟩
    exact ⟨by unfold Dk.syE; rw [if_pos hd]; exact h1, by unfold Dk.sy; rw [if_pos hd]; exact h, Keeps.refl _ _⟩
  | false =>
    have hd' : ¬ s.dead = true := by rw [hd]; decide
    cases hg : Dk.goes s with
    | true =>
      refine (sync_ok w F g s h hF hd hg hn).mono ?_
      rintro e w' ⟨h1, h2, h3⟩
      exact ⟨by unfold Dk.syE Dk.cntE; rw [if_neg hd', if_pos hg]; exact h1, by unfold Dk.sy; rw [if_neg hd', if_pos hg]; exact h2, h3⟩
    | false =>
      have hg' : ¬ Dk.goes s = true := by rw [hg]; decide
      refine (sync_down w F g s h hd hg).mono ?_
      rintro e w' ⟨h1, h2, h3⟩
      exact ⟨by unfold Dk.syE Dk.cntE; rw [if_neg hd', if_neg hg']; exact h1, by unfold Dk.sy; rw [if_neg hd', if_neg hg']; exact h2, h3.mono (fun k _ e => by subst e; exact hg0)⟩
/-- Two blocks are kept apart. -/
theorem DskAt.without {w : World} {F : Nat → Prop} {g : Nat} {s : Dk.St} (h : DskAt w F g s) {X : Nat} (hX : w.heap.size ≤ X) : DskAt w (fun k => F k ∧ k ≠ X) g s := h.mono (fun k hk hf => ⟨hf, by omega⟩)
section
variable {w w' : World} {F : Nat → Prop} {g gb lb : Nat} {s : Dk.St}
theorem DskM.keeps {S : Nat → Prop} (h : DskM w F g s gb lb) (hk : Keeps S w w') (hs : ∀ k, k < w.heap.size → F k → ¬ S k) : DskM w' F g s gb lb := by
  obtain ⟨_, _, _, _, h⟩ := h; exact ⟨_, _, _, _, h.keeps hk hs⟩
theorem DskM.later (h : DskM w F g s gb lb) (hk : Keeps (fun _ => False) w w') : DskM w' F g s gb lb := h.keeps hk (fun _ _ _ => id)
theorem DskM.mono {G : Nat → Prop} (h : DskM w F g s gb lb) (hs : ∀ k, k < w.heap.size → F k → G k) : DskM w G g s gb lb := by
  obtain ⟨_, _, _, _, h⟩ := h; exact ⟨_, _, _, _, h.mono hs⟩
theorem DskM.any (h : DskM w F g s gb lb) : DskAt w F g s := ⟨gb, lb, h⟩
theorem DskM.maps_lt (h : DskM w F g s gb lb) : gb < w.heap.size ∧ lb < w.heap.size := by obtain ⟨_, _, _, _, h⟩ := h; exact ⟨h.good.lt, h.last.lt⟩
end
/-- The same, of a block that is known to be none of the disk's. -/
theorem write_thereM (w3 : World) (F : Nat → Prop) (g gb lb : Nat) (s : Dk.St) (X cx : Nat) (h : DskM w3 (fun k => F k ∧ k ≠ X) g s gb lb) (hF : ∀ k, w3.heap.size ≤ k → F k) (t : TypeId) (xs : List UInt8) (hX : Row w3 X t (bvs xs))
    (i : Int) (m : Nat) (hxl : xs.length = 256) (hn : s.loose.length ≤ 1000) :
    Calls Try.prog 37 #[.pointer (some ⟨g, 0, none⟩), .int .i64 i, .slice (some ⟨X, 0, none⟩) m cx] w3 fun e w' => e = .returned (.int .i64 (Dk.wrE s i m)) ∧ DskM w' F g (Dk.wr s i m xs) gb lb ∧ Keeps F w3 w' := by
  have hlt := hX.lt
  have hF' : ∀ k, w3.heap.size ≤ k → F k ∧ k ≠ X := fun k hk => ⟨hF k hk, by omega⟩
  have hg0 : F g := by obtain ⟨_, _, _, _, h⟩ := h; exact h.fg.1
  have h0 : DskM w3 F g s gb lb := h.mono (fun k _ hf => hf.1)
  by_cases hat : Dk.atE s i = 0
  · have hat' : ¬ Dk.atE s i ≠ 0 := fun h => h hat
    by_cases hm : m = 256
    · have hor : ¬ (Dk.atE s i ≠ 0 ∨ m ≠ 256) := fun h => h.elim (fun h => h hat) (fun h => h hm)
      have hm' : ¬ m ≠ 256 := fun h => h hm
      subst hm
      obtain ⟨hd, _, h2, h3⟩ := Dk.atE_zero hat
      cases hg : Dk.goes s with
      | true =>
        rw [h3]
        refine (write_okM w3 _ g gb lb s h hF' i.toNat h2 hd hg X cx xs hxl (rangeAt_row hX) (fun hh => hh.2 rfl) hn).mono ?_
        rintro e w' ⟨h4, h5, h6⟩
        rw [← h3]
        exact ⟨by unfold Dk.wrE Dk.cntE; rw [if_neg hat', if_neg hm', if_pos hg]; exact h4, by unfold Dk.wr; rw [if_neg hor, if_pos hg]; exact h5.mono (fun k _ hf => hf.1), h6.mono (fun k _ hf => hf.1)⟩
      | false =>
        have hg' : ¬ Dk.goes s = true := by rw [hg]; decide
        refine (write_downM w3 F g gb lb s i (some ⟨X, 0, none⟩) cx h0 hat hg).mono ?_
        rintro e w' ⟨h4, h5, h6⟩
        exact ⟨by unfold Dk.wrE Dk.cntE; rw [if_neg hat', if_neg hm', if_neg hg']; exact h4, by unfold Dk.wr; rw [if_neg hor, if_neg hg']; exact h5, h6.mono (fun k _ e => by subst e; exact hg0)⟩
    · refine (write_arg w3 F g s i (some ⟨X, 0, none⟩) m cx ⟨gb, lb, h0⟩ hat hm).mono ?_
      rintro e w' ⟨h4, rfl⟩
      exact ⟨by unfold Dk.wrE; rw [if_neg hat', if_pos hm]; exact h4, by unfold Dk.wr; rw [if_pos (Or.inr hm)]; exact h0, Keeps.refl _ _⟩
  · refine (write_at w3 F g s i _ ⟨gb, lb, h0⟩ hat).mono ?_
    rintro e w' ⟨h4, rfl⟩
    exact ⟨by unfold Dk.wrE; rw [if_pos hat]; exact h4, by unfold Dk.wr; rw [if_pos (Or.inl hat)]; exact h0, Keeps.refl _ _⟩
/-- The same, of a block that is known to be none of the disk's. -/
theorem write_there (w3 : World) (F : Nat → Prop) (g : Nat) (s : Dk.St) (X cx : Nat) (h : DskAt w3 (fun k => F k ∧ k ≠ X) g s) (hF : ∀ k, w3.heap.size ≤ k → F k) (t : TypeId) (xs : List UInt8) (hX : Row w3 X t (bvs xs))
    (i : Int) (m : Nat) (hxl : xs.length = 256) (hn : s.loose.length ≤ 1000) :
    Calls Try.prog 37 #[.pointer (some ⟨g, 0, none⟩), .int .i64 i, .slice (some ⟨X, 0, none⟩) m cx] w3 fun e w' => e = .returned (.int .i64 (Dk.wrE s i m)) ∧ DskAt w' F g (Dk.wr s i m xs) ∧ Keeps F w3 w' := by
  obtain ⟨gb, lb, h⟩ := h
  refine (write_thereM w3 F g gb lb s X cx h hF t xs hX i m hxl hn).mono ?_
  rintro e w' ⟨h1, h2, h3⟩
  exact ⟨h1, ⟨gb, lb, h2⟩, h3⟩
theorem write_any (w : World) (F : Nat → Prop) (g : Nat) (s : Dk.St) (h : DskAt w F g s) (hF : ∀ k, w.heap.size ≤ k → F k) (w3 : World) (k3 : Keeps (fun _ => False) w w3) (X cx : Nat) (t : TypeId) (xs : List UInt8) (hX1 : w.heap.size ≤ X) (hX : Row w3 X t (bvs xs))
    (i : Int) (m : Nat) (hxl : xs.length = 256) (hn : s.loose.length ≤ 1000) :
    Calls Try.prog 37 #[.pointer (some ⟨g, 0, none⟩), .int .i64 i, .slice (some ⟨X, 0, none⟩) m cx] w3 fun e w' => e = .returned (.int .i64 (Dk.wrE s i m)) ∧ DskAt w' F g (Dk.wr s i m xs) ∧ Keeps F w3 w' :=
  write_there w3 F g s X cx ((h.without hX1).later k3) (fun k hk => hF k (Nat.le_trans k3.size hk)) t xs hX i m hxl hn
end Go.Proofs.Ytnhegnncmjmafaa
