/-
  Disks: a block, and a front, that were made behind the disk.
-/
import Derived.Test.YtnhegnncmjmafaaDkG
import Derived.Test.YtnhegnncmjmafaaDkF
namespace Go.Proofs.Ytnhegnncmjmafaa
open Go.RowKit Go.BigFrame
set_option linter.unusedVariables false

/-- A block is written that was made behind the disk. -/
theorem write_in (w : World) (F : Nat → Prop) (g : Nat) (s : Dk.St) (h : DskAt w F g s) (hF : ∀ k, w.heap.size ≤ k → F k) (w3 : World) (k3 : Keeps (fun _ => False) w w3) (X cx : Nat) (t : TypeId) (xs : List UInt8) (hX1 : w.heap.size ≤ X) (hX : Row w3 X t (bvs xs))
    (i : Nat) (hi : i < s.n) (hd : s.dead = false) (hg : Dk.goes s = true) (hxl : xs.length = 256) (hn : s.loose.length ≤ 1000) :
    Calls Try.prog 37 #[.pointer (some ⟨g, 0, none⟩), .int .i64 (i : Int), .slice (some ⟨X, 0, none⟩) 256 cx] w3 fun e w' => e = .returned (.int .i64 0) ∧ DskAt w' F g { Dk.cnt s with loose := s.loose ++ [(i, xs)] } ∧ Keeps F w3 w' := by
  have h3 : DskAt w3 (fun k => F k ∧ k ≠ X) g s := (h.mono (fun k hk hf => ⟨hf, by omega⟩)).later k3
  have hlt := hX.lt
  refine (write_ok w3 (fun k => F k ∧ k ≠ X) g s h3 (fun k hk => ⟨hF k (by have := k3.size; omega), by omega⟩) i hi hd hg X cx xs hxl (rangeAt_row hX) (fun hh => hh.2 rfl) hn).mono ?_
  rintro e w' ⟨h1, h2, h3⟩
  exact ⟨h1, h2.mono (fun k _ hf => hf.1), h3.mono (fun k _ hf => hf.1)⟩
/-- A front that was made behind the disk. -/
theorem crash_in (w : World) (F : Nat → Prop) (g : Nat) (s : Dk.St) (h : DskAt w F g s) (hF : ∀ k, w.heap.size ≤ k → F k) (w3 : World) (k3 : Keeps (fun _ => False) w w3) (X cx : Nat) (t : TypeId) (f : List UInt8) (hX1 : w.heap.size ≤ X) (hX : Row w3 X t (bvs f))
    (hn : s.loose.length ≤ 1000) (hfl : f.length ≤ 9223372036854775807) :
    Calls Try.prog 18 #[.pointer (some ⟨g, 0, none⟩), .slice (some ⟨X, 0, none⟩) f.length cx] w3 fun e w' => e = .returned (.tuple #[]) ∧ DskAt w' F g { s with good := Dk.crash s.good s.loose f, loose := [], fails := false, dead := false } ∧ Keeps F w3 w' := by
  have h3 : DskAt w3 (fun k => F k ∧ k ≠ X) g s := (h.mono (fun k hk hf => ⟨hf, by omega⟩)).later k3
  have hlt := hX.lt
  refine (crash_any w3 (fun k => F k ∧ k ≠ X) g s h3 (fun k hk => ⟨hF k (by have := k3.size; omega), by omega⟩) hn (some ⟨X, 0, none⟩) cx f (fun j u hu => ⟨_, rfl, by rw [add_plain]; exact rangeAt_row hX j u hu⟩) (fun a ha _ hh => by injection ha with ha; subst ha; exact hh.2 rfl) hfl).mono ?_
  rintro e w' ⟨h1, h2, h3⟩
  exact ⟨h1, h2.mono (fun k _ hf => hf.1), h3.mono (fun k _ hf => hf.1)⟩
theorem Row.src {w : World} {g : Nat} {t : TypeId} {xs : List Value} (h : Row w g t xs) : Src w (some ⟨g, 0, none⟩) xs := fun j u hu => ⟨_, rfl, by rw [add_plain]; exact rangeAt_row h j u hu⟩
theorem Row.byte {w : World} {g : Nat} {t : TypeId} {b : List UInt8} (h : Row w g t (bvs b)) {j : Nat} {c : UInt8} (hc : b[j]? = some c) : w.cell? ⟨g, j, none⟩ = some (.int .u8 (c.toNat : Int)) := by rw [h.cell, bvs_get, hc]; rfl
theorem goes_fresh (n : Nat) : Dk.goes (Dk.fresh n) = true := rfl
theorem cnt_fresh (n : Nat) : Dk.cnt (Dk.fresh n) = Dk.fresh n := rfl

end Go.Proofs.Ytnhegnncmjmafaa
