/-
  Bits by a shift of 64 bits; blocks that are laid and filled; hashes of one row. WRITTEN BY wip/gen/mklas.py.
-/
import Derived.Test.YtgbajlmcoghofaaDoorLaH
import Derived.Test.YtgbajlmcoghofaaDoorOpens
namespace Go.Proofs.YtgbajlmcoghofaaDoor
open Go.RowKit Go.BigFrame
set_option linter.unusedVariables false

theorem and_one_i64 : ∀ x : Fin 256, bits .and .i64 (x.val : Int) 1 = ((x.val % 2 : Nat) : Int) := by decide +kernel
theorem bit_i64 (g : List UInt8) (k : Nat) (x : UInt8) (h : g[k / 8]? = some x) : bits .and .i64 ((x.toNat : Int) / 2 ^ (7 - k % 8)) 1 = (Lm.bit g k : Int) := by
  have h1 : ((x.toNat : Int) / 2 ^ (7 - k % 8)) = ((x.toNat / 2 ^ (7 - k % 8) : Nat) : Int) := by simp
  have h2 : x.toNat / 2 ^ (7 - k % 8) < 256 := Nat.lt_of_le_of_lt (Nat.div_le_self _ _) x.toNat_lt
  rw [h1, and_one_i64 ⟨_, h2⟩]
  unfold Lm.bit
  rw [List.getD_eq_getElem?_getD, h]
  rfl
theorem wrap64_byte (x : UInt8) (n : Nat) : wrap64 ((x.toNat : Int) / 2 ^ n) = (x.toNat : Int) / 2 ^ n := by
  have h1 : ((x.toNat : Int) / 2 ^ n) = ((x.toNat / 2 ^ n : Nat) : Int) := by simp
  have h2 : x.toNat / 2 ^ n < 256 := Nat.lt_of_le_of_lt (Nat.div_le_self _ _) x.toNat_lt
  rw [h1]
  generalize x.toNat / 2 ^ n = z at h2 ⊢
  exact IntWalk.wrap64_in _ (by omega)
/-- One hash is laid in a block of its own. -/
theorem filled {w w1 w2 : World} {G : Nat} {t : TypeId} {z : Array Value} {L : List Value} (hG : w.heap.size = G) (h1 : w.alloc (.cells z t) = w1) (h2 : w1.setRow G L.toArray = w2) : w1.heap[G]? = some (.cells z t (0, 0)) ∧ w2.heap[G]? = some (.cells L.toArray t (0, 0)) ∧ Keeps (fun _ => False) w w2 := by
  have r1 : w1.heap[G]? = some (.cells z t (0, 0)) := by rw [← h1, ← hG]; exact heap_alloc_new w _
  have k1 : Keeps (fun _ => False) w w1 := by rw [← h1]; exact (Keeps.refl _ _).alloc _
  have k2 : Keeps (fun k => k = G) w1 w2 := by rw [← h2]; exact Keeps.setRow _ _
  exact ⟨r1, by rw [← h2]; exact setRow_heap _ _ _ _ _ _ r1, k1.trans' k2 (fun i hi e => by omega)⟩
/-- The hash of one row, whose slice lies in a block that has been made. -/
theorem of_made {w0 w : World} {g : Nat} {A : Option Addr} {c n : Nat} {xs : List UInt8} (hT : Tabs w) (hM : Made w0 24 #[.slice A n c] (.slice (some ⟨g, 0, none⟩) 1 1) w) (hsrc : Src w A (bvs xs)) (hn : xs.length = n) (hc : n ≤ c) (hcm : c ≤ 9223372036854775807) (hx : n ≤ 99999999) :
    Calls Tryd.prog 16 #[.slice (some ⟨g, 0, none⟩) 1 1] w fun e w' => e = .returned (.agg (bvs (Sh.sha xs)).toArray) ∧ Keeps (fun _ => False) w w' := by
  obtain ⟨g', fr, h0, h1, h2⟩ := hM
  injection h1 with h1
  injection h1 with h1
  injection h1 with h1
  subst h1
  subst hn
  have hrows : RowsAt w (some ⟨g, 0, none⟩) [(A, c, xs)] := rowsAt_only (by rw [add_plain, cell_of_row w g _ _ _ _ h2]; rfl) hsrc ⟨hc, hcm⟩
  have e : bytesOf [(A, c, xs)] = xs := by simp [bytesOf]
  have h := of_any (some ⟨g, 0, none⟩) 1 _ w hT hrows (by simp) (by rw [e]; omega)
  rw [e] at h
  exact h
theorem row_midsrc {w : World} {g : Nat} {t : TypeId} {xs : List Value} (h : w.heap[g]? = some (.cells xs.toArray t (0, 0))) : Src w (some ⟨g, 0, none⟩) xs := src_block h
/-- The same of a list of one slice that was just made. -/
theorem of_new {w w1 : World} {A : Option Addr} {c n : Nat} {xs : List UInt8} (hT : Tabs w) (hW : w.alloc (.cells #[.slice A n c] 24) = w1) (hsrc : Src w A (bvs xs)) (hn : xs.length = n) (hc : n ≤ c) (hcm : c ≤ 9223372036854775807) (hx : n ≤ 99999999) :
    Calls Tryd.prog 16 #[.slice (some ⟨w.heap.size, 0, none⟩) 1 1] w1 fun e w' => e = .returned (.agg (bvs (Sh.sha xs)).toArray) ∧ Keeps (fun _ => False) w1 w' := by
  have k1 : Keeps (fun _ => False) w w1 := by rw [← hW]; exact (Keeps.refl _ _).alloc _
  exact of_made (w0 := w) (hT.keeps k1 id id) ⟨w.heap.size, (0, 0), Nat.le_refl _, rfl, by rw [← hW]; exact heap_alloc_new w _⟩ (hsrc.keeps k1 (fun _ _ _ => id)) hn hc hcm hx
end Go.Proofs.YtgbajlmcoghofaaDoor
