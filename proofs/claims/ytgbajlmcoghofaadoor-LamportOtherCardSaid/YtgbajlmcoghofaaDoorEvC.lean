/-
  The example of layer 7, evaluated: a signature of other bytes comes to another key.
-/
import Derived.Test.YtgbajlmcoghofaaDoorEvB
namespace Go.Proofs.YtgbajlmcoghofaaDoor
set_option linter.unusedVariables false
namespace Ev
def sw1 : List UInt32 := [16777216, 0, 0, 0, 0, 0, 0, 0]
theorem sw1_flat : sw1.flatMap Sh.out4 = 1 :: List.replicate 31 0 := by decide +kernel
theorem idx3 : Lm.idx 3 = Sh.out4 3 := by decide +kernel
def gA : List UInt8 := [202, 151, 129, 18, 202, 27, 189, 202]
def gB : List UInt8 := [62, 35, 232, 22, 0, 57, 89, 74]
theorem shaA : (Sh.sha [97]).take 8 = gA := by decide +kernel
theorem shaB : (Sh.sha [98]).take 8 = gB := by decide +kernel
theorem bit_take (g : List UInt8) (k : Nat) (h : k < 64) : Lm.bit g k = Lm.bit (g.take 8) k := by
  unfold Lm.bit
  rw [List.getD_eq_getElem?_getD, List.getD_eq_getElem?_getD, List.getElem?_take, if_pos (by omega)]
def bits (l : List Nat) (k : Nat) : Nat := l.getD k 0
def lA : List Nat := (List.range 64).map (Lm.bit gA)
def lB : List Nat := (List.range 64).map (Lm.bit gB)
theorem bits_of (g : List UInt8) (k : Nat) (h : k < 64) : bits ((List.range 64).map (Lm.bit g)) k = Lm.bit g k := by
  unfold bits
  rw [List.getD_eq_getElem?_getD, List.getElem?_map, List.getElem?_range h]
  rfl
def xA : List Nat := [1, 1, 0, 0, 1, 0, 1, 0, 1, 0, 0, 1, 0, 1, 1, 1, 1, 0, 0, 0, 0, 0, 0, 1, 0, 0, 0, 1, 0, 0, 1, 0, 1, 1, 0, 0, 1, 0, 1, 0, 0, 0, 0, 1, 1, 0, 1, 1, 1, 0, 1, 1, 1, 1, 0, 1, 1, 1, 0, 0, 1, 0, 1, 0]
def xB : List Nat := [0, 0, 1, 1, 1, 1, 1, 0, 0, 0, 1, 0, 0, 0, 1, 1, 1, 1, 1, 0, 1, 0, 0, 0, 0, 0, 0, 1, 0, 1, 1, 0, 0, 0, 0, 0, 0, 0, 0, 0, 0, 0, 1, 1, 1, 0, 0, 1, 0, 1, 0, 1, 1, 0, 0, 1, 0, 1, 0, 0, 1, 0, 1, 0]
theorem lA_eq : lA = xA := by decide +kernel
theorem lB_eq : lB = xB := by decide +kernel
theorem bitA (k : Nat) (h : k < 64) : bits xA k = Lm.bit (Sh.sha [97]) k := by rw [bit_take _ _ h, shaA, ← lA_eq]; exact bits_of _ _ h
theorem bitB (k : Nat) (h : k < 64) : bits xB k = Lm.bit (Sh.sha [98]) k := by rw [bit_take _ _ h, shaB, ← lB_eq]; exact bits_of _ _ h
def xP : List Nat := [1689503179, 72240602, 3104863571, 3140637511, 2722037445, 1006915795, 3866750848, 3619442337]
def xF : List Nat := [2342447258, 50557656, 2535780279, 3798784114, 2627172010, 3690158611, 1175066090, 3111207892]
theorem evP : eat 65 st0 (allN (pubN (N sw1) 3) 128 ++ pwN) = xP := by decide +kernel
theorem evF : eat 65 st0 (allN (opN (bits xB) (sigN (N sw1) 3 (bits xA))) 128 ++ pwN) = xF := by decide +kernel
theorem pub1 : ∃ s : Sh.St, Lm.pub (1 :: List.replicate 31 0) 3 = Sh.outs s ∧ N s.list = xP :=
  ⟨eatW 65 Sh.st0 (allS (pubS sw1 3) 128 ++ pw), by
    rw [← sw1_flat]
    exact sha_cat _ (pubS sw1 3) fun j hj => pubs_words sw1 3 3 rfl idx3 j hj, by
    rw [eat_all _ (pubN (N sw1) 3) fun j hj => pubS_N sw1 3 rfl j hj]
    exact evP⟩
theorem frm1 : ∃ s : Sh.St, Lm.frm [98] (Lm.sign (1 :: List.replicate 31 0) 3 [97]) = Sh.outs s ∧ N s.list = xF :=
  ⟨eatW 65 Sh.st0 (allS (opS (bits xB) (sigS sw1 3 (bits xA))) 128 ++ pw), by
    rw [frm_signed, ← sw1_flat]
    exact sha_cat _ (opS (bits xB) (sigS sw1 3 (bits xA))) fun j hj => opens_words _ _ _ _ j (bitB _ (by omega)) (sigs_words sw1 3 3 rfl idx3 _ _ j hj (bitA _ (by omega))), by
    rw [eat_all _ (opN (bits xB) (sigN (N sw1) 3 (bits xA))) fun j hj => opS_N _ _ _ j (sigS_N sw1 3 rfl _ j hj)]
    exact evF⟩
theorem frm_ne : Lm.frm [98] (Lm.sign (1 :: List.replicate 31 0) 3 [97]) ≠ Lm.pub (1 :: List.replicate 31 0) 3 := by
  obtain ⟨s, hs, hn⟩ := frm1
  obtain ⟨t, ht, hm⟩ := pub1
  rw [hs, ht]
  intro e
  rw [outs_inj e, hm] at hn
  exact absurd hn (by decide)
theorem pub_ne : Lm.pub (1 :: List.replicate 31 0) 3 ≠ List.replicate 32 0 := by
  obtain ⟨t, ht, hm⟩ := pub1
  rw [ht]
  intro e
  have e2 : Sh.outs t = Sh.outs ⟨0, 0, 0, 0, 0, 0, 0, 0⟩ := e.trans (by decide)
  rw [outs_inj e2] at hm
  exact absurd hm (by decide)
theorem leaf_ne : Sh.sha [0] ≠ List.replicate 32 0 := by decide +kernel
end Ev
end Go.Proofs.YtgbajlmcoghofaaDoor
