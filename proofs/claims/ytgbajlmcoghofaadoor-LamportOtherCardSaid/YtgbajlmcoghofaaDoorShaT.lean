/-
  A hash's digits of 16 (sha.Text).
-/
import Derived.Test.YtgbajlmcoghofaaDoorShaG
import Derived.Deep.AppendLies
namespace Go.Proofs.YtgbajlmcoghofaaDoor
open Go.RowKit Go.BigFrame
set_option linter.unusedVariables false

def digit (n : Nat) : UInt8 := ([48, 49, 50, 51, 52, 53, 54, 55, 56, 57, 97, 98, 99, 100, 101, 102] : List UInt8).getD n 0
def hex (l : List UInt8) : List UInt8 := l.flatMap fun c => [digit (c.toNat / 16), digit (c.toNat % 16)]

theorem hex_take (xs : List UInt8) (k : Nat) (h : k < xs.length) : hex (xs.take (k + 1)) = hex (xs.take k) ++ [digit (xs[k].toNat / 16), digit (xs[k].toNat % 16)] := by
  rw [List.take_succ_eq_append_getElem h]
  unfold hex
  rw [List.flatMap_append]
  simp
theorem hex_length (xs : List UInt8) : (hex xs).length = 2 * xs.length := by
  unfold hex
  induction xs with
  | nil => rfl
  | cons x l ih => rw [List.flatMap_cons, List.length_append, ih, List.length_cons]; simp; omega
theorem info_u8t : (Tryd.prog.info? 5).map (fun i => (i.zero, i.size, i.bytes)) = some (some (.int .u8 0), 1, 1) := by kernel_rfl
def digits16 : List UInt8 := [48, 49, 50, 51, 52, 53, 54, 55, 56, 57, 97, 98, 99, 100, 101, 102]
theorem run_index_str {P : Program} (W : World) (t : TypeId) (ht : P.underlying t = some .string) (s : ByteArray) (k : IntKind) (i : Nat) (c : UInt8) (h : s[i]? = some c) :
    (Instr.index t (.string s) (.int k (i : Int))).run P W = .ok (.int .u8 (c.toNat : Int)) W := by
  simp [Instr.index, asIntOf, run_underlying ht, h]
theorem digit_at : ∀ i : Fin 16, ((⟨#[48, 49, 50, 51, 52, 53, 54, 55, 56, 57, 97, 98, 99, 100, 101, 102]⟩ : ByteArray)[i.val]?) = some (digit i.val) := by decide
theorem index_high (W : World) (y : UInt8) : (Instr.index 9 (.string ⟨#[48, 49, 50, 51, 52, 53, 54, 55, 56, 57, 97, 98, 99, 100, 101, 102]⟩) (.int .u8 ((y.toNat : Int) / 16))).run Tryd.prog W = .ok (.int .u8 ((digit (y.toNat / 16)).toNat : Int)) W := by
  have h := y.toNat_lt
  exact run_index_str (P := Tryd.prog) W 9 Tryd.underlying9 _ .u8 (y.toNat / 16) _ (digit_at ⟨y.toNat / 16, by omega⟩)
theorem index_low (W : World) (y : UInt8) : (Instr.index 9 (.string ⟨#[48, 49, 50, 51, 52, 53, 54, 55, 56, 57, 97, 98, 99, 100, 101, 102]⟩) (.int .u8 (bits .and .u8 (y.toNat : Int) 15))).run Tryd.prog W = .ok (.int .u8 ((digit (y.toNat % 16)).toNat : Int)) W := by
  have h := y.toNat_lt
  have e : bits .and .u8 (y.toNat : Int) (15 : Int) = (y.toNat : Int) % 16 := u8_and15 _ (by omega) (by omega)
  rw [e]
  exact run_index_str (P := Tryd.prog) W 9 Tryd.underlying9 _ .u8 (y.toNat % 16) _ (digit_at ⟨y.toNat % 16, by omega⟩)
end Go.Proofs.YtgbajlmcoghofaaDoor
