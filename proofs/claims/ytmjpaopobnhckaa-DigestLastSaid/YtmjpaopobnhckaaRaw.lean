/-
  The document's own answers for sha: a hash as bytes (a copy of SoM's text for seats without sha: never import both).
-/
import Derived.Test.YtmjpaopobnhckaaRowB
import Derived.Test.YtmjpaopobnhckaaEq
import Derived.Test.YtmjpaopobnhckaaRows
import Derived.Laws.Concat
import Derived.Deep.LoopGhost
namespace Go.Proofs.Ytmjpaopobnhckaa
open Go.RowKit
set_option linter.unusedVariables false

theorem str_app (a b : List UInt8) : strOf a ++ strOf b = strOf (a ++ b) := by simp [strOf, ByteArray.mk_append_mk]
theorem str_size (l : List UInt8) : (strOf l).size = l.length := rfl
set_option maxRecDepth 100000 in
set_option maxHeartbeats 800000 in
theorem raw_any (xs : List UInt8) (w : World) (hx : xs.length = 32) :
    Calls Try.prog 33 #[.agg (bvs xs).toArray] w fun e w' => e = .returned (.string (strOf xs)) ∧ Keeps (fun _ => False) w w' := by
  obtain ⟨X, hX⟩ : ∃ X : Array Value, (bvs xs).toArray = X := ⟨_, rfl⟩
  rw [hX]
  obtain ⟨W1, hW1⟩ : ∃ V, w.alloc (.cells X 52) = V := ⟨_, rfl⟩
  have k1 : Keeps (fun _ => False) w W1 := by rw [← hW1]; exact (Keeps.refl _ _).alloc _
  have r1 : Row W1 w.heap.size 52 (bvs xs) := by rw [← hW1, ← hX]; exact heap_alloc_new w _
  have lt1 : w.heap.size < W1.heap.size := by rw [← hW1]; simp
  have R1 := Lib.hid r1
  have HX := Lib.hid hx
  clear hX r1 hx
  go_enter Try.func33, Try.ntmps33
  go_wp2_with fail
  clear hW1
  go_loopw [3, 4] (fun s i wr => ∃ k : Nat, k ≤ 32 ∧ i = .int .i64 k ∧ s = .string (strOf (xs.take k)) ∧ Keeps (fun _ => False) W1 wr) (fun _ i _ => 32 - (intOf i).toNat)
  case atStart => exact ⟨0, by omega, rfl, rfl, Keeps.refl _ _⟩
  case round =>
    obtain ⟨k, hk, rfl, rfl, hkp⟩ := hrel
    by_cases hlt : k < 32
    · have hkl : k < xs.length := by rw [HX.out]; exact hlt
      have hcell : wr.cell? ⟨w.heap.size, k, none⟩ = some (.int .u8 (xs[k].toNat : Int)) := by
        have h : Row wr w.heap.size 52 (bvs xs) := R1.out.keeps hkp id
        rw [h.cell, bvs_at xs hkl]
      have htk : xs.take (k + 1) = xs.take k ++ [xs[k]] := List.take_succ_eq_append_getElem hkl
      have hl : (xs.take k).length = k := by rw [List.length_take]; omega
      obtain ⟨c, hc⟩ : ∃ c, xs[k] = c := ⟨_, rfl⟩
      rw [hc] at hcell htk
      obtain ⟨ys, hy⟩ : ∃ ys, xs.take k = ys := ⟨_, rfl⟩
      rw [hy] at htk hl ⊢
      have HTK := Lib.hid htk
      have HCV : ∀ W : World, (convert 37 9 (.slice (some ⟨W.heap.size, 0, none⟩) 1 1)).run Try.prog (W.alloc (.cells #[.int .u8 (c.toNat : Int)] 5)) = .ok (.string (strOf [c])) (W.alloc (.cells #[.int .u8 (c.toNat : Int)] 5)) := fun W =>
        run_string_src (P := Try.prog) (W.alloc (.cells #[.int .u8 (c.toNat : Int)] 5)) 37 9 5 Try.underlying37 Try.underlying5 Try.underlying9 (some ⟨W.heap.size, 0, none⟩) [c] 1 (fun j u hu => ⟨_, rfl, World.news_of_block (heap_alloc_new W _) j u hu⟩)
      have hsz1 : (strOf ys).size + (strOf [c]).size ≤ 33 := by rw [str_size, str_size, hl, List.length_singleton]; omega
      have hK : Hid (Keeps (fun _ => False) W1 (wr.alloc (.cells #[.int .u8 (c.toNat : Int)] 5))) := hkp.alloc _
      clear htk hc hy hl hkp
      go_wp2
      go_roundw
      case rel => exact ⟨k + 1, by omega, by go_num, by rw [HTK.out, str_app], hK.out⟩
      case measure => simp [intOf]; omega
    · have e3 : xs.take k = xs := List.take_of_length_le (by rw [HX.out]; omega)
      rw [e3]
      go_wp2
      go_ret
      exact ⟨rfl, k1.trans hkp⟩
end Go.Proofs.Ytmjpaopobnhckaa
