/-
  octet's Writer: numbers of a wrong size, hashes; a Writer that is nil.
-/
import Derived.Test.YtmjpaopobnhckaaWrB
namespace Go.Proofs.Ytmjpaopobnhckaa
open Go.RowKit
set_option linter.unusedVariables false

theorem wrNum_bad (b : Nat) (x n : Int) (w : World) (hn : n < 1 ∨ 8 < n) :
    Calls Try.prog 29 #[.pointer (some ⟨b, 0, none⟩), .int .u64 x, .int .i64 n] w fun e w' => e = .returned (.tuple #[]) ∧ w = w' := by
  have hok : (decide (1 ≤ n) && decide (n ≤ 8)) = false := by
    rcases hn with h | h
    · rw [decide_eq_false (by omega)]; rfl
    · rw [decide_eq_false (p := n ≤ 8) (by omega), Bool.and_false]
  have HOK := Lib.hid hok
  clear hok hn
  go_enter Try.func29, Try.ntmps29
  go_wp2_with (go_at_call 46; refine (isNumSize_any _ _ false HOK.out).mono ?_; rintro e w' ⟨rfl, rfl⟩)
  refine bodyPost_ret (results_none rfl _ _ _) rfl ?_
  exact ⟨rfl, rfl⟩
theorem wrNum_nil (x n : Int) (w : World) :
    Calls Try.prog 29 #[.pointer none, .int .u64 x, .int .i64 n] w fun e w' => e = .returned (.tuple #[]) ∧ w = w' := by
  go_enter Try.func29, Try.ntmps29
  go_wp2
  refine bodyPost_ret (results_none rfl _ _ _) rfl ?_
  exact ⟨rfl, rfl⟩

theorem wrNum_at (b : Nat) (r : Option Nat) (xs : List UInt8) (x m : Int) (n : Nat) (w : World) (hw : Wr w b r xs) (hx0 : 0 ≤ x) (hm : m = n) (hn : 1 ≤ n) (hn8 : n ≤ 8) (hx : xs.length ≤ 99999000) :
    Calls Try.prog 29 #[.pointer (some ⟨b, 0, none⟩), .int .u64 x, .int .i64 m] w (WrPut b r (xs ++ nb x n) w) := by
  subst hm
  exact wrNum_ok b r xs x n w hw hx0 hn hn8 hx

theorem wrHash_any (b : Nat) (r : Option Nat) (xs ys : List UInt8) (w : World) (hw : Wr w b r xs) (hy : ys.length = 32) (hx : xs.length ≤ 99990000) :
    Calls Try.prog 30 #[.pointer (some ⟨b, 0, none⟩), .agg (bvs ys).toArray] w (WrPut b r (xs ++ ys) w) := by
  have hlt := hw.lt
  have ha : Wr (w.alloc (Obj.cells (bvs ys).toArray 52)) b r xs := hw.keeps (S := fun _ => False) ((Keeps.refl _ _).alloc _) id (fun _ _ => id)
  have hrow : Src (w.alloc (Obj.cells (bvs ys).toArray 52)) (some ⟨w.heap.size, 0, none⟩) (bvs ys) := fun j u hu =>
    ⟨_, rfl, World.news_of_block (heap_alloc_new w _) j u (by simpa using hu)⟩
  have HY := Lib.hid hy
  have hraw := wrRaw_any b r xs ys (some ⟨w.heap.size, 0, none⟩) 32 _ ha hrow (by omega)
  rw [hy] at hraw
  have HRAW := Lib.hid hraw
  clear hy hraw
  go_enter Try.func30, Try.ntmps30
  go_wp2_with fail
  refine HRAW.out.mono ?_
  rintro e w1 ⟨rfl, r1, hw1, hr1, hk1⟩
  go_wp2
  go_end0
  refine ⟨rfl, r1, hw1, ?_, ((Keeps.refl _ _).alloc _).trans' hk1 (fun _ _ h => h)⟩
  rcases hr1 with h | ⟨q, hq, h⟩
  · exact .inl h
  · exact .inr ⟨q, by simp at hq; omega, h⟩
end Go.Proofs.Ytmjpaopobnhckaa
