/-
  What is told of the program's digest: contracts, of whatever code keeps them.
-/
import Derived.Test.YtmjpaopobnhckaaDgC
import Derived.Test.YtmjpaopobnhckaaDgP
namespace Go.Proofs.Ytmjpaopobnhckaa
open Go.RowKit Go.BigFrame
set_option linter.unusedVariables false
set_option linter.unusedSimpArgs false

/-- Bytes that lie somewhere. -/
structure LB (w : World) (A : Option Addr) (len cap : Nat) (b : List UInt8) : Prop where
  many : b.length = len
  src : Src w A (bvs b)
  le : len ≤ cap
  max : cap ≤ 9223372036854775807
theorem LB.later {w w' : World} {A : Option Addr} {len cap : Nat} {b : List UInt8} (h : LB w A len cap b) (k : Keeps (fun _ => False) w w') : LB w' A len cap b := ⟨h.many, h.src.keeps k (fun _ _ _ => id), h.le, h.max⟩
structure Digs : Prop where
  make : ∀ (w : World) (A A2 : Option Addr) (n c m d : Nat) (xs : List Ft.Key) (ys : List (List UInt8)), LK w A n c xs → LH w A2 m d ys → n ≤ 1000 → m ≤ 1000 →
    Calls Try.prog 10 #[.slice A n c, .slice A2 m d] w fun e w' => ∃ (A3 : Option Addr) (c3 : Nat) (A4 : Option Addr) (c4 : Nat), e = .returned (.agg (dcs (.slice A3 (Dg.last xs).length c3) (.slice A4 (Dg.last ys).length c4))) ∧ Keeps (fun _ => False) w w' ∧ LK w' A3 (Dg.last xs).length c3 (Dg.last xs) ∧ LH w' A4 (Dg.last ys).length c4 (Dg.last ys)
  wants : ∀ (w : World) (A A2 A3 : Option Addr) (n c m d p q : Nat) (known xs : List Ft.Key) (ys : List (List UInt8)), LK w A n c known → LK w A2 m d xs → LH w A3 p q ys → n ≤ 1000 → m ≤ 1000 → p ≤ 1000 →
    Calls Try.prog 14 #[.slice A n c, .agg (dcs (.slice A2 m d) (.slice A3 p q))] w fun e w' => ∃ (A' : Option Addr) (c' : Nat), e = .returned (.slice A' (Dg.knot xs known).length c') ∧ Keeps (fun _ => False) w w' ∧ LK w' A' (Dg.knot xs known).length c' (Dg.knot xs known)
  lacks : ∀ (w : World) (A A2 A3 : Option Addr) (n c m d p q : Nat) (known xs : List Ft.Key) (ys : List (List UInt8)), LK w A n c known → LK w A2 m d xs → LH w A3 p q ys → n ≤ 1000 → m ≤ 1000 → p ≤ 1000 →
    Calls Try.prog 16 #[.slice A n c, .agg (dcs (.slice A2 m d) (.slice A3 p q))] w fun e w' => ∃ (A' : Option Addr) (c' : Nat), e = .returned (.slice A' (Dg.knot known xs).length c') ∧ Keeps (fun _ => False) w w' ∧ LK w' A' (Dg.knot known xs).length c' (Dg.knot known xs)
  misses : ∀ (w : World) (A A2 A3 : Option Addr) (n c m d p q : Nat) (known : List (List UInt8)) (xs : List Ft.Key) (ys : List (List UInt8)), LH w A n c known → LK w A2 m d xs → LH w A3 p q ys → n ≤ 1000 → m ≤ 1000 → p ≤ 1000 →
    Calls Try.prog 17 #[.slice A n c, .agg (dcs (.slice A2 m d) (.slice A3 p q))] w fun e w' => ∃ (A' : Option Addr) (c' : Nat), e = .returned (.slice A' (Dg.knot known ys).length c') ∧ Keeps (fun _ => False) w w' ∧ LH w' A' (Dg.knot known ys).length c' (Dg.knot known ys)
  put : ∀ (w : World) (A A2 : Option Addr) (n c m d : Nat) (xs : List Ft.Key) (ys : List (List UInt8)), LK w A n c xs → LH w A2 m d ys → n ≤ 1000 → m ≤ 1000 →
    Calls Try.prog 19 #[.agg (dcs (.slice A n c) (.slice A2 m d))] w fun e w' => ∃ (A' : Option Addr) (c' : Nat), e = .returned (.tuple #[.slice A' (Dg.put xs ys).1.length c', .int .i64 (Dg.put xs ys).2]) ∧ Keeps (fun _ => False) w w' ∧ LB w' A' (Dg.put xs ys).1.length c' (Dg.put xs ys).1
  get : ∀ (w : World) (A : Option Addr) (n c : Nat) (b : List UInt8), LB w A n c b → n ≤ 3000 →
    Calls Try.prog 22 #[.slice A n c] w fun e w' => ∃ (A3 : Option Addr) (c3 : Nat) (A4 : Option Addr) (c4 : Nat), e = .returned (.tuple #[.agg (dcs (.slice A3 (Dg.get b).1.length c3) (.slice A4 (Dg.get b).2.1.length c4)), .int .i64 (Dg.get b).2.2]) ∧ Keeps (fun _ => False) w w' ∧ LK w' A3 (Dg.get b).1.length c3 (Dg.get b).1 ∧ LH w' A4 (Dg.get b).2.1.length c4 (Dg.get b).2.1
/-- The law's own first check. -/
abbrev Awake19 : Prop := ∀ w : World, Calls Try.prog 9 #[] w fun e w' => e = .returned (.bool true) ∧ Keeps (fun _ => False) w w'
theorem size_G (k f : Value) : (Try.prog.info? 26).map (·.size) = some (dcs k f).size := by kernel_rfl
theorem zero_G (w : World) : (zeroValue 26).run Try.prog w = .ok (.agg (dcs (.slice none 0 0) (.slice none 0 0))) w := by kernel_rfl
theorem build_G (A A2 : Option Addr) (n c m d : Nat) (V : World) : (Instr.build 26 #[(0, .slice A n c), (1, .slice A2 m d)]).run Try.prog V = .ok (.agg (dcs (.slice A n c) (.slice A2 m d))) V := by kernel_rfl
/-- A digest is laid: what is told of it then. -/
theorem lay_digest (V : World) (ty : TypeId) (C : Array Value) (Z : Array Value) : ∃ (b : Nat) (V1 V2 : World), V.heap.size = b ∧ V.alloc (.cells Z ty) = V1 ∧ V1.setRow b C = V2 ∧ V1.heap[b]? = some (.cells Z ty (0, 0)) ∧ V2.heap[b]? = some (.cells C ty (0, 0)) ∧ Keeps (fun _ => False) V V2 := by
  refine ⟨_, _, _, rfl, rfl, rfl, heap_alloc_new V _, setRow_heap _ _ _ _ _ _ (heap_alloc_new V _), ?_⟩
  exact ((Keeps.refl (fun _ => False) V).alloc _).trans' (T := fun j => j = V.heap.size) (Keeps.setRow _ _) (fun j hj e => by omega)
/-- What is got may be put, as the same bytes. -/
theorem put_get19 {b : List UInt8} {ks : List Ft.Key} {fs : List (List UInt8)} (h : Dg.get b = (ks, fs, 0)) : Dg.put ks fs = (b, 0) := by
  have := Dg.put_get b (by rw [h])
  rwa [h] at this
end Go.Proofs.Ytmjpaopobnhckaa
