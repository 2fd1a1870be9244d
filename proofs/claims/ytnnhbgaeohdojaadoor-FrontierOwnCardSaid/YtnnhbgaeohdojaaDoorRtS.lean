/-
  The document's own root: the stack of merges as two rows, of hashes and of sizes.
-/
import Derived.Test.YtnnhbgaeohdojaaDoorTrM
import Derived.Test.YtnnhbgaeohdojaaDoorRtA
import Derived.Test.YtnnhbgaeohdojaaDoorTrD
namespace Go.Proofs.YtnnhbgaeohdojaaDoor
open Go.RowKit Go.BigFrame
set_option linter.unusedVariables false

theorem own_grown {w w' : World} {base size n : Nat} {e : TypeId} {v : Value} {xs : List Value} {row : Option Nat} (h : w.ownsRow base e size v n xs) (hg : w.grownBy w' row) (hr : ∀ k, v.ownBlock = some k → row ≠ some k) : w'.ownsRow base e size v n xs :=
  ((Keeps.refl (fun k => row = some k) w).grown hg (fun _ _ h => h)).owns h (fun k hk => hr k hk)
theorem rows_apart {w : World} {b1 b2 s1 s2 n1 n2 : Nat} {e1 e2 : TypeId} {v1 v2 : Value} {x1 x2 : List Value} (h1 : w.ownsRow b1 e1 s1 v1 n1 x1) (h2 : w.ownsRow b2 e2 s2 v2 n2 x2) (hne : e1 ≠ e2) (k : Nat) (hk : v1.ownBlock = some k) : v2.ownBlock ≠ some k := fun hk2 => by
  obtain ⟨c1, g1, _⟩ := own_block h1 k hk
  obtain ⟨c2, g2, _⟩ := own_block h2 k hk2
  rw [g1] at g2
  injection g2 with g2
  injection g2 with _ g2
  exact hne g2
theorem own_prefix {w : World} {base size n c k : Nat} {e : TypeId} {A : Option Addr} {xs : List Value} (h : w.ownsRow base e size (.slice A n c) n xs) (hk : k ≤ n) (hn : 0 < n) : w.ownsRow base e size (.slice A k c) k (xs.take (k * size)) := by
  have hm : k * size ≤ n * size := Nat.mul_le_mul_right _ hk
  refine ⟨by rw [List.length_take, h.1]; omega, ?_⟩
  rcases h.2 with ⟨_, h0⟩ | ⟨g, cap, cur, hv, hb, hg, hc, hmx, hs, ht⟩
  · omega
  · injection hv with h1 h2 h3
    subst h1
    subst h3
    refine .inr ⟨g, c, cur, rfl, hb, hg, by omega, hmx, hs, ?_⟩
    rw [← ht, List.take_take, Nat.min_eq_left hm]
/-- The stack's hashes and sizes, from the bottom up. -/
def hashes (st : List (List (List UInt8))) : List (List UInt8) := (st.map Tr.root).reverse
def sizes (st : List (List (List UInt8))) : List Value := (st.map (fun s => Value.int .i64 (s.length : Int))).reverse
theorem hashes_cons (s : List (List UInt8)) (r : List (List (List UInt8))) : hashes (s :: r) = hashes r ++ [Tr.root s] := by unfold hashes; rw [List.map_cons, List.reverse_cons]
theorem sizes_cons (s : List (List UInt8)) (r : List (List (List UInt8))) : sizes (s :: r) = sizes r ++ [.int .i64 (s.length : Int)] := by unfold sizes; rw [List.map_cons, List.reverse_cons]
theorem hashes_length (r : List (List (List UInt8))) : (hashes r).length = r.length := by simp [hashes]
theorem sizes_length (r : List (List (List UInt8))) : (sizes r).length = r.length := by simp [sizes]
theorem hashes_all (r : List (List (List UInt8))) : ∀ p ∈ hashes r, p.length = 32 := fun p hp => by
  unfold hashes at hp
  rw [List.mem_reverse, List.mem_map] at hp
  obtain ⟨s, _, rfl⟩ := hp
  exact Tr.root_length s
theorem flat_hashes_take (s t : List (List UInt8)) (r : List (List (List UInt8))) : (flat (hashes (s :: t :: r))).take (r.length * 32) = flat (hashes r) := by
  rw [hashes_cons, hashes_cons, flat_snoc, flat_snoc, List.append_assoc]
  have hl : (flat (hashes r)).length = r.length * 32 := by rw [flat_length _ (hashes_all r), hashes_length]
  rw [List.take_append_of_le_length (by omega), List.take_of_length_le (by omega)]
theorem sizes_take (s t : List (List UInt8)) (r : List (List (List UInt8))) : (sizes (s :: t :: r)).take (r.length * 1) = sizes r := by
  rw [sizes_cons, sizes_cons, List.append_assoc]
  have hl := sizes_length r
  rw [List.take_append_of_le_length (by omega), List.take_of_length_le (by omega)]
theorem two_top {α : Type} (l : List α) (x y : α) (n : Nat) (h : l.length = n) : (l ++ [x] ++ [y])[n + 1]? = some y ∧ (l ++ [x] ++ [y])[n]? = some x := by
  subst h
  exact ⟨by simp, by simp⟩
theorem sizes_top (s t : List (List UInt8)) (r : List (List (List UInt8))) : (sizes (s :: t :: r))[r.length + 1]? = some (.int .i64 (s.length : Int)) ∧ (sizes (s :: t :: r))[r.length]? = some (.int .i64 (t.length : Int)) := by
  rw [sizes_cons, sizes_cons]
  exact two_top _ _ _ _ (sizes_length r)
theorem hashes_top (s t : List (List UInt8)) (r : List (List (List UInt8))) : (hashes (s :: t :: r))[r.length + 1]? = some (Tr.root s) ∧ (hashes (s :: t :: r))[r.length]? = some (Tr.root t) := by
  rw [hashes_cons, hashes_cons]
  exact two_top _ _ _ _ (hashes_length r)
/-- The state of the stack. -/
structure Stk (w0 : World) (st : List (List (List UInt8))) (hv sv : Value) (w : World) : Prop where
  hash : w.ownsRow w0.heap.size 34 32 hv st.length (flat (hashes st))
  size : w.ownsRow w0.heap.size 3 1 sv st.length (sizes st)
  keep : Keeps (fun _ => False) w0 w
theorem Stk.nil (w : World) : Stk w [] (.slice none 0 0) (.slice none 0 0) w := ⟨World.ownsRow_nil _ _ _ _, World.ownsRow_nil _ _ _ _, Keeps.refl _ _⟩
theorem Stk.later {w0 w w' : World} {st : List (List (List UInt8))} {hv sv : Value} (h : Stk w0 st hv sv w) (hk : Keeps (fun _ => False) w w') : Stk w0 st hv sv w' :=
  ⟨hk.owns h.hash (fun _ _ => id), hk.owns h.size (fun _ _ => id), h.keep.trans hk⟩
theorem keeps_row {w0 w w' : World} {e : TypeId} {size n : Nat} {v : Value} {xs : List Value} (h : w.ownsRow w0.heap.size e size v n xs) (hk : Keeps (fun _ => False) w0 w) (hg : w.grownBy w' v.ownBlock) : Keeps (fun _ => False) w0 w' :=
  hk.grown hg (fun k hk' hr => by
    obtain ⟨_, _, hb⟩ := own_block h k hr
    omega)
/-- The row of hashes has been appended to. -/
theorem Stk.hashed {w0 w w' : World} {st : List (List (List UInt8))} {hv sv hv2 : Value} (h : Stk w0 st hv sv w) (hb : hv2.ownBlock = hv.ownBlock) (hg : w.grownBy w' hv2.ownBlock) :
    w'.ownsRow w0.heap.size 3 1 sv st.length (sizes st) ∧ Keeps (fun _ => False) w0 w' := by
  rw [hb] at hg
  exact ⟨own_grown h.size hg (fun k hk => rows_apart h.size h.hash (by decide) k hk), keeps_row h.hash h.keep hg⟩
/-- .. and then that of sizes. -/
theorem Stk.sized {w0 w w' : World} {st : List (List (List UInt8))} {s : List (List UInt8)} {hv sv sv2 sv' : Value} {n : Nat} {xs : List Value} (hh : w.ownsRow w0.heap.size 34 32 hv (s :: st).length (flat (hashes (s :: st)))) (hs : w.ownsRow w0.heap.size 3 1 sv n xs) (hk : Keeps (fun _ => False) w0 w) (hb : sv2.ownBlock = sv.ownBlock)
    (hg : w.grownBy w' sv2.ownBlock) (ho : w'.ownsRow w0.heap.size 3 1 sv' (st.length + 1) (sizes st ++ [.int .i64 (s.length : Int)])) : Stk w0 (s :: st) hv sv' w' := by
  rw [hb] at hg
  exact ⟨own_grown hh hg (fun k hk => rows_apart hh hs (by decide) k hk), by rw [sizes_cons]; exact ho, keeps_row hs hk hg⟩
end Go.Proofs.YtnnhbgaeohdojaaDoor
