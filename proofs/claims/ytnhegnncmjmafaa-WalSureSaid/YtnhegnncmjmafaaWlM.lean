/-
  Records in frames, supers, areas, plain.
-/
import Derived.Test.YtnhegnncmjmafaaNumP
import Derived.Test.YtnhegnncmjmafaaCrA
import Derived.Test.YtnhegnncmjmafaaCrM
import Derived.Test.YtnhegnncmjmafaaDkI
namespace Go.Proofs.Ytnhegnncmjmafaa
open Go.RowKit
set_option linter.unusedVariables false
namespace Wl
abbrev Bs := List UInt8
/-- A record's frame. -/
def frame (b : Bs) : Bs := nb (b.length : Int) 4 ++ (nb (ci (Cr.sum b)) 4 ++ b)
def frames (rs : List Bs) : Bs := rs.flatMap frame
theorem frame_length (b : Bs) : (frame b).length = 8 + b.length := by
  unfold frame; rw [List.length_append, List.length_append, nb_length, nb_length]; omega
theorem frames_cons (b : Bs) (rs : List Bs) : frames (b :: rs) = frame b ++ frames rs := by unfold frames; rw [List.flatMap_cons]
theorem frames_append (a b : List Bs) : frames (a ++ b) = frames a ++ frames b := by unfold frames; rw [List.flatMap_append]
theorem frames_snoc (rs : List Bs) (b : Bs) : frames (rs ++ [b]) = frames rs ++ frame b := by rw [frames_append, frames_cons]; show _ ++ (_ ++ []) = _; rw [List.append_nil]
theorem frames_nil : frames [] = [] := rfl
theorem frames_one (b : Bs) : frames [b] = frame b := by rw [frames_cons, frames_nil, List.append_nil]
theorem frames_many (rs : List Bs) : 8 * rs.length ≤ (frames rs).length := by
  induction rs with
  | nil => simp
  | cons r rs ih => rw [frames_cons, List.length_append, frame_length, List.length_cons]; omega
theorem frames_take_le (rs : List Bs) (n : Nat) : (frames (rs.take n)).length ≤ (frames rs).length := by
  conv => rhs; rw [← List.take_append_drop n rs]
  rw [frames_append, List.length_append]; omega
/-- A super of a turn, an area, a tail. -/
def sup (t a tail : Nat) : Bs := nb (t : Int) 8 ++ (nb (a : Int) 1 ++ (nb (tail : Int) 4 ++ (List.replicate 235 0 ++ nb (t : Int) 8)))
theorem sup_length (t a tail : Nat) : (sup t a tail).length = 256 := by
  unfold sup; simp only [List.length_append, nb_length, List.length_replicate]
def pad (b : Bs) : Bs := b ++ List.replicate (256 - b.length) 0
theorem pad_length (b : Bs) (h : b.length ≤ 256) : (pad b).length = 256 := by
  unfold pad; rw [List.length_append, List.length_replicate]; omega
/-- Block j of bytes, with noughts behind them. -/
def blk (b : Bs) (j : Nat) : Bs := pad ((b.drop (256 * j)).take 256)
theorem blk_length (b : Bs) (j : Nat) : (blk b j).length = 256 := pad_length _ (by rw [List.length_take]; omega)
def nch (b : Bs) : Nat := (b.length + 255) / 256
/-- So many blocks are written, from block i on: the error, and the disk then. -/
def wst (s : Dk.St) (i : Nat) (b : Bs) : Nat → Int × Dk.St
  | 0 => (0, s)
  | j + 1 => if (wst s i b j).1 ≠ 0 then wst s i b j else (Dk.wrE (wst s i b j).2 ((i + j : Nat) : Int) 256, Dk.wr (wst s i b j).2 ((i + j : Nat) : Int) 256 (blk b j))
theorem wst_length (s : Dk.St) (i : Nat) (b : Bs) (j : Nat) : (wst s i b j).2.loose.length ≤ s.loose.length + j := by
  induction j with
  | zero => exact Nat.le_refl _
  | succ j ih =>
    unfold wst
    split
    · omega
    · have := Dk.wr_length (wst s i b j).2 ((i + j : Nat) : Int) 256 (blk b j)
      show (Dk.wr (wst s i b j).2 ((i + j : Nat) : Int) 256 (blk b j)).loose.length ≤ _
      omega
theorem wst_n (s : Dk.St) (i : Nat) (b : Bs) (j : Nat) : (wst s i b j).2.n = s.n := by
  induction j with
  | zero => rfl
  | succ j ih =>
    unfold wst
    split
    · exact ih
    · exact (Dk.wr_n _ _ _ _).trans ih
theorem wst_stop (s : Dk.St) (i : Nat) (b : Bs) (j : Nat) (h : (wst s i b j).1 ≠ 0) : ∀ k, j ≤ k → wst s i b k = wst s i b j := by
  intro k hk
  induction k with
  | zero => rw [Nat.le_zero.1 hk]
  | succ k ih =>
    rcases Nat.lt_or_ge k j with hl | hl
    · rw [show j = k + 1 by omega]
    · have e := ih hl
      show (if (wst s i b k).1 ≠ 0 then wst s i b k else _) = _
      rw [e, if_pos h]
/-- A log's state. -/
structure St where
  k : Nat
  turn : Nat
  area : Nat
  rows : List Bs
  sure : Nat
  err : Int
def hv (l : St) : Bs := frames l.rows
structure Ok (l : St) : Prop where
  k1 : 1 ≤ l.k
  k2 : l.k ≤ 32767
  turn : l.turn < 4611686018427387904
  area : l.area < 2
  rows : ∀ r ∈ l.rows, r.length ≤ 16384
  fit : (hv l).length ≤ 256 * l.k
  sure : l.sure ≤ l.rows.length
theorem Ok.room {l : St} (h : Ok l) : (hv l).length ≤ 8388352 := by have := h.fit; have := h.k2; omega
theorem Ok.many {l : St} (h : Ok l) : l.rows.length ≤ 1048544 := by have := h.room; have h2 := frames_many l.rows; unfold hv at this; omega
/-- The calls. -/
def ap (l : St) (s : Dk.St) (b : Bs) : Int × St × Dk.St :=
  if l.err ≠ 0 then (l.err, l, s) else if 16384 < b.length then (13, l, s) else if 256 * l.k < (hv l).length + (8 + b.length) then (31, l, s) else
  let c := (hv l ++ frame b).drop (256 * ((hv l).length / 256))
  let r := wst s (2 + l.area * l.k + (hv l).length / 256) c (nch c)
  if r.1 ≠ 0 then (r.1, { l with err := r.1 }, r.2) else (0, { l with rows := l.rows ++ [b] }, r.2)
/-- A super is written, between two syncs. -/
def stamp (l : St) (s : Dk.St) (a tail : Nat) : Int × Dk.St :=
  if Dk.syE s ≠ 0 then (Dk.syE s, Dk.sy s) else
  let s1 := Dk.sy s
  let i : Int := (((l.turn + 1) % 2 : Nat) : Int)
  if Dk.wrE s1 i 256 ≠ 0 then (Dk.wrE s1 i 256, Dk.wr s1 i 256 (sup (l.turn + 1) a tail)) else
  let s2 := Dk.wr s1 i 256 (sup (l.turn + 1) a tail)
  (Dk.syE s2, Dk.sy s2)
def sy (l : St) (s : Dk.St) : Int × St × Dk.St :=
  if l.err ≠ 0 then (l.err, l, s) else if l.sure = l.rows.length then (0, l, s) else
  let r := stamp l s l.area (hv l).length
  if r.1 ≠ 0 then (r.1, { l with err := r.1 }, r.2) else (0, { l with turn := l.turn + 1, sure := l.rows.length }, r.2)
def cp (l : St) (s : Dk.St) (rows : List Bs) : Int × St × Dk.St :=
  if l.err ≠ 0 then (l.err, l, s) else if ∃ r ∈ rows, 16384 < r.length then (13, l, s) else if 256 * l.k < (frames rows).length then (31, l, s) else
  let w := wst s (2 + (1 - l.area) * l.k) (frames rows) (nch (frames rows))
  if w.1 ≠ 0 then (w.1, { l with err := w.1 }, w.2) else
  let r := stamp l w.2 (1 - l.area) (frames rows).length
  if r.1 ≠ 0 then (r.1, { l with err := r.1 }, r.2) else (0, { l with turn := l.turn + 1, area := 1 - l.area, rows := rows, sure := rows.length }, r.2)
end Wl
end Go.Proofs.Ytnhegnncmjmafaa
