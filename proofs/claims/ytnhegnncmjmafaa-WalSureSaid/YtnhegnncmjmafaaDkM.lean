/-
  Blocks that are there for good when they are synced, plain. No number of any translation stands here.
-/
import GoSem.Claims
namespace Go.Proofs.Ytnhegnncmjmafaa
namespace Dk

abbrev Blk := List UInt8
def nought : Blk := List.replicate 256 0
/-- A disk. -/
structure St where
  n : Nat
  good : Nat → Blk
  loose : List (Nat × Blk)
  fails : Bool
  after : Int
  dead : Bool
def put (g : Nat → Blk) (i : Nat) (b : Blk) : Nat → Blk := fun j => if j = i then b else g j
/-- All that is loose over what is for good. -/
def over (g : Nat → Blk) (l : List (Nat × Blk)) : Nat → Blk := l.foldl (fun f p => put f p.1 p.2) g
def front (b old : Blk) (k : Nat) : Blk := b.take k ++ old.drop k
def lay (g : Nat → Blk) (p : Nat × Blk) (k : Nat) : Nat → Blk := put g p.1 (front p.2 (g p.1) k)
def size (c : UInt8) : Nat := if c.toNat = 255 then 256 else c.toNat
/-- What is there behind a crash. -/
def crash (g : Nat → Blk) (l : List (Nat × Blk)) (f : List UInt8) : Nat → Blk := (l.zip f).foldl (fun g q => lay g q.1 (size q.2)) g
structure Ok (s : St) : Prop where
  lo : 1 ≤ s.n
  hi : s.n ≤ 65536
  good : ∀ i, (s.good i).length = 256
  loose : ∀ p ∈ s.loose, p.1 < s.n ∧ p.2.length = 256
  wf : -9223372036854775808 ≤ s.after ∧ s.after ≤ 9223372036854775807
  aft : s.fails = true → 0 ≤ s.after
def fresh (n : Nat) : St := ⟨n, fun _ => nought, [], false, 0, false⟩
/-- A call that counts: the disk then, and whether it goes. -/
def cnt (s : St) : St := if s.fails = true then (if s.after = 0 then { s with dead := true } else { s with after := s.after - 1 }) else s
def goes (s : St) : Bool := !(s.fails && s.after == 0)
/-- Its error. -/
def cntE (s : St) : Int := if goes s = true then 0 else 30
def upE (s : St) : Int := if s.dead then 30 else 0
def atE (s : St) (i : Int) : Int := if s.dead then 30 else if i < 0 ∨ (s.n : Int) ≤ i then 15 else 0
/-- The reading of a block. -/
def rd (s : St) (i : Nat) : Blk := over s.good s.loose i

theorem cnt_loose (s : St) : (cnt s).loose = s.loose := by unfold cnt; repeat' (first | rfl | split)
theorem cnt_good (s : St) : (cnt s).good = s.good := by unfold cnt; repeat' (first | rfl | split)
theorem cnt_n (s : St) : (cnt s).n = s.n := by unfold cnt; repeat' (first | rfl | split)
theorem cnt_fails (s : St) : (cnt s).fails = s.fails := by unfold cnt; repeat' (first | rfl | split)
theorem cnt_dead (s : St) (h : goes s = true) : (cnt s).dead = s.dead := by
  unfold goes at h
  unfold cnt
  split
  · rename_i hf
    split
    · rename_i h0; rw [hf, h0] at h; simp at h
    · rfl
  · rfl
theorem cnt_down (s : St) (h : goes s = false) : cnt s = { s with dead := true } := by
  unfold goes at h
  simp only [Bool.not_eq_eq_eq_not, Bool.not_false, Bool.and_eq_true, beq_iff_eq] at h
  unfold cnt
  rw [if_pos h.1, if_pos h.2]
theorem put_same (g : Nat → Blk) (i : Nat) (b : Blk) : put g i b i = b := if_pos rfl
theorem put_other (g : Nat → Blk) {i j : Nat} (b : Blk) (h : j ≠ i) : put g i b j = g j := if_neg h
theorem over_snoc (g : Nat → Blk) (l : List (Nat × Blk)) (p : Nat × Blk) : over g (l ++ [p]) = put (over g l) p.1 p.2 := by
  unfold over; rw [List.foldl_append]; rfl
theorem front_length (b old : Blk) (k : Nat) (hb : b.length = 256) (ho : old.length = 256) : (front b old k).length = 256 := by
  unfold front; rw [List.length_append, List.length_take, List.length_drop]; omega
theorem front_all (b old : Blk) (hb : b.length = 256) (ho : old.length = 256) : front b old 256 = b := by
  unfold front; rw [List.take_of_length_le (by omega), List.drop_of_length_le (by omega), List.append_nil]
theorem size_le (c : UInt8) : size c ≤ 256 := by
  unfold size; have := c.toNat_lt; split <;> omega
theorem lay_length (g : Nat → Blk) (p : Nat × Blk) (k : Nat) (hg : ∀ i, (g i).length = 256) (hp : p.2.length = 256) : ∀ i, (lay g p k i).length = 256 := by
  intro i
  unfold lay put
  split
  · exact front_length _ _ _ hp (hg _)
  · exact hg i
theorem over_length (g : Nat → Blk) : ∀ (l : List (Nat × Blk)), (∀ i, (g i).length = 256) → (∀ p ∈ l, p.2.length = 256) → ∀ i, (over g l i).length = 256 := by
  intro l
  induction l generalizing g with
  | nil => intro hg _ i; exact hg i
  | cons p l ih =>
    intro hg hl i
    show (over (put g p.1 p.2) l i).length = 256
    refine ih _ (fun j => ?_) (fun q hq => hl q (List.mem_cons_of_mem _ hq)) i
    unfold put
    split
    · exact hl p (by simp)
    · exact hg j
theorem crash_snoc (g : Nat → Blk) (l : List (Nat × Blk)) (f : List UInt8) (k : Nat) (p : Nat × Blk) (c : UInt8) (hp : l[k]? = some p) (hc : f[k]? = some c) : crash g (l.take (k + 1)) (f.take (k + 1)) = lay (crash g (l.take k) (f.take k)) p (size c) := by
  unfold crash
  have hl := (List.getElem?_eq_some_iff.1 hp).1
  have hf := (List.getElem?_eq_some_iff.1 hc).1
  have e : (l.take (k + 1)).zip (f.take (k + 1)) = (l.take k).zip (f.take k) ++ [(p, c)] := by
    rw [List.take_succ_eq_append_getElem hl, List.take_succ_eq_append_getElem hf, List.zip_append (by rw [List.length_take, List.length_take]; omega)]
    rw [(List.getElem?_eq_some_iff.1 hp).2, (List.getElem?_eq_some_iff.1 hc).2]
    rfl
  rw [e, List.foldl_append]
  rfl
theorem crash_length (g : Nat → Blk) (l : List (Nat × Blk)) (f : List UInt8) (hg : ∀ i, (g i).length = 256) (hl : ∀ p ∈ l, p.2.length = 256) : ∀ i, (crash g l f i).length = 256 := by
  unfold crash
  induction l generalizing g f with
  | nil => intro i; exact hg i
  | cons p l ih =>
    cases f with
    | nil => intro i; exact hg i
    | cons c f =>
      intro i
      exact ih _ f (lay_length g p _ hg (hl p (by simp))) (fun q hq => hl q (List.mem_cons_of_mem _ hq)) i
theorem crash_cut (g : Nat → Blk) (l : List (Nat × Blk)) (f : List UInt8) (k : Nat) (hk : k = min f.length l.length) : crash g (l.take k) (f.take k) = crash g l f := by
  unfold crash
  congr 1
  subst hk
  show List.zipWith Prod.mk _ _ = List.zipWith Prod.mk _ _
  rw [← List.take_zipWith, List.take_of_length_le (by rw [List.length_zipWith]; omega)]
theorem over_take (g : Nat → Blk) (l : List (Nat × Blk)) (k : Nat) (p : Nat × Blk) (hp : l[k]? = some p) (hg : ∀ i, (g i).length = 256) (hl : ∀ p ∈ l, p.2.length = 256) : over g (l.take (k + 1)) = lay (over g (l.take k)) p 256 := by
  have hk := (List.getElem?_eq_some_iff.1 hp).1
  rw [List.take_succ_eq_append_getElem hk, (List.getElem?_eq_some_iff.1 hp).2, over_snoc]
  unfold lay
  rw [front_all _ _ (hl p (List.mem_of_getElem? hp)) (over_length g _ hg (fun q hq => hl q (List.mem_of_mem_take hq)) _)]
end Dk
end Go.Proofs.Ytnhegnncmjmafaa
