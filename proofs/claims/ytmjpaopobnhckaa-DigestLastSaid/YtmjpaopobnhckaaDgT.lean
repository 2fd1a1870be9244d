/-
  The document's own digest of bytes, in the midst: where the reader and the digest lie.
-/
import Derived.Test.YtmjpaopobnhckaaDgR
import Derived.Test.YtmjpaopobnhckaaDgP
import Derived.Test.YtmjpaopobnhckaaRefN
import Derived.Test.YtmjpaopobnhckaaRfE
import Derived.Deep.MidRow
namespace Go.Proofs.Ytmjpaopobnhckaa
open Go.RowKit Go.BigFrame
set_option linter.unusedVariables false
set_option linter.unusedSimpArgs false

namespace Dg
theorem rkey_left (s : RS) : (rkey s).1.1.length ≤ s.1.length := Nat.le_trans (tk_left 32 (rnum 8 s).1) (rnum_left 8 s)
theorem rkeys_left (n : Nat) (s : RS) : (rkeys n s).1.1.length ≤ s.1.length := by
  induction n with
  | zero => exact Nat.le_refl _
  | succ n ih => exact Nat.le_trans (rkey_left _) ih
theorem rhs_left (n : Nat) (s : RS) : (rhs n s).1.1.length ≤ s.1.length := by
  induction n with
  | zero => exact Nat.le_refl _
  | succ n ih => exact Nat.le_trans (tk_left 32 _) ih
end Dg
/-- A reader's cells. -/
def RVc (s : RS) : Array Value := #[.string (strOf s.1), .int .i64 s.2]
theorem RVc_one (s : RS) : (RVc s).all (·.oneCell') = true := by simp [RVc, Value.oneCell']
theorem size_RVc (s : RS) : (Try.prog.info? 76).map (·.size) = some (RVc s).size := size_R
theorem num_read (n : Nat) (s : RS) (V : World) (hl : s.1.length ≤ 100000000) :
    Calls Try.prog 40 #[.agg (RVc s), .int .i64 (n : Int)] V fun e w' => e = .returned (.tuple #[.agg (RVc (rnum n s).1), .int .u64 (rnum n s).2]) ∧ Keeps (fun _ => False) V w' :=
  (refReadNum_any (n : Int) s V hl).mono (fun _ _ h => ⟨h.1, Below.still h.2⟩)
theorem raw_read (s : RS) (V : World) (hl : s.1.length ≤ 100000000) :
    Calls Try.prog 41 #[.agg (RVc s), .int .i64 32] V fun e w' => e = .returned (.tuple #[.agg (RVc (rhash s).1), .string (strOf (tk 32 s).2)]) ∧ Keeps (fun _ => False) V w' :=
  (refRaw_any 32 s V hl).mono (fun _ _ h => ⟨h.1, Below.still h.2⟩)
theorem hash_read (s : RS) (V : World) :
    Calls Try.prog 42 #[.string (strOf (tk 32 s).2)] V fun e w' => e = .returned (.agg (bvs (rhash s).2).toArray) ∧ Keeps (fun _ => False) V w' := by
  have h1 : (tk 32 s).2.length ≤ 32 := by rcases tk_full 32 s with h | h <;> rw [h] <;> simp
  have h2 : hashOf (tk 32 s).2 = (rhash s).2 := by
    unfold hashOf
    show _ = (if (tk 32 s).2.length = 32 then (tk 32 s).2 else List.replicate 32 0)
    rcases tk_full 32 s with h | h
    · rw [if_pos h, h]; simp
    · rw [h]; simp
  have := refHash_any (tk 32 s).2 V h1
  rwa [h2] at this
theorem end_read (s : RS) (V : World) :
    Calls Try.prog 43 #[.agg (RVc s)] V fun e w' => e = .returned (.int .i64 (rend s)) ∧ Keeps (fun _ => False) V w' :=
  (refEnd_any s V).mono (fun _ _ h => ⟨h.1, Below.still h.2⟩)
theorem Row.setCells {g : Nat} {t : TypeId} (vs : List Value) : ∀ (w : World) (pre ys : List Value) (o : Nat), Row w g t (pre ++ ys) → pre.length = o → ys.length = vs.length → Row (w.setCells g o vs) g t (pre ++ vs) := by
  induction vs with
  | nil => intro w pre ys o h ho hy; rw [List.eq_nil_of_length_eq_zero hy] at h; exact h
  | cons v vs ih =>
    intro w pre ys o h ho hy
    match ys, hy with
    | y :: ys, hy =>
      have h1 := h.set o v
      rw [show (pre ++ y :: ys).set o v = (pre ++ [v]) ++ ys by rw [List.set_append_right _ _ (by omega), ho, Nat.sub_self]; simp] at h1
      have h2 := ih (w.setCell ⟨g, o, none⟩ v) (pre ++ [v]) ys (o + 1) h1 (by simp [ho]) (by simpa using hy)
      rw [List.append_assoc] at h2
      exact h2
theorem there_row {w : World} {g : Nat} {t : TypeId} {xs : List Value} (h : Row w g t xs) (o n : Nat) (hn : o + n ≤ xs.length) : w.there g o n := fun j hj => by
  refine ⟨?_, h.frozen (o + j)⟩
  rw [h.cell, List.getElem?_eq_getElem (by omega)]
  simp
/-- The reader in a state s at b3, the digest that grows at b2; its rows hold ks and fs. -/
structure Gk (W0 W : World) (B b2 b3 : Nat) (s : RS) (K F : Value) (ks : List Ft.Key) (fs : List (List UInt8)) : Prop where
  r : W.heap[b3]? = some (.cells (RVc s) 76 (0, 0))
  d : Row W b2 28 [K, F]
  k : W.ownsRow B 54 33 K ks.length (flt kcs ks)
  f : W.ownsRow B 52 32 F fs.length (flt bvs fs)
  keep : Keeps (fun j => j = b2 ∨ j = b3 ∨ B ≤ j) W0 W
  lt : b2 < b3 ∧ b3 < B ∧ B ≤ W.heap.size
section
variable {W0 W W' : World} {B b2 b3 : Nat} {s : RS} {K F : Value} {ks : List Ft.Key} {fs : List (List UInt8)}
theorem Gk.side (h : Gk W0 W B b2 b3 s K F ks fs) {S : Nat → Prop} (k : Keeps S W W') (hS : ∀ j, S j → B ≤ j ∧ K.ownBlock ≠ some j ∧ F.ownBlock ≠ some j) : Gk W0 W' B b2 b3 s K F ks fs := by
  obtain ⟨h1, h2, h3⟩ := h.lt
  refine ⟨(k.block b3 (Array.getElem?_eq_some_iff.1 h.r).1 (fun e => by have := (hS _ e).1; omega)).trans h.r, h.d.keeps k (fun e => by have := (hS _ e).1; omega), k.owns h.k (fun b hb e => (hS _ e).2.1 hb), k.owns h.f (fun b hb e => (hS _ e).2.2 hb),
    h.keep.trans (k.mono (fun j _ e => .inr (.inr (hS _ e).1))), h1, h2, Nat.le_trans h3 k.size⟩
theorem Gk.later (h : Gk W0 W B b2 b3 s K F ks fs) (k : Keeps (fun _ => False) W W') : Gk W0 W' B b2 b3 s K F ks fs := h.side k (fun _ e => e.elim)
theorem Gk.own (h : Gk W0 W B b2 b3 s K F ks fs) (j : Nat) : (K.ownBlock = some j ∨ F.ownBlock = some j) → B ≤ j ∧ j < W.heap.size := by
  rintro (e | e)
  · obtain ⟨cur, hg, hb⟩ := own_block h.k j e; exact ⟨hb, (Array.getElem?_eq_some_iff.1 hg).1⟩
  · obtain ⟨cur, hg, hb⟩ := own_block h.f j e; exact ⟨hb, (Array.getElem?_eq_some_iff.1 hg).1⟩
theorem Gk.put (h : Gk W0 W B b2 b3 s K F ks fs) (s' : RS) : Gk W0 (W.setRow b3 (RVc s')) B b2 b3 s' K F ks fs := by
  obtain ⟨h1, h2, h3⟩ := h.lt
  have k : Keeps (fun j => j = b3) W (W.setRow b3 (RVc s')) := Keeps.setRow _ _
  have ho := fun j e => (h.own j e).1
  refine ⟨setRow_heap _ _ _ _ _ _ h.r, h.d.keeps k (by omega), k.owns h.k (fun b hb e => by have := ho b (.inl hb); omega), k.owns h.f (fun b hb e => by have := ho b (.inr hb); omega),
    h.keep.trans (k.mono (fun j _ e => .inr (.inl e))), h1, h2, Nat.le_trans h3 k.size⟩
theorem Gk.grownK (h : Gk W0 W B b2 b3 s K F ks fs) {o : Obj} (hg : (W.alloc o).grownBy W' K.ownBlock) : Row W' b2 28 [K, F] := by
  obtain ⟨h1, h2, h3⟩ := h.lt
  have g1 := h.later (W' := W.alloc o) ((Keeps.refl _ _).alloc _)
  have k2 : Keeps (fun j => K.ownBlock = some j) (W.alloc o) W' := (Keeps.refl _ _).grown hg (fun k _ e => e)
  exact g1.d.keeps k2 (fun e => by have := (g1.own _ (.inl e)).1; omega)
theorem Gk.grownF (h : Gk W0 W B b2 b3 s K F ks fs) (hg : W.grownBy W' F.ownBlock) : Row W' b2 28 [K, F] := by
  obtain ⟨h1, h2, h3⟩ := h.lt
  have g1 := h
  have k2 : Keeps (fun j => F.ownBlock = some j) W W' := (Keeps.refl _ _).grown hg (fun k _ e => e)
  exact g1.d.keeps k2 (fun e => by have := (g1.own _ (.inr e)).1; omega)
theorem Gk.pushK (h : Gk W0 W B b2 b3 s K F ks fs) {x : Ft.Key} {v : Value} (ho : W'.ownsRow B 54 33 v (ks.length + 1) (flt kcs ks ++ kcs x)) {o : Obj} (hg : (W.alloc o).grownBy W' K.ownBlock) : Gk W0 (W'.setCell ⟨b2, 0, none⟩ v) B b2 b3 s v F (ks ++ [x]) fs := by
  obtain ⟨h1, h2, h3⟩ := h.lt
  have k1 : Keeps (fun _ => False) W (W.alloc o) := (Keeps.refl _ _).alloc _
  have g1 := h.later k1
  have k2 : Keeps (fun j => K.ownBlock = some j) (W.alloc o) W' := (Keeps.refl _ _).grown hg (fun k _ e => e)
  have k3 : Keeps (fun j => j = b2) W' (W'.setCell ⟨b2, 0, none⟩ v) := (Keeps.refl (fun j => j = b2) W').setCell (p := ⟨b2, 0, none⟩) (fun _ => rfl) _
  have hbK := fun j e => (g1.own j (.inl e)).1
  have hbF := fun j e => (g1.own j (.inr e)).1
  have r2 := (k2.block b3 (Array.getElem?_eq_some_iff.1 g1.r).1 (fun e => by have := hbK _ e; omega)).trans g1.r
  have d2 := g1.d.keeps k2 (fun e => by have := hbK _ e; omega)
  have f2 : W'.ownsRow B 52 32 F fs.length (flt bvs fs) := k2.owns g1.f (fun b hb e => by
    obtain ⟨c1, e1, _⟩ := own_block g1.f b hb
    obtain ⟨c2, e2, _⟩ := own_block g1.k b e
    rw [e1] at e2
    injection e2 with e2
    injection e2 with _ e2
    exact absurd e2 (by decide))
  refine ⟨(k3.block b3 (Array.getElem?_eq_some_iff.1 r2).1 (by omega)).trans r2, d2.set 0 v, ?_, k3.owns f2 (fun b hb e => by have := hbF _ hb; omega), ((g1.keep.trans (k2.mono (fun j _ e => .inr (.inr (hbK _ e))))).trans (k3.mono (fun j _ e => .inl e))), h1, h2, Nat.le_trans (Nat.le_trans g1.lt.2.2 k2.size) k3.size⟩
  rw [List.length_append, List.length_singleton, ← flt_snoc]
  exact k3.owns ho (fun b hb e => by obtain ⟨_, _, hb2⟩ := own_block ho b hb; omega)
theorem Gk.pushF (h : Gk W0 W B b2 b3 s K F ks fs) {x : List UInt8} {v : Value} (ho : W'.ownsRow B 52 32 v (fs.length + 1) (flt bvs fs ++ bvs x)) (hg : W.grownBy W' F.ownBlock) : Gk W0 (W'.setCell ⟨b2, 1, none⟩ v) B b2 b3 s K v ks (fs ++ [x]) := by
  obtain ⟨h1, h2, h3⟩ := h.lt
  have g1 := h
  have k2 : Keeps (fun j => F.ownBlock = some j) W W' := (Keeps.refl _ _).grown hg (fun k _ e => e)
  have k3 : Keeps (fun j => j = b2) W' (W'.setCell ⟨b2, 1, none⟩ v) := (Keeps.refl (fun j => j = b2) W').setCell (p := ⟨b2, 1, none⟩) (fun _ => rfl) _
  have hbK := fun j e => (g1.own j (.inl e)).1
  have hbF := fun j e => (g1.own j (.inr e)).1
  have r2 := (k2.block b3 (Array.getElem?_eq_some_iff.1 g1.r).1 (fun e => by have := hbF _ e; omega)).trans g1.r
  have d2 := g1.d.keeps k2 (fun e => by have := hbF _ e; omega)
  have f2 : W'.ownsRow B 54 33 K ks.length (flt kcs ks) := k2.owns g1.k (fun b hb e => by
    obtain ⟨c1, e1, _⟩ := own_block g1.k b hb
    obtain ⟨c2, e2, _⟩ := own_block g1.f b e
    rw [e1] at e2
    injection e2 with e2
    injection e2 with _ e2
    exact absurd e2 (by decide))
  refine ⟨(k3.block b3 (Array.getElem?_eq_some_iff.1 r2).1 (by omega)).trans r2, d2.set 1 v, k3.owns f2 (fun b hb e => by have := hbK _ hb; omega), ?_, ((g1.keep.trans (k2.mono (fun j _ e => .inr (.inr (hbF _ e))))).trans (k3.mono (fun j _ e => .inl e))), h1, h2, Nat.le_trans (Nat.le_trans g1.lt.2.2 k2.size) k3.size⟩
  rw [List.length_append, List.length_singleton, ← flt_snoc]
  exact k3.owns ho (fun b hb e => by obtain ⟨_, _, hb2⟩ := own_block ho b hb; omega)
end
end Go.Proofs.Ytmjpaopobnhckaa
