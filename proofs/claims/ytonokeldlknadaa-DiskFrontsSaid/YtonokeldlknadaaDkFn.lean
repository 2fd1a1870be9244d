/-
  The law DiskFronts walked: behind a crash each block is a front of what was loose over what was for good. WRITTEN BY wip/gen/mkdkfn.py.
-/
import Derived.Test.YtonokeldlknadaaDkI
import Derived.Test.YtonokeldlknadaaDkRb
import Derived.Test.YtonokeldlknadaaDkRe
import Derived.Test.YtonokeldlknadaaRowU
import Derived.Test.YtonokeldlknadaaDkTw
namespace Go.Proofs.Ytonokeldlknadaa
open Go.RowKit Go.BigFrame
set_option linter.unusedVariables false

namespace Dk
/-- These bytes are the first i blocks of f. -/
def M1 (wl : List UInt8) (i : Nat) (f : Nat → Blk) : Prop := ∀ i', i' < i → ∀ j, j < 256 → wl[256 * i' + j]? = (f i')[j]?
/-- The same, with the first k bytes of block i' = q turned. -/
def M2 (wl : List UInt8) (n : Nat) (f : Nat → Blk) (q : Nat) (x : UInt8) (k : Nat) : Prop := ∀ i', i' < n → ∀ j, j < 256 → wl[256 * i' + j]? = if i' = q ∧ j < k then some x else (f i')[j]?
theorem m2_start {wl : List UInt8} {n : Nat} {f : Nat → Blk} (h : M1 wl n f) (q : Nat) (x : UInt8) : M2 wl n f q x 0 := fun i' hi j hj => by
  rw [if_neg (by omega)]
  exact h i' hi j hj
theorem m2_step {wl : List UInt8} {n : Nat} {f : Nat → Blk} {q : Nat} {x : UInt8} {k : Nat} (h : M2 wl n f q x k) (hq : q < n) (hk : k < 256) (p : Nat) (hp : p = 256 * q + k) (hl : p < wl.length) : M2 (wl.set p x) n f q x (k + 1) := by
  intro i' hi j hj
  rw [List.getElem?_set]
  by_cases he : p = 256 * i' + j
  · rw [if_pos he, if_pos hl, if_pos (by omega)]
  · rw [if_neg he, h i' hi j hj]
    by_cases hc : i' = q ∧ j < k
    · rw [if_pos hc, if_pos (by omega)]
    · rw [if_neg hc, if_neg (by omega)]
theorem front_get (b old : Blk) (k j : Nat) (hb : b.length = 256) (hk : k ≤ 256) (hj : j < 256) : (front b old k)[j]? = if j < k then b[j]? else old[j]? := by
  unfold front
  by_cases h : j < k
  · rw [if_pos h, List.getElem?_append_left (by rw [List.length_take]; omega), List.getElem?_take, if_pos h]
  · rw [if_neg h, List.getElem?_append_right (by rw [List.length_take]; omega), List.length_take, List.getElem?_drop]
    congr 1
    omega
theorem m2_end {wl : List UInt8} {n : Nat} {f : Nat → Blk} {q : Nat} {x : UInt8} {k : Nat} (h : M2 wl n f q x k) (b : Blk) (hx : ∀ j, j < 256 → b[j]? = some x) (hb : b.length = 256) (hk : k ≤ 256) (hf : ∀ i, (f i).length = 256) : M1 wl n (lay f (q, b) k) := by
  intro i' hi j hj
  rw [h i' hi j hj]
  unfold lay
  by_cases hq : i' = q
  · subst hq
    rw [put_same, front_get _ _ _ _ hb hk hj]
    by_cases hjk : j < k
    · rw [if_pos ⟨rfl, hjk⟩, if_pos hjk, hx j hj]
    · rw [if_neg (fun hc => hjk hc.2), if_neg hjk]
  · rw [if_neg (fun hc => hq hc.1), put_other _ _ hq]
theorem zip_short {α β : Type} : ∀ (l : List α) (f : List β) (p : α), f.length ≤ l.length → (l ++ [p]).zip f = l.zip f
  | [], [], p, _ => rfl
  | [], _ :: _, p, h => by simp at h
  | a :: l, [], p, _ => by simp
  | a :: l, c :: f, p, h => by rw [List.cons_append, List.zip_cons_cons, List.zip_cons_cons, zip_short l f p (by simpa using h)]
theorem zip_take {α β : Type} : ∀ (l : List α) (f : List β), l.zip (f.take l.length) = l.zip f
  | [], f => by simp
  | a :: l, [] => by simp
  | a :: l, c :: f => by rw [List.length_cons, List.take_succ_cons, List.zip_cons_cons, List.zip_cons_cons, zip_take l f]
/-- What a write more, and its front, come to. -/
theorem crash_more (G : Nat → Blk) (l : List (Nat × Blk)) (fr : List UInt8) (p : Nat × Blk) (k : Nat) (hk : k = if h : l.length < fr.length then size (fr[l.length]) else 0) (hG : ∀ i, (G i).length = 256) (hl : ∀ p ∈ l, p.2.length = 256) :
    crash G (l ++ [p]) (fr.take (l.length + 1)) = lay (crash G l (fr.take l.length)) p k := by
  subst hk
  by_cases h : l.length < fr.length
  · rw [dif_pos h]
    unfold crash
    rw [List.take_succ_eq_append_getElem h, List.zip_append (by rw [List.length_take]; omega), List.foldl_append]
    rfl
  · rw [dif_neg h]
    have e1 : fr.take (l.length + 1) = fr.take l.length := by rw [List.take_of_length_le (by omega), List.take_of_length_le (by omega)]
    have e2 : (l ++ [p]).zip (fr.take l.length) = l.zip (fr.take l.length) := zip_short _ _ _ (by rw [List.length_take]; omega)
    unfold crash
    rw [e1, e2]
    funext j
    unfold lay put
    split
    · rename_i hj
      subst hj
      unfold front
      simp
    · rfl
end Dk
namespace Dk
/-- So many blocks, and a part of the next one. -/
def N1 (wl : List UInt8) (i : Nat) (f : Nat → Blk) (c : UInt8) (k : Nat) : Prop := M1 wl i f ∧ ∀ j, j < k → wl[256 * i + j]? = some c
theorem n1_step {wl : List UInt8} {i : Nat} {f : Nat → Blk} {c : UInt8} {k : Nat} (h : N1 wl i f c k) (p : Nat) (hp : p = 256 * i + k) (hl : p < wl.length) : N1 (wl.set p c) i f c (k + 1) := by
  refine ⟨fun i' hi j hj => ?_, fun j hj => ?_⟩
  · rw [List.getElem?_set, if_neg (by omega)]
    exact h.1 i' hi j hj
  · rw [List.getElem?_set]
    by_cases he : p = 256 * i + j
    · rw [if_pos he, if_pos hl]
    · rw [if_neg he]
      exact h.2 j (by omega)
theorem n1_end {wl : List UInt8} {i : Nat} {f : Nat → Blk} {c : UInt8} (h : N1 wl i f c 256) : M1 wl (i + 1) (put f i (fill [c])) := by
  intro i' hi j hj
  by_cases he : i' = i
  · subst he
    rw [put_same, fill_one c j hj]
    exact h.2 j hj
  · rw [put_other _ _ he]
    exact h.1 i' (by omega) j hj
end Dk
theorem at_facts (cb : UInt8) (n : Nat) (h1 : 1 ≤ n) (h8 : n ≤ 8) : ∃ q : Nat, q < n ∧ wrap64 (cb.toNat : Int) = (cb.toNat : Int) ∧ (cb.toNat : Int) % (n : Int) = (q : Int) ∧ (cb.toNat : Int).tmod (n : Int) = (q : Int) ∧ IntKind.i64.wrap (q : Int) = (q : Int) := by
  have hc := cb.toNat_lt
  have hc1 : wrap64 (cb.toNat : Int) = (cb.toNat : Int) := IntWalk.wrap64_in _ (by omega)
  obtain ⟨q, a1, a2, a3, _⟩ := rest_of (cb.toNat : Int) n (by omega) (by omega) (by omega)
  refine ⟨q, a3, hc1, a1, a2, ?_⟩
  clear a1 a2 hc1 hc
  exact IntWalk.i64_in _ (by omega)
theorem byte_facts (i : Nat) (h : i < 256) : IntKind.u8.wrap (i : Int) = (i : Int) ∧ (i : Int) % 256 = (i : Int) := ⟨wraps_u8 _ (by omega) (by show (i : Int) < 256; omega), by omega⟩
theorem mid_facts (i n NN : Nat) (hn : 256 * n = NN) (hn8 : n ≤ 8) (hi : i < n) :
    ∃ m m2 : Nat, m = 256 * i ∧ m2 = m + 256 ∧ m2 ≤ NN ∧ IntKind.i64.wrap (256 * (i : Int)) = (m : Int) ∧ IntKind.i64.wrap ((m : Int) + 256) = (m2 : Int) := by
  have h1 : IntKind.i64.wrap (256 * (i : Int)) = 256 * (i : Int) := IntWalk.i64_in _ (by omega)
  have h2 : IntKind.i64.wrap (((256 * i : Nat) : Int) + 256) = ((256 * i : Nat) : Int) + 256 := IntWalk.i64_in _ (by omega)
  exact ⟨256 * i, 256 * i + 256, rfl, rfl, by omega, by rw [h1]; omega, by rw [h2]; omega⟩
theorem byte_wrap (c : UInt8) : wrap64 (c.toNat : Int) = (c.toNat : Int) := by
  have hc := c.toNat_lt
  exact IntWalk.wrap64_in _ (by omega)
theorem kk_facts (db : UInt8) (h : ¬ db.toNat = 255) : ∃ kk : Nat, db.toNat = kk ∧ kk ≤ 256 ∧ ((kk : Int) == 255) = false ∧ (∀ j, j < kk → j < 256) := by
  have hc := db.toNat_lt
  exact ⟨_, rfl, by omega, by rw [beq_eq_false_iff_ne]; omega, fun j hj => by omega⟩
theorem mul_facts (n NN : Nat) (hn : 256 * n = NN) (hn8 : n ≤ 8) : wrap64 (256 * (n : Int)) = (NN : Int) ∧ 256 * (n : Int) = (NN : Int) := by
  have h1 : wrap64 (256 * (n : Int)) = 256 * (n : Int) := IntWalk.wrap64_in _ (by omega)
  exact ⟨by rw [h1]; omega, by omega⟩
theorem idx_facts (i n j NN : Nat) (hn : 256 * n = NN) (hn8 : n ≤ 8) (hi : i < n) (hj : j < 256) :
    ∃ m p : Nat, p = 256 * i + j ∧ p < NN ∧ wrap64 (256 * (i : Int)) = (m : Int) ∧ 256 * (i : Int) = (m : Int) ∧ wrap64 ((m : Int) + (j : Int)) = (p : Int) ∧ (m : Int) + (j : Int) = (p : Int) ∧ (p : Int) < (NN : Int) := by
  have h1 : wrap64 (256 * (i : Int)) = 256 * (i : Int) := IntWalk.wrap64_in _ (by omega)
  have h2 : wrap64 (((256 * i : Nat) : Int) + (j : Int)) = ((256 * i : Nat) : Int) + (j : Int) := IntWalk.wrap64_in _ (by omega)
  refine ⟨256 * i, 256 * i + j, rfl, by omega, by rw [h1]; omega, by omega, by rw [h2]; omega, by omega, by omega⟩
theorem slice_mid (V : World) (X NN m m2 : Nat) (h : m2 = m + 256) (h2 : m2 ≤ NN) : (Instr.sliceAt 34 (.slice (some ⟨X, 0, none⟩) NN NN) (some (.int .i64 (m : Int))) (some (.int .i64 (m2 : Int))) none).run Try.prog V = .ok (.slice (some ⟨X, m, none⟩) 256 (NN - m)) V := by
  have hu : Try.prog.underlying 34 = some (.slice (Try.prog.elem 34)) := by kernel_rfl
  have hs : ∀ V : World, (sizeOf (Try.prog.elem 34)).run Try.prog V = .ok 1 V := fun V => by kernel_rfl
  have hne : ¬ NN = m := by omega
  have hsub : m2 - m = 256 := by omega
  rw [run_sliceAt_slice V 34 _ _ _ _ hu, run_slice_lh (P := Try.prog) V 34 (some ⟨X, 0, none⟩) NN NN hu .i64 .i64 (m : Int) (m2 : Int) (by omega) (by omega) (by omega), hs]
  simp only [Result.andThen, sliced, Int.toNat_natCast, if_neg hne, Option.map_some, add_plain, Nat.mul_one, Nat.zero_add, hsub]
set_option maxRecDepth 100000 in
set_option maxHeartbeats 1000000 in
theorem dfronts_skip (A : Option Addr) (len c : Nat) (A2 : Option Addr) (len2 c2 : Nat) (A3 : Option Addr) (len3 c3 : Nat) (W : World) (hlen : len = 0 ∨ 8 < len ∨ 20 < len2) (hmax : len ≤ 9223372036854775807) (hmax2 : len2 ≤ 9223372036854775807) :
    Calls Try.prog 4 #[.slice A len c, .slice A2 len2 c2, .slice A3 len3 c3] W fun e W' => e = .returned (.bool true) ∧ Below W.heap.size W W' := by
  have haw := awake11_any W
  have HAW := Lib.hid haw
  clear haw
  by_cases h0 : len = 0
  · subst h0
    go_enter Try.func4, Try.ntmps4
    go_wp2_with fail
    refine HAW.out.mono ?_
    rintro e w3 ⟨rfl, k3⟩
    go_wp2
    go_ret
    exact ⟨rfl, keeps_belowD k3⟩
  have hn0 : ((len : Int) == 0) = false := by rw [beq_eq_false_iff_ne]; omega
  by_cases h20 : 8 < len
  · have hl2 : (len : Int) > 8 := by omega
    go_enter Try.func4, Try.ntmps4
    go_wp2_with fail
    refine HAW.out.mono ?_
    rintro e w3 ⟨rfl, k3⟩
    go_wp2
    go_ret
    exact ⟨rfl, keeps_belowD k3⟩
  · have hl2 : ¬ (len : Int) > 8 := by omega
    have hl3 : (len2 : Int) > 20 := by omega
    go_enter Try.func4, Try.ntmps4
    go_wp2_with fail
    refine HAW.out.mono ?_
    rintro e w3 ⟨rfl, k3⟩
    go_wp2
    go_ret
    exact ⟨rfl, keeps_belowD k3⟩
set_option maxRecDepth 100000 in
set_option maxHeartbeats 8000000 in
theorem dfronts_few (A : Option Addr) (c : Nat) (xs : List UInt8) (n : Nat) (hxl : xs.length = n) (A2 : Option Addr) (c2 : Nat) (ys : List UInt8) (len2 : Nat) (hyl : ys.length = len2) (A3 : Option Addr) (c3 : Nat) (fr : List UInt8) (len3 : Nat) (hzl : fr.length = len3) (W : World) (hS : Src W A (bvs xs)) (hS2 : Src W A2 (bvs ys)) (hS3 : Src W A3 (bvs fr)) (hn1 : 1 ≤ n) (hn8 : n ≤ 8) (hlen2 : len2 ≤ 20) (hmax : len3 ≤ 9223372036854775807)
    (hb3 : ∀ a, A3 = some a → 0 < fr.length → a.block < W.heap.size) :
    Calls Try.prog 4 #[.slice A n c, .slice A2 len2 c2, .slice A3 len3 c3] W fun e W' => e = .returned (.bool true) ∧ Below W.heap.size W W' := by
  have haw := awake11_any W
  have HAW := Lib.hid haw
  have HS := Lib.hid hS
  have HS2 := Lib.hid hS2
  have HS3 := Lib.hid hS3
  have HXL := Lib.hid hxl
  have HYL := Lib.hid hyl
  have HZL := Lib.hid hzl
  have HLM := Lib.hid (And.intro hmax hb3)
  have hn0 : ((n : Int) == 0) = false := by rw [beq_eq_false_iff_ne]; omega
  have hl8 : ¬ (n : Int) > 8 := by omega
  have hl20 : ¬ (len2 : Int) > 20 := by omega
  obtain ⟨NN, hNN⟩ : ∃ m, 256 * n = m := ⟨_, rfl⟩
  have hNNl : NN ≤ 2048 := by omega
  obtain ⟨hmul, hmul'⟩ := mul_facts n NN hNN hn8
  obtain ⟨ZN, hZN⟩ : ∃ Z, (bvs (List.replicate NN 0)).toArray = Z := ⟨_, rfl⟩
  have hmk : ∀ V : World, (Instr.makeSlice 34 (.int .i64 (NN : Int)) (.int .i64 (NN : Int))).run Try.prog V = .ok (.slice (some ⟨V.heap.size, 0, none⟩) NN NN) (V.alloc (.cells ZN 5)) := fun V => by rw [← hZN]; exact make_zeros NN (by omega) V
  have HZN := Lib.hid hZN
  have HNN := Lib.hid (And.intro hNN (And.intro hn1 hn8))
  clear haw hS hS2 hS3 hxl hyl hzl hmax hb3 hNN hZN
  go_enter Try.func4, Try.ntmps4
  go_wp2_with fail
  refine HAW.out.mono ?_
  rintro e w0 ⟨rfl, k0⟩
  clear HAW
  have hnew := new_disk n w0 hn1 (by omega)
  have HNEW := Lib.hid hnew
  have K0 := Lib.hid k0
  clear hnew k0
  go_wp2_with fail
  refine HNEW.out.mono ?_
  rintro e w1 ⟨g, rfl, hg, d1, k1⟩
  obtain ⟨w2, hw2⟩ : ∃ V, w1.alloc (.cells ZN 5) = V := ⟨_, rfl⟩
  obtain ⟨X, hX⟩ : ∃ x, w1.heap.size = x := ⟨_, rfl⟩
  have k2 : Keeps (fun _ => False) w1 w2 := by rw [← hw2]; exact (Keeps.refl _ _).alloc _
  have r2 : Row w2 X 5 (bvs (List.replicate NN 0)) := by rw [← hw2, ← hX, ← HZN.out]; exact heap_alloc_new w1 _
  have hXlt := r2.lt
  obtain ⟨F, hFe⟩ : ∃ F : Nat → Prop, (fun k => w0.heap.size ≤ k ∧ k ≠ X) = F := ⟨_, rfl⟩
  have d2 : DskAt w2 F g (Dk.fresh n) := by rw [← hFe]; exact (d1.without (Nat.le_of_eq hX)).later k2
  have HF : Hid (∀ k, w2.heap.size ≤ k → F k) := Lib.hid (fun j hj => by rw [← hFe]; exact ⟨Nat.le_trans (Nat.le_trans k1.size k2.size) hj, by omega⟩)
  have HFX : Hid (¬ F X) := Lib.hid (by rw [← hFe]; exact fun h => h.2 rfl)
  have hX0 : w0.heap.size ≤ X := by have := k1.size; omega
  have HFW : Hid (∀ k, F k → W.heap.size ≤ k) := Lib.hid (fun j hj => by rw [← hFe] at hj; exact Nat.le_trans K0.out.size hj.1)
  have HB : Hid (∀ V, Keeps (fun k => F k ∨ k = X) w2 V → Keeps (fun _ => False) W V) := Lib.hid (fun V hV => ((K0.out.trans k1).trans k2).trans' hV (fun i hi hf => by
    have := K0.out.size
    rcases hf with hf | hf
    · rw [← hFe] at hf; exact absurd hf.1 (by omega)
    · omega))
  have D2 := Lib.hid d2
  have R2 := Lib.hid r2
  clear d1 k1 k2 d2 r2 HNEW hFe HZN K0 hg hX0
  go_wp2_with fail
  go_loopw [12] (fun iv wr => ∃ (i : Nat) (s : Dk.St) (wl : List UInt8), i ≤ n ∧ iv = .int .i64 (i : Int) ∧ Hid (DskAt wr F g s) ∧ Hid (Dk.Plain s n i) ∧ Hid (Row wr X 5 (bvs wl)) ∧ Hid (wl.length = NN) ∧ Hid (Dk.M1 wl i (Dk.rd s)) ∧ Hid (Keeps (fun k => F k ∨ k = X) w2 wr)) (fun iv _ => n - (intOf iv).toNat)
  case atStart => exact ⟨0, _, _, by omega, rfl, D2, Lib.hid ⟨rfl, rfl, rfl, Nat.le_refl _⟩, R2, Lib.hid List.length_replicate, Lib.hid (fun i' hi => by omega), Lib.hid (Keeps.refl _ _)⟩
  case round =>
    clear D2 R2 hmk
    obtain ⟨i, s, wl, hi, rfl, HDS, HPL, HRW, HWL, HM, HKP⟩ := hrel
    by_cases hlt : i < n
    · have hii : (i : Int) < (n : Int) := by omega
      obtain ⟨cb, hcb⟩ : ∃ c, xs[i]? = some c := ⟨_, List.getElem?_eq_getElem (by rw [HXL.out]; exact hlt)⟩
      obtain ⟨aa, haa, _⟩ := HS.out i (bv cb) (by rw [bvs_get, hcb]; rfl)
      subst haa
      have HCB : Hid (∀ V, Keeps (fun k => F k ∨ k = X) wr V → V.cell? (aa.add i) = some (.int .u8 (cb.toNat : Int))) := Lib.hid (fun V hV => (HS.out.keeps (HB.out V (HKP.out.trans hV)) (fun _ _ _ => id)).at_ (by rw [bvs_get, hcb]; rfl))
      have hcr := HCB.out wr (Keeps.refl _ _)
      obtain ⟨W4, hW4⟩ : ∃ V, wr.alloc (.cells #[.int .u8 (cb.toNat : Int)] 5) = V := ⟨_, rfl⟩
      obtain ⟨B4, hB4⟩ : ∃ x, wr.heap.size = x := ⟨_, rfl⟩
      have k4 : Keeps (fun _ => False) wr W4 := by rw [← hW4]; exact (Keeps.refl _ _).alloc _
      have r4 : Row W4 B4 5 (bvs [cb]) := by rw [← hW4, ← hB4]; exact heap_alloc_new wr _
      have hfu := full_any (some ⟨B4, 0, none⟩) 1 [cb] false 256 rfl W4 r4.src (by simp)
      have HFU : Hid (Calls Try.prog 12 #[.slice (some ⟨B4, 0, none⟩) 1 1, .bool false] W4 fun e w' => e = .returned (.slice (some ⟨W4.heap.size, 0, none⟩) 256 256) ∧ Row w' W4.heap.size 5 (bvs (Dk.fill [cb])) ∧ Keeps (fun _ => False) W4 w') := Lib.hid hfu
      have K4 := Lib.hid k4
      clear hfu k4 r4 hcb
      go_wp2_with fail
      refine HFU.out.mono ?_
      rintro e w5 ⟨rfl, r5, k5⟩
      obtain ⟨hw1, _, hw3, hw4⟩ := Dk.plain_write HPL.out i hlt (Dk.fill [cb])
      have hwr := write_any wr F g s HDS.out (fun k hk => HF.out k (Nat.le_trans HKP.out.size hk)) w5 (K4.out.trans k5) W4.heap.size 256 5 (Dk.fill [cb]) K4.out.size r5 (i : Int) 256 (Dk.fill_length _) (Nat.le_trans HPL.out.2.2.2 (by omega))
      rw [hw1] at hwr
      obtain ⟨s4, hs4⟩ : ∃ s4, Dk.wr s (i : Int) 256 (Dk.fill [cb]) = s4 := ⟨_, rfl⟩
      rw [hs4] at hwr hw3 hw4
      have HWR := Lib.hid hwr
      have HR5 : Hid (Row w5 X 5 (bvs wl)) := Lib.hid (HRW.out.keeps (K4.out.trans k5) id)
      have K5 : Hid (Keeps (fun k => F k ∨ k = X) wr w5) := Lib.hid ((K4.out.trans k5).mono (fun _ _ h => h.elim))
      have HP4 := Lib.hid hw3
      have HL4 := Lib.hid hw4
      clear hwr hw1 hw3 hw4 r5 k5 HFU K4 HDS HPL HRW hs4 hcr hW4 hB4
      go_wp2_with fail
      refine HWR.out.mono ?_
      rintro e w6 ⟨rfl, d6, k6⟩
      have K6 : Hid (Keeps (fun k => F k ∨ k = X) wr w6) := Lib.hid (K5.out.trans (k6.mono (fun _ _ h => .inl h)))
      have D6 := Lib.hid d6
      have HR6 : Hid (Row w6 X 5 (bvs wl)) := Lib.hid (HR5.out.keeps k6 HFX.out)
      have HCB6 : Hid (∀ V, Keeps (fun k => k = X) w6 V → V.cell? (aa.add i) = some (.int .u8 (cb.toNat : Int))) := Lib.hid (fun V hV => HCB.out V (K6.out.trans (hV.mono (fun _ _ e => .inr e))))
      clear d6 k6 HWR K5 HR5 HCB
      go_wp2_with fail
      go_loopw [14] (fun kv wr => ∃ (k : Nat) (wl' : List UInt8), k ≤ 256 ∧ kv = .int .i64 (k : Int) ∧ Hid (Row wr X 5 (bvs wl')) ∧ Hid (wl'.length = NN) ∧ Hid (Dk.N1 wl' i (Dk.rd s) cb k) ∧ Hid (Keeps (fun k => k = X) w6 wr)) (fun kv _ => 256 - (intOf kv).toNat)
      case atStart => exact ⟨0, wl, by omega, rfl, HR6, HWL, Lib.hid ⟨HM.out, fun j hj => by omega⟩, Lib.hid (Keeps.refl _ _)⟩
      case round =>
        obtain ⟨j, wl', hj, rfl, HRJ, HLJ, HMJ, HKJ⟩ := hrel
        by_cases hjk : j < 256
        · have hji : (j : Int) < 256 := by omega
          obtain ⟨m, p, hmp, hpl, e1, e1', e2, e2', hpi⟩ := idx_facts i n j NN HNN.out.1 HNN.out.2.2 hlt hjk
          obtain ⟨old, hold⟩ : ∃ o, wl'[p]? = some o := ⟨_, List.getElem?_eq_getElem (by rw [HLJ.out]; exact hpl)⟩
          have cX : wr.cell? ⟨X, p, none⟩ = some (.int .u8 (old.toNat : Int)) := HRJ.out.byte hold
          have fX : wr.frozen? ⟨X, p, none⟩ = false := HRJ.out.frozen p
          have hcr := HCB6.out wr HKJ.out
          have hst := HRJ.out.set p (bv cb)
          rw [bvs_set] at hst
          have HST : Hid (Row (wr.setCell ⟨X, p, none⟩ (.int .u8 (cb.toNat : Int))) X 5 (bvs (wl'.set p cb))) := Lib.hid hst
          have HMS : Hid (Dk.N1 (wl'.set p cb) i (Dk.rd s) cb (j + 1)) := Lib.hid (Dk.n1_step HMJ.out p hmp (by rw [HLJ.out]; exact hpl))
          have HKS : Hid (Keeps (fun k => k = X) w6 (wr.setCell ⟨X, p, none⟩ (.int .u8 (cb.toNat : Int)))) := Lib.hid (HKJ.out.setCell (p := ⟨X, p, none⟩) (fun _ => rfl) _)
          have HLS : Hid ((wl'.set p cb).length = NN) := Lib.hid (by rw [List.length_set]; exact HLJ.out)
          clear hst hold HRJ HLJ HMJ HKJ hmp hpl
          go_wp2
          go_roundw
          case rel => exact ⟨j + 1, wl'.set p cb, by omega, by go_num, HST, HLS, HMS, HKS⟩
          case measure => simp [intOf]; omega
        · obtain rfl : j = 256 := by omega
          have hji : ¬ ((256 : Nat) : Int) < 256 := by omega
          have NM : Hid (Dk.M1 wl' (i + 1) (Dk.rd s4)) := Lib.hid (by rw [HL4.out]; exact Dk.n1_end HMJ.out)
          have ND : Hid (DskAt wr F g s4) := Lib.hid (D6.out.keeps HKJ.out (fun k _ hf e => HFX.out (by rw [← e]; exact hf)))
          have NK : Hid (Keeps (fun k => F k ∨ k = X) w2 wr) := Lib.hid ((HKP.out.trans K6.out).trans (HKJ.out.mono (fun _ _ e => .inr e)))
          clear HMJ HKJ D6 HKP K6 HL4 HR6 HM HWL
          go_wp2_with fail
          go_roundw
          case rel => exact ⟨i + 1, s4, wl', by omega, by go_num, ND, HP4, HRJ, HLJ, NM, NK⟩
          case measure => simp [intOf]; omega
    · obtain rfl : n = i := by omega
      have hii : ¬ (n : Int) < (n : Int) := by omega
      obtain ⟨hy1, hy2, hy3, hy4⟩ := Dk.plain_sync HPL.out
      have hsy := sync_any wr F g s HDS.out (fun k hk => HF.out k (Nat.le_trans HKP.out.size hk)) (Nat.le_trans HPL.out.2.2.2 (by omega))
      rw [hy1] at hsy
      obtain ⟨s7, hs7⟩ : ∃ s7, Dk.sy s = s7 := ⟨_, rfl⟩
      obtain ⟨G, hG⟩ : ∃ G, s7.good = G := ⟨_, rfl⟩
      have hg7 : s7.loose = [] := by rw [← hs7, hy2]
      have hGr : Dk.rd s = G := by rw [← hG, ← hs7, hy2]; rfl
      rw [hs7] at hsy hy3
      have HSY := Lib.hid hsy
      have HP7 : Hid (Dk.Plain s7 n 0 ∧ s7.loose.length = 0 ∧ s7.good = G) := Lib.hid ⟨⟨hy3.1, hy3.2.1, hy3.2.2.1, by rw [hg7]; exact Nat.le_refl _⟩, by rw [hg7]; rfl, hG⟩
      have HM7 : Hid (Dk.M1 wl n (Dk.crash G s7.loose (fr.take 0))) := Lib.hid (by rw [hg7, ← hGr]; exact HM.out)
      clear hsy hy1 hy2 hy3 hy4 hs7 hg7 hGr hG HM
      go_wp2_with fail
      refine HSY.out.mono ?_
      rintro e w7 ⟨rfl, d7, k7⟩
      have K7 : Hid (Keeps (fun k => F k ∨ k = X) w2 w7) := Lib.hid (HKP.out.trans (k7.mono (fun _ _ h => .inl h)))
      have HR7 : Hid (Row w7 X 5 (bvs wl)) := Lib.hid (HRW.out.keeps k7 HFX.out)
      have HGL : Hid (∀ j, (G j).length = 256) := Lib.hid (by rw [← HP7.out.2.2]; exact d7.ok.good)
      have D7 := Lib.hid d7
      clear d7 k7 HSY HDS HPL HRW HKP
      go_wp2_with fail
      go_loopw [15] (fun iv wr => ∃ (i : Nat) (s : Dk.St) (wl : List UInt8), i ≤ len2 ∧ iv = .int .i64 (i : Int) ∧ Hid (DskAt wr F g s) ∧ Hid (Dk.Plain s n i ∧ s.loose.length = i ∧ s.good = G) ∧ Hid (Row wr X 5 (bvs wl)) ∧ Hid (wl.length = NN) ∧ Hid (Dk.M1 wl n (Dk.crash G s.loose (fr.take i))) ∧ Hid (Keeps (fun k => F k ∨ k = X) w2 wr)) (fun iv _ => len2 - (intOf iv).toNat)
      case atStart => exact ⟨0, s7, wl, by omega, rfl, D7, HP7, HR7, HWL, HM7, K7⟩
      case round =>
        clear D7 HP7 HR7 HWL HM7 K7
        obtain ⟨i, s, wl, hi, rfl, HDS, HPL, HRW, HWL, HM, HKP⟩ := hrel
        by_cases hlt : i < len2
        · have hii : (i : Int) < (len2 : Int) := by omega
          obtain ⟨cb, hcb⟩ : ∃ c, ys[i]? = some c := ⟨_, List.getElem?_eq_getElem (by rw [HYL.out]; exact hlt)⟩
          obtain ⟨aa, haa, _⟩ := HS2.out i (bv cb) (by rw [bvs_get, hcb]; rfl)
          subst haa
          have hcr : wr.cell? (aa.add i) = some (.int .u8 (cb.toNat : Int)) := (HS2.out.keeps (HB.out wr HKP.out) (fun _ _ _ => id)).at_ (by rw [bvs_get, hcb]; rfl)
          obtain ⟨q, hq, hcw, hr1, hr2, hr3⟩ := at_facts cb n HNN.out.2.1 HNN.out.2.2
          have hnz : ¬ ((n : Int) = 0) := by have := HNN.out.2.1; omega
          obtain ⟨hi8, hi8'⟩ := byte_facts i (by omega)
          obtain ⟨ib, hib⟩ : ∃ c, UInt8.ofNat i = c := ⟨_, rfl⟩
          have hibn : (ib.toNat : Int) = (i : Int) := by rw [← hib, UInt8.toNat_ofNat_of_lt' (by show i < 256; omega)]
          obtain ⟨W4, hW4⟩ : ∃ V, wr.alloc (.cells #[.int .u8 (i : Int)] 5) = V := ⟨_, rfl⟩
          obtain ⟨B4, hB4⟩ : ∃ x, wr.heap.size = x := ⟨_, rfl⟩
          have k4 : Keeps (fun _ => False) wr W4 := by rw [← hW4]; exact (Keeps.refl _ _).alloc _
          have r4 : Row W4 B4 5 (bvs [ib]) := by
            rw [← hW4, ← hB4]
            show _ = some (Obj.cells #[.int .u8 (ib.toNat : Int)] 5 (0, 0))
            rw [hibn]
            exact heap_alloc_new wr _
          have hfu := full_any (some ⟨B4, 0, none⟩) 1 [ib] false 256 rfl W4 r4.src (by simp)
          have HFU : Hid (Calls Try.prog 12 #[.slice (some ⟨B4, 0, none⟩) 1 1, .bool false] W4 fun e w' => e = .returned (.slice (some ⟨W4.heap.size, 0, none⟩) 256 256) ∧ Row w' W4.heap.size 5 (bvs (Dk.fill [ib])) ∧ Keeps (fun _ => False) W4 w') := Lib.hid hfu
          have K4 := Lib.hid k4
          have HIB := Lib.hid hibn
          have HI8 := Lib.hid hi8
          have HI8' := Lib.hid hi8'
          have HQ := Lib.hid (And.intro hq hr3)
          clear hfu k4 r4 hcb hib hibn hq
          go_wp2_with fail
          refine HFU.out.mono ?_
          rintro e w5 ⟨rfl, r5, k5⟩
          obtain ⟨hw1, hw2', hw3, _⟩ := Dk.plain_write HPL.out.1 q HQ.out.1 (Dk.fill [ib])
          have hwr := write_any wr F g s HDS.out (fun k hk => HF.out k (Nat.le_trans HKP.out.size hk)) w5 (K4.out.trans k5) W4.heap.size 256 5 (Dk.fill [ib]) K4.out.size r5 (q : Int) 256 (Dk.fill_length _) (Nat.le_trans HPL.out.1.2.2.2 (by omega))
          rw [hw1] at hwr
          obtain ⟨s4, hs4⟩ : ∃ s4, Dk.wr s (q : Int) 256 (Dk.fill [ib]) = s4 := ⟨_, rfl⟩
          rw [hs4] at hwr hw3 hw2'
          have HWR := Lib.hid hwr
          have HR5 : Hid (Row w5 X 5 (bvs wl)) := Lib.hid (HRW.out.keeps (K4.out.trans k5) id)
          have K5 : Hid (Keeps (fun k => F k ∨ k = X) wr w5) := Lib.hid ((K4.out.trans k5).mono (fun _ _ h => h.elim))
          have hlo4 : s4.loose = s.loose ++ [(q, Dk.fill [ib])] := by rw [hw2']
          have HP4 : Hid (Dk.Plain s4 n (i + 1) ∧ s4.loose.length = i + 1 ∧ s4.good = G) := Lib.hid ⟨hw3, by rw [hlo4, List.length_append, HPL.out.2.1]; rfl, by rw [hw2']; exact HPL.out.2.2⟩
          have hokl := HDS.out.ok.loose
          obtain ⟨f, hf⟩ : ∃ f, Dk.crash G s.loose (fr.take i) = f := ⟨_, rfl⟩
          have HFL : Hid (∀ j, (f j).length = 256) := Lib.hid (by rw [← hf]; exact Dk.crash_length _ _ _ HGL.out (fun p hp => (hokl p hp).2))
          have HMORE : Hid (∀ k, (k = if h : i < fr.length then Dk.size (fr[i]) else 0) → Dk.crash G s4.loose (fr.take (i + 1)) = Dk.lay f (q, Dk.fill [ib]) k) := Lib.hid (fun k hk => by
            have hl := HPL.out.2.1
            rw [hlo4, ← hf]
            subst hl
            exact Dk.crash_more G s.loose fr (q, Dk.fill [ib]) k hk HGL.out (fun p hp => (hokl p hp).2))
          rw [hf] at HM
          clear hwr hw1 hw2' hw3 r5 k5 HFU K4 HDS HPL HRW hs4 hcr hW4 hB4 hlo4 hokl hf
          go_wp2_with fail
          refine HWR.out.mono ?_
          rintro e w6 ⟨rfl, d6, k6⟩
          have K6 : Hid (Keeps (fun k => F k ∨ k = X) wr w6) := Lib.hid (K5.out.trans (k6.mono (fun _ _ h => .inl h)))
          have D6 := Lib.hid d6
          have HR6 : Hid (Row w6 X 5 (bvs wl)) := Lib.hid (HR5.out.keeps k6 HFX.out)
          clear d6 k6 HWR K5 HR5 hcw hr1 hr2 hr3 hnz hi8 hi8'
          by_cases hfr : i < len3
          · have hfi : (i : Int) < (len3 : Int) := by omega
            obtain ⟨db, hdb⟩ : ∃ c, fr[i]? = some c := ⟨_, List.getElem?_eq_getElem (by rw [HZL.out]; exact hfr)⟩
            obtain ⟨af, haf, _⟩ := HS3.out i (bv db) (by rw [bvs_get, hdb]; rfl)
            subst haf
            have hdr : w6.cell? (af.add i) = some (.int .u8 (db.toNat : Int)) := (HS3.out.keeps (HB.out w6 (HKP.out.trans K6.out)) (fun _ _ _ => id)).at_ (by rw [bvs_get, hdb]; rfl)
            have hdu := db.toNat_lt
            have hdw := byte_wrap db
            have hpr : (if h : i < fr.length then Dk.size (fr[i]) else 0) = Dk.size db := by
              have hl := (List.getElem?_eq_some_iff.1 hdb).1
              rw [dif_pos hl, (List.getElem?_eq_some_iff.1 hdb).2]
            by_cases h255 : db.toNat = 255
            · have HSTEP : Hid (Dk.crash G s4.loose (fr.take (i + 1)) = Dk.lay f (q, Dk.fill [ib]) 256) := Lib.hid (HMORE.out 256 (by rw [hpr]; unfold Dk.size; rw [if_pos h255]))
              have HKN : Hid (∀ j, j < 256 → j < 256) := Lib.hid (fun j h => h)
              rw [h255] at hdr
              clear hdw hpr hdu hdb HMORE h255
              go_wp2_with fail
              go_loopw [18] (fun jv wr => ∃ (j : Nat) (wl' : List UInt8), j ≤ 256 ∧ jv = .int .i64 (j : Int) ∧ Hid (Row wr X 5 (bvs wl')) ∧ Hid (wl'.length = NN) ∧ Hid (Dk.M2 wl' n f q ib j) ∧ Hid (Keeps (fun k => k = X) w6 wr)) (fun jv _ => 256 - (intOf jv).toNat)
              case atStart => exact ⟨0, wl, by omega, rfl, HR6, HWL, Lib.hid (Dk.m2_start HM.out q ib), Lib.hid (Keeps.refl _ _)⟩
              case round =>
                obtain ⟨j, wl', hj, rfl, HRJ, HLJ, HMJ, HKJ⟩ := hrel
                by_cases hjk : j < 256
                · have hji : (j : Int) < 256 := by omega
                  have hj256 : j < 256 := HKN.out j hjk
                  obtain ⟨m, p, hmp, hpl, e1, e1', e2, e2', hpi⟩ := idx_facts q n j NN HNN.out.1 HNN.out.2.2 HQ.out.1 hj256
                  have hi8 : IntKind.u8.wrap (i : Int) = (i : Int) := HI8.out
                  have hi8' : (i : Int) % 256 = (i : Int) := HI8'.out
                  obtain ⟨old, hold⟩ : ∃ o, wl'[p]? = some o := ⟨_, List.getElem?_eq_getElem (by rw [HLJ.out]; exact hpl)⟩
                  have cX : wr.cell? ⟨X, p, none⟩ = some (.int .u8 (old.toNat : Int)) := HRJ.out.byte hold
                  have fX : wr.frozen? ⟨X, p, none⟩ = false := HRJ.out.frozen p
                  have hst := HRJ.out.set p (bv ib)
                  rw [bvs_set] at hst
                  have hbvi : bv ib = .int .u8 (i : Int) := by unfold bv; rw [HIB.out]
                  rw [hbvi] at hst
                  have HST : Hid (Row (wr.setCell ⟨X, p, none⟩ (.int .u8 (i : Int))) X 5 (bvs (wl'.set p ib))) := Lib.hid hst
                  have HMS : Hid (Dk.M2 (wl'.set p ib) n f q ib (j + 1)) := Lib.hid (Dk.m2_step HMJ.out HQ.out.1 hj256 p hmp (by rw [HLJ.out]; exact hpl))
                  have HKS : Hid (Keeps (fun k => k = X) w6 (wr.setCell ⟨X, p, none⟩ (.int .u8 (i : Int)))) := Lib.hid (HKJ.out.setCell (p := ⟨X, p, none⟩) (fun _ => rfl) _)
                  have HLS : Hid ((wl'.set p ib).length = NN) := Lib.hid (by rw [List.length_set]; exact HLJ.out)
                  clear hst hold hbvi HRJ HLJ HMJ HKJ hmp hpl
                  go_wp2
                  go_roundw
                  case rel => exact ⟨j + 1, wl'.set p ib, by omega, by go_num, HST, HLS, HMS, HKS⟩
                  case measure => simp [intOf]; omega
                · obtain rfl : 256 = j := by omega
                  have hji : ¬ ((256 : Nat) : Int) < 256 := by omega
                  have NM : Hid (Dk.M1 wl' n (Dk.crash G s4.loose (fr.take (i + 1)))) := Lib.hid (by rw [HSTEP.out]; exact Dk.m2_end HMJ.out (Dk.fill [ib]) (fun jj hjj => Dk.fill_one ib jj hjj) (Dk.fill_length _) (by omega) HFL.out)
                  have ND : Hid (DskAt wr F g s4) := Lib.hid (D6.out.keeps HKJ.out (fun k _ hf e => HFX.out (by rw [← e]; exact hf)))
                  have NK : Hid (Keeps (fun k => F k ∨ k = X) w2 wr) := Lib.hid ((HKP.out.trans K6.out).trans (HKJ.out.mono (fun _ _ e => .inr e)))
                  clear HMJ HKJ D6 HKP K6 HSTEP HR6 HM HWL
                  go_wp2_with fail
                  go_roundw
                  case rel => exact ⟨i + 1, s4, wl', by omega, by go_num, ND, HP4, HRJ, HLJ, NM, NK⟩
                  case measure => simp [intOf]; omega
            · obtain ⟨kk, hkk, hkk256, hne, hkn⟩ := kk_facts db h255
              have HSTEP : Hid (Dk.crash G s4.loose (fr.take (i + 1)) = Dk.lay f (q, Dk.fill [ib]) kk) := Lib.hid (HMORE.out kk (by rw [hpr]; unfold Dk.size; rw [if_neg h255, hkk]))
              rw [hkk] at hdr hdw
              have HKN := Lib.hid hkn
              clear hpr hdu hdb HMORE h255 hkk hkn
              go_wp2_with fail
              go_loopw [18] (fun jv wr => ∃ (j : Nat) (wl' : List UInt8), j ≤ kk ∧ jv = .int .i64 (j : Int) ∧ Hid (Row wr X 5 (bvs wl')) ∧ Hid (wl'.length = NN) ∧ Hid (Dk.M2 wl' n f q ib j) ∧ Hid (Keeps (fun k => k = X) w6 wr)) (fun jv _ => kk - (intOf jv).toNat)
              case atStart => exact ⟨0, wl, by omega, rfl, HR6, HWL, Lib.hid (Dk.m2_start HM.out q ib), Lib.hid (Keeps.refl _ _)⟩
              case round =>
                obtain ⟨j, wl', hj, rfl, HRJ, HLJ, HMJ, HKJ⟩ := hrel
                by_cases hjk : j < kk
                · have hji : (j : Int) < (kk : Int) := by omega
                  have hj256 : j < 256 := HKN.out j hjk
                  obtain ⟨m, p, hmp, hpl, e1, e1', e2, e2', hpi⟩ := idx_facts q n j NN HNN.out.1 HNN.out.2.2 HQ.out.1 hj256
                  have hi8 : IntKind.u8.wrap (i : Int) = (i : Int) := HI8.out
                  have hi8' : (i : Int) % 256 = (i : Int) := HI8'.out
                  obtain ⟨old, hold⟩ : ∃ o, wl'[p]? = some o := ⟨_, List.getElem?_eq_getElem (by rw [HLJ.out]; exact hpl)⟩
                  have cX : wr.cell? ⟨X, p, none⟩ = some (.int .u8 (old.toNat : Int)) := HRJ.out.byte hold
                  have fX : wr.frozen? ⟨X, p, none⟩ = false := HRJ.out.frozen p
                  have hst := HRJ.out.set p (bv ib)
                  rw [bvs_set] at hst
                  have hbvi : bv ib = .int .u8 (i : Int) := by unfold bv; rw [HIB.out]
                  rw [hbvi] at hst
                  have HST : Hid (Row (wr.setCell ⟨X, p, none⟩ (.int .u8 (i : Int))) X 5 (bvs (wl'.set p ib))) := Lib.hid hst
                  have HMS : Hid (Dk.M2 (wl'.set p ib) n f q ib (j + 1)) := Lib.hid (Dk.m2_step HMJ.out HQ.out.1 hj256 p hmp (by rw [HLJ.out]; exact hpl))
                  have HKS : Hid (Keeps (fun k => k = X) w6 (wr.setCell ⟨X, p, none⟩ (.int .u8 (i : Int)))) := Lib.hid (HKJ.out.setCell (p := ⟨X, p, none⟩) (fun _ => rfl) _)
                  have HLS : Hid ((wl'.set p ib).length = NN) := Lib.hid (by rw [List.length_set]; exact HLJ.out)
                  clear hst hold hbvi HRJ HLJ HMJ HKJ hmp hpl
                  go_wp2
                  go_roundw
                  case rel => exact ⟨j + 1, wl'.set p ib, by omega, by go_num, HST, HLS, HMS, HKS⟩
                  case measure => simp [intOf]; omega
                · obtain rfl : kk = j := by omega
                  have hji : ¬ ((kk : Nat) : Int) < (kk : Int) := by omega
                  have NM : Hid (Dk.M1 wl' n (Dk.crash G s4.loose (fr.take (i + 1)))) := Lib.hid (by rw [HSTEP.out]; exact Dk.m2_end HMJ.out (Dk.fill [ib]) (fun jj hjj => Dk.fill_one ib jj hjj) (Dk.fill_length _) (by omega) HFL.out)
                  have ND : Hid (DskAt wr F g s4) := Lib.hid (D6.out.keeps HKJ.out (fun k _ hf e => HFX.out (by rw [← e]; exact hf)))
                  have NK : Hid (Keeps (fun k => F k ∨ k = X) w2 wr) := Lib.hid ((HKP.out.trans K6.out).trans (HKJ.out.mono (fun _ _ e => .inr e)))
                  clear HMJ HKJ D6 HKP K6 HSTEP HR6 HM HWL
                  go_wp2_with fail
                  go_roundw
                  case rel => exact ⟨i + 1, s4, wl', by omega, by go_num, ND, HP4, HRJ, HLJ, NM, NK⟩
                  case measure => simp [intOf]; omega
          · have hfi : ¬ (i : Int) < (len3 : Int) := by omega
            have HSTEP : Hid (Dk.crash G s4.loose (fr.take (i + 1)) = Dk.lay f (q, Dk.fill [ib]) 0) := Lib.hid (HMORE.out 0 (by rw [dif_neg (by rw [HZL.out]; exact hfr)]))
            have HKN : Hid (∀ j, j < 0 → j < 256) := Lib.hid (fun j h => by omega)
            clear HMORE
            go_wp2_with fail
            go_loopw [18] (fun jv wr => ∃ (j : Nat) (wl' : List UInt8), j ≤ 0 ∧ jv = .int .i64 (j : Int) ∧ Hid (Row wr X 5 (bvs wl')) ∧ Hid (wl'.length = NN) ∧ Hid (Dk.M2 wl' n f q ib j) ∧ Hid (Keeps (fun k => k = X) w6 wr)) (fun jv _ => 0 - (intOf jv).toNat)
            case atStart => exact ⟨0, wl, by omega, rfl, HR6, HWL, Lib.hid (Dk.m2_start HM.out q ib), Lib.hid (Keeps.refl _ _)⟩
            case round =>
              obtain ⟨j, wl', hj, rfl, HRJ, HLJ, HMJ, HKJ⟩ := hrel
              obtain rfl : 0 = j := by omega
              have hji : ¬ ((0 : Nat) : Int) < 0 := by omega
              have NM : Hid (Dk.M1 wl' n (Dk.crash G s4.loose (fr.take (i + 1)))) := Lib.hid (by rw [HSTEP.out]; exact Dk.m2_end HMJ.out (Dk.fill [ib]) (fun jj hjj => Dk.fill_one ib jj hjj) (Dk.fill_length _) (by omega) HFL.out)
              have ND : Hid (DskAt wr F g s4) := Lib.hid (D6.out.keeps HKJ.out (fun k _ hf e => HFX.out (by rw [← e]; exact hf)))
              have NK : Hid (Keeps (fun k => F k ∨ k = X) w2 wr) := Lib.hid ((HKP.out.trans K6.out).trans (HKJ.out.mono (fun _ _ e => .inr e)))
              clear HMJ HKJ D6 HKP K6 HSTEP HR6 HM HWL
              go_wp2_with fail
              go_roundw
              case rel => exact ⟨i + 1, s4, wl', by omega, by go_num, ND, HP4, HRJ, HLJ, NM, NK⟩
              case measure => simp [intOf]; omega
        · obtain rfl : i = len2 := by omega
          have hii : ¬ (i : Int) < (i : Int) := by omega
          have hcr := crash_any wr F g s HDS.out (fun j hj => HF.out j (Nat.le_trans HKP.out.size hj)) (Nat.le_trans HPL.out.1.2.2.2 (by omega)) A3 c3 fr (HS3.out.keeps (HB.out wr HKP.out) (fun _ _ _ => id)) (fun a ha h0 hf => by have := HFW.out _ hf; have := HLM.out.2 a ha h0; omega) (by rw [HZL.out]; exact HLM.out.1)
          rw [HZL.out] at hcr
          obtain ⟨s9, hs9⟩ : ∃ s9, Dk.cr s fr = s9 := ⟨_, rfl⟩
          have HCR : Hid (Calls Try.prog 19 #[.pointer (some ⟨g, 0, none⟩), .slice A3 len3 c3] wr fun e w' => e = .returned (.tuple #[]) ∧ DskAt w' F g s9 ∧ Keeps F wr w') := Lib.hid (by rw [← hs9]; exact hcr)
          have HN9 : Hid (s9.n = n ∧ s9.dead = false ∧ s9.loose = []) := Lib.hid (by rw [← hs9]; exact ⟨HPL.out.1.1, rfl, rfl⟩)
          have hz9 : Dk.crash G s.loose (fr.take i) = s9.good := by
            rw [← hs9, ← HPL.out.2.1]
            show Dk.crash G s.loose (fr.take s.loose.length) = Dk.crash s.good s.loose fr
            rw [HPL.out.2.2]
            unfold Dk.crash
            rw [Dk.zip_take]
          have HM9 : Hid (Dk.M1 wl n (Dk.rd s9)) := Lib.hid (by
            have h := HM.out
            rw [hz9] at h
            intro i' hi' j hj
            have e : Dk.rd s9 i' = s9.good i' := by unfold Dk.rd; rw [HN9.out.2.2]; rfl
            rw [e]
            exact h i' hi' j hj)
          clear hcr hs9 hz9 HDS HM
          go_wp2_with fail
          refine HCR.out.mono ?_
          rintro e w9 ⟨rfl, d9, k9⟩
          have HR9 : Hid (Row w9 X 5 (bvs wl)) := Lib.hid (HRW.out.keeps k9 HFX.out)
          have K9 : Hid (Keeps (fun k => F k ∨ k = X) w2 w9) := Lib.hid (HKP.out.trans (k9.mono (fun _ _ h => .inl h)))
          have HGL9 : Hid (∀ i, (Dk.rd s9 i).length = 256) := Lib.hid (Dk.ok_rd d9.ok)
          have D9 := Lib.hid d9
          clear d9 k9 HCR HPL HRW HKP
          go_wp2_with fail
          go_loopw [19] (fun iv wr => ∃ (i : Nat), i ≤ n ∧ iv = .int .i64 (i : Int) ∧ Hid (Keeps (fun _ => False) w9 wr)) (fun iv _ => n - (intOf iv).toNat)
          case atStart => exact ⟨0, by omega, rfl, Lib.hid (Keeps.refl _ _)⟩
          case round =>
            obtain ⟨i, hi, rfl, HKJ⟩ := hrel
            by_cases hin : i < n
            · have hii : (i : Int) < (n : Int) := by omega
              have hrd := read_ok wr F g s9 (D9.out.later HKJ.out) i (by rw [HN9.out.1]; exact hin) HN9.out.2.1
              obtain ⟨bj, hbj⟩ : ∃ b, Dk.rd s9 i = b := ⟨_, rfl⟩
              have hbl : bj.length = 256 := by rw [← hbj]; exact HGL9.out i
              rw [hbj] at hrd
              have HRD := Lib.hid hrd
              obtain ⟨m, m2, hmm, hm2, hmN, q1, q2⟩ := mid_facts i n NN HNN.out.1 HNN.out.2.2 hin
              have HM1 := Lib.hid q1
              have HM2 := Lib.hid q2
              have HSL : Hid (∀ V : World, (Instr.sliceAt 34 (.slice (some ⟨X, 0, none⟩) NN NN) (some (.int .i64 (m : Int))) (some (.int .i64 (m2 : Int))) none).run Try.prog V = .ok (.slice (some ⟨X, m, none⟩) 256 (NN - m)) V) := Lib.hid (fun V => slice_mid V X NN m m2 hm2 hmN)
              obtain ⟨SB, hSB⟩ : ∃ s, strOf bj = s := ⟨_, rfl⟩
              have HBJ := Lib.hid (And.intro hbl hSB)
              have HMJ : Hid (∀ j, j < 256 → wl[m + j]? = bj[j]?) := Lib.hid (fun j hj => by rw [hmm, ← hbj]; exact HM9.out i hin j hj)
              clear hrd hbj hbl hSB q1 q2 hmm hm2 hmN
              go_wp2_with fail
              refine HRD.out.mono ?_
              rintro e w6 ⟨rfl, r6, k6⟩
              obtain ⟨B6, hB6⟩ : ∃ b, wr.heap.size = b := ⟨_, rfl⟩
              rw [hB6] at r6
              have HST1 : Hid (∀ V, Later w6 V → (convert 34 9 (.slice (some ⟨B6, 0, none⟩) 256 256)).run Try.prog V = .ok (.string SB) V) := Lib.hid (fun V hV => by
                have h := run_string_src (P := Try.prog) V 34 9 5 Try.underlying34 Try.underlying5 Try.underlying9 (some ⟨B6, 0, none⟩) bj 256 (r6.keeps hV.out id).src
                rw [HBJ.out.1, HBJ.out.2] at h
                exact h)
              have HST2 : Hid (∀ V, Later w6 V → (convert 34 9 (.slice (some ⟨X, m, none⟩) 256 (NN - m))).run Try.prog V = .ok (.string SB) V) := Lib.hid (fun V hV => by
                have hr := HR9.out.keeps ((HKJ.out.trans k6).trans hV.out) id
                have hs : Src V (some ⟨X, m, none⟩) (bvs bj) := fun j u hu => by
                  have hj : j < 256 := by have := (List.getElem?_eq_some_iff.1 hu).1; rw [bvs_length, HBJ.out.1] at this; exact this
                  refine ⟨_, rfl, ?_⟩
                  rw [add_plain, hr.cell, bvs_get, HMJ.out j hj, ← bvs_get]
                  exact hu
                have h := run_string_src (P := Try.prog) V 34 9 5 Try.underlying34 Try.underlying5 Try.underlying9 (some ⟨X, m, none⟩) bj (NN - m) hs
                rw [HBJ.out.1, HBJ.out.2] at h
                exact h)
              have HK6 : Hid (Keeps (fun _ => False) w9 w6) := Lib.hid (HKJ.out.trans k6)
              clear r6 k6 HRD HKJ HMJ HBJ
              go_wp2_with fail
              refine wp_region_class (Later w6) (by kernel_rfl) (by kernel_rfl) (⟨(Keeps.refl _ _).drew⟩) ?_
              refine class_value (by rfl) (.int .i64 0) (fun V hV => by go_simp) ?_
              simp only [Act.put, List.setIfInBounds_toArray, List.set_cons_zero, List.set_cons_succ]
              refine class_value (by rfl) (.bool false) (fun V hV => by go_simp) ?_
              simp only [Act.put, List.setIfInBounds_toArray, List.set_cons_zero, List.set_cons_succ]
              refine class_value (by rfl) (.bool false) (fun V hV => by go_simp) ?_
              simp only [Act.put, List.setIfInBounds_toArray, List.set_cons_zero, List.set_cons_succ]
              refine class_value (by rfl) (.slice (some ⟨B6, 0, none⟩) 256 256) (fun V hV => by go_simp) ?_
              simp only [Act.put, List.setIfInBounds_toArray, List.set_cons_zero, List.set_cons_succ]
              refine class_value (by rfl) (.string SB) (fun V hV => by have h1 := HST1.out V hV; go_simp) ?_
              simp only [Act.put, List.setIfInBounds_toArray, List.set_cons_zero, List.set_cons_succ]
              refine class_value (by rfl) (.slice (some ⟨X, 0, none⟩) NN NN) (fun V hV => by go_simp) ?_
              simp only [Act.put, List.setIfInBounds_toArray, List.set_cons_zero, List.set_cons_succ]
              refine class_value (by rfl) (.int .i64 (i : Int)) (fun V hV => by go_simp) ?_
              simp only [Act.put, List.setIfInBounds_toArray, List.set_cons_zero, List.set_cons_succ]
              refine class_value (by rfl) (.int .i64 (m : Int)) (fun V hV => by have h1 := HM1.out; go_simp) ?_
              simp only [Act.put, List.setIfInBounds_toArray, List.set_cons_zero, List.set_cons_succ]
              refine class_value (by rfl) (.int .i64 (i : Int)) (fun V hV => by go_simp) ?_
              simp only [Act.put, List.setIfInBounds_toArray, List.set_cons_zero, List.set_cons_succ]
              refine class_value (by rfl) (.int .i64 (m : Int)) (fun V hV => by have h1 := HM1.out; go_simp) ?_
              simp only [Act.put, List.setIfInBounds_toArray, List.set_cons_zero, List.set_cons_succ]
              refine class_value (by rfl) (.int .i64 (m2 : Int)) (fun V hV => by have h1 := HM2.out; go_simp) ?_
              simp only [Act.put, List.setIfInBounds_toArray, List.set_cons_zero, List.set_cons_succ]
              refine class_value (by rfl) (.slice (some ⟨X, m, none⟩) 256 (NN - m)) (fun V hV => by have h1 := HSL.out V; go_simp) ?_
              simp only [Act.put, List.setIfInBounds_toArray, List.set_cons_zero, List.set_cons_succ]
              refine class_value (by rfl) (.string SB) (fun V hV => by have h1 := HST2.out V hV; go_simp) ?_
              simp only [Act.put, List.setIfInBounds_toArray, List.set_cons_zero, List.set_cons_succ]
              refine class_value (by rfl) (.bool false) (fun V hV => by go_simp) ?_
              simp only [Act.put, List.setIfInBounds_toArray, List.set_cons_zero, List.set_cons_succ]
              refine class_value (by rfl) (.bool false) (fun V hV => by go_simp) ?_
              simp only [Act.put, List.setIfInBounds_toArray, List.set_cons_zero, List.set_cons_succ]
              refine wpQuiet_nil ?_
              intro V hV
              have HKV : Hid (Keeps (fun _ => False) w9 V) := Lib.hid (HK6.out.trans hV.out)
              clear hV HST1 HST2 HSL HM1 HM2 HK6
              go_wp2_with fail
              go_roundw
              case rel => exact ⟨i + 1, by omega, by go_num, HKV⟩
              case measure => simp [intOf]; omega
            · obtain rfl : i = n := by omega
              have hii : ¬ (i : Int) < (i : Int) := by omega
              have hlo := loose_any wr F g s9 (D9.out.later HKJ.out)
              rw [HN9.out.2.2] at hlo
              have HLO : Hid (Calls Try.prog 24 #[.pointer (some ⟨g, 0, none⟩)] wr fun e w' => e = .returned (.int .i64 0) ∧ w' = wr) := Lib.hid hlo
              have hde := dead_any wr F g s9 (D9.out.later HKJ.out)
              rw [HN9.out.2.1] at hde
              have HDE := Lib.hid hde
              have FIN := Lib.hid (keeps_belowD ((HB.out w9 K9.out).trans HKJ.out))
              clear hlo hde HKJ D9 K9
              go_wp2_with fail
              refine HLO.out.mono ?_
              rintro e w5 ⟨rfl, h5⟩
              obtain rfl : wr = w5 := h5.symm
              go_wp2_with fail
              refine HDE.out.mono ?_
              rintro e w5 ⟨rfl, h5⟩
              obtain rfl : wr = w5 := h5.symm
              go_wp2
              go_ret
              exact ⟨rfl, FIN.out⟩
theorem dfronts_all (A : Option Addr) (len c : Nat) (zs : List Int) (A2 : Option Addr) (len2 c2 : Nat) (zs2 : List Int) (A3 : Option Addr) (len3 c3 : Nat) (zs3 : List Int) (W : World) (hA : IsRowU .u8 W A len c zs) (hA2 : IsRowU .u8 W A2 len2 c2 zs2) (hA3 : IsRowU .u8 W A3 len3 c3 zs3) :
    Calls Try.prog 4 #[.slice A len c, .slice A2 len2 c2, .slice A3 len3 c3] W fun e W' => e = .returned (.bool true) ∧ Below W.heap.size W W' := by
  obtain ⟨xs, hl, hs, h1, h2⟩ := hA.src
  obtain ⟨ys, hl2, hs2, h3, h4⟩ := hA2.src
  obtain ⟨us, hl3, hs3, h5, h6⟩ := hA3.src
  by_cases h : len = 0 ∨ 8 < len ∨ 20 < len2
  · exact dfronts_skip A len c A2 len2 c2 A3 len3 c3 W h (by omega) (by omega)
  · exact dfronts_few A c xs len hl A2 c2 ys len2 hl2 A3 c3 us len3 hl3 W hs hs2 hs3 (by omega) (by omega) (by omega) (by omega) (fun a ha h0 => by subst ha; exact src_lt hs3 (by rw [bvs_length]; exact h0))
end Go.Proofs.Ytonokeldlknadaa
