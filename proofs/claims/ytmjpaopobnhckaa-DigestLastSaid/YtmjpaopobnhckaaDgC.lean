/-
  The document's own digest of rows: the last ones.
-/
import Derived.Test.YtmjpaopobnhckaaDgB
namespace Go.Proofs.Ytmjpaopobnhckaa
open Go.RowKit Go.BigFrame
set_option linter.unusedVariables false
set_option linter.unusedSimpArgs false

theorem IsList.drop {α : Type} {enc : α → List Value} {ok : α → Prop} {n : Nat} {w : World} {A : Option Addr} {len cap : Nat} {xs : List α} (h : IsList enc ok n w A len cap xs) (k : Nat) (hk : k ≤ len) :
    IsList enc ok n w (if cap = k then A else A.map (·.add (k * n))) (len - k) (cap - k) (xs.drop k) := by
  have hm := h.many
  have hle := h.le
  have hmx := h.max
  refine ⟨by rw [List.length_drop, hm], by omega, by omega, fun e => ?_, fun j x hx => ?_⟩
  · by_cases hc : cap = k
    · omega
    · rw [if_neg hc] at e
      cases A with
      | none => have := h.nil rfl; omega
      | some ad => cases e
  · rw [List.getElem?_drop] at hx
    obtain ⟨h1, ad, h2, h3⟩ := h.at_ (k + j) x hx
    have hlt := (List.getElem?_eq_some_iff.1 hx).1
    refine ⟨h1, ad.add (k * n), by rw [if_neg (by omega), h2]; rfl, fun q u hu => ?_⟩
    rw [Addr.add_add, show k * n + (j * n + q) = (k + j) * n + q by rw [Nat.add_mul]; omega]
    exact h3 q u hu
theorem wpList_slice19 {P : Program} {ops : Array Oper} {rest : List Oper} {o : Oper} {a : Act} {w : World} {Q : Exit → Act → World → Prop} (hgd : o.guard = none) (t : TypeId) (x lo : Operand) (ho : o.op = .slice t x (some lo) none none)
    (u l v : Value) (hx : a.eval x = u) (hl : a.eval lo = l) (hrun : ∀ w : World, (Instr.sliceAt t u (some l) none none).run P w = .ok v w) (h : wpList P ops Q rest (a.put o.dst v) w) : wpList P ops Q (o :: rest) a w := by
  refine wpList_plain hgd fun _ hK => ?_
  unfold Oper.wp execOp
  simp only [ho, Sem.run_bind, Sem.run_pure, Result.andThen_ok, Option.map_some, Option.map_none, hx, hl, hrun]
  exact hK _ _ h
theorem slice_keys (V : World) (A : Option Addr) (n c k : Nat) (hk : k ≤ n) : (Instr.sliceAt 22 (.slice A n c) (some (.int .i64 (k : Int))) none none).run Try.prog V = .ok (.slice (if c = k then A else A.map (·.add (k * 33))) (n - k) (c - k)) V := by
  have hu : Try.prog.underlying 22 = some (.slice (Try.prog.elem 22)) := by kernel_rfl
  have hs : ∀ V : World, (sizeOf (Try.prog.elem 22)).run Try.prog V = .ok 33 V := fun V => by kernel_rfl
  rw [run_sliceAt_slice V 22 _ _ _ _ hu, run_slice_l (P := Try.prog) V 22 A n c hu .i64 (k : Int) (by omega) (by omega), hs]
  simp only [Result.andThen, sliced, Int.toNat_natCast]
theorem last_keys (w : World) (A : Option Addr) (n c : Nat) (xs : List Ft.Key) (h : LK w A n c xs) (h32 : 32 < n) : ∃ (A3 : Option Addr) (c3 k : Nat), n = k + 32 ∧ (∀ V : World, (Instr.sliceAt 22 (.slice A n c) (some (.int .i64 (k : Int))) none none).run Try.prog V = .ok (.slice A3 32 c3) V) ∧ (Dg.last xs).length = 32 ∧ LK w A3 32 c3 (Dg.last xs) := by
  have hm := h.many
  have hd := h.drop (n - 32) (by omega)
  have e : n - (n - 32) = 32 := by omega
  rw [e] at hd
  refine ⟨if c = n - 32 then A else A.map (·.add ((n - 32) * 33)), c - (n - 32), n - 32, by omega, fun V => ?_, by rw [Dg.last_length]; omega, ?_⟩
  · rw [slice_keys V A n c (n - 32) (by omega), e]
  · unfold Dg.last; rw [hm]; exact hd
theorem slice_hashes (V : World) (A : Option Addr) (n c k : Nat) (hk : k ≤ n) : (Instr.sliceAt 23 (.slice A n c) (some (.int .i64 (k : Int))) none none).run Try.prog V = .ok (.slice (if c = k then A else A.map (·.add (k * 32))) (n - k) (c - k)) V := by
  have hu : Try.prog.underlying 23 = some (.slice (Try.prog.elem 23)) := by kernel_rfl
  have hs : ∀ V : World, (sizeOf (Try.prog.elem 23)).run Try.prog V = .ok 32 V := fun V => by kernel_rfl
  rw [run_sliceAt_slice V 23 _ _ _ _ hu, run_slice_l (P := Try.prog) V 23 A n c hu .i64 (k : Int) (by omega) (by omega), hs]
  simp only [Result.andThen, sliced, Int.toNat_natCast]
theorem last_hashes (w : World) (A : Option Addr) (n c : Nat) (xs : List (List UInt8)) (h : LH w A n c xs) (h32 : 32 < n) : ∃ (A3 : Option Addr) (c3 k : Nat), n = k + 32 ∧ (∀ V : World, (Instr.sliceAt 23 (.slice A n c) (some (.int .i64 (k : Int))) none none).run Try.prog V = .ok (.slice A3 32 c3) V) ∧ (Dg.last xs).length = 32 ∧ LH w A3 32 c3 (Dg.last xs) := by
  have hm := h.many
  have hd := h.drop (n - 32) (by omega)
  have e : n - (n - 32) = 32 := by omega
  rw [e] at hd
  refine ⟨if c = n - 32 then A else A.map (·.add ((n - 32) * 32)), c - (n - 32), n - 32, by omega, fun V => ?_, by rw [Dg.last_length]; omega, ?_⟩
  · rw [slice_hashes V A n c (n - 32) (by omega), e]
  · unfold Dg.last; rw [hm]; exact hd
theorem last_small {α : Type} {l : List α} (h : ¬ 32 < l.length) : Dg.last l = l := by unfold Dg.last; rw [show l.length - 32 = 0 by omega, List.drop_zero]
theorem sub32 (n k : Nat) (h : n = k + 32) (hn : n ≤ 1000) : wrap64 ((n : Int) - 32) = (k : Int) ∧ (n : Int) - 32 = (k : Int) := by
  have h1 : (n : Int) - 32 = (k : Int) := by omega
  exact ⟨by rw [h1]; exact IntWalk.wrap64_in _ (by omega), h1⟩
theorem results_cell19 {P : Program} {fn : Func} {p : Tmp} {ty : TypeId} (h : fn.results = #[.cell p ty]) (tmps : Array Value) (w : World) (g : Nat) (t : TypeId) (cs : Array Value) (fr : Nat × Nat) (d : TypeDesc)
    (hp : tmps.getD p undef = .pointer (some ⟨g, 0, none⟩)) (hg : w.heap[g]? = some (.cells cs t fr))
    (hu : P.underlying ty = some d) (hd : (match d with | .struct _ | .array _ _ => true | _ => false) = true) (hi : (P.info? ty).map (·.size) = some cs.size) :
    (results fn tmps).run P w = .ok (.agg cs) w := by
  have hp' : tmps[p]?.getD undef = .pointer (some ⟨g, 0, none⟩) := by simpa using hp
  simp [results, h, hp', asAddr, run_loadVar_row w g t ty cs fr d hg hu hd hi]
/-- A digest's cells. -/
def dcs (k f : Value) : Array Value := #[k, f]
theorem dcs_one (A A2 : Option Addr) (n c m d : Nat) : (dcs (.slice A n c) (.slice A2 m d)).all (·.oneCell') = true := by simp [dcs, Value.oneCell']
theorem size_D (k f : Value) : (Try.prog.info? 28).map (·.size) = some (dcs k f).size := by kernel_rfl
theorem zero_D (w : World) : (zeroValue 28).run Try.prog w = .ok (.agg (dcs (.slice none 0 0) (.slice none 0 0))) w := by kernel_rfl
theorem build_D (A A2 : Option Addr) (n c m d : Nat) (V : World) : (Instr.build 28 #[(0, .slice A n c), (1, .slice A2 m d)]).run Try.prog V = .ok (.agg (dcs (.slice A n c) (.slice A2 m d))) V := by kernel_rfl
set_option maxRecDepth 100000 in
set_option maxHeartbeats 2000000 in
theorem dmake_any (w : World) (A A2 : Option Addr) (n c m d : Nat) (xs : List Ft.Key) (ys : List (List UInt8)) (hA : LK w A n c xs) (hB : LH w A2 m d ys) (hn : n ≤ 1000) (hm : m ≤ 1000) :
    Calls Try.prog 11 #[.slice A n c, .slice A2 m d] w fun e w' => ∃ (A3 : Option Addr) (c3 : Nat) (A4 : Option Addr) (c4 : Nat), e = .returned (.agg (dcs (.slice A3 (Dg.last xs).length c3) (.slice A4 (Dg.last ys).length c4))) ∧ Keeps (fun _ => False) w w' ∧ LK w' A3 (Dg.last xs).length c3 (Dg.last xs) ∧ LH w' A4 (Dg.last ys).length c4 (Dg.last ys) := by
  have hnx := hA.many
  have hmy := hB.many
  by_cases h1 : 32 < n
  · by_cases h2 : 32 < m
    · skip
      have h1i : (32 : Int) < (n : Int) := by omega
      obtain ⟨A3, c3, k1, e1, hs1, l1, g1⟩ := last_keys w A n c xs hA h1
      have HS1 := Lib.hid hs1
      have G1 := Lib.hid (And.intro l1 g1)
      obtain ⟨hk1, hk2⟩ := sub32 n k1 e1 hn
      clear hs1 l1 g1 e1
      have h2i : (32 : Int) < (m : Int) := by omega
      obtain ⟨A4, c4, k2, e2, hs2, l2, g2⟩ := last_hashes w A2 m d ys hB h2
      have HS2 := Lib.hid hs2
      have G2 := Lib.hid (And.intro l2 g2)
      obtain ⟨hk3, hk4⟩ := sub32 m k2 e2 hm
      clear hs2 l2 g2 e2
      obtain ⟨Z, hZ⟩ : ∃ Z, dcs (.slice none 0 0) (.slice none 0 0) = Z := ⟨_, rfl⟩
      have hz : ∀ V : World, (zeroValue 28).run Try.prog V = .ok (.agg Z) V := fun V => by rw [← hZ]; exact zero_D V
      have SZ : Hid ((Try.prog.info? 28).map (·.size) = some Z.size) := Lib.hid (by rw [← hZ]; exact size_D _ _)
      obtain ⟨b1, hb1⟩ : ∃ x, w.heap.size = x := ⟨_, rfl⟩
      obtain ⟨W1, hW1⟩ : ∃ V, w.alloc (.cells Z 28) = V := ⟨_, rfl⟩
      have k1 : Keeps (fun _ => False) w W1 := by rw [← hW1]; exact (Keeps.refl _ _).alloc _
      have r1 : W1.heap[b1]? = some (.cells Z 28 (0, 0)) := by rw [← hW1, ← hb1]; exact heap_alloc_new w _
      have R1 := Lib.hid r1
      obtain ⟨C, hC⟩ : ∃ C, dcs (.slice A3 32 c3) (.slice A4 32 c4) = C := ⟨_, rfl⟩
      have SC : Hid ((Try.prog.info? 28).map (·.size) = some C.size) := Lib.hid (by rw [← hC]; exact size_D _ _)
      have SZC : Hid (Z.size = C.size) := Lib.hid (by rw [← hC, ← hZ]; rfl)
      have OC : Hid (C.all (·.oneCell') = true) := Lib.hid (by rw [← hC]; exact dcs_one _ _ _ _ _ _)
      have HB2 : Hid (∀ V : World, (Instr.build 28 #[(0, (.slice A3 32 c3)), (1, (.slice A4 32 c4))]).run Try.prog V = .ok (.agg C) V) := Lib.hid (fun V => by rw [← hC]; exact build_D _ _ _ _ _ _ V)
      obtain ⟨W2, hW2⟩ : ∃ V, W1.setRow b1 C = V := ⟨_, rfl⟩
      have R2 : Hid (W2.heap[b1]? = some (.cells C 28 (0, 0))) := Lib.hid (by rw [← hW2]; exact setRow_heap _ _ _ _ _ _ r1)
      have K2 : Hid (Keeps (fun _ => False) w W2) := Lib.hid (k1.trans' (T := fun k => k = b1) (by rw [← hW2]; exact Keeps.setRow _ _) (fun i hi e => by omega))
      have HCC := Lib.hid hC
      clear hZ k1 r1 hC
      clear hA hB hnx hmy
      go_enter Try.func11, Try.ntmps11
      go_wp2_with (first
        | (refine wpList_slice19 (by rfl) 22 _ _ (by rfl) (.slice A n c) (.int .i64 (k1 : Int)) (.slice A3 32 c3) (by rfl) (by rfl) HS1.out ?_)
        | (refine wpList_slice19 (by rfl) 23 _ _ (by rfl) (.slice A2 m d) (.int .i64 (k2 : Int)) (.slice A4 32 c4) (by rfl) (by rfl) HS2.out ?_)
        | (refine wpList_made (by rfl) 28 [(0, .tmp 21), (1, .tmp 22)] (by rfl) [(0, (.slice A3 32 c3)), (1, (.slice A4 32 c4))] (by rfl) (.agg C) HB2.out ?_)
        | (refine wpList_store_row (by rfl) 28 _ _ (by rfl) b1 C (by rfl) (by rfl) 28 Z R1.out SC.out SZC.out OC.out ?_; rw [hW2])
        | fail)
      refine bodyPost_ret (results_cell19 rfl _ _ b1 28 C (0, 0) _ rfl R2.out Try.underlying28 rfl SC.out) rfl ?_
      rw [G1.out.1, G2.out.1, ← HCC.out]
      exact ⟨_, _, _, _, rfl, K2.out, G1.out.2.later K2.out, G2.out.2.later K2.out⟩
    · skip
      have h1i : (32 : Int) < (n : Int) := by omega
      obtain ⟨A3, c3, k1, e1, hs1, l1, g1⟩ := last_keys w A n c xs hA h1
      have HS1 := Lib.hid hs1
      have G1 := Lib.hid (And.intro l1 g1)
      obtain ⟨hk1, hk2⟩ := sub32 n k1 e1 hn
      clear hs1 l1 g1 e1
      have h2i : ¬ (32 : Int) < (m : Int) := by omega
      have G2 : Hid ((Dg.last ys).length = m ∧ LH w A2 m d (Dg.last ys)) := Lib.hid (by rw [last_small (by omega)]; exact ⟨hmy, hB⟩)
      obtain ⟨Z, hZ⟩ : ∃ Z, dcs (.slice none 0 0) (.slice none 0 0) = Z := ⟨_, rfl⟩
      have hz : ∀ V : World, (zeroValue 28).run Try.prog V = .ok (.agg Z) V := fun V => by rw [← hZ]; exact zero_D V
      have SZ : Hid ((Try.prog.info? 28).map (·.size) = some Z.size) := Lib.hid (by rw [← hZ]; exact size_D _ _)
      obtain ⟨b1, hb1⟩ : ∃ x, w.heap.size = x := ⟨_, rfl⟩
      obtain ⟨W1, hW1⟩ : ∃ V, w.alloc (.cells Z 28) = V := ⟨_, rfl⟩
      have k1 : Keeps (fun _ => False) w W1 := by rw [← hW1]; exact (Keeps.refl _ _).alloc _
      have r1 : W1.heap[b1]? = some (.cells Z 28 (0, 0)) := by rw [← hW1, ← hb1]; exact heap_alloc_new w _
      have R1 := Lib.hid r1
      obtain ⟨C, hC⟩ : ∃ C, dcs (.slice A3 32 c3) (.slice A2 m d) = C := ⟨_, rfl⟩
      have SC : Hid ((Try.prog.info? 28).map (·.size) = some C.size) := Lib.hid (by rw [← hC]; exact size_D _ _)
      have SZC : Hid (Z.size = C.size) := Lib.hid (by rw [← hC, ← hZ]; rfl)
      have OC : Hid (C.all (·.oneCell') = true) := Lib.hid (by rw [← hC]; exact dcs_one _ _ _ _ _ _)
      have HB2 : Hid (∀ V : World, (Instr.build 28 #[(0, (.slice A3 32 c3)), (1, (.slice A2 m d))]).run Try.prog V = .ok (.agg C) V) := Lib.hid (fun V => by rw [← hC]; exact build_D _ _ _ _ _ _ V)
      obtain ⟨W2, hW2⟩ : ∃ V, W1.setRow b1 C = V := ⟨_, rfl⟩
      have R2 : Hid (W2.heap[b1]? = some (.cells C 28 (0, 0))) := Lib.hid (by rw [← hW2]; exact setRow_heap _ _ _ _ _ _ r1)
      have K2 : Hid (Keeps (fun _ => False) w W2) := Lib.hid (k1.trans' (T := fun k => k = b1) (by rw [← hW2]; exact Keeps.setRow _ _) (fun i hi e => by omega))
      have HCC := Lib.hid hC
      clear hZ k1 r1 hC
      clear hA hB hnx hmy
      go_enter Try.func11, Try.ntmps11
      go_wp2_with (first
        | (refine wpList_slice19 (by rfl) 22 _ _ (by rfl) (.slice A n c) (.int .i64 (k1 : Int)) (.slice A3 32 c3) (by rfl) (by rfl) HS1.out ?_)
        | (refine wpList_made (by rfl) 28 [(0, .tmp 21), (1, .tmp 22)] (by rfl) [(0, (.slice A3 32 c3)), (1, (.slice A2 m d))] (by rfl) (.agg C) HB2.out ?_)
        | (refine wpList_store_row (by rfl) 28 _ _ (by rfl) b1 C (by rfl) (by rfl) 28 Z R1.out SC.out SZC.out OC.out ?_; rw [hW2])
        | fail)
      refine bodyPost_ret (results_cell19 rfl _ _ b1 28 C (0, 0) _ rfl R2.out Try.underlying28 rfl SC.out) rfl ?_
      rw [G1.out.1, G2.out.1, ← HCC.out]
      exact ⟨_, _, _, _, rfl, K2.out, G1.out.2.later K2.out, G2.out.2.later K2.out⟩
  · by_cases h2 : 32 < m
    · skip
      have h1i : ¬ (32 : Int) < (n : Int) := by omega
      have G1 : Hid ((Dg.last xs).length = n ∧ LK w A n c (Dg.last xs)) := Lib.hid (by rw [last_small (by omega)]; exact ⟨hnx, hA⟩)
      have h2i : (32 : Int) < (m : Int) := by omega
      obtain ⟨A4, c4, k2, e2, hs2, l2, g2⟩ := last_hashes w A2 m d ys hB h2
      have HS2 := Lib.hid hs2
      have G2 := Lib.hid (And.intro l2 g2)
      obtain ⟨hk3, hk4⟩ := sub32 m k2 e2 hm
      clear hs2 l2 g2 e2
      obtain ⟨Z, hZ⟩ : ∃ Z, dcs (.slice none 0 0) (.slice none 0 0) = Z := ⟨_, rfl⟩
      have hz : ∀ V : World, (zeroValue 28).run Try.prog V = .ok (.agg Z) V := fun V => by rw [← hZ]; exact zero_D V
      have SZ : Hid ((Try.prog.info? 28).map (·.size) = some Z.size) := Lib.hid (by rw [← hZ]; exact size_D _ _)
      obtain ⟨b1, hb1⟩ : ∃ x, w.heap.size = x := ⟨_, rfl⟩
      obtain ⟨W1, hW1⟩ : ∃ V, w.alloc (.cells Z 28) = V := ⟨_, rfl⟩
      have k1 : Keeps (fun _ => False) w W1 := by rw [← hW1]; exact (Keeps.refl _ _).alloc _
      have r1 : W1.heap[b1]? = some (.cells Z 28 (0, 0)) := by rw [← hW1, ← hb1]; exact heap_alloc_new w _
      have R1 := Lib.hid r1
      obtain ⟨C, hC⟩ : ∃ C, dcs (.slice A n c) (.slice A4 32 c4) = C := ⟨_, rfl⟩
      have SC : Hid ((Try.prog.info? 28).map (·.size) = some C.size) := Lib.hid (by rw [← hC]; exact size_D _ _)
      have SZC : Hid (Z.size = C.size) := Lib.hid (by rw [← hC, ← hZ]; rfl)
      have OC : Hid (C.all (·.oneCell') = true) := Lib.hid (by rw [← hC]; exact dcs_one _ _ _ _ _ _)
      have HB2 : Hid (∀ V : World, (Instr.build 28 #[(0, (.slice A n c)), (1, (.slice A4 32 c4))]).run Try.prog V = .ok (.agg C) V) := Lib.hid (fun V => by rw [← hC]; exact build_D _ _ _ _ _ _ V)
      obtain ⟨W2, hW2⟩ : ∃ V, W1.setRow b1 C = V := ⟨_, rfl⟩
      have R2 : Hid (W2.heap[b1]? = some (.cells C 28 (0, 0))) := Lib.hid (by rw [← hW2]; exact setRow_heap _ _ _ _ _ _ r1)
      have K2 : Hid (Keeps (fun _ => False) w W2) := Lib.hid (k1.trans' (T := fun k => k = b1) (by rw [← hW2]; exact Keeps.setRow _ _) (fun i hi e => by omega))
      have HCC := Lib.hid hC
      clear hZ k1 r1 hC
      clear hA hB hnx hmy
      go_enter Try.func11, Try.ntmps11
      go_wp2_with (first
        | (refine wpList_slice19 (by rfl) 23 _ _ (by rfl) (.slice A2 m d) (.int .i64 (k2 : Int)) (.slice A4 32 c4) (by rfl) (by rfl) HS2.out ?_)
        | (refine wpList_made (by rfl) 28 [(0, .tmp 21), (1, .tmp 22)] (by rfl) [(0, (.slice A n c)), (1, (.slice A4 32 c4))] (by rfl) (.agg C) HB2.out ?_)
        | (refine wpList_store_row (by rfl) 28 _ _ (by rfl) b1 C (by rfl) (by rfl) 28 Z R1.out SC.out SZC.out OC.out ?_; rw [hW2])
        | fail)
      refine bodyPost_ret (results_cell19 rfl _ _ b1 28 C (0, 0) _ rfl R2.out Try.underlying28 rfl SC.out) rfl ?_
      rw [G1.out.1, G2.out.1, ← HCC.out]
      exact ⟨_, _, _, _, rfl, K2.out, G1.out.2.later K2.out, G2.out.2.later K2.out⟩
    · skip
      have h1i : ¬ (32 : Int) < (n : Int) := by omega
      have G1 : Hid ((Dg.last xs).length = n ∧ LK w A n c (Dg.last xs)) := Lib.hid (by rw [last_small (by omega)]; exact ⟨hnx, hA⟩)
      have h2i : ¬ (32 : Int) < (m : Int) := by omega
      have G2 : Hid ((Dg.last ys).length = m ∧ LH w A2 m d (Dg.last ys)) := Lib.hid (by rw [last_small (by omega)]; exact ⟨hmy, hB⟩)
      obtain ⟨Z, hZ⟩ : ∃ Z, dcs (.slice none 0 0) (.slice none 0 0) = Z := ⟨_, rfl⟩
      have hz : ∀ V : World, (zeroValue 28).run Try.prog V = .ok (.agg Z) V := fun V => by rw [← hZ]; exact zero_D V
      have SZ : Hid ((Try.prog.info? 28).map (·.size) = some Z.size) := Lib.hid (by rw [← hZ]; exact size_D _ _)
      obtain ⟨b1, hb1⟩ : ∃ x, w.heap.size = x := ⟨_, rfl⟩
      obtain ⟨W1, hW1⟩ : ∃ V, w.alloc (.cells Z 28) = V := ⟨_, rfl⟩
      have k1 : Keeps (fun _ => False) w W1 := by rw [← hW1]; exact (Keeps.refl _ _).alloc _
      have r1 : W1.heap[b1]? = some (.cells Z 28 (0, 0)) := by rw [← hW1, ← hb1]; exact heap_alloc_new w _
      have R1 := Lib.hid r1
      obtain ⟨C, hC⟩ : ∃ C, dcs (.slice A n c) (.slice A2 m d) = C := ⟨_, rfl⟩
      have SC : Hid ((Try.prog.info? 28).map (·.size) = some C.size) := Lib.hid (by rw [← hC]; exact size_D _ _)
      have SZC : Hid (Z.size = C.size) := Lib.hid (by rw [← hC, ← hZ]; rfl)
      have OC : Hid (C.all (·.oneCell') = true) := Lib.hid (by rw [← hC]; exact dcs_one _ _ _ _ _ _)
      have HB2 : Hid (∀ V : World, (Instr.build 28 #[(0, (.slice A n c)), (1, (.slice A2 m d))]).run Try.prog V = .ok (.agg C) V) := Lib.hid (fun V => by rw [← hC]; exact build_D _ _ _ _ _ _ V)
      obtain ⟨W2, hW2⟩ : ∃ V, W1.setRow b1 C = V := ⟨_, rfl⟩
      have R2 : Hid (W2.heap[b1]? = some (.cells C 28 (0, 0))) := Lib.hid (by rw [← hW2]; exact setRow_heap _ _ _ _ _ _ r1)
      have K2 : Hid (Keeps (fun _ => False) w W2) := Lib.hid (k1.trans' (T := fun k => k = b1) (by rw [← hW2]; exact Keeps.setRow _ _) (fun i hi e => by omega))
      have HCC := Lib.hid hC
      clear hZ k1 r1 hC
      clear hA hB hnx hmy
      go_enter Try.func11, Try.ntmps11
      go_wp2_with (first
        | (refine wpList_made (by rfl) 28 [(0, .tmp 21), (1, .tmp 22)] (by rfl) [(0, (.slice A n c)), (1, (.slice A2 m d))] (by rfl) (.agg C) HB2.out ?_)
        | (refine wpList_store_row (by rfl) 28 _ _ (by rfl) b1 C (by rfl) (by rfl) 28 Z R1.out SC.out SZC.out OC.out ?_; rw [hW2])
        | fail)
      refine bodyPost_ret (results_cell19 rfl _ _ b1 28 C (0, 0) _ rfl R2.out Try.underlying28 rfl SC.out) rfl ?_
      rw [G1.out.1, G2.out.1, ← HCC.out]
      exact ⟨_, _, _, _, rfl, K2.out, G1.out.2.later K2.out, G2.out.2.later K2.out⟩
end Go.Proofs.Ytmjpaopobnhckaa
