/-
  The law CrcOf walked: the sum of any bytes, however they are cut, is the document's. WRITTEN BY wip/gen/mkcrof.py.
-/
import Derived.Test.YtfacjpdceennhaaCrRo
import Derived.Test.YtfacjpdceennhaaWalkR
namespace Go.Proofs.Ytfacjpdceennhaa
open Go.RowKit Go.BigFrame
set_option linter.unusedVariables false

section
variable {P : Program} {o : Oper} {a : Act} {w0 : World} {F : World → Prop}
theorem loose_build2 (t e : TypeId) (x y : Operand) (u v : Value) (ho : o.op = .buildSlice t 2 #[(0, x), (1, y)]) (hx : a.eval x = u) (hy : a.eval y = v) (hF : ∀ w, F w → Later w0 w) (hrun : ∀ w, (Instr.buildSlice t 2 #[(0, u), (1, v)]).run P w = .ok (.slice (some ⟨w.heap.size, 0, none⟩) 2 2) (w.alloc (.cells #[u, v] e))) :
    looseR P o a w0 F (fun z => ∃ g, z = .slice (some ⟨g, 0, none⟩) 2 2) (Made w0 e #[u, v]) := by
  refine ⟨fun v w w' h hs => h.soft hs, fun w hw => ⟨_, _, ?_, Soft.of_keeps ((Keeps.refl _ _).alloc _), ⟨(hF w hw).out.alloc _⟩, ⟨_, rfl⟩, w.heap.size, (0, 0), (hF w hw).out.size, rfl, heap_alloc_new w _⟩⟩
  unfold execOp
  simp only [ho, Sem.run_bind, Sem.run_pure, Result.andThen_ok, List.map_toArray, List.map_cons, List.map_nil, hx, hy, hrun]
end
theorem Made.block {w0 w : World} {t : TypeId} {g n : Nat} {C : Array Value} (h : Made w0 t C (.slice (some ⟨g, 0, none⟩) n n) w) : ∃ fr, w.heap[g]? = some (.cells C t fr) := by
  obtain ⟨g', fr, h0, h1, h2⟩ := h
  injection h1 with h1
  injection h1 with h1
  injection h1 with h1
  subst h1
  exact ⟨fr, h2⟩
set_option maxRecDepth 100000 in
set_option maxHeartbeats 1000000 in
theorem crof_long (A : Option Addr) (len c : Nat) (at0 : Int) (W : World) (hlen : 500 < len) (hmax : len ≤ 9223372036854775807) :
    Calls Try.prog 3 #[.slice A len c, .int .u16 at0] W fun e W' => e = .returned (.bool true) ∧ Below W.heap.size W W' := by
  have HAW := Lib.hid (awake10_any W)
  have hl' : (500 : Int) < len := by omega
  go_enter Try.func3, Try.ntmps3
  go_wp2_with fail
  refine HAW.out.mono ?_
  rintro e w3 ⟨rfl, k3⟩
  go_wp2
  go_ret
  exact ⟨rfl, keeps_belowC k3⟩
/-- What the sum is asked of: rows that are made on the spot. -/
theorem crc_made1 (A : Option Addr) (c : Nat) (xs : List UInt8) (w : World) (hs : Src w A (bvs xs)) (hc : xs.length ≤ c) (hm : c ≤ 9223372036854775807) (g : Nat) (V : World) (hV : Later w V) (h : Made w 22 #[.slice A xs.length c] (.slice (some ⟨g, 0, none⟩) 1 1) V) :
    Calls Try.prog 9 #[.slice (some ⟨g, 0, none⟩) 1 1] V fun e w' => e = .returned (.int .u32 (ci (Cr.sum xs))) ∧ Keeps (fun _ => False) V w' := by
  obtain ⟨fr, hg⟩ := h.block
  have h1 := crc_any (some ⟨g, 0, none⟩) 1 [(A, c, xs)] V (rowsAt_one (a := ⟨g, 0, none⟩) (r := (A, c, xs)) (by rw [add_plain, cell_of_row V g _ _ 22 fr hg]; rfl) (hs.keeps hV.out (fun _ _ _ => id)) ⟨hc, hm⟩) (by simp) (by simp; omega)
  rw [show bytesOf [(A, c, xs)] = xs by simp [bytesOf]] at h1
  exact h1
theorem crc_made2 (A A2 : Option Addr) (c c2 : Nat) (xs ys : List UInt8) (w : World) (hs : Src w A (bvs xs)) (hs2 : Src w A2 (bvs ys)) (hc : xs.length ≤ c) (hm : c ≤ 9223372036854775807) (hc2 : ys.length ≤ c2) (hm2 : c2 ≤ 9223372036854775807) (g : Nat) (V : World) (hV : Later w V) (h : Made w 22 #[.slice A xs.length c, .slice A2 ys.length c2] (.slice (some ⟨g, 0, none⟩) 2 2) V) :
    Calls Try.prog 9 #[.slice (some ⟨g, 0, none⟩) 2 2] V fun e w' => e = .returned (.int .u32 (ci (Cr.sum (xs ++ ys)))) ∧ Keeps (fun _ => False) V w' := by
  obtain ⟨fr, hg⟩ := h.block
  have h1 := crc_any (some ⟨g, 0, none⟩) 2 [(A, c, xs), (A2, c2, ys)] V (rowsAt_two (a := ⟨g, 0, none⟩) (r := (A, c, xs)) (s := (A2, c2, ys)) (by rw [add_plain, cell_of_row V g _ _ 22 fr hg]; rfl) (by rw [add_plain, cell_of_row V g _ _ 22 fr hg]; rfl) (hs.keeps hV.out (fun _ _ _ => id)) (hs2.keeps hV.out (fun _ _ _ => id)) ⟨hc, hm⟩ ⟨hc2, hm2⟩) (by simp) (by simp; omega)
  rw [show bytesOf [(A, c, xs), (A2, c2, ys)] = xs ++ ys by simp [bytesOf]] at h1
  exact h1
set_option maxRecDepth 100000 in
set_option maxHeartbeats 2000000 in
theorem crof_in (A : Option Addr) (c n : Nat) (at0 : Nat) (xs : List UInt8) (W : World) (hs : Src W A (bvs xs)) (hxn : xs.length = n) (hlen : n ≤ 500) (hcap : n ≤ c) (hmax : c ≤ 9223372036854775807) (hat : at0 < 65536) :
    Calls Try.prog 3 #[.slice A n c, .int .u16 (at0 : Int)] W fun e W' => e = .returned (.bool true) ∧ Below W.heap.size W W' := by
  have HAW := Lib.hid (awake10_any W)
  have hn' : (n : Int) ≤ 500 := by omega
  obtain ⟨k, hk⟩ : ∃ k : Nat, at0 % (n + 1) = k := ⟨_, rfl⟩
  have hkn : k ≤ n := by have := Nat.mod_lt at0 (show 0 < n + 1 by omega); omega
  have hki : (at0 : Int).tmod ((n : Int) + 1) = (k : Int) := by rw [Int.tmod_eq_emod_of_nonneg (by omega), ← hk]; simp
  have hwr : wrap64 (at0 : Int) = (at0 : Int) := IntWalk.wrap64_in _ (by omega)
  have HS := Lib.hid hs
  have HXN := Lib.hid hxn
  clear hs hxn hk hat
  go_enter Try.func3, Try.ntmps3
  go_wp2_with fail
  refine HAW.out.mono ?_
  rintro e w1 ⟨rfl, k1⟩
  clear HAW
  have HS1 : Hid (Src w1 A (bvs xs)) := Lib.hid (HS.out.keeps k1 (fun _ _ _ => id))
  have K1 := Lib.hid k1
  clear HS k1
  have hcv : ∀ V : World, Src V A (bvs xs) → (convert 22 9 (.slice A n c)).run Try.prog V = .ok (.string (strOf xs)) V := fun V hV => by
    rw [← HXN.out]; exact run_string_src V 22 9 5 Try.underlying22 Try.underlying5 Try.underlying9 A xs c hV
  have hcv1 := hcv w1 HS1.out
  clear hcv
  go_wp2_with fail
  refine (rcrc_any xs w1 (by have := HXN.out; omega)).mono ?_
  rintro e w2 ⟨rfl, hw2⟩
  obtain rfl : w1 = w2 := hw2.symm
  clear hcv1
  obtain ⟨X, hX⟩ : ∃ X, ci (Cr.sum xs) = X := ⟨_, rfl⟩
  obtain ⟨A2, hA2⟩ : ∃ A2, (if c = k then A else A.map (·.add k)) = A2 := ⟨_, rfl⟩
  have hs2 := (HS1.out : Src w1 A (bvs xs)).drop k c (by rw [bvs_length]; have := HXN.out; omega)
  rw [bvs_drop, hA2] at hs2
  have hs1 := (HS1.out : Src w1 A (bvs xs)).take k
  rw [bvs_take] at hs1
  have HBS : Hid (∀ W : World, (Instr.buildSlice 31 1 #[(0, .slice A n c)]).run Try.prog W = .ok (.slice (some ⟨W.heap.size, 0, none⟩) 1 1) (W.alloc (.cells #[.slice A n c] 22))) := Lib.hid (fun W => by go_simp)
  have HB2 : Hid (∀ W : World, (Instr.buildSlice 31 2 #[(0, .slice A k c), (1, .slice A2 (n - k) (c - k))]).run Try.prog W = .ok (.slice (some ⟨W.heap.size, 0, none⟩) 2 2) (W.alloc (.cells #[.slice A k c, .slice A2 (n - k) (c - k)] 22))) := Lib.hid (fun W => by go_simp)
  have HC1 : Hid (∀ g V, Later w1 V → Made w1 22 #[.slice A n c] (.slice (some ⟨g, 0, none⟩) 1 1) V → Calls Try.prog 9 #[.slice (some ⟨g, 0, none⟩) 1 1] V fun e w' => e = .returned (.int .u32 X) ∧ Keeps (fun _ => False) V w') := Lib.hid (fun g V hV h => by
    have hm := h; rw [← HXN.out] at hm
    have := crc_made1 A c xs w1 HS1.out (by rw [HXN.out]; exact hcap) hmax g V hV hm
    rw [hX] at this; exact this)
  have HC2 : Hid (∀ g V, Later w1 V → Made w1 22 #[.slice A k c, .slice A2 (n - k) (c - k)] (.slice (some ⟨g, 0, none⟩) 2 2) V → Calls Try.prog 9 #[.slice (some ⟨g, 0, none⟩) 2 2] V fun e w' => e = .returned (.int .u32 X) ∧ Keeps (fun _ => False) V w') := Lib.hid (fun g V hV h => by
    have l1 : (xs.take k).length = k := by rw [List.length_take, HXN.out]; omega
    have l2 : (xs.drop k).length = n - k := by rw [List.length_drop, HXN.out]
    have hm : Made w1 22 #[.slice A (xs.take k).length c, .slice A2 (xs.drop k).length (c - k)] (.slice (some ⟨g, 0, none⟩) 2 2) V := by rw [l1, l2]; exact h
    have := crc_made2 A A2 c (c - k) (xs.take k) (xs.drop k) w1 hs1 hs2 (by omega) hmax (by omega) (by omega) g V hV hm
    rw [List.take_append_drop, hX] at this; exact this)
  have HSH : Hid ((if c = k then A else A.map (·.add k)) = A2) := Lib.hid hA2
  have FIN : Hid (∀ V, Later w1 V → Below W.heap.size W V) := Lib.hid (fun V hV => keeps_belowC (K1.out.trans hV.out))
  have hkc : (k : Int) ≤ (c : Int) := by omega
  have hkn' : (k : Int) ≤ (n : Int) := by omega
  have hk0 : (0 : Int) ≤ (k : Int) := by omega
  rw [show cv (Cr.sum xs) = .int .u32 X from congrArg (Value.int .u32) hX]
  clear hX hA2 hs1 hs2 HS1 HXN K1
  go_wp2_with fail
  refine wp_region_loose [1, 12] [0, 3, 1, 2, 4, 5, 6, 7, 8, 9, 10, 11, 14, 12, 13, 15, 16, 17] (by kernel_rfl) (by kernel_rfl) ?_
  refine R_value (get_op rfl) (by rfl) (by rfl) (.slice A n c) (fun _ _ => by go_simp) ?_
  simp only [Act.put, List.setIfInBounds_toArray, List.set_cons_zero, List.set_cons_succ]
  refine R_value (get_op rfl) (by rfl) (by rfl) (.int .u32 X) (fun _ _ => by go_simp) ?_
  simp only [Act.put, List.setIfInBounds_toArray, List.set_cons_zero, List.set_cons_succ]
  refine R_loose (get_op rfl) (by rfl) (by rfl) _ _ (loose_build 31 22 (.tmp 23) (.slice A n c) (by rfl) (by rfl) (fun V hV => hV) HBS.out) ?_
  rintro _ ⟨g, rfl⟩
  simp only [Act.put, List.setIfInBounds_toArray, List.set_cons_zero, List.set_cons_succ]
  refine R_call (get_op rfl) (by rfl) (by rfl) _ _ (.int .u32 X) (fun _ => by go_simp) (fun V hV => HC1.out g V hV.1 hV.2) ?_
  simp only [Act.put, List.setIfInBounds_toArray, List.set_cons_zero, List.set_cons_succ]
  refine R_value (get_op rfl) (by rfl) (by rfl) (.bool true) (fun _ _ => by go_simp) ?_
  simp only [Act.put, List.setIfInBounds_toArray, List.set_cons_zero, List.set_cons_succ]
  refine R_value (get_op rfl) (by rfl) (by rfl) (.bool true) (fun _ _ => by go_simp) ?_
  simp only [Act.put, List.setIfInBounds_toArray, List.set_cons_zero, List.set_cons_succ]
  refine R_value (get_op rfl) (by rfl) (by rfl) (.slice A n c) (fun _ _ => by go_simp) ?_
  simp only [Act.put, List.setIfInBounds_toArray, List.set_cons_zero, List.set_cons_succ]
  refine R_value (get_op rfl) (by rfl) (by rfl) (.int .i64 k) (fun _ _ => by go_simp) ?_
  simp only [Act.put, List.setIfInBounds_toArray, List.set_cons_zero, List.set_cons_succ]
  refine R_value (get_op rfl) (by rfl) (by rfl) (.slice A k c) (fun V hV => by go_simp) ?_
  simp only [Act.put, List.setIfInBounds_toArray, List.set_cons_zero, List.set_cons_succ]
  refine R_value (get_op rfl) (by rfl) (by rfl) (.slice A n c) (fun _ _ => by go_simp) ?_
  simp only [Act.put, List.setIfInBounds_toArray, List.set_cons_zero, List.set_cons_succ]
  refine R_value (get_op rfl) (by rfl) (by rfl) (.int .i64 k) (fun _ _ => by go_simp) ?_
  simp only [Act.put, List.setIfInBounds_toArray, List.set_cons_zero, List.set_cons_succ]
  refine R_value (get_op rfl) (by rfl) (by rfl) (.slice A2 (n - k) (c - k)) (fun V hV => by go_simp; exact HSH.out) ?_
  simp only [Act.put, List.setIfInBounds_toArray, List.set_cons_zero, List.set_cons_succ]
  refine R_value (get_op rfl) (by rfl) (by rfl) (.int .u32 X) (fun _ _ => by go_simp) ?_
  simp only [Act.put, List.setIfInBounds_toArray, List.set_cons_zero, List.set_cons_succ]
  refine R_loose (get_op rfl) (by rfl) (by rfl) _ _ (loose_build2 31 22 (.tmp 31) (.tmp 34) (.slice A k c) (.slice A2 (n - k) (c - k)) (by rfl) (by rfl) (by rfl) (fun V hV => hV.1) HB2.out) ?_
  rintro _ ⟨g2, rfl⟩
  simp only [Act.put, List.setIfInBounds_toArray, List.set_cons_zero, List.set_cons_succ]
  refine R_call (get_op rfl) (by rfl) (by rfl) _ _ (.int .u32 X) (fun _ => by go_simp) (fun V hV => HC2.out g2 V hV.1.1 hV.2) ?_
  simp only [Act.put, List.setIfInBounds_toArray, List.set_cons_zero, List.set_cons_succ]
  refine R_value (get_op rfl) (by rfl) (by rfl) (.bool true) (fun _ _ => by go_simp) ?_
  simp only [Act.put, List.setIfInBounds_toArray, List.set_cons_zero, List.set_cons_succ]
  refine R_value (get_op rfl) (by rfl) (by rfl) (.bool true) (fun _ _ => by go_simp) ?_
  simp only [Act.put, List.setIfInBounds_toArray, List.set_cons_zero, List.set_cons_succ]
  refine R_value (get_op rfl) (by rfl) (by rfl) (.bool true) (fun _ _ => by go_simp) ?_
  simp only [Act.put, List.setIfInBounds_toArray, List.set_cons_zero, List.set_cons_succ]
  refine R_nil ?_
  intro V hV
  go_wp2
  go_ret
  exact ⟨rfl, FIN.out V hV.1.1⟩
theorem crof_all (A : Option Addr) (len c : Nat) (zs : List Int) (at0 : Int) (W : World) (hA : IsRowU .u8 W A len c zs) (hat : (Lit.int .u16 at0).wf = true) :
    Calls Try.prog 3 #[.slice A len c, .int .u16 at0] W fun e W' => e = .returned (.bool true) ∧ Below W.heap.size W W' := by
  obtain ⟨xs, hl, hs, h1, h2⟩ := hA.src
  have hb := bounds_u16 hat
  by_cases h : len ≤ 500
  · have := crof_in A c len at0.toNat xs W hs hl h h1 h2 (by omega)
    rwa [show ((at0.toNat : Nat) : Int) = at0 by omega] at this
  · exact crof_long A len c at0 W (by omega) (by omega)
end Go.Proofs.Ytfacjpdceennhaa
