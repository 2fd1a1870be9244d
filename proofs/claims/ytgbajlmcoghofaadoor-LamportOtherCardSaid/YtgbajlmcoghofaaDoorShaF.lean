/-
  The eight numbers as bytes (sha.mixer's hash).
-/
import Derived.Test.YtgbajlmcoghofaaDoorShaC
import Derived.Deep.MidRow
namespace Go.Proofs.YtgbajlmcoghofaaDoor
open Go.RowKit Go.BigFrame
set_option linter.unusedVariables false

theorem flat_get {α β : Type} (f : α → List β) (m : Nat) (hf : ∀ x, (f x).length = m) (k : Nat) (hk : k < m) : ∀ (l : List α) (i : Nat), (l.flatMap f)[m * i + k]? = l[i]?.bind fun x => (f x)[k]?
  | [], i => by simp
  | x :: l, 0 => by
    rw [List.flatMap_cons, List.getElem?_append_left (by rw [hf]; omega), Nat.mul_zero, Nat.zero_add]
    rfl
  | x :: l, i + 1 => by
    rw [List.flatMap_cons, List.getElem?_append_right (by rw [hf, Nat.mul_succ]; omega), hf, show m * (i + 1) + k - m = m * i + k by rw [Nat.mul_succ]; omega, flat_get f m hf k hk l i]
    rfl
theorem outs_at (s : Sh.St) (i k : Nat) (x : UInt32) (hx : s.list[i]? = some x) (hk : k < 4) : (Sh.outs s)[4 * i + k]? = some (x >>> (8 * (3 - k)).toUInt32).toUInt8 := by
  unfold Sh.outs
  rw [flat_get Sh.out4 4 (fun _ => rfl) k hk, hx]
  show (Sh.out4 x)[k]? = _
  unfold Sh.out4
  rw [List.getElem?_map, List.getElem?_range hk]
  rfl
/-- The first bytes of a row, noughts behind. -/
def front (xs : List UInt8) (n p : Nat) : List UInt8 := xs.take p ++ List.replicate (n - p) 0
theorem front_zero (xs : List UInt8) (n : Nat) : front xs n 0 = List.replicate n 0 := by simp [front]
theorem front_all (xs : List UInt8) (n : Nat) (h : xs.length = n) : front xs n n = xs := by
  unfold front
  rw [Nat.sub_self, List.take_of_length_le (by omega)]
  simp
theorem front_length (xs : List UInt8) (n p : Nat) (h : xs.length = n) (hp : p ≤ n) : (front xs n p).length = n := by
  unfold front
  rw [List.length_append, List.length_take, List.length_replicate]
  omega
theorem front_set (xs : List UInt8) (n p : Nat) (c : UInt8) (h : xs.length = n) (hp : p < n) (hc : xs[p]? = some c) : (bvs (front xs n p)).set p (.int .u8 (c.toNat : Int)) = bvs (front xs n (p + 1)) := by
  have e : (bvs (front xs n p)).set p (.int .u8 (c.toNat : Int)) = bvs ((front xs n p).set p c) := by
    unfold bvs
    rw [List.map_set]
    rfl
  rw [e]
  congr 1
  unfold front
  have h1 : (xs.take p).length = p := by rw [List.length_take]; omega
  have h2 : n - p = (n - (p + 1)) + 1 := by omega
  rw [List.set_append, if_neg (by omega), h1, Nat.sub_self, h2, List.replicate_succ, List.set_cons_zero, List.take_succ_eq_append_getElem (by omega)]
  have h3 : xs[p] = c := by rw [List.getElem?_eq_getElem (by omega)] at hc; exact Option.some.inj hc
  rw [h3, List.append_assoc]
  rfl
theorem front_cell {w : World} {g : Nat} {t : TypeId} {xs : List UInt8} {n p : Nat} (h : Row w g t (bvs (front xs n p))) (hx : xs.length = n) (hp : p < n) : ∃ z : Int, w.cell? ⟨g, p, none⟩ = some (.int .u8 z) := by
  have hl : p < (front xs n p).length := by rw [front_length _ _ _ hx (by omega)]; exact hp
  exact ⟨_, by rw [h.cell, bvs_at _ hl]⟩
theorem wi_out (x : UInt32) (n : Nat) (h : n < 32) : wi x / 2 ^ n % 256 = (((x >>> n.toUInt32).toUInt8).toNat : Int) := by
  rw [wi_shr x n h]
  unfold wi
  simp
structure AtOut (s : Sh.St) (p : Nat) (c : UInt8) : Prop where
  out : (Sh.outs s)[p]? = some c
theorem size_hash' : (Tryd.prog.info? 23).map (·.size) = some 32 := by kernel_rfl
theorem size_w8 : (Tryd.prog.info? 55).map (·.size) = some 8 := by kernel_rfl

set_option maxRecDepth 100000 in
set_option maxHeartbeats 2000000 in
theorem hash_any (b : Nat) (st : Sh.St) (blk : List UInt8) (fill many : Int) (w : World) (hM : Mx w b st blk fill many) :
    Calls Tryd.prog 29 #[.pointer (some ⟨b, 0, none⟩)] w fun e w' => e = .returned (.agg (bvs (Sh.outs st)).toArray) ∧ Keeps (fun _ => False) w w' := by
  have hbl := hM.lt
  have hrg : ∀ W, Keeps (fun _ => False) w W → W.rangeAt b 0 (wvs st.list) := fun W hk j v hj => by
    have h8 : j < 8 := by have := (List.getElem?_eq_some_iff.1 hj).1; rwa [wvs_length] at this
    rw [Nat.zero_add, (hM.2.2.keeps hk id).cell, ← hj]
    unfold mcells
    rw [List.getElem?_append_left (by rw [wvs_length]; exact h8)]
  have HRG := Lib.hid hrg
  obtain ⟨j0, hj0, _, ht0, _⟩ := info_parts info_u32
  have hjx : ∀ (j : Nat) (v : Value), j < 8 → (wvs st.list).toArray[j]? = some v → ∀ W, (Instr.index 55 (.agg (wvs st.list).toArray) (.int .i64 (j : Int))).run Tryd.prog W = .ok v W := fun j v hj hv W =>
    run_index_row W 55 42 8 Tryd.underlying55 hj0 ht0 (by kernel_rfl) _ .i64 j v hj hv
  have HJX := Lib.hid hjx
  clear hM hrg hjx hj0 ht0
  go_enter Tryd.func29, Tryd.ntmps29
  go_wp2_with (refine wpList_load_mid (by rfl) 55 (.tmp 9) (by rfl) b 0 (by rfl) (wvs st.list) _ (HRG.out _ (((Keeps.refl _ w).alloc _).alloc _)) Tryd.underlying55 rfl (by rw [wvs_length]; exact size_w8) ?_)
  obtain ⟨W, hW⟩ : ∃ W, (w.alloc (.cells (bvs (List.replicate 32 0)).toArray 23)).alloc (.cells (bvs (List.replicate 32 0)).toArray 23) = W := ⟨_, rfl⟩
  have z0 : Row W w.heap.size 23 (bvs (List.replicate 32 0)) := by rw [← hW]; exact heap_alloc2_old w _ _
  have z1 : Row W (w.heap.size + 1) 23 (bvs (List.replicate 32 0)) := by rw [← hW]; exact heap_alloc2_new w _ _
  have kW : Keeps (fun _ => False) w W := by rw [← hW]; exact ((Keeps.refl _ _).alloc _).alloc _
  change Code.wp _ _ _ _ ((w.alloc (.cells (bvs (List.replicate 32 0)).toArray 23)).alloc (.cells (bvs (List.replicate 32 0)).toArray 23))
  rw [hW]
  clear hW HRG
  go_loopw [11] (fun i wr => ∃ j : Nat, j ≤ 8 ∧ i = .int .i64 j ∧ Hid (Row wr w.heap.size 23 (bvs (List.replicate 32 0))) ∧ Hid (Row wr (w.heap.size + 1) 23 (bvs (front (Sh.outs st) 32 (4 * j)))) ∧ Keeps (fun _ => False) w wr) (fun i _ => 8 - (intOf i).toNat)
  case atStart => exact ⟨0, by omega, rfl, Lib.hid z0, Lib.hid (by rw [Nat.mul_zero, front_zero]; exact z1), kW⟩
  case round =>
    clear z0 z1 kW
    obtain ⟨j, hj, rfl, H0, H1, hkp⟩ := hrel
    by_cases hlt : j < 8
    · obtain ⟨x, hx⟩ := isAt_list st j hlt
      have hin := HJX.out j _ hlt (listAt hx)
      have HIN := Lib.hid hin
      clear hin
      go_wp2_with (refine wpList_index_run (by rfl) 55 (.tmp 10) (.tmp 11) (by rfl) (.agg (wvs st.list).toArray) (.int .i64 (j : Int)) (.int .u32 (wi x)) (by rfl) (by rfl) (HIN.out _) ?_)
      clear HIN
      obtain ⟨wo, rfl⟩ : ∃ wo : World, wo = wr := ⟨_, rfl⟩
      go_loopw [15] (fun i wr => ∃ k : Nat, k ≤ 4 ∧ i = .int .i64 k ∧ Hid (Row wr w.heap.size 23 (bvs (List.replicate 32 0))) ∧ Hid (Row wr (w.heap.size + 1) 23 (bvs (front (Sh.outs st) 32 (4 * j + k)))) ∧ Keeps (fun _ => False) w wr) (fun i _ => 4 - (intOf i).toNat)
      case atStart => exact ⟨0, by omega, rfl, H0, H1, hkp⟩
      case round =>
        clear H0 H1 hkp
        obtain ⟨k, hk, rfl, H0, H1, hkp⟩ := hrel
        by_cases hk4 : k < 4
        · obtain ⟨z, hz⟩ := front_cell H1.out (Sh.outs_length st) (show 4 * j + k < 32 by omega)
          have hf := H1.out.frozen (4 * j + k)
          have b0 := wi_nonneg x
          have l3 : (k : Int) ≤ 3 := by omega
          go_wp2
          go_roundw
          case rel =>
            go_light
            have hc := outs_at st j k x hx.out hk4
            have hb := front_set (Sh.outs st) 32 (4 * j + k) _ (Sh.outs_length st) (by omega) hc
            rw [wi_out x (8 * (3 - k)) (by omega)]
            refine ⟨k + 1, by omega, by go_num, Lib.hid (H0.out.set_other (by simp) _), Lib.hid ?_, hkp.setCell (fun h => absurd h (by simp)) _⟩
            rw [← Nat.add_assoc, ← hb]
            exact H1.out.set _ _
          case measure => simp [intOf]; omega
        · have e4 : 4 * j + k = 4 * (j + 1) := by omega
          rw [e4] at H1
          clear e4
          go_wp2
          go_roundw
          case rel => exact ⟨j + 1, by omega, by go_num, H0, H1, hkp⟩
          case measure => simp [intOf]; omega
    · have ej : 4 * j = 32 := by omega
      rw [ej, front_all _ _ (Sh.outs_length st)] at H1
      clear ej
      have hsz : (Tryd.prog.info? 23).map (·.size) = some (bvs (Sh.outs st)).toArray.size := by rw [List.size_toArray, bvs_length, Sh.outs_length]; exact size_hash'
      have hz : (bvs (List.replicate 32 0)).toArray.size = (bvs (Sh.outs st)).toArray.size := by rw [List.size_toArray, bvs_length, List.size_toArray, bvs_length, Sh.outs_length, List.length_replicate]
      have HSZ := Lib.hid hsz
      have HZ := Lib.hid hz
      have HONE := Lib.hid (bvs_all (Sh.outs st))
      clear hsz hz
      obtain ⟨R, hR⟩ : ∃ R, (bvs (Sh.outs st)).toArray = R := ⟨_, rfl⟩
      rw [hR] at HSZ HZ HONE
      have H2 : Hid (wr.heap[w.heap.size + 1]? = some (.cells R 23 (0, 0))) := by rw [← hR]; exact H1
      have HR := Lib.hid hR
      clear hR H1
      go_wp2_with (first
        | (refine wpList_load_row rfl 23 _ rfl (w.heap.size + 1) rfl 23 R (0, 0) _ H2.out Tryd.underlying23 rfl HSZ.out ?_)
        | (refine wpList_store_row rfl 23 _ _ rfl w.heap.size R rfl rfl 23 (bvs (List.replicate 32 0)).toArray H0.out HSZ.out HZ.out HONE.out ?_))
      refine bodyPost_ret (results_cell_row rfl _ _ w.heap.size 23 R (0, 0) _ rfl (setRow_heap _ _ _ _ _ _ H0.out) Tryd.underlying23 rfl HSZ.out) rfl ?_
      exact ⟨by rw [HR.out], hkp.trans' (Keeps.setRow w.heap.size R) (fun i hi h => by omega)⟩
end Go.Proofs.YtgbajlmcoghofaaDoor
