/-
  A hash is cut (clash.Cut); rows of bytes are held against one another (bytes.Equal, bytes.Compare).
-/
import Derived.Test.YtjblnjeloimbgaaDoorChE
import Derived.Test.YtjblnjeloimbgaaDoorClM
import Derived.Test.YtjblnjeloimbgaaDoorWalkT
import Derived.Lib.SliceRun
import Derived.Lib.Bytealg
import Derived.Lib.BytesEntry
namespace Go.Proofs.YtjblnjeloimbgaaDoor
open Go.RowKit Go.BigFrame
set_option linter.unusedVariables false

/-- An array is cut in front. -/
theorem run_slice_from {P : Program} (W : World) (t e : TypeId) (n : Nat) {inf : TypeInfo} (ht : P.underlying t = some (.array n e)) (hi : P.info? e = some inf) (h1 : inf.size = 1) (a : Addr) (k : IntKind) (h : Nat) (hh : h ≤ n) :
    (Instr.sliceAt t (.pointer (some a)) (some (.int k (h : Int))) none none).run P W = .ok (.slice (some (if n = h then a else a.add h)) (n - h) (n - h)) W := by
  have hh' : ¬ ((n : Int) < (h : Int)) := by omega
  simp [Instr.sliceAt, Instr.sliceBounds, Instr.sliceBound, Instr.sureAddr, asIntOf, run_underlying ht, sizeOf, typeInfo, hi, hh, h1]
theorem run_clear_none {P : Program} (w : World) (t e ty : TypeId) (ht : P.underlying t = some (.slice e)) (a : Option Addr) (c : Nat) : (Builtin.clear_ #[t] ty #[.slice a 0 c]).run P w = .ok (.tuple #[]) w := by
  cases a <;> simp [Builtin.clear_, run_underlying ht]
/-- What is cut of a row: the cells behind place k are noughts. -/
theorem row_cleared {w : World} {b : Nat} {t : TypeId} {h : List UInt8} (k : Nat) (hr : Row w b t (bvs h)) (hk : k ≤ h.length) : Row (w.setCells b k (List.replicate (h.length - k) (.int .u8 0))) b t (bvs (Cl.cut k h)) := by
  have aux : ∀ (vs old pre : List Value) (w : World), old.length = vs.length → Row w b t (pre ++ old) → Row (w.setCells b pre.length vs) b t (pre ++ vs) := by
    intro vs
    induction vs with
    | nil => intro old pre w hl h; rw [List.eq_nil_of_length_eq_zero hl] at h; exact h
    | cons v r ih =>
      intro old pre w hl h
      match old, hl with
      | y :: old, hl =>
        rw [World.setCells]
        have h1 := h.set pre.length v
        have e : (pre ++ y :: old).set pre.length v = (pre ++ [v]) ++ old := by simp
        rw [e] at h1
        have h2 := ih old (pre ++ [v]) _ (by simpa using hl) h1
        rw [List.length_append] at h2
        have e2 : (pre ++ [v]) ++ r = pre ++ (v :: r) := by simp
        rw [e2] at h2
        exact h2
  have e1 : bvs h = bvs (h.take k) ++ bvs (h.drop k) := by rw [bvs_append, List.take_append_drop]
  rw [e1] at hr
  have h3 := aux (List.replicate (h.length - k) (.int .u8 0)) (bvs (h.drop k)) (bvs (h.take k)) w (by rw [bvs_length, List.length_drop, List.length_replicate]) hr
  rw [bvs_length, List.length_take, Nat.min_eq_left hk] at h3
  have e2 : bvs (Cl.cut k h) = bvs (h.take k) ++ List.replicate (h.length - k) (.int .u8 0) := by
    unfold Cl.cut
    rw [← bvs_append]
    congr 1
    unfold bvs
    rw [List.map_replicate]
    rfl
  rw [e2]
  exact h3
theorem keeps_setCells' {S : Nat → Prop} {a : World} (b : Nat) (hb : b < a.heap.size → S b) : ∀ (vs : List Value) (o : Nat) (w : World), Keeps S a w → Keeps S a (w.setCells b o vs)
  | [], _, _, h => h
  | v :: r, o, w, h => by
    rw [World.setCells]
    exact keeps_setCells' b hb r (o + 1) _ (h.setCell (p := ⟨b, o, none⟩) hb v)
theorem cut_run (h : List UInt8) (hh : h.length = 32) (k : Nat) (hk : k ≤ 32) (b : Nat) (W : World) (hr : Row W b 26 (bvs h)) : ∃ W', (Builtin.clear_ #[23] 0 #[.slice (some (if 32 = k then ⟨b, 0, none⟩ else (⟨b, 0, none⟩ : Addr).add k)) (32 - k) (32 - k)]).run Tryd.prog W = .ok (.tuple #[]) W' ∧ Row W' b 26 (bvs (Cl.cut k h)) ∧ Keeps (fun q => q = b) W W' := by
  rcases Nat.lt_or_ge k 32 with hlt | hge
  · rw [if_neg (by omega), add_plain, Nat.zero_add]
    have hcs : ∀ j, j < 32 - k → ∃ u, W.cell? ⟨b, k + j, none⟩ = some u := fun j hj => by
      rw [hr.cell, List.getElem?_eq_getElem (by rw [bvs_length]; omega)]
      exact ⟨_, rfl⟩
    have := Lib.run_clear_slice (P := Tryd.prog) W 23 5 0 (.int .u8 0) Tryd.underlying23 (fun _ => by kernel_rfl) rfl rfl b k (32 - k) (32 - k) (by omega)
      (fun j hj => by obtain ⟨u, hu⟩ := hcs j hj; rw [hu]; rfl) (fun j hj => hr.frozen _)
    refine ⟨_, this, ?_, keeps_setCells' (S := fun q => q = b) b (fun _ => rfl) _ _ _ (Keeps.refl _ _)⟩
    have h2 := row_cleared k hr (by omega)
    rw [hh] at h2
    exact h2
  · obtain rfl : k = 32 := by omega
    refine ⟨W, run_clear_none (P := Tryd.prog) W 23 5 0 Tryd.underlying23 _ _, ?_, Keeps.refl _ _⟩
    rw [Cl.cut_all _ _ (by omega)]
    exact hr
set_option maxRecDepth 100000 in
set_option maxHeartbeats 1000000 in
/-- A hash is cut. -/
theorem cut_any (wide : Int) (h : List UInt8) (hh : h.length = 32) (w : World) :
    Calls Tryd.prog 10 #[.int .i64 wide, .agg (bvs h).toArray] w fun e w' => e = .returned (.agg (bvs (Cl.cut (Cl.wid wide) h)).toArray) ∧ Keeps (fun _ => False) w w' := by
  obtain ⟨Z, hZ, hz, hzs⟩ := zero_hash
  obtain ⟨k, hk⟩ : ∃ k, Cl.wid wide = k := ⟨_, rfl⟩
  have hk32 : k ≤ 32 := by rw [← hk]; exact Cl.wid_le _
  have hm : min (max wide 0) 32 = (k : Int) := by rw [← hk]; exact Cl.wid_int wide
  obtain ⟨u0, hu0, hu1⟩ := info_parts info_u8t
  have hsl : ∀ (W : World), (Instr.sliceAt 26 (.pointer (some ⟨w.heap.size, 0, none⟩)) (some (.int .i64 (k : Int))) none none).run Tryd.prog W = .ok (.slice (some (if 32 = k then ⟨w.heap.size, 0, none⟩ else (⟨w.heap.size, 0, none⟩ : Addr).add k)) (32 - k) (32 - k)) W := fun W =>
    run_slice_from (P := Tryd.prog) W 26 5 32 Tryd.underlying26 hu0 hu1.2.1 ⟨w.heap.size, 0, none⟩ .i64 k hk32
  obtain ⟨s1, z1, o1⟩ := arr_hash h hh
  have hcl : (Cl.cut k h).length = 32 := by rw [Cl.cut_length, hh]
  obtain ⟨s2, z2, o2⟩ := arr_hash _ hcl
  obtain ⟨W1, hW1⟩ : ∃ V, w.alloc (.cells (bvs h).toArray 26) = V := ⟨_, rfl⟩
  obtain ⟨W2, hW2⟩ : ∃ V, W1.alloc (.cells Z 26) = V := ⟨_, rfl⟩
  have k1 : Keeps (fun _ => False) w W1 := by rw [← hW1]; exact (Keeps.refl _ _).alloc _
  have k2 : Keeps (fun _ => False) W1 W2 := by rw [← hW2]; exact (Keeps.refl _ _).alloc _
  have r1 : Row W1 w.heap.size 26 (bvs h) := by rw [← hW1]; exact heap_alloc_new w _
  have r2 : W2.heap[W1.heap.size]? = some (.cells Z 26 (0, 0)) := by rw [← hW2]; exact heap_alloc_new W1 _
  have hs1 : W1.heap.size = w.heap.size + 1 := by rw [← hW1]; simp
  obtain ⟨W3, hc3, r3, k3⟩ := cut_run h hh k hk32 w.heap.size W2 (r1.keeps k2 id)
  obtain ⟨ca, hca⟩ : ∃ a, (if 32 = k then (⟨w.heap.size, 0, none⟩ : Addr) else (⟨w.heap.size, 0, none⟩ : Addr).add k) = a := ⟨_, rfl⟩
  rw [hca] at hc3
  simp only [hca] at hsl
  have r2' := (k3.block _ (Array.getElem?_eq_some_iff.1 r2).1 (by omega)).trans r2
  have k03 := (k1.trans k2).trans' k3 (fun i hi e => by omega)
  obtain ⟨R, hR⟩ : ∃ R, (bvs (Cl.cut k h)).toArray = R := ⟨_, rfl⟩
  rw [hk, hR]
  have r3' : W3.heap[w.heap.size]? = some (.cells R 26 (0, 0)) := by rw [← hR]; exact r3
  rw [hR] at s2 z2 o2
  have S2 := Lib.hid s2
  have Z2 := Lib.hid (hzs.trans z2.symm)
  have O2 := Lib.hid o2
  have R2 := Lib.hid r2'
  have R3 := Lib.hid r3'
  have K3 := Lib.hid k03
  obtain ⟨q, hq⟩ : ∃ q, W1.heap.size = q := ⟨_, rfl⟩
  have hqw : w.heap.size < q := by omega
  rw [hq] at R2
  clear s1 z1 o1 s2 z2 o2 r1 r2 r2' r3 r3' k1 k2 k3 k03 hZ hzs hk hcl hR hs1 hca hk32
  go_enter Tryd.func10, Tryd.ntmps10
  go_wp2_with (first
    | (refine wpList_load_row rfl 26 _ rfl w.heap.size rfl 26 R (0, 0) _ R3.out Tryd.underlying26 rfl S2.out ?_)
    | (refine wpList_store_row rfl 26 _ _ rfl q R rfl rfl 26 Z R2.out S2.out Z2.out O2.out ?_))
  refine bodyPost_ret (results_cell_row rfl _ _ q 26 R (0, 0) _ rfl (setRow_heap _ _ _ _ _ _ R2.out) Tryd.underlying26 rfl S2.out) rfl ?_
  exact ⟨rfl, K3.out.trans' (Keeps.setRow q R) (fun i hi h => by omega)⟩
/-- Two rows of bytes are held against one another. -/
theorem strOf_eq (xs ys : List UInt8) : ((strOf xs).toList == (strOf ys).toList) = (xs == ys) := by
  rw [Go.ByteArray.toList_eq, Go.ByteArray.toList_eq]
  rfl
set_option maxRecDepth 100000 in
theorem equal_any (A B : Option Addr) (c d : Nat) (xs ys : List UInt8) (w : World) (h1 : Src w A (bvs xs)) (h2 : Src w B (bvs ys)) :
    Calls Tryd.prog 17 #[.slice A xs.length c, .slice B ys.length d] w fun e w' => e = .returned (.bool (xs == ys)) ∧ w' = w := by
  have e1 := run_string_src (P := Tryd.prog) w 23 9 5 Tryd.underlying23 Tryd.underlying5 Tryd.underlying9 A xs c h1
  have e2 := run_string_src (P := Tryd.prog) w 23 9 5 Tryd.underlying23 Tryd.underlying5 Tryd.underlying9 B ys d h2
  have hb := strOf_eq xs ys
  obtain ⟨x, hx⟩ : ∃ x, (xs == ys) = x := ⟨_, rfl⟩
  obtain ⟨s1, hs1⟩ : ∃ s, strOf xs = s := ⟨_, rfl⟩
  obtain ⟨s2, hs2⟩ : ∃ s, strOf ys = s := ⟨_, rfl⟩
  obtain ⟨n, hn⟩ : ∃ n, xs.length = n := ⟨_, rfl⟩
  obtain ⟨m, hm⟩ : ∃ n, ys.length = n := ⟨_, rfl⟩
  rw [hs1, hs2, hx] at hb
  rw [hs1, hn] at e1
  rw [hs2, hm] at e2
  rw [hx, hn, hm]
  clear h1 h2 hs1 hs2 hx hn hm
  go_enter Tryd.func17, Tryd.ntmps17
  go_wp2
  go_ret
  exact ⟨rfl, rfl⟩
/-- A row of bytes as an entry of the library's takes it. -/
theorem run_bytesOf {P : Program} (w : World) (A : Option Addr) (c : Nat) (xs : List UInt8) (h : Src w A (bvs xs)) : (Extern.Bytes.bytesOf (.slice A xs.length c)).run P w = .ok (strOf xs) w := by
  cases A with
  | none =>
    have hn : xs = [] := by
      cases xs with
      | nil => rfl
      | cons u l => obtain ⟨a, h, _⟩ := h 0 (bv u) rfl; cases h
    subst hn
    rfl
  | some a =>
    have h2 := Lib.run_loadBytesX (P := P) (w := w) (xs.map fun c => (c.toNat : Int)) a .empty (fun j x hj => by
      refine h.at_ (j := j) ?_
      rw [List.getElem?_map] at hj
      rw [bvs_get]
      cases hx : xs[j]? with
      | none => rw [hx] at hj; cases hj
      | some c => rw [hx] at hj; cases hj; rfl)
    rw [List.length_map] at h2
    show (Extern.Bytes.loadBytes a xs.length .empty).run P w = _
    rw [h2]
    have e : Lib.bytesOf (xs.map fun c => (c.toNat : Int)) = xs := by
      unfold Lib.bytesOf
      rw [List.map_map]
      conv => rhs; rw [← List.map_id xs]
      apply List.map_congr_left
      intro c _
      simp
    rw [e]
    simp [strOf, ByteArray.empty, ByteArray.emptyWithCapacity]
    rfl
theorem compareBytes_zero : ∀ xs ys : List UInt8, Lib.compareBytes xs ys = 0 ↔ xs = ys
  | [], [] => by simp [Lib.compareBytes]
  | [], _ :: _ => by simp [Lib.compareBytes]
  | _ :: _, [] => by simp [Lib.compareBytes]
  | x :: xs, y :: ys => by
    unfold Lib.compareBytes
    have ih := compareBytes_zero xs ys
    by_cases h1 : x < y
    · rw [if_pos h1]
      constructor
      · intro h; cases h
      · intro h; injection h with h _; subst h; exact absurd h1 (UInt8.lt_irrefl x)
    · rw [if_neg h1]
      by_cases h2 : y < x
      · rw [if_pos h2]
        constructor
        · intro h; cases h
        · intro h; injection h with h _; subst h; exact absurd h2 (UInt8.lt_irrefl x)
      · rw [if_neg h2, ih]
        have : x = y := UInt8.le_antisymm (UInt8.not_lt.1 h2) (UInt8.not_lt.1 h1)
        subst this
        simp
set_option maxRecDepth 100000 in
theorem compare_any (A B : Option Addr) (c d : Nat) (xs ys : List UInt8) (w : World) (h1 : Src w A (bvs xs)) (h2 : Src w B (bvs ys)) :
    Calls Tryd.prog 36 #[.slice A xs.length c, .slice B ys.length d] w fun e w' => (∃ x : Int, e = .returned (.int .i64 x) ∧ (x = 0 ↔ xs = ys)) ∧ w' = w := by
  have e1 := run_bytesOf (P := Tryd.prog) w A c xs h1
  have e2 := run_bytesOf (P := Tryd.prog) w B d ys h2
  have hz := compareBytes_zero xs ys
  have hrun : (Extern.BytealgCompare.compare #[.slice A xs.length c, .slice B ys.length d]).run Tryd.prog w = .ok (.int .i64 (Lib.compareBytes xs ys)) w := by
    change Sem.run Tryd.prog (do pure (goInt (Extern.BytealgCompare.cmp (← Extern.Bytes.bytesOf (.slice A xs.length c)) (← Extern.Bytes.bytesOf (.slice B ys.length d))))) w = _
    simp only [Sem.run_bind, Sem.run_pure, Result.andThen, e1, e2]
    rw [Lib.cmp_eq]
    rfl
  obtain ⟨x, hx⟩ : ∃ x, Lib.compareBytes xs ys = x := ⟨_, rfl⟩
  rw [hx] at hz hrun
  obtain ⟨n, hn⟩ : ∃ n, xs.length = n := ⟨_, rfl⟩
  obtain ⟨m, hm⟩ : ∃ n, ys.length = n := ⟨_, rfl⟩
  rw [hn, hm] at hrun ⊢
  clear e1 e2 h1 h2 hx hn hm
  go_enter Tryd.func36, Tryd.ntmps36
  go_wp2
  rw [run_callFunc_extern Tryd.func44 (by kernel_rfl) (by kernel_rfl) (by kernel_rfl) (e := Extern.BytealgCompare.compare) (by kernel_rfl), hrun]
  simp only [Result.andThen]
  rw [Oper.upon_value]
  go_wp2
  go_ret
  exact ⟨⟨x, rfl, hz⟩, rfl⟩
end Go.Proofs.YtjblnjeloimbgaaDoor
